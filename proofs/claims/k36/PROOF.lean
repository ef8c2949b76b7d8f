import PyProof.Rows.All
import Wide.All
import OpenK.AllK
import Wide.FinOn
import PyProof.EqAt
import PyProof.EqKinds
import PyProof.TupleCall
import Lean
import PySem.Challenge.RW_gapwords_k36_whole_no_paper_against_answ
set_option Elab.async false
set_option linter.all false
set_option maxRecDepth 100000
namespace Tk
open PySem
theorem YcT{M:Model}{Γ:Ctx}{p:Pos}{t:Sem Fin}{fs:List Frame}{s:Shared}{e:End}{s':Shared}(h:Runs M Γ p t fs s e s'):s.toks<=s'.toks:=by
 induction h <;> first|exact Nat.le_refl _|assumption|(rename_i ih;exact Nat.le_trans (Nat.le_succ _) ih)|skip
 all_goals first|(rename_i ih1 ih2;exact Nat.le_trans ih1 ih2)|skip
theorem Yif{α:Type}{M:Model}{Γ:Ctx}{n:Nat}:∀(t:Sem α){Q:α->Pos->Shared->Prop}{E:Value->Pos->Shared->Prop}{p:Pos}{s:Shared},n<=s.toks->Sem.wp M Γ t Q E p s->
 Sem.wp M Γ t (fun a p' s'=>Q a p' s'/\n<=s'.toks) (fun e p' s'=>E e p' s'/\n<=s'.toks) p s:=by
 intro t
 induction t with
 |pure a=>intro Q E p s hn h;rw[Sem.wp]at h ⊢;exact⟨h,hn⟩
 |raise e=>intro Q E p s hn h;rw[Sem.wp]at h ⊢;exact⟨h,hn⟩
 |unsupported _=>intro Q E p s hn h;rw[Sem.wp]at h;exact h.elim
 |finish _=>intro Q E p s hn h;rw[Sem.wp]at h;exact h.elim
 |rule _ k ih=>intro Q E p s hn h;rw[Sem.wp]at h ⊢;exact ih _ hn h
 | «at» _ k ih=>intro Q E p s hn h;rw[Sem.wp]at h ⊢;exact ih _ hn h
 |load _ _ k ih=>intro Q E p s hn h;rw[Sem.wp]at h ⊢;obtain⟨o,e,h⟩:=h;exact⟨o,e,ih _ hn h⟩
 |update _ _ _ k ih=>intro Q E p s hn h;rw[Sem.wp]at h ⊢;exact⟨h.1,ih _ hn h.2⟩
 |alloc _ k ih=>intro Q E p s hn h;rw[Sem.wp]at h ⊢;exact ih _ hn h
 |loadIfAlive _ k ih=>intro Q E p s hn h;rw[Sem.wp]at h ⊢;exact ih _ hn h
 |point _ k ih=>intro Q E p s hn h;rw[Sem.wp]at h ⊢;exact ih _ hn h
 |register _ _ _=>intro Q E p s hn h;rw[Sem.wp]at h;exact h.elim
 |fresh k ih=>intro Q E p s hn h;rw[Sem.wp]at h ⊢;exact ih _ (Nat.le_trans hn (Nat.le_succ _)) h
 |ask k ih=>intro Q E p s hn h;rw[Sem.wp]at h ⊢;exact ih _ hn h
 |choose _ _ k ih=>intro Q E p s hn h;rw[Sem.wp]at h ⊢;exact⟨h.1,ih _ hn h.2⟩
 |os _ _ k ih=>intro Q E p s hn h;rw[Sem.wp]at h ⊢;exact ih _ hn h
 |call _ _ _ _ k ih=>
  intro Q E p s hn h;rw[Sem.wp]at h ⊢
  obtain⟨r,s',h1,h2⟩:=h
  exact⟨r,s',h1,ih _ (Nat.le_trans hn (YcT h1)) h2⟩
 |handled _ k ih=>intro Q E p s hn h;rw[Sem.wp]at h ⊢;exact ih _ hn h
 |newGen _ k ih=>intro Q E p s hn h;rw[Sem.wp]at h ⊢;exact ih _ hn h
 |genState _ k ih=>intro Q E p s hn h;rw[Sem.wp]at h ⊢;obtain⟨o,e,h⟩:=h;exact⟨o,e,ih _ hn h⟩
 |resume g r _ k ih=>
  intro Q E p s hn h;rw[Sem.wp]at h ⊢
  obtain⟨res,s',h1,h2⟩:=h
  refine⟨res,s',h1,ih _ (Nat.le_trans hn ?_) h2⟩
  unfold Wakes at h1
  split at h1
  ·exact h1.elim
  ·split at h1
   ·obtain⟨e,s1,r1,_,_,rfl⟩:=h1;have z:(s.setGen g GenState.running).toks<=s1.toks:=YcT r1;exact z
   ·rw[h1.2];exact Nat.le_refl _
   ·rw[h1.2];exact Nat.le_refl _
  ·obtain⟨e,s1,r1,_,_,rfl⟩:=h1;have z:(s.setGen g GenState.running).toks<=s1.toks:=YcT r1;exact z
  ·rw[h1.2];exact Nat.le_refl _
  ·rw[h1.2];exact Nat.le_refl _
 |yield _ _ _ _ _=>intro Q E p s hn h;rw[Sem.wp]at h;exact h.elim
 |stack k ih=>intro Q E p s hn h;rw[Sem.wp]at h ⊢;exact ih _ hn h
 |fork _ _ _=>intro Q E p s hn h;rw[Sem.wp]at h;exact h.elim
 |thread k ih=>intro Q E p s hn h;rw[Sem.wp]at h ⊢;exact ih _ hn h
 |await=>intro Q E p s hn h;rw[Sem.wp]at h;exact h.elim
theorem wpAny_le{α:Type}{M:Model}{A:Around}{t:Sem α}{Q:α->Shared->Prop}{E:Value->Shared->Prop}{s:Shared}
 (h:wpAny M A t (fun a s'=>s.toks<=s'.toks->Q a s') (fun e s'=>s.toks<=s'.toks->E e s') s):wpAny M A t Q E s:=fun Γ p hΓ=>
 Sem.wp_mono M Γ t (fun _ _ _ z=>z.1 z.2) (fun _ _ _ z=>z.1 z.2) p s (Yif t (Nat.le_refl _) (h Γ p hΓ))
def Bumps{α:Type}(t:Sem α):Prop:=∀{M:Model}{Γ:Ctx}{Q:α->Pos->Shared->Prop}{E:Value->Pos->Shared->Prop}{p:Pos}{s:Shared},Sem.wp M Γ t Q E p s->Sem.wp M Γ t (fun a p' s'=>Q a p' s'/\s.toks<s'.toks) E p s
theorem Bumps.left{α β:Type}{m:Sem α}{k:α->Sem β}(h:Bumps m):Bumps (m >>= k):=fun {M Γ Q E p s} w=>by
 rw[Sem.wp_bind']at w ⊢
 refine Sem.wp_mono M Γ m (fun a p' s' z=>?_) (fun _ _ _ z=>z) p s (h w)
 exact Sem.wp_mono M Γ (k a) (fun _ _ _ q=>⟨q.1,q.2⟩) (fun _ _ _ q=>q.1) p' s' (Yif (n:=s.toks+1) (k a) z.2 z.1)
theorem Bumps.right{α β:Type}{m:Sem α}{k:α->Sem β}(h:∀a,Bumps (k a)):Bumps (m >>= k):=fun {M Γ Q E p s} w=>by
 rw[Sem.wp_bind']at w ⊢
 refine Sem.wp_mono M Γ m (fun a p' s' z=>?_) (fun _ _ _ z=>z.1) p s (Yif (n:=s.toks) m (Nat.le_refl _) w)
 exact Sem.wp_mono M Γ (k a) (fun _ _ _ q=>⟨q.1,Nat.lt_of_le_of_lt z.2 q.2⟩) (fun _ _ _ q=>q) p' s' (h a z.1)
theorem YeJ(x:Str):Bumps (mkText x):=fun {M Γ Q E p s} w=>by
 unfold mkText at w ⊢
 rw[Sem.wp_bind']at w ⊢
 unfold fresh at w ⊢
 rw[Sem.wp_fresh]at w ⊢
 exact⟨w,Nat.lt_succ_self _⟩
theorem YdF{env:Env}{x:Str}{v:Value}(hl:env.kindOf x=some .local)(hp:(env.scope.kind == .class || (env.scope.kind == .module && env.locals != env.globals))=false):Bumps (storeName env x v):=by
 rw[storeName_local hl hp]
 unfold nsSet
 exact Bumps.right fun _=>Bumps.left (YeJ x)
theorem Ygu{scope:Scope}{globals:Addr}{x:Str}{v:Value}{binds:List (Str×Value)}{qual:Str}{func:Option Addr}{code:Value}{builtins:Addr}(hk:scope.kind=.function)(hl:scope.names.lookup x=some .local):
 Bumps (newFunctionEnv scope globals [] ((x,v)::binds) qual func code none builtins):=by
 simp only[newFunctionEnv,Option.isSome_none,Bool.false_eq_true,if_false]
 refine Bumps.right fun a=>Bumps.right fun cells=>Bumps.left ?_
 rw[List.forIn_cons]
 refine Bumps.left (Bumps.left ?_)
 refine YdF ?_ ?_
 ·exact hl
 ·show (scope.kind == .class || (scope.kind == .module && _))=false
  rw[hk];rfl
theorem wpAny_env{M:Model}{A:Around}{E:Value->Shared->Prop}{s:Shared}{scope:Scope}{globals:Addr}{binds:List (Str×Value)}{qual:Str}{func:Option Addr}{code:Value}{builtins:Addr}{Q:Env->Shared->Prop}(hk:scope.kind=.function)
 (hpos:0<s.toks\/∃x v r,binds=(x,v)::r/\scope.names.lookup x=some .local)
 (h:wpAny M A (newFunctionEnv scope globals [] binds qual func code none builtins) (fun e s'=>s.toks<=s'.toks->0<s'.toks->Q e s') (fun e s'=>s.toks<=s'.toks->E e s') s):
 wpAny M A (newFunctionEnv scope globals [] binds qual func code none builtins) Q E s:=by
 rcases hpos with hp|⟨x,v,r,rfl,hl⟩
 ·exact wpAny_le (wpAny_mono h (fun _ _ z le=>z le (Nat.lt_of_lt_of_le hp le)) fun _ _ z=>z)
 ·refine wpAny_le fun Γ p hΓ=>?_
  exact Sem.wp_mono M Γ _ (fun _ _ _ z le=>z.1 le (Nat.lt_of_le_of_lt (Nat.zero_le _) z.2)) (fun _ _ _ z=>z) p s (Ygu hk hl (h Γ p hΓ))
end Tk
namespace Kt
open PySem
section
variable{prog:Program}{w:World}{K:Type} [DecidableEq K]{knd:KeyKind prog w K}{A:Around}{E:Value->Shared->Prop}{s:Shared}{G:Value->Prop}{d:Addr}{kvs:List (K×Value)}{k:K}{key v:Value}
def KeyG(G:Value->Prop)(h:Heap)(a:Addr):Prop:=∀o es ep,h.get? a=some o->o.data=.dict es ep->∀e∈es,G e.key
theorem KeyG.of{G:Value->Prop}{h:Heap}{a:Addr}{o:Obj}{es:Array DictEntry}{ep:Nat}(e:h.get? a=some o)(q:o.data=.dict es ep)(g:∀e∈es,G e.key):KeyG G h a:=fun o' es' ep' e' q'=>by
 rw[e]at e'
 cases e'
 rw[q]at q'
 cases q'
 exact g
theorem YcJ{Q:Unit->Shared->Prop}(hkey:knd.is k key=true)(hm:s.heap.DictOf knd d kvs)(hG:KeyG G s.heap d)(hg:G key)
 (hQ:∀h',h'.DictOf knd d (stored kvs k v)->KeyG G h' d->Heap.SameBut d s.heap h'->Q () { s with heap:=h',toks:=s.toks+1 }) (hsz:kvs.length<=sizeLine):
 wpAny (model prog w) A (dictSet d key v) Q E s:=by
 obtain⟨o,es,ep,ho,hc,hd,hk,hp,hn⟩:=hm
 have hes:es.size<=sizeLine:=by have e1:=hp.length;rw[Array.length_toList]at e1;omega
 have hix:(es.findIdx? fun e=>knd.is k e.key)=kvs.findIdx? fun kv=>decide (kv.1=k):=by rw[<-hp.findIdx k];cases es;simp
 have hg0:=hG _ _ _ ho hd
 unfold dictSet
 try with_reducible refine wpAny_holding ?_
 refine wpAny_bind (knd.pyHash hkey ?_)
 unfold dictSetHashed
 try with_reducible refine wpAny_holding ?_
 refine wpAny_bind (wpAny_dictFind_of (s:={ s with toks:=s.toks+1 }) hkey ho hd hk ?_)
 cases hi:es.findIdx? fun e=>knd.is k e.key with
 |some i=>
  have hany:=any_of_findIdx_some (hix ▸ hi)
  have hl:(es.toList.findIdx? fun e=>knd.is k e.key)=some i:=by rw[<-hi];cases es;simp
  have hpm:=hp.modify hn hl v
  have hf:=Obj.isFreed_of_dict (Obj.data_mapDict hd (·.modify i fun e=>{ e with val:=v }))
  have hs:=Heap.get?_update_self _ ho hf
  refine wpAny_bind (wpAny_rule (wpAny_bind (wpAny_updateDict (s:={ s with toks:=s.toks+1 }) ho hd (wpAny_point (hQ _ ⟨_,_,ep,hs,hc.mapDict _,Obj.data_mapDict hd _,hk.modify _ _,?_,?_⟩ (KeyG.of hs (Obj.data_mapDict hd _) fun e he=>?_) (Heap.SameBut.update ..))))))
  ·rw[stored,if_pos hany];cases es;simpa using hpm
  ·rw[stored,if_pos hany,keys_map_store];exact hn
  ·obtain⟨j,hj,rfl⟩:=Array.mem_iff_getElem.mp he
   rw[Array.getElem_modify]
   have hj':j<es.size:=by simpa using hj
   split
   ·exact hg0 es[j] (Array.getElem_mem hj')
   ·exact hg0 es[j] (Array.getElem_mem hj')
 |none=>
  have hnot:k∉kvs.map (·.1):=not_mem_of_findIdx_none (hix ▸ hi)
  have hany:¬(kvs.any fun kv=>decide (kv.1=k))=true:=fun z=>by
   obtain⟨kv,h1,h2⟩:=List.any_eq_true.mp z
   exact hnot (List.mem_map.mpr ⟨kv,h1,of_decide_eq_true h2⟩)
  have hpa:=hp.append hkey (knd.hash k) v
  have hs:=Heap.get?_update_self (Obj.mapDictKeys (·.push ⟨knd.hash k,key,v⟩)) ho (Obj.isFreed_of_dict (Obj.data_mapDictKeys hd _))
  refine wpAny_bind (wpAny_rule (wpAny_updateDictKeys (hz:=hes) (s:={ s with toks:=s.toks+1 }) ho hd (hQ _ ⟨_,_,ep+1,hs,hc.mapDictKeys _,Obj.data_mapDictKeys hd _,hk.push hkey _,?_,?_⟩ (KeyG.of hs (Obj.data_mapDictKeys hd _) fun e he=>?_) (Heap.SameBut.update ..))))
  ·rw[stored,if_neg hany];cases es;simpa using hpa
  ·rw[stored,if_neg hany,List.map_append,List.nodup_append]
   refine⟨hn,by simp,fun a ha b hb z=>hnot ?_⟩
   have e:b=k:=by simpa using hb
   rw[<-e,<-z]
   exact ha
  ·rcases Array.mem_push.mp he with h|h
   ·exact hg0 e h
   ·rw[h];exact hg
theorem setItem_keys{Q:Unit->Shared->Prop}(hkey:knd.is k key=true)(hm:s.heap.DictOf knd d kvs)(hG:KeyG G s.heap d)(hg:G key)
 (hQ:∀h',h'.DictOf knd d (stored kvs k v)->KeyG G h' d->Heap.SameBut d s.heap h'->Q () { s with heap:=h',toks:=s.toks+1 }) (hsz:kvs.length<=sizeLine):wpAny (model prog w) A (setItem (.ref d) key v) Q E s:=by
 unfold setItem
 try with_reducible refine wpAny_holding ?_
 refine wpAny_bind (wpAny_sequenceKey hm.typeIs (by decide) (wpAny_bind (wpAny_callSpecial?_slot (name:=Str.ofString "__setitem__") hm.typeIs slot_dict_setitem (wpAny_call_entry slot_dict_setitem hm.typeIs entry_dict_setitem ?_ (args_dict_setitem _ _ _)))))
 show wpAny _ _ (Builtin.Dict.notOrdered "__setitem__" ⟨[.ref d,key,v],[]⟩ >>= _) _ _ s
 refine wpAny_bind (wpAny_notOrdered_dict hm.typeIs ?_)
 show wpAny _ _ (dictSet d key v >>= _) _ _ s
 exact wpAny_bind (YcJ hkey hm hG hg (fun h' m' g' b'=>wpAny_pure ⟨.none,rfl,wpAny_pure (hQ h' m' g' b')⟩) hsz)
theorem KeyG.keep{G:Value->Prop}{h h':Heap}{a:Addr}{kvs:List (K×Value)}{ep:Nat}(g:KeyG G h a)(m:h.DictAt knd a kvs ep)(e:∀o,h.get? a=some o->h'.get? a=some o):KeyG G h' a:=by
 obtain⟨o,es,ho,_,hd,_⟩:=m
 exact KeyG.of (e _ ho) hd (g _ _ _ ho hd)
theorem nextKey{it:Addr}{i ep:Nat}{x:Value}{Q:Option Value->Shared->Prop}(hit:s.heap.IsKeyIter it d i kvs.length ep)(hm:s.heap.DictAt knd d kvs ep)(hG:KeyG G s.heap d)(hx:kvs[i]?=some (k,x))
 (hQ:∀u h',knd.is k u=true->G u->h'.IsKeyIter it d (i+1) kvs.length ep->Heap.SameBut it s.heap h'->Q (some u) { s with heap:=h' }):wpAny (model prog w) A (pyNext (.ref it)) Q E s:=by
 obtain⟨o,ho,hc,hd⟩:=id hit
 obtain⟨od,es,hod,hcd,hdd,hk,hp,hn⟩:=id hm
 have hsz:es.size=kvs.length:=by rw[<-hp.length,Array.length_toList]
 have hlt:i<es.size:=by rw[hsz];exact (List.getElem?_eq_some_iff.mp hx).1
 have hi:=(hp.get? (e:=es[i]) (by simp[hlt]) hx).1
 have hg:=hG _ _ _ hod hdd es[i] (Array.getElem_mem hlt)
 have hno:Builtin.Dict_items.ownsTuple "dict_keyiterator"=false:=by decide
 unfold pyNext
 refine wpAny_bind (wpAny_attempt (wpAny_callSpecial?_slot (name:=Str.ofString "__next__") hit.typeIs F.slot_dict_keyiterator_next (wpAny_call_entry F.slot_dict_keyiterator_next hit.typeIs F.entry_dict_keyiterator_next (wpAny_bind (wpAny_pure (wpAny_bind (wpAny_bind ?_)))) (F.args_dict_keyiterator_next_1 _))))
 first|refine wpAny_bind (wpAny_typeNameOfWhole_keyiter hit.typeIs (wpAny_pure (wpAny_bind (wpAny_fieldsOf ho hd ?_))))|refine wpAny_bind (wpAny_typeNameOf_keyiter hit.typeIs (wpAny_pure (wpAny_bind (wpAny_fieldsOf ho hd ?_))))
 simp only[hno,Bool.false_eq_true,if_false]
 show wpAny _ _ (if (Value.ref d == Value.none)=true then _ else _) _ _ s
 rw[if_neg (by exact Bool.false_ne_true)]
 refine wpAny_bind (wpAny_pure (wpAny_bind (wpAny_dictEntries hod hdd ?_)))
 rw[if_neg (by rw[hsz];simp)]
 refine wpAny_bind (wpAny_pure (wpAny_bind (wpAny_dictEpoch hod hdd ?_)))
 rw[if_neg (by simp)]
 refine wpAny_pure ?_
 simp only[show ¬((i:Int)<0) by omega,if_false,Int.toNat_natCast,Array.getElem?_eq_getElem hlt]
 refine wpAny_bind ?_
 first|refine wpAny_bind (wpAny_typeNameOfWhole_keyiter hit.typeIs (wpAny_pure (wpAny_bind (wpAny_isOneOf_keyiter hit.typeIs ?_))))|refine wpAny_bind (wpAny_typeNameOf_keyiter hit.typeIs (wpAny_pure (wpAny_bind (wpAny_isOneOf_keyiter hit.typeIs ?_))))
 show wpAny _ _ (setField (.ref it) 1 (rawInt ((i:Int)+1)) >>= _) _ _ s
 refine wpAny_bind (wpAny_setField ho hd (by simp) ?_)
 generalize hh:s.heap.update it (Obj.mapFields (·.setIfInBounds 1 (rawInt ((i:Int)+1))))=h'
 have hit':h'.IsKeyIter it d (i+1) kvs.length ep:=by
  rw[<-hh]
  exact⟨_,Heap.get?_update_self _ ho (Obj.isFreed_of_fields (Obj.data_mapFields hd _)),(Obj.cls_mapFields ..).trans hc,by rw[Obj.data_mapFields hd];simp[rawInt]⟩
 have hsb:Heap.SameBut it s.heap h':=by rw[<-hh];exact Heap.SameBut.update ..
 refine wpAny_bind (wpAny_holding (wpAny_bind (wpAny_isOneOf_keyiter (s:={ s with heap:=h' }) hit'.typeIs ?_)))
 show wpAny _ _ (pure es[i].key) _ _ _
 exact wpAny_pure (wpAny_pure ⟨_,rfl,wpAny_pure (hQ _ _ hi hg hit' hsb)⟩)
theorem walkKeys(hh:A.handled=none)(I:Addr)(hne:d≠I)(ep:Nat):
 Walks prog w A I [I,d] [I] kvs.length (fun i u=>∃k x,kvs[i]?=some (k,x)/\knd.is k u=true/\G u) (fun i h=>h.IsKeyIter I d i kvs.length ep/\h.DictAt knd d kvs ep/\KeyG G h d) where
 sub:=fun b hb=>by simp at hb;simp[hb]
 frame:=fun _ _ _ st hk=>⟨st.1.at fun o e=>hk I (by simp) o e,st.2.1.at' fun o e=>hk d (by simp) o e,st.2.2.keep st.2.1 fun o e=>hk d (by simp) o e⟩
 item:=fun i s Q E hi st hQ=>by
  obtain⟨⟨k,x⟩,hx⟩:∃p,kvs[i]?=some p:=⟨kvs[i],by simp[hi]⟩
  refine nextKey st.1 st.2.1 st.2.2 hx fun u h' hu hg hit' hs'=>?_
  exact hQ u h' s.toks ⟨k,x,hx,hu,hg⟩ ⟨hit',st.2.1.extBut hs'.extBut hne,st.2.2.keep st.2.1 fun o e=>hs'.extBut d o hne e⟩ fun b o hb e=>hs'.extBut b o (fun h=>hb (by simp[h])) e
 done:=fun s Q E st hQ=>wpAny_pyNext_dict_end hh st.1 st.2.1 (by simp) fun h' he'=>hQ h' s.toks fun b o hb e=>he' b o (fun h=>hb (by simp[h])) e
 self:=fun _ _ _ _ st hQ=>wpAny_pyIter_keyiter st.1 hQ
theorem srcKeys{ep:Nat}(lo:(d == sysModules)=false):PySem.W.KdlSrc prog w "dict" d d kvs.length (fun i u=>∃k x,kvs[i]?=some (k,x)/\knd.is k u=true/\G u) (fun h=>h.DictAt knd d kvs ep/\KeyG G h d) where
 type:=fun _ hm=>hm.1.dictOf.typeIs
 there:=fun _ hm=>⟨hm.1.lt_size,hm.1.lt_size⟩
 keep:=fun _ _ hm hk=>⟨hm.1.at' fun o e=>hk d (.inl rfl) o e,hm.2.keep hm.1 fun o e=>hk d (.inl rfl) o e⟩
 notList:=by decide
 notTuple:=by decide
 hint:=fun _ _ _ _ hm hq=>PySem.W.kdl_hint_dict hm.1.dictOf.typeIs hq
 iter:=fun _ _ hh hm=>⟨_,_,(fun _ _ hq=>wpAny_pyIter_dict lo hm.1 hq),walkKeys hh _ (Nat.ne_of_lt hm.1.lt_size) ep,⟨⟨_,Heap.get?_push_size _ rfl,rfl,rfl⟩,hm.1.push _,hm.2.keep hm.1 fun o e=>Heap.get?_push_of_some _ e⟩⟩
end
end Kt
set_option Elab.async false
set_option linter.all false
set_option maxRecDepth 100000
namespace L2
open PySem PySem.Spec PyProof.Rows
abbrev Key:=Sum Int Str
def keyIs:Key->Value->Bool
 | .inl k,v=>Value.isInt k v
 | .inr x,v=>Value.isStrOf x v
def keyH(w:World):Key->Int
 | .inl k=>hashInt k
 | .inr x=>hashStr w x
theorem Yn:∀{k:Key}{v:Value},keyIs k v=true->(∃i t,k=Sum.inl i/\v=Value.int i t)\/(∃x t,k=Sum.inr x/\v=Value.str x t)
 | .inl i,v,h=>by
  obtain⟨t,e⟩:=Value.isInt_shape (k:=i) (v:=v) h
  exact .inl ⟨i,t,rfl,e⟩
 | .inr x,v,h=>by
  obtain⟨t,e⟩:=Value.isStrOf_shape (x:=x) (v:=v) h
  exact .inr ⟨x,t,rfl,e⟩
theorem YfB(i:Int)(t:Tok):keyIs (.inl i) (.int i t)=true:=by simp[keyIs,Value.isInt]
theorem Ygy(x:Str)(t:Tok):keyIs (.inr x) (.str x t)=true:=by simp[keyIs,Value.isStrOf]
theorem Yj6(a b:Int):decide ((Sum.inl a:Key)=Sum.inl b)=(a == b):=by
 by_cases e:a=b
 ·subst e;simp
 ·have h:¬(Sum.inl a:Key)=Sum.inl b:=fun q=>e (Sum.inl.inj q)
  rw[decide_eq_false h]
  exact (beq_eq_false_iff_ne.mpr e).symm
theorem YjN(a b:Str):decide ((Sum.inr a:Key)=Sum.inr b)=decide (a=b):=by
 by_cases e:a=b
 ·subst e;simp
 ·have h:¬(Sum.inr a:Key)=Sum.inr b:=fun q=>e (Sum.inr.inj q)
  rw[decide_eq_false h,decide_eq_false e]
theorem YjU(a:Int)(b:Str):decide ((Sum.inl a:Key)=Sum.inr b)=false:=decide_eq_false (fun q=>nomatch q)
theorem Ykl(a:Str)(b:Int):decide ((Sum.inr a:Key)=Sum.inl b)=false:=decide_eq_false (fun q=>nomatch q)
def mixKind(prog:Program)(w:World):PySem.KeyKind prog w Key where
 is:=keyIs
 hash:=keyH w
 inj:=fun v a b ha hb=>by
  rcases Yn ha with⟨i,t,rfl,rfl⟩|⟨x,t,rfl,rfl⟩
  ·rcases Yn hb with⟨j,u,rfl,e⟩|⟨y,u,rfl,e⟩
   ·injection e with e1 _;rw[e1]
   ·exact nomatch e
  ·rcases Yn hb with⟨j,u,rfl,e⟩|⟨y,u,rfl,e⟩
   ·exact nomatch e
   ·injection e with e1 _;rw[e1]
 byValue:=fun k v h=>by
  rcases Yn h with⟨i,t,rfl,rfl⟩|⟨x,t,rfl,rfl⟩ <;> rfl
 pyHash:=fun hv h=>by
  rcases Yn hv with⟨i,t,rfl,rfl⟩|⟨x,t,rfl,rfl⟩
  ·exact wpAny_pyHash_int h
  ·exact wpAny_pyHash_str h
 eqBool:=fun hu hv h=>by
  rcases Yn hu with⟨i,t,rfl,rfl⟩|⟨x,t,rfl,rfl⟩
  ·rcases Yn hv with⟨j,u,rfl,rfl⟩|⟨y,u,rfl,rfl⟩
   ·rw[Yj6]at h;exact wpAny_eqBool_int h
   ·rw[YjU]at h;exact SeqAt.EqAt.int_str i t y u _ _ _ _ h
  ·rcases Yn hv with⟨j,u,rfl,rfl⟩|⟨y,u,rfl,rfl⟩
   ·rw[Ykl]at h;exact SeqAt.EqAt.str_int x t j u _ _ _ _ h
   ·rw[YjN]at h;exact wpAny_eqBool_str h
 «strs»:=fun k x t v h=>by
  rcases Yn h with⟨i,u,rfl,e⟩|⟨y,u,rfl,e⟩
  ·exact nomatch e
  ·injection e with e1 _
   subst e1
   cases v <;> rfl
theorem Yeo(prog:Program)(w:World)(k:Key)(v:Value):(mixKind prog w).is k v=keyIs k v:=rfl
theorem YdZ(prog:Program)(w:World)(i:Int)(t:Tok):(mixKind prog w).is (.inl i) (.int i t)=true:=YfB i t
theorem Ydw(prog:Program)(w:World)(x:Str)(t:Tok):(mixKind prog w).is (.inr x) (.str x t)=true:=Ygy x t
end L2
namespace L2
open PySem PySem.Spec PyProof.Rows PySem.SeqAt
inductive DK where
 |key (k:Key)|tup (ks:List DK)
noncomputable instance:DecidableEq DK:=fun a b=>Classical.propDecidable _
def DK.ok:Nat->DK->Bool
 |_,.key _=>true
 |n+1,.tup ks=>ks.all (DK.ok n)
 | 0,.tup _=>false
mutual
def DK.hash(w:World):DK->Int
 | .key k=>keyH w k
 | .tup ks=>reduceHash (Builtin.Tuple.tupleHashOf (DK.hashs w ks))
def DK.hashs(w:World):List DK->List Int
 | []=>[]
 |k::ks=>k.hash w::DK.hashs w ks
end
mutual
def DK.drw:DK->Nat
 | .key _=>1
 | .tup ks=>DK.drws ks+1
def DK.drws:List DK->Nat
 | []=>0
 |k::ks=>k.drw+DK.drws ks
end
mutual
inductive DIs(h:Heap):DK->Value->Prop where
 |key {k:Key} {v:Value}:keyIs k v=true->DIs h (.key k) v
 |tup {ks:List DK} {a:Addr} {its:List Value}:IsTup h a its.toArray->DIss h ks its->DIs h (.tup ks) (.ref a)
inductive DIss(h:Heap):List DK->List Value->Prop where
 |nil:DIss h [] []
 |cons {k:DK} {v:Value} {ks:List DK} {vs:List Value}:DIs h k v->DIss h ks vs->DIss h (k::ks) (v::vs)
end
theorem Yfd{h:Heap}{a:Addr}{xs ys:List Value}(x:IsTup h a xs.toArray)(y:IsTup h a ys.toArray):xs=ys:=by
 obtain⟨o,e,_,n,d⟩:=x
 obtain⟨o',e',_,n',d'⟩:=y
 rw[e]at e';cases e'
 rw[d]at d'
 injection d' with q
 exact congrArg Array.toList q
mutual
theorem DIs.inj{h:Heap}{x y:DK}{v:Value}(a:DIs h x v)(b:DIs h y v):x=y:=
 match a,b with
 | .key p,.key q=>by
  rcases Yn p with⟨i,t,rfl,rfl⟩|⟨i,t,rfl,rfl⟩ <;> rcases Yn q with⟨j,u,rfl,e⟩|⟨j,u,rfl,e⟩ <;> first|(injection e with e1 _;rw[e1])|exact nomatch e
 | .key p,.tup q _=>by rcases Yn p with⟨i,t,_,e⟩|⟨i,t,_,e⟩ <;> exact nomatch e
 | .tup q _,.key p=>by rcases Yn p with⟨i,t,_,e⟩|⟨i,t,_,e⟩ <;> exact nomatch e
 | .tup p r,.tup q t=>congrArg DK.tup (DIss.inj r (Yfd p q ▸ t))
theorem DIss.inj{h:Heap}{x y:List DK}{v:List Value}(a:DIss h x v)(b:DIss h y v):x=y:=
 match a,b with
 | .nil,.nil=>rfl
 | .cons p r,.cons q t=>by rw[p.inj q,r.inj t]
end
mutual
theorem DIs.keep{h h':Heap}{x:DK}{v:Value}(k:∀a its,IsTup h a its->IsTup h' a its)(a:DIs h x v):DIs h' x v:=
 match a with
 | .key p=>.key p
 | .tup p r=>.tup (k _ _ p) (r.keep k)
theorem DIss.keep{h h':Heap}{x:List DK}{v:List Value}(k:∀a its,IsTup h a its->IsTup h' a its)(a:DIss h x v):DIss h' x v:=
 match a with
 | .nil=>.nil
 | .cons p r=>.cons (p.keep k) (r.keep k)
end
section
variable{prog:Program}{w:World}
theorem YhP{k k':Key}{u v:Value}{A:Around}{s:Shared}(p:keyIs k u=true)(q:keyIs k' v=true):EqAt A s u v (decide (DK.key k=DK.key k')):=fun prog w E Q h=>
 (mixKind prog w).eqBool (a:=k) (b:=k') p q (by
  have:decide (k=k')=decide (DK.key k=DK.key k'):=by
   by_cases e:k=k'
   ·subst e;rw[decide_eq_true rfl,decide_eq_true rfl]
   ·rw[decide_eq_false e,decide_eq_false fun z=>e (by injection z)]
  rw[this];exact h)
theorem Ye3{k:Key}{u:Value}{a:Addr}{its:Array Value}{A:Around}{s:Shared}(p:keyIs k u=true)(q:IsTup s.heap a its)(hu:A.units<cLine):EqAt A s u (.ref a) false/\EqAt A s (.ref a) u false:=by
 rcases Yn p with⟨i,t,rfl,rfl⟩|⟨i,t,rfl,rfl⟩
 ·exact⟨.int_tuple i t q hu,.tuple_int i t q hu⟩
 ·exact⟨.str_tuple i t q hu,.tuple_str i t q hu⟩
theorem V2{h:Heap}:∀{ks:List DK}{vs:List Value},DIss h ks vs->ks.length=vs.length/\∀(j:Nat)(h1:j<ks.length)(h2:j<vs.length),DIs h ks[j] vs[j]
 |_,_,.nil=>⟨rfl,fun j h1=>absurd h1 (Nat.not_lt_zero _)⟩
 |_,_,.cons p r=>⟨by rw[List.length_cons,List.length_cons,(V2 r).1],fun j h1 h2=>by
  cases j with
  |zero=>exact p
  |succ j=>exact (V2 r).2 j (by simpa using h1) (by simpa using h2)⟩
theorem Yll:∀(n:Nat){x y:DK}{u v:Value}{A:Around}{s:Shared},x.ok n=true->y.ok n=true->DIs s.heap x u->DIs s.heap y v->A.units+n<cLine->EqAt A s u v (decide (x=y)):=by
 intro n
 induction n with
 |zero=>
  intro x y u v A s hx hy a b hu
  cases a with
  |tup _ _=>cases hx
  |key p=>cases b with
   |tup _ _=>cases hy
   |key q=>exact YhP p q
 |succ n ih=>
  intro x y u v A s hx hy a b hu
  cases a with
  |key p=>cases b with
   |key q=>exact YhP p q
   |tup q _=>rw[decide_eq_false fun z=>DK.noConfusion z];exact (Ye3 p q (by omega)).1
  |@tup ks l its p r=>cases b with
   |key q=>rw[decide_eq_false fun z=>DK.noConfusion z];exact (Ye3 q p (by omega)).2
   |@tup ks' b its' q r'=>
    by_cases e:l=b
    ·subst e
     have:=Yfd p q;subst this
     rw[r.inj r',decide_eq_true rfl]
     exact .same _
    ·obtain⟨l1,g1⟩:=V2 r
     obtain⟨l2,g2⟩:=V2 r'
     have hx':=List.all_eq_true.mp (show ks.all (DK.ok n)=true from hx)
     have hy':=List.all_eq_true.mp (show ks'.all (DK.ok n)=true from hy)
     have:=EqAt.of_refs e (RcAt.tuples (A:=A) (e:=fun j=>decide (ks[j]?=ks'[j]?)) p q (by omega) fun j h1 h2=>by
      have j1:j<ks.length:=by simpa [l1]using h1
      have j2:j<ks'.length:=by simpa [l2]using h2
      have:=ih (A:=A.in1) (hx' _ (List.getElem_mem j1)) (hy' _ (List.getElem_mem j2)) (g1 j j1 (by simpa using h1)) (g2 j j2 (by simpa using h2)) (by show A.units+1+n<cLine;omega)
      rw[List.getElem?_eq_getElem j1,List.getElem?_eq_getElem j2]
      simpa using this)
     refine cast (congrArg (EqAt A s _ _) ?_) this
     have key:(((List.range (min its.toArray.size its'.toArray.size)).all (fun j=>decide (ks[j]?=ks'[j]?)) && its.toArray.size == its'.toArray.size)=true)↔DK.tup ks=DK.tup ks':=by
      rw[List.size_toArray,List.size_toArray,<-l1,<-l2,Bool.and_eq_true,List.all_eq_true,beq_iff_eq]
      constructor
      ·rintro⟨h1,h2⟩
       refine congrArg DK.tup (List.ext_getElem? fun j=>?_)
       by_cases hj:j<ks.length
       ·exact of_decide_eq_true (h1 j (List.mem_range.mpr (by omega)))
       ·rw[List.getElem?_eq_none (by omega),List.getElem?_eq_none (by omega)]
      ·intro z
       injection z with z;subst z
       exact⟨fun _ _=>decide_eq_true rfl,rfl⟩
     by_cases z:DK.tup ks=DK.tup ks'
     ·rw[decide_eq_true z];exact key.mpr z
     ·rw[decide_eq_false z];exact Bool.eq_false_iff.mpr fun q=>z (key.mp q)
theorem YaK(w:World)(k:DK):∀l:List DK,DK.hashs w (l++[k])=DK.hashs w l++[k.hash w]
 | []=>rfl
 |x::l=>by rw[List.cons_append,DK.hashs,DK.hashs,YaK w k l];rfl
theorem YbA(k:DK):∀l:List DK,DK.drws (l++[k])=DK.drws l+k.drw
 | []=>by simp[DK.drws]
 |x::l=>by rw[List.cons_append,DK.drws,DK.drws,YbA k l];omega
theorem Yje:∀(n:Nat){x:DK}{v:Value}{A:Around}{E:Value->Shared->Prop}{s:Shared}{Q:Int->Shared->Prop},x.ok n=true->DIs s.heap x v->A.units+n<cLine->Q (x.hash w) { s with toks:=s.toks+x.drw }->wpAny (model prog w) A (pyHash v) Q E s:=by
 intro n
 induction n with
 |zero=>
  intro x v A E s Q hx a hu h
  cases a with
  |tup _ _=>cases hx
  |key p=>exact (mixKind prog w).pyHash p h
 |succ n ih=>
  intro x v A E s Q hx a hu h
  cases a with
  |key p=>exact (mixKind prog w).pyHash p h
  |@tup ks a its p r=>
   have hx':=List.all_eq_true.mp (show ks.all (DK.ok n)=true from hx)
   obtain⟨o,ho,hc,m,hd⟩:=p
   have hT:s.TypeIs (.ref a) "tuple":=⟨o,ho,hc⟩
   unfold pyHash
   first|unfold pyHashByItsType|skip
   first|refine wpAny_bind (wpAny_cRoomFor_or (.inr (by omega)) ?_)|skip
   refine wpAny_bind (wpAny_specialOf hT F.slot_tuple_hash.lookup ?_)
   show wpAny _ _ (if (some (Value.builtin "tuple.__hash__") == some Value.none)=true then _ else _) Q E s
   rw[if_neg (by rw[beq_builtin_none];exact Bool.false_ne_true)]
   refine wpAny_bind (wpAny_specialOf hT F.slot_tuple_hash.lookup ?_)
   show wpAny _ _ (callSpecialIfBoundUnlessNone? (.ref a) "__hash__" _ >>= _) Q E s
   refine wpAny_bind (wpAny_callSpecialIfBoundUnlessNone?_slot hT F.slot_tuple_hash (wpAny_call_entry F.slot_tuple_hash hT F.entry_tuple_hash ?_ (F.args_tuple_hash_1 _)))
   show wpAny _ _ (Builtin.Tuple.tupleItemsOf (.ref a) >>= _) _ _ s
   refine wpAny_bind (wpAny_tupleItemsOf ho hd ?_)
   refine wpAny_bind ?_
   rw[<-Array.forIn_toList]
   refine wpAny_forIn_list _
    (fun rest (b:Array Int) s'=>∃done left,ks=done++left/\DIss s.heap left rest/\b.toList=DK.hashs w done/\s'={ s with toks:=s.toks+DK.drws done })
    _ ?_ ?_ _ _ ⟨[],ks,rfl,r,rfl,rfl⟩
   ·rintro x rest b s' ⟨done,left,rfl,hl,hb,rfl⟩
    cases hl with
    |@cons k _ ks' _ h1 hl'=>
     refine wpAny_bind (ih (hx' k (by simp)) h1 (by show A.units+1+n<cLine;omega) ?_)
     have e1:(b.push (k.hash w)).toList=DK.hashs w (done++[k]):=by rw[YaK,Array.toList_push,hb]
     have e2:s.toks+DK.drws done+k.drw=s.toks+DK.drws (done++[k]):=by rw[YbA,Nat.add_assoc]
     first
      |exact wpAny_pure ⟨done++[k],ks',by simp,hl',e1,by simp only[e2]⟩
      |exact wpAny_bind (wpAny_pure (wpAny_pure ⟨done++[k],ks',by simp,hl',e1,by simp only[e2]⟩))
   ·rintro b s' ⟨done,left,rfl,hl,hb,rfl⟩
    cases hl
    rw[List.append_nil]at h
    show wpAny _ _ (retInt (Builtin.Tuple.tupleHashOf b.toList)) _ _ _
    rw[hb]
    refine wpAny_ret_mkInt ?_
    show wpAny _ _ (if (decide (-(2:Int) ^ 63<=Builtin.Tuple.tupleHashOf (DK.hashs w done)) && decide (Builtin.Tuple.tupleHashOf (DK.hashs w done)<2 ^ 63))=true then _ else _) Q E _
    have h':Q (reduceHash (Builtin.Tuple.tupleHashOf (DK.hashs w done))) { s with toks:=s.toks+DK.drws done+1 }:=by
     rw[DK.hash,DK.drw,<-Nat.add_assoc]at h;exact h
    unfold reduceHash at h'
    by_cases hr:(decide (-(2:Int) ^ 63<=Builtin.Tuple.tupleHashOf (DK.hashs w done)) && decide (Builtin.Tuple.tupleHashOf (DK.hashs w done)<2 ^ 63))=true
    ·rw[if_pos hr]
     rw[if_pos hr]at h'
     exact wpAny_pure h'
    ·rw[if_neg hr]
     rw[if_neg hr]at h'
     exact wpAny_bind (wpAny_rule (wpAny_pure h'))
theorem YgG:∀(n:Nat){x:DK}{v:Value}{A:Around}{E:Value->Shared->Prop}{s:Shared}{Q:Bool->Shared->Prop},x.ok n=true->DIs s.heap x v->Q true s->wpAny (model prog w) A (eqIsQuiet n v) Q E s:=by
 intro n
 induction n with
 |zero=>
  intro x v A E s Q hx a h
  cases a with
  |tup _ _=>cases hx
  |key p=>rw[eqIsQuiet_byValue _ ((mixKind prog w).byValue _ _ p)];exact wpAny_pure h
 |succ n ih=>
  intro x v A E s Q hx a h
  cases a with
  |key p=>rw[eqIsQuiet_byValue _ ((mixKind prog w).byValue _ _ p)];exact wpAny_pure h
  |@tup ks a its p r=>
   have hx':=List.all_eq_true.mp (show ks.all (DK.ok n)=true from hx)
   obtain⟨o,ho,hc,m,hd⟩:=p
   have hT:s.TypeIs (.ref a) "tuple":=⟨o,ho,hc⟩
   unfold eqIsQuiet
   refine wpAny_bind (wpAny_specialOf hT F.slot_tuple_eq.lookup ?_)
   show wpAny _ _ (isInstance (.ref a) (.type "tuple") >>= _) _ _ s
   refine wpAny_bind (wpAny_isInstance hT isSubtype_tuple_tuple ?_)
   simp only[Bool.not_true,Bool.false_eq_true,if_false]
   refine wpAny_bind (wpAny_seqItems ho hd ?_)
   refine wpAny_bind ?_
   show wpAny _ _ (forIn its.toArray _ _) _ _ s
   rw[<-Array.forIn_toList]
   refine wpAny_forIn_list _ (fun rest q s'=>q.1=none/\s'=s/\∃left,DIss s.heap left rest/\∀k∈left,k.ok n=true) _ ?_ ?_ _ _ ⟨rfl,rfl,ks,r,hx'⟩
   ·rintro v rest q s' ⟨hq,rfl,left,hl,hall⟩
    cases hl with
    |@cons k _ ks' _ h1 hl'=>
     refine wpAny_bind (ih (hall k List.mem_cons_self) h1 ?_)
     simp only[Bool.not_true,Bool.false_eq_true,if_false]
     exact wpAny_pure ⟨rfl,rfl,ks',hl',fun u hu'=>hall u (List.mem_cons_of_mem _ hu')⟩
   ·rintro⟨r1,r2⟩ s' ⟨hr,rfl,_⟩
    simp only at hr
    subst hr
    exact wpAny_pure h
end
theorem Ygf{h h':Heap}{d:Addr}{o:Obj}{es ep}(ho:h.get? d=some o)(hd:o.data=.dict es ep)(hs:Heap.SameBut d h h'):∀a its,IsTup h a its->IsTup h' a its:=fun a its ⟨q,e,c,n,t⟩=>by
 refine⟨q,(hs.2 a ?_).trans e,c,n,t⟩
 rintro rfl
 rw[ho]at e;cases e
 rw[hd]at t;exact nomatch t
noncomputable def deepKind(prog:Program)(w:World):HeapKind prog w DK where
 is:=fun h k a=>k.ok 6=true/\DIs h k (.ref a)
 hash:=DK.hash w
 draws:=DK.drw
 room:=fun A=>A.units+6<cLine
 inj:=fun hx hy=>hx.2.inj hy.2
 keeps:=fun x ho hd hs=>⟨x.1,x.2.keep (Ygf ho hd hs)⟩
 pyHash:=fun hu hk h=>Yje 6 hk.1 hk.2 hu h
 eqBool:=fun hu hx hy h=>Yll 6 hx.1 hy.1 hx.2 hy.2 hu _ _ _ _ h
 quiet:=fun hk h=>by
  have up:∀(n:Nat)(k:DK),k.ok n=true->k.ok (n+1)=true:=by
   intro n
   induction n with
   |zero=>intro k h;cases k with
    |key=>rfl
    |tup ks=>cases h
   |succ n ih=>intro k h;cases k with
    |key=>rfl
    |tup ks=>exact List.all_eq_true.mpr fun q hq=>ih q (List.all_eq_true.mp (show ks.all (DK.ok n)=true from h) q hq)
  exact YgG 8 (up 7 _ (up 6 _ hk.1)) hk.2 h
end L2
namespace L2
open PySem PySem.Spec PyProof.Rows
inductive V where
 |non|bl (b:Bool)|int (i:Int)|str (x:Str) (t:Tok)|byt (b:Array UInt8)|flt (b:UInt64)|ref (a:Addr)|ty (n:String)
 deriving DecidableEq
def RelV:V->Value->Prop
 | .non,u=>u=Value.none
 | .bl b,u=>u=Value.bool b
 | .int i,u=>∃t,u=Value.int i t
 | .str x t,u=>u=Value.str x t
 | .byt b,u=>∃t,u=Value.bytes b t
 | .flt b,u=>∃t,u=Value.float b t
 | .ref a,u=>u=Value.ref a
 | .ty n,u=>u=Value.type n
abbrev Vals:List V->List Value->Prop:=Paired RelV
theorem Vals.length{xs:List V}{us:List Value}(r:Vals xs us):xs.length=us.length:=Paired.length r
theorem Vals.get:∀{xs:List V}{us:List Value}{i:Nat}{x:V},Vals xs us->xs[i]?=some x->∃u,us[i]?=some u/\RelV x u
 |_,_,_,_,.nil,e=>by simp at e
 |_,_,0,_,.cons r _,e=>by simp at e;subst e;exact⟨_,rfl,r⟩
 |_,_,i+1,x,.cons _ t,e=>by
  obtain⟨u,h1,h2⟩:=Vals.get (i:=i) (x:=x) t (by simpa using e)
  exact⟨u,by simpa using h1,h2⟩
theorem Vals.set{x:V}{u:Value}(r:RelV x u):∀{xs:List V}{us:List Value}(i:Nat),Vals xs us->Vals (xs.set i x) (us.set i u)
 |_,_,_,.nil=>.nil
 |_,_,0,.cons _ t=>.cons r t
 |_,_,i+1,.cons q t=>.cons q (Vals.set r i t)
theorem Vals.append:∀{xs ys:List V}{us ws:List Value},Vals xs us->Vals ys ws->Vals (xs++ys) (us++ws)
 |_,_,_,_,.nil,s=>s
 |_,_,_,_,.cons r t,s=>.cons r (Vals.append t s)
theorem Vals.take:∀{xs:List V}{us:List Value}(n:Nat),Vals xs us->Vals (xs.take n) (us.take n)
 |_,_,0,_=>.nil
 |_,_,_+1,.nil=>.nil
 |_,_,n+1,.cons r t=>.cons r (Vals.take n t)
theorem Vals.drop:∀{xs:List V}{us:List Value}(n:Nat),Vals xs us->Vals (xs.drop n) (us.drop n)
 |_,_,0,r=>r
 |_,_,_+1,.nil=>.nil
 |_,_,n+1,.cons _ t=>Vals.drop n t
def RelO:Option V->Option Value->Prop
 |some v,some u=>RelV v u
 |none,none=>True
 |_,_=>False
def KV{κ:Type}:List (κ×V)->List (κ×Value)->Prop:=Paired fun (p:κ×V) (q:κ×Value)=>p.1=q.1/\RelV p.2 q.2
def kV:Key->V
 | .inl i=>.int i
 | .inr x=>.str x 0
def KeyV:Key->V->Prop
 | .inl i,v=>v=.int i
 | .inr x,v=>∃t,v=.str x t
inductive HO where
 /-- a list -/
 |lst (xs:List V)
 /-- a tuple (never changes) -/
 |tup (xs:List V)
 /-- a dict whose keys are ints and texts;one whose keys are tuples of ints and texts (the empty one is both) -/
 |dK (kvs:List (Key×V))|dT (kvs:List (DK×V))
 /-- a set of ints: its members,its size -/
 |set (S:Int->Bool) (n:Nat)
 /-- an instance of the class at C,its dict at dx,its attributes -/
 |ins (C dx:Addr) (fs:List (Str×V))
 /-- the dict of the instance at x -/
 |own (x:Addr)
 /-- the dict of an exception -/
 |xd (fs:List (Str×V))
 /-- a bound method,f of x -/
 |met (f x:Addr)
 /-- a range object lo,lo+1,.. below hi -/
 |rng (lo hi:Int)
 /-- a thing that is known to the object (the script;a dict while a loop walks it): read,never written while it is so -/
 |frz (o:Obj) (u:HO)
 /-- a code object's table -/
 |tbl (ps:Array Value)
 /-- any other thing,by what is true of its one object (a def of one's own: SetO a S n:=HO.ext fun h=>..) -/
 |ext (φ:Heap->Prop)
structure Hp where
 f:Addr->Option HO
 τ:Tok->Option Str
instance:CoeFun Hp fun _=>Addr->Option HO:=⟨Hp.f⟩
def Hp.put(H:Hp)(t:Tok)(x:Str):Hp:=⟨H.f,fun u=>if u=t then some x else H.τ u⟩
def TkOk(H:Hp)(n:Nat):Prop:=0<n/\∀t,n<=t->H.τ t=none
def TkG(H:Hp)(v:Value):Prop:=∀x t,v=.str x t->H.τ t=some x/\t≠0
def TkV(H:Hp)(y:V):Prop:=∀x t,y=.str x t->H.τ t=some x/\t≠0
theorem Yi0{H:Hp}{t:Tok}{x:Str}(hn:H.τ t=none):∀u y,H.τ u=some y->(H.put t x).τ u=some y:=fun u y e=>by
 show (if u=t then some x else H.τ u)=some y
 rw[if_neg]
 ·exact e
 ·rintro rfl
  rw[hn]at e;cases e
mutual
inductive DGh(H:Hp):DK->V->Prop where
 |key {k:Key} {v:V}:KeyV k v->TkV H v->DGh H (.key k) v
 |tup {ks:List DK} {a:Addr} {vs:List V}:H a=some (.tup vs)->DGhs H ks vs->DGh H (.tup ks) (.ref a)
inductive DGhs(H:Hp):List DK->List V->Prop where
 |nil:DGhs H [] []
 |cons {k:DK} {v:V} {ks:List DK} {vs:List V}:DGh H k v->DGhs H ks vs->DGhs H (k::ks) (v::vs)
end
mutual
theorem DGh.keep{H H':Hp}{k:DK}{v:V}(ht:∀b xs,H b=some (.tup xs)->H' b=some (.tup xs))(hτ:∀t x,H.τ t=some x->H'.τ t=some x)(a:DGh H k v):DGh H' k v:=
 match a with
 | .key p q=>.key p fun x t e=>⟨hτ t x (q x t e).1,(q x t e).2⟩
 | .tup p r=>.tup (ht _ _ p) (r.keep ht hτ)
theorem DGhs.keep{H H':Hp}{k:List DK}{v:List V}(ht:∀b xs,H b=some (.tup xs)->H' b=some (.tup xs))(hτ:∀t x,H.τ t=some x->H'.τ t=some x)(a:DGhs H k v):DGhs H' k v:=
 match a with
 | .nil=>.nil
 | .cons p r=>.cons (p.keep ht hτ) (r.keep ht hτ)
end
def DG(H:Hp)(k:DK)(b:Addr):Prop:=k.ok 6=true/\DGh H k (.ref b)
theorem TkOk.mono{H:Hp}{n m:Nat}(h:TkOk H n)(l:n<=m):TkOk H m:=⟨Nat.lt_of_lt_of_le h.1 l,fun t q=>h.2 t (Nat.le_trans l q)⟩
theorem TkOk.put{H:Hp}{n m t:Nat}{x:Str}(h:TkOk H n)(l:n<=t)(k:t<m):TkOk (H.put t x) m:=⟨Nat.lt_of_le_of_lt (Nat.zero_le _) k,fun u q=>by
 show (if u=t then some x else H.τ u)=none
 rw[if_neg (Nat.ne_of_gt (Nat.lt_of_lt_of_le k q)),h.2 u (Nat.le_trans (Nat.le_trans l (Nat.le_of_lt k)) q)]⟩
def upd(H:Hp)(a:Addr)(o:HO):Hp:=⟨fun b=>if b=a then some o else H b,H.τ⟩
theorem Yq{H:Hp}{a:Addr}{o:HO}:upd H a o a=some o:=if_pos rfl
theorem Yt{H:Hp}{a b:Addr}{o:HO}(h:b≠a):upd H a o b=H b:=if_neg h
theorem Yls{H:Hp}{a b:Addr}{o u:HO}(h:H a=some o)(h':H b=some u)(d:o≠u):a≠b:=by
 intro e;subst e;rw[h]at h';exact d (Option.some.inj h')
theorem Yv{H:Hp}{a b:Addr}{o:HO}(h:H a=some o)(h':H b=none):a≠b:=by
 intro e;subst e;rw[h]at h';cases h'
section
variable(P:Program)(w:World)
def ObjOk(H:Hp)(h:Heap)(a:Addr):HO->Prop
 | .lst xs=>xs.length<=sizeLine/\∃(its:List Value)(n:Nat),Vals xs its/\h.get? a=some { cls:=.type "list",data:=.seq its.toArray n }
 | .tup xs=>xs.length<=sizeLine/\∃its:List Value,Vals xs its/\IsTup h a its.toArray
 | .dK kvs=>(kvs.length<=sizeLine/\(a == sysModules)=false/\∃vs,KV kvs vs/\h.DictOf (mixKind P w) a vs)/\Kt.KeyG (TkG H) h a
 | .dT kvs=>kvs.length<=sizeLine/\(a == sysModules)=false/\∃xs:List (DK×Addr×Value),
  Paired (fun (p:DK×V) (q:DK×Addr×Value)=>p.1=q.1/\DG H p.1 q.2.1/\RelV p.2 q.2.2) kvs xs/\
  ∃o es ep,h.get? a=some o/\o.ExactDict/\o.data=.dict es ep/\es.toList=xs.map (entryOfKey (deepKind P w))/\(xs.map (·.1)).Nodup
 | .set S n=>h.SetOf (intKind P w) a S n
 | .ins C dx fs=>H dx=some (.own a)/\fs.length<=1000/\dx≠a/\h.get? a=some (PySem.W.instObj C dx)/\
  ∃mA,h.Ns1 dx mA/\(∀f,RelO (fs.lookup f) (mA f))/\PySem.Within mA (fs.map (·.1))
 | .own _=>∃o,h.get? a=some o
 | .xd fs=>∃mA,h.Ns1 a mA/\∀f,RelO (fs.lookup f) (mA f)
 | .rng lo hi=>∃t u v,h.get? a=some { cls:=.type "range",data:=.fields #[.int lo t,.int hi u,.int 1 v] }
 | .frz o u=>h.get? a=some o/\ObjOk H h a u
 | .tbl ps=>h.get? a=some { cls:=.none,data:=.fields ps }
 | .met f x=>h.get? a=some (PySem.W.methodObj (.ref f) (.ref x))
 | .ext φ=>φ h/\(∃o,h.get? a=some o)/\∀h1 h2:Heap,φ h1->(∀o,h1.get? a=some o->h2.get? a=some o)->φ h2
def HOk(H:Hp)(h:Heap):Prop:=∀a o,H a=some o->ObjOk P w H h a o
end
section
variable{P:Program}{w:World}{H H':Hp}{h h':Heap}{a:Addr}{o:HO}
theorem ObjOk.lt(x:ObjOk P w H h a o):a<h.objs.size:=by
 cases o with
 |lst xs=>obtain⟨_,_,_,_,e⟩:=x;exact Heap.lt_size e
 |tup xs=>obtain⟨_,_,_,p⟩:=x;exact p.lt
 |dK kvs=>obtain⟨⟨_,_,_,_,o,_,_,e,_⟩,_⟩:=x;exact Heap.lt_size e
 |dT kvs=>obtain⟨_,_,_,_,o,_,_,e,_⟩:=x;exact Heap.lt_size e
 |set S n=>obtain⟨o,_,_,_,e,_⟩:=x;exact Heap.lt_size e
 |ins C dx fs=>obtain⟨_,_,_,e,_⟩:=x;exact Heap.lt_size e
 |own y=>obtain⟨_,e⟩:=x;exact Heap.lt_size e
 |xd fs=>obtain⟨_,⟨_,_,_,e,_⟩,_⟩:=x;exact Heap.lt_size e
 |rng lo hi=>obtain⟨_,_,_,e⟩:=x;exact Heap.lt_size e
 |frz ob u=>obtain⟨e,_⟩:=x;exact Heap.lt_size e
 |tbl ps=>exact Heap.lt_size (show h.get? a=some _ from x)
 |met f y=>exact Heap.lt_size (show h.get? a=some _ from x)
 |ext φ=>obtain⟨_,⟨_,e⟩,_⟩:=x;exact Heap.lt_size e
theorem Paired.mapP{α β:Type}{F G:α->β->Prop}:∀{l₁:List α}{l₂:List β},Paired F l₁ l₂->(∀a b,F a b->G a b)->Paired G l₁ l₂
 |_,_,.nil,_=>.nil
 |_,_,.cons r t,f=>.cons (f _ _ r) (Paired.mapP t f)
theorem ObjOk.stay(x:ObjOk P w H h a o)(k:∀b u,(b=a\/H b=some (.own a))->h.get? b=some u->h'.get? b=some u)
 (ho:∀b,H b=some (.own a)->H' b=some (.own a)) (ht:∀b xs,H b=some (.tup xs)->H' b=some (.tup xs)) (hτ:∀t x,H.τ t=some x->H'.τ t=some x:=by exact fun _ _ q=>q):ObjOk P w H' h' a o:=by
 induction o with
 |lst xs=>obtain⟨z,its,n,r,e⟩:=x;exact⟨z,its,n,r,k _ _ (.inl rfl) e⟩
 |tup xs=>obtain⟨z,its,r,ob,e,c⟩:=x;exact⟨z,its,r,ob,k _ _ (.inl rfl) e,c⟩
 |dK kvs=>
  obtain⟨⟨z,y,vs,r,ob,es,ep,e,c⟩,g⟩:=x
  exact⟨⟨z,y,vs,r,ob,es,ep,k _ _ (.inl rfl) e,c⟩,Kt.KeyG.of (k _ _ (.inl rfl) e) c.2.1 fun d hd x t q=>⟨hτ t x (g _ _ _ e c.2.1 d hd x t q).1,(g _ _ _ e c.2.1 d hd x t q).2⟩⟩
 |dT kvs=>
  obtain⟨z,y,xs,r,ob,es,ep,e,c⟩:=x
  exact⟨z,y,xs,Paired.mapP r fun p q z=>⟨z.1,⟨z.2.1.1,z.2.1.2.keep ht hτ⟩,z.2.2⟩,ob,es,ep,k _ _ (.inl rfl) e,c⟩
 |set S n=>obtain⟨ob,es,ep,t,e,c⟩:=x;exact⟨ob,es,ep,t,k _ _ (.inl rfl) e,c⟩
 |ins C dx fs=>
  obtain⟨d,z,ne,e,mA,⟨od,es,ep,e2,c⟩,r⟩:=x
  exact⟨ho _ d,z,ne,k _ _ (.inl rfl) e,mA,⟨od,es,ep,k _ _ (.inr d) e2,c⟩,r⟩
 |own y=>obtain⟨ob,e⟩:=x;exact⟨ob,k _ _ (.inl rfl) e⟩
 |xd fs=>obtain⟨mA,⟨od,es,ep,e,c⟩,r⟩:=x;exact⟨mA,⟨od,es,ep,k _ _ (.inl rfl) e,c⟩,r⟩
 |rng lo hi=>obtain⟨t,u,v,e⟩:=x;exact⟨t,u,v,k _ _ (.inl rfl) e⟩
 |frz ob u ih=>obtain⟨e,q⟩:=x;exact⟨k _ _ (.inl rfl) e,ih q⟩
 |tbl ps=>
  have e:h.get? a=some { cls:=.none,data:=.fields ps }:=x
  show h'.get? a=some { cls:=.none,data:=.fields ps }
  exact k a _ (.inl rfl) e
 |met f y=>
  have e:h.get? a=some (PySem.W.methodObj (.ref f) (.ref y)):=x
  show h'.get? a=some (PySem.W.methodObj (.ref f) (.ref y))
  exact k a _ (.inl rfl) e
 |ext φ=>obtain⟨p,⟨o,e⟩,st⟩:=x;exact⟨st _ _ p fun o q=>k _ _ (.inl rfl) q,⟨o,k _ _ (.inl rfl) e⟩,st⟩
theorem HOk.lt(x:HOk P w H h)(e:H a=some o):a<h.objs.size:=(x a o e).lt
theorem HOk.fresh(x:HOk P w H h)(e:h.objs.size<=a):H a=none:=by
 cases q:H a with
 |none=>rfl
 |some u=>exact absurd (Nat.lt_of_lt_of_le (x.lt q) e) (Nat.lt_irrefl _)
theorem HOk.kept(x:HOk P w H h)(k:∀b u,h.get? b=some u->h'.get? b=some u):HOk P w H h':=fun a o e=>
 (x a o e).stay (fun b u _ q=>k b u q) (fun _ q=>q) fun _ _ q=>q
theorem HOk.put{t:Tok}{x:Str}(k:HOk P w H h)(hn:H.τ t=none):HOk P w (H.put t x) h:=fun a o e=>(k a o e).stay (fun _ _ _ q=>q) (fun _ q=>q) (fun _ _ q=>q) (Yi0 hn)
theorem HOk.laid(x:HOk P w H h)(k:∀b u,h.get? b=some u->h'.get? b=some u)(hp:h.objs.size<=a)(new:ObjOk P w (upd H a o) h' a o):HOk P w (upd H a o) h':=fun b u e=>by
 have hn:=x.fresh hp
 by_cases hb:b=a
 ·subst hb;rw[Yq]at e;cases e;exact new
 ·rw[Yt hb]at e
  exact (x b u e).stay (fun c v _ q=>k c v q) (fun c q=>by rw[Yt (Yv q hn)];exact q) fun c xs q=>by rw[Yt (Yv q hn)];exact q
end
def Rd(H:Hp)(a:Addr)(u:HO):Prop:=H a=some u\/∃o,H a=some (.frz o u)
theorem Rd.ok{P:Program}{w:World}{H:Hp}{h:Heap}{a:Addr}{u:HO}(r:Rd H a u)(x:HOk P w H h):ObjOk P w H h a u:=by
 rcases r with r|⟨o,r⟩
 ·exact x a u r
 ·obtain⟨_,q⟩:=x a _ r
  exact q
def Mut:Option HO->Prop
 |some (.lst _)=>True
 |some (.dK _)=>True
 |some (.dT _)=>True
 |some (.set _ _)=>True
 |some (.ins _ _ _)=>True
 |some (.ext _)=>True
 |_=>False
section
variable{P:Program}{w:World}{H:Hp}{h h':Heap}{x e:Addr}{o':HO}
theorem HOk.write(ok:HOk P w H h)(mu:Mut (H x))(he:e=x\/H e=some (.own x))(k:∀b u,b≠e->h.get? b=some u->h'.get? b=some u)(heo:∃u,h'.get? e=some u)
 (new:ObjOk P w (upd H x o') h' x o'):HOk P w (upd H x o') h':=fun b u q=>by
 have nown:∀c y,H c=some (.own y)->c≠x:=fun c y r z=>by subst z;rw[r]at mu;exact mu
 have ntup:∀c xs,H c=some (.tup xs)->c≠x:=fun c xs r z=>by subst z;rw[r]at mu;exact mu
 by_cases hb:b=x
 ·subst hb;rw[Yq]at q;cases q;exact new
 ·rw[Yt hb]at q
  by_cases hbe:b=e
  ·have q':H b=some (.own x):=by
    rcases he with z|z
    ·exact absurd (hbe.trans z) hb
    ·rw[hbe];exact z
   rw[q]at q';cases q'
   obtain⟨v,hv⟩:=heo
   exact⟨v,by rw[hbe];exact hv⟩
  ·refine (ok b u q).stay (fun c v hc r=>k c v ?_ r) (fun c r=>by rw[Yt (nown c b r)];exact r) fun c xs r=>by rw[Yt (ntup c xs r)];exact r
   rcases hc with rfl|hc
   ·exact hbe
   ·rintro rfl
    rcases he with z|z
    ·exact nown c b hc z
    ·rw[hc]at z;cases z;exact hb rfl
end
structure Un(fs ex:List Addr)(H H':Hp)(h h':Heap):Prop where
 keep:∀b o,h.get? b=some o->H b=none->b∉fs->b∉ex->h'.get? b=some o
 slot:∀b o,h.get? b=some o->H b=none->b∈fs->b∉ex->∃sl,h'.get? b=some { o with slots:=sl }
 free:∀b o,h.get? b=some o->H b=none->b∉ex->H' b=none
 there:∀b o,h.get? b=some o->b∉ex->∃o',h'.get? b=some o'
 tups:∀b xs,H b=some (.tup xs)->H' b=some (.tup xs)
 frzs:∀b o u,H b=some (.frz o u)->H' b=some (.frz o u)
 tbls:∀b ps,H b=some (.tbl ps)->∃more,H' b=some (.tbl (ps++more))
section
variable{fs fs' ex ex':List Addr}{H H1 H2:Hp}{h h1 h2 h':Heap}{a x e:Addr}{o:HO}
theorem Un.any(u:Un fs ex H H1 h h1){b:Addr}{ob:Obj}(q:h.get? b=some ob)(n:H b=none)(hx:b∉ex):∃sl,h1.get? b=some { ob with slots:=sl }:=by
 by_cases hb:b∈fs
 ·exact u.slot b ob q n hb hx
 ·exact⟨ob.slots,u.keep b ob q n hb hx⟩
theorem Un.trans(a:Un fs ex H H1 h h1)(b:Un fs ex H1 H2 h1 h2):Un fs ex H H2 h h2 where
 keep:=fun c ob q n hc hx=>b.keep c ob (a.keep c ob q n hc hx) (a.free c ob q n hx) hc hx
 slot:=fun c ob q n hc hx=>by
  obtain⟨sl,e1⟩:=a.slot c ob q n hc hx
  obtain⟨sl',e2⟩:=b.slot c _ e1 (a.free c ob q n hx) hc hx
  exact⟨sl',e2⟩
 free:=fun c ob q n hx=>by
  obtain⟨o',e1⟩:=a.there c ob q hx
  exact b.free c o' e1 (a.free c ob q n hx) hx
 there:=fun c ob q hx=>by
  obtain⟨o',e1⟩:=a.there c ob q hx
  exact b.there c o' e1 hx
 tups:=fun c xs q=>b.tups c xs (a.tups c xs q)
 frzs:=fun c ob xs q=>b.frzs c ob xs (a.frzs c ob xs q)
 tbls:=fun c ps q=>by
  obtain⟨m1,e1⟩:=a.tbls c ps q
  obtain⟨m2,e2⟩:=b.tbls c _ e1
  exact⟨m1++m2,by rw[e2,Array.append_assoc]⟩
theorem Un.kept(k:∀b u,h.get? b=some u->h'.get? b=some u):Un fs ex H H h h':=
 ⟨fun b ob q _ _ _=>k b ob q,fun b ob q _ _ _=>⟨ob.slots,k b ob q⟩,fun _ _ _ n _=>n,fun b ob q _=>⟨ob,k b ob q⟩,fun _ _ q=>q,fun _ _ _ q=>q,fun _ ps q=>⟨#[],by rw[q];simp⟩⟩
theorem Un.refl:Un fs ex H H h h:=Un.kept fun _ _ q=>q
theorem Un.put{t:Tok}{x:Str}:Un fs ex H (H.put t x) h h:=
 ⟨fun _ _ q _ _ _=>q,fun _ ob q _ _ _=>⟨ob.slots,q⟩,fun _ _ _ n _=>n,fun _ ob q _=>⟨ob,q⟩,fun _ _ q=>q,fun _ _ _ q=>q,fun _ ps q=>⟨#[],by rw[Array.append_empty];exact q⟩⟩
theorem Un.laid(k:∀b u,h.get? b=some u->h'.get? b=some u)(hp:h.objs.size<=a)(hn:H a=none):Un fs ex H (upd H a o) h h' where
 keep:=fun b u q _ _ _=>k b u q
 slot:=fun b u q _ _ _=>⟨u.slots,k b u q⟩
 free:=fun b u q n _=>by rw[Yt (Nat.ne_of_lt (Nat.lt_of_lt_of_le (Heap.lt_size q) hp))];exact n
 there:=fun b u q _=>⟨u,k b u q⟩
 tups:=fun b xs q=>by rw[Yt (Yv q hn)];exact q
 frzs:=fun b u xs q=>by rw[Yt (Yv q hn)];exact q
 tbls:=fun b ps q=>⟨#[],by rw[Yt (Yv q hn),q];simp⟩
theorem Un.write(mu:Mut (H x))(he:e=x\/H e=some (.own x))(k:∀b u,b≠e->h.get? b=some u->h'.get? b=some u)(heo:∃u,h'.get? e=some u):Un fs ex H (upd H x o) h h':=by
 have hx:∀b,H b=none->b≠x:=fun b n z=>by subst z;rw[n]at mu;exact mu
 have hb:∀b,H b=none->b≠e:=fun b n z=>by
  subst z
  rcases he with r|r
  ·exact hx b n r
  ·rw[n]at r;cases r
 have hm:∀b u,H b=some u->¬Mut (some u)->b≠x:=fun b u q nm z=>by subst z;rw[q]at mu;exact nm mu
 refine⟨fun b u q n _ _=>k b u (hb b n) q,fun b u q n _ _=>⟨u.slots,k b u (hb b n) q⟩,fun b u q n _=>by rw[Yt (hx b n)];exact n,fun b u q _=>?_,
  fun b xs q=>by rw[Yt (hm b _ q fun z=>z)];exact q,fun b u xs q=>by rw[Yt (hm b _ q fun z=>z)];exact q,fun b ps q=>⟨#[],by rw[Yt (hm b _ q fun z=>z),q];simp⟩⟩
 by_cases hbe:b=e
 ·subst hbe;exact heo
 ·exact⟨u,k b u hbe q⟩
theorem Un.mono(u:Un fs ex H H1 h h1)(hs:∀b∈fs,b∈fs')(hx:∀b∈ex,b∈ex'):Un fs' ex' H H1 h h1:=
 ⟨fun b ob q n hb he=>u.keep b ob q n (fun z=>hb (hs b z)) fun z=>he (hx b z),fun _ _ q n _ he=>u.any q n fun z=>he (hx _ z),fun b ob q n he=>u.free b ob q n fun z=>he (hx b z),fun b ob q he=>u.there b ob q fun z=>he (hx b z),u.tups,u.frzs,u.tbls⟩
end
def trk(h:Heap)(H:Hp):List Addr:=(List.range h.objs.size).filter fun a=>(H a).isSome
def hidT(h:Heap)(H:Hp):Heap:=PySem.W.hideAll h (trk h H)
theorem Yfu(h:Heap)(H:Hp):(hidT h H).objs.size=h.objs.size:=PySem.W.hideAll_size _ _
theorem Yh6{h:Heap}{H:Hp}{b:Addr}{o:Obj}(e:h.get? b=some o)(n:H b=none):(hidT h H).get? b=some o:=
 PySem.W.hideAll_get _ e fun hm=>by
  have q:(H b).isSome=true:=(List.mem_filter.mp hm).2
  rw[n]at q;simp at q
theorem YiQ{h:Heap}{H:Hp}{b:Addr}{o:Obj}(e:(hidT h H).get? b=some o):h.get? b=some o/\H b=none:=by
 have e':h.get? b=some o:=PySem.W.of_hideAll (trk h H) e
 refine⟨e',?_⟩
 cases q:H b with
 |none=>rfl
 |some x=>
  have hm:b∈trk h H:=List.mem_filter.mpr ⟨List.mem_range.mpr (Heap.lt_size e'),by simp[q]⟩
  have z:(hidT h H).get? b=none:=PySem.W.hideAll_none (trk h H) hm
  rw[z]at e;cases e
def allNews(g h:Heap)(L:Addr):List (Addr×Obj):=(List.range h.objs.size).filterMap fun a=>if a=L\/(g.get? a).isSome=true then none else (h.get? a).map fun o=>(a,o)
def rest(g h:Heap)(L d:Addr):List (Addr×Obj):=(allNews g h L).filter fun p=>decide (p.1≠d)
end L2
namespace L2
open PySem PySem.Spec PyProof.Rows
structure Mod(K:PySem.W.Frag)(mg:Str->Option Value)(base:Heap):Prop where
 kin:K.In base
 glob:base.Ns mainGlobals mg
 blt:∃mb,base.Ns builtinsNs mb/\∀x:Str,x≠"__name__"->mb x=bootBuiltins x
 nolimit:base.NoLimit
structure Cx where
 prog:Program
 w:World
 K:PySem.W.Frag
 mg:Str->Option Value
 base:Heap
 A:Around
 N:List Str
 s₀:Shared
 H₀:Hp
 env:Env
 outer:List Env
 stack:List Env
 ex:List Addr
 fn:Str->Bool
 calm:Bool
 pn:List (Addr×Obj)
 xe:Value->Shared->Prop
def frs(l:List Env):List Addr:=l.filterMap (·.frame)
abbrev Cx.fs(X:Cx):List Addr:=frs X.outer
def Vis(sc:Scope)(x:Str):Prop:=sc.names.lookup x=some .local\/sc.names.lookup x=some .cell\/sc.names.lookup x=some .free
def Loc(sc:Scope)(x:Str):Prop:=sc.names.lookup x=some .local\/sc.names.lookup x=some .cell
def Look(env:Env)(h:Heap)(m:Str->Option Value)(x:Str)(u:Value):Prop:=
 (env.kindOf x=some .local/\m x=some u)\/((env.kindOf x=some .cell\/env.kindOf x=some .free)/\∃c,env.cells.lookup x=some c/\h.IsCell c (some u))
structure Cx.Ok(X:Cx):Prop where
 mod:Mod X.K X.mg X.base
 kind:X.env.scope.kind=.function
 glob:X.env.globals=mainGlobals
 blt:X.env.builtins=builtinsNs
 above:X.s₀.heap.objs.size<=X.env.locals
 inj:∀x y c,X.env.cells.lookup x=some c->X.env.cells.lookup y=some c->x=y
 has:∀x,(X.env.kindOf x=some .cell\/X.env.kindOf x=some .free)->∃c,X.env.cells.lookup x=some c
 cab:∀x c,X.fn x=true->X.env.cells.lookup x=some c->X.s₀.heap.objs.size<=c
 hd:X.calm=true->X.A.handled=none
 frames:X.A.frames=some X.stack
 stk:X.stack=X.outer\/(X.stack=X.env::X.outer/\X.env.frame=some X.env.locals)
 exf:∀b∈X.ex,b≠X.env.locals/\∀x c,X.env.cells.lookup x=some c->c≠b
 bs:∀b o,X.base.get? b=some o->X.s₀.heap.get? b=some o/\X.H₀ b=none
 bsz:X.base.objs.size<=X.s₀.heap.objs.size
 noex:∀b o,X.base.get? b=some o->b∉X.ex
 exfs:∀b∈X.ex,b∉X.fs
 funs:X.s₀.heap.FunFrames X.base X.outer
 frf:∀b∈X.fs,X.H₀ b=none
structure Inv(X:Cx)(pins:List (Addr×Obj))(σ:List (Option V))(H:Hp)(s:Shared):Prop where
 ok:X.Ok
 os:s.os=X.s₀.os
 bare:AllBare s.gens
 base:Un X.fs X.ex X.H₀ H X.s₀.heap s.heap
 loc:∃m,s.heap.Ns X.env.locals m/\∀(i:Nat)(x:Str)(v:V),X.N[i]?=some x->σ[i]?=some (some v)->Vis X.env.scope x->∃u,RelV v u/\Look X.env s.heap m x u
 cell:∀x c,X.env.cells.lookup x=some c->∃v,s.heap.IsCell c v
 free:H X.env.locals=none
 freeC:∀x c,X.env.cells.lookup x=some c->H c=none
 pin:∀p∈X.pn++pins,s.heap.get? p.1=some p.2/\H p.1=none/\p.1≠X.env.locals/\p.1∉X.fs/\∀v,p.2.data≠.cell v
 hok:HOk X.prog X.w H s.heap
 len:σ.length=X.N.length
 tk:TkOk H s.toks
section
variable{X:Cx}{pins:List (Addr×Obj)}{σ:List (Option V)}{H H':Hp}{s:Shared}{h':Heap}
theorem Cx.Ok.nofr(ok:X.Ok){b:Addr}{o:Obj}(e:X.base.get? b=some o):b∉X.fs:=fun hb=>by
 have:=(ok.funs.mem hb).1
 rw[e]at this;cases this
theorem Inv.bs(I:Inv X pins σ H s):∀b o,X.base.get? b=some o->s.heap.get? b=some o/\H b=none:=fun b o e=>
 ⟨I.base.keep b o (I.ok.bs b o e).1 (I.ok.bs b o e).2 (I.ok.nofr e) (I.ok.noex b o e),I.base.free b o (I.ok.bs b o e).1 (I.ok.bs b o e).2 (I.ok.noex b o e)⟩
theorem Inv.bk(I:Inv X pins σ H s):∀b o,X.base.get? b=some o->s.heap.get? b=some o:=fun b o e=>(I.bs b o e).1
theorem Inv.mod(I:Inv X pins σ H s):Mod X.K X.mg X.base:=I.ok.mod
theorem Inv.kIn(I:Inv X pins σ H s):X.K.In s.heap:=I.ok.mod.kin.keeps I.bk
theorem Inv.nolimit(I:Inv X pins σ H s):s.heap.NoLimit:=I.ok.mod.nolimit.keeps I.bk
theorem Inv.lt(I:Inv X pins σ H s):X.env.locals<s.heap.objs.size:=let ⟨_,hn,_⟩:=I.loc;hn.lt
theorem Inv.sz(I:Inv X pins σ H s):X.s₀.heap.objs.size<=s.heap.objs.size:=Nat.le_trans I.ok.above (Nat.le_of_lt I.lt)
theorem Inv.nofs(I:Inv X pins σ H s){a:Addr}(h:s.heap.objs.size<=a):a∉X.fs:=fun hb=>by
 obtain⟨_,o,ho,_⟩:=I.ok.funs.mem hb
 exact absurd (Nat.lt_of_lt_of_le (Heap.lt_size ho) (Nat.le_trans I.sz h)) (Nat.lt_irrefl _)
theorem Inv.cne(I:Inv X pins σ H s):∀x c,X.env.cells.lookup x=some c->c≠X.env.locals:=fun x c e z=>by
 obtain⟨v,o,ho,hd⟩:=I.cell x c e
 obtain⟨m,⟨o',es,ep,ho',hd',_⟩,_⟩:=I.loc
 rw[z,ho']at ho;cases ho;rw[hd']at hd;cases hd
theorem Inv.funs(I:Inv X pins σ H s):s.heap.FunFrames X.base X.outer:=by
 have all:∀(l:List Env),(∀b∈frs l,b∈X.fs)->X.s₀.heap.FunFrames X.base l->s.heap.FunFrames X.base l:=by
  intro l
  induction l with
  |nil=>intro _ _;trivial
  |cons env r ih=>
   intro hs hl
   obtain⟨hk,⟨L,o,hf,hn,ho,hd⟩,hr⟩:=hl
   have hL:L∈X.fs:=hs L (by unfold frs;rw[List.filterMap_cons,hf];exact List.mem_cons_self)
   obtain⟨sl,e⟩:=I.base.slot L o ho (I.ok.frf L hL) hL fun z=>I.ok.exfs L z hL
   exact⟨hk,⟨L,_,hf,hn,e,hd⟩,ih (fun b hb=>hs b (by unfold frs;rw[List.filterMap_cons,hf];exact List.mem_cons_of_mem _ hb)) hr⟩
 exact all X.outer (fun _ hb=>hb) I.ok.funs
theorem Inv.stack(I:Inv X pins σ H s):s.heap.FunFrames X.base X.stack:=by
 rcases I.ok.stk with e|⟨e,hf⟩
 ·rw[e];exact I.funs
 ·rw[e]
  obtain⟨m,hn,_⟩:=I.loc
  refine .cons (by rw[I.ok.kind];decide) hf hn ?_ I.funs
  exact Heap.get?_none_of_le (Nat.le_trans I.ok.bsz I.ok.above)
theorem Inv.stkSub(I:Inv X pins σ H s):∀b∈frs X.stack,b∈X.env.locals::X.fs:=fun b hb=>by
 rcases I.ok.stk with e|⟨e,hf⟩
 ·rw[e]at hb;exact List.mem_cons_of_mem _ hb
 ·rw[e]at hb
  unfold frs at hb
  rw[List.filterMap_cons,hf]at hb
  exact hb
theorem Inv.stkFree(I:Inv X pins σ H s):∀b∈frs X.stack,H b=none:=fun b hb=>by
 rcases List.mem_cons.mp (I.stkSub b hb) with e|hb
 ·rw[e];exact I.free
 ·obtain⟨_,o,ho,_⟩:=I.ok.funs.mem hb
  exact I.base.free b o ho (I.ok.frf b hb) fun z=>I.ok.exfs b z hb
theorem Inv.step{g':Array GenState}{t':Nat}{d':Drawn}{ch:List Addr}(I:Inv X pins σ H s)
 (hch:∀b∈ch,(b∈X.ex\/X.s₀.heap.objs.size<=b)/\b≠X.env.locals/\(∀x c,X.env.cells.lookup x=some c->c≠b)/\∀p∈X.pn++pins,p.1≠b)
 (keep:∀b o,b≠X.env.locals->b∉X.fs->b∉ch->s.heap.get? b=some o->H b=none->h'.get? b=some o)
 (slot:∀b o,b≠X.env.locals->b∈X.fs->b∉ch->s.heap.get? b=some o->H b=none->∃sl,h'.get? b=some { o with slots:=sl }) (free:∀b o,b∉ch->s.heap.get? b=some o->H b=none->H' b=none)
 (there:∀b o,b∉ch->s.heap.get? b=some o->∃o',h'.get? b=some o')
 (tups:∀b xs,H b=some (.tup xs)->H' b=some (.tup xs)) (frzs:∀b o u,H b=some (.frz o u)->H' b=some (.frz o u)) (tbls:∀b ps,H b=some (.tbl ps)->∃more,H' b=some (.tbl (ps++more)))
 (ns:∀m,s.heap.Ns X.env.locals m->h'.Ns X.env.locals m) (hok:HOk X.prog X.w H' h') (hg:AllBare g') (htk:TkOk H' t'):
 Inv X pins σ H' { s with heap:=h',gens:=g',drawn:=d',toks:=t' }:=by
 have neL:∀b o,X.s₀.heap.get? b=some o->b≠X.env.locals:=fun b o e=>Nat.ne_of_lt (Nat.lt_of_lt_of_le (Heap.lt_size e) I.ok.above)
 have neC:∀b o,X.s₀.heap.get? b=some o->b∉X.ex->b∉ch:=fun b o e hx hb=>by
  rcases (hch b hb).1 with z|z
  ·exact hx z
  ·exact absurd (Nat.lt_of_lt_of_le (Heap.lt_size e) z) (Nat.lt_irrefl _)
 have cellK:∀x c,X.env.cells.lookup x=some c->∀v,s.heap.IsCell c v->h'.IsCell c v:=fun x c e v ⟨o,ho,hd⟩=>by
  have nch:c∉ch:=fun z=>(hch c z).2.2.1 x c e rfl
  by_cases hc:c∈X.fs
  ·obtain⟨sl,q⟩:=slot c o (I.cne x c e) hc nch ho (I.freeC x c e)
   exact⟨_,q,hd⟩
  ·exact⟨o,keep c o (I.cne x c e) hc nch ho (I.freeC x c e),hd⟩
 refine⟨I.ok,I.os,hg,⟨fun b o e n hb hx=>?_,fun b o e n hb hx=>?_,fun b o e n hx=>?_,fun b o e hx=>?_,fun b xs e=>tups b xs (I.base.tups b xs e),fun b o xs e=>frzs b o xs (I.base.frzs b o xs e),fun b ps e=>?_⟩,?_,fun x c e=>?_,?_,fun x c e=>?_,fun p hp=>?_,hok,I.len,htk⟩
 ·exact keep b o (neL b o e) hb (neC b o e hx) (I.base.keep b o e n hb hx) (I.base.free b o e n hx)
 ·obtain⟨sl,e1⟩:=I.base.slot b o e n hb hx
  obtain⟨sl',e2⟩:=slot b _ (neL b o e) hb (neC b o e hx) e1 (I.base.free b o e n hx)
  exact⟨sl',e2⟩
 ·obtain⟨o',e1⟩:=I.base.there b o e hx
  exact free b o' (neC b o e hx) e1 (I.base.free b o e n hx)
 ·obtain⟨o',e1⟩:=I.base.there b o e hx
  exact there b o' (neC b o e hx) e1
 ·obtain⟨m1,e1⟩:=I.base.tbls b ps e
  obtain⟨m2,e2⟩:=tbls b _ e1
  exact⟨m1++m2,by rw[e2,Array.append_assoc]⟩
 ·obtain⟨m,hn,hl⟩:=I.loc
  refine⟨m,ns m hn,fun i x v e1 e2 e3=>?_⟩
  obtain⟨u,r,l⟩:=hl i x v e1 e2 e3
  refine⟨u,r,?_⟩
  rcases l with l|⟨k,c,e,z⟩
  ·exact .inl l
  ·exact .inr ⟨k,c,e,cellK x c e _ z⟩
 ·obtain⟨v,z⟩:=I.cell x c e
  exact⟨v,cellK x c e v z⟩
 ·obtain⟨m,⟨o,_,_,ho,_⟩,_⟩:=I.loc
  exact free _ o (fun z=>(hch _ z).2.1 rfl) ho I.free
 ·obtain⟨v,o,ho,hd⟩:=I.cell x c e
  exact free c o (fun z=>(hch c z).2.2.1 x c e rfl) ho (I.freeC x c e)
 ·obtain⟨e,n,ne,nf,d⟩:=I.pin p hp
  have nch:p.1∉ch:=fun z=>(hch p.1 z).2.2.2 p hp rfl
  exact⟨keep p.1 p.2 ne nf nch e n,free p.1 p.2 nch e n,ne,nf,d⟩
theorem Inv.un{t':Nat}(I:Inv X pins σ H s)(u:Un X.fs [] H H' s.heap h')(hok:HOk X.prog X.w H' h')(htk:TkOk H' t'):Inv X pins σ H' { s with heap:=h',toks:=t' }:=by
 obtain⟨m,⟨o,es,ep,ho,r⟩,_⟩:=id I.loc
 obtain⟨sl,hL⟩:=u.any ho I.free (by simp)
 exact I.step (g':=s.gens) (d':=s.drawn) (ch:=[]) (fun _ z=>nomatch z) (fun b o _ hb _ e n=>u.keep b o e n hb (by simp)) (fun b o _ hb _ e n=>u.slot b o e n hb (by simp)) (fun b o _ e n=>u.free b o e n (by simp)) (fun b o _ e=>u.there b o e (by simp)) u.tups u.frzs u.tbls (fun m' hm=>by
  obtain⟨o',es',ep',ho',r'⟩:=hm
  rw[ho]at ho';cases ho'
  exact⟨_,es',ep',hL,r'⟩) hok I.bare htk
theorem Inv.call{g':Array GenState}{t':Nat}{d':Drawn}{ch:List Addr}(I:Inv X pins σ H s)(u:Un (frs X.stack) ch H H' s.heap h')(hok:HOk X.prog X.w H' h')(hg:AllBare g')
 (hch:∀b∈ch,(b∈X.ex\/X.s₀.heap.objs.size<=b)/\b≠X.env.locals/\(∀x c,X.env.cells.lookup x=some c->c≠b)/\∀p∈X.pn++pins,p.1≠b) (htk:TkOk H' t'):
 Inv X pins σ H' { s with heap:=h',gens:=g',drawn:=d',toks:=t' }:=by
 obtain⟨m,⟨o,es,ep,ho,r⟩,_⟩:=id I.loc
 obtain⟨sl,hL⟩:=u.any ho I.free fun z=>(hch _ z).2.1 rfl
 exact I.step (ch:=ch) hch (fun b o hL hb hc e n=>u.keep b o e n (fun z=>(List.mem_cons.mp (I.stkSub b z)).elim hL hb) hc) (fun b o _ _ hc e n=>u.any e n hc) (fun b o hc e n=>u.free b o e n hc) (fun b o hc e=>u.there b o e hc) u.tups u.frzs u.tbls (fun m' hm=>by
  obtain⟨o',es',ep',ho',r'⟩:=hm
  rw[ho]at ho';cases ho'
  exact⟨_,es',ep',hL,r'⟩) hok hg htk
theorem Inv.turned{t':Nat}{it:Addr}(I:Inv X pins σ H s)(k:∀b o,b≠it->s.heap.get? b=some o->h'.get? b=some o)(hn:H it=none)(hL:it≠X.env.locals)
 (h1:it∈X.ex\/X.s₀.heap.objs.size<=it) (h2:∀x c,X.env.cells.lookup x=some c->c≠it) (h3:∀p∈X.pn++pins,p.1≠it) (ht:s.toks<=t':=by first|exact Nat.le_refl _|exact Nat.le_succ _|exact Nat.le_add_right _ _|assumption|omega):Inv X pins σ H { s with heap:=h',toks:=t' }:=by
 have nit:∀b u,H b=some u->b≠it:=fun b u e z=>by rw[z,hn]at e;cases e
 refine I.step (g':=s.gens) (d':=s.drawn) (ch:=[it]) (fun b hb=>?_) (fun b o _ _ hc e _=>k b o (fun z=>hc (by simp[z])) e) (fun b o _ _ hc e _=>⟨o.slots,k b o (fun z=>hc (by simp[z])) e⟩) (fun _ _ _ _ n=>n)
  (fun b o hc e=>⟨o,k b o (fun z=>hc (by simp[z])) e⟩) (fun _ _ e=>e) (fun _ _ _ e=>e) (fun b ps e=>⟨#[],by rw[e];simp⟩) (fun m hm=>?_) (fun b u e=>?_) I.bare (I.tk.mono ht)
 ·have e:b=it:=by simpa using hb
  subst e
  exact⟨h1,hL,h2,h3⟩
 ·obtain⟨o,es,ep,ho,r⟩:=hm
  exact⟨o,es,ep,k _ o (Ne.symm hL) ho,r⟩
 ·refine (I.hok b u e).stay (fun c v hc q=>k c v ?_ q) (fun _ q=>q) fun _ _ q=>q
  rcases hc with z|z
  ·rw[z];exact nit b u e
  ·exact nit c _ z
theorem Inv.tok(I:Inv X pins σ H s)(t:Nat)(ht:s.toks<=t:=by first|exact Nat.le_refl _|exact Nat.le_succ _|exact Nat.le_add_right _ _|assumption|omega):Inv X pins σ H { s with toks:=t }:=I.un (h':=s.heap) (t':=t) Un.refl I.hok (I.tk.mono ht)
theorem Inv.txt(I:Inv X pins σ H s){t m:Nat}{x:Str}(hl:s.toks<=t:=by first|exact Nat.le_refl _|exact Nat.le_succ _|exact Nat.le_add_right _ _|assumption|omega)(hm:t<m:=by first|exact Nat.lt_succ_self _|omega):Inv X pins σ (H.put t x) { s with toks:=m }:=I.un (h':=s.heap) (t':=m) Un.put (I.hok.put (I.tk.2 t hl)) (I.tk.put hl hm)
theorem Inv.fresh_tok(I:Inv X pins σ H s){t:Nat}(hl:s.toks<=t:=by first|exact Nat.le_refl _|exact Nat.le_succ _|exact Nat.le_add_right _ _|assumption|omega):H.τ t=none/\t≠0:=⟨I.tk.2 t hl,fun z=>absurd (Nat.lt_of_lt_of_le I.tk.1 hl) (by rw[z];exact Nat.lt_irrefl 0)⟩
theorem Inv.kept{t':Nat}(I:Inv X pins σ H s)(k:∀b u,s.heap.get? b=some u->h'.get? b=some u)(ht:s.toks<=t':=by first|exact Nat.le_refl _|exact Nat.le_succ _|exact Nat.le_add_right _ _|assumption|omega):Inv X pins σ H { s with heap:=h',toks:=t' }:=I.un (Un.kept k) (I.hok.kept k) (I.tk.mono ht)
theorem Inv.laid{a:Addr}{o:HO}{t':Nat}(I:Inv X pins σ H s)(k:∀b u,s.heap.get? b=some u->h'.get? b=some u)(hp:s.heap.objs.size<=a)(new:ObjOk X.prog X.w (upd H a o) h' a o)(ht:s.toks<=t':=by first|exact Nat.le_refl _|exact Nat.le_succ _|exact Nat.le_add_right _ _|assumption|omega):
 Inv X pins σ (upd H a o) { s with heap:=h',toks:=t' }:=I.un (Un.laid k hp (I.hok.fresh hp)) (I.hok.laid k hp new) (I.tk.mono ht)
theorem Inv.write{x e:Addr}{o:HO}{t':Nat}(I:Inv X pins σ H s)(mu:Mut (H x))(he:e=x\/H e=some (.own x))(k:∀b u,b≠e->s.heap.get? b=some u->h'.get? b=some u)(heo:∃u,h'.get? e=some u)
 (new:ObjOk X.prog X.w (upd H x o) h' x o) (ht:s.toks<=t':=by first|exact Nat.le_refl _|exact Nat.le_succ _|exact Nat.le_add_right _ _|assumption|omega):Inv X pins σ (upd H x o) { s with heap:=h',toks:=t' }:=I.un (Un.write mu he k heo) (I.hok.write mu he k heo new) (I.tk.mono ht)
theorem Inv.pins_of{pins':List (Addr×Obj)}(I:Inv X pins σ H s)(h:∀p∈pins',s.heap.get? p.1=some p.2/\H p.1=none/\p.1≠X.env.locals/\p.1∉X.fs/\∀v,p.2.data≠.cell v):Inv X pins' σ H s:=
 ⟨I.ok,I.os,I.bare,I.base,I.loc,I.cell,I.free,I.freeC,fun p hp=>(List.mem_append.mp hp).elim (fun z=>I.pin p (List.mem_append_left _ z)) (h p),I.hok,I.len,I.tk⟩
theorem YdA{N:List Str}(hN:N.Nodup){i j:Nat}{x:Str}(a:N[i]?=some x)(b:N[j]?=some x):i=j:=by
 obtain⟨h1,e1⟩:=List.getElem?_eq_some_iff.mp a
 obtain⟨h2,e2⟩:=List.getElem?_eq_some_iff.mp b
 exact (List.getElem_inj hN).mp (e1.trans e2.symm)
theorem Ycd{M:Model}{A:Around}{E:Value->Shared->Prop}{i:Nat}{x:Str}{v:V}{u:Value}{Q:Unit->Shared->Prop}(I:Inv X pins σ H s)(hN:X.N.Nodup)(hi:X.N[i]?=some x)(hx:Loc X.env.scope x)(r:RelV v u)
 (h:∀s',Inv X pins (σ.set i (some v)) H s'->(∃a,Heap.SameBut a s.heap s'.heap/\(a=X.env.locals\/X.env.cells.lookup x=some a))->Q () s') (hf:X.fn x=true\/X.env.scope.names.lookup x=some .local:=by first|exact .inl rfl|exact .inr rfl|assumption):wpAny M A (storeName X.env x u) Q E s:=by
 obtain⟨m,hn,hl⟩:=id I.loc
 have hcls:(X.env.scope.kind == .class || (X.env.scope.kind == .module && X.env.locals != X.env.globals))=false:=by rw[I.ok.kind];rfl
 have hiσ:i<σ.length:=by rw[I.len];exact (List.getElem?_eq_some_iff.mp hi).1
 have cne:=I.cne
 have tracked:∀{a:Addr}{h':Heap},(∃o,s.heap.get? a=some o/\H a=none)->Heap.SameBut a s.heap h'->HOk X.prog X.w H h':=fun {a h'} ha hs b ob e=>by
  obtain⟨_,_,hfree⟩:=ha
  refine (I.hok b ob e).stay (fun c w' hc q=>(hs.2 c ?_).trans q) (fun _ q=>q) fun _ _ q=>q
  rintro rfl
  rcases hc with rfl|hc
  ·rw[hfree]at e;cases e
  ·rw[hfree]at hc;cases hc
 rcases hx with hk|hk
 ·refine wpAny_storeName_local hk hn (fun h' hn' hs=>?_) hcls
  obtain⟨oL,_,_,hoL,_⟩:=id hn
  refine h _ ⟨I.ok,I.os,I.bare,⟨fun b o e n hb hx=>?_,fun b o e n hb hx=>?_,I.base.free,fun b o e hx=>?_,I.base.tups,I.base.frzs,I.base.tbls⟩,⟨_,hn',fun j y v' e1 e2 e3=>?_⟩,fun y c e=>?_,I.free,I.freeC,fun p hp=>?_,tracked ⟨oL,hoL,I.free⟩ hs,by simpa using I.len,I.tk.mono (by first|exact Nat.le_refl _|exact Nat.le_succ _)⟩ ⟨_,hs,.inl rfl⟩
  ·exact (hs.2 b (Nat.ne_of_lt (Nat.lt_of_lt_of_le (Heap.lt_size e) I.ok.above))).trans (I.base.keep b o e n hb hx)
  ·obtain⟨sl,e1⟩:=I.base.slot b o e n hb hx
   exact⟨sl,(hs.2 b (Nat.ne_of_lt (Nat.lt_of_lt_of_le (Heap.lt_size e) I.ok.above))).trans e1⟩
  ·obtain⟨o',e1⟩:=I.base.there b o e hx
   exact⟨o',(hs.2 b (Nat.ne_of_lt (Nat.lt_of_lt_of_le (Heap.lt_size e) I.ok.above))).trans e1⟩
  ·by_cases hj:j=i
   ·subst hj
    rw[hi]at e1;cases e1
    rw[List.getElem?_set_self hiσ]at e2
    cases e2
    exact⟨u,r,.inl ⟨hk,by simp⟩⟩
   ·rw[List.getElem?_set_ne (Ne.symm hj)]at e2
    obtain⟨u',r',q⟩:=hl j y v' e1 e2 e3
    refine⟨u',r',?_⟩
    rcases q with⟨k,e⟩|⟨k,c,e,z⟩
    ·refine .inl ⟨k,?_⟩
     have:y≠x:=fun e=>hj (YdA hN e1 (e ▸ hi))
     simp[this,e]
    ·exact .inr ⟨k,c,e,z.sameBut hs (cne y c e)⟩
  ·obtain⟨w',z⟩:=I.cell y c e
   exact⟨w',z.sameBut hs (cne y c e)⟩
  ·obtain⟨e,n,ne,nf,d⟩:=I.pin p hp
   exact⟨(hs.2 p.1 ne).trans e,n,ne,nf,d⟩
 ·have hfn:X.fn x=true:=by
   rcases hf with z|z
   ·exact z
   ·rw[z]at hk;cases hk
  obtain⟨c,hc⟩:=I.ok.has x (.inl hk)
  obtain⟨w',z⟩:=I.cell x c hc
  refine wpAny_storeName_cell I.ok.kind hk hc z (fun h' hc' hs=>?_)
  obtain⟨oc,hoc,hocd⟩:=id z
  refine h { s with heap:=h' } ⟨I.ok,I.os,I.bare,⟨fun b o e n hb hx=>?_,fun b o e n hb hx=>?_,I.base.free,fun b o e hx=>?_,I.base.tups,I.base.frzs,I.base.tbls⟩,⟨m,hn.sameBut hs (Ne.symm (cne x c hc)),fun j y v' e1 e2 e3=>?_⟩,fun y c' e=>?_,I.free,I.freeC,fun p hp=>?_,tracked ⟨oc,hoc,I.freeC x c hc⟩ hs,by simpa using I.len,I.tk.mono (by first|exact Nat.le_refl _|exact Nat.le_succ _)⟩ ⟨c,hs,.inr hc⟩
  ·exact (hs.2 b (Nat.ne_of_lt (Nat.lt_of_lt_of_le (Heap.lt_size e) (I.ok.cab x c hfn hc)))).trans (I.base.keep b o e n hb hx)
  ·obtain⟨sl,e1⟩:=I.base.slot b o e n hb hx
   exact⟨sl,(hs.2 b (Nat.ne_of_lt (Nat.lt_of_lt_of_le (Heap.lt_size e) (I.ok.cab x c hfn hc)))).trans e1⟩
  ·obtain⟨o',e1⟩:=I.base.there b o e hx
   exact⟨o',(hs.2 b (Nat.ne_of_lt (Nat.lt_of_lt_of_le (Heap.lt_size e) (I.ok.cab x c hfn hc)))).trans e1⟩
  ·by_cases hj:j=i
   ·subst hj
    rw[hi]at e1;cases e1
    rw[List.getElem?_set_self hiσ]at e2
    cases e2
    exact⟨u,r,.inr ⟨.inl hk,c,hc,hc'⟩⟩
   ·rw[List.getElem?_set_ne (Ne.symm hj)]at e2
    obtain⟨u',r',q⟩:=hl j y v' e1 e2 e3
    refine⟨u',r',?_⟩
    rcases q with q|⟨k,c',e,z'⟩
    ·exact .inl q
    ·refine .inr ⟨k,c',e,z'.sameBut hs ?_⟩
     rintro rfl
     exact hj (YdA hN e1 (I.ok.inj _ _ _ e hc ▸ hi))
  ·by_cases hcc:c'=c
   ·subst hcc;exact⟨_,hc'⟩
   ·obtain⟨w2,z2⟩:=I.cell y c' e
    exact⟨w2,z2.sameBut hs hcc⟩
  ·obtain⟨e,n,ne,nf,d⟩:=I.pin p hp
   refine⟨(hs.2 p.1 ?_).trans e,n,ne,nf,d⟩
   intro q
   rw[q,hoc]at e
   have q':oc=p.2:=Option.some.inj e
   exact d w' (by rw[<-q'];exact hocd)
theorem V0{M:Model}{A:Around}{E:Value->Shared->Prop}{i:Nat}{x:Str}{v:V}{u:Value}{Q:Unit->Shared->Prop}(I:Inv X pins σ H s)(hN:X.N.Nodup)(hi:X.N[i]?=some x)(hx:Loc X.env.scope x)(r:RelV v u)
 (h:∀s',Inv X pins (σ.set i (some v)) H s'->Q () s') (hf:X.fn x=true\/X.env.scope.names.lookup x=some .local:=by first|exact .inl rfl|exact .inr rfl|assumption):wpAny M A (storeName X.env x u) Q E s:=
 Ycd I hN hi hx r (fun s' I' _=>h s' I') hf
theorem Inv.call'{s':Shared}{ch:List Addr}(I:Inv X pins σ H s)(ho:s'.os=s.os)(u:Un (frs X.stack) ch H H' s.heap s'.heap)(hok:HOk X.prog X.w H' s'.heap)(hg:AllBare s'.gens)
 (hch:∀b∈ch,(b∈X.ex\/X.s₀.heap.objs.size<=b)/\b≠X.env.locals/\(∀x c,X.env.cells.lookup x=some c->c≠b)/\∀p∈X.pn++pins,p.1≠b) (htk:TkOk H' s'.toks):Inv X pins σ H' s':=by
 obtain⟨h',g',d',t',o'⟩:=s'
 have e:o'=s.os:=ho
 subst e
 exact I.call (g':=g') (t':=t') (d':=d') u hok hg hch htk
end
abbrev XK:=Value->Option Addr->Hp->Prop
abbrev St:=List (Option V)
abbrev VK:=V->Hp->Prop
abbrev TE:=St->Hp->VK->Prop
abbrev TT:=St->Hp->(Bool->Hp->Prop)->Prop
abbrev TA:=St->Hp->(List V->Hp->Prop)->Prop
structure Ends where
 nx:St->Hp->Prop
 rt:VK
 bk:St->Hp->Prop:=fun _ _=>False
 ct:St->Hp->Prop:=fun _ _=>False
abbrev TS:=Ends->St->Hp->Prop
def EP(X:Cx)(pins:List (Addr×Obj))(σ:St)(Q:VK)(u:Value)(s':Shared):Prop:=∃v H',Inv X pins σ H' s'/\RelV v u/\Q v H'
def TP(X:Cx)(pins:List (Addr×Obj))(σ:St)(Q:Bool->Hp->Prop)(b:Bool)(s':Shared):Prop:=∃H',Inv X pins σ H' s'/\Q b H'
def AP(X:Cx)(pins:List (Addr×Obj))(σ:St)(Q:List V->Hp->Prop)(us:List Value)(s':Shared):Prop:=∃vs H',Inv X pins σ H' s'/\Vals vs us/\Q vs H'
def SP(X:Cx)(pins:List (Addr×Obj))(D:Ends)(f:Flow)(s':Shared):Prop:=
 match f with
 | .next=>∃σ' H',Inv X pins σ' H' s'/\D.nx σ' H'
 | .brk=>∃σ' H',Inv X pins σ' H' s'/\D.bk σ' H'
 | .cont=>∃σ' H',Inv X pins σ' H' s'/\D.ct σ' H'
 | .ret u=>∃v σ' H',Inv X pins σ' H' s'/\RelV v u/\D.rt v H'
def PE(X:Cx)(e:Expr)(t:TE):Prop:=
 ∀(pins:List (Addr×Obj))(s:Shared)(σ:St)(H:Hp)(Q:VK),Inv X pins σ H s->t σ H Q->wpAny (model X.prog X.w) X.A (eval e X.env) (EP X pins σ Q) X.xe s
def PT(X:Cx)(e:Expr)(t:TT):Prop:=
 ∀(pins:List (Addr×Obj))(s:Shared)(σ:St)(H:Hp)(Q:Bool->Hp->Prop),Inv X pins σ H s->t σ H Q->wpAny (model X.prog X.w) X.A (isTrue e X.env (eval e X.env)) (TP X pins σ Q) X.xe s
def PW(X:Cx)(e:Expr)(t:TT):Prop:=
 ∀(whole:Sem Value)(pins:List (Addr×Obj))(s:Shared)(σ:St)(H:Hp)(Q:Bool->Hp->Prop),Inv X pins σ H s->t σ H Q->wpAny (model X.prog X.w) X.A (isTrue e X.env whole) (TP X pins σ Q) X.xe s
theorem PW.pt{X:Cx}{e:Expr}{t:TT}(h:PW X e t):PT X e t:=h _
def PA(X:Cx)(es:List Expr)(t:TA):Prop:=
 ∀(pos:Pos)(pins:List (Addr×Obj))(s:Shared)(σ:St)(H:Hp)(Q:List V->Hp->Prop),Inv X pins σ H s->t σ H Q->wpAny (model X.prog X.w) X.A (spliced (backTo pos (starEach es X.env))) (AP X pins σ Q) X.xe s
def PS(X:Cx)(st:Stmt)(t:TS):Prop:=
 ∀(pins:List (Addr×Obj))(s:Shared)(σ:St)(H:Hp)(D:Ends),Inv X pins σ H s->t D σ H->wpAny (model X.prog X.w) X.A (exec st X.env) (SP X pins D) X.xe s
def PSs(X:Cx)(st:List Stmt)(t:TS):Prop:=
 ∀(pins:List (Addr×Obj))(s:Shared)(σ:St)(H:Hp)(D:Ends),Inv X pins σ H s->t D σ H->wpAny (model X.prog X.w) X.A (execs st X.env) (SP X pins D) X.xe s
theorem thn{α:Type}{t:Sem α}{Q Q':α->Shared->Prop}{M:Model}{A:Around}{E:Value->Shared->Prop}{s:Shared}(h:wpAny M A t Q E s)(hQ:∀a s,Q a s->Q' a s):wpAny M A t Q' E s:=wpAny_mono h hQ fun _ _ x=>x
end L2
namespace L2
open PySem PySem.Spec PyProof.Rows
section
variable{X:Cx}
theorem bin{a b:Expr}{ta tb:TE}(ha:PE X a ta)(hb:PE X b tb){pins:List (Addr×Obj)}{s:Shared}{σ:St}{H:Hp}{R:V->V->Hp->Prop}(I:Inv X pins σ H s)(h:ta σ H fun x H1=>tb σ H1 fun y H2=>R x y H2)
 {α:Type} {Q:α->Shared->Prop} {f:Value->Value->Sem α}
 (hf:∀v u s2 x y H2,Inv X pins σ H2 s2->RelV x v->RelV y u->R x y H2->wpAny (model X.prog X.w) X.A (f v u) Q X.xe s2):
 wpAny (model X.prog X.w) X.A (eval a X.env) (fun v s₁=>wpAny (model X.prog X.w) X.A (eval b X.env) (fun u s₂=>wpAny (model X.prog X.w) X.A (f v u) Q X.xe s₂) X.xe s₁) X.xe s:=by
 refine thn (ha pins s σ H _ I h) fun v s1 ⟨x,H1,I1,r1,q1⟩=>?_
 refine thn (hb pins s1 σ H1 _ I1 q1) fun u s2 ⟨y,H2,I2,r2,q2⟩=>?_
 exact hf v u s2 x y H2 I2 r1 r2 q2
def tVar(i:Nat):TE:=fun σ H Q=>∃v,σ[i]?=some (some v)/\Q v H
def tC(v:V):TE:=fun _ H Q=>Q v H
theorem YhJ{i:Nat}{x:Str}{pos:Pos}(hN:X.N[i]?=some x)(hv:Vis X.env.scope x)(hd:(x == ("__debug__":Str))=false:=by decide) (hcd:(x == ("__classdict__":Str))=false:=by decide):PE X (.Name x pos) (tVar i):=by
 intro pins s σ H Q I h
 obtain⟨v,e,h⟩:=h
 obtain⟨m,hn,hl⟩:=I.loc
 obtain⟨u,r,l⟩:=hl i x v hN e hv
 have fin:EP X pins σ Q u s:=⟨v,H,I,r,h⟩
 rcases l with⟨hk,hm⟩|⟨hk,c,hc,hcell⟩
 ·exact wpAny_Name (wpAny_loadName_local I.ok.kind hk hn hm fin) hd
 ·rcases hk with hk|hk
  ·exact wpAny_Name (wpAny_loadName_cell I.ok.kind hk hc hcell fin) hd
  ·exact wpAny_Name (wpAny_loadName_free I.ok.kind hk hc hcell fin hcd) hd
theorem YkC{i j pos}:PE X (.Constant (.int i) j pos) (tC (.int i)):=fun _ _ _ H _ I h=>wpAny_Constant_int ⟨.int i,H,I.tok _,⟨_,rfl⟩,h⟩
theorem YlD{b j pos}:PE X (.Constant (.bool b) j pos) (tC (.bl b)):=fun _ _ _ H _ I h=>Constant_bool ⟨.bl b,H,I,rfl,h⟩
def MkT(x:Str)(Q:VK)(H:Hp):Prop:=∀t,H.τ t=none->t≠0->Q (.str x t) (H.put t x)
theorem Yj3{x j pos}:PE X (.Constant (.str x) j pos) (fun _ H Q=>MkT x Q H):=fun _ _ s H _ I h=>Calls.Constant_str ⟨.str x _,_,I.txt,rfl,h _ I.fresh_tok.1 I.fresh_tok.2⟩
def Gl(X:Cx)(x:Str):Prop:=X.env.kindOf x=some .globalImplicit
theorem Ye4{E:Value->Shared->Prop}{pins:List (Addr×Obj)}{s:Shared}{σ:St}{H:Hp}{x:Str}{u:Value}{pos:Pos}{Q:Value->Shared->Prop}(I:Inv X pins σ H s)(hg:Gl X x)(hm:X.mg x=some u)(h:Q u s)
 (hd:(x == ("__debug__":Str))=false:=by decide):wpAny (model X.prog X.w) X.A (eval (.Name x pos) X.env) Q E s:=
 Calls.Name_function_global I.ok.kind hg (Calls.loadGlobal_global (by rw[I.ok.glob];exact I.mod.glob.keeps I.bk) hm h) hd
theorem Yav{E:Value->Shared->Prop}{pins:List (Addr×Obj)}{s:Shared}{σ:St}{H:Hp}{x:Str}{u:Value}{pos:Pos}{Q:Value->Shared->Prop}(I:Inv X pins σ H s)(hg:Gl X x)(hm:X.mg x=none)(hv:bootBuiltins x=some u)(h:Q u s)
 (hn:x≠"__name__":=by decide) (hd:(x == ("__debug__":Str))=false:=by decide):wpAny (model X.prog X.w) X.A (eval (.Name x pos) X.env) Q E s:=by
 obtain⟨mb,h1,h2⟩:=I.mod.blt
 exact Calls.Name_function_global I.ok.kind hg (Calls.loadGlobal_builtin (by rw[I.ok.glob];exact I.mod.glob.keeps I.bk) hm (by rw[I.ok.blt];exact h1.keeps I.bk) ((h2 x hn).trans hv) h) hd
variable{a b:Expr}{ta tb:TE}{pos:Pos}
variable{tA tB':TT}{rest:List Expr}
def tAnd(t u:TT):TT:=fun σ H Q=>t σ H fun c H1=>if c=true then u σ H1 Q else Q false H1
def tOr(t u:TT):TT:=fun σ H Q=>t σ H fun c H1=>if c=true then Q true H1 else u σ H1 Q
def tNot(t:TT):TT:=fun σ H Q=>t σ H fun c H1=>Q (!c) H1
theorem YjA(ha:PT X a tA):PW X (.BoolOp .And [a] pos) tA:=by
 intro wh pins s σ H Q I h
 refine isTrue_and (thn (ha pins s σ H Q I h) fun c s1 e=>?_)
 cases c with
 |true=>exact isTrue_and_nil e
 |false=>exact e
theorem YkH(ha:PT X a tA):PW X (.BoolOp .Or [a] pos) tA:=by
 intro wh pins s σ H Q I h
 refine isTrue_or (thn (ha pins s σ H Q I h) fun c s1 e=>?_)
 cases c with
 |false=>exact isTrue_or_nil e
 |true=>exact e
theorem Yk8(ha:PT X a tA)(hb:PW X (.BoolOp .And (b::rest) pos) tB'):PW X (.BoolOp .And (a::b::rest) pos) (tAnd tA tB'):=by
 intro wh pins s σ H Q I h
 refine isTrue_and (thn (ha pins s σ H _ I h) fun c s1 ⟨H1,I1,q1⟩=>?_)
 cases c with
 |true=>exact hb wh pins s1 σ H1 Q I1 q1
 |false=>exact⟨H1,I1,q1⟩
theorem YlH(ha:PT X a tA)(hb:PW X (.BoolOp .Or (b::rest) pos) tB'):PW X (.BoolOp .Or (a::b::rest) pos) (tOr tA tB'):=by
 intro wh pins s σ H Q I h
 refine isTrue_or (thn (ha pins s σ H _ I h) fun c s1 ⟨H1,I1,q1⟩=>?_)
 cases c with
 |true=>exact⟨H1,I1,q1⟩
 |false=>exact hb wh pins s1 σ H1 Q I1 q1
theorem Yku(ha:PT X a tA):PT X (.UnaryOp .Not a pos) (tNot tA):=by
 intro pins s σ H Q I h
 exact isTrue_not (ha pins s σ H (fun c H1=>Q (!c) H1) I h)
def tAndV(ta tb:TE):TE:=fun σ H Q=>ta σ H fun x H1=>∃c,x=.bl c/\if c=true then tb σ H1 Q else Q (.bl false) H1
def tNotV(ta:TE):TE:=fun σ H Q=>ta σ H fun x H1=>∃c,x=.bl c/\Q (.bl (!c)) H1
theorem Ykk{op}{t:TE}(h:PE X a t):PE X (.BoolOp op [a] pos) t:=fun pins s σ H Q I hw=>BoolOp_one (h pins s σ H Q I hw)
theorem Ykj(ha:PE X a ta)(hb:PE X (.BoolOp .And (b::rest) pos) tb):PE X (.BoolOp .And (a::b::rest) pos) (tAndV ta tb):=by
 intro pins s σ H Q I h
 refine BoolOp_and (thn (ha pins s σ H _ I h) fun v s1 ⟨x,H1,I1,r1,q1⟩=>?_)
 obtain⟨c,rfl,q1⟩:=q1
 cases r1
 refine wpAny_truthy_bool ?_
 cases c with
 |true=>exact hb pins s1 σ H1 Q I1 q1
 |false=>exact⟨.bl false,H1,I1,rfl,q1⟩
theorem Yk9(ha:PE X a ta):PE X (.UnaryOp .Not a pos) (tNotV ta):=by
 intro pins s σ H Q I h
 refine UnaryOp_ (thn (ha pins s σ H _ I h) fun v s1 ⟨x,H1,I1,r1,q1⟩=>?_)
 obtain⟨c,rfl,q1⟩:=q1
 cases r1
 exact not_of (wpAny_truthy_bool ⟨.bl (!c),H1,I1,rfl,q1⟩)
def tIf(t:TT)(ta tb:TE):TE:=fun σ H Q=>t σ H fun c H1=>if c=true then ta σ H1 Q else tb σ H1 Q
theorem Yiv{c:Expr}(hc:PT X c tA)(ha:PE X a ta)(hb:PE X b tb):PE X (.IfExp c a b pos) (tIf tA ta tb):=by
 intro pins s σ H Q I h
 refine wpAny_IfExp (thn (hc pins s σ H _ I h) fun d s1 ⟨H1,I1,q1⟩=>?_)
 cases d with
 |true=>exact ha pins s1 σ H1 Q I1 q1
 |false=>exact hb pins s1 σ H1 Q I1 q1
end
end L2
namespace L2
open PySem PySem.Spec PyProof.Rows
def SqL(K:PySem.W.Frag)(H:Hp)(a:Addr)(xs:List V):Prop:=
 Rd H a (.lst xs)\/
  ∃(o:Obj)(its:Array Value)(n:Nat),K.lookup a=some o/\o.cls=.type "list"/\o.dict=none/\o.data=.seq its n/\its.size<=sizeLine/\Vals xs its.toList
def SqT(K:PySem.W.Frag)(H:Hp)(a:Addr)(xs:List V):Prop:=
 Rd H a (.tup xs)\/
  ∃(o:Obj)(its:Array Value)(n:Nat),K.lookup a=some o/\o.cls=.type "tuple"/\o.data=.seq its n/\its.size<=sizeLine/\Vals xs its.toList
def absV:Value->Option V
 | .none=>some .non
 | .bool b=>some (.bl b)
 | .int i _=>some (.int i)
 | .str x t=>some (.str x t)
 | .bytes b _=>some (.byt b)
 | .float b _=>some (.flt b)
 | .ref a=>some (.ref a)
 | .type n=>some (.ty n)
 |_=>none
theorem RelV.abs{x:V}{u:Value}(r:RelV x u):absV u=some x:=by
 cases x with
 |non=>cases r;rfl
 |bl _=>cases r;rfl
 |int _=>obtain⟨t,rfl⟩:=r;rfl
 |str _ _=>cases r;rfl
 |byt _=>obtain⟨t,rfl⟩:=r;rfl
 |flt _=>obtain⟨t,rfl⟩:=r;rfl
 |ref _=>cases r;rfl
 |ty _=>cases r;rfl
theorem RelV.inj{x y:V}{u:Value}(r:RelV x u)(q:RelV y u):x=y:=Option.some.inj (r.abs.symm.trans q.abs)
theorem Vals.inj:∀{xs ys:List V}{us:List Value},Vals xs us->Vals ys us->xs=ys
 |_,_,_,.nil,.nil=>rfl
 |_,_,_,.cons r t,.cons r' t'=>by rw[r.inj r',Vals.inj t t']
section
variable{X:Cx}{pins:List (Addr×Obj)}{σ:St}{H:Hp}{s:Shared}{a:Addr}{xs ys:List V}
theorem SqL.of{K:PySem.W.Frag}(h:H a=some (.lst xs)):SqL K H a xs:=.inl (.inl h)
theorem SqT.of{K:PySem.W.Frag}(h:H a=some (.tup xs)):SqT K H a xs:=.inl (.inl h)
theorem Inv.list(I:Inv X pins σ H s)(h:SqL X.K H a xs):∃its:List Value,Vals xs its/\PlainL s.heap a its.toArray/\xs.length<=sizeLine:=by
 rcases h with h|⟨o,its,n,hk,hc,hd,hs,hz,r⟩
 ·obtain⟨z,its,n,r,e⟩:=h.ok I.hok
  exact⟨its,r,⟨_,n,e,rfl,rfl,rfl⟩,z⟩
 ·refine⟨its.toList,r,⟨o,n,I.kIn a o hk,hc,hd,by simpa using hs⟩,?_⟩
  have e:=r.length
  simp only[Array.length_toList]at e
  omega
theorem Inv.tuple(I:Inv X pins σ H s)(h:SqT X.K H a xs):∃its:List Value,Vals xs its/\IsTup s.heap a its.toArray/\xs.length<=sizeLine:=by
 rcases h with h|⟨o,its,n,hk,hc,hs,hz,r⟩
 ·obtain⟨z,its,r,p⟩:=h.ok I.hok
  exact⟨its,r,p,z⟩
 ·refine⟨its.toList,r,⟨o,I.kIn a o hk,hc,n,by simpa using hs⟩,?_⟩
  have e:=r.length
  simp only[Array.length_toList]at e
  omega
theorem Inv.list_inj(I:Inv X pins σ H s)(h:SqL X.K H a xs)(h':SqL X.K H a ys):xs=ys:=by
 obtain⟨its,r,⟨o,n,e,_,_,d⟩,_⟩:=I.list h
 obtain⟨its',r',⟨o',n',e',_,_,d'⟩,_⟩:=I.list h'
 rw[e]at e';cases e'
 rw[d]at d'
 injection d' with d1 _
 have:its=its':=by simpa using congrArg Array.toList d1
 subst this
 exact r.inj r'
theorem Inv.tuple_inj(I:Inv X pins σ H s)(h:SqT X.K H a xs)(h':SqT X.K H a ys):xs=ys:=by
 obtain⟨its,r,⟨o,e,_,n,d⟩,_⟩:=I.tuple h
 obtain⟨its',r',⟨o',e',_,n',d'⟩,_⟩:=I.tuple h'
 rw[e]at e';cases e'
 rw[d]at d'
 injection d' with d1 _
 have:its=its':=by simpa using congrArg Array.toList d1
 subst this
 exact r.inj r'
end
abbrev Cx.wish(X:Cx)(E:Value->Shared->Prop):Cx:={ X with xe:=E }
abbrev Cx.nox(X:Cx):Cx:=X.wish fun _ _=>False
theorem Cx.Ok.wish{X:Cx}(ok:X.Ok)(E:Value->Shared->Prop):(X.wish E).Ok:=
 ⟨ok.mod,ok.kind,ok.glob,ok.blt,ok.above,ok.inj,ok.has,ok.cab,ok.hd,ok.frames,ok.stk,ok.exf,ok.bs,ok.bsz,ok.noex,ok.exfs,ok.funs,ok.frf⟩
theorem Cx.Ok.unwish{X:Cx}{E:Value->Shared->Prop}(ok:(X.wish E).Ok):X.Ok:=
 ⟨ok.mod,ok.kind,ok.glob,ok.blt,ok.above,ok.inj,ok.has,ok.cab,ok.hd,ok.frames,ok.stk,ok.exf,ok.bs,ok.bsz,ok.noex,ok.exfs,ok.funs,ok.frf⟩
section
variable{X:Cx}{pins:List (Addr×Obj)}{σ:St}{H:Hp}{s:Shared}{E:Value->Shared->Prop}
theorem Inv.wish(I:Inv X pins σ H s)(E:Value->Shared->Prop):Inv (X.wish E) pins σ H s:=⟨I.ok.wish E,I.os,I.bare,I.base,I.loc,I.cell,I.free,I.freeC,I.pin,I.hok,I.len,I.tk⟩
theorem Inv.unwish(I:Inv (X.wish E) pins σ H s):Inv X pins σ H s:=⟨I.ok.unwish,I.os,I.bare,I.base,I.loc,I.cell,I.free,I.freeC,I.pin,I.hok,I.len,I.tk⟩
theorem SP.unwish{D:Ends}{f:Flow}{s':Shared}(h:SP (X.wish E) pins D f s'):SP X pins D f s':=by
 cases f with
 |next=>obtain⟨σ',H',I,q⟩:=h;exact⟨σ',H',I.unwish,q⟩
 |brk=>obtain⟨σ',H',I,q⟩:=h;exact⟨σ',H',I.unwish,q⟩
 |cont=>obtain⟨σ',H',I,q⟩:=h;exact⟨σ',H',I.unwish,q⟩
 |ret u=>obtain⟨v,σ',H',I,r,q⟩:=h;exact⟨v,σ',H',I.unwish,r,q⟩
theorem PSs.nox{st:List Stmt}{t:TS}(h:PSs X.nox st t):PSs X st t:=fun pins s σ H D I hw=>
 wpAny_mono (h pins s σ H D (I.wish _) hw) (fun _ _ q=>q.unwish) fun _ _ z=>False.elim z
end
section
variable{X:Cx}{st:Stmt}{rest:List Stmt}{t u:TS}{e:Expr}{te:TE}{pos:Pos}
def tNext:TS:=fun D σ H=>D.nx σ H
def tSeq(t u:TS):TS:=fun D σ H=>t { D with nx:=u D } σ H
theorem YjC:PSs X [] tNext:=fun _ _ σ H _ I h=>wpAny_execs_nil ⟨σ,H,I,h⟩
theorem Yg3(h1:PS X st t)(h2:PSs X rest u):PSs X (st::rest) (tSeq t u):=by
 intro pins s σ H D I h
 refine wpAny_execs_cons (thn (h1 pins s σ H { D with nx:=u D } I h) fun f s1 q=>?_)
 cases f with
 |next=>
  obtain⟨σ',H',I',q⟩:=q
  exact h2 pins s1 σ' H' D I' q
 |ret v=>exact q
 |brk=>exact q
 |cont=>exact q
theorem Yi6(h1:PS X st t):PSs X [st] t:=by
 intro pins s σ H D I h
 refine wpAny_execs_cons (thn (h1 pins s σ H D I h) fun f s1 q=>?_)
 cases f with
 |next=>exact wpAny_execs_nil q
 |ret v=>exact q
 |brk=>exact q
 |cont=>exact q
theorem Inv.quiet{pins:List (Addr×Obj)}{σ:St}{H:Hp}{s:Shared}(I:Inv X pins σ H s):interactive X.env=false:=by simp[interactive,I.ok.kind]
def tDrop(te:TE):TS:=fun D σ H=>te σ H fun _ H1=>D.nx σ H1
theorem Yjw(he:PE X e te)(hs:swapsWith e none pos.line X.env=pure false:=by rfl):PS X (.Expr e pos) (tDrop te):=by
 intro pins s σ H D I h
 exact wpAny_Expr_any (thn (he pins s σ H _ I h) fun v s1 ⟨x,H1,I1,r1,q1⟩=>⟨σ,H1,I1,q1⟩) I.quiet hs
def tRet(te:TE):TS:=fun D σ H=>te σ H D.rt
theorem Ykn(he:PE X e te):PS X (.Return (some e) pos) (tRet te):=by
 intro pins s σ H D I h
 exact wpAny_Return_some (thn (he pins s σ H _ I h) fun v s1 ⟨x,H1,I1,r1,q1⟩=>⟨x,σ,H1,I1,r1,q1⟩)
def tIfS(c:TT)(t u:TS):TS:=fun D σ H=>c σ H fun b H1=>if b=true then t D σ H1 else u D σ H1
theorem Ylm{c:Expr}{a b:List Stmt}{tc:TT}(hc:PT X c tc)(ha:PSs X a t)(hb:PSs X b u):PS X (.If c a b pos) (tIfS tc t u):=by
 intro pins s σ H D I h
 refine wpAny_If (thn (hc pins s σ H _ I h) fun d s1 ⟨H1,I1,q1⟩=>?_)
 cases d with
 |true=>exact ha pins s1 σ H1 D I1 q1
 |false=>exact hb pins s1 σ H1 D I1 q1
end
abbrev TG:=V->St->Hp->(St->Hp->Prop)->Prop
abbrev TGs:=List V->St->Hp->(St->Hp->Prop)->Prop
def PG(X:Cx)(target:Expr)(t:TG):Prop:=
 ∀(pins:List (Addr×Obj))(s:Shared)(σ:St)(H:Hp)(v:V)(u:Value)(Q:St->Hp->Prop),Inv X pins σ H s->RelV v u->t v σ H Q->
  wpAny (model X.prog X.w) X.A (assign target X.env u) (fun _ s'=>∃σ' H',Inv X pins σ' H' s'/\Q σ' H') X.xe s
def PGs(X:Cx)(ts:List Expr)(t:TGs):Prop:=
 ∀(pins:List (Addr×Obj))(s:Shared)(σ:St)(H:Hp)(vs:List V)(us:List Value)(Q:St->Hp->Prop),Inv X pins σ H s->Vals vs us->t vs σ H Q->
  wpAny (model X.prog X.w) X.A (assignInOrder ((assignEach ts X.env).map (·.2)) us) (fun _ s'=>∃σ' H',Inv X pins σ' H' s'/\Q σ' H') X.xe s
abbrev TSet:=V->V->V->Hp->(Hp->Prop)->Prop
def PSet(X:Cx)(t:TSet):Prop:=
 ∀(pins:List (Addr×Obj))(s:Shared)(σ:St)(H:Hp)(o i v:V)(ov iv u:Value)(Q:Hp->Prop),Inv X pins σ H s->RelV o ov->RelV i iv->RelV v u->t o i v H Q->
  wpAny (model X.prog X.w) X.A (setItem ov iv u) (fun _ s'=>∃H',Inv X pins σ H' s'/\Q H') X.xe s
section
variable{X:Cx}{pos:Pos}
def gName(i:Nat):TG:=fun v σ H Q=>Q (σ.set i (some v)) H
theorem Yju{i:Nat}{x:Str}(hN:X.N.Nodup)(hi:X.N[i]?=some x)(hx:Loc X.env.scope x)(hf:X.fn x=true\/X.env.scope.names.lookup x=some .local:=by first|exact .inl rfl|exact .inr rfl|assumption):PG X (.Name x pos) (gName i):=by
 intro pins s σ H v u Q I r h
 exact wpAny_assign_Name (V0 I hN hi hx r (fun s' I'=>⟨_,H,I',h⟩) hf)
def gNil:TGs:=fun vs σ H Q=>vs=[]/\Q σ H
def gCons(t:TG)(u:TGs):TGs:=fun vs σ H Q=>∃v r,vs=v::r/\t v σ H fun σ' H'=>u r σ' H' Q
theorem Yjk:PGs X [] gNil:=by
 intro pins s σ H vs us Q I r h
 obtain⟨e,h⟩:=h
 subst e
 cases r
 exact assignInOrder_nil ⟨σ,H,I,h⟩
theorem Yhj{e:Expr}{es:List Expr}{t:TG}{u:TGs}(h1:PG X e t)(h2:PGs X es u)
 (hs:(assignEach (e::es) X.env).map (·.2)=assign e X.env::(assignEach es X.env).map (·.2):=by rfl):PGs X (e::es) (gCons t u):=by
 intro pins s σ H vs us Q I r h
 obtain⟨v,vr,e1,h⟩:=h
 subst e1
 cases r with
 |cons r rr=>
  rw[hs]
  refine assignInOrder_cons (thn (h1 pins s σ H _ _ _ I r h) fun _ s1 ⟨σ1,H1,I1,q1⟩=>?_)
  exact h2 pins s1 σ1 H1 _ _ Q I1 rr q1
def gTup(K:PySem.W.Frag)(n:Nat)(t:TGs):TG:=fun v σ H Q=>∃a xs,v=.ref a/\SqT K H a xs/\xs.length=n/\t xs σ H Q
theorem YkA{es:List Expr}{k:Nat}{t:TGs}{n:Nat}(hc:X.calm=true)(h:PGs X es t)
 (hn:(assignEach es X.env).length=n:=by rfl) (hst:(assignEach es X.env).findIdx? (·.1)=none:=by rfl):PG X (.Tuple es k pos) (gTup X.K n t):=by
 intro pins s σ H v u Q I r hw
 obtain⟨a,xs,e1,hq,hl,hw⟩:=hw
 subst e1
 cases r
 obtain⟨its,rv,ht,hz⟩:=I.tuple hq
 refine assign_Tuple_tuple (I.ok.hd hc) ht (by simp[hn,<-hl,rv.length]) hst fun h' hx=>?_
 have I1:Inv X pins σ H { s with heap:=h' }:=I.kept (t':=s.toks) fun b o e=>hx b o (Nat.ne_of_lt (Heap.lt_size e)) e
 exact h pins _ σ H xs _ Q I1 (by simpa using rv) hw
def tAsg(te:TE)(g:TG):TS:=fun D σ H=>te σ H fun x H1=>g x σ H1 D.nx
theorem YkP{tg e:Expr}{te:TE}{g:TG}(he:PE X e te)(hg:PG X tg g)(hs:swapsWithSole [tg] e pos.line X.env=pure false:=by rfl)(hw:swappedStores [tg] e X.env=pure none:=by rfl)
 (h1:(assignEach [tg] X.env).map (·.2)=[assign tg X.env]:=by rfl):PS X (.Assign [tg] e pos) (tAsg te g):=by
 intro pins s σ H D I h
 refine wpAny_Assign_stores (thn (he pins s σ H _ I h) fun v s1 ⟨x,H1,I1,r1,q1⟩=>?_) hs hw
 rw[h1]
 exact thn (hg pins s1 σ H1 x v _ I1 r1 q1) fun _ s2 q=>q
theorem Yk2{i:Nat}{x:Str}{e:Expr}{te:TE}{pos':Pos}(hN:X.N.Nodup)(hi:X.N[i]?=some x)(hx:Loc X.env.scope x)(he:PE X e te)(hs:swapsWith e (some (.Name x pos')) pos.line X.env=pure false:=by rfl)(hf:X.fn x=true\/X.env.scope.names.lookup x=some .local:=by first|exact .inl rfl|exact .inr rfl|assumption):
 PS X (.Assign [.Name x pos'] e pos) (tAsg te (gName i)):=by
 intro pins s σ H D I h
 refine wpAny_Assign_Name (thn (he pins s σ H _ I h) fun v s1 ⟨y,H1,I1,r1,q1⟩=>?_) hs
 exact V0 I1 hN hi hx r1 (fun s2 I2=>⟨_,H1,I2,q1⟩) hf
def tPar(i j:Nat)(ta:TA):TS:=fun D σ H=>ta σ H fun vs H1=>∃v w,vs=[v,w]/\D.nx ((σ.set i (some v)).set j (some w)) H1
theorem Ykb{i j:Nat}{x y:Str}{a b:Expr}{ta:TA}{px py pt:Pos}{kt k2 pt2}(hc:X.calm=true)(hN:X.N.Nodup)(hi:X.N[i]?=some x)(hj:X.N[j]?=some y)(hij:i≠j)
 (hx:X.env.scope.names.lookup x=some .local) (hy:X.env.scope.names.lookup y=some .local) (ha:PA X [a,b] ta)
 (hw:swappedStores [.Tuple [.Name x px,.Name y py] kt pt] (.Tuple [a,b] k2 pt2) X.env=pure (some [x,y]))
 (hs:swapsWithSole [.Tuple [.Name x px,.Name y py] kt pt] (.Tuple [a,b] k2 pt2) pos.line X.env=pure false:=by rfl):
 PS X (.Assign [.Tuple [.Name x px,.Name y py] kt pt] (.Tuple [a,b] k2 pt2) pos) (tPar i j ta):=by
 intro pins s σ H D I h
 rw[exec_Assign_arm]
 refine wpAny_bind (wpAny_standAt ?_)
 rw[hs]
 refine wpAny_bind (wpAny_pure ?_)
 rw[if_neg (by decide)]
 refine wpAny_bind (Tuple_ (thn (ha _ pins s σ H _ I h) fun us s1 ⟨vs,H1,I1,r1,q1⟩=>?_))
 obtain⟨v,w,e1,q1⟩:=q1
 subst e1
 obtain⟨u1,u2,rfl,rv,rw'⟩:∃u1 u2,us=[u1,u2]/\RelV v u1/\RelV w u2:=by
  cases r1 with
  |cons p q=>
   cases q with
   |cons p' q'=>
    cases q'
    exact⟨_,_,rfl,p,p'⟩
 refine wpAny_newObj_type ?_ (by show 2<=sizeLine;decide)
 have I2:Inv X pins σ H1 { s1 with heap:=s1.heap.push { cls:=.type "tuple",data:=.seq [u1,u2].toArray } }:=I1.kept (t':=s1.toks) fun b o e=>Heap.get?_push_of_some _ e
 rw[hw]
 refine wpAny_bind (wpAny_pure ?_)
 show wpAny (model X.prog X.w) X.A (do rule "assign.swapped-stores";let items <-unpackItems (.ref s1.heap.objs.size) 2 none;assignInOrder [fun v=>bindName X.env y v,fun v=>bindName X.env x v] items.reverse;pure Flow.next) _ _ _
 refine wpAny_bind (wpAny_rule (wpAny_bind (unpackItems_tuple (items:=#[u1,u2]) (I.ok.hd hc) (IsTup.new s1.heap _) fun h' hx'=>?_)))
 have I3:=I2.kept (h':=h') (t':=s1.toks) fun b o e=>hx' b o (Nat.ne_of_lt (Heap.lt_size e)) e
 show wpAny _ _ (assignInOrder [fun v=>bindName X.env y v,fun v=>bindName X.env x v] [u2,u1] >>= fun _=>pure Flow.next) _ _ _
 refine wpAny_bind (assignInOrder_cons (wpAny_bindName (V0 I3 hN hj (.inl hy) rw' (fun s2 I4=>?_) (.inr hy))))
 refine assignInOrder_cons (wpAny_bindName (V0 I4 hN hi (.inl hx) rv (fun s3 I5=>assignInOrder_nil (wpAny_pure ?_)) (.inr hx)))
 rw[List.set_comm _ _ (Ne.symm hij)]at I5
 exact⟨_,H1,I5,q1⟩
end
section
variable{X:Cx}{pos:Pos}
def tWhile(c:TT)(tb:TS):TS:=fun D σ H=>∃W:Nat->St->Hp->Prop,(∃m,W m σ H)/\∀m σ H,W m σ H->
 c σ H fun b H1=>if b=true then ∃N:St->Hp->Prop,(∀σ' H',N σ' H'->∃m',m'<m/\W m' σ' H')/\tb { D with nx:=N,ct:=N,bk:=D.nx } σ H1 else D.nx σ H1
theorem Yhp{c:Expr}{body:List Stmt}{tc:TT}{tb:TS}(hp:PassesOwn (model X.prog X.w) X.A X.env X.xe)(hc:PT X c tc)(hb:PSs X body tb):PS X (.While c body [] pos) (tWhile tc tb):=by
 intro pins s σ H D I h
 obtain⟨W,⟨m0,w0⟩,turn⟩:=h
 refine wpAny_While (codeAny_whileLoop (fun n s'=>∃σ' H',Inv X pins σ' H' s'/\W n σ' H') ?_ m0 ⟨σ,H,I,w0⟩)
 rintro n s1 ⟨σ1,H1,I1,w1⟩
 refine wpAny_passesOwn hp (thn (hc pins s1 σ1 H1 _ I1 (turn n σ1 H1 w1)) fun b s2 ⟨H2,I2,q2⟩=>?_)
 cases b with
 |true=>
  obtain⟨N,hN,q2⟩:=q2
  rw[if_pos rfl]
  refine wpAny_passesOwn hp (thn (hb pins s2 σ1 H2 _ I2 q2) fun f s3 q3=>?_)
  cases f with
  |next=>
   obtain⟨σ3,H3,I3,n3⟩:=q3
   obtain⟨m',hm,w3⟩:=hN σ3 H3 n3
   exact⟨m',hm,σ3,H3,I3,w3⟩
  |cont=>
   obtain⟨σ3,H3,I3,n3⟩:=q3
   obtain⟨m',hm,w3⟩:=hN σ3 H3 n3
   exact⟨m',hm,σ3,H3,I3,w3⟩
  |brk=>exact q3
  |ret v=>exact q3
 |false=>
  rw[if_neg Bool.false_ne_true]
  exact wpAny_execs_nil ⟨σ1,H2,I2,q2⟩
end
structure It where
 go:Nat->Hp->Prop
 yld:Nat->Hp->V->Hp->Prop
 stop:Nat->Hp->Prop
def FpOk(X:Cx)(pins:List (Addr×Obj))(H:Hp)(b:Addr):Prop:=
 H b=none/\b≠X.env.locals/\b∉X.fs/\(b∈X.ex\/X.s₀.heap.objs.size<=b)/\(∀x c,X.env.cells.lookup x=some c->c≠b)/\∀p∈X.pn++pins,p.1≠b
theorem Inv.fpOk{X:Cx}{pins:List (Addr×Obj)}{σ:St}{H H':Hp}{s:Shared}{b:Addr}(I:Inv X pins σ H s)(hb:s.heap.objs.size<=b)(hn:H' b=none):FpOk X pins H' b:=by
 refine⟨hn,Nat.ne_of_gt (Nat.lt_of_lt_of_le I.lt hb),I.nofs hb,.inr (Nat.le_trans I.sz hb),fun x c e z=>?_,fun p hp z=>?_⟩
 ·obtain⟨v,q⟩:=I.cell x c e
  exact absurd (Nat.lt_of_lt_of_le q.lt (by rw[z];exact hb)) (Nat.lt_irrefl _)
 ·exact absurd (Nat.lt_of_lt_of_le (Heap.lt_size (I.pin p hp).1) (by rw[z];exact hb)) (Nat.lt_irrefl _)
structure Turn(P:Program)(w:World)(K:PySem.W.Frag)(tg:Expr)(J:It)(fp:List Addr)(it:Addr)(tn:Nat->Heap->Prop):Prop where
 mem:it∈fp
 obj:∀i h,tn i h->∀b∈fp,∃o,h.get? b=some o/\∀v,o.data≠.cell v
 keep:∀i h h',tn i h->(∀b∈fp,∀o,h.get? b=some o->h'.get? b=some o)->tn i h'
 item:∀(X:Cx),X.prog=P->X.w=w->X.K=K->X.calm=true->∀(i:Nat)(pins:List (Addr×Obj))(s:Shared)(σ:St)(H:Hp)(E:Value->Shared->Prop),Inv X pins σ H s->(∀b∈fp,FpOk X pins H b)->tn i s.heap->J.go i H->
  wpAny (model P w) X.A (pyNext (.ref it)) (fun r s1=>∃u,r=some u/\
   wpAny (model P w) X.A (letOwnedTupleGo tg (.ref it) u) (fun _ s2=>∃x H',Inv X pins σ H' s2/\RelV x u/\J.yld i H x H'/\tn (i+1) s2.heap/\∀b∈fp,H' b=none) E s1) E s
 done:∀(X:Cx),X.prog=P->X.w=w->X.K=K->X.calm=true->∀(i:Nat)(pins:List (Addr×Obj))(s:Shared)(σ:St)(H:Hp)(E:Value->Shared->Prop),Inv X pins σ H s->(∀b∈fp,FpOk X pins H b)->tn i s.heap->J.stop i H->
  wpAny (model P w) X.A (pyNext (.ref it)) (fun r s1=>r=none/\Inv X pins σ H s1) E s
 self:∀(A:Around)(i:Nat)(s:Shared)(Q:Value->Shared->Prop)(E:Value->Shared->Prop),tn i s.heap->Q (.ref it) s->wpAny (model P w) A (pyIter (.ref it)) Q E s
abbrev TI:=St->Hp->(It->Hp->Prop)->Prop
def PIE(X:Cx)(pins:List (Addr×Obj))(σ:St)(tg:Expr)(R:It->Hp->Prop)(itv:Value)(s2:Shared):Prop:=
 ∃(it:Addr)(fp:List Addr)(tn:Nat->Heap->Prop)(J:It)(H':Hp),itv=.ref it/\Inv X pins σ H' s2/\Turn X.prog X.w X.K tg J fp it tn/\tn 0 s2.heap/\(∀b∈fp,FpOk X pins H' b)/\R J H'
def PI(X:Cx)(tg iter:Expr)(wi:TI):Prop:=
 ∀(pins:List (Addr×Obj))(s:Shared)(σ:St)(H:Hp)(R:It->Hp->Prop),Inv X pins σ H s->wi σ H R->
  wpAny (model X.prog X.w) X.A (eval iter X.env) (fun v s1=>wpAny (model X.prog X.w) X.A (pyIter v) (PIE X pins σ tg R) X.xe s1) X.xe s
theorem Ydh{M:Model}{A:Around}{E:Value->Shared->Prop}{s:Shared}{tg:Expr}{it:Addr}{u:Value}{o:Obj}{n:String}{vs:Array Value}{Q:Unit->Shared->Prop}(ho:s.heap.get? it=some o)(hc:o.cls=.type n)(hd:o.data=.fields vs)
 (hn:["enumerate","zip","dict_itemiterator","dict_reverseitemiterator","odict_iterator","itertools.zip_longest","itertools.pairwise"].contains n=false) (hQ:Q () s):wpAny M A (letOwnedTupleGo tg (.ref it) u) Q E s:=by
 unfold letOwnedTupleGo
 cases tg <;> first
  |exact wpAny_pure hQ
  |(cases u <;> first
   |exact wpAny_pure hQ
   |(refine wpAny_bind (wpAny_load ho ?_)
     rw[hc,hd]
     show wpAny M A (if (["enumerate","zip","dict_itemiterator","dict_reverseitemiterator","odict_iterator","itertools.zip_longest","itertools.pairwise"].contains n && vs[0]? == some (rawInt _))=true then _ else _) Q E s
     rw[if_neg (by intro h;rw[hn,Bool.false_and]at h;cases h)]
     exact wpAny_pure hQ))
def Itl(K:PySem.W.Frag)(a:Addr):It:=
 ⟨fun i H=>∃xs x,SqL K H a xs/\xs[i]?=some x,fun i H x H'=>H'=H/\∀xs,SqL K H a xs->xs[i]?=some x,fun i H=>∃xs,SqL K H a xs/\xs.length<=i⟩
def Itt(K:PySem.W.Frag)(a:Addr):It:=
 ⟨fun i H=>∃xs x,SqT K H a xs/\xs[i]?=some x,fun i H x H'=>H'=H/\∀xs,SqT K H a xs->xs[i]?=some x,fun i H=>∃xs,SqT K H a xs/\xs.length<=i⟩
def Itr(lo:Int)(n:Nat):It:=⟨fun i _=>i<n,fun i H x H'=>H'=H/\x=.int (lo+i),fun i _=>n<=i⟩
theorem Yfr{P:Program}{w:World}{K:PySem.W.Frag}{tg:Expr}(a it:Addr):Turn P w K tg (Itl K a) [it] it (fun i h=>h.IsListIter it a i) where
 mem:=by simp
 obj:=fun i h st b hb=>by
  have e:b=it:=by simpa using hb
  subst e
  obtain⟨o,e,c,d⟩:=st
  exact⟨o,e,fun v z=>by rw[d]at z;cases z⟩
 keep:=fun i h h' st k=>st.at fun o e=>k it (by simp) o e
 item:=by
  intro X hP hw hK hc i pins s σ H E I hf st hg
  subst hP hw hK
  obtain⟨xs,x,hq,hx⟩:=hg
  obtain⟨its,rv,p,hz⟩:=I.list hq
  obtain⟨u,hu,ru⟩:=rv.get hx
  obtain⟨f0,f1,f2,f3,f4,f5⟩:=hf it (by simp)
  refine wpAny_pyNext_list_item st p.isList (x:=u) (by simpa using hu) fun h' st' sb=>?_
  have I1:Inv X pins σ H { s with heap:=h' }:=I.turned (t':=s.toks) (fun b o hb e=>(sb.2 b hb).trans e) f0 f1 f3 f4 f5
  obtain⟨o,e,c,d⟩:=id st'
  exact⟨u,rfl,Ydh (s:={ s with heap:=h' }) e c d (by decide) ⟨x,H,I1,ru,⟨rfl,fun ys hy=>by rw[I.list_inj hy hq];exact hx⟩,st',fun b hb=>(hf b hb).1⟩⟩
 done:=by
  intro X hP hw hK hc i pins s σ H E I hf st hg
  subst hP hw hK
  obtain⟨xs,hq,hx⟩:=hg
  obtain⟨its,rv,p,hz⟩:=I.list hq
  obtain⟨f0,f1,f2,f3,f4,f5⟩:=hf it (by simp)
  have hl:=rv.length
  exact wpAny_pyNext_list_end (I.ok.hd hc) st p.isList (by simp;omega) fun h' eb=>⟨rfl,I.turned (t':=s.toks) (fun b o hb e=>eb b o hb e) f0 f1 f3 f4 f5⟩
 self:=fun _ _ _ _ _ st h=>wpAny_pyIter_listiter st h
theorem Yep{P:Program}{w:World}{K:PySem.W.Frag}{tg:Expr}(a it:Addr):Turn P w K tg (Itt K a) [it] it (fun i h=>h.IsTupleIter it a i) where
 mem:=by simp
 obj:=fun i h st b hb=>by
  have e:b=it:=by simpa using hb
  subst e
  obtain⟨o,e,c,d⟩:=st
  exact⟨o,e,fun v z=>by rw[d]at z;cases z⟩
 keep:=fun i h h' st k=>st.at fun o e=>k it (by simp) o e
 item:=by
  intro X hP hw hK hc i pins s σ H E I hf st hg
  subst hP hw hK
  obtain⟨xs,x,hq,hx⟩:=hg
  obtain⟨its,rv,p,hz⟩:=I.tuple hq
  obtain⟨u,hu,ru⟩:=rv.get hx
  obtain⟨f0,f1,f2,f3,f4,f5⟩:=hf it (by simp)
  refine wpAny_pyNext_tuple_item st (show s.heap.IsTuple a its.toArray from p) (x:=u) (by simpa using hu) fun h' st' sb=>?_
  have I1:Inv X pins σ H { s with heap:=h' }:=I.turned (t':=s.toks) (fun b o hb e=>(sb.2 b hb).trans e) f0 f1 f3 f4 f5
  obtain⟨o,e,c,d⟩:=id st'
  exact⟨u,rfl,Ydh (s:={ s with heap:=h' }) e c d (by decide) ⟨x,H,I1,ru,⟨rfl,fun ys hy=>by rw[I.tuple_inj hy hq];exact hx⟩,st',fun b hb=>(hf b hb).1⟩⟩
 done:=by
  intro X hP hw hK hc i pins s σ H E I hf st hg
  subst hP hw hK
  obtain⟨xs,hq,hx⟩:=hg
  obtain⟨its,rv,p,hz⟩:=I.tuple hq
  obtain⟨f0,f1,f2,f3,f4,f5⟩:=hf it (by simp)
  have hl:=rv.length
  exact wpAny_pyNext_tuple_end (I.ok.hd hc) st (show s.heap.IsTuple a its.toArray from p) (by simp;omega) fun h' eb=>⟨rfl,I.turned (t':=s.toks) (fun b o hb e=>eb b o hb e) f0 f1 f3 f4 f5⟩
 self:=fun _ _ _ _ _ st h=>wpAny_pyIter_tupleiter st h
theorem Yd8{P:Program}{w:World}{K:PySem.W.Frag}{tg:Expr}(it:Addr)(lo:Int)(n:Nat):Turn P w K tg (Itr lo n) [it] it (fun i h=>IsRangeIter h it (lo+(i:Nat) * 1) ((n:Int) - (i:Nat)) 1) where
 mem:=by simp
 obj:=fun i h st b hb=>by
  have e:b=it:=by simpa using hb
  subst e
  exact⟨_,st,fun v z=>by
   have z':Data.fields _=Data.cell v:=z
   cases z'⟩
 keep:=fun i h h' st k=>k it (by simp) _ st
 item:=by
  intro X hP hw hK hc i pins s σ H E I hf st hg
  subst hP hw hK
  obtain⟨f0,f1,f2,f3,f4,f5⟩:=hf it (by simp)
  have W:=Walks.range (prog:=X.prog) (w:=X.w) (I.ok.hd hc) it lo 1 n
  refine Tk.wpAny_le (W.item i s _ _ hg st fun v h' tk hv st' kk le=>?_)
  obtain⟨t,rfl⟩:=hv
  have I1:Inv X pins σ H { s with heap:=h',toks:=tk }:=I.turned (fun b o hb e=>kk b o (by simpa using hb) e) f0 f1 f3 f4 f5 le
  refine⟨_,rfl,Ydh (s:={ s with heap:=h',toks:=tk }) (n:="range_iterator") st' rfl rfl (by decide) ⟨.int (lo+i),H,I1,⟨t,?_⟩,⟨rfl,rfl⟩,st',fun b hb=>(hf b hb).1⟩⟩
  rw[Int.mul_one]
 done:=by
  intro X hP hw hK hc i pins s σ H E I hf st hg
  subst hP hw hK
  obtain⟨f0,f1,f2,f3,f4,f5⟩:=hf it (by simp)
  exact wpAny_pyNext_range_end (I.ok.hd hc) st (by have:n<=i:=hg;omega) fun h' eb=>⟨rfl,I.turned (t':=s.toks) (fun b o hb e=>eb b o hb e) f0 f1 f3 f4 f5⟩
 self:=fun _ _ _ _ _ st h=>wpAny_pyIter_rangeiter st h
end L2
namespace L2
open PySem PySem.Spec PyProof.Rows
section
variable{X:Cx}{tg:Expr}
theorem YhO{pins:List (Addr×Obj)}{σ:St}{H:Hp}{s:Shared}{R:It->Hp->Prop}{E:Value->Shared->Prop}{lo hi:Int}{t u v:Tok}{tk:Nat}(I:Inv X pins σ H s)(htk:s.toks<=tk)(h1: -(2 ^ 62)<=lo)(h2:lo<2 ^ 62)(h3: -(2 ^ 62)<=hi)(h4:hi<2 ^ 62)
 (q:R (Itr lo (hi - lo).toNat) H):wpAny (model X.prog X.w) X.A (pyIter (.ref s.heap.objs.size)) (PIE X pins σ tg R) E { s with heap:=s.heap.push { cls:=.type "range",data:=.fields #[.int lo t,.int hi u,.int 1 v] },toks:=tk }:=by
 refine wpAny_pyIter_range (IsRange.new ..) (small_one h1 h2 h3 h4) ?_
 have I1:Inv X pins σ H { s with heap:=s.heap.push { cls:=.type "range",data:=.fields #[.int lo t,.int hi u,.int 1 v] },toks:=tk }:=I.kept fun b o e=>Heap.get?_push_of_some _ e
 refine⟨(s.heap.push { cls:=.type "range",data:=.fields #[.int lo t,.int hi u,.int 1 v] }).objs.size,[(s.heap.push { cls:=.type "range",data:=.fields #[.int lo t,.int hi u,.int 1 v] }).objs.size],_,_,H,rfl,
  I1.kept (t':=tk) fun b o e=>Heap.get?_push_of_some _ e,Yd8 _ lo (hi - lo).toNat,?_,fun b hb=>?_,q⟩
 ·have e1:lo+((0:Nat):Int) * 1=lo:=by simp
  have e2:(((hi - lo).toNat:Nat):Int) - ((0:Nat):Int)=Builtin.Range.rangeSize lo hi 1:=by rw[rangeSize_one];split <;> omega
  show IsRangeIter _ _ (lo+((0:Nat):Int) * 1) ((((hi - lo).toNat:Nat):Int) - ((0:Nat):Int)) 1
  rw[e1,e2]
  exact Heap.get?_push_size _ rfl
 ·have e:b=(s.heap.push { cls:=.type "range",data:=.fields #[.int lo t,.int hi u,.int 1 v] }).objs.size:=by simpa using hb
  subst e
  exact I1.fpOk (Nat.le_refl _) (I1.hok.fresh (Nat.le_refl _))
def iRng1(ta:TA):TI:=fun σ H R=>ta σ H fun vs H1=>∃j:Int,vs=[.int j]/\ -(2 ^ 62)<=j/\j<2 ^ 62/\R (Itr 0 j.toNat) H1
theorem Yf1{a:Expr}{ta:TA}{p pos:Pos}(hg:Gl X "range") (hm:X.mg "range"=none) (ha:PA X [a] ta) (hs:starEach [a] X.env=[(false,eval a X.env)]:=by rfl):PI X tg (.Call (.Name "range" p) [a] [] pos) (iRng1 ta):=by
 intro pins s σ H R I h
 refine Call_ (Yav I hg hm boot_range (PyProof.Rows.callWith_type1 (thn (ha pos pins s σ H _ I h) fun us s1 ⟨vs,H1,I1,r1,q1⟩=>?_) hs rfl))
 obtain⟨j,e,q1,q2,q⟩:=q1
 subst e
 cases r1 with
 |cons r rr=>
  cases rr
  obtain⟨t,rfl⟩:=r
  exact call_range_1 (YhO I1 (by omega) (by omega) (by omega) q1 q2 (by simpa using q))
def tFor(wi:TI)(g:TG)(tb:TS):TS:=fun D σ H=>wi σ H fun J H1=>∃W:Nat->Nat->St->Hp->Prop,(∃m,W 0 m σ H1)/\∀i m σ H,W i m σ H->
 (J.stop i H/\D.nx σ H)\/(J.go i H/\∃N:St->Hp->Prop,(∀σ' H',N σ' H'->∃m',m'<m/\W (i+1) m' σ' H')/\∀x H',J.yld i H x H'->g x σ H' fun σ2 H2=>tb { D with nx:=N,ct:=N,bk:=D.nx } σ2 H2)
def pinsAt(fp:List Addr)(h:Heap):List (Addr×Obj):=fp.filterMap fun b=>(h.get? b).map fun o=>(b,o)
theorem Wr{fp:List Addr}{h:Heap}{b:Addr}{o:Obj}(hb:b∈fp)(e:h.get? b=some o):(b,o)∈pinsAt fp h:=List.mem_filterMap.mpr ⟨b,hb,by rw[e];rfl⟩
theorem YgB{fp:List Addr}{h:Heap}{p:Addr×Obj}(hp:p∈pinsAt fp h):p.1∈fp/\h.get? p.1=some p.2:=by
 obtain⟨b,hb,e⟩:=List.mem_filterMap.mp hp
 cases q:h.get? b with
 |none=>rw[q]at e;cases e
 |some o=>
  rw[q]at e
  have e':(b,o)=p:=Option.some.inj e
  subst e'
  exact⟨hb,q⟩
theorem Inv.pinned{pins:List (Addr×Obj)}{σ:St}{H:Hp}{s:Shared}{fp:List Addr}(I:Inv X pins σ H s)(hf:∀b∈fp,FpOk X pins H b)(ho:∀b∈fp,∃o,s.heap.get? b=some o/\∀v,o.data≠.cell v):Inv X (pins++pinsAt fp s.heap) σ H s:=
 I.pins_of fun p hp=>(List.mem_append.mp hp).elim (fun z=>I.pin p (List.mem_append_right _ z)) fun z=>by
  obtain⟨hb,e⟩:=YgB z
  obtain⟨f0,f1,f2,_⟩:=hf p.1 hb
  obtain⟨o,e',d⟩:=ho p.1 hb
  rw[e]at e';cases e'
  exact⟨e,f0,f1,f2,d⟩
theorem Inv.unpinned{pins pl:List (Addr×Obj)}{σ:St}{H:Hp}{s:Shared}(I:Inv X (pins++pl) σ H s):Inv X pins σ H s:=I.pins_of fun p hp=>I.pin p (List.mem_append_right _ (List.mem_append_left _ hp))
theorem YkF{iter:Expr}{body:List Stmt}{wi:TI}{g:TG}{tb:TS}{pos:Pos}(hp:PassesOwn (model X.prog X.w) X.A X.env X.xe)(hc:X.calm=true)(hi:PI X tg iter wi)(hg:PG X tg g)(hb:PSs X body tb)
 (hs:∀x,foldedSetIterable iter X.env x=pure x:=by intro _;rfl):PS X (.For tg iter body [] pos) (tFor wi g tb):=by
 intro pins s σ H D I h
 refine wpAny_For (thn (hi pins s σ H _ I h) fun v s1 h1=>thn h1 fun itv s2 h2=>?_) hs
 obtain⟨it,fp,tn,J,H2,e,I2,T,st2,f2,W,⟨m0,w0⟩,turn⟩:=h2
 subst e
 have stat:∀{H':Hp},(∀b∈fp,H' b=none)->∀b∈fp,FpOk X pins H' b:=fun hn b hb=>⟨hn b hb,(f2 b hb).2⟩
 refine codeAny_forLoop_any (fun n s'=>∃i σ' H',Inv X pins σ' H' s'/\tn i s'.heap/\(∀b∈fp,H' b=none)/\W i n σ' H') ?_ m0 ⟨0,σ,H2,I2,st2,fun b hb=>(f2 b hb).1,w0⟩
 rintro n s3 ⟨i,σ3,H3,I3,st3,fr3,w3⟩
 rcases turn i n σ3 H3 w3 with⟨stop,qn⟩|⟨go,N,hN,step⟩
 ·refine wpAny_passesOwn hp (thn (T.done X rfl rfl rfl hc i pins s3 σ3 H3 X.xe I3 (stat fr3) st3 stop) fun r s4 ⟨hr,I4⟩=>?_)
  subst hr
  exact wpAny_execs_nil ⟨σ3,H3,I4,qn⟩
 ·refine wpAny_passesOwn hp (thn (T.item X rfl rfl rfl hc i pins s3 σ3 H3 X.xe I3 (stat fr3) st3 go) fun r s4 ⟨u,hr,h4⟩=>?_)
  subst hr
  refine wpAny_passesOwn hp (thn h4 fun _ s5 ⟨x,H5,I5,r5,y5,st5,fr5⟩=>?_)
  have I5':=I5.pinned (stat fr5) (T.obj _ _ st5)
  refine wpAny_passesOwn hp (thn (hg _ s5 σ3 H5 x u _ I5' r5 (step x H5 y5)) fun _ s6 ⟨σ6,H6,I6,q6⟩=>?_)
  refine wpAny_passesOwn hp (thn (hb _ s6 σ6 H6 _ I6 q6) fun f s7 q7=>?_)
  have again:∀{σ7:St}{H7:Hp},Inv X (pins++pinsAt fp s5.heap) σ7 H7 s7->N σ7 H7->∃m,m<n/\∃i σ' H',Inv X pins σ' H' s7/\tn i s7.heap/\(∀b∈fp,H' b=none)/\W i m σ' H':=fun {σ7 H7} I7 n7=>by
   obtain⟨m',hm,w7⟩:=hN σ7 H7 n7
   refine⟨m',hm,i+1,σ7,H7,I7.unpinned,T.keep _ _ _ st5 fun b hb o e=>(I7.pin (b,o) (List.mem_append_right _ (List.mem_append_right _ (Wr hb e)))).1,fun b hb=>?_,w7⟩
   obtain⟨o,e,d⟩:=T.obj _ _ st5 b hb
   exact (I7.pin (b,o) (List.mem_append_right _ (List.mem_append_right _ (Wr hb e)))).2.1
  cases f with
  |next=>obtain⟨σ7,H7,I7,n7⟩:=q7;exact again I7 n7
  |cont=>obtain⟨σ7,H7,I7,n7⟩:=q7;exact again I7 n7
  |brk=>obtain⟨σ7,H7,I7,q7⟩:=q7;exact⟨σ7,H7,I7.unpinned,q7⟩
  |ret v=>obtain⟨x7,σ7,H7,I7,r7,q7⟩:=q7;exact⟨x7,σ7,H7,I7.unpinned,r7,q7⟩
end
end L2
namespace L2
open PySem PySem.Spec PyProof.Rows
abbrev R2:=V->V->Hp->VK->Prop
def OpR(X:Cx)(f:Value->Value->Sem Value)(r:R2):Prop:=
 ∀(pins:List (Addr×Obj))(s:Shared)(σ:St)(H:Hp)(x y:V)(v u:Value)(Q:VK),Inv X pins σ H s->RelV x v->RelV y u->r x y H Q->
  wpAny (model X.prog X.w) X.A (f v u) (EP X pins σ Q) X.xe s
def UnR(X:Cx)(f:Value->Sem Value)(r:V->Hp->VK->Prop):Prop:=
 ∀(pins:List (Addr×Obj))(s:Shared)(σ:St)(H:Hp)(x:V)(v:Value)(Q:VK),Inv X pins σ H s->RelV x v->r x H Q->
  wpAny (model X.prog X.w) X.A (f v) (EP X pins σ Q) X.xe s
def CallR(X:Cx)(f:Value)(r:List V->Hp->VK->Prop):Prop:=
 ∀(pins:List (Addr×Obj))(s:Shared)(σ:St)(H:Hp)(xs:List V)(us:List Value)(Q:VK),Inv X pins σ H s->Vals xs us->r xs H Q->
  wpAny (model X.prog X.w) X.A (call f us) (EP X pins σ Q) X.xe s
def TruR(X:Cx)(r:V->Hp->(Bool->Hp->Prop)->Prop):Prop:=
 ∀(pins:List (Addr×Obj))(s:Shared)(σ:St)(H:Hp)(x:V)(v:Value)(Q:Bool->Hp->Prop),Inv X pins σ H s->RelV x v->r x H Q->
  wpAny (model X.prog X.w) X.A (truthy v) (TP X pins σ Q) X.xe s
def tOp(r:R2)(ta tb:TE):TE:=fun σ H Q=>ta σ H fun x H1=>tb σ H1 fun y H2=>r x y H2 Q
def tUn(r:V->Hp->VK->Prop)(ta:TE):TE:=fun σ H Q=>ta σ H fun x H1=>r x H1 Q
def rI(C:Int->Int->Prop)(g:Int->Int->V):R2:=fun x y H Q=>∃i j,x=.int i/\y=.int j/\C i j/\Q (g i j) H
def rI0(g:Int->Int->V):R2:=fun x y H Q=>∃i j,x=.int i/\y=.int j/\Q (g i j) H
def rU(g:Int->V):V->Hp->VK->Prop:=fun x H Q=>∃i,x=.int i/\Q (g i) H
section
variable{X:Cx}{a b c:Expr}{ta tb tc:TE}{pos:Pos}
theorem binT(ha:PE X a ta)(hb:PE X b tb){pins:List (Addr×Obj)}{s:Shared}{σ:St}{H:Hp}{R:V->V->Hp->Prop}(I:Inv X pins σ H s)
 (h:ta σ H fun x H1=>tb σ H1 fun y H2=>R x y H2) {Q:Value->Shared->Prop} {f:Value->Value->Sem Value}
 (hf:∀v u s2 x y H2,Inv X pins σ H2 s2->RelV x v->RelV y u->R x y H2->wpAny (model X.prog X.w) X.A (f v u) Q X.xe s2):
 wpAny (model X.prog X.w) X.A (eval a X.env) (fun v s₁=>wpAny (model X.prog X.w) X.A (eval b X.env) (fun u s₂=>wpAny (model X.prog X.w) X.A (f v u) Q X.xe s₂) X.xe s₁) X.xe s:=by
 refine thn (ha pins s σ H _ I h) fun v s1 ⟨x,H1,I1,r1,q1⟩=>?_
 refine thn (hb pins s1 σ H1 _ I1 q1) fun u s2 ⟨y,H2,I2,r2,q2⟩=>?_
 exact hf v u s2 x y H2 I2 r1 r2 q2
theorem YlJ{op:Operator}{r:R2}(ho:OpR X (binaryOp op) r)(ha:PE X a ta)(hb:PE X b tb):PE X (.BinOp a op b pos) (tOp r ta tb):=by
 intro pins s σ H Q I h
 exact wpAny_BinOp (binT ha hb I h fun v u s2 x y H2 I2 rx ry q=>ho pins s2 σ H2 x y v u Q I2 rx ry q)
theorem Yly{op:UnaryOp}{r:V->Hp->VK->Prop}(ho:UnR X (unaryOp op) r)(ha:PE X a ta):PE X (.UnaryOp op a pos) (tUn r ta):=by
 intro pins s σ H Q I h
 exact UnaryOp_ (thn (ha pins s σ H _ I h) fun v s1 ⟨x,H1,I1,r1,q1⟩=>ho pins s1 σ H1 x v Q I1 r1 q1)
theorem opI{f:Value->Value->Sem Value}{C:Int->Int->Prop}{g:Int->Int->Int}
 (rule:∀(i j:Int)(t u:Tok)(s:Shared)(Q:Value->Shared->Prop)(E:Value->Shared->Prop),C i j->Q (.int (g i j) s.toks) { s with toks:=s.toks+1 }->wpAny (model X.prog X.w) X.A (f (.int i t) (.int j u)) Q E s):
 OpR X f (rI C fun i j=>.int (g i j)):=by
 intro pins s σ H x y v u Q I rx ry h
 obtain⟨i,j,rfl,rfl,hc,q⟩:=h
 obtain⟨t,rfl⟩:=rx
 obtain⟨t',rfl⟩:=ry
 exact rule i j t t' s _ _ hc ⟨.int (g i j),H,I.tok _,⟨_,rfl⟩,q⟩
theorem opI0{f:Value->Value->Sem Value}{g:Int->Int->Int}
 (rule:∀(i j:Int)(t u:Tok)(s:Shared)(Q:Value->Shared->Prop)(E:Value->Shared->Prop),Q (.int (g i j) s.toks) { s with toks:=s.toks+1 }->wpAny (model X.prog X.w) X.A (f (.int i t) (.int j u)) Q E s):
 OpR X f (rI0 fun i j=>.int (g i j)):=by
 intro pins s σ H x y v u Q I rx ry h
 obtain⟨i,j,rfl,rfl,q⟩:=h
 obtain⟨t,rfl⟩:=rx
 obtain⟨t',rfl⟩:=ry
 exact rule i j t t' s _ _ ⟨.int (g i j),H,I.tok _,⟨_,rfl⟩,q⟩
theorem opB0{f:Value->Value->Sem Value}{g:Int->Int->Bool}
 (rule:∀(i j:Int)(t u:Tok)(s:Shared)(Q:Value->Shared->Prop)(E:Value->Shared->Prop),Q (.bool (g i j)) s->wpAny (model X.prog X.w) X.A (f (.int i t) (.int j u)) Q E s):
 OpR X f (rI0 fun i j=>.bl (g i j)):=by
 intro pins s σ H x y v u Q I rx ry h
 obtain⟨i,j,rfl,rfl,q⟩:=h
 obtain⟨t,rfl⟩:=rx
 obtain⟨t',rfl⟩:=ry
 exact rule i j t t' s _ _ ⟨.bl (g i j),H,I,rfl,q⟩
def CDiv(i j:Int):Prop:=0<j/\j<1073741824
def CPow(i j:Int):Prop:=0<=j/\j<=1000000/\i.natAbs<2 ^ 64
def CMul(i j:Int):Prop:=(-(2 ^ 64)<i/\i<2 ^ 64)\/(-(2 ^ 64)<j/\j<2 ^ 64)
theorem CMul.ok{i j:Int}(h:CMul i j):IntMulOk i j:=by
 rcases h with⟨h1,h2⟩|⟨h1,h2⟩
 ·exact .of_left (intBits_le_64 h1 h2)
 ·exact .of_right (intBits_le_64 h1 h2)
theorem Ykx:OpR X (binaryOp .Add) (rI0 fun i j=>.int (i+j)):=opI0 fun _ _ _ _ _ _ _ q=>add_int q
theorem Ykd:OpR X (binaryOp .Sub) (rI0 fun i j=>.int (i - j)):=opI0 fun _ _ _ _ _ _ _ q=>sub_int q
theorem Ykv:OpR X (binaryOp .Mult) (rI CMul fun i j=>.int (i * j)):=opI fun _ _ _ _ _ _ _ hc q=>mul_int q hc.ok
theorem Yjo:OpR X (binaryOp .FloorDiv) (rI CDiv fun i j=>.int (i / j)):=opI fun i j _ _ _ _ _ hc q=>by
 have h1:(0:Int)<j:=hc.1
 have h2:j<1073741824:=hc.2
 exact floordiv_int (by omega) (by rw[Int.fdiv_eq_ediv_of_nonneg i (by omega)];exact q) (.inl (PyProof.noPylong_small (by omega)))
theorem YkB:OpR X (binaryOp .Mod) (rI (fun _ j=>0<j) fun i j=>.int (i % j)):=opI fun i j _ _ _ _ _ hc q=>by
 have h1:(0:Int)<j:=hc
 exact mod_int' (by omega) (by rw[Int.fmod_eq_emod_of_nonneg i (by omega)];exact q)
theorem YkJ:OpR X (binaryOp .Pow) (rI CPow fun i j=>.int (i ^ j.toNat)):=opI fun _ _ _ _ _ _ _ hc q=>pow_int_small hc.1 hc.2.1 hc.2.2 q
theorem unI{f:Value->Sem Value}{g:Int->Int}
 (rule:∀(i:Int)(t:Tok)(s:Shared)(Q:Value->Shared->Prop)(E:Value->Shared->Prop),Q (.int (g i) s.toks) { s with toks:=s.toks+1 }->wpAny (model X.prog X.w) X.A (f (.int i t)) Q E s):
 UnR X f (rU fun i=>.int (g i)):=by
 intro pins s σ H x v Q I rx h
 obtain⟨i,rfl,q⟩:=h
 obtain⟨t,rfl⟩:=rx
 exact rule i t s _ _ ⟨.int (g i),H,I.tok _,⟨_,rfl⟩,q⟩
theorem Yj7:UnR X (unaryOp .USub) (rU fun i=>.int (-i)):=unI fun _ _ _ _ _ q=>neg_int q
end
section
variable{X:Cx}{a b c:Expr}{ta tb tc:TE}{pos:Pos}
theorem Yhq{pins:List (Addr×Obj)}{σ:St}{H:Hp}{s:Shared}{Q:VK}{k k':Bool}(I:Inv X pins σ H s)(q:Q (.bl k) H)(e:k=k'):EP X pins σ Q (.bool k') s:=by
 subst e
 exact⟨.bl k,H,I,rfl,q⟩
theorem Ylg:OpR X (compareOp .Lt) (rI0 fun i j=>.bl (decide (i<j))):=opB0 fun _ _ _ _ _ _ _ q=>lt_int q
theorem Ylp:OpR X (compareOp .LtE) (rI0 fun i j=>.bl (decide (i<=j))):=opB0 fun _ _ _ _ _ _ _ q=>le_int q
theorem Ylk:OpR X (compareOp .Gt) (rI0 fun i j=>.bl (decide (j<i))):=opB0 fun _ _ _ _ _ _ _ q=>gt_int q
theorem YfG:OpR X (compareOp .Lt) (fun x y H Q=>∃i ti j tj,x=.str i ti/\y=.str j tj/\Q (.bl (decide (i.cps.toList<j.cps.toList))) H):=by
 intro pins s σ H x y v u Q I rx ry h
 obtain⟨i,ti,j,tj,rfl,rfl,q⟩:=h
 cases rx
 cases ry
 exact lt_str (Yhq I q rfl)
theorem Yfp:OpR X (compareOp .In) (fun x y H Q=>∃i ti j tj,x=.str i ti/\y=.str j tj/\Q (.bl (!(Builtin.Str.occurrences j i 0 j.length 1).isEmpty)) H):=by
 intro pins s σ H x y v u Q I rx ry h
 obtain⟨i,ti,j,tj,rfl,rfl,q⟩:=h
 cases rx
 cases ry
 exact in_str (Yhq I q rfl)
theorem nomark(b:Expr){op:CmpOp}(h:op≠.In:=by decide)(h2:op≠.NotIn:=by decide):behindInMarks op b=false:=by
 have e1:(op == CmpOp.In)=false:=by cases op <;> first|rfl|exact absurd rfl h
 have e2:(op == CmpOp.NotIn)=false:=by cases op <;> first|rfl|exact absurd rfl h2
 cases b <;> simp[behindInMarks,e1,e2]
theorem Yji{op:CmpOp}{r:R2}(ho:OpR X (compareOp op) r)(ha:PE X a ta)(hb:PE X b tb)(hm:behindInMarks op b=false):PE X (.Compare a [op] [b] pos) (tOp r ta tb):=by
 intro pins s σ H Q I h
 exact wpAny_Compare1 (binT ha hb I h fun v u s2 x y H2 I2 rx ry q=>ho pins s2 σ H2 x y v u Q I2 rx ry q) hm
def tTest(t:TE):TT:=fun σ H Q=>t σ H fun x H'=>∃k,x=.bl k/\Q k H'
theorem Yjl{op:CmpOp}{r:R2}(ho:OpR X (compareOp op) r)(ha:PE X a ta)(hb:PE X b tb)(hm:behindInMarks op b=false):PT X (.Compare a [op] [b] pos) (tTest (tOp r ta tb)):=by
 intro pins s σ H Q I h
 refine wpAny_isTrue_Compare1 (thn (ha pins s σ H _ I h) fun v s1 ⟨x,H1,I1,r1,q1⟩=>thn (hb pins s1 σ H1 _ I1 q1) fun u s2 ⟨y,H2,I2,r2,q2⟩=>
  thn (ho pins s2 σ H2 x y v u _ I2 r1 r2 q2) fun c s3 ⟨z,H3,I3,r3,k,e,q3⟩=>?_) hm
 subst e
 cases r3
 exact wpAny_truthy_bool ⟨H3,I3,q3⟩
def tChain(r r':R2)(ta tb tc:TE):TE:=fun σ H Q=>ta σ H fun x H1=>tb σ H1 fun y H2=>r x y H2 fun z H3=>∃k,z=.bl k/\
 (if k=true then tc σ H3 fun w' H4=>r' y w' H4 Q else Q (.bl false) H3)
theorem Yhm{op op':CmpOp}{r r':R2}(ho:OpR X (compareOp op) r)(ho':OpR X (compareOp op') r')(ha:PE X a ta)(hb:PE X b tb)(hc:PE X c tc)
 (hm:lastMarks [op,op'] [b,c]=false:=by with_unfolding_all rfl):PE X (.Compare a [op,op'] [b,c] pos) (tChain r r' ta tb tc):=by
 intro pins s σ H Q I h
 refine Compare_chain (thn (ha pins s σ H _ I h) fun v s1 ⟨x,H1,I1,r1,q1⟩=>chain_link (thn (hb pins s1 σ H1 _ I1 q1) fun u s2 ⟨y,H2,I2,r2,q2⟩=>
  thn (ho pins s2 σ H2 x y v u _ I2 r1 r2 q2) fun d s3 ⟨z,H3,I3,r3,k,e,q3⟩=>?_)) hm
 subst e
 cases r3
 refine wpAny_truthy_bool ?_
 cases k with
 |false=>exact ite_ff ⟨.bl false,H3,I3,rfl,q3⟩
 |true=>exact ite_tt (chain_last (thn (hc pins s3 σ H3 _ I3 q3) fun w' s4 ⟨z',H4,I4,r4,q4⟩=>ho' pins s4 σ H4 y z' u w' Q I4 r2 r4 q4))
def TruV(K:PySem.W.Frag)(x:V)(H:Hp)(k:Bool):Prop:=
 match x with
 | .non=>k=false
 | .bl b=>k=b
 | .int i=>k=(i != 0)
 | .str y _=>y.length<=sizeLine/\k=((y.length:Int) != 0)
 | .byt y=>y.size<=sizeLine/\k=((y.size:Int) != 0)
 | .ref p=>(∃xs,SqL K H p xs/\k= !xs.isEmpty)\/(∃xs,SqT K H p xs/\k= !xs.isEmpty)\/∃kvs,H p=some (.dK kvs)/\k= !kvs.isEmpty
 |_=>False
theorem Yey{κ:Type}{kvs:List (κ×V)}{vs:List (κ×Value)}(r:KV kvs vs):(!vs.isEmpty)= !kvs.isEmpty:=by
 cases r <;> rfl
theorem Yat{xs:List V}{its:List Value}(r:Vals xs its):(!its.toArray.isEmpty)= !xs.isEmpty:=by
 cases r <;> simp
theorem line63:(sizeLine:Nat)<2 ^ 63:=by rw[sizeLine_eq];decide
theorem Ykw:TruR X (fun x H Q=>∃k,TruV X.K x H k/\Q k H):=by
 intro pins s σ H x v Q I rx h
 obtain⟨k,e,q⟩:=h
 have hl:=line63
 have hs:sizeLine=16777216:=sizeLine_eq
 cases x with
 |non=>
  cases rx
  have e':k=false:=e
  subst e'
  exact truthy_none ⟨H,I,q⟩
 |bl b=>
  cases rx
  have e':k=b:=e
  subst e'
  exact wpAny_truthy_bool ⟨H,I,q⟩
 |int i=>
  obtain⟨t,rfl⟩:=rx
  have e':k=(i != 0):=e
  subst e'
  exact PySem.P.truthy_int ⟨H,I,q⟩
 |str y t=>
  cases rx
  obtain⟨hy,e'⟩:y.length<=sizeLine/\k=((y.length:Int) != 0):=e
  subst e'
  exact PySem.P.truthy_str (by omega) ⟨H,I.tok _,q⟩
 |byt y=>
  obtain⟨t,rfl⟩:=rx
  obtain⟨hy,e'⟩:y.size<=sizeLine/\k=((y.size:Int) != 0):=e
  subst e'
  exact PySem.W.truthy_bytes (by omega) ⟨H,I.tok _,q⟩
 |ref p=>
  cases rx
  have e':(∃xs,SqL X.K H p xs/\k= !xs.isEmpty)\/(∃xs,SqT X.K H p xs/\k= !xs.isEmpty)\/∃kvs,H p=some (.dK kvs)/\k= !kvs.isEmpty:=e
  rcases e' with⟨xs,hx,e'⟩|⟨xs,hx,e'⟩|⟨kvs,hx,e'⟩
  ·subst e'
   obtain⟨its,r,pl,hz⟩:=I.list hx
   have hlen:=r.length
   exact wpAny_truthy_list pl.isList (by simp only[List.size_toArray];omega) ⟨H,I.tok _,by rw[Yat r];exact q⟩
  ·subst e'
   obtain⟨its,r,pl,hz⟩:=I.tuple hx
   have hlen:=r.length
   exact truthy_tuple pl (by simp only[List.size_toArray];omega) ⟨H,I.tok _,by rw[Yat r];exact q⟩
  ·subst e'
   obtain⟨hz,hS,vs,r,m⟩:kvs.length<=sizeLine/\(p == sysModules)=false/\∃vs,KV kvs vs/\s.heap.DictOf (mixKind X.prog X.w) p vs:=And.left (I.hok p _ hx)
   have hlen:kvs.length=vs.length:=Paired.length r
   exact wpAny_truthy_dict hS m (by omega) ⟨H,I.tok _,by rw[Yey r];exact q⟩
 |_=>exact (show False from e).elim
theorem Yic(ha:PE X a ta)(he:∀whole,isTrue a X.env whole=(do let v <-whole;standAt a.pos;holding [v] (truthy v))):
 PT X a (fun σ H Q=>ta σ H fun x H'=>∃k,TruV X.K x H' k/\Q k H'):=by
 intro pins s σ H Q I h
 exact isTrue_plain (thn (ha pins s σ H _ I h) fun v s1 ⟨x,H1,I1,r1,q1⟩=>Ykw pins s1 σ H1 x v Q I1 r1 q1) (he _)
theorem Yd9:OpR X (binaryOp .Add) (fun x y H Q=>∃i ti j tj,x=.str i ti/\y=.str j tj/\i.length+j.length<=sizeLine/\(i.length=0->Q (.str j tj) H)/\(j.length=0->Q (.str i ti) H)/\MkT (i++j) Q H):=by
 intro pins s σ H x y v u Q I rx ry h
 obtain⟨i,ti,j,tj,rfl,rfl,hz,q1,q2,q3⟩:=h
 cases rx
 cases ry
 refine PySem.P.add_str ?_
 by_cases h1:(i.length == 0)=true
 ·rw[if_pos h1];exact⟨.str j tj,H,I,rfl,q1 (by simpa using h1)⟩
 ·rw[if_neg h1]
  by_cases h2:(j.length == 0)=true
  ·rw[if_pos h2];exact⟨.str i ti,H,I,rfl,q2 (by simpa using h2)⟩
  ·rw[if_neg h2]
   exact⟨by have:(i++j).length=i.length+j.length:=Str.length_append i j;omega,.str (i++j) _,_,I.txt,rfl,q3 _ I.fresh_tok.1 I.fresh_tok.2⟩
theorem vals1{x:V}{us:List Value}(r:Vals [x] us):∃u,us=[u]/\RelV x u:=by
 cases r with
 |cons r1 r2=>cases r2;exact⟨_,rfl,r1⟩
theorem vals2{x y:V}{us:List Value}(r:Vals [x,y] us):∃u w',us=[u,w']/\RelV x u/\RelV y w':=by
 cases r with
 |cons r1 r2=>
  cases r2 with
  |cons r3 r4=>cases r4;exact⟨_,_,rfl,r1,r3⟩
theorem Ygd(hc:X.calm=true):CallR X (.builtin "min") (fun xs H Q=>∃i j,xs=[.int i,.int j]/\Q (.int (if j<i then j else i)) H):=by
 intro pins s σ H xs us Q I r h
 obtain⟨i,j,rfl,q⟩:=h
 obtain⟨u,w',rfl,⟨t,rfl⟩,⟨t',rfl⟩⟩:=vals2 r
 refine Tk.wpAny_le (min_two_ints (I.ok.hd hc) fun h' tk k le=>⟨_,H,I.kept k le,?_,q⟩)
 by_cases hj:j<i
 ·rw[if_pos hj,if_pos hj];exact⟨_,rfl⟩
 ·rw[if_neg hj,if_neg hj];exact⟨_,rfl⟩
end
end L2
namespace L2
open PySem PySem.Spec PyProof.Rows
structure ObjM(h:Heap)(x dx C:Addr)(mA:Str->Option Value):Prop where
 obj:h.get? x=some (PySem.W.instObj C dx)
 ns:h.Ns1 dx mA
 ne:dx≠x
section
variable{prog:Program}{w:World}{A:Around}{E:Value->Shared->Prop}{s:Shared}{K:PySem.W.Frag}{x dx C f:Addr}{mA:Str->Option Value}{name:Str}{v:Value}
end
theorem RelO.some_of{v:V}{o:Option Value}(r:RelO (some v) o):∃u,o=some u/\RelV v u:=by
 cases o with
 |none=>exact (show False from r).elim
 |some u=>exact⟨u,rfl,r⟩
section
variable{P:Program}{w:World}{H H':Hp}{h h':Heap}{a C dx:Addr}{fs fs':List (Str×V)}
end
structure Cls(K:PySem.W.Frag)(C:Addr):Prop where
 pg:PySem.W.plainGet K C Str.empty=true
 hd:PySem.W.hasDictIn K C=true
 po:PySem.W.plainOver K C=true
 sa:PySem.W.findIn K (.ref C) "__setattr__"=some (some (.builtin "object.__setattr__"))
structure Con(K:PySem.W.Frag)(C:Addr)(f:Str)(v:V)(u:Value):Prop where
 at_:PySem.W.findIn K (.ref C) f=some (some u)
 rel:RelV v u
 get:PySem.W.specialIn K u "__get__"=some none
 cp:PySem.W.copiedNames.contains f=false
structure Meth(K:PySem.W.Frag)(C:Addr)(m:Str)(f:Addr):Prop where
 at_:PySem.W.findIn K (.ref C) m=some (some (.ref f))
 fn:PySem.W.isFn K (.ref f)=true
 kp:PySem.W.keepIn K (.ref f)=true
section
variable{X:Cx}{pins:List (Addr×Obj)}{σ:St}{H:Hp}{s:Shared}{a C dx:Addr}{fs:List (Str×V)}{f:Str}{v:V}{A:Around}{E:Value->Shared->Prop}
theorem Inv.made(I:Inv X pins σ H s):Inv X pins σ (upd (upd H s.heap.objs.size (.own (s.heap.objs.size+1))) (s.heap.objs.size+1) (.ins C s.heap.objs.size []))
 { s with heap:=(s.heap.push PySem.W.emptyDict).push (PySem.W.instObj C s.heap.objs.size) }:=by
 have e1:(s.heap.push PySem.W.emptyDict).get? s.heap.objs.size=some PySem.W.emptyDict:=Heap.get?_push_size s.heap rfl
 have e2:((s.heap.push PySem.W.emptyDict).push (PySem.W.instObj C s.heap.objs.size)).get? (s.heap.objs.size+1)=some (PySem.W.instObj C s.heap.objs.size):=by
  have:=Heap.get?_push_size (s.heap.push PySem.W.emptyDict) (o:=PySem.W.instObj C s.heap.objs.size) rfl
  rwa[Heap.size_push]at this
 have e3:(s.heap.push PySem.W.emptyDict).Ns s.heap.objs.size (fun _=>none):=⟨PySem.W.emptyDict,#[],_,e1,rfl,(fun e he=>absurd he (by simp)),fun _=>rfl⟩
 have I1:=I.laid (a:=s.heap.objs.size) (o:=.own (s.heap.objs.size+1)) (h':=s.heap.push PySem.W.emptyDict) (t':=s.toks) (fun b u q=>Heap.get?_push_of_some _ q) (Nat.le_refl _) ⟨_,e1⟩
 refine I1.laid (a:=s.heap.objs.size+1) (o:=.ins C s.heap.objs.size []) (t':=s.toks) (fun b u q=>Heap.get?_push_of_some _ q) (Nat.le_of_eq (Heap.size_push _ _)) ?_
 have ne:s.heap.objs.size≠s.heap.objs.size+1:=Nat.ne_of_lt (Nat.lt_succ_self _)
 refine⟨by rw[Yt ne,Yq],Nat.zero_le _,ne,e2,fun _=>none,(Heap.Ns1.of_empty e3).at fun o q=>Heap.get?_push_of_some _ q,fun _=>True.intro,fun y hy=>absurd rfl hy⟩
end
section
variable{X:Cx}{o e value:Expr}{f:Str}{pos pos' tpos:Pos}{ta tv:TE}
end
section
variable{X:Cx}{pins:List (Addr×Obj)}{σ:St}{H:Hp}{s:Shared}{A:Around}{E:Value->Shared->Prop}{Q:Value->Shared->Prop}{c:Value}{b:Bool}
inductive TyOf(K:PySem.W.Frag)(H:Hp):V->Value->Prop where
 |non:TyOf K H .non (.type "NoneType")
 |bl (x:Bool):TyOf K H (.bl x) (.type "bool")
 |int (i:Int):TyOf K H (.int i) (.type "int")
 |str (x:Str) (t:Tok):TyOf K H (.str x t) (.type "str")
 |flt (x:UInt64):TyOf K H (.flt x) (.type "float")
 |lst {a:Addr} {xs:List V} (e:H a=some (.lst xs)):TyOf K H (.ref a) (.type "list")
 |frz {a:Addr} {o:Obj} {xs:List V} (e:H a=some (.frz o (.lst xs))):TyOf K H (.ref a) (.type "list")
 |tup {a:Addr} {xs:List V} (e:H a=some (.tup xs)):TyOf K H (.ref a) (.type "tuple")
 |dK {a:Addr} {kvs:List (Key×V)} (e:H a=some (.dK kvs)):TyOf K H (.ref a) (.type "dict")
 |dT {a:Addr} {kvs:List (DK×V)} (e:H a=some (.dT kvs)):TyOf K H (.ref a) (.type "dict")
 |ins {a C dx:Addr} {fs:List (Str×V)} (e:H a=some (.ins C dx fs)) (cl:Cls K C) (ha:PySem.W.findIn K (.ref C) "__class__"=some (some (.builtin "object.__class__")))
  (hn:PySem.W.specialIn K (.builtin "object.__class__") "__get__"=some (some (.builtin "getset_descriptor.__get__"))) (htk:PySem.W.takesIn K (.builtin "object.__class__")=some true)
  (hm:PySem.W.mroIn K C (.type "object")=some true):TyOf K H (.ref a) (.ref C)
end
end L2
namespace L2
open PySem PySem.Spec PyProof.Rows
structure Room(k:Nat)(A:Around):Prop where
 hd:A.handled=none
 dp:A.depth+3 * k+5<recursionLimit
 un:A.units+16 * k+200<cLine
theorem Room.mono{j k:Nat}{A:Around}(r:Room k A)(h:j<=k):Room j A:=⟨r.hd,by have:=r.dp;omega,by have:=r.un;omega⟩
theorem Room.deeper{k:Nat}{A:Around}(r:Room (k+1) A)(env:Env):Room k (A.deeper env):=
 ⟨r.hd,by have:=r.dp;show A.depth+1+3 * k+5<_;omega,by have:=r.un;show A.units+3+16 * k+200<_;omega⟩
theorem Room.depth{k:Nat}{A:Around}(r:Room k A):A.depth<recursionLimit:=by have:=r.dp;omega
theorem Room.units{k:Nat}{A:Around}(r:Room k A):A.units+64<cLine:=by have:=r.un;omega
def tNil:TA:=fun _ H Q=>Q [] H
def tCons(ta:TE)(tr:TA):TA:=fun σ H Q=>ta σ H fun x H1=>tr σ H1 fun xs H2=>Q (x::xs) H2
section
variable{X:Cx}{e:Expr}{es:List Expr}{te:TE}{t:TA}{pos:Pos}
theorem JN:PA X [] tNil:=fun _ _ _ _ H Q I h=>Calls.spliced_nil ⟨[],H,I,.nil,h⟩
theorem Vr(ha:PE X e te)(hr:PA X es t)(hs:starEach (e::es) X.env=(false,eval e X.env)::starEach es X.env:=by rfl):PA X (e::es) (tCons te t):=by
 intro pos pins s σ H Q I h
 rw[hs]
 show wpAny _ _ (spliced ((false,eval e X.env)::backTo pos (starEach es X.env))) _ _ s
 refine Calls.spliced_cons (thn (ha pins s σ H _ I h) fun u s1 ⟨x,H1,I1,r1,q1⟩=>?_)
 exact thn (hr pos pins s1 σ H1 _ I1 q1) fun us s2 ⟨xs,H2,I2,r2,q2⟩=>⟨x::xs,H2,I2,.cons r1 r2,q2⟩
def tTup(t:TA):TE:=fun σ H Q=>t σ H fun xs H1=>xs.length<=sizeLine/\∀p,H1 p=none->Q (.ref p) (upd H1 p (.tup xs))
def tLst(t:TA):TE:=fun σ H Q=>t σ H fun xs H1=>xs.length<=sizeLine/\∀p,H1 p=none->Q (.ref p) (upd H1 p (.lst xs))
theorem YkM{x1}(h:PA X es t):PE X (.Tuple es x1 pos) (tTup t):=by
 intro pins s σ H Q I hq
 refine wpAny_Tuple_spliced (thn (h pos pins s σ H _ I hq) fun us s1 ⟨xs,H1,I1,r,z,q⟩=>⟨by rw[<-r.length];exact z,?_⟩)
 have hf:H1 s1.heap.objs.size=none:=I1.hok.fresh (Nat.le_refl _)
 refine⟨.ref s1.heap.objs.size,upd H1 s1.heap.objs.size (.tup xs),I1.laid (t':=s1.toks) (fun b u e=>Heap.get?_push_of_some _ e) (Nat.le_refl _) ?_,rfl,q _ hf⟩
 exact⟨z,us,r,⟨_,Heap.get?_push_size _ rfl,rfl,_,rfl⟩⟩
theorem Yk6(h:PA X es t):PE X (.List es pos) (tLst t):=by
 intro pins s σ H Q I hq
 refine wpAny_List_spliced (thn (h pos pins s σ H _ I hq) fun us s1 ⟨xs,H1,I1,r,z,q⟩=>⟨by rw[<-r.length];exact z,?_⟩)
 have hf:H1 s1.heap.objs.size=none:=I1.hok.fresh (Nat.le_refl _)
 refine⟨.ref s1.heap.objs.size,upd H1 s1.heap.objs.size (.lst xs),I1.laid (t':=s1.toks) (fun b u e=>Heap.get?_push_of_some _ e) (Nat.le_refl _) ?_,rfl,q _ hf⟩
 exact⟨z,us,0,r,Heap.get?_push_size _ rfl⟩
end
abbrev Sp:=List V->Hp->VK->XK->Prop
abbrev CXT:=List Env->Hp->Shared->XK->Value->Shared->Prop
structure Env0(P:Program)(w:World)(K:PySem.W.Frag)(mg:Str->Option Value)(base:Heap)(A:Around)(outer:List Env)(s:Shared)(H:Hp):Prop where
 frames:A.frames=some outer
 mod:Mod K mg base
 bs:∀b o,base.get? b=some o->s.heap.get? b=some o/\H b=none
 bsz:base.objs.size<=s.heap.objs.size
 funs:s.heap.FunFrames base outer
 frf:∀b∈frs outer,H b=none
 hok:HOk P w H s.heap
 bare:AllBare s.gens
 tk:∀t,s.toks<=t->H.τ t=none
def CE(outer:List Env)(P:Program)(w:World)(H:Hp)(s:Shared)(Q:VK)(u:Value)(s':Shared):Prop:=
 ∃v H',s'.os=s.os/\AllBare s'.gens/\Un (frs outer) [] H H' s.heap s'.heap/\HOk P w H' s'.heap/\TkOk H' s'.toks/\RelV v u/\Q v H'
def CR(CX:CXT)(outer:List Env)(P:Program)(w:World)(H:Hp)(s:Shared)(Q:VK)(E:XK)(r:Result)(s':Shared):Prop:=
 match r with
 | .ok (.ret u)=>CE outer P w H s Q u s'
 | .ok _=>False
 | .error e=>CX outer H s E e s'
def LocF(fd:FuncData)(ps:List Str)(s:Shared):Prop:=0<s.toks\/∃y r,ps=y::r/\fd.scope.names.lookup y=some .local
structure FnOk(P:Program)(w:World)(K:PySem.W.Frag)(mg:Str->Option Value)(base:Heap)(CX:CXT)(k:Nat)(f:Addr)(fd:FuncData)(ps:List Str)(sp:Sp):Prop where
 len:∀vs H Q E,sp vs H Q E->vs.length=ps.length
 run:∀(A:Around)(outer:List Env)(s:Shared)(H:Hp)(args:Args)(us:List Value)(vs:List V)(Q:VK)(E:XK),Room k A->Env0 P w K mg base A outer s H->LocF fd ps s->BindsTo s fd args (ps.zip us)->Vals vs us->sp vs H Q E->
  codeAny (model P w) A (.call (.ref f) args) (CR CX outer P w H s Q E) s
theorem FnOk.mono{P:Program}{w:World}{K:PySem.W.Frag}{mg:Str->Option Value}{base:Heap}{CX:CXT}{j k:Nat}{f:Addr}{fd:FuncData}{ps:List Str}{sp:Sp}(F:FnOk P w K mg base CX j f fd ps sp)(h:j<=k):
 FnOk P w K mg base CX k f fd ps sp:=⟨F.len,fun A outer s H args us vs Q E hr=>F.run A outer s H args us vs Q E (hr.mono h)⟩
theorem FnOk.imp{P:Program}{w:World}{K:PySem.W.Frag}{mg:Str->Option Value}{base:Heap}{CX:CXT}{k:Nat}{f:Addr}{fd:FuncData}{ps:List Str}{sp sp':Sp}(F:FnOk P w K mg base CX k f fd ps sp)
 (h:∀vs H Q E,sp' vs H Q E->sp vs H Q E):FnOk P w K mg base CX k f fd ps sp':=
 ⟨fun vs H Q E q=>F.len vs H Q E (h _ _ _ _ q),fun A outer s H args us vs Q E hr he hp hb hv hs=>F.run A outer s H args us vs Q E hr he hp hb hv (h _ _ _ _ hs)⟩
section
variable{X:Cx}{pins:List (Addr×Obj)}{σ:St}{H:Hp}{s s':Shared}
theorem Inv.env0(I:Inv X pins σ H s):Env0 X.prog X.w X.K X.mg X.base X.A X.stack s H:=
 ⟨I.ok.frames,I.ok.mod,I.bs,Nat.le_trans I.ok.bsz I.sz,I.stack,I.stkFree,I.hok,I.bare,I.tk.2⟩
theorem Inv.after{Q:VK}{u:Value}(I:Inv X pins σ H s)(h:CE X.stack X.prog X.w H s Q u s'):EP X pins σ Q u s':=by
 obtain⟨v,H',os,bare,un,hok,tk,r,q⟩:=h
 obtain⟨hh,g,d,t,os'⟩:=s'
 obtain rfl:os'=s.os:=os
 exact⟨v,H',I.call (h':=hh) (g':=g) (d':=d) (t':=t) (ch:=[]) un hok bare (fun b z=>absurd z (by simp)) tk,r,q⟩
end
def tCall(sp:Sp)(dvs:List V)(E:XK)(t:TA):TE:=fun σ H Q=>t σ H fun vs H1=>sp (vs++dvs) H1 Q E
def Binds(K:PySem.W.Frag)(fd:FuncData)(ps:List Str)(ds:List Value):Prop:=
 ∀(s:Shared)(us:List Value),K.In s.heap->(us++ds).length=ps.length->BindsTo s fd ⟨us,[]⟩ (ps.zip (us++ds))
theorem Binds.all{K:PySem.W.Frag}{fd:FuncData}{ps:List Str}(h:∀us:List Value,us.length=ps.length->bindArgs fd ⟨us,[]⟩=pure (ps.zip us)):Binds K fd ps []:=fun s us _ hl=>by
 rw[List.append_nil]at hl ⊢
 exact .of_eq (h us hl)
def Passes(CX:CXT)(X:Cx)(E:XK):Prop:=∀(pins:List (Addr×Obj))(σ:St)(H:Hp)(s:Shared)(e:Value)(s':Shared),Inv X pins σ H s->CX X.stack H s E e s'->X.xe e s'
section
variable{X:Cx}{CX:CXT}{k:Nat}{f C:Addr}{fd:FuncData}{ps:List Str}{sp:Sp}{dvs:List V}{ds:List Value}{E:XK}{x m:Str}{p pos apos:Pos}{e o:Expr}{es:List Expr}{ta:TE}{t:TA}
theorem YgM{pins:List (Addr×Obj)}{σ:St}{H:Hp}{s:Shared}{Q:VK}{us:List Value}{vs:List V}(F:FnOk X.prog X.w X.K X.mg X.base CX k f fd ps sp)(hr:Room k X.A)(hb:Binds X.K fd ps ds)(hd:Vals dvs ds)(hx:Passes CX X E)
 (I:Inv X pins σ H s) (r:Vals vs us) (h:sp (vs++dvs) H Q E):wpAny (model X.prog X.w) X.A (call (.ref f) us) (EP X pins σ Q) X.xe s:=by
 have r2:Vals (vs++dvs) (us++ds):=r.append hd
 have hl:(us++ds).length=ps.length:=by rw[<-r2.length];exact F.len _ _ _ _ h
 refine wpAny_call (codeAny_mono (F.run X.A X.stack s H ⟨us,[]⟩ (us++ds) (vs++dvs) Q E hr I.env0 (.inl I.tk.1) (hb s us I.kIn hl) r2 h) fun r s' hq=>?_)
 cases r with
 |error e=>exact hx pins σ H s e s' I hq
 |ok fl=>
  cases fl with
  |ret u=>exact I.after hq
  |next=>exact False.elim hq
  |brk=>exact False.elim hq
  |cont=>exact False.elim hq
theorem Yjt(F:FnOk X.prog X.w X.K X.mg X.base CX k f fd ps sp)(hr:Room k X.A)(hg:Gl X x)(hm:X.mg x=some (.ref f))(hk:PySem.W.keepIn X.K (.ref f)=true)(hb:Binds X.K fd ps ds)(hd:Vals dvs ds)(hx:Passes CX X E)
 (ha:PA X (e::es) t) (hdb:(x == ("__debug__":Str))=false:=by decide) (he:starEach (e::es) X.env=(false,eval e X.env)::starEach es X.env:=by rfl) (hpl:(backTo pos (starEach es X.env)).any (·.1)=false:=by rfl):
 PE X (.Call (.Name x p) (e::es) [] pos) (tCall sp dvs E t):=by
 intro pins s σ H Q I h
 refine wpAny_Call_Name_kw (Ye4 I hg hm ?_ hdb)
 refine PySem.W.callWith_K (h₀:=X.base) I.ok.mod.kin hk (thn (ha pos pins s σ H _ I h) fun us s1 ⟨vs,H1,I1,r,q⟩=>⟨I1.kIn,?_⟩) he hpl
 exact YgM F hr hb hd hx I1 r q
structure Mk(K:PySem.W.Frag)(C f:Addr):Prop where
 makes:PySem.W.makesIn K C=true
 init:PySem.W.findIn K (.ref C) "__init__"=some (some (.ref f))
 fn:PySem.W.isFn K (.ref f)=true
 kp:PySem.W.keepIn K (.ref C)=true
end
section
variable{X:Cx}{CX:CXT}{k:Nat}{f C:Addr}{fd:FuncData}{ps ks:List Str}{sp:Sp}{E:XK}{x m:Str}{p pos apos kpos:Pos}{e o:Expr}{es:List Expr}{kws:List Keyword}{te ta:TE}{t tk:TA}{nm:Option Str}
structure KBinds(K:PySem.W.Frag)(fd:FuncData)(ps ks:List Str)(g:List Value->List Value->List Value)(gV:List V->List V->List V):Prop where
 to:∀(s:Shared)(us ws:List Value),K.In s.heap->(g us ws).length=ps.length->BindsTo s fd ⟨us,ks.zip ws⟩ (ps.zip (g us ws))
 rel:∀{vs:List V}{us:List Value}{zs:List V}{ws:List Value},Vals vs us->Vals zs ws->Vals (gV vs zs) (g us ws)
variable{g:List Value->List Value->List Value}{gV:List V->List V->List V}
end
structure FnScope(N P:List Str)(sc:Scope):Prop where
 kind:sc.kind=.function
 co:sc.isCoroutine=false
 gen:sc.isGenerator=false
 nd:N.Nodup
 pre:N.take P.length=P
 par:∀x∈P,sc.names.lookup x=some .local\/sc.names.lookup x=some .cell
 nofree:∀y∈sc.names,y.2≠.free
theorem YbN{kindOf:Str->Option NameKind}{x:Str}:∀{binds:List (Str×Value)}{m:Str->Option Value},(∀v,(x,v)∉binds)->bindL kindOf binds m x=m x
 | [],_,_=>rfl
 |(n,v)::r,m,h=>by
  unfold bindL
  rw[YbN fun w hw=>h w (List.mem_cons_of_mem _ hw)]
  split
  ·have:x≠n:=by rintro rfl;exact h v List.mem_cons_self
   simp[this]
  ·rfl
theorem Yb5{kindOf:Str->Option NameKind}{x:Str}:∀{binds:List (Str×Value)}{m:Str->Option Value},(∀v,(x,v)∉binds)->bindC kindOf binds m x=m x
 | [],_,_=>rfl
 |(n,v)::r,m,h=>by
  unfold bindC
  rw[Yb5 fun w hw=>h w (List.mem_cons_of_mem _ hw)]
  split
  ·rfl
  ·have:x≠n:=by rintro rfl;exact h v List.mem_cons_self
   simp[this]
theorem YbO{kindOf:Str->Option NameKind}{x:Str}{v:Value}:∀{P:List Str}{vs:List Value}{i:Nat}{m:Str->Option Value},P.Nodup->P[i]?=some x->vs[i]?=some v->kindOf x=some .local->
 bindL kindOf (P.zip vs) m x=some v
 | [],_,_,_,_,h,_,_=>by simp at h
 |_::_,[],_,_,_,_,h,_=>by simp at h
 |p::P,w::vs,0,m,nd,h1,h2,hk=>by
  simp at h1 h2;subst h1;subst h2
  show bindL kindOf ((p,w)::P.zip vs) m p=_
  unfold bindL
  rw[YbN fun v hv=>(List.nodup_cons.mp nd).1 (List.of_mem_zip hv).1,if_pos hk]
  simp
 |p::P,w::vs,i+1,m,nd,h1,h2,hk=>by
  show bindL kindOf ((p,w)::P.zip vs) m x=_
  unfold bindL
  exact YbO (i:=i) (List.nodup_cons.mp nd).2 (by simpa using h1) (by simpa using h2) hk
theorem YbG{kindOf:Str->Option NameKind}{x:Str}{v:Value}:∀{P:List Str}{vs:List Value}{i:Nat}{m:Str->Option Value},P.Nodup->P[i]?=some x->vs[i]?=some v->kindOf x≠some .local->
 bindC kindOf (P.zip vs) m x=some v
 | [],_,_,_,_,h,_,_=>by simp at h
 |_::_,[],_,_,_,_,h,_=>by simp at h
 |p::P,w::vs,0,m,nd,h1,h2,hk=>by
  simp at h1 h2;subst h1;subst h2
  show bindC kindOf ((p,w)::P.zip vs) m p=_
  unfold bindC
  rw[Yb5 fun v hv=>(List.nodup_cons.mp nd).1 (List.of_mem_zip hv).1,if_neg hk]
  simp
 |p::P,w::vs,i+1,m,nd,h1,h2,hk=>by
  show bindC kindOf ((p,w)::P.zip vs) m x=_
  unfold bindC
  exact YbG (i:=i) (List.nodup_cons.mp nd).2 (by simpa using h1) (by simpa using h2) hk
def start(N:List Str)(vs:List V):St:=vs.map some++List.replicate (N.length - vs.length) none
def cxOf(CX:CXT)(P:Program)(w:World)(K:PySem.W.Frag)(mg:Str->Option Value)(base:Heap)(N:List Str)(qual:Str)(scope:Scope)(f:Addr)(cd:Value)(A:Around)(outer:List Env)(s:Shared)(H:Hp)(E:XK):Cx where
 prog:=P
 w:=w
 K:=K
 mg:=mg
 base:=base
 A:=A.deeper (envOfC qual scope s.heap.objs.size f cd)
 N:=N
 s₀:=s
 H₀:=H
 env:=envOfC qual scope s.heap.objs.size f cd
 outer:=outer
 stack:=envOfC qual scope s.heap.objs.size f cd::outer
 ex:=[]
 calm:=true
 fn:=fun _=>true
 pn:=[]
 xe:=fun e s'=>wpAny (model P w) (A.deeper (envOfC qual scope s.heap.objs.size f cd)) (leaving (envOfC qual scope s.heap.objs.size f cd) e) (fun _ s''=>CX outer H s E e s'') (fun e' s''=>CX outer H s E e' s'') s'
theorem YdE{sc:Scope}{n:Nat}{x:Str}(h:sc.names.lookup x=some .cell):∃c,(cellsFrom n sc.names []).lookup x=some c:=by
 have q:=PySem.W.cellsFrom_some sc.names n [] (.inl h)
 exact Option.isSome_iff_exists.mp q
theorem YgC{CX:CXT}{P:Program}{w:World}{K:PySem.W.Frag}{mg:Str->Option Value}{base:Heap}{N ps:List Str}{qual:Str}{scope:Scope}{f:Addr}{cd:Value}{A:Around}{outer:List Env}{s s1:Shared}{H:Hp}{E:XK}{us:List Value}{vs:List V}
 (S:FnScope N ps scope) (hd:A.handled=none) (e0:Env0 P w K mg base A outer s H) (hl:vs.length=ps.length) (r:Vals vs us)
 (x:InCallC s s.heap.objs.size (bindL (envOfC qual scope s.heap.objs.size f cd).kindOf (ps.zip us) fun _=>none) (cellsFrom (s.heap.objs.size+1) scope.names []) (bindC (envOfC qual scope s.heap.objs.size f cd).kindOf (ps.zip us) fun _=>none) s1) (htk:TkOk H s1.toks):
 Inv (cxOf CX P w K mg base N qual scope f cd A outer s H E) [] (start N vs) H s1:=by
 have hpl:ps.length<=N.length:=by have:=congrArg List.length S.pre;rw[List.length_take]at this;omega
 obtain⟨h1,tk,rfl,hk⟩:=x.done
 have noA:∀b:Addr,b∉(cxOf CX P w K mg base N qual scope f cd A outer s H E).ex:=fun b z=>absurd (show b∈([]:List Addr) from z) (by simp)
 refine⟨⟨e0.mod,S.kind,rfl,rfl,Nat.le_refl _,fun y z c h1 h2=>?_,fun y hy=>?_,fun y c _ h=>?_,fun _=>hd,Around.frames_deeper e0.frames,.inr ⟨rfl,rfl⟩,fun b z=>absurd z (noA b),e0.bs,e0.bsz,fun b _ _=>noA b,fun b z=>absurd z (noA b),e0.funs,e0.frf⟩,
  rfl,e0.bare,Un.kept hk,⟨_,x.toInCall.ns,fun i y v h1 h2 h3=>?_⟩,fun y c h=>⟨_,x.cell y c h⟩,e0.hok.fresh (Nat.le_refl _),fun y c h=>?_,fun p hp=>absurd (show p∈([]:List (Addr×Obj)) from hp) (by simp),e0.hok.kept hk,?_,htk⟩
 ·exact name_of_addr x.apart (PySem.mem_of_lookup h1) (PySem.mem_of_lookup h2)
 ·have hy:scope.names.lookup y=some .cell\/scope.names.lookup y=some .free:=hy
  rcases hy with hy|hy
  ·exact YdE hy
  ·exact absurd rfl (S.nofree _ (PySem.mem_of_lookup hy))
 ·exact Nat.le_of_lt (x.above y c (PySem.mem_of_lookup h))
 ·have hi:i<vs.length:=by
   unfold start at h2
   by_cases hi:i<vs.length
   ·exact hi
   ·rw[List.getElem?_append_right (by simpa using hi)]at h2
    rw[List.getElem?_replicate]at h2
    split at h2 <;> cases h2
  have ha:vs[i]?=some v:=by
   unfold start at h2
   rw[List.getElem?_append_left (by simpa using hi),List.getElem?_map]at h2
   cases e:vs[i]? with
   |none=>rw[e]at h2;cases h2
   |some a=>rw[e]at h2;cases h2;rfl
  obtain⟨u,hu,rv⟩:=r.get ha
  have hp:ps[i]?=some y:=by
   rw[<-S.pre,List.getElem?_take_of_lt (by omega)];exact h1
  have ndP:ps.Nodup:=by rw[<-S.pre];exact S.nd.sublist (List.take_sublist _ _)
  refine⟨u,rv,?_⟩
  rcases S.par y (List.mem_of_getElem? hp) with k|k
  ·exact .inl ⟨k,YbO ndP hp hu k⟩
  ·obtain⟨c,e⟩:=YdE (n:=s.heap.objs.size+1) k
   refine .inr ⟨.inl k,c,e,?_⟩
   have q:=x.cell y c e
   rw[YbG ndP hp hu (by show scope.names.lookup y≠_;rw[k];decide)]at q
   exact q
 ·exact e0.hok.fresh (Nat.le_of_lt (x.above y c (PySem.mem_of_lookup h)))
 ·unfold start
  show _=N.length
  rw[List.length_append,List.length_map,List.length_replicate]
  omega
theorem YlM{CX:CXT}{P:Program}{w:World}{K:PySem.W.Frag}{mg:Str->Option Value}{base:Heap}{k:Nat}{f:Addr}{name qual:Str}{params:Arguments}{body:List Stmt}{scope:Scope}{dV kV doc pm cdv ct oc:Value}{an od:Option Addr}
 {osl:Array (Option Value)} {N ps:List Str} {sp:Sp} (lk:K.lookup f=some ⟨oc,od,.func (PySem.W.fnOf name qual params body scope dV kV doc pm an cdv ct),osl⟩) (hcd:PySem.W.codeIn K cdv qual=true) (S:FnScope N ps scope)
 (len:∀vs H Q E,sp vs H Q E->vs.length=ps.length)
 (hbody:∀(A:Around)(outer:List Env)(s:Shared)(H:Hp)(vs:List V)(Q:VK)(E:XK),Room k (A.deeper (envOfC qual scope s.heap.objs.size f cdv))->sp vs H Q E->
  ∃t,PSs (cxOf CX P w K mg base N qual scope f cdv A outer s H E) body t/\t { nx:=fun _ H'=>Q .non H',rt:=Q } (start N vs) H):
 FnOk P w K mg base CX (k+1) f (PySem.W.fnOf name qual params body scope dV kV doc pm an cdv ct) ps sp:=by
 refine⟨len,fun A outer s H args us vs Q E hr e0 hp hb r hsp=>?_⟩
 have hl:=len _ _ _ _ hsp
 have hpos:0<s.toks\/∃x v q,ps.zip us=(x,v)::q/\scope.names.lookup x=some .local:=by
  rcases hp with z|⟨y,q,rfl,z⟩
  ·exact .inl z
  ·have lu:=r.length
   rw[hl]at lu
   cases us with
   |nil=>simp at lu
   |cons u us=>exact .inr ⟨y,u,_,rfl,z⟩
 have KX:K.In s.heap:=e0.mod.kin.keeps fun b o e=>(e0.bs b o e).1
 have lim:s.heap.NoLimit:=e0.mod.nolimit.keeps fun b o e=>(e0.bs b o e).1
 have hkind:∀y∈ps.zip us,scope.names.lookup y.1=some .local\/(scope.names.lookup y.1=some .cell/\((cellsFrom (s.heap.objs.size+1) scope.names []).lookup y.1).isSome=true):=fun ⟨n,v⟩ hy=>by
  rcases S.par n (List.of_mem_zip hy).1 with q|q
  ·exact .inl q
  ·exact .inr ⟨q,PySem.W.cellsFrom_some _ _ _ (.inl q)⟩
 refine codeAny_call_function hr.depth (KX _ _ lk) rfl S.co S.gen rfl (PySem.W.codeRec_of KX hcd) (hb _ _ _ _ ?_)
 refine Tk.wpAny_env S.kind hpos (wpAny_newFunctionEnv_cells S.kind hkind fun env he s1 x le pos=>?_)
 subst he
 refine⟨lim.keeps x.toInCall.keep,codeAny_func ?_⟩
 obtain⟨t,ht,hq⟩:=hbody A outer s H vs Q E (hr.deeper _) hsp
 have I:Inv (cxOf CX P w K mg base N qual scope f cdv A outer s H E) [] (start N vs) H s1:=YgC S hr.hd e0 hl r x ⟨pos,fun t q=>e0.tk t (Nat.le_trans le q)⟩
 refine wpAny_mono (ht [] s1 (start N vs) H _ I hq) (fun fl s' hs=>?_) fun e s' hs=>hs
 have fin:∀{σ':St}{H':Hp}{v:V}{u:Value},Inv (cxOf CX P w K mg base N qual scope f cdv A outer s H E) [] σ' H' s'->RelV v u->Q v H'->CE outer P w H s Q u s':=
  fun {σ' H' v u} J rv q=>⟨v,H',J.os,J.bare,J.base,J.hok,J.tk,rv,q⟩
 cases fl with
 |ret u=>
  obtain⟨v,σ',H',J,rv,q⟩:=hs
  exact fin J rv q
 |next=>
  obtain⟨σ',H',J,q⟩:=hs
  exact fin (v:=V.non) (u:=Value.none) J rfl q
 |brk=>
  obtain⟨_,_,_,q⟩:=hs
  exact False.elim q
 |cont=>
  obtain⟨_,_,_,q⟩:=hs
  exact False.elim q
end L2
namespace L2
open PySem PySem.Spec PyProof.Rows
section
variable{X:Cx}{x:Str}{p pos:Pos}{e:Expr}{es:List Expr}{t:TA}{id T:String}{r:List V->Hp->VK->Prop}
def tCB(r:List V->Hp->VK->Prop)(t:TA):TE:=fun σ H Q=>t σ H fun vs H1=>r vs H1 Q
theorem YaQ(hc:CallR X (.builtin id) r)(hg:Gl X x)(hm:X.mg x=none)(hv:bootBuiltins x=some (.builtin id))(ha:PA X (e::es) t)(hn:x≠"__name__":=by decide) (hdb:(x == ("__debug__":Str))=false:=by decide)
 (he:starEach (e::es) X.env=(false,eval e X.env)::starEach es X.env:=by rfl) (hpl:(backTo pos (starEach es X.env)).any (·.1)=false:=by rfl):PE X (.Call (.Name x p) (e::es) [] pos) (tCB r t):=by
 intro pins s σ H Q I h
 refine wpAny_Call_Name_kw (Yav I hg hm hv ?_ hn hdb)
 exact PyProof.Rows.callWith_builtin1 (thn (ha pos pins s σ H _ I h) fun us s1 ⟨vs,H1,I1,r1,q1⟩=>hc pins s1 σ H1 vs us Q I1 r1 q1) he hpl
theorem JP(hc:CallR X (.type T) r)(hg:Gl X x)(hm:X.mg x=none)(hv:bootBuiltins x=some (.type T))(ha:PA X (e::es) t)(hn:x≠"__name__":=by decide) (hdb:(x == ("__debug__":Str))=false:=by decide)
 (he:starEach (e::es) X.env=(false,eval e X.env)::starEach es X.env:=by rfl) (hpl:(backTo pos (starEach es X.env)).any (·.1)=false:=by rfl):PE X (.Call (.Name x p) (e::es) [] pos) (tCB r t):=by
 intro pins s σ H Q I h
 refine wpAny_Call_Name_kw (Yav I hg hm hv ?_ hn hdb)
 exact PyProof.Rows.callWith_type1 (thn (ha pos pins s σ H _ I h) fun us s1 ⟨vs,H1,I1,r1,q1⟩=>hc pins s1 σ H1 vs us Q I1 r1 q1) he hpl
end
end L2
namespace HT
open PySem PyProof.Rows
section
open PySem.SeqAt
open PySem.AutoSeq1 (wpAny_loadPart')
open PySem.MeetsSeq PySem.MeetsSeq2 PySem.MeetsSeq3
end
section
variable{prog:Program}{w:World}{A:Around}{E:Value->Shared->Prop}{s:Shared}
theorem cat_tup{t b:Addr}{vs ws:List Value}{Q:Value->Shared->Prop}(ht:IsTup s.heap t vs.toArray)(hb:IsTup s.heap b ws.toArray)(hv:vs≠[])
 (h1:ws=[]->Q (.ref t) s) (h2:ws≠[]->Q (.ref s.heap.objs.size) { s with heap:=s.heap.push { cls:=.type "tuple",data:=.seq (vs++ws).toArray } })
 (hsz:vs.length+ws.length<=sizeLine):wpAny (model prog w) A (binaryOp .Add (.ref t) (.ref b)) Q E s:=by
 obtain⟨⟨cls,dd,data,sl⟩,ho,hc,n,hd⟩:=id ht
 obtain⟨⟨cls2,dd2,data2,sl2⟩,ho2,hc2,n2,hd2⟩:=id hb
 simp only at hc hd hc2 hd2
 subst hc hd hc2 hd2
 have e:vs.toArray++ws.toArray=(vs++ws).toArray:=by simp
 by_cases hw:ws=[]
 ·exact concat_meets ⟨_,ho,rfl⟩ ⟨_,ho2,rfl⟩ noFill_tuple_add seq_tuple_add PySem.F.slot_tuple_add PySem.F.entry_tuple_add (PySem.F.args_tuple_add_2 _ _)
   (tuple_addW1 t b vs.toArray ws.toArray n n2 dd dd2 sl sl2 (by simpa using hv) (by simp[hw])) ⟨ho,ho2,h1 hw⟩
 ·refine concat_meets ⟨_,ho,rfl⟩ ⟨_,ho2,rfl⟩ noFill_tuple_add seq_tuple_add PySem.F.slot_tuple_add PySem.F.entry_tuple_add (PySem.F.args_tuple_add_2 _ _)
   (tuple_addW2 t b vs.toArray ws.toArray n n2 dd dd2 sl sl2 (by simpa using hv) (by simpa using hw) (by rw[List.size_toArray,List.size_toArray];exact hsz)) ⟨ho,ho2,?_⟩
  rw[e]
  exact h2 hw
def sIx(n d:Nat):Option Int->Nat
 |none=>d
 |some v=>if v<0 then (v+(n:Int)).toNat else min v.toNat n
theorem YkD(n d:Nat)(hd:d<=n)(o:Option Int):sIx n d o<=n:=by
 cases o with
 |none=>exact hd
 |some v=>
  show (if v<0 then (v+(n:Int)).toNat else min v.toNat n)<=n
  by_cases hv:v<0
  ·rw[if_pos hv];omega
  ·rw[if_neg hv];exact Nat.min_le_right _ _
theorem Yfg(v:Int)(n d:Nat):(if v<0 then max (v+(n:Int)) 0 else min v (n:Int))=((sIx n d (some v):Nat):Int):=by
 show (if v<0 then max (v+(n:Int)) 0 else min v (n:Int))=(((if v<0 then (v+(n:Int)).toNat else min v.toNat n):Nat):Int)
 by_cases hv:v<0
 ·simp only[if_pos hv];omega
 ·simp only[if_neg hv];omega
theorem YeS(lo hi:Option Int)(n:Nat):Builtin.Slice.sliceAdjust lo hi 1 (n:Int)=(((sIx n 0 lo:Nat):Int),((sIx n n hi:Nat):Int)):=by
 have h1:¬((1:Int)<0):=by omega
 unfold Builtin.Slice.sliceAdjust
 simp only[h1,if_false]
 refine Prod.ext ?_ ?_
 ·cases lo with
  |none=>rfl
  |some v=>exact Yfg v n 0
 ·cases hi with
  |none=>rfl
  |some v=>exact Yfg v n n
theorem Yev(i j:Nat):Builtin.Slice.slicePlaces (i:Int) (j:Int) 1=j - i:=by
 unfold Builtin.Slice.slicePlaces
 have h1:(1:Int) > 0:=by omega
 simp only[h1,if_true,Int.ediv_one]
 split <;> omega
theorem YaO{v:Value}{o:Option Int}{Q:Option Int->Shared->Prop}(p:IsPart v o)(h:Q o s):wpAny (model prog w) A (Builtin.Slice.slicePartIndex v) Q E s:=by
 cases p with
 |none=>exact slicePart_none h
 |int i t=>exact slicePart_int h
theorem sliceApplied_gen{sl:Addr}{vl vu:Value}{lo hi:Option Int}{n:Nat}{Q:Int×Int×Nat->Shared->Prop}(hs:s.heap.IsSliceOf sl vl vu .none)(pl:IsPart vl lo)(pu:IsPart vu hi)
 (h:Q (((sIx n 0 lo:Nat):Int),1,sIx n n hi - sIx n 0 lo) s):wpAny (model prog w) A (Builtin.Slice.sliceApplied (.ref sl) (pure (n:Int))) Q E s:=by
 obtain⟨os,hos,hcs,hds⟩:=id hs
 unfold Builtin.Slice.sliceApplied Builtin.Slice.sliceFields
 refine wpAny_bind (wpAny_bind (wpAny_field hos hds (x:=vl) rfl (wpAny_bind (wpAny_field hos hds (x:=vu) rfl (wpAny_bind (wpAny_field hos hds (x:=.none) rfl (wpAny_pure ?_)))))))
 refine wpAny_bind (slicePart_none ?_)
 show wpAny _ _ (if ((1:Int) == 0)=true then _ else _) _ _ s
 rw[if_neg (by decide)]
 refine wpAny_bind (YaO pl (wpAny_bind (YaO pu (wpAny_bind (wpAny_pure ?_)))))
 show wpAny _ _ (match Builtin.Slice.sliceAdjust lo hi 1 (n:Int) with|(lo,hi)=>pure (lo,(1:Int),Builtin.Slice.slicePlaces lo hi 1)) _ _ s
 rw[YeS lo hi n]
 show wpAny _ _ (pure (((sIx n 0 lo:Nat):Int),(1:Int),Builtin.Slice.slicePlaces ((sIx n 0 lo:Nat):Int) ((sIx n n hi:Nat):Int) 1)) _ _ s
 rw[Yev]
 exact wpAny_pure h
theorem Yij(xs:Array Value)(i k:Nat):((List.range k).filterMap fun (m:Nat)=>xs[((i:Int)+(m:Int) * 1).toNat]?).toArray=((xs.toList.drop i).take k).toArray:=by
 have e:(fun (m:Nat)=>xs[((i:Int)+(m:Int) * 1).toNat]?)=fun m=>xs[i+m]?:=by
  funext m
  have:((i:Int)+(m:Int) * 1).toNat=i+m:=by omega
  rw[this]
 rw[e]
 have:=pick_run xs i k
 rw[List.filterMap_map]at this
 have e2:((fun x=>xs[x]?)∘fun x=>i+x)=fun m=>xs[i+m]?:=rfl
 rw[e2]at this
 rw[this]
theorem getItem_tuple_cut{t sl:Addr}{items:Array Value}{vl vu:Value}{lo hi:Option Int}{Q:Value->Shared->Prop}(ht:IsTup s.heap t items)(hs:s.heap.IsSliceOf sl vl vu .none)(pl:IsPart vl lo)(pu:IsPart vu hi)
 (hw:¬(sIx items.size 0 lo=0/\sIx items.size items.size hi=items.size))
 (h:Q (.ref s.heap.objs.size) { s with heap:=s.heap.push { cls:=.type "tuple",data:=.seq ((items.toList.drop (sIx items.size 0 lo)).take (sIx items.size items.size hi - sIx items.size 0 lo)).toArray } })
 (hsz:items.size<=sizeLine):wpAny (model prog w) A (getItem (.ref t) (.ref sl)) Q E s:=by
 have htake:sizeOk (.seq ((items.toList.drop (sIx items.size 0 lo)).take (sIx items.size items.size hi - sIx items.size 0 lo)).toArray):=by
  show ((items.toList.drop (sIx items.size 0 lo)).take (sIx items.size items.size hi - sIx items.size 0 lo)).toArray.size<=sizeLine
  rw[List.size_toArray,List.length_take,List.length_drop,Array.length_toList]
  omega
 have hj:sIx items.size items.size hi<=items.size:=YkD _ _ (Nat.le_refl _) hi
 obtain⟨os,hos,hcs,hds⟩:=id hs
 have hTs:s.TypeIs (.ref sl) "slice":=⟨os,hos,hcs⟩
 unfold getItem
 try with_reducible refine wpAny_holding ?_
 first|refine wpAny_bind (wpAny_pure ?_)|skip
 refine wpAny_bind (wpAny_sequenceKey ht.typeIs (by decide) ?_)
 refine wpAny_bind (wpAny_callSpecial?_slot (name:=Str.ofString "__getitem__") ht.typeIs PyProof.Rows.slot_tuple_getitem
  (wpAny_call_entry PyProof.Rows.slot_tuple_getitem ht.typeIs entry_tuple_getitem ?_ (args_tuple_getitem _ _)))
 show wpAny _ _ (Builtin.Tuple.tupleItemsOf (.ref t) >>= _) _ _ s
 refine wpAny_bind (tupleItemsOf_ ht ?_)
 refine wpAny_bind (wpAny_typeOf hTs ?_)
 rw[if_pos (by decide)]
 refine wpAny_bind (sliceApplied_gen hs pl pu ?_)
 have hno:¬((((sIx items.size 0 lo:Nat):Int) == 0 && (1:Int) == 1 && (sIx items.size items.size hi - sIx items.size 0 lo) == items.size)=true):=by
  intro q
  rw[Bool.and_eq_true,Bool.and_eq_true]at q
  have q1:((sIx items.size 0 lo:Nat):Int)=0:=eq_of_beq q.1.1
  have q2:sIx items.size items.size hi - sIx items.size 0 lo=items.size:=eq_of_beq q.2
  exact hw ⟨by omega,by omega⟩
 show wpAny _ _ (if (((sIx items.size 0 lo:Nat):Int) == 0 && (1:Int) == 1 && (sIx items.size items.size hi - sIx items.size 0 lo) == items.size)=true then _ else _) _ _ s
 rw[if_neg hno,Yij]
 first
  |exact wpAny_bind (m:=Builtin.Tuple.tupleExact _) (wpAny_newObj_type (wpAny_pure ⟨_,rfl,wpAny_pure h⟩) htake)
  |exact wpAny_bind (m:=Builtin.Tuple.tupleExact _) (wpAny_newObj_type (wpAny_bind (wpAny_pure (wpAny_pure ⟨_,rfl,wpAny_pure h⟩))) htake)
  |exact wpAny_bind (wpAny_bind (m:=Builtin.Tuple.tupleExact _) (wpAny_newObj_type (wpAny_pure (wpAny_pure ⟨_,rfl,wpAny_pure h⟩)) htake))
  |exact wpAny_bind (wpAny_bind (m:=Builtin.Tuple.tupleExact _) (wpAny_newObj_type (wpAny_pure ⟨_,rfl,wpAny_pure h⟩) htake))
end
end HT
namespace L2
open PySem PySem.Spec PyProof.Rows
abbrev TO:=St->Hp->(Option Int->Hp->Prop)->Prop
def PO(X:Cx)(e:Option Expr)(t:TO):Prop:=
 ∀(pins:List (Addr×Obj))(s:Shared)(σ:St)(H:Hp)(Q:Option Int->Hp->Prop),Inv X pins σ H s->t σ H Q->
  wpAny (model X.prog X.w) X.A (evalPart e X.env) (fun u s'=>∃o H',Inv X pins σ H' s'/\IsPart u o/\Q o H') X.xe s
def tNoPart:TO:=fun _ H Q=>Q none H
def tPart(t:TE):TO:=fun σ H Q=>t σ H fun x H1=>∃i,x=.int i/\Q (some i) H1
section
variable{X:Cx}{e:Expr}{te:TE}{lo hi:Option Expr}{tl th:TO}{pos p2:Pos}
theorem YiJ:PO X none tNoPart:=by
 intro pins s σ H Q I h
 rw[evalPart_none]
 exact wpAny_pure ⟨none,H,I,.none,h⟩
theorem Yjh(h:PE X e te):PO X (some e) (tPart te):=by
 intro pins s σ H Q I hw
 rw[evalPart_some]
 refine thn (h pins s σ H _ I hw) fun u s1 ⟨x,H1,I1,r1,q1⟩=>?_
 obtain⟨i,rfl,q⟩:=q1
 obtain⟨t,rfl⟩:=r1
 exact⟨some i,H1,I1,.int i t,q⟩
def SlR(X:Cx)(r:V->Option Int->Option Int->Hp->VK->Prop):Prop:=
 ∀(pins:List (Addr×Obj))(s:Shared)(σ:St)(H:Hp)(x:V)(v vl vu:Value)(lo hi:Option Int)(sl:Addr)(Q:VK),Inv X pins σ H s->RelV x v->s.heap.IsSliceOf sl vl vu .none->IsPart vl lo->IsPart vu hi->r x lo hi H Q->
  ∃T id,typeLookup (.type T) "__getitem__"=pure (some (.builtin id))/\s.TypeIs v T/\wpAny (model X.prog X.w) X.A (getItem v (.ref sl)) (EP X pins σ Q) X.xe s
theorem SlR.or{r r':V->Option Int->Option Int->Hp->VK->Prop}(h:SlR X r)(h':SlR X r'):SlR X (fun x lo hi H Q=>r x lo hi H Q\/r' x lo hi H Q):=by
 intro pins s σ H x v vl vu lo hi sl Q I rx hs pl pu q
 rcases q with q|q
 ·exact h pins s σ H x v vl vu lo hi sl Q I rx hs pl pu q
 ·exact h' pins s σ H x v vl vu lo hi sl Q I rx hs pl pu q
def tSl(r:V->Option Int->Option Int->Hp->VK->Prop)(te:TE)(tl th:TO):TE:=fun σ H Q=>te σ H fun x H1=>tl σ H1 fun l H2=>th σ H2 fun u H3=>r x l u H3 Q
theorem Yhb{r:V->Option Int->Option Int->Hp->VK->Prop}(hr:SlR X r)(he:PE X e te)(hl:PO X lo tl)(hu:PO X hi th):PE X (.Subscript e (.Slice lo hi none p2) pos) (tSl r te tl th):=by
 intro pins s σ H Q I h
 refine Subscript_ (thn (he pins s σ H _ I h) fun v s1 ⟨x,H1,I1,r1,q1⟩=>?_)
 refine wpAny_Slice (thn (hl pins s1 σ H1 _ I1 q1) fun vl s2 ⟨l,H2,I2,pl,q2⟩=>thn (hu pins s2 σ H2 _ I2 q2) fun vu s3 ⟨u,H3,I3,pu,q3⟩=>?_)
 rw[evalPart_none]
 refine wpAny_pure ?_
 have I4:Inv X pins σ H3 { s3 with heap:=s3.heap.push { cls:=.type "slice",data:=.fields #[vl,vu,.none] } }:=I3.kept (t':=s3.toks) fun b ob q=>Heap.get?_push_of_some _ q
 obtain⟨T,id,hT,ht,hg⟩:=hr pins { s3 with heap:=s3.heap.push { cls:=.type "slice",data:=.fields #[vl,vu,.none] } } σ H3 x v vl vu l u s3.heap.objs.size Q I4 r1 (Heap.IsSliceOf.new ..) pl pu q3
 show wpAny (model X.prog X.w) X.A (subscriptTail e (.Slice lo hi none p2) v (.ref s3.heap.objs.size)) (EP X pins σ Q) X.xe { s3 with heap:=s3.heap.push { cls:=.type "slice",data:=.fields #[vl,vu,.none] } }
 exact tail_any (ops:=[.ref s3.heap.objs.size,v]) ht hT hg (by with_unfolding_all rfl)
def cutV(xs:List V)(lo hi:Option Int):List V:=(xs.drop (HT.sIx xs.length 0 lo)).take (HT.sIx xs.length xs.length hi - HT.sIx xs.length 0 lo)
theorem J1(xs:List V)(lo hi:Option Int):(cutV xs lo hi).length<=xs.length:=by
 unfold cutV
 rw[List.length_take,List.length_drop]
 omega
def rSlT(K:PySem.W.Frag):V->Option Int->Option Int->Hp->VK->Prop:=fun x lo hi H Q=>∃a xs,x=.ref a/\SqT K H a xs/\
 ¬(HT.sIx xs.length 0 lo=0/\HT.sIx xs.length xs.length hi=xs.length)/\∀p,H p=none->Q (.ref p) (upd H p (.tup (cutV xs lo hi)))
theorem YjY:SlR X (rSlT X.K):=by
 intro pins s σ H x v vl vu lo hi sl Q I rx hs pl pu h
 obtain⟨a,xs,rfl,hx,hw,q⟩:=h
 cases rx
 obtain⟨its,r,ht,hz⟩:=I.tuple hx
 have hlen:its.toArray.size=xs.length:=by rw[List.size_toArray];exact r.length.symm
 refine⟨"tuple",_,PyProof.Rows.slot_tuple_getitem.lookup,ht.typeIs,?_⟩
 refine HT.getItem_tuple_cut ht hs pl pu (by rw[hlen];exact hw) ?_ (by rw[hlen];exact hz)
 rw[hlen]
 refine⟨.ref s.heap.objs.size,_,I.laid (t':=s.toks) (o:=.tup (cutV xs lo hi)) (fun b ob q=>Heap.get?_push_of_some _ q) (Nat.le_refl _) ?_,rfl,q _ (I.hok.fresh (Nat.le_refl _))⟩
 exact⟨Nat.le_trans (J1 xs lo hi) hz,_,(r.drop (HT.sIx xs.length 0 lo)).take (HT.sIx xs.length xs.length hi - HT.sIx xs.length 0 lo),IsTup.new _ _⟩
def rCatT(K:PySem.W.Frag):R2:=fun x y H Q=>∃a b xs ys,x=.ref a/\y=.ref b/\SqT K H a xs/\SqT K H b ys/\xs≠[]/\xs.length+ys.length<=sizeLine/\
 (ys=[]->Q (.ref a) H)/\(ys≠[]->∀p,H p=none->Q (.ref p) (upd H p (.tup (xs++ys))))
theorem Vals.nil_iff{xs:List V}{us:List Value}(r:Vals xs us):us=[]↔xs=[]:=by
 cases r with
 |nil=>simp
 |cons _ _=>simp
theorem Yjp:OpR X (binaryOp .Add) (rCatT X.K):=by
 intro pins s σ H x y v u Q I rx ry h
 obtain⟨a,b,xs,ys,rfl,rfl,ha,hb,hx,hz,q1,q2⟩:=h
 cases rx
 cases ry
 obtain⟨its,r1,p1,_⟩:=I.tuple ha
 obtain⟨its2,r2,p2,_⟩:=I.tuple hb
 refine HT.cat_tup p1 p2 (fun z=>hx (r1.nil_iff.mp z)) (fun z=>⟨.ref a,H,I,rfl,q1 (r2.nil_iff.mp z)⟩) (fun z=>?_) (by rw[<-r1.length,<-r2.length];exact hz)
 refine⟨.ref s.heap.objs.size,_,I.laid (t':=s.toks) (o:=.tup (xs++ys)) (fun b ob q=>Heap.get?_push_of_some _ q) (Nat.le_refl _) ?_,rfl,q2 (fun w=>z (r2.nil_iff.mpr w)) _ (I.hok.fresh (Nat.le_refl _))⟩
 exact⟨by rw[List.length_append];exact hz,_,r1.append r2,IsTup.new _ _⟩
end
end L2
namespace L2
open PySem PySem.Spec PyProof.Rows
def ixN(n:Nat)(i:Int):Option Nat:=if 0<=i then (if i<n then some i.toNat else none) else if -(n:Int)<=i then some (i+n).toNat else none
def atI{α:Type}(xs:List α)(i:Int):Option α:=(ixN xs.length i).bind fun j=>xs[j]?
theorem Yfb{n:Nat}{i:Int}{j:Nat}(h:ixN n i=some j):seqIndex? i n=some j/\j<n/\ -(n:Int)<=i/\i<n:=by
 unfold ixN at h
 by_cases h0:0<=i
 ·rw[if_pos h0]at h
  by_cases h1:i<n
  ·rw[if_pos h1]at h
   have e:i.toNat=j:=Option.some.inj h
   exact⟨by rw[seqIndex_of h0 h1,e],by omega,by omega,h1⟩
  ·rw[if_neg h1]at h;cases h
 ·rw[if_neg h0]at h
  by_cases h1: -(n:Int)<=i
  ·rw[if_pos h1]at h
   have e:(i+n).toNat=j:=Option.some.inj h
   exact⟨by rw[seqIndex_neg (by omega) h1,e],by omega,h1,by omega⟩
  ·rw[if_neg h1]at h;cases h
theorem Ycj{α:Type}{xs:List α}{i:Int}{v:α}(h:atI xs i=some v):∃j,seqIndex? i xs.length=some j/\xs[j]?=some v/\j<xs.length/\ -(xs.length:Int)<=i/\i<xs.length:=by
 unfold atI at h
 cases e:ixN xs.length i with
 |none=>rw[e]at h;cases h
 |some j=>
  rw[e]at h
  obtain⟨h1,h2,h3,h4⟩:=Yfb e
  exact⟨j,h1,h,h2,h3,h4⟩
def PlainIx(b:Expr):Prop:=∀o i,subscripted b false o i=operate [o,i] (getItem o i)
def IxR(X:Cx)(r:R2):Prop:=
 ∀(value slice:Expr)(pins:List (Addr×Obj))(s:Shared)(σ:St)(H:Hp)(x y:V)(v u:Value)(Q:VK),Inv X pins σ H s->RelV x v->RelV y u->r x y H Q->
  subscripted slice false v u=operate [v,u] (getItem v u)->wpAny (model X.prog X.w) X.A (subscriptTail value slice v u) (EP X pins σ Q) X.xe s
def MtR(X:Cx)(id:String)(r:V->List V->Hp->VK->Prop):Prop:=
 ∀(pins:List (Addr×Obj))(s:Shared)(σ:St)(H:Hp)(x:V)(xs:List V)(v:Value)(us:List Value)(Q:VK),Inv X pins σ H s->RelV x v->Vals xs us->r x xs H Q->
  wpAny (model X.prog X.w) X.A (call (.builtin id) (v::us)) (EP X pins σ Q) X.xe s
section
variable{X:Cx}{a b:Expr}{ta tb:TE}{pos:Pos}
theorem IxR.or{r r':R2}(h:IxR X r)(h':IxR X r'):IxR X (fun x y H Q=>r x y H Q\/r' x y H Q):=by
 intro value slice pins s σ H x y v u Q I rx ry q hs
 rcases q with q|q
 ·exact h value slice pins s σ H x y v u Q I rx ry q hs
 ·exact h' value slice pins s σ H x y v u Q I rx ry q hs
theorem YlG{r:R2}(hr:IxR X r)(ha:PE X a ta)(hb:PE X b tb)(hs:PlainIx b):PE X (.Subscript a b pos) (tOp r ta tb):=by
 intro pins s σ H Q I h
 exact Subscript_ (binT ha hb I h fun v u s2 x y H2 I2 rx ry q=>hr a b pins s2 σ H2 x y v u Q I2 rx ry q (hs _ _))
def rIxL(K:PySem.W.Frag):R2:=fun x y H Q=>∃p xs i v,x=.ref p/\y=.int i/\SqL K H p xs/\atI xs i=some v/\Q v H
def rIxT(K:PySem.W.Frag):R2:=fun x y H Q=>∃p xs i v,x=.ref p/\y=.int i/\SqT K H p xs/\atI xs i=some v/\Q v H
def rIxS:R2:=fun x y H Q=>∃z tz i c,x=.str z tz/\y=.int i/\z.length<=sizeLine/\atI z.cps.toList i=some c/\MkT ⟨#[c]⟩ Q H
theorem ix_list:IxR X (rIxL X.K):=by
 intro value slice pins s σ H x y v u Q I rx ry h hs
 obtain⟨p,xs,i,z,rfl,rfl,hq,he,q⟩:=h
 cases rx
 obtain⟨t,rfl⟩:=ry
 obtain⟨its,r,pl,hz⟩:=I.list hq
 obtain⟨j,h1,h2,h3,h4,h5⟩:=Ycj he
 obtain⟨w,ew,rw'⟩:=r.get h2
 have hl:=r.length
 have hn:=line63
 have fin:EP X pins σ Q w s:=⟨z,H,I,rw',q⟩
 by_cases h0:0<=i
 ·have hj:i.toNat=j:=by
   rw[seqIndex_of h0 h5]at h1
   exact Option.some.inj h1
  exact item_listR pl.isList h0 (by omega) (by rw[hj];simpa using ew) fin hs
 ·have hj:(i+(its.toArray.size:Int)).toNat=j:=by
   rw[seqIndex_neg (by omega) h4]at h1
   rw[List.size_toArray,<-hl]
   exact Option.some.inj h1
  exact subscriptTail_builtinR (x:=w) pl.isList.typeIs slot_list_getitem.lookup
   (wpAny_getItem_list_neg (Q:=fun r s'=>r=w/\EP X pins σ Q r s') pl.isList (by omega) (by rw[List.size_toArray] <;> omega) (by omega) (by rw[hj];simpa using ew) ⟨rfl,fin⟩) hs
theorem ix_tup:IxR X (rIxT X.K):=by
 intro value slice pins s σ H x y v u Q I rx ry h hs
 obtain⟨p,xs,i,z,rfl,rfl,hq,he,q⟩:=h
 cases rx
 obtain⟨t,rfl⟩:=ry
 obtain⟨its,r,pl,hz⟩:=I.tuple hq
 obtain⟨j,h1,h2,h3,h4,h5⟩:=Ycj he
 obtain⟨w,ew,rw'⟩:=r.get h2
 have hl:=r.length
 have hn:=line63
 have fin:EP X pins σ Q w s:=⟨z,H,I,rw',q⟩
 exact subscriptTail_builtinR (x:=w) pl.typeIs slot_tuple_getitem.lookup
  (getItem_tuple (j:=j) (Q:=fun r s'=>r=w/\EP X pins σ Q r s') pl (by omega) (by omega) (by rw[List.size_toArray,<-hl];exact h1) (by simpa using ew) ⟨rfl,fin⟩) hs
theorem YjR:IxR X rIxS:=by
 intro value slice pins s σ H x y v u Q I rx ry h hs
 obtain⟨z,t,i,c,rfl,rfl,hz,he,q⟩:=h
 cases rx
 obtain⟨t',rfl⟩:=ry
 obtain⟨j,h1,h2,h3,h4,h5⟩:=Ycj he
 have hl:z.cps.toList.length=z.length:=by simp[Str.length]
 rw[hl]at h1 h4 h5
 have hn:=line63
 exact tail_any (typeIs_str s z t) slot_str_getitem.lookup (getItem_str (c:=c) (by
  have e1:decide (i< -(2 ^ 63:Int))=false:=decide_eq_false (by omega)
  have e2:decide (i >= 2 ^ 63)=false:=decide_eq_false (by omega)
  rw[e1,e2,Bool.or_false]) (by rw[h1];simpa using h2) ⟨.str ⟨#[c]⟩ _,_,I.txt,rfl,q _ I.fresh_tok.1 I.fresh_tok.2⟩) hs
def rIx(K:PySem.W.Frag):R2:=fun x y H Q=>rIxL K x y H Q\/rIxT K x y H Q\/rIxS x y H Q
theorem YjX:IxR X (rIx X.K):=ix_list.or (ix_tup.or YjR)
theorem YeM(its:List Value)(n j:Nat)(u:Value):Obj.mapSeq (·.setIfInBounds j u) { cls:=.type "list",data:=.seq its.toArray n }={ cls:=.type "list",data:=.seq (its.set j u).toArray n }:=by
 simp[Obj.mapSeq]
theorem Inv.lst{pins:List (Addr×Obj)}{σ:St}{H:Hp}{s:Shared}{p:Addr}{xs:List V}(I:Inv X pins σ H s)(h:H p=some (.lst xs)):
 ∃(its:List Value)(n:Nat),Vals xs its/\s.heap.get? p=some { cls:=.type "list",data:=.seq its.toArray n }/\xs.length<=sizeLine:=by
 obtain⟨z,its,n,r,e⟩:=I.hok p _ h
 exact⟨its,n,r,e,z⟩
theorem Inv.lstUpd{pins:List (Addr×Obj)}{σ:St}{H:Hp}{s:Shared}{p:Addr}{xs ys:List V}{its its':List Value}{n n':Nat}{f:Obj->Obj}(I:Inv X pins σ H s)(h:H p=some (.lst xs))
 (ho:s.heap.get? p=some { cls:=.type "list",data:=.seq its.toArray n }) (hf:f { cls:=.type "list",data:=.seq its.toArray n }={ cls:=.type "list",data:=.seq its'.toArray n' }) (r:Vals ys its') (hz:ys.length<=sizeLine) (t:Nat) (ht:s.toks<=t:=by first|exact Nat.le_refl _|exact Nat.le_succ _|exact Nat.le_add_right _ _|assumption|omega):
 Inv X pins σ (upd H p (.lst ys)) { s with heap:=s.heap.update p f,toks:=t }:=by
 have e:(s.heap.update p f).get? p=some { cls:=.type "list",data:=.seq its'.toArray n' }:=by
  rw[Heap.get?_update_self f ho (by rw[hf] <;> rfl),hf]
 refine I.write (x:=p) (e:=p) (by rw[h];trivial) (.inl rfl) (fun b u hb q=>(Heap.get?_update_other _ _ (Ne.symm hb)).trans q) ⟨_,e⟩ ?_
 exact⟨hz,its',n',r,e⟩
def rSetL:V->V->V->Hp->(Hp->Prop)->Prop:=fun o i v H Q=>∃p xs k j,o=.ref p/\i=.int k/\H p=some (.lst xs)/\ixN xs.length k=some j/\Q (upd H p (.lst (xs.set j v)))
theorem YiB:PSet X rSetL:=by
 intro pins s σ H o i v ov iv u Q I ro ri rv h
 obtain⟨p,xs,k,j,rfl,rfl,hp,hj,q⟩:=h
 cases ro
 obtain⟨t,rfl⟩:=ri
 obtain⟨its,n,r,ho,hz⟩:=I.lst hp
 obtain⟨h1,h2,h3,h4⟩:=Yfb hj
 have hl:=r.length
 have hn:=line63
 have I':Inv X pins σ (upd H p (.lst (xs.set j v))) { s with heap:=s.heap.update p (Obj.mapSeq (·.setIfInBounds j u)) }:=
  I.lstUpd hp ho (YeM its n j u) (r.set rv j) (by rw[List.length_set];exact hz) s.toks
 by_cases h0:0<=k
 ·have hk:k.toNat=j:=by
   rw[seqIndex_of h0 h4]at h1
   exact Option.some.inj h1
  exact PySem.W.ki_setAt ho h0 (by omega) (by rw[List.size_toArray,<-hl];exact h4) (by rw[hk];exact⟨_,I',q⟩)
 ·have hk:(k+(its.toArray.size:Int)).toNat=j:=by
   rw[seqIndex_neg (by omega) h3]at h1
   rw[List.size_toArray,<-hl]
   exact Option.some.inj h1
  exact PySem.W.ki_setBack ho (by omega) (by rw[List.size_toArray,<-hl];exact h3) (by omega) (by rw[hk];exact⟨_,I',q⟩)
theorem Ycw(lo hi:Option Int)(n:Nat):(sliceBounds lo hi none n).1=((HT.sIx n 0 lo:Nat):Int)/\(sliceBounds lo hi none n).2.1=((HT.sIx n n hi:Nat):Int)/\(sliceBounds lo hi none n).2.2=1:=by
 refine⟨?_,?_,rfl⟩
 ·cases lo with
  |none=>simp[sliceBounds,HT.sIx]
  |some i=>
   simp only[sliceBounds,HT.sIx,Option.getD_none,show (1:Int) > 0 by decide,if_true]
   by_cases h:i<0
   ·simp only[h,if_true] <;> omega
   ·simp only[h,if_false] <;> omega
 ·cases hi with
  |none=>simp[sliceBounds,HT.sIx]
  |some i=>
   simp only[sliceBounds,HT.sIx,Option.getD_none,show (1:Int) > 0 by decide,if_true]
   by_cases h:i<0
   ·simp only[h,if_true] <;> omega
   ·simp only[h,if_false] <;> omega
theorem Ybf(its:List Value)(lo hi:Option Int):slicePick its.toArray lo hi none=((its.drop (HT.sIx its.length 0 lo)).take (HT.sIx its.length its.length hi - HT.sIx its.length 0 lo)).toArray:=by
 obtain⟨h1,h2,h3⟩:=Ycw lo hi its.toArray.size
 unfold slicePick
 rw[h1,h2,h3]
 simp only[sliceRange_one,pick_run,List.size_toArray] <;> rfl
def rSlL(K:PySem.W.Frag):V->Option Int->Option Int->Hp->VK->Prop:=fun x lo hi H Q=>∃a xs,x=.ref a/\SqL K H a xs/\∀p,H p=none->Q (.ref p) (upd H p (.lst (cutV xs lo hi)))
theorem YiX:SlR X (rSlL X.K):=by
 intro pins s σ H x v vl vu lo hi sl Q I rx hs pl pu h
 obtain⟨a,xs,rfl,hx,q⟩:=h
 cases rx
 obtain⟨its,r,ht,hz⟩:=I.list hx
 have hlen:=r.length
 refine⟨"list",_,slot_list_getitem.lookup,ht.isList.typeIs,?_⟩
 refine wpAny_getItem_list_slice ht.isList hs pl pu .none (by simp) ?_ (by rw[List.size_toArray] <;> omega)
 rw[Ybf,<-hlen]
 refine⟨.ref s.heap.objs.size,_,I.laid (t':=s.toks) (o:=.lst (cutV xs lo hi)) (fun b ob q=>Heap.get?_push_of_some _ q) (Nat.le_refl _) ?_,rfl,q _ (I.hok.fresh (Nat.le_refl _))⟩
 exact⟨Nat.le_trans (J1 xs lo hi) hz,_,0,(r.drop (HT.sIx xs.length 0 lo)).take (HT.sIx xs.length xs.length hi - HT.sIx xs.length 0 lo),Heap.get?_push_size _ rfl⟩
theorem WE:CallR X (.builtin "len") (fun xs H Q=>∃p ys,xs=[.ref p]/\(SqL X.K H p ys\/SqT X.K H p ys)/\Q (.int ys.length) H):=by
 intro pins s σ H xs us Q I r h
 obtain⟨p,ys,rfl,hq,q⟩:=h
 obtain⟨u,rfl,rx⟩:=vals1 r
 cases rx
 have hn:=line63
 rcases hq with hq|hq
 ·obtain⟨its,r',pl,hz⟩:=I.list hq
  have hlen:=r'.length
  exact Calls.call_len_list pl.isList (by simp only[List.size_toArray] <;> omega) ⟨.int ys.length,H,I.tok _,⟨s.toks+1,by rw[List.size_toArray,hlen]⟩,q⟩
 ·obtain⟨its,r',pl,hz⟩:=I.tuple hq
  have hlen:=r'.length
  exact len_tuple pl (by simp only[List.size_toArray] <;> omega) ⟨.int ys.length,H,I.tok _,⟨s.toks+1,by rw[List.size_toArray,hlen]⟩,q⟩
theorem YcA:CallR X (.builtin "len") (fun xs H Q=>∃z t,xs=[.str z t]/\z.length<=sizeLine/\Q (.int z.length) H):=by
 intro pins s σ H xs us Q I r h
 obtain⟨z,t,rfl,hz,q⟩:=h
 obtain⟨u,rfl,rx⟩:=vals1 r
 cases rx
 have hn:=line63
 exact len_str (by omega) ⟨.int z.length,H,I.tok _,⟨_,rfl⟩,q⟩
theorem Ycz:CallR X (.type "list") (fun xs H Q=>∃p ys,xs=[.ref p]/\(SqL X.K H p ys\/SqT X.K H p ys)/\∀l,H l=none->Q (.ref l) (upd H l (.lst ys))):=by
 intro pins s σ H xs us Q I r h
 obtain⟨p,ys,rfl,hq,q⟩:=h
 obtain⟨u,rfl,rx⟩:=vals1 r
 cases rx
 have fin:∀(its:List Value),Vals ys its->ys.length<=sizeLine->∀(h':Heap)(c':Nat),(∀b o',s.heap.get? b=some o'->h'.get? b=some o')->
  h'.get? s.heap.objs.size=some { cls:=.type "list",dict:=none,data:=.seq its.toArray c',slots:=#[] }->EP X pins σ Q (.ref s.heap.objs.size) { s with heap:=h' }:=fun its r' hz h' c' kp e=>
  ⟨.ref s.heap.objs.size,_,I.laid (t':=s.toks) kp (Nat.le_refl _) (show ObjOk X.prog X.w _ h' _ (.lst ys) from⟨hz,its,c',r',e⟩),rfl,q _ (I.hok.fresh (Nat.le_refl _))⟩
 rcases hq with hq|hq
 ·obtain⟨its,r',pl,hz⟩:=I.list hq
  have hlen:=r'.length
  obtain⟨o,ho,hc,n,hd⟩:=pl.isList
  exact call_list_seq p (.inl rfl) ho hc hd (fun h' c' kp e=>fin its r' hz h' c' kp e) (by simp only[List.size_toArray] <;> omega)
 ·obtain⟨its,r',pl,hz⟩:=I.tuple hq
  have hlen:=r'.length
  obtain⟨o,ho,hc,n,hd⟩:=pl
  exact call_list_seq p (.inr rfl) ho hc hd (fun h' c' kp e=>fin its r' hz h' c' kp e) (by simp only[List.size_toArray] <;> omega)
theorem VB:CallR X (.type "tuple") (fun xs H Q=>∃p ys,xs=[.ref p]/\((SqL X.K H p ys/\∀l,H l=none->Q (.ref l) (upd H l (.tup ys)))\/(SqT X.K H p ys/\Q (.ref p) H))):=by
 intro pins s σ H xs us Q I r h
 obtain⟨p,ys,rfl,h⟩:=h
 obtain⟨u,rfl,rx⟩:=vals1 r
 cases rx
 rcases h with⟨hq,q⟩|⟨hq,q⟩
 ·obtain⟨its,r',pl,hz⟩:=I.list hq
  have hlen:=r'.length
  refine call_tuple_list pl.isList (fun h' kp=>?_) (by simp only[List.size_toArray] <;> omega)
  have I1:Inv X pins σ H { s with heap:=h' }:=I.kept (t':=s.toks) kp
  have I2:Inv X pins σ (upd H h'.objs.size (.tup ys)) { s with heap:=h'.push { cls:=.type "tuple",data:=.seq its.toArray } }:=
   I1.laid (t':=s.toks) (fun b o e=>Heap.get?_push_of_some _ e) (Nat.le_refl _) (show ObjOk X.prog X.w _ _ _ (.tup ys) from⟨hz,its,r',IsTup.new _ _⟩)
  exact⟨.ref h'.objs.size,_,I2,rfl,q _ (I1.hok.fresh (Nat.le_refl _))⟩
 ·obtain⟨its,r',pl,hz⟩:=I.tuple hq
  exact call_tuple_same pl ⟨.ref p,H,I,rfl,q⟩
def tyV(K:PySem.W.Frag)(T:String)(x:V)(H:Hp):Prop:=match x with
 | .str _ _=>T="str"
 | .int _=>T="int"
 | .ref p=>(T="list"/\∃xs,SqL K H p xs)\/(T="tuple"/\∃o,K.lookup p=some o/\o.cls=.type "tuple"/\o.dict=none)\/
  (T="dict"/\((∃kvs,H p=some (.dK kvs))\/∃kvs,H p=some (.dT kvs)))\/(T="set"/\∃S n,H p=some (.set S n))
 |_=>False
theorem Yiz{pins:List (Addr×Obj)}{σ:St}{H:Hp}{s:Shared}{T:String}{x:V}{v:Value}(I:Inv X pins σ H s)(r:RelV x v)(ty:tyV X.K T x H):
 s.TypeIs v T/\∀a,v=.ref a->∃ob,s.heap.get? a=some ob/\ob.dict=none:=by
 cases x with
 |str z t=>
  cases r
  cases (show T="str" from ty)
  exact⟨typeIs_str s z t,fun _ e=>nomatch e⟩
 |int i=>
  obtain⟨t,rfl⟩:=r
  cases (show T="int" from ty)
  exact⟨typeIs_int s i t,fun _ e=>nomatch e⟩
 |ref p=>
  cases r
  rcases ty with⟨rfl,xs,hq⟩|⟨rfl,o,hk,hc,hd⟩|⟨rfl,hk⟩|⟨rfl,S,n,hk⟩
  ·obtain⟨its,_,pl,_⟩:=I.list hq
   refine⟨pl.isList.typeIs,fun a e=>?_⟩
   cases e
   obtain⟨o,n,e,c,hd,_⟩:=pl
   exact⟨o,e,hd⟩
  ·refine⟨⟨o,I.kIn p o hk,hc⟩,fun a e=>?_⟩
   cases e
   exact⟨o,I.kIn _ o hk,hd⟩
  ·have z:∃o,s.heap.get? p=some o/\o.ExactDict:=by
    rcases hk with⟨kvs,hk⟩|⟨kvs,hk⟩
    ·obtain⟨⟨_,_,_,_,o,_,_,e,ex,_⟩,_⟩:=I.hok p _ hk
     exact⟨o,e,ex⟩
    ·obtain⟨_,_,_,_,o,_,_,e,ex,_⟩:=I.hok p _ hk
     exact⟨o,e,ex⟩
   obtain⟨o,e,ex⟩:=z
   refine⟨⟨o,e,ex.1⟩,fun a e2=>?_⟩
   cases e2
   exact⟨o,e,ex.2.1⟩
  ·obtain⟨o,_,_,_,e,ex,_⟩:=I.hok p _ hk
   refine⟨⟨o,e,ex.1⟩,fun a e2=>?_⟩
   cases e2
   exact⟨o,e,ex.2.1⟩
 |_=>exact False.elim ty
def tBM0(K:PySem.W.Frag)(T:String)(r:V->List V->Hp->VK->Prop)(to:TE):TE:=fun σ H Q=>to σ H fun x H1=>tyV K T x H1/\r x [] H1 Q
def tBM(K:PySem.W.Frag)(T:String)(r:V->List V->Hp->VK->Prop)(to:TE)(t:TA):TE:=fun σ H Q=>to σ H fun x H1=>tyV K T x H1/\t σ H1 fun xs H2=>r x xs H2 Q
variable{o e:Expr}{es:List Expr}{to:TE}{t:TA}{name:Str}{apos cpos:Pos}{T id:String}{r:V->List V->Hp->VK->Prop}
theorem Yk1(pa:PlainAttrs T)(slot:Slot T name id)(hty:typeOf (.builtin id)=pure (.type "method_descriptor")) (hm:MtR X id r) (ho:PE X o to)
 (hbase:attributeBase o name X.env (eval o X.env)=eval o X.env:=by rfl) (hline:(apos.endLine == cpos.line)=true:=by rfl):PE X (.Call (.Attribute o name apos) [] [] cpos) (tBM0 X.K T r to):=by
 intro pins s σ H Q I h
 refine wpAny_Call_method0_late hbase hline (thn (ho pins s σ H _ I h) fun v s1 ⟨x,H1,I1,r1,ty,q1⟩=>?_)
 obtain⟨h1,h2⟩:=Yiz I1 r1 ty
 exact⟨T,id,pa,slot,hty,h1,h2,Calls.callWith_builtin rfl (PySem.evalArgs_none (hm pins s1 σ H1 x [] v [] Q I1 r1 .nil q1))⟩
theorem YjF(pa:PlainAttrs T)(slot:Slot T name id)(hty:typeOf (.builtin id)=pure (.type "method_descriptor")) (hm:MtR X id r) (ho:PE X o to) (ha:PA X (e::es) t)
 (hbase:attributeBase o name X.env (eval o X.env)=eval o X.env:=by rfl)
 (hfew:((backTo cpos (starEach (e::es) X.env)).all (fun x=>!x.1) && (backToKw cpos (keywordEach [] X.env)).all (fun x=>x.1.isSome)
  && decide ((e::es).length+([]:List Keyword).length+(if ([]:List Keyword).isEmpty then 0 else 1)<30))=true:=by rfl)
 (hline:(apos.endLine == cpos.line)=true:=by rfl) (hs:starEach (e::es) X.env=(false,eval e X.env)::starEach es X.env:=by rfl) (hplain:(backTo cpos (starEach es X.env)).any (·.1)=false:=by rfl):
 PE X (.Call (.Attribute o name apos) (e::es) [] cpos) (tBM X.K T r to t):=by
 intro pins s σ H Q I h
 refine wpAny_Call_method_late hbase hfew hline rfl (thn (ho pins s σ H _ I h) fun v s1 ⟨x,H1,I1,r1,ty,q1⟩=>?_)
 obtain⟨h1,h2⟩:=Yiz I1 r1 ty
 refine⟨T,id,pa,slot,hty,h1,h2,?_⟩
 have hA:=ha cpos pins s1 σ H1 _ I1 q1
 rw[hs]at hA ⊢
 refine Calls.callWith_builtin (by show (false || (backTo cpos (starEach es X.env)).any (·.1))=false;rw[hplain] <;> rfl) (Calls.evalArgs_plain ?_)
 exact thn hA fun us s2 ⟨vs,H2,I2,r2,q2⟩=>hm pins s2 σ H2 x vs v us Q I2 r1 r2 q2
/- xs.append(e),list.index on a module's tuple .. are MtR facts of 06m -/
end
end L2
namespace L2
open PySem PySem.Spec PyProof.Rows
def MtM(X:Cx)(id:String)(r:V->List V->Hp->VK->Prop):Prop:=
 ∀(pins:List (Addr×Obj))(s:Shared)(σ:St)(H:Hp)(x:V)(xs:List V)(v:Value)(us:List Value)(Q:VK),Inv X pins σ H s->RelV x v->Vals xs us->r x xs H Q->
  wpAny (model X.prog X.w) X.A (call (.builtin id) (v::us)) (EP X pins σ Q) X.xe s
theorem Vals.one:∀{x:V}{us:List Value},Vals [x] us->∃u,us=[u]/\RelV x u
 |_,_,.cons r .nil=>⟨_,rfl,r⟩
theorem Vals.zero:∀{us:List Value},Vals [] us->us=[]
 |_,.nil=>rfl
theorem Vals.dropLast{xs:List V}{us:List Value}(h:Vals xs us):Vals xs.dropLast us.dropLast:=by
 induction h with
 |nil=>exact .nil
 |cons r t ih=>
  cases t with
  |nil=>exact .nil
  |cons q t'=>exact .cons r ih
theorem Vals.eraseIdx:∀{xs:List V}{us:List Value}(i:Nat),Vals xs us->Vals (xs.eraseIdx i) (us.eraseIdx i)
 |_,_,_,.nil=>.nil
 |_,_,0,.cons _ t=>t
 |_,_,i+1,.cons r t=>.cons r (Vals.eraseIdx i t)
theorem Vals.reverse{xs:List V}{us:List Value}(h:Vals xs us):Vals xs.reverse us.reverse:=by
 induction h with
 |nil=>exact .nil
 |cons r t ih=>rw[List.reverse_cons,List.reverse_cons];exact Vals.append ih (.cons r .nil)
theorem Yeh{α:Type}(l:List α):l.eraseIdx (l.length - 1)=l.dropLast:=by
 induction l with
 |nil=>rfl
 |cons a r ih=>
  cases r with
  |nil=>rfl
  |cons b r=>
   have e:(a::b::r).length - 1=((b::r).length - 1)+1:=by
    have h1:(a::b::r).length=r.length+2:=rfl
    have h2:(b::r).length=r.length+1:=rfl
    omega
   rw[e,List.eraseIdx_cons_succ,ih]
   all_goals rfl
section
variable{X:Cx}{pins:List (Addr×Obj)}{σ:St}{H:Hp}{s:Shared}{l b:Addr}{xs ys zs:List V}
theorem Inv.lset{its its':List Value}{n:Nat}{f:Array Value->Array Value}{t':Nat}(I:Inv X pins σ H s)(hH:H l=some (.lst xs))
 (e:s.heap.get? l=some { cls:=.type "list",data:=.seq its.toArray n }) (hf:f its.toArray=its'.toArray) (hv:Vals ys its') (hz:ys.length<=sizeLine) (ht:s.toks<=t':=by first|exact Nat.le_refl _|exact Nat.le_succ _|exact Nat.le_add_right _ _|assumption|omega):
 Inv X pins σ (upd H l (.lst ys)) { s with heap:=s.heap.update l (Obj.mapSeq f),toks:=t' }:=by
 have q:=PySem.IsL.update e f
 rw[hf]at q
 refine I.write (x:=l) (e:=l) (by rw[hH];exact trivial) (.inl rfl) (fun b' u hb hu=>(Heap.get?_update_other s.heap (Obj.mapSeq f) (Ne.symm hb)).trans hu) ⟨_,q⟩ ?_
 exact⟨hz,its',_,hv,q⟩
theorem Inv.lnew{its:List Value}{t':Nat}(I:Inv X pins σ H s)(hv:Vals ys its)(hz:ys.length<=sizeLine)(ht:s.toks<=t':=by first|exact Nat.le_refl _|exact Nat.le_succ _|exact Nat.le_add_right _ _|assumption|omega):
 Inv X pins σ (upd H s.heap.objs.size (.lst ys)) { s with heap:=s.heap.push { cls:=.type "list",data:=.seq its.toArray },toks:=t' }:=
 I.laid (fun _ _ q=>Heap.get?_push_of_some _ q) (Nat.le_refl _) ⟨hz,its,0,hv,Heap.get?_push_size _ rfl⟩
theorem Inv.fresh(I:Inv X pins σ H s):H s.heap.objs.size=none:=I.hok.fresh (Nat.le_refl _)
theorem Inv.lstM(I:Inv X pins σ H s)(hH:H l=some (.lst xs)):xs.length<=sizeLine/\∃(its:List Value)(n:Nat),Vals xs its/\xs.length=its.length/\s.heap.get? l=some { cls:=.type "list",data:=.seq its.toArray n }:=by
 obtain⟨z,its,n,r,e⟩:=I.hok l _ hH
 exact⟨z,its,n,r,r.length,e⟩
theorem notLongL{n:Nat}(h:n<=sizeLine):Builtin.List.listTooLong n=false:=by
 unfold Builtin.List.listTooLong
 exact decide_eq_false (by omega)
end
section
variable{X:Cx}
def rAppend:V->List V->Hp->VK->Prop:=fun x vs H Q=>∃l xs y,x=.ref l/\vs=[y]/\H l=some (.lst xs)/\xs.length<sizeLine/\Q .non (upd H l (.lst (xs++[y])))
theorem YfM:MtM X "list.append" rAppend:=by
 intro pins s σ H x vs v us Q I rx rv h
 obtain⟨l,xs,y,rfl,rfl,hH,hz,q⟩:=h
 cases rx
 obtain⟨u,rfl,ru⟩:=rv.one
 obtain⟨z,its,n,r,hl,e⟩:=I.lstM hH
 refine call_meets F.slot_list_append ⟨_,e,rfl⟩ F.entry_list_append (F.args_list_append_2 _ _) (PySem.list_append l its.toArray n u (by rw[List.size_toArray];omega)) ⟨e,?_⟩
 refine⟨.non,_,I.lset (its':=its++[u]) hH e (by simp) (r.append (.cons ru .nil)) ?_,rfl,q⟩
 rw[List.length_append,List.length_singleton]
 omega
def rExtend:V->List V->Hp->VK->Prop:=fun x vs H Q=>∃l b xs zs,x=.ref l/\vs=[.ref b]/\H l=some (.lst xs)/\H b=some (.lst zs)/\xs.length+zs.length<=sizeLine/\Q .non (upd H l (.lst (xs++zs)))
theorem Yld:MtM X "list.extend" rExtend:=by
 intro pins s σ H x vs v us Q I rx rv h
 obtain⟨l,b,xs,zs,rfl,rfl,hH,hB,hz,q⟩:=h
 cases rx
 obtain⟨u,rfl,ru⟩:=rv.one
 cases ru
 obtain⟨z,its,n,r,hl,e⟩:=I.lstM hH
 obtain⟨z2,its2,n2,r2,hl2,e2⟩:=I.lstM hB
 have hsz:its.toArray.size+its2.toArray.size<=sizeLine:=by rw[List.size_toArray,List.size_toArray];omega
 have hlong:¬(!its.toArray.isEmpty && Builtin.List.listTooLong (its.toArray.size+its2.toArray.size))=true:=by
  rw[notLongL hsz,Bool.and_false]
  exact Bool.false_ne_true
 refine call_meets F.slot_list_extend ⟨_,e,rfl⟩ F.entry_list_extend (F.args_list_extend_2 _ _)
  (AutoSeq1.list_extend_list_list_0 l its.toArray n b its2.toArray n2 hlong (by rw[List.size_toArray];omega) (by omega)) ⟨e,e2,?_⟩
 refine⟨.non,_,I.lset (its':=its++its2) hH e (by simp) (r.append r2) ?_,rfl,q⟩
 rw[List.length_append]
 omega
def rPop:V->List V->Hp->VK->Prop:=fun x vs H Q=>∃l xs y,x=.ref l/\vs=[]/\H l=some (.lst xs)/\xs[xs.length - 1]?=some y/\Q y (upd H l (.lst xs.dropLast))
theorem YkG:MtM X "list.pop" rPop:=by
 intro pins s σ H x vs v us Q I rx rv h
 obtain⟨l,xs,y,rfl,rfl,hH,hy,q⟩:=h
 cases rx
 have hus:=rv.zero
 subst hus
 obtain⟨z,its,n,r,hl,e⟩:=I.lstM hH
 obtain⟨u,hu,ru⟩:=r.get hy
 have hy':its.toArray[its.toArray.size - 1]?=some u:=by
  show its.toArray[its.length - 1]?=some u
  rw[<-Array.getElem?_toList,<-hl]
  exact hu
 refine call_meets F.slot_list_pop ⟨_,e,rfl⟩ F.entry_list_pop (F.args_list_pop_1 _) (MeetsSeq.list_pop_last l its.toArray n u hy' (by rw[List.size_toArray];omega)) ⟨e,?_⟩
 refine⟨y,_,I.lset (its':=its.dropLast) hH e ?_ r.dropLast ?_,ru,q⟩
 ·show its.toArray.eraseIdxIfInBounds (its.toArray.size - 1)=its.dropLast.toArray
  rw[List.size_toArray,List.eraseIdxIfInBounds_toArray,Yeh]
 ·rw[List.length_dropLast]
  omega
def rCat:R2:=fun x y H Q=>∃l b xs zs,x=.ref l/\y=.ref b/\H l=some (.lst xs)/\H b=some (.lst zs)/\xs.length+zs.length<=sizeLine/\∀p,H p=none->Q (.ref p) (upd H p (.lst (xs++zs)))
theorem Ylb:OpR X (binaryOp .Add) rCat:=by
 intro pins s σ H x y v u Q I rx ry h
 obtain⟨l,b,xs,zs,rfl,rfl,hH,hB,hz,q⟩:=h
 cases rx
 cases ry
 obtain⟨z,its,n,r,hl,e⟩:=I.lstM hH
 obtain⟨z2,its2,n2,r2,hl2,e2⟩:=I.lstM hB
 refine PySem.P.add_list e e2 ?_ (by rw[List.size_toArray,List.size_toArray];omega)
 have ea:its.toArray++its2.toArray=(its++its2).toArray:=by simp
 rw[ea]
 exact⟨.ref _,_,I.lnew (t':=s.toks) (r.append r2) (by rw[List.length_append];omega),rfl,q _ I.fresh⟩
end
section
variable{prog:Program}{w:World}{A:Around}{E:Value->Shared->Prop}{s:Shared}
end
section
variable{X:Cx}
end
end L2
namespace L2
open PySem PySem.Spec PyProof.Rows
section
variable{κ:Type} [DecidableEq κ]
def valV(kvs:List (κ×V))(k:κ):Option V:=(kvs.find? fun kv=>decide (kv.1=k)).map (·.2)
def putK(kvs:List (κ×V))(k:κ)(v:V):List (κ×V):=
 if (kvs.any fun kv=>decide (kv.1=k))=true then kvs.map (fun kv=>if kv.1=k then (kv.1,v) else kv) else kvs++[(k,v)]
def dropK(kvs:List (κ×V))(k:κ):List (κ×V):=kvs.filter fun kv=>decide (kv.1≠k)
theorem Js{p:κ×V}{r:List (κ×V)}{k:κ}(e:p.1=k):valV (p::r) k=some p.2:=by simp[valV,List.find?_cons,e]
theorem Jh{p:κ×V}{r:List (κ×V)}{k:κ}(e:¬p.1=k):valV (p::r) k=valV r k:=by simp[valV,List.find?_cons,e]
theorem Ydu(k:κ):∀kvs:List (κ×V),(kvs.any fun kv=>decide (kv.1=k))=(valV kvs k).isSome
 | []=>rfl
 |p::r=>by
  rw[List.any_cons]
  by_cases e:p.1=k
  ·simp only[Js e,decide_eq_true e,Bool.true_or,Option.isSome_some]
  ·rw[Jh e,decide_eq_false e,Bool.false_or];exact Ydu k r
theorem J8(kvs:List (κ×V))(k:κ)(v:V):(putK kvs k v).length<=kvs.length+1:=by
 unfold putK
 split
 ·rw[List.length_map];omega
 ·rw[List.length_append,List.length_cons,List.length_nil];omega
theorem RelO.isSome_eq{o:Option V}{u:Option Value}(r:RelO o u):o.isSome=u.isSome:=by
 cases o with
 |none=>cases u with
  |none=>rfl
  |some _=>exact (show False from r).elim
 |some _=>cases u with
  |none=>exact (show False from r).elim
  |some _=>rfl
theorem RelO.getD{o:Option V}{u:Option Value}{d:V}{d':Value}(r:RelO o u)(rd:RelV d d'):RelV (o.getD d) (u.getD d'):=by
 cases o with
 |none=>cases u with
  |none=>exact rd
  |some _=>exact (show False from r).elim
 |some _=>cases u with
  |none=>exact (show False from r).elim
  |some _=>exact r
theorem KV.val{kvs:List (κ×V)}{vs:List (κ×Value)}(r:KV kvs vs)(k:κ):RelO (valV kvs k) (valueAt vs k):=by
 unfold KV at r
 induction r with
 |nil=>exact True.intro
 |@cons p q ps qs h t ih=>
  obtain⟨h1,h2⟩:=h
  by_cases e:p.1=k
  ·have e':q.1=k:=h1.symm.trans e
   have b:valueAt (q::qs) k=some q.2:=by simp[valueAt,List.find?_cons,e']
   rw[Js e,b];exact h2
  ·have e':¬q.1=k:=fun z=>e (h1.trans z)
   have b:valueAt (q::qs) k=valueAt qs k:=by simp[valueAt,List.find?_cons,e']
   rw[Jh e,b];exact ih
theorem KV.any{kvs:List (κ×V)}{vs:List (κ×Value)}(r:KV kvs vs)(k:κ):(kvs.any fun kv=>decide (kv.1=k))=vs.any fun kv=>decide (kv.1=k):=by
 unfold KV at r
 induction r with
 |nil=>rfl
 |cons h t ih=>rw[List.any_cons,List.any_cons,ih,h.1]
theorem KV.repl{kvs:List (κ×V)}{vs:List (κ×Value)}(r:KV kvs vs)(k:κ){y:V}{u:Value}(ry:RelV y u):
 KV (kvs.map fun kv=>if kv.1=k then (kv.1,y) else kv) (vs.map fun kv=>if kv.1=k then (kv.1,u) else kv):=by
 unfold KV at r ⊢
 induction r with
 |nil=>exact .nil
 |@cons p q ps qs h t ih=>
  rw[List.map_cons,List.map_cons]
  refine .cons ?_ ih
  obtain⟨h1,h2⟩:=h
  by_cases e:p.1=k
  ·rw[if_pos e,if_pos (h1.symm.trans e)];exact⟨h1,ry⟩
  ·rw[if_neg e,if_neg (fun z=>e (h1.trans z))];exact⟨h1,h2⟩
theorem KV.put{kvs:List (κ×V)}{vs:List (κ×Value)}(r:KV kvs vs)(k:κ){y:V}{u:Value}(ry:RelV y u):KV (putK kvs k y) (stored vs k u):=by
 unfold putK stored
 rw[r.any k]
 by_cases e:(vs.any fun kv=>decide (kv.1=k))=true
 ·rw[if_pos e,if_pos e];exact r.repl k ry
 ·rw[if_neg e,if_neg e];exact Paired.snoc r ⟨rfl,ry⟩
theorem KV.drop{kvs:List (κ×V)}{vs:List (κ×Value)}(r:KV kvs vs)(k:κ):KV (dropK kvs k) (without vs k):=by
 unfold KV at r ⊢
 unfold dropK without
 induction r with
 |nil=>exact .nil
 |@cons p q ps qs h t ih=>
  obtain⟨h1,h2⟩:=h
  rw[List.filter_cons,List.filter_cons]
  by_cases e:p.1=k
  ·have a:¬decide (p.1≠k)=true:=by simp[e]
   have b:¬decide (q.1≠k)=true:=by simp[h1.symm.trans e]
   rw[if_neg a,if_neg b];exact ih
  ·have e':¬q.1=k:=fun z=>e (h1.trans z)
   have a:decide (p.1≠k)=true:=by simp[e]
   have b:decide (q.1≠k)=true:=by simp[e']
   rw[if_pos a,if_pos b];exact .cons ⟨h1,h2⟩ ih
theorem KV.keys{kvs:List (κ×V)}{vs:List (κ×Value)}(r:KV kvs vs):kvs.map (·.1)=vs.map (·.1):=by
 unfold KV at r
 induction r with
 |nil=>rfl
 |cons h t ih=>rw[List.map_cons,List.map_cons,ih,h.1]
theorem KV.length{kvs:List (κ×V)}{vs:List (κ×Value)}(r:KV kvs vs):kvs.length=vs.length:=Paired.length r
end
theorem Vs{P:Program}{w:World}{k:Key}{y:V}{u:Value}(hk:KeyV k y)(r:RelV y u):(mixKind P w).is k u=true:=by
 cases k with
 |inl i=>cases (show y=.int i from hk);obtain⟨t,e⟩:=(show ∃t,u=Value.int i t from r);subst e;exact YdZ P w i t
 |inr x=>obtain⟨t,rfl⟩:=(show ∃t,y=.str x t from hk);cases r;exact Ydw P w x t
abbrev KT(H:Hp):List (DK×V)->List (DK×Addr×Value)->Prop:=Paired fun p q=>p.1=q.1/\DG H p.1 q.2.1/\RelV p.2 q.2.2
theorem KT.val{H:Hp}{kvs:List (DK×V)}{xs:List (DK×Addr×Value)}(r:KT H kvs xs)(k:DK):RelO (valV kvs k) ((atKey xs k).map (·.2)):=by
 induction r with
 |nil=>exact True.intro
 |@cons p q ps qs h t ih=>
  obtain⟨h1,_,h2⟩:=h
  by_cases e:p.1=k
  ·have e':q.1=k:=h1.symm.trans e
   have b:atKey (q::qs) k=some q.2:=by simp[atKey,List.find?_cons,e']
   rw[Js e,b];exact h2
  ·have e':¬q.1=k:=fun z=>e (h1.trans z)
   have b:atKey (q::qs) k=atKey qs k:=by simp[atKey,List.find?_cons,e']
   rw[Jh e,b];exact ih
theorem KT.repl{H:Hp}{kvs:List (DK×V)}{xs:List (DK×Addr×Value)}(r:KT H kvs xs)(k:DK){y:V}{u:Value}(ry:RelV y u):
 KT H (kvs.map fun kv=>if kv.1=k then (kv.1,y) else kv) (xs.map (putAt k u)):=by
 induction r with
 |nil=>exact .nil
 |@cons p q ps qs h t ih=>
  rw[List.map_cons,List.map_cons]
  refine .cons ?_ ih
  obtain⟨h1,h2,h3⟩:=h
  unfold putAt
  by_cases e:p.1=k
  ·rw[if_pos e,if_pos (h1.symm.trans e)];exact⟨h1,h2,ry⟩
  ·rw[if_neg e,if_neg (fun z=>e (h1.trans z))];exact⟨h1,h2,h3⟩
theorem KT.put{H:Hp}{kvs:List (DK×V)}{xs:List (DK×Addr×Value)}(r:KT H kvs xs)(k:DK){b:Addr}{y:V}{u:Value}(hb:DG H k b)(ry:RelV y u):
 KT H (putK kvs k y) (storedH xs k b u):=by
 have e:(kvs.any fun kv=>decide (kv.1=k))=(atKey xs k).isSome:=by
  rw[Ydu,(r.val k).isSome_eq,Option.isSome_map]
 unfold putK storedH
 rw[e]
 by_cases q:(atKey xs k).isSome=true
 ·rw[if_pos q,if_pos q];exact r.repl k ry
 ·rw[if_neg q,if_neg q];exact Paired.snoc r ⟨rfl,hb,ry⟩
theorem KT.keeps{H H':Hp}{kvs:List (DK×V)}{xs:List (DK×Addr×Value)}(r:KT H kvs xs)(ht:∀b ys,H b=some (.tup ys)->H' b=some (.tup ys))(hτ:∀t x,H.τ t=some x->H'.τ t=some x:=by exact fun _ _ q=>q):KT H' kvs xs:=
 Paired.mapP r fun _ _ z=>⟨z.1,⟨z.2.1.1,z.2.1.2.keep ht hτ⟩,z.2.2⟩
section
variable{P:Program}{w:World}{H:Hp}{h:Heap}{a:Addr}
theorem Yih{u:HO}(ok:HOk P w H h)(e:Rd H a u):ObjOk P w H h a u:=e.ok ok
theorem J5{kvs:List (Key×V)}(ok:HOk P w H h)(e:Rd H a (.dK kvs)):kvs.length<=sizeLine/\(a == sysModules)=false/\∃vs,KV kvs vs/\h.DictOf (mixKind P w) a vs:=
 And.left (show ObjOk P w H h a (.dK kvs) from Yih ok e)
theorem YjH{kvs:List (Key×V)}(ok:HOk P w H h)(e:H a=some (.dK kvs)):Kt.KeyG (TkG H) h a:=And.right (show ObjOk P w H h a (.dK kvs) from Yih ok (.inl e))
theorem YjL{kvs:List (Key×V)}(ok:HOk P w H h)(e:H a=some (.dK kvs)):kvs.length<=sizeLine/\(a == sysModules)=false/\∃vs,KV kvs vs/\h.DictOf (mixKind P w) a vs:=J5 ok (.inl e)
mutual
theorem DGh.is{k:DK}{v:V}{u:Value}(ok:HOk P w H h)(x:DGh H k v)(r:RelV v u):DIs h k u:=
 match x with
 | .key p _=>.key (Vs (P:=P) (w:=w) p r)
 | .tup p q=>by
  obtain⟨_,its,rv,ht⟩:=(show ObjOk P w H h _ (.tup _) from ok _ _ p)
  cases r
  exact .tup ht (q.is ok rv)
theorem DGhs.is{k:List DK}{v:List V}{u:List Value}(ok:HOk P w H h)(x:DGhs H k v)(r:Vals v u):DIss h k u:=
 match x,r with
 | .nil,.nil=>.nil
 | .cons p q,.cons a b=>.cons (p.is ok a) (q.is ok b)
end
theorem VS{k:DK}(ok:HOk P w H h)(e:DG H k a):(deepKind P w).is h k a:=⟨e.1,e.2.is ok rfl⟩
theorem Yay{kvs:List (DK×V)}(ok:HOk P w H h)(e:Rd H a (.dT kvs)):kvs.length<=sizeLine/\(a == sysModules)=false/\
 ∃xs,KT H kvs xs/\h.DictOfH (deepKind P w) a xs:=by
 obtain⟨z,y,xs,r,o,es,ep,h1,h2,h3,h4,h5⟩:=(show ObjOk P w H h a (.dT kvs) from Yih ok e)
 refine⟨z,y,xs,r,o,es,ep,h1,h2,h3,h4,fun x hx=>?_,h5⟩
 have all:∀{l:List (DK×V)}{m:List (DK×Addr×Value)},KT H l m->∀x∈m,(deepKind P w).is h x.1 x.2.1:=by
  intro l m q
  induction q with
  |nil=>intro x hx;exact nomatch hx
  |@cons p q ps qs hq t ih=>
   intro x hx
   rcases List.mem_cons.mp hx with e|hx
   ·subst e
    exact VS ok (by rw[<-hq.1];exact hq.2.1)
   ·exact ih x hx
 exact all r x hx
theorem YlN{kvs:List (DK×V)}(ok:HOk P w H h)(e:H a=some (.dT kvs)):kvs.length<=sizeLine/\(a == sysModules)=false/\
 ∃xs,KT H kvs xs/\h.DictOfH (deepKind P w) a xs:=Yay ok (.inl e)
end
def DGet(H:Hp)(a:Addr)(y:V)(r:Option V):Prop:=
 (∃kvs k,Rd H a (.dK kvs)/\KeyV k y/\r=valV kvs k)\/∃kvs k b,Rd H a (.dT kvs)/\y=.ref b/\DG H k b/\r=valV kvs k
def DPut(H:Hp)(a:Addr)(y v:V)(H':Hp):Prop:=
 (∃kvs k,H a=some (.dK kvs)/\(KeyV k y/\TkV H y)/\kvs.length<sizeLine/\H'=upd H a (.dK (putK kvs k v)))\/
 ∃kvs k b,H a=some (.dT kvs)/\y=.ref b/\DG H k b/\kvs.length<sizeLine/\H'=upd H a (.dT (putK kvs k v))
theorem DGet.k{H:Hp}{a:Addr}{kvs:List (Key×V)}{k:Key}{y:V}(e:H a=some (.dK kvs))(hk:KeyV k y):DGet H a y (valV kvs k):=.inl ⟨kvs,k,.inl e,hk,rfl⟩
theorem DPut.k{H:Hp}{a:Addr}{kvs:List (Key×V)}{k:Key}{v:V}(e:H a=some (.dK kvs)){y:V}(hk:KeyV k y/\TkV H y)(hl:kvs.length<sizeLine):DPut H a y v (upd H a (.dK (putK kvs k v))):=.inl ⟨kvs,k,e,hk,hl,rfl⟩
section
variable{X:Cx}{pins:List (Addr×Obj)}{σ:St}{H:Hp}{s:Shared}{a:Addr}{y v:V}{u r:Value}{o:Option V}{A:Around}{E:Value->Shared->Prop}
theorem Inv.big(I:Inv X pins σ H s):sysModules<s.heap.objs.size:=by
 have h:mainGlobals<s.heap.objs.size:=(I.mod.glob.keeps I.bk).lt
 exact Nat.lt_trans (by decide) h
theorem Wl{P:Program}{w:World}{A:Around}(hu:A.units+7<cLine):(deepKind P w).room A.in1:=by show A.units+1+6<cLine;omega
theorem YfQ{Q:Value->Shared->Prop}(hu:A.units+7<cLine)(I:Inv X pins σ H s)(g:DGet H a y (some v))(ry:RelV y u)(h:∀w' s',Inv X pins σ H s'->RelV v w'->Q w' s'):
 wpAny (model X.prog X.w) A (getItem (.ref a) u) Q E s:=by
 rcases g with⟨kvs,k,e,ey,l⟩|⟨kvs,k,b,e,ey,eb,l⟩
 ·obtain⟨z,hd,vs,rel,dd⟩:=J5 I.hok e
  obtain⟨w',hw,rw'⟩:=RelO.some_of (v:=v) (o:=valueAt vs k) (by rw[l];exact rel.val k)
  exact wpAny_getItem_of (Vs ey ry) dd.mapOf hw (h w' _ (I.tok _) rw')
 ·subst ey
  cases (show u=Value.ref b from ry)
  obtain⟨z,hd,xs,rel,dd⟩:=Yay I.hok e
  obtain⟨w',hw,rw'⟩:=RelO.some_of (v:=v) (o:=(atKey xs k).map (·.2)) (by rw[l];exact rel.val k)
  obtain⟨p,hp,hp2⟩:=Option.map_eq_some_iff.mp hw
  refine wpAny_getItem_heap (Wl hu) (VS I.hok eb) dd hp ?_
  rw[hp2]
  exact h w' _ (I.tok _) rw'
theorem d_in{Q:Value->Shared->Prop}(hu:A.units+7<cLine)(I:Inv X pins σ H s)(g:DGet H a y o)(ry:RelV y u)(h:∀s',Inv X pins σ H s'->Q (.bool o.isSome) s'):
 wpAny (model X.prog X.w) A (compareOp .In u (.ref a)) Q E s:=by
 rcases g with⟨kvs,k,e,ey,l⟩|⟨kvs,k,b,e,ey,eb,l⟩
 ·obtain⟨z,hd,vs,rel,dd⟩:=J5 I.hok e
  refine wpAny_in_of (Vs ey ry) hd dd.mapOf ?_
  rw[<-(rel.val k).isSome_eq,<-l]
  exact h _ (I.tok _)
 ·subst ey
  cases (show u=Value.ref b from ry)
  obtain⟨z,hd,xs,rel,dd⟩:=Yay I.hok e
  refine wpAny_in_heap (Wl hu) (VS I.hok eb) hd dd ?_
  have q:=(rel.val k).isSome_eq
  rw[Option.isSome_map]at q
  rw[<-q,<-l]
  exact h _ (I.tok _)
theorem Yi3{Q:Value->Shared->Prop}(hu:A.units+7<cLine)(I:Inv X pins σ H s)(g:DGet H a y o)(ry:RelV y u)(h:∀s',Inv X pins σ H s'->Q (.bool (!o.isSome)) s'):
 wpAny (model X.prog X.w) A (compareOp .NotIn u (.ref a)) Q E s:=by
 rcases g with⟨kvs,k,e,ey,l⟩|⟨kvs,k,b,e,ey,eb,l⟩
 ·obtain⟨z,hd,vs,rel,dd⟩:=J5 I.hok e
  refine wpAny_notIn_of (Vs ey ry) hd dd.mapOf ?_
  rw[<-(rel.val k).isSome_eq,<-l]
  exact h _ (I.tok _)
 ·subst ey
  cases (show u=Value.ref b from ry)
  obtain⟨z,hd,xs,rel,dd⟩:=Yay I.hok e
  refine wpAny_notIn_heap (Wl hu) (VS I.hok eb) hd dd ?_
  have q:=(rel.val k).isSome_eq
  rw[Option.isSome_map]at q
  rw[<-q,<-l]
  exact h _ (I.tok _)
theorem Yfj{h':Heap}{t':Nat}{ob:HO}(I:Inv X pins σ H s)(mu:Mut (H a))(hs:Heap.SameBut a s.heap h')(he:∃q,h'.get? a=some q)(new:ObjOk X.prog X.w (upd H a ob) h' a ob)(ht:s.toks<=t':=by first|exact Nat.le_refl _|exact Nat.le_succ _|exact Nat.le_add_right _ _|assumption|omega):
 Inv X pins σ (upd H a ob) { s with heap:=h',toks:=t' }:=
 I.write (x:=a) (e:=a) mu (.inl rfl) (fun b q hb z=>(hs.2 b hb).trans z) he new
theorem YkS{P:Program}{w:World}{H':Hp}{h':Heap}{kvs:List (Key×V)}{vs:List (Key×Value)}(z:kvs.length<=sizeLine)(hd:(a == sysModules)=false)(rel:KV kvs vs)(dd:h'.DictOf (mixKind P w) a vs)(g:Kt.KeyG (TkG H') h' a):
 ObjOk P w H' h' a (.dK kvs):=⟨⟨z,hd,vs,rel,dd⟩,g⟩
theorem YjS{y:V}{u:Value}(ry:RelV y u)(hy:TkV H y):TkG H u:=fun x t e=>by
 subst e
 cases y <;> first|(cases ry;exact hy _ _ rfl)|(obtain⟨_,h⟩:=ry;cases h)|(cases ry)
theorem Yf0{H':Hp}{Q:Unit->Shared->Prop}(hu:A.units+7<cLine)(I:Inv X pins σ H s)(g:DPut H a y v H')(ry:RelV y u)(rv:RelV v r)(h:∀s',Inv X pins σ H' s'->Q () s'):
 wpAny (model X.prog X.w) A (setItem (.ref a) u r) Q E s:=by
 rcases g with⟨kvs,k,e,ey,l,eH⟩|⟨kvs,k,b,e,ey,eb,l,eH⟩
 ·subst eH
  obtain⟨z,hd,vs,rel,dd⟩:=YjL I.hok e
  have hz:vs.length<=sizeLine:=by rw[<-rel.length];exact z
  have hl:(putK kvs k v).length<=sizeLine:=by have:=J8 kvs k v;omega
  refine Kt.setItem_keys (Vs ey.1 ry) dd (YjH I.hok e) (YjS ry ey.2) (fun h' dd' g' hs=>h _ ?_) hz
  have he:∃q,h'.get? a=some q:=let ⟨q,_,_,hq,_⟩:=dd';⟨q,hq⟩
  exact Yfj I (by rw[e];exact True.intro) hs he (YkS hl hd (rel.put k rv) dd' g')
 ·subst ey eH
  cases (show u=Value.ref b from ry)
  obtain⟨z,hd,xs,rel,dd⟩:=YlN I.hok e
  have hz:xs.length<=sizeLine:=by rw[<-Paired.length rel];exact z
  have hl:(putK kvs k v).length<=sizeLine:=by have:=J8 kvs k v;omega
  refine wpAny_setItem_heap (hsz:=hz) (Wl hu) (VS I.hok eb) dd fun h' dd' hs=>h _ ?_
  obtain⟨q,es,ep,hq,h2,h3,h4,_,h5⟩:=dd'
  refine Yfj I (by rw[e];exact True.intro) hs ⟨q,hq⟩ ⟨hl,hd,_,(rel.put k eb rv).keeps fun c ys ec=>?_,q,es,ep,hq,h2,h3,h4,h5⟩
  rw[Yt (Yls ec e (fun z=>nomatch z))]
  exact ec
end
section
variable{X:Cx}{pins:List (Addr×Obj)}{σ:St}{H:Hp}{s:Shared}{a:Addr}{kvs:List (Key×V)}{k:Key}{u:Value}{A:Around}{E:Value->Shared->Prop}
theorem Ylu{Q:Value->Shared->Prop}(I:Inv X pins σ H s)(e:Rd H a (.dK kvs))(h:∀t s',Inv X pins σ H s'->Q (.int kvs.length t) s'):wpAny (model X.prog X.w) A (call (.builtin "len") [.ref a]) Q E s:=by
 obtain⟨z,hd,vs,rel,dd⟩:=J5 I.hok e
 refine call_len_dict hd dd (by rw[<-rel.length];rw[sizeLine_eq]at z;omega) ?_
 rw[<-rel.length]
 exact h _ _ (I.tok _)
end
theorem YdJ{X:Cx}{pins:List (Addr×Obj)}{σ:St}{H:Hp}{s:Shared}{a:Addr}{y:V}{o:Option V}(I:Inv X pins σ H s)(g:DGet H a y o):s.TypeIs (.ref a) "dict":=by
 rcases g with⟨kvs,k,e,_,_⟩|⟨kvs,k,b,e,_,_,_⟩
 ·obtain⟨_,_,vs,_,dd⟩:=J5 I.hok e
  exact dd.typeIs
 ·obtain⟨_,_,xs,_,dd⟩:=Yay I.hok e
  exact dd.typeIs
section
variable{X:Cx}{o i e value:Expr}{pos pos' tpos:Pos}{td ty tv:TE}
end
theorem YhN{P:Program}{w:World}{H:Hp}(h:Heap)(hb:sysModules<h.objs.size):ObjOk P w H (h.push { cls:=.type "dict",data:=.dict #[] }) h.objs.size (.dK []):=
 ⟨⟨Nat.zero_le _,beq_eq_false_iff_ne.mpr (Ne.symm (Nat.ne_of_lt hb)),[],.nil,Heap.DictOf.new h⟩,Kt.KeyG.of (Heap.get?_push_size _ rfl) rfl fun e he=>by simp at he⟩
def tDNewK:TE:=fun _ H Q=>∀p,H p=none->Q (.ref p) (upd H p (.dK []))
section
variable{X:Cx}{pos:Pos}
theorem Yir:PE X (.Dict [] [] pos) tDNewK:=fun pins s σ H Q I h=>
 wpAny_Dict_empty ⟨.ref s.heap.objs.size,_,I.laid (a:=s.heap.objs.size) (o:=.dK []) (t':=s.toks) (fun _ _ q=>Heap.get?_push_of_some _ q) (Nat.le_refl _) (YhN s.heap I.big),rfl,h _ (I.hok.fresh (Nat.le_refl _))⟩
end
structure M1(X:Cx)(o:Expr)(m:Str)(apos:Pos)(e:Expr)(cpos:Pos):Prop where
 base:attributeBase o m X.env (eval o X.env)=eval o X.env
 few:((backTo cpos (starEach [e] X.env)).all (fun x=>!x.1) && (backToKw cpos (keywordEach [] X.env)).all (fun x=>x.1.isSome)
  && decide (([e]:List Expr).length+([]:List Keyword).length+(if ([]:List Keyword).isEmpty then 0 else 1)<30))=true
 line:(apos.endLine == cpos.line)=true
 trees:backTo cpos (starEach [e] X.env)=[(false,eval e X.env)]
structure M2(X:Cx)(o:Expr)(m:Str)(apos:Pos)(e f:Expr)(cpos:Pos):Prop where
 base:attributeBase o m X.env (eval o X.env)=eval o X.env
 few:((backTo cpos (starEach [e,f] X.env)).all (fun x=>!x.1) && (backToKw cpos (keywordEach [] X.env)).all (fun x=>x.1.isSome)
  && decide (([e,f]:List Expr).length+([]:List Keyword).length+(if ([]:List Keyword).isEmpty then 0 else 1)<30))=true
 line:(apos.endLine == cpos.line)=true
 trees:backTo cpos (starEach [e,f] X.env)=[(false,eval e X.env),(false,eval f X.env)]
def IsD(H:Hp)(a:Addr):Prop:=(∃kvs,Rd H a (.dK kvs))\/∃kvs,Rd H a (.dT kvs)
theorem YjQ{X:Cx}{pins:List (Addr×Obj)}{σ:St}{H:Hp}{s:Shared}{a:Addr}(I:Inv X pins σ H s)(d:IsD H a):
 s.TypeIs (.ref a) "dict"/\(∀b,Value.ref a=.ref b->∃ob,s.heap.get? b=some ob/\ob.dict=none)/\(a == sysModules)=false:=by
 rcases d with⟨kvs,e⟩|⟨kvs,e⟩
 ·obtain⟨_,hd,vs,_,dd⟩:=J5 I.hok e
  refine⟨dd.typeIs,fun b q=>?_,hd⟩
  cases q
  obtain⟨ob,_,_,h1,h2,_⟩:=dd
  exact⟨ob,h1,h2.2.1⟩
 ·obtain⟨_,hd,xs,_,dd⟩:=Yay I.hok e
  refine⟨dd.typeIs,fun b q=>?_,hd⟩
  cases q
  obtain⟨ob,_,_,h1,h2,_⟩:=dd
  exact⟨ob,h1,h2.2.1⟩
section
variable{X:Cx}{pins:List (Addr×Obj)}{σ:St}{H:Hp}{s:Shared}{a:Addr}{y d:V}{u r:Value}{o:Option V}{A:Around}{E:Value->Shared->Prop}
theorem Yla{Q:Value->Shared->Prop}(hu:A.units+7<cLine)(I:Inv X pins σ H s)(g:DGet H a y o)(ry:RelV y u)(rd:RelV d r)(h:∀w' s',Inv X pins σ H s'->RelV (o.getD d) w'->Q w' s'):
 wpAny (model X.prog X.w) A (call (.builtin "dict.get") [.ref a,u,r]) Q E s:=by
 rcases g with⟨kvs,k,e,ey,l⟩|⟨kvs,k,b,e,ey,eb,l⟩
 ·obtain⟨z,hd,vs,rel,dd⟩:=J5 I.hok e
  refine call_meetsIn PySem.F.slot_dict_get dd.typeIs PySem.F.entry_dict_get (PySem.F.args_dict_get_3 _ _ _) (meets_dict_get_default (mixKind X.prog X.w) a (Vs ey ry) hd r) ⟨_,dd.mapOf,h _ _ (I.tok _) ?_⟩
  rw[l]
  exact (rel.val k).getD rd
 ·subst ey
  cases (show u=Value.ref b from ry)
  obtain⟨z,hd,xs,rel,dd⟩:=Yay I.hok e
  refine call_meetsIn PySem.F.slot_dict_get dd.typeIs PySem.F.entry_dict_get (PySem.F.args_dict_get_3 _ _ _) (meetsH_dict_get_default (deepKind X.prog X.w) a b hd r) ⟨Wl hu,k,xs,VS I.hok eb,dd,h _ _ (I.tok _) ?_⟩
  rw[l]
  exact (rel.val k).getD rd
end
def tDGet2(td ty tx:TE):TE:=fun σ H Q=>td σ H fun x H1=>∃a,x=.ref a/\IsD H1 a/\ty σ H1 fun y H2=>tx σ H2 fun z H3=>∃o,DGet H3 a y o/\Q (o.getD z) H3
section
variable{X:Cx}{o e f:Expr}{apos cpos:Pos}{td ty tx:TE}
theorem YgX(hu:X.A.units+7<cLine)(ho:PE X o td)(he:PE X e ty)(hf:PE X f tx)(m:M2 X o "get" apos e f cpos):PE X (.Call (.Attribute o "get" apos) [e,f] [] cpos) (tDGet2 td ty tx):=by
 intro pins s σ H Q I h
 refine wpAny_Call_method m.base m.few m.line PySem.F.plainAttrs_dict PySem.F.slot_dict_get PySem.F.type_dict_get (thn (ho pins s σ H _ I h) fun u s1 ⟨x,H1,I1,rx,a,ex,d,q1⟩=>?_)
 subst ex
 obtain rfl:u=Value.ref a:=rx
 obtain⟨t1,t2,_⟩:=YjQ I1 d
 refine⟨t1,t2,?_⟩
 rw[m.trees]
 refine Calls.callWith_builtin rfl (Calls.evalArgs_plain (Calls.spliced_cons (thn (he pins s1 σ H1 _ I1 q1) fun iv s2 ⟨y,H2,I2,ry,q2⟩=>
  Calls.spliced_cons (thn (hf pins s2 σ H2 _ I2 q2) fun fv s3 ⟨z,H3,I3,rz,ov,g,q3⟩=>Calls.spliced_nil ?_))))
 exact Yla hu I3 g ry rz fun w' s4 I4 rw'=>⟨_,H3,I4,rw',q3⟩
end
section
variable{X:Cx}{pins:List (Addr×Obj)}{σ:St}{H:Hp}{s:Shared}{a:Addr}{kvs:List (Key×V)}{A:Around}{E:Value->Shared->Prop}
end
section
variable{X:Cx}{pins:List (Addr×Obj)}{σ:St}{H:Hp}{s:Shared}{a:Addr}{y:V}{u:Value}{A:Around}{E:Value->Shared->Prop}
end
end L2
namespace Att
open PySem PySem.W PySem.Calls PyProof.Rows
theorem Yai{P:Params}{h:Heap}:∀(ns:List Int)(vs:List Value),WellAll P h vs (ns.map WData.int)->IntsAre vs ns:=by
 intro ns
 induction ns with
 |nil=>
  intro vs w
  rw[List.map_nil]at w
  cases w
  exact .nil
 |cons n ns ih=>
  intro vs w
  rw[List.map_cons]at w
  cases w with
  |cons a b=>
   cases a
   exact .cons _ _ (ih _ b)
theorem Yfz{l:OpenLaw}{n:Nat}(hn:l.most=some n){P:Params}{h:Heap}{args:List WData}{vals:List Value}
 (hpre:l.row.toRowW.claim.pre args=true) (hwl:WellAll P h vals args):
 ∃a vs ns,vals=[Value.ref a]/\args=[WData.list (ns.map WData.int)]/\h.get? a=some { cls:=.type "list",data:=.seq vs.toArray }/\IntsAre vs ns/\ns.length<=n:=by
 have hsh:WShape.hasAll [] args [.list .int]=true:=(pre_splitW hpre).1
 have hc:l.pre.holds [] { args:=args }=true:=(pre_splitW hpre).2
 obtain⟨d,r,rfl,h1,h2⟩:=hasAllW_cons hsh
 obtain rfl:=hasAllW_nil h2
 obtain⟨xs,rfl,h3⟩:=hasW_list h1
 obtain⟨ns,rfl⟩:=items_int h3
 have hlen:ns.length<=n:=by
  unfold OpenLaw.pre at hc
  have h4:(WTm.not (.lt (.lit (.int (n:Int))) (.len (.arg 0)))).holds [] { args:=[.list (ns.map .int)] }=true:=by
   have h4:=(holds_andW hc).1
   rw[hn]at h4
   exact h4
  have h5:=condW_of h4 (w_not (w_lt w_lit (w_len_list (w_arg rfl))))
  rw[List.length_map]at h5
  refine Nat.le_of_not_lt fun q=>?_
  have q':(n:Int)<((ns.length:Nat):Int):=by omega
  first
   |(rw[decide_eq_true q']at h5;exact absurd h5 (by decide))
   |(simp at h5;omega)
 cases hwl with
 |cons w1 w2=>
  cases w2
  cases w1 with
  |list ho hall=>exact⟨_,_,ns,rfl,rfl,ho,Yai ns _ hall,hlen⟩
theorem YfI(l:OpenLaw)(args:List WData):l.row.toRowW.claim.post args (.bool true) args=true:=
 postW_of (r:=l.row.toRowW) (X:=(true == true))
  (show WShape.has [] (.bool true) .bool=true by first|rfl|decide|simp[WShape.has,WShape.arms,WShape.armsAll])
  (show (WTm.eq .res (.lit (.bool true))).value [] { args:=args,res:=some (.bool true),after:=args }=some (.bool (true == true)) from w_eq_bool (w_res rfl) w_lit) rfl
theorem attach_call{l:OpenLaw}{n:Nat}{q:Program}{loose:List Str}{XP:(Str->Option Value)->Heap->Prop}{YP:World->Heap->Prop}{d:DefRec}
 (hn:l.most=some n) (hdf:d.params.defaults=[])
 (call:∀(w:World)(s₀ s₁:Shared)(mg mb:Str->Option Value)(fa:Addr)(o:Obj)(pm cd doc:Value)(a:Addr)(vs:List Value)(ns:List Int),
  Ground q loose [] XP w s₀ mg mb s₁.heap->YP w s₁.heap->
  s₁.heap.get? fa=some o->o.data=.func (docDef d.name d.params d.body d.scope pm cd doc)->s₁.heap.CodeRec cd d.name->mg d.name=some (.ref fa)->
  s₁.heap.get? a=some { cls:=.type "list",data:=.seq vs.toArray }->IntsAre vs ns->ns.length<=n->s₁.gens=#[]->
  codeAny (model l.prog w) callerA (.call (.ref fa) ⟨[.ref a],[]⟩) (fun r s'=>r=.ok (.ret (.bool true))/\OldK s₁.heap s'.heap/\s'.os=s₁.os/\AllBare s'.gens) s₁):
 WalkO q loose XP YP l.row.toRowW d [] (fun f vs=>PySem.call f vs):=by
 intro w s₀ s₁ mg mb G Y fa o pm cd doc dV kV ho hd hcd hD hmg hg args vals as hpre hlay hrd hwl hlo
 obtain rfl:dV=.none:=Dflts.none hD hdf
 obtain rfl:kV=.none:=Dflts.noKw hD
 obtain⟨a,vs,ns,rfl,rfl,hobj,hints,hlen⟩:=Yfz hn hpre hwl
 refine enter_call (codeAny_mono (call w s₀ s₁ mg mb fa o pm cd doc a vs ns G Y ho (fd_plain hd) hcd hmg hobj hints hlen hg) fun r s' hq=>?_)
 obtain⟨rfl,h2,h3,h4⟩:=hq
 exact⟨.inl ⟨.bool true,.bool true,[],rfl,fun _=>rfl,.bool true,YfI l _,fun _=>⟨List.Pairwise.nil,fun _ hm=>(nomatch hm)⟩⟩,h2,h3,h4⟩
section
variable{prog:Program}{w:World}{A:Around}{E:Value->Shared->Prop}{s:Shared}{K:Frag}
def ledger(h:Heap)(L d:Addr):List (Addr×Obj):=(List.range h.objs.size).filterMap fun a=>if a=L\/a=d then none else (h.get? a).map fun o=>(a,o)
end
end Att
namespace L2
open PySem PySem.Spec PyProof.Rows
theorem YbP:∀{vs:List Value}{ns:List Int},IntsAre vs ns->Vals (ns.map V.int) vs
 |_,_,.nil=>.nil
 |_,_,.cons n t h=>.cons ⟨t,rfl⟩ (YbP h)
def Only(H:Hp):Prop:=∀b,H b=none\/∃o xs,H b=some (.frz o (.lst xs))
theorem Yh3{P:Program}{w:World}{K:PySem.W.Frag}{mg mb:Str->Option Value}{CX:CXT}{k:Nat}{fa a:Addr}{fd:FuncData}{x:Str}{sp:Sp}{s₁:Shared}{vs:List Value}{ns:List Int}
 (KX:K.In s₁.heap) (hns:s₁.heap.Ns mainGlobals mg) (hb:s₁.heap.Ns builtinsNs mb) (hbb:∀x:Str,x≠"__name__"->mb x=bootBuiltins x) (hlim:s₁.heap.NoLimit) (hg:s₁.gens=#[]) (hloc:fd.scope.names.lookup x=some .local)
 (ha:s₁.heap.get? a=some { cls:=.type "list",data:=.seq vs.toArray }) (hi:IntsAre vs ns) (hl:ns.length<=sizeLine) (hr:Room k callerA)
 (F:∀base:Heap,K.In base->base.Ns mainGlobals mg->FnOk P w K mg base CX k fa fd [x] sp) (hbind:∀(s:Shared)(u:Value),BindsTo s fd ⟨[u],[]⟩ [(x,u)])
 (hsp:∀H:Hp,Only H->SqL K H a (ns.map V.int)->sp [.ref a] H (fun v _=>v=.bl true) fun _ _ _=>False)
 (hCX:∀H e s',CX [] H s₁ (fun _ _ _=>False) e s'->False):
 codeAny (model P w) callerA (.call (.ref fa) ⟨[.ref a],[]⟩) (fun r s'=>r=.ok (.ret (.bool true))/\OldK s₁.heap s'.heap/\s'.os=s₁.os/\AllBare s'.gens) s₁:=by
 have rv:=YbP hi
 have lenV:=hi.length
 have core:∀H:Hp,Only H->SqL K H a (ns.map V.int)->HOk P w H s₁.heap->(∀b,H b≠none->b=a)->(H a≠none->K.lookup a=none)->(∀t,H.τ t=none)->
  codeAny (model P w) callerA (.call (.ref fa) ⟨[.ref a],[]⟩) (fun r s'=>r=.ok (.ret (.bool true))/\OldK s₁.heap s'.heap/\s'.os=s₁.os/\AllBare s'.gens) s₁:=by
  intro H hO hS hok hA hK hτ
  have base_of:∀{b:Addr}{o:Obj},s₁.heap.get? b=some o->H b=none->(hidT s₁.heap H).get? b=some o:=fun e n=>Yh6 e n
  have noA:∀{b:Addr}{o:Obj}{es:Array DictEntry}{ep:Nat},s₁.heap.get? b=some o->o.data=.dict es ep->H b=none:=fun {b o es ep} e d=>by
   cases q:H b with
   |none=>rfl
   |some u=>
    have e':b=a:=hA b (by rw[q];simp)
    subst e'
    rw[ha]at e;cases e
    have d':Data.seq vs.toArray _=Data.dict es ep:=d
    cases d'
  have nsK:∀{b:Addr}{m:Str->Option Value},s₁.heap.Ns b m->(hidT s₁.heap H).Ns b m:=fun {b m} ⟨o,es,ep,e,d,r⟩=>⟨o,es,ep,base_of e (noA e d),d,r⟩
  have hKb:K.In (hidT s₁.heap H):=fun b o e=>base_of (KX b o e) (by
   cases q:H b with
   |none=>rfl
   |some u=>
    have e':b=a:=hA b (by rw[q];simp)
    subst e'
    rw[hK (by rw[q];simp)]at e;cases e)
  have hM:Mod K mg (hidT s₁.heap H):=⟨hKb,nsK hns,⟨mb,nsK hb,hbb⟩,let ⟨mc,h1,h2⟩:=hlim;⟨mc,nsK h1,h2⟩⟩
  have e0:Env0 P w K mg (hidT s₁.heap H) callerA [] s₁ H:=⟨rfl,hM,fun b o e=>YiQ e,Nat.le_of_eq (Yfu _ _),trivial,fun b hb=>absurd (show b∈([]:List Addr) from hb) (by simp),hok,.of_eq hg,fun t _=>hτ t⟩
  refine codeAny_mono ((F _ hKb (nsK hns)).run callerA [] s₁ H ⟨[.ref a],[]⟩ [.ref a] [.ref a] _ _ hr e0 (.inr ⟨x,[],rfl,hloc⟩) (hbind s₁ (.ref a)) (.cons rfl .nil) (hsp H hO hS)) fun r s' h=>?_
  cases r with
  |error e=>exact (hCX H e s' h).elim
  |ok fl=>
   cases fl with
   |next=>exact False.elim h
   |brk=>exact False.elim h
   |cont=>exact False.elim h
   |ret u=>
    obtain⟨v,H',os,bare,un,hok',_,r',q⟩:=h
    have q':v=.bl true:=q
    subst q'
    obtain rfl:u=Value.bool true:=r'
    refine⟨rfl,OldK.of_keep fun b o e=>?_,os,bare⟩
    cases q:H b with
    |none=>exact un.keep b o e q (by intro z;exact absurd (show b∈([]:List Addr) from z) (by simp)) (by simp)
    |some u=>
     rcases hO b with z|⟨ob,xs,z⟩
     ·rw[q]at z;cases z
     ·have z2:=un.frzs b ob _ z
      obtain⟨e1,_⟩:=hok b _ z
      obtain⟨e2,_⟩:=hok' b _ z2
      rw[e]at e1;cases e1
      exact e2
 cases hk:K.lookup a with
 |some o=>
  have e:=KX a o hk
  rw[ha]at e
  cases e
  refine core ⟨fun _=>none,fun _=>none⟩ (fun _=>.inl rfl) (.inr ⟨_,vs.toArray,_,hk,rfl,rfl,rfl,by rw[List.size_toArray,lenV];exact hl,by simpa using rv⟩) (fun b u z=>by have z':(none:Option HO)=some u:=z;cases z') (fun b z=>absurd rfl z) (fun z=>absurd rfl z) fun _=>rfl
 |none=>
  refine core ⟨fun b=>if b=a then some (.frz { cls:=.type "list",data:=.seq vs.toArray } (.lst (ns.map V.int))) else none,fun _=>none⟩ (fun b=>?_) (.inl (.inr ⟨{ cls:=.type "list",data:=.seq vs.toArray },if_pos rfl⟩)) (fun b u z=>?_) (fun b z=>?_) (fun _=>hk) fun _=>rfl
  ·by_cases hb:b=a
   ·exact .inr ⟨_,_,if_pos hb⟩
   ·exact .inl (if_neg hb)
  ·by_cases hb:b=a
   ·have z':=(if_pos hb).symm.trans z
    cases z'
    subst hb
    exact⟨ha,by rw[List.length_map];exact hl,vs,_,rv,ha⟩
   ·have z':=(if_neg hb).symm.trans z
    cases z'
  ·by_cases hb:b=a
   ·exact hb
   ·exact absurd (if_neg hb) z
end L2
namespace L2
open PySem PySem.Spec PyProof.Rows
theorem walk_of{l:PySem.W.OpenLaw}{n k:Nat}{q:Program}{loose:List Str}{XP:(Str->Option Value)->Heap->Prop}{YP:World->Heap->Prop}{d:DefRec}{K:Params->PySem.W.Frag}{CX:World->CXT}{sp:World->Sp}{x:Str}
 (hn:l.most=some n) (hn2:n<=sizeLine) (hdf:d.params.defaults=[]) (hr:Room k callerA)
 (hY:∀(w:World)(h:Heap),YP w h->(K w.params).In h)
 (F:∀(w:World)(mg:Str->Option Value)(fa:Addr)(h:Heap),(K w.params).In h->h.Ns mainGlobals mg->mg d.name=some (.ref fa)->
  ∃fd:FuncData,fd.scope.names.lookup x=some .local/\(∀(s:Shared)(u:Value),BindsTo s fd ⟨[u],[]⟩ [(x,u)])/\
   ∀base:Heap,(K w.params).In base->base.Ns mainGlobals mg->FnOk l.prog w (K w.params) mg base (CX w) k fa fd [x] (sp w))
 (hsp:∀(w:World)(H:Hp)(a:Addr)(ns:List Int),ns.length<=n->Only H->SqL (K w.params) H a (ns.map V.int)->sp w [.ref a] H (fun v _=>v=.bl true) fun _ _ _=>False)
 (hCX:∀(w:World)(H:Hp)(s:Shared)(e:Value)(s':Shared),CX w [] H s (fun _ _ _=>False) e s'->False):
 PySem.W.WalkO q loose XP YP l.row.toRowW d [] (fun f vs=>PySem.call f vs):=by
 refine Att.attach_call hn hdf fun w s₀ s₁ mg mb fa o pm cd doc a vs ns G Y ho hd hcd hmg hobj hints hlen hg=>?_
 have KX:=hY w _ Y
 obtain⟨fd,hloc,hb,hF⟩:=F w mg fa _ KX G.T.g hmg
 exact Yh3 KX G.T.g G.T.b G.T.builtins G.T.nolimit hg hloc hobj hints (Nat.le_trans hlen hn2) hr hF hb (fun H hO hS=>hsp w H a ns hlen hO hS) fun H e s'=>hCX w H s₁ e s'
end L2
namespace L2
open PySem PySem.Spec PyProof.Rows
def defArgs(s:Stmt):Arguments:=match s with
 | .FunctionDef _ a _ _ _ _ _ _ _ _=>a
 |_=>{ posonlyargs:=[],args:=[],vararg:=none,kwonlyargs:=[],kw_defaults:=[],kwarg:=none,defaults:=[] }
def defBody(s:Stmt):List Stmt:=match s with
 | .FunctionDef _ _ b _ _ _ _ _ _ _=>b
 |_=>[]
def defScope(s:Stmt):Scope:=match s with
 | .FunctionDef _ _ _ _ _ _ sc _ _ _=>sc
 |_=>{ kind:=.function,names:=[],isGenerator:=false,isCoroutine:=false }
abbrev CX0:CXT:=fun _ _ _ _ _ _=>False
abbrev E0:XK:=fun _ _ _=>False
theorem pass0{X:Cx}:Passes CX0 X E0:=fun _ _ _ _ _ _ _ h=>h.elim
structure Fun(K:PySem.W.Frag)(x qual:Str)(st:Stmt)(f:Addr)(fd:FuncData):Prop where
 ex:∃(oc:Value)(od:Option Addr)(kV doc pm:Value)(an:Option Addr)(cdv ct:Value)(osl:Array (Option Value)),
  fd=PySem.W.fnOf x qual (defArgs st) (defBody st) (defScope st) .none kV doc pm an cdv ct/\K.lookup f=some ⟨oc,od,.func fd,osl⟩/\PySem.W.codeIn K cdv qual=true
 kp:PySem.W.keepIn K (.ref f)=true
section
variable{P:Program}{w:World}{K:PySem.W.Frag}{mg:Str->Option Value}{base:Heap}
theorem Fun.ok{x qual:Str}{st:Stmt}{f:Addr}{fd:FuncData}{N ps:List Str}{k:Nat}{sp:Sp}(F:Fun K x qual st f fd)(S:FnScope N ps (defScope st))(len:∀vs H Q E,sp vs H Q E->vs.length=ps.length)
 (hbody:∀(cdv:Value)(A:Around)(outer:List Env)(s:Shared)(H:Hp)(vs:List V)(Q:VK)(E:XK),Room k (A.deeper (envOfC qual (defScope st) s.heap.objs.size f cdv))->sp vs H Q E->
  ∃t,PSs (cxOf CX0 P w K mg base N qual (defScope st) f cdv A outer s H E).nox (defBody st) t/\t { nx:=fun _ H'=>Q .non H',rt:=Q } (start N vs) H):FnOk P w K mg base CX0 (k+1) f fd ps sp:=by
 obtain⟨oc,od,kV,doc,pm,an,cdv,ct,osl,rfl,lk,hcd⟩:=F.ex
 refine YlM lk hcd S len fun A outer s H vs Q E hr hsp=>?_
 obtain⟨t,h,q⟩:=hbody cdv A outer s H vs Q E hr hsp
 exact⟨t,h.nox,q⟩
theorem Fun.binds{x qual:Str}{st:Stmt}{f:Addr}{fd:FuncData}{ps:List Str}(F:Fun K x qual st f fd)
 (h:∀(kV doc pm:Value)(an:Option Addr)(cdv ct:Value)(us:List Value),us.length=ps.length->bindArgs (PySem.W.fnOf x qual (defArgs st) (defBody st) (defScope st) .none kV doc pm an cdv ct) ⟨us,[]⟩=pure (ps.zip us)):Binds K fd ps []:=by
 obtain⟨oc,od,kV,doc,pm,an,cdv,ct,osl,rfl,lk,hcd⟩:=F.ex
 exact .all (h kV doc pm an cdv ct)
theorem YgH{x qual:Str}{st:Stmt}{f:Addr}{oc:Value}{od an:Option Addr}{osl:Array (Option Value)}{kV doc pm cdv ct:Value}(l:K.lookup f=some ⟨oc,od,.func (PySem.W.fnOf x qual (defArgs st) (defBody st) (defScope st) .none kV doc pm an cdv ct),osl⟩)
 (c:PySem.W.codeIn K cdv qual=true) (k:PySem.W.keepIn K (.ref f)=true):Fun K x qual st f (PySem.W.fnOf x qual (defArgs st) (defBody st) (defScope st) .none kV doc pm an cdv ct):=⟨⟨oc,od,kV,doc,pm,an,cdv,ct,osl,rfl,l,c⟩,k⟩
end
theorem YA{A:Around}{k:Nat}(hr:Room k A):A.units+7<cLine:=by have:=hr.units;omega
section
variable{X:Cx}
theorem pv(i:Nat){x:Str}{pos:Pos}(hN:X.N[i]?=some x:=by rfl)(hv:Vis X.env.scope x:=by first|exact Or.inl rfl|exact Or.inr (Or.inl rfl)|exact Or.inr (Or.inr rfl))(hd:(x == ("__debug__":Str))=false:=by decide)
 (hcd:(x == ("__classdict__":Str))=false:=by decide):PE X (.Name x pos) (tVar i):=YhJ hN hv hd hcd
end
def Same(H H':Hp):Prop:=∀b o,H b=some o->H' b=some o
theorem Same.refl(H:Hp):Same H H:=fun _ _ h=>h
theorem Same.trans{H H1 H2:Hp}(a:Same H H1)(b:Same H1 H2):Same H H2:=fun c o h=>b c o (a c o h)
theorem Same.free{H H':Hp}(e:Same H H'){l:Addr}(h:H' l=Option.none):H l=Option.none:=by
 cases q:H l with
 |none=>rfl
 |some o=>
  rw[e l o q]at h
  cases h
end L2
namespace L2
open PySem PySem.Spec PyProof.Rows
section
variable{X:Cx}
theorem YfF:CallR X (.builtin "len") (fun xs H Q=>∃a kvs,xs=[V.ref a]/\H a=some (.dK kvs)/\Q (.int kvs.length) H):=by
 intro pins s σ H xs us Q I r h
 obtain⟨a,kvs,rfl,ha,q⟩:=h
 obtain⟨u,rfl,ru⟩:=vals1 r
 cases ru
 exact Ylu I (.inl ha) fun t s' I'=>⟨.int kvs.length,H,I',⟨t,rfl⟩,q⟩
end
section
variable{κ:Type} [DecidableEq κ]
end
end L2
namespace Mi
open PySem PySem.Spec L2
open PyProof.Rows hiding St
inductive P where
 |non|bl (b:Bool)|int (i:Int)|str (x:Str)|tup (xs:List P)|ref (k:Nat)
inductive O where
 |lst (xs:List P)|ro (xs:List P)|dct (kvs:List (Key×P))|exc (c:Str) (fs:List (Str×P))|ddk (kvs:List (DK×P))|fdd (kvs:List (DK×P))|fn (n:Str)|fdc (kvs:List (Key×P))
abbrev Stor:=List O
abbrev Rho:=List (Option P)
mutual
inductive Den(K:PySem.W.Frag)(as:List Addr)(H:Hp):V->P->Prop where
 |non:Den K as H .non .non
 |bl {b}:Den K as H (.bl b) (.bl b)
 |int {i}:Den K as H (.int i) (.int i)
 |str {x t} (h:H.τ t=some x) (z:t≠0):Den K as H (.str x t) (.str x)
 |ref {k a}:as[k]?=some a->Den K as H (.ref a) (.ref k)
 |tup {a vs ps} (sq:SqT K H a vs) (ds:Dens K as H vs ps) (tk:H a=some (.tup vs):=by first|assumption|exact Yq):Den K as H (.ref a) (.tup ps)
inductive Dens(K:PySem.W.Frag)(as:List Addr)(H:Hp):List V->List P->Prop where
 |nil:Dens K as H [] []
 |cons {v p vs ps}:Den K as H v p->Dens K as H vs ps->Dens K as H (v::vs) (p::ps)
end
def Mu:HO->Prop
 | .lst _=>True
 | .dK _=>True
 | .dT _=>True
 |_=>False
structure Ext(as:List Addr)(H:Hp)(as':List Addr)(H':Hp):Prop where
 pre:∀(k:Nat) a,as[k]?=some a->as'[k]?=some a
 keep:∀b u,H b=some u->¬Mu u->H' b=some u
 tau:∀t x,H.τ t=some x->H'.τ t=some x
theorem Ext.refl{as:List Addr}{H:Hp}:Ext as H as H:=⟨fun _ _ e=>e,fun _ _ e _=>e,fun _ _ e=>e⟩
theorem Ext.trans{as as1 as2:List Addr}{H H1 H2:Hp}(a:Ext as H as1 H1)(b:Ext as1 H1 as2 H2):Ext as H as2 H2:=
 ⟨fun k x e=>b.pre k x (a.pre k x e),fun c u e m=>b.keep c u (a.keep c u e m) m,fun t x e=>b.tau t x (a.tau t x e)⟩
theorem SqT.ext{K:PySem.W.Frag}{as as':List Addr}{H H':Hp}{a:Addr}{vs:List V}(x:Ext as H as' H')(h:SqT K H a vs):SqT K H' a vs:=by
 rcases h with (h|⟨o,h⟩)|h
 ·exact .inl (.inl (x.keep _ _ h fun z=>z))
 ·exact .inl (.inr ⟨o,x.keep _ _ h fun z=>z⟩)
 ·exact .inr h
mutual
theorem Den.ext{K:PySem.W.Frag}{as as':List Addr}{H H':Hp}{v:V}{p:P}(x:Ext as H as' H')(h:Den K as H v p):Den K as' H' v p:=
 match h with
 | .non=>.non
 | .bl=>.bl
 | .int=>.int
 | .str h z=>.str (x.tau _ _ h) z
 | .ref e=>.ref (x.pre _ _ e)
 | .tup e r t=>.tup (SqT.ext x e) (Dens.ext x r) (x.keep _ _ t fun z=>z)
theorem Dens.ext{K:PySem.W.Frag}{as as':List Addr}{H H':Hp}{vs:List V}{ps:List P}(x:Ext as H as' H')(h:Dens K as H vs ps):Dens K as' H' vs ps:=
 match h with
 | .nil=>.nil
 | .cons a r=>.cons (Den.ext x a) (Dens.ext x r)
end
section
variable{K:PySem.W.Frag}{as:List Addr}{H:Hp}
theorem Dens.length:∀{vs:List V}{ps:List P},Dens K as H vs ps->vs.length=ps.length
 |_,_,.nil=>rfl
 |_,_,.cons _ r=>by simp[Dens.length r]
theorem Dens.get:∀{vs:List V}{ps:List P}{i:Nat}{p:P},Dens K as H vs ps->ps[i]?=some p->∃v,vs[i]?=some v/\Den K as H v p
 |_,_,_,_,.nil,e=>by simp at e
 |_,_,0,_,.cons a _,e=>by simp at e;subst e;exact⟨_,rfl,a⟩
 |_,_,i+1,_,.cons _ r,e=>by
  obtain⟨v,h1,h2⟩:=Dens.get (i:=i) r (by simpa using e)
  exact⟨v,by simpa using h1,h2⟩
theorem Dens.append:∀{vs ws:List V}{ps qs:List P},Dens K as H vs ps->Dens K as H ws qs->Dens K as H (vs++ws) (ps++qs)
 |_,_,_,_,.nil,s=>s
 |_,_,_,_,.cons a r,s=>.cons a (Dens.append r s)
theorem Dens.set{v:V}{p:P}(d:Den K as H v p):∀{vs:List V}{ps:List P}(i:Nat),Dens K as H vs ps->Dens K as H (vs.set i v) (ps.set i p)
 |_,_,_,.nil=>.nil
 |_,_,0,.cons _ t=>.cons d t
 |_,_,i+1,.cons q t=>.cons q (Dens.set d i t)
theorem Dens.take:∀{vs:List V}{ps:List P}(n:Nat),Dens K as H vs ps->Dens K as H (vs.take n) (ps.take n)
 |_,_,0,_=>.nil
 |_,_,_+1,.nil=>.nil
 |_,_,n+1,.cons r t=>.cons r (Dens.take n t)
theorem Dens.drop:∀{vs:List V}{ps:List P}(n:Nat),Dens K as H vs ps->Dens K as H (vs.drop n) (ps.drop n)
 |_,_,0,r=>r
 |_,_,_+1,.nil=>.nil
 |_,_,n+1,.cons _ t=>Dens.drop n t
theorem Dens.reverse:∀{vs:List V}{ps:List P},Dens K as H vs ps->Dens K as H vs.reverse ps.reverse
 |_,_,.nil=>.nil
 |_,_,.cons r t=>by rw[List.reverse_cons,List.reverse_cons];exact (Dens.reverse t).append (.cons r .nil)
end
def XObj(a:Addr)(C:Value)(od:Option Addr)(h:Heap):Prop:=∃o vs,h.get? a=some o/\o.cls=C/\o.dict=od/\o.data=.fields vs
def FlyA(K:PySem.W.Frag)(as:List Addr)(H:Hp)(od:Option Addr)(fs:List (Str×P)):Prop:=
 (od=none/\fs=[])\/∃d ws,od=some d/\H d=some (.xd ws)/\ws.map (·.1)=fs.map (·.1)/\Dens K as H (ws.map (·.2)) (fs.map (·.2))
theorem FlyA.ext{K:PySem.W.Frag}{as as':List Addr}{H H':Hp}{od:Option Addr}{fs:List (Str×P)}(x:Ext as H as' H')(h:FlyA K as H od fs):FlyA K as' H' od fs:=by
 rcases h with h|⟨d,ws,h4,h5,h6,h7⟩
 ·exact .inl h
 ·exact .inr ⟨d,ws,h4,x.keep _ _ h5 fun z=>z,h6,h7.ext x⟩
def ORep(K:PySem.W.Frag)(as:List Addr)(H:Hp)(a:Addr):O->Prop
 | .lst xs=>∃vs,H a=some (.lst vs)/\Dens K as H vs xs
 | .ro xs=>∃vs,((∃o,H a=some (.frz o (.lst vs)))\/∃(o:Obj)(its:Array Value)(n:Nat),K.lookup a=some o/\o.cls=.type "list"/\o.dict=none/\o.data=.seq its n/\its.size<=sizeLine/\Vals vs its.toList)/\Dens K as H vs xs
 | .dct kvs=>∃ws,H a=some (.dK ws)/\ws.map (·.1)=kvs.map (·.1)/\Dens K as H (ws.map (·.2)) (kvs.map (·.2))
 | .exc c fs=>∃C od,PySem.W.nsIn K mainGlobals c=some (some (.ref C))/\H a=some (.ext (XObj a (.ref C) od))/\FlyA K as H od fs
 | .ddk kvs=>∃ws,H a=some (.dT ws)/\ws.map (·.1)=kvs.map (·.1)/\Dens K as H (ws.map (·.2)) (kvs.map (·.2))
 | .fdc kvs=>∃o ws,H a=some (.frz o (.dK ws))/\ws.map (·.1)=kvs.map (·.1)/\Dens K as H (ws.map (·.2)) (kvs.map (·.2))
 | .fdd kvs=>∃o ws,H a=some (.frz o (.dT ws))/\ws.map (·.1)=kvs.map (·.1)/\Dens K as H (ws.map (·.2)) (kvs.map (·.2))
 | .fn n=>PySem.W.nsIn K mainGlobals n=some (some (.ref a))
def isRo:Option O->Prop
 |some (.ro _)=>True
 |some (.fn _)=>True
 |_=>False
structure Rep(K:PySem.W.Frag)(as:List Addr)(st:Stor)(H:Hp):Prop where
 len:as.length=st.length
 nd:∀(i j:Nat) a,as[i]?=some a->as[j]?=some a->¬isRo st[i]?->¬isRo st[j]?->i=j
 ob:∀(k:Nat) a o,as[k]?=some a->st[k]?=some o->ORep K as H a o
section
variable{K:PySem.W.Frag}{as as':List Addr}{H H':Hp}{st:Stor}
theorem ORep.ext{a:Addr}{o:O}(x:Ext as H as' H')(hm:∀u,H a=some u->H' a=some u)(h:ORep K as H a o):ORep K as' H' a o:=by
 cases o with
 |lst xs=>obtain⟨vs,h1,h2⟩:=h;exact⟨vs,hm _ h1,h2.ext x⟩
 |ro xs=>
  obtain⟨vs,h1,h2⟩:=h
  refine⟨vs,?_,h2.ext x⟩
  rcases h1 with⟨o,h1⟩|h1
  ·exact .inl ⟨o,hm _ h1⟩
  ·exact .inr h1
 |dct kvs=>obtain⟨ws,h1,h2,h3⟩:=h;exact⟨ws,hm _ h1,h2,h3.ext x⟩
 |exc c fs=>
  obtain⟨C,od,h1,h2,h3⟩:=h
  exact⟨C,od,h1,hm _ h2,h3.ext x⟩
 |ddk kvs=>obtain⟨ws,h1,h2,h3⟩:=h;exact⟨ws,hm _ h1,h2,h3.ext x⟩
 |fdc kvs=>obtain⟨o,ws,h1,h2,h3⟩:=h;exact⟨o,ws,hm _ h1,h2,h3.ext x⟩
 |fdd kvs=>obtain⟨o,ws,h1,h2,h3⟩:=h;exact⟨o,ws,hm _ h1,h2,h3.ext x⟩
 |fn n=>exact h
theorem Rep.tracked(r:Rep K as st H){k:Nat}{a:Addr}(e:as[k]?=some a)(n:¬isRo st[k]?):∃u,H a=some u:=by
 have hk:k<st.length:=by rw[<-r.len];exact (List.getElem?_eq_some_iff.mp e).1
 have q:st[k]?=some st[k]:=by simp[hk]
 have h:=r.ob k a _ e q
 rw[q]at n
 cases w:st[k]with
 |lst xs=>rw[w]at h;obtain⟨vs,h1,_⟩:=h;exact⟨_,h1⟩
 |ro xs=>rw[w]at n;exact absurd trivial n
 |dct kvs=>rw[w]at h;obtain⟨vs,h1,_⟩:=h;exact⟨_,h1⟩
 |exc c fs=>rw[w]at h;obtain⟨C,od,_,h2,_⟩:=h;exact⟨_,h2⟩
 |ddk kvs=>rw[w]at h;obtain⟨vs,h1,_⟩:=h;exact⟨_,h1⟩
 |fdc kvs=>rw[w]at h;obtain⟨o,vs,h1,_⟩:=h;exact⟨_,h1⟩
 |fdd kvs=>rw[w]at h;obtain⟨o,vs,h1,_⟩:=h;exact⟨_,h1⟩
 |fn m=>rw[w]at n;exact absurd trivial n
theorem Ext.new{p:Addr}{u:HO}(hp:H p=none):Ext as H (as++[p]) (upd H p u) where
 pre:=fun k a e=>by rw[List.getElem?_append_left (List.getElem?_eq_some_iff.mp e).1];exact e
 keep:=fun b w e _=>by rw[Yt (Yv e hp)];exact e
 tau:=fun _ _ e=>e
theorem Ext.laid{p:Addr}{u:HO}(hp:H p=none):Ext as H as (upd H p u) where
 pre:=fun k a e=>e
 keep:=fun b w e _=>by rw[Yt (Yv e hp)];exact e
 tau:=fun _ _ e=>e
theorem Rep.laid{p:Addr}{u:HO}(r:Rep K as st H)(hp:H p=none):Rep K as st (upd H p u):=
 ⟨r.len,r.nd,fun k a o e q=>(r.ob k a o e q).ext (Ext.laid hp) fun w z=>by rw[Yt (Yv z hp)];exact z⟩
theorem Ydg{x:Str}(h:x.length=0):x=Str.empty:=by
 obtain⟨c⟩:=x
 have:c=#[]:=Array.eq_empty_of_size_eq_zero h
 rw[this];rfl
theorem Ext.put{t:Tok}{x:Str}(hn:H.τ t=none):Ext as H as (H.put t x) where
 pre:=fun k a e=>e
 keep:=fun b w e _=>e
 tau:=fun u y e=>by
  show (if u=t then some x else H.τ u)=some y
  rw[if_neg]
  ·exact e
  ·rintro rfl
   rw[hn]at e;cases e
theorem Rep.put{t:Tok}{x:Str}(r:Rep K as st H)(hn:H.τ t=none):Rep K as st (H.put t x):=
 ⟨r.len,r.nd,fun k a o e q=>(r.ob k a o e q).ext (Ext.put hn) fun w z=>z⟩
theorem Yj4{v:V}{p:P}(d:Den K as H v p):TkV H v:=fun x t e=>by
 subst e
 cases d with
 |str h z=>exact⟨h,z⟩
theorem mkT{x:Str}{Q:VK}(r:Rep K as st H)(h:∀as1 H1 v,Ext as H as1 H1->Rep K as1 st H1->Den K as1 H1 v (.str x)->Q v H1):MkT x Q H:=fun t hn hz=>
 h as _ _ (Ext.put hn) (r.put hn) (.str (if_pos rfl) hz)
def Fresh(as:List Addr)(st:Stor)(l:Addr):Prop:=∀i:Nat,as[i]?=some l->isRo st[i]?
theorem Rep.fresh{p:Addr}(r:Rep K as st H)(hp:H p=none):Fresh as st p:=fun i e=>by
 by_cases h:isRo st[i]?
 ·exact h
 ·obtain⟨u,hu⟩:=r.tracked e h
  rw[hp]at hu;cases hu
theorem Ext.add{p:Addr}:Ext as H (as++[p]) H where
 pre:=fun k a e=>by rw[List.getElem?_append_left (List.getElem?_eq_some_iff.mp e).1];exact e
 keep:=fun b w e _=>e
 tau:=fun _ _ e=>e
theorem Rep.add{p:Addr}{o:O}(r:Rep K as st H)(fr:Fresh as st p)(ho:ORep K (as++[p]) H p o):Rep K (as++[p]) (st++[o]) H where
 len:=by simp[r.len]
 nd:=fun i j a hi hj ni nj=>by
  have hl:=r.len
  have key:∀(i:Nat),(as++[p])[i]?=some a->(¬isRo (st++[o])[i]?)->(i<as.length/\as[i]?=some a/\(¬isRo st[i]?))\/(i=as.length/\a=p):=fun i hi ni=>by
   by_cases h:i<as.length
   ·rw[List.getElem?_append_left h]at hi
    rw[List.getElem?_append_left (by omega)]at ni
    exact .inl ⟨h,hi,ni⟩
   ·have h':i<(as++[p]).length:=(List.getElem?_eq_some_iff.mp hi).1
    rw[List.length_append,List.length_singleton]at h'
    have e:i=as.length:=by omega
    subst e
    rw[List.getElem?_append_right (Nat.le_refl _)]at hi
    simp at hi
    exact .inr ⟨rfl,hi.symm⟩
  rcases key i hi ni with⟨a1,a2,a3⟩|⟨a1,a2⟩
  ·rcases key j hj nj with⟨b1,b2,b3⟩|⟨b1,b2⟩
   ·exact r.nd i j a a2 b2 a3 b3
   ·subst b2;exact absurd (fr i a2) a3
  ·rcases key j hj nj with⟨b1,b2,b3⟩|⟨b1,b2⟩
   ·subst a2;exact absurd (fr j b2) b3
   ·omega
 ob:=fun k a q hk hq=>by
  have hl:=r.len
  by_cases h:k<as.length
  ·rw[List.getElem?_append_left h]at hk
   rw[List.getElem?_append_left (by omega)]at hq
   exact (r.ob k a q hk hq).ext Ext.add fun w z=>z
  ·have h':k<(as++[p]).length:=(List.getElem?_eq_some_iff.mp hk).1
   rw[List.length_append,List.length_singleton]at h'
   have e:k=as.length:=by omega
   subst e
   rw[List.getElem?_append_right (Nat.le_refl _)]at hk
   rw[List.getElem?_append_right (by omega)]at hq
   simp at hk
   simp[hl]at hq
   subst hk;subst hq
   exact ho
theorem Rep.new{p:Addr}{u:HO}{o:O}(r:Rep K as st H)(hp:H p=none)(ho:ORep K (as++[p]) (upd H p u) p o):Rep K (as++[p]) (st++[o]) (upd H p u):=
 (r.laid hp).add (r.fresh hp) ho
theorem VL{p:Addr}:(as++[p])[as.length]?=Option.some p:=by simp
theorem Rep.lnew{p:Addr}{vs:List V}{xs:List P}(r:Rep K as st H)(hp:H p=none)(d:Dens K as H vs xs):Rep K (as++[p]) (st++[.lst xs]) (upd H p (.lst vs)):=
 r.new hp ⟨vs,Yq,d.ext (Ext.new hp)⟩
theorem Ext.write{a:Addr}{u w:HO}(ha:H a=Option.some w)(mu:Mu w):Ext as H as (upd H a u) where
 pre:=fun k a e=>e
 keep:=fun b z e m=>by
  rw[Yt]
  ·exact e
  ·rintro rfl
   rw[ha]at e;cases e
   exact m mu
 tau:=fun _ _ e=>e
theorem Rep.write{k:Nat}{a:Addr}{u w:HO}{o:O}(r:Rep K as st H)(hk:as[k]?=Option.some a)(ha:H a=Option.some w)(mu:Mu w)(no:¬isRo (Option.some o))(nr:¬isRo st[k]?)(ho:ORep K as (upd H a u) a o):Rep K as (st.set k o) (upd H a u) where
 len:=by rw[List.length_set];exact r.len
 nd:=fun i j b hi hj ni nj=>by
  have key:∀(i:Nat),as[i]?=Option.some b->(¬isRo (st.set k o)[i]?)->¬isRo st[i]?:=fun i hi ni z=>by
   by_cases h:k=i
   ·subst h;exact nr z
   ·rw[List.getElem?_set_ne h]at ni;exact ni z
  exact r.nd i j b hi hj (key i hi ni) (key j hj nj)
 ob:=fun i b q hi hq=>by
  have hkl:k<st.length:=by rw[<-r.len];exact (List.getElem?_eq_some_iff.mp hk).1
  by_cases h:k=i
  ·subst h
   rw[hk]at hi;cases hi
   rw[List.getElem?_set_self hkl]at hq
   cases hq
   exact ho
  ·rw[List.getElem?_set_ne h]at hq
   have old:=r.ob i b q hi hq
   by_cases hb:b=a
   ·subst hb
    by_cases hr:isRo st[i]?
    ·rw[hq]at hr
     cases q with
     |ro xs=>
      obtain⟨vs,h1,h2⟩:=old
      refine⟨vs,?_,h2.ext (Ext.write ha mu)⟩
      rcases h1 with⟨ob,h1⟩|h1
      ·rw[ha]at h1;cases h1;exact mu.elim
      ·exact .inr h1
     |fn n=>exact old
     |_=>exact hr.elim
    ·exact absurd (r.nd k i b hk hi nr hr) h
   ·exact old.ext (Ext.write ha mu) fun w z=>by rw[Yt hb];exact z
theorem Rep.lset{k:Nat}{a:Addr}{vs vs':List V}{xs xs':List P}(r:Rep K as st H)(hk:as[k]?=Option.some a)(ha:H a=Option.some (.lst vs))(hs:st[k]?=Option.some (.lst xs))(d:Dens K as H vs' xs'):Rep K as (st.set k (.lst xs')) (upd H a (.lst vs')):=
 r.write hk ha trivial (fun z=>z) (by rw[hs];exact fun z=>z) ⟨vs',Yq,d.ext (Ext.write ha trivial)⟩
end
abbrev Xc:=Str×List (Str×P)
inductive R(α:Type) where
 |ok (a:α) (st:Stor)
 |exc (k:Xc) (st:Stor)
 |bad
def R.bind{α β:Type}(r:R α)(f:α->Stor->R β):R β:=
 match r with
 | .ok a st=>f a st
 | .exc k st=>.exc k st
 | .bad=>.bad
@[simp] theorem R.bind_ok{α β:Type}{a:α}{st:Stor}{f:α->Stor->R β}:(R.ok a st).bind f=f a st:=rfl
@[simp] theorem R.bind_exc{α β:Type}{k:Xc}{st:Stor}{f:α->Stor->R β}:(R.exc k st:R α).bind f=.exc k st:=rfl
@[simp] theorem R.bind_bad{α β:Type}{f:α->Stor->R β}:(R.bad:R α).bind f=.bad:=rfl
def ofO{α:Type}:Option (α×Stor)->R α
 |some (a,st)=>.ok a st
 |none=>.bad
@[simp] theorem Yg5{α:Type}{a:α}{st:Stor}:ofO (some (a,st))=.ok a st:=rfl
@[simp] theorem Ylt{α:Type}:ofO (none:Option (α×Stor))=.bad:=rfl
abbrev ME:=Rho->Stor->R P
abbrev MT:=Rho->Stor->R Bool
abbrev MA:=Rho->Stor->R (List P)
inductive RS where
 |nx (ρ:Rho) (st:Stor)
 |rt (p:P) (st:Stor)
 |bk (ρ:Rho) (st:Stor)
 |ct (ρ:Rho) (st:Stor)
 |exc (k:Xc) (ρ:Rho) (st:Stor)
 |bad
abbrev MS:=Rho->Stor->RS
structure EnvOk(K:PySem.W.Frag)(as:List Addr)(H:Hp)(ρ:Rho)(σ:St):Prop where
 len:ρ.length=σ.length
 val:∀(i:Nat) p,ρ[i]?=some (some p)->∃v,σ[i]?=some (some v)/\Den K as H v p
theorem EnvOk.ext{K:PySem.W.Frag}{as as':List Addr}{H H':Hp}{ρ:Rho}{σ:St}(x:Ext as H as' H')(h:EnvOk K as H ρ σ):EnvOk K as' H' ρ σ:=
 ⟨h.len,fun i p e=>let ⟨v,h1,h2⟩:=h.val i p e;⟨v,h1,h2.ext x⟩⟩
theorem EnvOk.set{K:PySem.W.Frag}{as:List Addr}{H:Hp}{ρ:Rho}{σ:St}{i:Nat}{p:P}{v:V}(h:EnvOk K as H ρ σ)(d:Den K as H v p):EnvOk K as H (ρ.set i (some p)) (σ.set i (some v)):=
 ⟨by simp[h.len],fun j q e=>by
  have hl:=h.len
  by_cases hj:i=j
  ·subst hj
   by_cases hi:i<ρ.length
   ·rw[List.getElem?_set_self hi]at e
    cases e
    exact⟨v,by rw[List.getElem?_set_self (by omega)],d⟩
   ·rw[List.set_eq_of_length_le (by omega)]at e
    have:=(List.getElem?_eq_some_iff.mp e).1
    omega
  ·rw[List.getElem?_set_ne hj]at e
   obtain⟨w,h1,h2⟩:=h.val j q e
   exact⟨w,by rw[List.getElem?_set_ne hj];exact h1,h2⟩⟩
structure Fly0(Nw:Addr->Prop)(H:Hp)(a:Addr)(C:Value)(od:Option Addr)(h:Heap):Prop where
 na:Nw a
 ha:H a=none
 tr:∃oe vs,h.get? a=some oe/\oe.cls=C/\oe.dict=od/\oe.data=.fields vs/\(vs[1]?=some .none\/
  ∃T oT ts,vs[1]?=some (.ref T)/\Nw T/\H T=none/\T≠a/\h.get? T=some oT/\oT.data=.fields ts/\3<ts.size)
theorem Fly0.mono{N N':Addr->Prop}{H:Hp}{a:Addr}{C:Value}{od:Option Addr}{h:Heap}(f:Fly0 N H a C od h)(i:∀b,N b->N' b):Fly0 N' H a C od h:=by
 obtain⟨n,e,oe,vs,h1,h2,h3,h4,h5⟩:=f
 refine⟨i a n,e,oe,vs,h1,h2,h3,h4,?_⟩
 rcases h5 with h5|⟨T,oT,ts,g1,g2,g3⟩
 ·exact .inl h5
 ·exact .inr ⟨T,oT,ts,g1,i T g2,g3⟩
def Nw(X:Cx)(pins:List (Addr×Obj))(b:Addr):Prop:=(b∈X.ex\/X.s₀.heap.get? b=none)/\∀p∈X.pn++pins,p.1≠b
def Fly(X:Cx)(pins:List (Addr×Obj))(x:Xc)(a:Addr)(as:List Addr)(H:Hp)(s:Shared):Prop:=
 ∃C od,PySem.W.nsIn X.K mainGlobals x.1=some (some (.ref C))/\Fly0 (Nw X pins) H a (.ref C) od s.heap/\FlyA X.K as H od x.2
def XOk(X:Cx)(as:List Addr)(H:Hp)(ρ:Rho)(k:Xc)(st':Stor):Prop:=
 ∀(pins:List (Addr×Obj))(σ':St)(s':Shared)(as':List Addr)(H':Hp)(a:Addr),Inv X pins σ' H' s'->EnvOk X.K as' H' ρ σ'->Ext as H as' H'->Rep X.K as' st' H'->Fly X pins k a as' H' s'->X.xe (.ref a) s'
theorem XOk.ext{X:Cx}{as as1:List Addr}{H H1:Hp}{ρ:Rho}{k:Xc}{st':Stor}(x:Ext as H as1 H1)(h:XOk X as H ρ k st'):XOk X as1 H1 ρ k st':=
 fun pins σ' s' as' H' a I e y r q=>h pins σ' s' as' H' a I e (x.trans y) r q
def Post(X:Cx)(as:List Addr)(H:Hp)(ρ:Rho)(r:R P)(Q:VK):Prop:=
 match r with
 | .ok p st'=>∀as' H' v,Ext as H as' H'->Rep X.K as' st' H'->Den X.K as' H' v p->Q v H'
 | .exc k st'=>XOk X as H ρ k st'
 | .bad=>False
def PostB(X:Cx)(as:List Addr)(H:Hp)(ρ:Rho)(r:R Bool)(Q:Bool->Hp->Prop):Prop:=
 match r with
 | .ok b st'=>∀as' H',Ext as H as' H'->Rep X.K as' st' H'->Q b H'
 | .exc k st'=>XOk X as H ρ k st'
 | .bad=>False
def PostA(X:Cx)(as:List Addr)(H:Hp)(ρ:Rho)(r:R (List P))(Q:List V->Hp->Prop):Prop:=
 match r with
 | .ok ps st'=>∀as' H' vs,Ext as H as' H'->Rep X.K as' st' H'->Dens X.K as' H' vs ps->Q vs H'
 | .exc k st'=>XOk X as H ρ k st'
 | .bad=>False
def PostL(X:Cx)(as:List Addr)(H:Hp)(ρ:Rho)(r:R (List P))(Q:VK):Prop:=
 match r with
 | .ok ps st'=>∀as' H' l vs,Ext as H as' H'->Rep X.K as' st' H'->H' l=some (.lst vs)->Fresh as' st' l->Dens X.K as' H' vs ps->Q (.ref l) H'
 | .exc k st'=>XOk X as H ρ k st'
 | .bad=>False
def PostS(X:Cx)(as:List Addr)(H:Hp)(r:RS)(D:Ends):Prop:=
 match r with
 | .nx ρ' st'=>∀as' H' σ',Ext as H as' H'->Rep X.K as' st' H'->EnvOk X.K as' H' ρ' σ'->D.nx σ' H'
 | .bk ρ' st'=>∀as' H' σ',Ext as H as' H'->Rep X.K as' st' H'->EnvOk X.K as' H' ρ' σ'->D.bk σ' H'
 | .ct ρ' st'=>∀as' H' σ',Ext as H as' H'->Rep X.K as' st' H'->EnvOk X.K as' H' ρ' σ'->D.ct σ' H'
 | .rt p st'=>∀as' H' v,Ext as H as' H'->Rep X.K as' st' H'->Den X.K as' H' v p->D.rt v H'
 | .exc k ρ' st'=>XOk X as H ρ' k st'
 | .bad=>False
def PostO(X:Cx)(as:List Addr)(H:Hp)(r:Option (P×Stor))(Q:VK):Prop:=
 match r with
 |some (p,st')=>∀as' H' v,Ext as H as' H'->Rep X.K as' st' H'->Den X.K as' H' v p->Q v H'
 |none=>False
def tE(X:Cx)(m:ME):TE:=fun σ H Q=>∃as ρ st,EnvOk X.K as H ρ σ/\Rep X.K as st H/\Post X as H ρ (m ρ st) Q
def tT(X:Cx)(m:MT):TT:=fun σ H Q=>∃as ρ st,EnvOk X.K as H ρ σ/\Rep X.K as st H/\PostB X as H ρ (m ρ st) Q
def tA(X:Cx)(m:MA):TA:=fun σ H Q=>∃as ρ st,EnvOk X.K as H ρ σ/\Rep X.K as st H/\PostA X as H ρ (m ρ st) Q
def tL(X:Cx)(m:MA):TE:=fun σ H Q=>∃as ρ st,EnvOk X.K as H ρ σ/\Rep X.K as st H/\PostL X as H ρ (m ρ st) Q
def tS(X:Cx)(m:MS):TS:=fun D σ H=>∃as ρ st,EnvOk X.K as H ρ σ/\Rep X.K as st H/\PostS X as H (m ρ st) D
abbrev JE(X:Cx)(e:Expr)(m:ME):Prop:=PE X e (tE X m)
abbrev JT(X:Cx)(e:Expr)(m:MT):Prop:=PT X e (tT X m)
abbrev JA(X:Cx)(es:List Expr)(m:MA):Prop:=PA X es (tA X m)
abbrev JL(X:Cx)(e:Expr)(m:MA):Prop:=PE X e (tL X m)
abbrev JS(X:Cx)(s:Stmt)(m:MS):Prop:=PS X s (tS X m)
abbrev JSs(X:Cx)(ss:List Stmt)(m:MS):Prop:=PSs X ss (tS X m)
theorem PE.imp{X:Cx}{e:Expr}{t t':TE}(h:PE X e t)(i:∀σ H Q,t' σ H Q->t σ H Q):PE X e t':=fun pins s σ H Q I q=>h pins s σ H Q I (i σ H Q q)
theorem PT.imp{X:Cx}{e:Expr}{t t':TT}(h:PT X e t)(i:∀σ H Q,t' σ H Q->t σ H Q):PT X e t':=fun pins s σ H Q I q=>h pins s σ H Q I (i σ H Q q)
theorem PA.imp{X:Cx}{es:List Expr}{t t':TA}(h:PA X es t)(i:∀σ H Q,t' σ H Q->t σ H Q):PA X es t':=fun pos pins s σ H Q I q=>h pos pins s σ H Q I (i σ H Q q)
theorem PS.imp{X:Cx}{e:Stmt}{t t':TS}(h:PS X e t)(i:∀D σ H,t' D σ H->t D σ H):PS X e t':=fun pins s σ H D I q=>h pins s σ H D I (i D σ H q)
theorem PSs.imp{X:Cx}{e:List Stmt}{t t':TS}(h:PSs X e t)(i:∀D σ H,t' D σ H->t D σ H):PSs X e t':=fun pins s σ H D I q=>h pins s σ H D I (i D σ H q)
section
variable{X:Cx}{as as1:List Addr}{H H1:Hp}{ρ:Rho}
theorem Post.ext{r:R P}{Q:VK}(x:Ext as H as1 H1)(h:Post X as H ρ r Q):Post X as1 H1 ρ r Q:=by
 cases r with
 |ok p st'=>exact fun as' H' v y=>h as' H' v (x.trans y)
 |exc k st'=>exact XOk.ext x h
 |bad=>exact h
theorem PostB.ext{r:R Bool}{Q:Bool->Hp->Prop}(x:Ext as H as1 H1)(h:PostB X as H ρ r Q):PostB X as1 H1 ρ r Q:=by
 cases r with
 |ok p st'=>exact fun as' H' y=>h as' H' (x.trans y)
 |exc k st'=>exact XOk.ext x h
 |bad=>exact h
theorem PostA.ext{r:R (List P)}{Q:List V->Hp->Prop}(x:Ext as H as1 H1)(h:PostA X as H ρ r Q):PostA X as1 H1 ρ r Q:=by
 cases r with
 |ok p st'=>exact fun as' H' vs y=>h as' H' vs (x.trans y)
 |exc k st'=>exact XOk.ext x h
 |bad=>exact h
theorem PostL.ext{r:R (List P)}{Q:VK}(x:Ext as H as1 H1)(h:PostL X as H ρ r Q):PostL X as1 H1 ρ r Q:=by
 cases r with
 |ok p st'=>exact fun as' H' l vs y=>h as' H' l vs (x.trans y)
 |exc k st'=>exact XOk.ext x h
 |bad=>exact h
theorem PostS.ext{r:RS}{D:Ends}(x:Ext as H as1 H1)(h:PostS X as H r D):PostS X as1 H1 r D:=by
 cases r with
 |nx ρ' st'=>exact fun as' H' σ' y=>h as' H' σ' (x.trans y)
 |bk ρ' st'=>exact fun as' H' σ' y=>h as' H' σ' (x.trans y)
 |ct ρ' st'=>exact fun as' H' σ' y=>h as' H' σ' (x.trans y)
 |rt p st'=>exact fun as' H' v y=>h as' H' v (x.trans y)
 |exc k ρ' st'=>exact XOk.ext x h
 |bad=>exact h
theorem Post.bindE{r:R P}{f:P->Stor->R P}{Q Q':VK}(h:Post X as H ρ (r.bind f) Q)
 (go:∀p st1 as1 H1 v,Ext as H as1 H1->Rep X.K as1 st1 H1->Den X.K as1 H1 v p->Post X as1 H1 ρ (f p st1) Q->Q' v H1):Post X as H ρ r Q':=by
 cases r with
 |ok p st1=>exact fun as1 H1 v x rp d=>go p st1 as1 H1 v x rp d (Post.ext x h)
 |exc k st'=>exact h
 |bad=>exact h
theorem Post.bindA{r:R (List P)}{f:List P->Stor->R P}{Q:VK}{Q':List V->Hp->Prop}(h:Post X as H ρ (r.bind f) Q)
 (go:∀ps st1 as1 H1 vs,Ext as H as1 H1->Rep X.K as1 st1 H1->Dens X.K as1 H1 vs ps->Post X as1 H1 ρ (f ps st1) Q->Q' vs H1):PostA X as H ρ r Q':=by
 cases r with
 |ok p st1=>exact fun as1 H1 v x rp d=>go p st1 as1 H1 v x rp d (Post.ext x h)
 |exc k st'=>exact h
 |bad=>exact h
theorem Post.bindL{r:R (List P)}{f:List P->Stor->R P}{Q Q':VK}(h:Post X as H ρ (r.bind f) Q)
 (go:∀ps st1 as1 H1 l vs,Ext as H as1 H1->Rep X.K as1 st1 H1->H1 l=some (.lst vs)->Fresh as1 st1 l->Dens X.K as1 H1 vs ps->Post X as1 H1 ρ (f ps st1) Q->Q' (.ref l) H1):PostL X as H ρ r Q':=by
 cases r with
 |ok p st1=>exact fun as1 H1 l v x rp hl nl d=>go p st1 as1 H1 l v x rp hl nl d (Post.ext x h)
 |exc k st'=>exact h
 |bad=>exact h
theorem Post.bindB{r:R Bool}{f:Bool->Stor->R P}{Q:VK}{Q':Bool->Hp->Prop}(h:Post X as H ρ (r.bind f) Q)
 (go:∀b st1 as1 H1,Ext as H as1 H1->Rep X.K as1 st1 H1->Post X as1 H1 ρ (f b st1) Q->Q' b H1):PostB X as H ρ r Q':=by
 cases r with
 |ok p st1=>exact fun as1 H1 x rp=>go p st1 as1 H1 x rp (Post.ext x h)
 |exc k st'=>exact h
 |bad=>exact h
theorem PostB.bindE{r:R P}{f:P->Stor->R Bool}{Q:Bool->Hp->Prop}{Q':VK}(h:PostB X as H ρ (r.bind f) Q)
 (go:∀p st1 as1 H1 v,Ext as H as1 H1->Rep X.K as1 st1 H1->Den X.K as1 H1 v p->PostB X as1 H1 ρ (f p st1) Q->Q' v H1):Post X as H ρ r Q':=by
 cases r with
 |ok p st1=>exact fun as1 H1 v x rp d=>go p st1 as1 H1 v x rp d (PostB.ext x h)
 |exc k st'=>exact h
 |bad=>exact h
theorem PostB.bindB{r:R Bool}{f:Bool->Stor->R Bool}{Q:Bool->Hp->Prop}{Q':Bool->Hp->Prop}(h:PostB X as H ρ (r.bind f) Q)
 (go:∀b st1 as1 H1,Ext as H as1 H1->Rep X.K as1 st1 H1->PostB X as1 H1 ρ (f b st1) Q->Q' b H1):PostB X as H ρ r Q':=by
 cases r with
 |ok p st1=>exact fun as1 H1 x rp=>go p st1 as1 H1 x rp (PostB.ext x h)
 |exc k st'=>exact h
 |bad=>exact h
theorem PostA.bindE{r:R P}{f:P->Stor->R (List P)}{Q:List V->Hp->Prop}{Q':VK}(h:PostA X as H ρ (r.bind f) Q)
 (go:∀p st1 as1 H1 v,Ext as H as1 H1->Rep X.K as1 st1 H1->Den X.K as1 H1 v p->PostA X as1 H1 ρ (f p st1) Q->Q' v H1):Post X as H ρ r Q':=by
 cases r with
 |ok p st1=>exact fun as1 H1 v x rp d=>go p st1 as1 H1 v x rp d (PostA.ext x h)
 |exc k st'=>exact h
 |bad=>exact h
theorem PostA.bindA{r:R (List P)}{f:List P->Stor->R (List P)}{Q:List V->Hp->Prop}{Q':List V->Hp->Prop}(h:PostA X as H ρ (r.bind f) Q)
 (go:∀p st1 as1 H1 v,Ext as H as1 H1->Rep X.K as1 st1 H1->Dens X.K as1 H1 v p->PostA X as1 H1 ρ (f p st1) Q->Q' v H1):PostA X as H ρ r Q':=by
 cases r with
 |ok p st1=>exact fun as1 H1 v x rp d=>go p st1 as1 H1 v x rp d (PostA.ext x h)
 |exc k st'=>exact h
 |bad=>exact h
theorem PostL.bindE{r:R P}{f:P->Stor->R (List P)}{Q Q':VK}(h:PostL X as H ρ (r.bind f) Q)
 (go:∀p st1 as1 H1 v,Ext as H as1 H1->Rep X.K as1 st1 H1->Den X.K as1 H1 v p->PostL X as1 H1 ρ (f p st1) Q->Q' v H1):Post X as H ρ r Q':=by
 cases r with
 |ok p st1=>exact fun as1 H1 v x rp d=>go p st1 as1 H1 v x rp d (PostL.ext x h)
 |exc k st'=>exact h
 |bad=>exact h
theorem PostL.bindA{r:R (List P)}{f:List P->Stor->R (List P)}{Q:VK}{Q':List V->Hp->Prop}(h:PostL X as H ρ (r.bind f) Q)
 (go:∀p st1 as1 H1 v,Ext as H as1 H1->Rep X.K as1 st1 H1->Dens X.K as1 H1 v p->PostL X as1 H1 ρ (f p st1) Q->Q' v H1):PostA X as H ρ r Q':=by
 cases r with
 |ok p st1=>exact fun as1 H1 v x rp d=>go p st1 as1 H1 v x rp d (PostL.ext x h)
 |exc k st'=>exact h
 |bad=>exact h
theorem PostL.bindL{r:R (List P)}{f:List P->Stor->R (List P)}{Q Q':VK}(h:PostL X as H ρ (r.bind f) Q)
 (go:∀ps st1 as1 H1 l vs,Ext as H as1 H1->Rep X.K as1 st1 H1->H1 l=some (.lst vs)->Fresh as1 st1 l->Dens X.K as1 H1 vs ps->PostL X as1 H1 ρ (f ps st1) Q->Q' (.ref l) H1):PostL X as H ρ r Q':=by
 cases r with
 |ok p st1=>exact fun as1 H1 l v x rp hl nl d=>go p st1 as1 H1 l v x rp hl nl d (PostL.ext x h)
 |exc k st'=>exact h
 |bad=>exact h
theorem Post.ofO{r:Option (P×Stor)}{Q:VK}(h:Post X as H ρ (ofO r) Q):PostO X as H r Q:=by
 cases r with
 |none=>exact h
 |some p=>exact h
end
end Mi
namespace Mi
open PySem PySem.Spec L2
open PyProof.Rows hiding St
def eVar(i:Nat):ME:=fun ρ st=>match ρ[i]? with
 |some (some p)=>.ok p st
 |_=>.bad
def eC(p:P):ME:=fun _ st=>.ok p st
section
variable{X:Cx}{a b c:Expr}{ma mb mc:ME}{pos:Pos}
theorem YiO{i:Nat}(h:PE X a (tVar i)):JE X a (eVar i):=PE.imp h fun σ H Q ⟨as,ρ,st,en,rp,h⟩=>by
 unfold eVar at h
 cases e:ρ[i]? with
 |none=>rw[e]at h;exact h.elim
 |some o=>
  rw[e]at h
  cases o with
  |none=>exact h.elim
  |some p=>
   obtain⟨v,h1,d⟩:=en.val i p e
   exact⟨v,h1,h as H v Ext.refl rp d⟩
theorem jv(i:Nat){x:Str}{pos:Pos}(hN:X.N[i]?=some x:=by rfl)(hv:Vis X.env.scope x:=by first|exact Or.inl rfl|exact Or.inr (Or.inl rfl)|exact Or.inr (Or.inr rfl))(hd:(x == ("__debug__":Str))=false:=by decide)
 (hcd:(x == ("__classdict__":Str))=false:=by decide):JE X (.Name x pos) (eVar i):=YiO (YhJ hN hv hd hcd)
theorem Ydc{v:V}{p:P}(h:PE X a (tC v))(d:∀K as H,Den K as H v p):JE X a (eC p):=PE.imp h fun σ H Q ⟨as,ρ,st,en,rp,h⟩=>h as H v Ext.refl rp (d _ _ _)
theorem Yb{i j pos}:JE X (.Constant (.int i) j pos) (eC (.int i)):=Ydc YkC fun _ _ _=>.int
theorem VA{b j pos}:JE X (.Constant (.bool b) j pos) (eC (.bl b)):=Ydc YlD fun _ _ _=>.bl
theorem Yf{x j pos}:JE X (.Constant (.str x) j pos) (eC (.str x)):=PE.imp Yj3 fun σ H Q ⟨as,ρ,st,en,rp,h⟩=>mkT rp fun as1 H1 v x r d=>h as1 H1 v x r d
abbrev G2:=P->P->Stor->Option (P×Stor)
def rM(X:Cx)(g:G2):R2:=fun x y H Q=>∃as st p q,Rep X.K as st H/\Den X.K as H x p/\Den X.K as H y q/\PostO X as H (g p q st) Q
def eBin(g:G2)(ma mb:ME):ME:=fun ρ st=>(ma ρ st).bind fun p st1=>(mb ρ st1).bind fun q st2=>ofO (g p q st2)
theorem YcX{g:G2}{σ:St}{H:Hp}{Q:VK}(h:tE X (eBin g ma mb) σ H Q):tOp (rM X g) (tE X ma) (tE X mb) σ H Q:=by
 obtain⟨as,ρ,st,en,rp,h⟩:=h
 exact⟨as,ρ,st,en,rp,Post.bindE h fun p st1 as1 H1 v x rp1 d h1=>⟨as1,ρ,st1,en.ext x,rp1,Post.bindE h1 fun q st2 as2 H2 u x2 rp2 d2 h2=>⟨as2,st2,p,q,rp2,d.ext x2,d2,Post.ofO h2⟩⟩⟩
theorem YjW{op:Operator}{g:G2}(ho:OpR X (binaryOp op) (rM X g))(ha:JE X a ma)(hb:JE X b mb):JE X (.BinOp a op b pos) (eBin g ma mb):=
 PE.imp (YlJ ho ha hb) fun _ _ _ h=>YcX h
theorem Yex{op:CmpOp}{g:G2}(ho:OpR X (compareOp op) (rM X g))(ha:JE X a ma)(hb:JE X b mb)(hm:behindInMarks op b=false):JE X (.Compare a [op] [b] pos) (eBin g ma mb):=
 PE.imp (Yji ho ha hb hm) fun _ _ _ h=>YcX h
def eTst(m:ME):MT:=fun ρ st=>(m ρ st).bind fun p st1=>match p with
 | .bl c=>.ok c st1
 |_=>.bad
theorem YjM{m:ME}{t:TE}(ht:∀σ H Q,tE X m σ H Q->t σ H Q){σ:St}{H:Hp}{Q:Bool->Hp->Prop}(h:tT X (eTst m) σ H Q):tTest t σ H Q:=by
 obtain⟨as,ρ,st,en,rp,h⟩:=h
 refine ht _ _ _ ⟨as,ρ,st,en,rp,PostB.bindE h fun p st1 as1 H1 v x rp1 d h1=>?_⟩
 cases d with
 |bl=>exact⟨_,rfl,h1 as1 H1 Ext.refl rp1⟩
 |_=>exact False.elim h1
theorem Yj8{op:CmpOp}{g:G2}(ho:OpR X (compareOp op) (rM X g))(ha:JE X a ma)(hb:JE X b mb)(hm:behindInMarks op b=false):JT X (.Compare a [op] [b] pos) (eTst (eBin g ma mb)):=
 PT.imp (Yjl ho ha hb hm) fun _ _ _ h=>YjM (fun _ _ _ h=>YcX h) h
def eChain(g g':G2)(ma mb mc:ME):ME:=fun ρ st=>(ma ρ st).bind fun p st1=>(mb ρ st1).bind fun q st2=>(ofO (g p q st2)).bind fun z st3=>match z with
 | .bl k=>if k=true then (mc ρ st3).bind fun r st4=>ofO (g' q r st4) else .ok (.bl false) st3
 |_=>.bad
theorem YgA{g g':G2}{σ:St}{H:Hp}{Q:VK}(h:tE X (eChain g g' ma mb mc) σ H Q):tChain (rM X g) (rM X g') (tE X ma) (tE X mb) (tE X mc) σ H Q:=by
 obtain⟨as,ρ,st,en,rp,h⟩:=h
 refine⟨as,ρ,st,en,rp,Post.bindE h fun p st1 as1 H1 v x rp1 d h1=>⟨as1,ρ,st1,en.ext x,rp1,Post.bindE h1 fun q st2 as2 H2 u x2 rp2 d2 h2=>⟨as2,st2,p,q,rp2,d.ext x2,d2,?_⟩⟩⟩
 refine Post.ofO (ρ:=ρ) (Post.bindE h2 fun z st3 as3 H3 w x3 rp3 d3 h3=>?_)
 cases d3 with
 |bl=>
  rename_i k
  refine⟨k,rfl,?_⟩
  cases k with
  |true=>
   rw[if_pos rfl]
   exact⟨as3,ρ,st3,((en.ext x).ext x2).ext x3,rp3,Post.bindE h3 fun r st4 as4 H4 w' x4 rp4 d4 h4=>⟨as4,st4,q,r,rp4,(d2.ext x3).ext x4,d4,Post.ofO h4⟩⟩
  |false=>
   rw[if_neg Bool.false_ne_true]
   exact h3 as3 H3 _ Ext.refl rp3 .bl
 |_=>exact False.elim h3
theorem Yd5{op op':CmpOp}{g g':G2}(ho:OpR X (compareOp op) (rM X g))(ho':OpR X (compareOp op') (rM X g'))(ha:JE X a ma)(hb:JE X b mb)(hc:JE X c mc)
 (hm:lastMarks [op,op'] [b,c]=false:=by with_unfolding_all rfl):JE X (.Compare a [op,op'] [b,c] pos) (eChain g g' ma mb mc):=PE.imp (Yhm ho ho' ha hb hc hm) fun _ _ _ h=>YgA h
variable{na nb:MT}{rest:List Expr}
abbrev JW(X:Cx)(e:Expr)(m:MT):Prop:=PW X e (tT X m)
theorem PW.imp{e:Expr}{t t':TT}(h:PW X e t)(i:∀σ H Q,t' σ H Q->t σ H Q):PW X e t':=fun wh pins s σ H Q I q=>h wh pins s σ H Q I (i σ H Q q)
def eAndT(na nb:MT):MT:=fun ρ st=>(na ρ st).bind fun c st1=>if c=true then nb ρ st1 else .ok false st1
def eOrT(na nb:MT):MT:=fun ρ st=>(na ρ st).bind fun c st1=>if c=true then .ok true st1 else nb ρ st1
def eNotT(na:MT):MT:=fun ρ st=>(na ρ st).bind fun c st1=>.ok (!c) st1
theorem Wy(ha:JT X a na):JW X (.BoolOp .And [a] pos) na:=YjA ha
theorem JH(ha:JT X a na):JW X (.BoolOp .Or [a] pos) na:=YkH ha
theorem VN(ha:JT X a na)(hb:JW X (.BoolOp .And (b::rest) pos) nb):JW X (.BoolOp .And (a::b::rest) pos) (eAndT na nb):=
 PW.imp (Yk8 ha hb) fun σ H Q ⟨as,ρ,st,en,rp,h⟩=>⟨as,ρ,st,en,rp,PostB.bindB h fun c st1 as1 H1 x rp1 h1=>by
  cases c with
  |true=>rw[if_pos rfl]at h1 ⊢;exact⟨as1,ρ,st1,en.ext x,rp1,h1⟩
  |false=>rw[if_neg Bool.false_ne_true]at h1 ⊢;exact h1 as1 H1 Ext.refl rp1⟩
theorem Yb3(ha:JT X a na)(hb:JW X (.BoolOp .Or (b::rest) pos) nb):JW X (.BoolOp .Or (a::b::rest) pos) (eOrT na nb):=
 PW.imp (YlH ha hb) fun σ H Q ⟨as,ρ,st,en,rp,h⟩=>⟨as,ρ,st,en,rp,PostB.bindB h fun c st1 as1 H1 x rp1 h1=>by
  cases c with
  |false=>rw[if_neg Bool.false_ne_true]at h1 ⊢;exact⟨as1,ρ,st1,en.ext x,rp1,h1⟩
  |true=>rw[if_pos rfl]at h1 ⊢;exact h1 as1 H1 Ext.refl rp1⟩
theorem YkV(ha:JT X a na):JT X (.UnaryOp .Not a pos) (eNotT na):=
 PT.imp (Yku ha) fun σ H Q ⟨as,ρ,st,en,rp,h⟩=>⟨as,ρ,st,en,rp,PostB.bindB h fun c st1 as1 H1 x rp1 h1=>h1 as1 H1 Ext.refl rp1⟩
def eAnd(ma mb:ME):ME:=fun ρ st=>(ma ρ st).bind fun p st1=>match p with
 | .bl c=>if c=true then mb ρ st1 else .ok (.bl false) st1
 |_=>.bad
def eOr(ma mb:ME):ME:=fun ρ st=>(ma ρ st).bind fun p st1=>match p with
 | .bl c=>if c=true then .ok (.bl true) st1 else mb ρ st1
 |_=>.bad
def eNot(ma:ME):ME:=fun ρ st=>(ma ρ st).bind fun p st1=>match p with
 | .bl c=>.ok (.bl (!c)) st1
 |_=>.bad
theorem YgP{op}(h:JE X a ma):JE X (.BoolOp op [a] pos) ma:=Ykk h
theorem Yig(ha:JE X a ma)(hb:JE X (.BoolOp .And (b::rest) pos) mb):JE X (.BoolOp .And (a::b::rest) pos) (eAnd ma mb):=
 PE.imp (Ykj ha hb) fun σ H Q ⟨as,ρ,st,en,rp,h⟩=>⟨as,ρ,st,en,rp,Post.bindE h fun p st1 as1 H1 v x rp1 d h1=>by
  cases d with
  |bl=>
   rename_i c
   refine⟨c,rfl,?_⟩
   cases c with
   |true=>exact⟨as1,ρ,st1,en.ext x,rp1,h1⟩
   |false=>exact h1 as1 H1 _ Ext.refl rp1 .bl
  |_=>exact False.elim h1⟩
theorem Ykm(ha:JE X a ma):JE X (.UnaryOp .Not a pos) (eNot ma):=
 PE.imp (Yk9 ha) fun σ H Q ⟨as,ρ,st,en,rp,h⟩=>⟨as,ρ,st,en,rp,Post.bindE h fun p st1 as1 H1 v x rp1 d h1=>by
  cases d with
  |bl=>exact⟨_,rfl,h1 as1 H1 _ Ext.refl rp1 .bl⟩
  |_=>exact False.elim h1⟩
def eIf(nc:MT)(ma mb:ME):ME:=fun ρ st=>(nc ρ st).bind fun c st1=>if c=true then ma ρ st1 else mb ρ st1
theorem YhW{nc:MT}(hc:JT X c nc)(ha:JE X a ma)(hb:JE X b mb):JE X (.IfExp c a b pos) (eIf nc ma mb):=
 PE.imp (Yiv hc ha hb) fun σ H Q ⟨as,ρ,st,en,rp,h⟩=>⟨as,ρ,st,en,rp,Post.bindB h fun k st1 as1 H1 x rp1 h1=>by
  cases k with
  |true=>exact⟨as1,ρ,st1,en.ext x,rp1,h1⟩
  |false=>exact⟨as1,ρ,st1,en.ext x,rp1,h1⟩⟩
def cap:Nat:=1000000
def truP(p:P)(st:Stor):Option Bool:=match p with
 | .non=>some false
 | .bl b=>some b
 | .int i=>some (i != 0)
 | .str x=>if x.length<=cap then some (decide (x.length≠0)) else none
 | .tup xs=>some (!xs.isEmpty)
 | .ref k=>match st[k]? with
  |some (.lst xs)=>some (!xs.isEmpty)
  |some (.ro xs)=>some (!xs.isEmpty)
  |some (.dct kvs)=>some (!kvs.isEmpty)
  |_=>none
def eTru(m:ME):MT:=fun ρ st=>(m ρ st).bind fun p st1=>match truP p st1 with
 |some c=>.ok c st1
 |none=>.bad
theorem YK:cap<=sizeLine:=by rw[sizeLine_eq];decide
theorem Dens.isEmpty{K:PySem.W.Frag}{as:List Addr}{H:Hp}{vs:List V}{ps:List P}(h:Dens K as H vs ps):vs.isEmpty=ps.isEmpty:=by cases h <;> rfl
theorem WS{K:PySem.W.Frag}{H:Hp}{a:Addr}{vs:List V}(h:(∃o,H a=some (.frz o (.lst vs)))\/∃(o:Obj)(its:Array Value)(n:Nat),K.lookup a=some o/\o.cls=.type "list"/\o.dict=none/\o.data=.seq its n/\its.size<=sizeLine/\Vals vs its.toList):SqL K H a vs:=by
 rcases h with h|h
 ·exact .inl (.inr h)
 ·exact .inr h
theorem Yi9{K:PySem.W.Frag}{as:List Addr}{st:Stor}{H:Hp}{v:V}{p:P}{k:Bool}(rp:Rep K as st H)(d:Den K as H v p)(h:truP p st=some k):TruV K v H k:=by
 cases d with
 |non=>cases h;rfl
 |bl=>cases h;rfl
 |int=>cases h;rfl
 |@str x _ _ _=>
  unfold truP at h
  dsimp only at h
  by_cases hx:x.length<=cap
  ·rw[if_pos hx]at h
   refine⟨Nat.le_trans hx YK,?_⟩
   rw[<-Option.some.inj h]
   by_cases hz:x.length=0
   ·simp[hz]
   ·have:((x.length:Int) != 0)=true:=by simp;omega
    rw[this];simp[hz]
  ·rw[if_neg hx]at h;cases h
 |ref e=>
  rename_i j a
  unfold truP at h
  dsimp only at h
  cases q:st[j]? with
  |none=>rw[q]at h;cases h
  |some o=>
   rw[q]at h
   have r:=rp.ob j a o e q
   cases o with
   |lst xs=>obtain⟨vs,h1,h2⟩:=r;exact .inl ⟨vs,.of h1,by rw[h2.isEmpty];exact (Option.some.inj h).symm⟩
   |ro xs=>obtain⟨vs,h1,h2⟩:=r;exact .inl ⟨vs,WS h1,by rw[h2.isEmpty];exact (Option.some.inj h).symm⟩
   |dct kvs=>
    obtain⟨ws,h1,h2,h3⟩:=r
    refine .inr (.inr ⟨ws,h1,?_⟩)
    rw[<-Option.some.inj h]
    have:=congrArg List.length h2
    cases ws <;> cases kvs <;> first|rfl|simp at this
   |exc c fs=>cases h
   |ddk kvs=>cases h
   |fdc kvs=>cases h
   |fdd kvs=>cases h
   |fn n=>cases h
 |@tup a vs ps e r tk=>
  exact .inr (.inl ⟨_,e,by rw[r.isEmpty];exact (Option.some.inj h).symm⟩)
theorem ZK(ha:JE X a ma)(he:∀whole,isTrue a X.env whole=(do let v <-whole;standAt a.pos;holding [v] (truthy v))):JT X a (eTru ma):=
 PT.imp (Yic ha he) fun σ H Q ⟨as,ρ,st,en,rp,h⟩=>⟨as,ρ,st,en,rp,PostB.bindE h fun p st1 as1 H1 v x rp1 d h1=>by
  cases q:truP p st1 with
  |none=>rw[q]at h1;exact False.elim h1
  |some k=>rw[q]at h1;exact⟨k,Yi9 rp1 d q,h1 as1 H1 Ext.refl rp1⟩⟩
variable{e:Expr}{es:List Expr}{me:ME}{mr:MA}
def aNil:MA:=fun _ st=>.ok [] st
def aCons(me:ME)(mr:MA):MA:=fun ρ st=>(me ρ st).bind fun p st1=>(mr ρ st1).bind fun ps st2=>.ok (p::ps) st2
theorem Ya:JA X [] aNil:=PA.imp JN fun σ H Q ⟨as,ρ,st,en,rp,h⟩=>h as H [] Ext.refl rp .nil
theorem Yjq(ha:JE X e me)(hr:JA X es mr)(hs:starEach (e::es) X.env=(false,eval e X.env)::starEach es X.env:=by rfl):JA X (e::es) (aCons me mr):=
 PA.imp (Vr ha hr hs) fun σ H Q ⟨as,ρ,st,en,rp,h⟩=>⟨as,ρ,st,en,rp,PostA.bindE h fun p st1 as1 H1 v x rp1 d h1=>
  ⟨as1,ρ,st1,en.ext x,rp1,PostA.bindA h1 fun ps st2 as2 H2 vs x2 rp2 d2 h2=>h2 as2 H2 _ Ext.refl rp2 (.cons (d.ext x2) d2)⟩⟩
def eTup(mr:MA):ME:=fun ρ st=>(mr ρ st).bind fun ps st1=>if ps.length<=cap then .ok (.tup ps) st1 else .bad
theorem Yg{x1}(h:JA X es mr):JE X (.Tuple es x1 pos) (eTup mr):=
 PE.imp (YkM h) fun σ H Q ⟨as,ρ,st,en,rp,h⟩=>⟨as,ρ,st,en,rp,Post.bindA h fun ps st1 as1 H1 vs x rp1 d h1=>by
  by_cases hl:ps.length<=cap
  ·rw[if_pos hl]at h1
   exact⟨by rw[d.length];exact Nat.le_trans hl YK,fun p hp=>h1 as1 _ _ (Ext.laid hp) (rp1.laid hp) (.tup (.of Yq) (d.ext (Ext.laid hp)))⟩
  ·rw[if_neg hl]at h1;exact False.elim h1⟩
def lMk(mr:MA):MA:=fun ρ st=>(mr ρ st).bind fun ps st1=>if ps.length<=cap then .ok ps st1 else .bad
theorem Vd(h:JA X es mr):JL X (.List es pos) (lMk mr):=
 PE.imp (Yk6 h) fun σ H Q ⟨as,ρ,st,en,rp,h⟩=>⟨as,ρ,st,en,rp,by
  unfold lMk at h
  cases q:mr ρ st with
  |bad=>rw[q]at h;exact h
  |exc k st'=>rw[q]at h;exact h
  |ok ps st1=>
   rw[q]at h
   intro as1 H1 vs x rp1 d
   by_cases hl:ps.length<=cap
   ·rw[R.bind_ok,if_pos hl]at h
    exact⟨by rw[d.length];exact Nat.le_trans hl YK,fun p hp=>h as1 _ p vs (x.trans (Ext.laid hp)) (rp1.laid hp) Yq (rp1.fresh hp) (d.ext (Ext.laid hp))⟩
   ·rw[R.bind_ok,if_neg hl]at h;exact False.elim h⟩
def eSto(m:MA):ME:=fun ρ st=>(m ρ st).bind fun ps st1=>.ok (.ref st1.length) (st1++[.lst ps])
theorem ZN{m:MA}(h:JL X e m):JE X e (eSto m):=
 PE.imp h fun σ H Q ⟨as,ρ,st,en,rp,h⟩=>⟨as,ρ,st,en,rp,Post.bindL h fun ps st1 as1 H1 l vs x rp1 hl fr d h1=>
  h1 (as1++[l]) H1 (.ref l) Ext.add (rp1.add fr ⟨vs,hl,d.ext Ext.add⟩) (.ref (by rw[<-rp1.len];exact VL))⟩
end
section
variable{X:Cx}
theorem opM{f:Value->Value->Sem Value}{g:G2}(h:∀pins s σ H x y v u Q as st p q,Inv X pins σ H s->RelV x v->RelV y u->Rep X.K as st H->Den X.K as H x p->Den X.K as H y q->PostO X as H (g p q st) Q->
 wpAny (model X.prog X.w) X.A (f v u) (EP X pins σ Q) X.xe s):OpR X f (rM X g):=
 fun pins s σ H x y v u Q I rx ry ⟨as,st,p,q,rp,d1,d2,po⟩=>h pins s σ H x y v u Q as st p q I rx ry rp d1 d2 po
def okP(p:P)(st:Stor):Option (P×Stor):=some (p,st)
def newL(xs:List P)(st:Stor):Option (P×Stor):=if xs.length<=cap then some (.ref st.length,st++[.lst xs]) else none
def lstAt(st:Stor)(k:Nat):Option (List P):=match st[k]? with
 |some (.lst xs)=>some xs
 |_=>none
def seqAt(p:P)(st:Stor):Option (List P):=match p with
 | .tup xs=>some xs
 | .ref k=>match st[k]? with
  |some (.lst xs)=>some xs
  |some (.ro xs)=>some xs
  |_=>none
 |_=>none
theorem Ya2{K:PySem.W.Frag}{as:List Addr}{st:Stor}{H:Hp}{k:Nat}{xs:List P}{v:V}(rp:Rep K as st H)(d:Den K as H v (.ref k))(h:lstAt st k=some xs):
 ∃a vs,v=.ref a/\as[k]?=some a/\st[k]?=some (.lst xs)/\H a=some (.lst vs)/\Dens K as H vs xs:=by
 unfold lstAt at h
 cases d with
 |ref e=>
  rename_i a
  cases q:st[k]? with
  |none=>rw[q]at h;cases h
  |some o=>
   rw[q]at h
   cases o with
   |lst ys=>
    cases h
    obtain⟨vs,h1,h2⟩:=rp.ob k a _ e q
    exact⟨a,vs,rfl,e,rfl,h1,h2⟩
   |ro ys=>cases h
   |dct ys=>cases h
   |exc c ys=>cases h
   |ddk kvs=>cases h
   |fdc kvs=>cases h
   |fdd kvs=>cases h
   |fn n=>cases h
theorem Yio{K:PySem.W.Frag}{as:List Addr}{st:Stor}{H:Hp}{p:P}{xs:List P}{v:V}(rp:Rep K as st H)(d:Den K as H v p)(h:seqAt p st=some xs):
 ∃a vs,v=.ref a/\(SqL K H a vs\/SqT K H a vs)/\Dens K as H vs xs:=by
 unfold seqAt at h
 cases d with
 |ref e=>
  rename_i k a
  simp only at h
  cases q:st[k]? with
  |none=>rw[q]at h;cases h
  |some o=>
   rw[q]at h
   have ob:=rp.ob k a _ e q
   cases o with
   |lst ys=>
    cases h
    obtain⟨vs,h1,h2⟩:=ob
    exact⟨a,vs,rfl,.inl (.of h1),h2⟩
   |ro ys=>
    cases h
    obtain⟨vs,h1,h2⟩:=ob
    exact⟨a,vs,rfl,.inl (WS h1),h2⟩
   |dct ys=>cases h
   |exc c ys=>cases h
   |ddk kvs=>cases h
   |fdc kvs=>cases h
   |fdd kvs=>cases h
   |fn n=>cases h
 |tup e r=>cases h;exact⟨_,_,rfl,.inr e,r⟩
 |_=>cases h
theorem YiN{K:PySem.W.Frag}{as:List Addr}{st:Stor}{H:Hp}{p:P}{xs:List P}{v:V}(rp:Rep K as st H)(d:Den K as H v p)(h:seqAt p st=some xs):
 ∃a vs,v=.ref a/\(SqL K H a vs\/SqT K H a vs/\H a=some (.tup vs))/\Dens K as H vs xs:=by
 unfold seqAt at h
 cases d with
 |ref e=>
  rename_i k a
  simp only at h
  cases q:st[k]? with
  |none=>rw[q]at h;cases h
  |some o=>
   rw[q]at h
   have ob:=rp.ob k a _ e q
   cases o with
   |lst ys=>
    cases h
    obtain⟨vs,h1,h2⟩:=ob
    exact⟨a,vs,rfl,.inl (.of h1),h2⟩
   |ro ys=>
    cases h
    obtain⟨vs,h1,h2⟩:=ob
    exact⟨a,vs,rfl,.inl (WS h1),h2⟩
   |dct ys=>cases h
   |exc c ys=>cases h
   |ddk kvs=>cases h
   |fdc kvs=>cases h
   |fdd kvs=>cases h
   |fn n=>cases h
 |tup e r tk=>cases h;exact⟨_,_,rfl,.inr ⟨e,tk⟩,r⟩
 |_=>cases h
theorem ZR{as:List Addr}{st:Stor}{H:Hp}{xs:List P}{vs:List V}{Q:VK}{l:Addr}(rp:Rep X.K as st H)(d:Dens X.K as H vs xs)(h:PostO X as H (newL xs st) Q)(hl:H l=none):Q (.ref l) (upd H l (.lst vs)):=by
 unfold newL at h
 by_cases z:xs.length<=cap
 ·rw[if_pos z]at h
  exact h (as++[l]) _ _ (Ext.new hl) (rp.lnew hl d) (.ref (by rw[<-rp.len];exact VL))
 ·rw[if_neg z]at h;exact h.elim
theorem YdH{as:List Addr}{st:Stor}{H:Hp}{xs:List P}{Q:VK}(h:PostO X as H (newL xs st) Q):xs.length<=sizeLine:=by
 unfold newL at h
 by_cases z:xs.length<=cap
 ·exact Nat.le_trans z YK
 ·rw[if_neg z]at h;exact h.elim
def addP:G2:=fun p q st=>match p,q with
 | .int i,.int j=>okP (.int (i+j)) st
 | .str x,.str y=>if x.length+y.length<=cap then okP (.str (x++y)) st else none
 | .tup xs,.tup ys=>if xs.length+ys.length<=cap then okP (.tup (xs++ys)) st else none
 | .ref k,.ref l=>match lstAt st k,lstAt st l with
  |some xs,some ys=>newL (xs++ys) st
  |_,_=>none
 |_,_=>none
theorem Yk:OpR X (binaryOp .Add) (rM X addP):=opM fun pins s σ H x y v u Q as st p q I rx ry rp d1 d2 h=>by
 cases d1 with
 |int=>
  cases d2 with
  |int=>exact Ykx pins s σ H _ _ v u Q I rx ry ⟨_,_,rfl,rfl,h as H _ Ext.refl rp .int⟩
  |_=>exact h.elim
 |@str x tx hx zx=>
  cases d2 with
  |@str y ty hy zy=>
   have h':PostO X as H (if x.length+y.length<=cap then okP (.str (x++y)) st else none) Q:=h
   by_cases z:x.length+y.length<=cap
   ·rw[if_pos z]at h'
    refine Yd9 pins s σ H _ _ v u Q I rx ry ⟨_,_,_,_,rfl,rfl,Nat.le_trans z YK,fun e=>?_,fun e=>?_,mkT rp fun as1 H1 v x r d=>h' as1 H1 v x r d⟩
    ·have e2:x++y=y:=by rw[show x=Str.empty from Ydg e];exact Str.empty_append y
     exact h' as H _ Ext.refl rp (by rw[e2];exact .str hy zy)
    ·have e2:x++y=x:=by rw[show y=Str.empty from Ydg e];exact Str.append_empty x
     exact h' as H _ Ext.refl rp (by rw[e2];exact .str hx zx)
   ·rw[if_neg z]at h';exact h'.elim
  |_=>exact h.elim
 |@tup a vs xs e r tk=>
  cases d2 with
  |@tup b ws ys e2 r2 tk=>
   have h':PostO X as H (if xs.length+ys.length<=cap then okP (.tup (xs++ys)) st else none) Q:=h
   by_cases z:xs.length+ys.length<=cap
   ·rw[if_pos z]at h'
    cases rx
    cases ry
    obtain⟨its,r1,p1,_⟩:=I.tuple e
    obtain⟨its2,r3,p2,_⟩:=I.tuple e2
    obtain⟨⟨cls,dd,data,sl⟩,ho,hc,n,hd⟩:=id p1
    obtain⟨⟨cls2,dd2,data2,sl2⟩,ho2,hc2,n2,hd2⟩:=id p2
    simp only at hc hd hc2 hd2
    subst hc hd hc2 hd2
    by_cases hv:its=[]
    ·have hz:xs=[]:=List.eq_nil_of_length_eq_zero (by rw[<-r.length,r1.length,hv];rfl)
     subst hz
     exact concat_meets ⟨_,ho,rfl⟩ ⟨_,ho2,rfl⟩ noFill_tuple_add seq_tuple_add PySem.F.slot_tuple_add PySem.F.entry_tuple_add (PySem.F.args_tuple_add_2 _ _)
      (tuple_addW0 a b its.toArray its2.toArray n n2 dd dd2 sl sl2 (by simp[hv])) ⟨ho,ho2,⟨.ref b,H,I,rfl,h' as H _ Ext.refl rp (.tup e2 r2)⟩⟩
    ·refine Yjp pins s σ H (.ref a) (.ref b) _ _ Q I rfl rfl ⟨a,b,vs,ws,rfl,rfl,e,e2,fun w=>hv (r1.nil_iff.mpr w),?_,fun w=>?_,fun _ p hp=>?_⟩
     ·rw[r.length,r2.length];exact Nat.le_trans z YK
     ·subst w
      cases r2
      refine h' as H _ Ext.refl rp ?_
      rw[List.append_nil]
      exact .tup e r
     ·exact h' as _ _ (Ext.laid hp) (rp.laid hp) (.tup (.of Yq) ((r.append r2).ext (Ext.laid hp)))
   ·rw[if_neg z]at h';exact h'.elim
  |_=>exact h.elim
 |ref e=>
  rename_i k a
  cases d2 with
  |ref e2=>
   rename_i l b
   have h':PostO X as H (match lstAt st k,lstAt st l with|some xs,some ys=>newL (xs++ys) st|_,_=>none) Q:=h
   cases q1:lstAt st k with
   |none=>rw[q1]at h';exact h'.elim
   |some xs=>
    cases q2:lstAt st l with
    |none=>rw[q1,q2]at h';exact h'.elim
    |some ys=>
     rw[q1,q2]at h'
     obtain⟨a',vs,z1,_,_,h1,h2⟩:=Ya2 rp (.ref e) q1
     obtain⟨b',ws,z2,_,_,h3,h4⟩:=Ya2 rp (.ref e2) q2
     cases z1;cases z2
     have hn:=YdH h'
     rw[List.length_append]at hn
     exact Ylb pins s σ H _ _ v u Q I rx ry ⟨a,b,vs,ws,rfl,rfl,h1,h3,by rw[h2.length,h4.length];exact hn,fun p hp=>ZR rp (h2.append h4) h' hp⟩
  |_=>exact h.elim
 |_=>exact h.elim
def subP:G2:=fun p q st=>match p,q with
 | .int i,.int j=>okP (.int (i - j)) st
 |_,_=>none
theorem YiC:OpR X (binaryOp .Sub) (rM X subP):=opM fun pins s σ H x y v u Q as st p q I rx ry rp d1 d2 h=>by
 cases d1 with
 |int=>
  cases d2 with
  |int=>exact Ykd pins s σ H _ _ v u Q I rx ry ⟨_,_,rfl,rfl,h as H _ Ext.refl rp .int⟩
  |_=>exact h.elim
 |_=>exact h.elim
def small64(i:Int):Bool:=decide (-(2 ^ 64)<i) && decide (i<2 ^ 64)
def mulP:G2:=fun p q st=>match p,q with
 | .int i,.int j=>if (small64 i || small64 j)=true then okP (.int (i * j)) st else none
 |_,_=>none
theorem Yk3:OpR X (binaryOp .Mult) (rM X mulP):=opM fun pins s σ H x y v u Q as st p q I rx ry rp d1 d2 h=>by
 cases d1 with
 |int=>
  rename_i i
  cases d2 with
  |int=>
   rename_i j
   have h':PostO X as H (if (small64 i || small64 j)=true then okP (.int (i * j)) st else none) Q:=h
   by_cases z:(small64 i || small64 j)=true
   ·rw[if_pos z]at h'
    refine Ykv pins s σ H _ _ v u Q I rx ry ⟨_,_,rfl,rfl,?_,h' as H _ Ext.refl rp .int⟩
    unfold small64 at z
    rcases Bool.or_eq_true_iff.mp z with w|w
    ·exact .inl ⟨of_decide_eq_true (Bool.and_eq_true_iff.mp w).1,of_decide_eq_true (Bool.and_eq_true_iff.mp w).2⟩
    ·exact .inr ⟨of_decide_eq_true (Bool.and_eq_true_iff.mp w).1,of_decide_eq_true (Bool.and_eq_true_iff.mp w).2⟩
   ·rw[if_neg z]at h';exact h'.elim
  |_=>exact h.elim
 |_=>exact h.elim
def fdivP:G2:=fun p q st=>match p,q with
 | .int i,.int j=>if 0<j/\j<1073741824 then okP (.int (i / j)) st else none
 |_,_=>none
theorem Z6:OpR X (binaryOp .FloorDiv) (rM X fdivP):=opM fun pins s σ H x y v u Q as st p q I rx ry rp d1 d2 h=>by
 cases d1 with
 |int=>
  rename_i i
  cases d2 with
  |int=>
   rename_i j
   have h':PostO X as H (if 0<j/\j<1073741824 then okP (.int (i / j)) st else none) Q:=h
   by_cases z:0<j/\j<1073741824
   ·rw[if_pos z]at h'
    exact Yjo pins s σ H _ _ v u Q I rx ry ⟨_,_,rfl,rfl,z,h' as H _ Ext.refl rp .int⟩
   ·rw[if_neg z]at h';exact h'.elim
  |_=>exact h.elim
 |_=>exact h.elim
def modP:G2:=fun p q st=>match p,q with
 | .int i,.int j=>if 0<j then okP (.int (i % j)) st else none
 |_,_=>none
theorem Y3:OpR X (binaryOp .Mod) (rM X modP):=opM fun pins s σ H x y v u Q as st p q I rx ry rp d1 d2 h=>by
 cases d1 with
 |int=>
  rename_i i
  cases d2 with
  |int=>
   rename_i j
   have h':PostO X as H (if 0<j then okP (.int (i % j)) st else none) Q:=h
   by_cases z:0<j
   ·rw[if_pos z]at h'
    exact YkB pins s σ H _ _ v u Q I rx ry ⟨_,_,rfl,rfl,z,h' as H _ Ext.refl rp .int⟩
   ·rw[if_neg z]at h';exact h'.elim
  |_=>exact h.elim
 |_=>exact h.elim
def strLt(x y:Str):Bool:=decide (x.cps.toList<y.cps.toList)
def ltP:G2:=fun p q st=>match p,q with
 | .int i,.int j=>okP (.bl (decide (i<j))) st
 | .str x,.str y=>okP (.bl (strLt x y)) st
 |_,_=>none
def leP:G2:=fun p q st=>match p,q with
 | .int i,.int j=>okP (.bl (decide (i<=j))) st
 | .str x,.str y=>okP (.bl (!strLt y x)) st
 |_,_=>none
def gtP:G2:=fun p q st=>match p,q with
 | .int i,.int j=>okP (.bl (decide (j<i))) st
 |_,_=>none
theorem J9:OpR X (compareOp .Lt) (rM X ltP):=opM fun pins s σ H x y v u Q as st p q I rx ry rp d1 d2 h=>by
 cases d1 with
 |int=>
  cases d2 with
  |int=>exact Ylg pins s σ H _ _ v u Q I rx ry ⟨_,_,rfl,rfl,h as H _ Ext.refl rp .bl⟩
  |_=>exact h.elim
 |str=>
  cases d2 with
  |str=>exact YfG pins s σ H _ _ v u Q I rx ry ⟨_,_,_,_,rfl,rfl,h as H _ Ext.refl rp .bl⟩
  |_=>exact h.elim
 |_=>exact h.elim
theorem Ye7:OpR X (compareOp .LtE) (rM X leP):=opM fun pins s σ H x y v u Q as st p q I rx ry rp d1 d2 h=>by
 cases d1 with
 |int=>
  cases d2 with
  |int=>exact Ylp pins s σ H _ _ v u Q I rx ry ⟨_,_,rfl,rfl,h as H _ Ext.refl rp .bl⟩
  |_=>exact h.elim
 |str=>
  cases d2 with
  |str=>
   cases rx
   cases ry
   exact PySem.P.le_str ⟨.bl _,H,I,rfl,h as H _ Ext.refl rp .bl⟩
  |_=>exact h.elim
 |_=>exact h.elim
theorem YjI:OpR X (compareOp .Gt) (rM X gtP):=opM fun pins s σ H x y v u Q as st p q I rx ry rp d1 d2 h=>by
 cases d1 with
 |int=>
  cases d2 with
  |int=>exact Ylk pins s σ H _ _ v u Q I rx ry ⟨_,_,rfl,rfl,h as H _ Ext.refl rp .bl⟩
  |_=>exact h.elim
 |_=>exact h.elim
end
def RS.ofE{α:Type}(ρ:Rho)(r:R α)(f:α->Stor->RS):RS:=match r with
 | .ok p st=>f p st
 | .exc k st=>.exc k ρ st
 | .bad=>.bad
@[simp] theorem RS.ofE_ok{α:Type}{ρ:Rho}{p:α}{st:Stor}{f:α->Stor->RS}:RS.ofE ρ (.ok p st) f=f p st:=rfl
@[simp] theorem RS.ofE_exc{α:Type}{ρ:Rho}{k:Xc}{st:Stor}{f:α->Stor->RS}:RS.ofE ρ (.exc k st) f=.exc k ρ st:=rfl
@[simp] theorem RS.ofE_bad{α:Type}{ρ:Rho}{f:α->Stor->RS}:RS.ofE ρ .bad f=.bad:=rfl
def sNil:MS:=fun ρ st=>.nx ρ st
def RS.seq(r:RS)(m:MS):RS:=match r with
 | .nx ρ st=>m ρ st
 |r=>r
@[simp] theorem RS.seq_nx{ρ:Rho}{st:Stor}{m:MS}:(RS.nx ρ st).seq m=m ρ st:=rfl
@[simp] theorem RS.seq_rt{p:P}{st:Stor}{m:MS}:(RS.rt p st).seq m=.rt p st:=rfl
@[simp] theorem RS.seq_bk{ρ:Rho}{st:Stor}{m:MS}:(RS.bk ρ st).seq m=.bk ρ st:=rfl
@[simp] theorem RS.seq_ct{ρ:Rho}{st:Stor}{m:MS}:(RS.ct ρ st).seq m=.ct ρ st:=rfl
@[simp] theorem RS.seq_exc{k:Xc}{ρ:Rho}{st:Stor}{m:MS}:(RS.exc k ρ st).seq m=.exc k ρ st:=rfl
@[simp] theorem RS.seq_bad{m:MS}:RS.bad.seq m=.bad:=rfl
def sSeq(m1 m2:MS):MS:=fun ρ st=>(m1 ρ st).seq m2
section
variable{X:Cx}{a b c e:Expr}{me ma:ME}{pos:Pos}{s:Stmt}{rest ss tt:List Stmt}{m m1 m2:MS}{nc:MT}
theorem PostS.ofE{as:List Addr}{H:Hp}{ρ:Rho}{r:R P}{f:P->Stor->RS}{D:Ends}{Q':VK}(h:PostS X as H (RS.ofE ρ r f) D)
 (go:∀p st1 as1 H1 v,Ext as H as1 H1->Rep X.K as1 st1 H1->Den X.K as1 H1 v p->PostS X as1 H1 (f p st1) D->Q' v H1):Post X as H ρ r Q':=by
 cases r with
 |ok p st1=>exact fun as1 H1 v x rp d=>go p st1 as1 H1 v x rp d (PostS.ext x h)
 |exc k st'=>exact h
 |bad=>exact h
theorem PostS.ofB{as:List Addr}{H:Hp}{ρ:Rho}{r:R Bool}{f:Bool->Stor->RS}{D:Ends}{Q':Bool->Hp->Prop}(h:PostS X as H (RS.ofE ρ r f) D)
 (go:∀b st1 as1 H1,Ext as H as1 H1->Rep X.K as1 st1 H1->PostS X as1 H1 (f b st1) D->Q' b H1):PostB X as H ρ r Q':=by
 cases r with
 |ok p st1=>exact fun as1 H1 x rp=>go p st1 as1 H1 x rp (PostS.ext x h)
 |exc k st'=>exact h
 |bad=>exact h
theorem YB:JSs X [] sNil:=PSs.imp YjC fun D σ H ⟨as,ρ,st,en,rp,h⟩=>h as H σ Ext.refl rp en
theorem PostS.seq{as:List Addr}{H:Hp}{r:RS}{m:MS}{D:Ends}(h:PostS X as H (r.seq m) D):PostS X as H r { D with nx:=tS X m D }:=by
 cases r with
 |nx ρ st=>exact fun as' H' σ' x rp en=>⟨as',ρ,st,en,rp,PostS.ext x h⟩
 |rt p st=>exact h
 |bk ρ st=>exact h
 |ct ρ st=>exact h
 |exc k ρ st=>exact h
 |bad=>exact h
theorem YhD(h1:JS X s m1)(h2:JSs X rest m2):JSs X (s::rest) (sSeq m1 m2):=
 PSs.imp (Yg3 h1 h2) fun D σ H ⟨as,ρ,st,en,rp,h⟩=>⟨as,ρ,st,en,rp,PostS.seq h⟩
theorem Yc(h1:JS X s m1):JSs X [s] m1:=Yi6 h1
def sRet(me:ME):MS:=fun ρ st=>RS.ofE ρ (me ρ st) fun p st1=>.rt p st1
def sDrop(me:ME):MS:=fun ρ st=>RS.ofE ρ (me ρ st) fun _ st1=>.nx ρ st1
def sSet(i:Nat)(me:ME):MS:=fun ρ st=>RS.ofE ρ (me ρ st) fun p st1=>.nx (ρ.set i (some p)) st1
def sIf(nc:MT)(m1 m2:MS):MS:=fun ρ st=>RS.ofE ρ (nc ρ st) fun c st1=>if c=true then m1 ρ st1 else m2 ρ st1
theorem Yh(he:JE X e me):JS X (.Return (some e) pos) (sRet me):=
 PS.imp (Ykn he) fun D σ H ⟨as,ρ,st,en,rp,h⟩=>⟨as,ρ,st,en,rp,PostS.ofE h fun p st1 as1 H1 v x rp1 d h1=>h1 as1 H1 v Ext.refl rp1 d⟩
theorem Jr(he:JE X e me)(hs:swapsWith e none pos.line X.env=pure false:=by rfl):JS X (.Expr e pos) (sDrop me):=
 PS.imp (Yjw he hs) fun D σ H ⟨as,ρ,st,en,rp,h⟩=>⟨as,ρ,st,en,rp,PostS.ofE h fun p st1 as1 H1 v x rp1 d h1=>h1 as1 H1 σ Ext.refl rp1 (en.ext x)⟩
theorem Ykf{i:Nat}{x:Str}{pos':Pos}(hN:X.N.Nodup)(hi:X.N[i]?=some x)(hx:Loc X.env.scope x)(he:JE X e me)(hs:swapsWith e (some (.Name x pos')) pos.line X.env=pure false:=by rfl)(hf:X.fn x=true\/X.env.scope.names.lookup x=some .local:=by first|exact .inl rfl|exact .inr rfl|assumption):
 JS X (.Assign [.Name x pos'] e pos) (sSet i me):=
 PS.imp (Yk2 hN hi hx he hs hf) fun D σ H ⟨as,ρ,st,en,rp,h⟩=>⟨as,ρ,st,en,rp,PostS.ofE h fun p st1 as1 H1 v x rp1 d h1=>h1 as1 H1 _ Ext.refl rp1 ((en.ext x).set d)⟩
theorem Y0(hc:JT X c nc)(h1:JSs X ss m1)(h2:JSs X tt m2):JS X (.If c ss tt pos) (sIf nc m1 m2):=
 PS.imp (Ylm hc h1 h2) fun D σ H ⟨as,ρ,st,en,rp,h⟩=>⟨as,ρ,st,en,rp,PostS.ofB h fun k st1 as1 H1 x rp1 h1=>by
  cases k with
  |true=>rw[if_pos rfl]at h1 ⊢;exact⟨as1,ρ,st1,en.ext x,rp1,h1⟩
  |false=>rw[if_neg Bool.false_ne_true]at h1 ⊢;exact⟨as1,ρ,st1,en.ext x,rp1,h1⟩⟩
def whileN(nc:MT)(m:MS):Nat->Rho->Stor->RS
 | 0,_,_=>.bad
 |n+1,ρ,st=>RS.ofE ρ (nc ρ st) fun c st1=>if c=true then
  match m ρ st1 with
  | .nx ρ' st'=>whileN nc m n ρ' st'
  | .ct ρ' st'=>whileN nc m n ρ' st'
  | .bk ρ' st'=>.nx ρ' st'
  |r=>r
  else .nx ρ st1
def turns:Nat:=1000000
def sWhile(nc:MT)(m:MS):MS:=whileN nc m turns
theorem Jk{pos:Pos}(hp:PassesOwn (model X.prog X.w) X.A X.env X.xe)(hc:JT X c nc)(hb:JSs X ss m):JS X (.While c ss [] pos) (sWhile nc m):=
 PS.imp (Yhp hp hc hb) fun D σ H ⟨as,ρ,st,en,rp,h⟩=>by
  refine⟨fun n σ H=>∃as ρ st,EnvOk X.K as H ρ σ/\Rep X.K as st H/\PostS X as H (whileN nc m n ρ st) D,⟨turns,as,ρ,st,en,rp,h⟩,?_⟩
  rintro n σ H ⟨as,ρ,st,en,rp,h⟩
  cases n with
  |zero=>exact h.elim
  |succ n=>
   refine⟨as,ρ,st,en,rp,PostS.ofB h fun k st1 as1 H1 x rp1 h1=>?_⟩
   cases k with
   |false=>rw[if_neg Bool.false_ne_true]at h1 ⊢;exact h1 as1 H1 σ Ext.refl rp1 (en.ext x)
   |true=>
    rw[if_pos rfl]at h1 ⊢
    refine⟨fun σ' H'=>∃as ρ st,EnvOk X.K as H' ρ σ'/\Rep X.K as st H'/\PostS X as H' (whileN nc m n ρ st) D,fun σ' H' q=>⟨n,Nat.lt_succ_self n,q⟩,as1,ρ,st1,en.ext x,rp1,?_⟩
    cases q:m ρ st1 with
    |nx ρ' st'=>rw[q]at h1;exact fun as' H' σ' x rp en=>⟨as',ρ',st',en,rp,PostS.ext x h1⟩
    |ct ρ' st'=>rw[q]at h1;exact fun as' H' σ' x rp en=>⟨as',ρ',st',en,rp,PostS.ext x h1⟩
    |bk ρ' st'=>rw[q]at h1;exact h1
    |rt p st'=>rw[q]at h1;exact h1
    |exc k ρ' st'=>rw[q]at h1;exact h1
    |bad=>rw[q]at h1;exact h1
abbrev MG:=P->Rho->Stor->Option Rho
abbrev MGs:=List P->Rho->Stor->Option Rho
def tG(X:Cx)(g:MG):TG:=fun v σ H Q=>∃as ρ st p ρ',EnvOk X.K as H ρ σ/\Rep X.K as st H/\Den X.K as H v p/\g p ρ st=some ρ'/\∀σ',EnvOk X.K as H ρ' σ'->Q σ' H
def tGs(X:Cx)(g:MGs):TGs:=fun vs σ H Q=>∃as ρ st ps ρ',EnvOk X.K as H ρ σ/\Rep X.K as st H/\Dens X.K as H vs ps/\g ps ρ st=some ρ'/\∀σ',EnvOk X.K as H ρ' σ'->Q σ' H
abbrev JG(X:Cx)(t:Expr)(g:MG):Prop:=PG X t (tG X g)
abbrev JGs(X:Cx)(ts:List Expr)(g:MGs):Prop:=PGs X ts (tGs X g)
theorem PG.imp{t t':TG}(h:PG X e t)(i:∀v σ H Q,t' v σ H Q->t v σ H Q):PG X e t':=fun pins s σ H v u Q I r q=>h pins s σ H v u Q I r (i v σ H Q q)
theorem PGs.imp{es:List Expr}{t t':TGs}(h:PGs X es t)(i:∀v σ H Q,t' v σ H Q->t v σ H Q):PGs X es t':=fun pins s σ H v u Q I r q=>h pins s σ H v u Q I r (i v σ H Q q)
def mgName(i:Nat):MG:=fun p ρ _=>some (ρ.set i (some p))
def mgNil:MGs:=fun ps ρ _=>match ps with
 | []=>some ρ
 |_=>none
def mgCons(g:MG)(r:MGs):MGs:=fun ps ρ st=>match ps with
 |p::qs=>(g p ρ st).bind fun ρ1=>r qs ρ1 st
 | []=>none
theorem YiU{i:Nat}{x:Str}(hN:X.N.Nodup)(hi:X.N[i]?=some x)(hx:Loc X.env.scope x)(hf:X.fn x=true\/X.env.scope.names.lookup x=some .local:=by first|exact .inl rfl|exact .inr rfl|assumption):JG X (.Name x pos) (mgName i):=
 PG.imp (Yju hN hi hx hf) fun v σ H Q ⟨as,ρ,st,p,ρ',en,rp,d,g,h⟩=>by cases g;exact h _ (en.set d)
theorem YT:JGs X [] mgNil:=PGs.imp Yjk fun vs σ H Q ⟨as,ρ,st,ps,ρ',en,rp,d,g,h⟩=>by
 cases d with
 |nil=>cases g;exact⟨rfl,h _ en⟩
 |cons a b=>cases g
theorem YgO{es:List Expr}{g:MG}{r:MGs}(h1:JG X e g)(h2:JGs X es r)(hs:(assignEach (e::es) X.env).map (·.2)=assign e X.env::(assignEach es X.env).map (·.2):=by rfl):JGs X (e::es) (mgCons g r):=
 PGs.imp (Yhj h1 h2 hs) fun vs σ H Q ⟨as,ρ,st,ps,ρ',en,rp,d,q,h⟩=>by
  cases d with
  |nil=>cases q
  |@cons v p vs ps a b=>
   have q':(g p ρ st).bind (fun ρ1=>r ps ρ1 st)=some ρ':=q
   cases z:g p ρ st with
   |none=>rw[z]at q';cases q'
   |some ρ1=>
    rw[z]at q'
    exact⟨v,vs,rfl,as,ρ,st,p,ρ1,en,rp,a,z,fun σ' en'=>⟨as,ρ1,st,ps,ρ',en',rp,b,q',h⟩⟩
structure Src where
 n:Nat
 nx:Nat->Stor->Option (Option P)
abbrev MI:=Rho->Stor->R Src
structure ItOk(K:PySem.W.Frag)(as:List Addr)(H:Hp)(src:Src)(J:It):Prop where
 go:∀i as2 st2 H2 p,Ext as H as2 H2->Rep K as2 st2 H2->src.nx i st2=some (some p)->J.go i H2/\∀x H3,J.yld i H2 x H3->Ext as2 H2 as2 H3/\Rep K as2 st2 H3/\Den K as2 H3 x p
 stop:∀i as2 st2 H2,Ext as H as2 H2->Rep K as2 st2 H2->src.nx i st2=some none->J.stop i H2
def PostI(X:Cx)(as:List Addr)(H:Hp)(ρ:Rho)(r:R Src)(Q:It->Hp->Prop):Prop:=
 match r with
 | .ok src st'=>∀as' H' J,Ext as H as' H'->Rep X.K as' st' H'->ItOk X.K as' H' src J->Q J H'
 | .exc k st'=>XOk X as H ρ k st'
 | .bad=>False
def tI(X:Cx)(m:MI):TI:=fun σ H R=>∃as ρ st,EnvOk X.K as H ρ σ/\Rep X.K as st H/\PostI X as H ρ (m ρ st) R
abbrev JI(X:Cx)(tg iter:Expr)(m:MI):Prop:=PI X tg iter (tI X m)
def forN(src:Src)(g:MG)(m:MS):Nat->Nat->Rho->Stor->RS
 | 0,i,ρ,st=>match src.nx i st with
  |some none=>.nx ρ st
  |_=>.bad
 |n+1,i,ρ,st=>match src.nx i st with
  |some none=>.nx ρ st
  |none=>.bad
  |some (some p)=>match g p ρ st with
   |none=>.bad
   |some ρ1=>match m ρ1 st with
    | .nx ρ' st'=>forN src g m n (i+1) ρ' st'
    | .ct ρ' st'=>forN src g m n (i+1) ρ' st'
    | .bk ρ' st'=>.nx ρ' st'
    |r=>r
def sFor(mi:MI)(g:MG)(m:MS):MS:=fun ρ st=>RS.ofE ρ (mi ρ st) fun src st1=>forN src g m src.n 0 ρ st1
theorem ZL{tg iter:Expr}{mi:MI}{g:MG}{pos:Pos}(hp:PassesOwn (model X.prog X.w) X.A X.env X.xe)(hc:X.calm=true)(hi:JI X tg iter mi)(hg:JG X tg g)(hb:JSs X ss m)
 (hs:∀x,foldedSetIterable iter X.env x=pure x:=by intro _;rfl):JS X (.For tg iter ss [] pos) (sFor mi g m):=
 PS.imp (YkF hp hc hi hg hb hs) fun D σ H ⟨as,ρ,st,en,rp,h⟩=>by
  refine⟨as,ρ,st,en,rp,?_⟩
  unfold sFor at h
  cases q:mi ρ st with
  |bad=>rw[q]at h;exact h
  |exc k st'=>rw[q]at h;exact h
  |ok src st1=>
   rw[q]at h
   intro as1 H1 J x rp1 ok
   have h1:PostS X as1 H1 (forN src g m src.n 0 ρ st1) D:=PostS.ext x h
   refine⟨fun i n σ H=>∃as ρ st,Ext as1 H1 as H/\EnvOk X.K as H ρ σ/\Rep X.K as st H/\PostS X as H (forN src g m n i ρ st) D,⟨src.n,as1,ρ,st1,Ext.refl,en.ext x,rp1,h1⟩,?_⟩
   rintro i n σ H ⟨as2,ρ,st2,x2,en,rp2,h⟩
   have stopC:src.nx i st2=some none->PostS X as2 H (.nx ρ st2) D->J.stop i H/\D.nx σ H:=fun e p=>⟨ok.stop i as2 st2 H x2 rp2 e,p as2 H σ Ext.refl rp2 en⟩
   cases n with
   |zero=>
    cases e:src.nx i st2 with
    |none=>simp only[forN,e]at h;exact h.elim
    |some o=>
     cases o with
     |some p=>simp only[forN,e]at h;exact h.elim
     |none=>simp only[forN,e]at h;exact .inl (stopC e h)
   |succ n=>
    cases e:src.nx i st2 with
    |none=>simp only[forN,e]at h;exact h.elim
    |some o=>
     cases o with
     |none=>simp only[forN,e]at h;exact .inl (stopC e h)
     |some p=>
      obtain⟨g1,g2⟩:=ok.go i as2 st2 H p x2 rp2 e
      cases z:g p ρ st2 with
      |none=>simp only[forN,e,z]at h;exact h.elim
      |some ρ1=>
       simp only[forN,e,z]at h
       refine .inr ⟨g1,fun σ' H'=>∃as ρ st,Ext as1 H1 as H'/\EnvOk X.K as H' ρ σ'/\Rep X.K as st H'/\PostS X as H' (forN src g m n (i+1) ρ st) D,fun σ' H' q=>⟨n,Nat.lt_succ_self n,q⟩,fun v H3 y=>?_⟩
       obtain⟨x3,rp3,d⟩:=g2 v H3 y
       refine⟨as2,ρ,st2,p,ρ1,en.ext x3,rp3,d,z,fun σ2 en2=>⟨as2,ρ1,st2,en2,rp3,?_⟩⟩
       have h:=PostS.ext x3 h
       cases w:m ρ1 st2 with
       |nx ρ' st'=>rw[w]at h;exact fun as' H' σ' x4 rp en=>⟨as',ρ',st',(x2.trans x3).trans x4,en,rp,PostS.ext x4 h⟩
       |ct ρ' st'=>rw[w]at h;exact fun as' H' σ' x4 rp en=>⟨as',ρ',st',(x2.trans x3).trans x4,en,rp,PostS.ext x4 h⟩
       |bk ρ' st'=>rw[w]at h;exact h
       |rt p st'=>rw[w]at h;exact h
       |exc k ρ' st'=>rw[w]at h;exact h
       |bad=>rw[w]at h;exact h
end
def ItR(X:Cx)(tg:Expr)(r:V->Hp->(It->Hp->Prop)->Prop):Prop:=
 ∀(pins:List (Addr×Obj))(s:Shared)(σ:St)(H:Hp)(x:V)(v:Value)(R:It->Hp->Prop),Inv X pins σ H s->RelV x v->r x H R->wpAny (model X.prog X.w) X.A (pyIter v) (PIE X pins σ tg R) X.xe s
def Its(z:Str):It:=⟨fun i _=>i<z.cps.size,fun i H x H'=>∃c t,z.cps[i]?=some c/\H.τ t=none/\t≠0/\x=.str ⟨#[c]⟩ t/\H'=H.put t ⟨#[c]⟩,fun i _=>i=z.cps.size⟩
section
variable{X:Cx}{tg:Expr}
theorem YiT:ItR X tg (fun x H R=>∃a,x=.ref a/\(∃xs,SqL X.K H a xs)/\R (Itl X.K a) H):=by
 intro pins s σ H x v R I rx h
 obtain⟨a,rfl,⟨xs,hq⟩,q⟩:=h
 cases rx
 obtain⟨its,rv,p,hz⟩:=I.list hq
 refine wpAny_pyIter_list p.isList ?_
 refine⟨s.heap.objs.size,[s.heap.objs.size],_,_,H,rfl,I.kept (t':=s.toks) fun b o e=>Heap.get?_push_of_some _ e,Yfr a _,⟨_,Heap.get?_push_size _ rfl,rfl,rfl⟩,fun b hb=>?_,q⟩
 have e:b=s.heap.objs.size:=by simpa using hb
 subst e
 exact I.fpOk (Nat.le_refl _) (I.hok.fresh (Nat.le_refl _))
theorem YjO:ItR X tg (fun x H R=>∃a,x=.ref a/\(∃xs,SqT X.K H a xs)/\R (Itt X.K a) H):=by
 intro pins s σ H x v R I rx h
 obtain⟨a,rfl,⟨xs,hq⟩,q⟩:=h
 cases rx
 obtain⟨its,rv,p,hz⟩:=I.tuple hq
 refine wpAny_pyIter_tuple (show s.heap.IsTuple a its.toArray from p) ?_
 refine⟨s.heap.objs.size,[s.heap.objs.size],_,_,H,rfl,I.kept (t':=s.toks) fun b o e=>Heap.get?_push_of_some _ e,Yep a _,⟨_,Heap.get?_push_size _ rfl,rfl,rfl⟩,fun b hb=>?_,q⟩
 have e:b=s.heap.objs.size:=by simpa using hb
 subst e
 exact I.fpOk (Nat.le_refl _) (I.hok.fresh (Nat.le_refl _))
theorem Yd2{P:Program}{w:World}{K:PySem.W.Frag}{n:String}{z:Str}{t:Tok}(it:Addr)
 (hn:["enumerate","zip","dict_itemiterator","dict_reverseitemiterator","odict_iterator","itertools.zip_longest","itertools.pairwise"].contains n=false)
 (W:∀A:Around,A.handled=none->Walks P w A it [it] [it] z.cps.size (SignAt z) (fun i h=>h.IsStrIter it n z t i))
 (W1:∀(A:Around)(i c:Nat)(s:Shared)(Q:Option Value->Shared->Prop)(E:Value->Shared->Prop),s.heap.IsStrIter it n z t i->z.cps[i]?=some c->(∀h',h'.IsStrIter it n z t (i+1)->Heap.SameBut it s.heap h'->Q (some (.str ⟨#[c]⟩ s.toks)) { s with heap:=h',toks:=s.toks+1 })->wpAny (model P w) A (pyNext (.ref it)) Q E s)
 (sf:∀(A:Around)(i:Nat)(s:Shared)(Q:Value->Shared->Prop)(E:Value->Shared->Prop),s.heap.IsStrIter it n z t i->Q (.ref it) s->wpAny (model P w) A (pyIter (.ref it)) Q E s):Turn P w K tg (Its z) [it] it (fun i h=>h.IsStrIter it n z t i) where
 mem:=by simp
 obj:=fun i h st b hb=>by
  have e:b=it:=by simpa using hb
  subst e
  obtain⟨o,e,c,d⟩:=st
  exact⟨o,e,fun v z=>by rw[d]at z;cases z⟩
 keep:=fun i h h' st k=>by
  obtain⟨o,e,r⟩:=st
  exact⟨o,k it (by simp) o e,r⟩
 item:=by
  intro X hP hw hK hc i pins s σ H E I hf st hg
  subst hP hw hK
  obtain⟨f0,f1,f2,f3,f4,f5⟩:=hf it (by simp)
  obtain⟨c,hc'⟩:∃c,z.cps[i]?=some c:=⟨z.cps[i]'(show i<z.cps.size from hg),Array.getElem?_eq_getElem (show i<z.cps.size from hg)⟩
  refine W1 X.A i c s _ _ st hc' fun h' st' sb=>?_
  have I1:Inv X pins σ H { s with heap:=h' }:=I.turned (t':=s.toks) (fun b o hb e=>(sb.2 b hb).trans e) f0 f1 f3 f4 f5
  have I2:Inv X pins σ (H.put s.toks ⟨#[c]⟩) { s with heap:=h',toks:=s.toks+1 }:=I1.txt (t:=s.toks) (m:=s.toks+1) (Nat.le_refl _) (Nat.lt_succ_self _)
  obtain⟨o,e,c',d⟩:=id st'
  exact⟨_,rfl,Ydh (s:={ s with heap:=h',toks:=s.toks+1 }) e c' d hn ⟨.str ⟨#[c]⟩ s.toks,_,I2,rfl,⟨c,s.toks,hc',I.fresh_tok.1,I.fresh_tok.2,rfl,rfl⟩,st',fun b hb=>(hf b hb).1⟩⟩
 done:=by
  intro X hP hw hK hc i pins s σ H E I hf st hg
  subst hP hw hK
  obtain⟨f0,f1,f2,f3,f4,f5⟩:=hf it (by simp)
  have e:i=z.cps.size:=hg
  subst e
  exact Tk.wpAny_le ((W X.A (I.ok.hd hc)).done s _ _ st fun h' tk kk le=>⟨rfl,I.turned (fun b o hb e=>kk b o (by simpa using hb) e) f0 f1 f3 f4 f5 le⟩)
 self:=fun A i s Q E st h=>sf A i s Q E st h
theorem Ykr:ItR X tg (fun x H R=>∃z t,x=.str z t/\R (Its z) H):=by
 intro pins s σ H x v R I rx h
 obtain⟨z,t,rfl,q⟩:=h
 cases rx
 have fp:∀b∈[s.heap.objs.size],FpOk X pins H b:=fun b hb=>by
  have e:b=s.heap.objs.size:=by simpa using hb
  subst e
  exact I.fpOk (Nat.le_refl _) (I.hok.fresh (Nat.le_refl _))
 cases ha:z.cps.all (·<128)
 ·refine wpAny_pyIter_wide ha ?_
  exact⟨s.heap.objs.size,[s.heap.objs.size],_,_,H,rfl,I.kept (t':=s.toks) fun b o e=>Heap.get?_push_of_some _ e,Yd2 _ (by decide) (fun A hA=>Walks.strWide hA _ z t) (fun A i c s Q E st hx hq=>wpAny_pyNext_wide_item st hx hq) (fun A i s Q E st h=>wpAny_pyIter_striter_wide st h),⟨_,Heap.get?_push_size _ rfl,rfl,rfl⟩,fp,q⟩
 ·refine wpAny_pyIter_ascii ha ?_
  exact⟨s.heap.objs.size,[s.heap.objs.size],_,_,H,rfl,I.kept (t':=s.toks) fun b o e=>Heap.get?_push_of_some _ e,Yd2 _ (by decide) (fun A hA=>Walks.strAscii hA _ z t) (fun A i c s Q E st hx hq=>wpAny_pyNext_ascii_item st hx hq) (fun A i s Q E st h=>wpAny_pyIter_striter_ascii st h),⟨_,Heap.get?_push_size _ rfl,rfl,rfl⟩,fp,q⟩
def signP(c:Nat):P:=.str ⟨#[c]⟩
def srcL(xs:List P):Src:=⟨xs.length,fun i _=>some xs[i]?⟩
def srcS(z:Str):Src:=⟨z.cps.size,fun i _=>if i<z.cps.size then some ((z.cps[i]?).map signP) else if i=z.cps.size then some none else none⟩
def srcK(k:Nat)(n:Nat):Src:=⟨n,fun i st=>match st[k]? with
 |some (.lst ys)=>some ys[i]?
 |some (.ro ys)=>some ys[i]?
 |_=>none⟩
def srcOf(p:P)(st:Stor):Option Src:=match p with
 | .tup xs=>some (srcL xs)
 | .str z=>some (srcS z)
 | .ref k=>match st[k]? with
  |some (.lst xs)=>some (srcK k xs.length)
  |some (.ro xs)=>some (srcK k xs.length)
  |_=>none
 |_=>none
theorem YbY{K:PySem.W.Frag}{as:List Addr}{H:Hp}{k n:Nat}{a:Addr}(hk:as[k]?=some a):ItOk K as H (srcK k n) (Itl K a) where
 go:=fun i as2 st2 H2 p x rp e=>by
  have hk2:=x.pre k a hk
  have e':(match st2[k]? with|some (.lst ys)=>some ys[i]?|some (.ro ys)=>some ys[i]?|_=>none)=some (some p):=e
  cases q:st2[k]? with
  |none=>rw[q]at e';cases e'
  |some o=>
   rw[q]at e'
   have ob:=rp.ob k a o hk2 q
   cases o with
   |lst ys=>
    obtain⟨vs,h1,h2⟩:=ob
    obtain⟨v,h3,h4⟩:=h2.get (Option.some.inj e')
    exact⟨⟨vs,v,.of h1,h3⟩,fun y H3 ⟨z1,z2⟩=>by subst z1;rw[z2 vs (.of h1)]at h3;cases h3;exact⟨Ext.refl,rp,h4⟩⟩
   |ro ys=>
    obtain⟨vs,h1,h2⟩:=ob
    obtain⟨v,h3,h4⟩:=h2.get (Option.some.inj e')
    exact⟨⟨vs,v,WS h1,h3⟩,fun y H3 ⟨z1,z2⟩=>by subst z1;rw[z2 vs (WS h1)]at h3;cases h3;exact⟨Ext.refl,rp,h4⟩⟩
   |dct ys=>cases e'
   |exc c ys=>cases e'
   |ddk kvs=>cases e'
   |fdc kvs=>cases e'
   |fdd kvs=>cases e'
   |fn n=>cases e'
 stop:=fun i as2 st2 H2 x rp e=>by
  have hk2:=x.pre k a hk
  have e':(match st2[k]? with|some (.lst ys)=>some ys[i]?|some (.ro ys)=>some ys[i]?|_=>none)=some none:=e
  cases q:st2[k]? with
  |none=>rw[q]at e';cases e'
  |some o=>
   rw[q]at e'
   have ob:=rp.ob k a o hk2 q
   cases o with
   |lst ys=>
    obtain⟨vs,h1,h2⟩:=ob
    exact⟨vs,.of h1,by rw[h2.length];exact List.getElem?_eq_none_iff.mp (Option.some.inj e')⟩
   |ro ys=>
    obtain⟨vs,h1,h2⟩:=ob
    exact⟨vs,WS h1,by rw[h2.length];exact List.getElem?_eq_none_iff.mp (Option.some.inj e')⟩
   |dct ys=>cases e'
   |exc c ys=>cases e'
   |ddk kvs=>cases e'
   |fdc kvs=>cases e'
   |fdd kvs=>cases e'
   |fn n=>cases e'
theorem YgI{K:PySem.W.Frag}{as:List Addr}{H:Hp}{a:Addr}{vs:List V}{xs:List P}(h1:SqT K H a vs)(h2:Dens K as H vs xs):ItOk K as H (srcL xs) (Itt K a) where
 go:=fun i as2 st2 H2 p x rp e=>by
  have e':some xs[i]?=some (some p):=e
  obtain⟨v,h3,h4⟩:=(h2.ext x).get (Option.some.inj e')
  exact⟨⟨vs,v,SqT.ext x h1,h3⟩,fun y H3 ⟨z1,z2⟩=>by subst z1;rw[z2 vs (SqT.ext x h1)]at h3;cases h3;exact⟨Ext.refl,rp,h4⟩⟩
 stop:=fun i as2 st2 H2 x rp e=>by
  have e':some xs[i]?=some none:=e
  exact⟨vs,SqT.ext x h1,by rw[h2.length];exact List.getElem?_eq_none_iff.mp (Option.some.inj e')⟩
theorem Yip{K:PySem.W.Frag}{as:List Addr}{H:Hp}{z:Str}:ItOk K as H (srcS z) (Its z) where
 go:=fun i as2 st2 H2 p x rp e=>by
  have e':(if i<z.cps.size then some ((z.cps[i]?).map signP) else if i=z.cps.size then some none else none)=some (some p):=e
  by_cases hi:i<z.cps.size
  ·rw[if_pos hi]at e'
   refine⟨hi,fun y H3 ⟨c,t,z2,hn,hz,z3,z1⟩=>?_⟩
   subst z1;subst z3
   rw[z2]at e'
   cases Option.some.inj (Option.some.inj e')
   exact⟨Ext.put hn,rp.put hn,.str (if_pos rfl) hz⟩
  ·rw[if_neg hi]at e'
   by_cases hj:i=z.cps.size
   ·rw[if_pos hj]at e';cases e'
   ·rw[if_neg hj]at e';cases e'
 stop:=fun i as2 st2 H2 x rp e=>by
  have e':(if i<z.cps.size then some ((z.cps[i]?).map signP) else if i=z.cps.size then some none else none)=some none:=e
  by_cases hi:i<z.cps.size
  ·rw[if_pos hi]at e'
   have:=Option.some.inj e'
   simp[hi]at this
  ·rw[if_neg hi]at e'
   by_cases hj:i=z.cps.size
   ·exact hj
   ·rw[if_neg hj]at e';cases e'
def iVal(me:ME):MI:=fun ρ st=>(me ρ st).bind fun p st1=>match srcOf p st1 with
 |some s=>.ok s st1
 |none=>.bad
theorem PostI.ext{as as1:List Addr}{H H1:Hp}{ρ:Rho}{r:R Src}{Q:It->Hp->Prop}(x:Ext as H as1 H1)(h:PostI X as H ρ r Q):PostI X as1 H1 ρ r Q:=by
 cases r with
 |ok p st'=>exact fun as' H' J y=>h as' H' J (x.trans y)
 |exc k st'=>exact XOk.ext x h
 |bad=>exact h
theorem PostI.bindE{as:List Addr}{H:Hp}{ρ:Rho}{r:R P}{f:P->Stor->R Src}{Q:It->Hp->Prop}{Q':VK}(h:PostI X as H ρ (r.bind f) Q)
 (go:∀p st1 as1 H1 v,Ext as H as1 H1->Rep X.K as1 st1 H1->Den X.K as1 H1 v p->PostI X as1 H1 ρ (f p st1) Q->Q' v H1):Post X as H ρ r Q':=by
 cases r with
 |ok p st1=>exact fun as1 H1 v x rp d=>go p st1 as1 H1 v x rp d (PostI.ext x h)
 |exc k st'=>exact h
 |bad=>exact h
theorem PostI.bindA{as:List Addr}{H:Hp}{ρ:Rho}{r:R (List P)}{f:List P->Stor->R Src}{Q:It->Hp->Prop}{Q':List V->Hp->Prop}(h:PostI X as H ρ (r.bind f) Q)
 (go:∀p st1 as1 H1 v,Ext as H as1 H1->Rep X.K as1 st1 H1->Dens X.K as1 H1 v p->PostI X as1 H1 ρ (f p st1) Q->Q' v H1):PostA X as H ρ r Q':=by
 cases r with
 |ok p st1=>exact fun as1 H1 v x rp d=>go p st1 as1 H1 v x rp d (PostI.ext x h)
 |exc k st'=>exact h
 |bad=>exact h
theorem PostI.bindL{as:List Addr}{H:Hp}{ρ:Rho}{r:R (List P)}{f:List P->Stor->R Src}{Q:It->Hp->Prop}{Q':VK}(h:PostI X as H ρ (r.bind f) Q)
 (go:∀ps st1 as1 H1 l vs,Ext as H as1 H1->Rep X.K as1 st1 H1->H1 l=some (.lst vs)->Fresh as1 st1 l->Dens X.K as1 H1 vs ps->PostI X as1 H1 ρ (f ps st1) Q->Q' (.ref l) H1):PostL X as H ρ r Q':=by
 cases r with
 |ok p st1=>exact fun as1 H1 l v x rp hl nl d=>go p st1 as1 H1 l v x rp hl nl d (PostI.ext x h)
 |exc k st'=>exact h
 |bad=>exact h
theorem Ykg:ItR X tg (fun x H R=>(∃a,x=.ref a/\(∃xs,SqL X.K H a xs)/\R (Itl X.K a) H)\/(∃a,x=.ref a/\(∃xs,SqT X.K H a xs)/\R (Itt X.K a) H)\/∃z t,x=.str z t/\R (Its z) H):=by
 intro pins s σ H x v R I rx h
 rcases h with h|h|h
 ·exact YiT pins s σ H x v R I rx h
 ·exact YjO pins s σ H x v R I rx h
 ·exact Ykr pins s σ H x v R I rx h
theorem Ys{e:Expr}{me:ME}(he:JE X e me):JI X tg e (iVal me):=by
 intro pins s σ H R I ⟨as,ρ,st,en,rp,h⟩
 refine thn (he pins s σ H (fun x H1=>(∃a,x=.ref a/\(∃xs,SqL X.K H1 a xs)/\R (Itl X.K a) H1)\/(∃a,x=.ref a/\(∃xs,SqT X.K H1 a xs)/\R (Itt X.K a) H1)\/∃z t,x=.str z t/\R (Its z) H1) I
  ⟨as,ρ,st,en,rp,PostI.bindE h fun p st1 as1 H1 v x rp1 d h1=>?_⟩) fun v s1 ⟨x,H1,I1,r1,q1⟩=>Ykg pins s1 σ H1 x v R I1 r1 q1
 cases d with
 |str=>exact .inr (.inr ⟨_,_,rfl,h1 as1 H1 _ Ext.refl rp1 Yip⟩)
 |tup e r=>exact .inr (.inl ⟨_,rfl,⟨_,e⟩,h1 as1 H1 _ Ext.refl rp1 (YgI e r)⟩)
 |ref e=>
  rename_i k a
  have h2:PostI X as1 H1 ρ (match (match st1[k]? with|some (.lst xs)=>some (srcK k xs.length)|some (.ro xs)=>some (srcK k xs.length)|_=>none) with|some s=>.ok s st1|none=>.bad) R:=h1
  cases q:st1[k]? with
  |none=>rw[q]at h2;exact h2.elim
  |some o=>
   rw[q]at h2
   have ob:=rp1.ob k a o e q
   cases o with
   |lst ys=>obtain⟨vs,g1,g2⟩:=ob;exact .inl ⟨a,rfl,⟨vs,.of g1⟩,h2 as1 H1 _ Ext.refl rp1 (YbY e)⟩
   |ro ys=>obtain⟨vs,g1,g2⟩:=ob;exact .inl ⟨a,rfl,⟨vs,WS g1⟩,h2 as1 H1 _ Ext.refl rp1 (YbY e)⟩
   |dct ys=>exact h2.elim
   |exc c ys=>exact h2.elim
   |ddk kvs=>exact h2.elim
   |fdc kvs=>exact h2.elim
   |fdd kvs=>exact h2.elim
   |fn n=>exact h2.elim
 |_=>exact h1.elim
def srcR(lo:Int)(n:Nat):Src:=⟨n,fun i _=>some (if i<n then some (.int (lo+i)) else none)⟩
theorem Yek{K:PySem.W.Frag}{as:List Addr}{H:Hp}{lo:Int}{n:Nat}:ItOk K as H (srcR lo n) (Itr lo n) where
 go:=fun i as2 st2 H2 p x rp e=>by
  have e':some (if i<n then some (P.int (lo+i)) else none)=some (some p):=e
  by_cases hi:i<n
  ·rw[if_pos hi]at e'
   cases Option.some.inj (Option.some.inj e')
   exact⟨hi,fun y H3 ⟨z1,z2⟩=>by subst z1;subst z2;exact⟨Ext.refl,rp,.int⟩⟩
  ·rw[if_neg hi]at e';cases Option.some.inj e'
 stop:=fun i as2 st2 H2 x rp e=>by
  have e':some (if i<n then some (P.int (lo+i)) else none)=some none:=e
  by_cases hi:i<n
  ·rw[if_pos hi]at e';cases Option.some.inj e'
  ·exact Nat.le_of_not_lt hi
def small62(i:Int):Bool:=decide (-(2 ^ 62)<=i) && decide (i<2 ^ 62)
theorem J7{i:Int}(h:small62 i=true): -(2 ^ 62)<=i/\i<2 ^ 62:=⟨of_decide_eq_true (Bool.and_eq_true_iff.mp h).1,of_decide_eq_true (Bool.and_eq_true_iff.mp h).2⟩
def iRange(mr:MA):MI:=fun ρ st=>(mr ρ st).bind fun ps st1=>match ps with
 | [.int j]=>if small62 j=true then .ok (srcR 0 j.toNat) st1 else .bad
 | [.int i,.int j]=>if small62 i=true/\small62 j=true then .ok (srcR i (j - i).toNat) st1 else .bad
 |_=>.bad
theorem Wf{a:Expr}{mr:MA}{p pos:Pos}(hg:Gl X "range") (hm:X.mg "range"=none) (ha:JA X [a] mr) (hl:∀ρ st ps st',mr ρ st=.ok ps st'->ps.length=1) (hs:starEach [a] X.env=[(false,eval a X.env)]:=by rfl):JI X tg (.Call (.Name "range" p) [a] [] pos) (iRange mr):=by
 intro pins s σ H R I ⟨as,ρ,st,en,rp,h⟩
 refine Yf1 (tg:=tg) hg hm ha hs pins s σ H R I ⟨as,ρ,st,en,rp,?_⟩
 unfold iRange at h
 cases q:mr ρ st with
 |bad=>rw[q]at h;exact h
 |exc k st'=>rw[q]at h;exact h
 |ok ps st1=>
  rw[q]at h
  have hl:=hl ρ st ps st1 q
  intro as1 H1 vs x rp1 d
  have h1:=PostI.ext x h
  cases d with
  |nil=>cases hl
  |cons d1 d2=>
   cases d2 with
   |cons d3 d4=>cases hl
   |nil=>
    cases d1 with
    |int=>
     rename_i j
     have h2:PostI X as1 H1 ρ (if small62 j=true then .ok (srcR 0 j.toNat) st1 else .bad) R:=h1
     by_cases hj:small62 j=true
     ·rw[if_pos hj]at h2
      exact⟨j,rfl,(J7 hj).1,(J7 hj).2,h2 as1 H1 _ Ext.refl rp1 Yek⟩
     ·rw[if_neg hj]at h2;exact h2.elim
    |_=>exact h1.elim
theorem Wo{me:ME}{mr:MA}{n:Nat}(h:∀ρ st ps st',mr ρ st=.ok ps st'->ps.length=n):∀ρ st ps st',aCons me mr ρ st=.ok ps st'->ps.length=n+1:=by
 intro ρ st ps st' e
 unfold aCons at e
 cases q:me ρ st with
 |bad=>rw[q]at e;cases e
 |exc k s=>rw[q]at e;cases e
 |ok p s1=>
  rw[q,R.bind_ok]at e
  cases q2:mr ρ s1 with
  |bad=>rw[q2]at e;cases e
  |exc k s=>rw[q2]at e;cases e
  |ok qs s2=>
   rw[q2,R.bind_ok]at e
   cases e
   rw[List.length_cons,h _ _ _ _ q2]
theorem W3:∀ρ st ps st',aNil ρ st=.ok ps st'->ps.length=0:=by
 intro ρ st ps st' e
 cases e
 rfl
end
def clFrom(cells:List (Str×Addr)):List (Str×NameKind)->List (Str×Addr)->List (Str×Addr)
 | [],acc=>acc
 |(n,k)::r,acc=>if (k == NameKind.free)=true then match cells.lookup n with
  |some c=>clFrom cells r ((n,c)::acc)
  |none=>clFrom cells r acc
  else clFrom cells r acc
theorem Ybv{scope:Scope}{env:Env}(h:∀x∈scope.names,x.2=.free->∃c,env.cells.lookup x.1=some c):closureFor scope env=pure (clFrom env.cells scope.names []):=by
 unfold closureFor
 have key:∀(names:List (Str×NameKind))(acc:List (Str×Addr)),(∀x∈names,x.2=.free->∃c,env.cells.lookup x.1=some c)->
  (forIn names acc fun x r=>match x with|(name,kind)=>(if (kind == NameKind.free)=true then do let y <-cellOf env name;pure (ForInStep.yield ((name,y)::r)) else pure (ForInStep.yield r):Sem (ForInStep (List (Str×Addr)))))=(pure (clFrom env.cells names acc):Sem _):=by
  intro names
  induction names with
  |nil=>intro acc _;rfl
  |cons x r ih=>
   intro acc hx
   obtain⟨n,k⟩:=x
   rw[List.forIn_cons]
   have hr:=fun y hy=>hx y (List.mem_cons_of_mem _ hy)
   by_cases hk:(k == NameKind.free)=true
   ·obtain⟨c,hc⟩:=hx (n,k) List.mem_cons_self (by simpa using hk)
    simp only[hk,if_true,clFrom]
    have hc':env.cells.lookup n=some c:=hc
    have e:cellOf env n=pure c:=by unfold cellOf;rw[hc']
    rw[e,hc']
    exact ih _ hr
   ·simp only[hk,clFrom]
    exact ih _ hr
 exact Eq.trans (congrArg (fun m=>m >>= fun cs=>pure cs) (key scope.names [] h)) rfl
theorem ZE{cells:List (Str×Addr)}{x:Str}{c:Addr}:∀{names:List (Str×NameKind)}{acc:List (Str×Addr)},(clFrom cells names acc).lookup x=some c->acc.lookup x=some c\/cells.lookup x=some c
 | [],acc,h=>.inl h
 |(n,k)::r,acc,h=>by
  unfold clFrom at h
  split at h
  ·split at h
   ·rename_i c' hc
    rcases ZE h with z|z
    ·rw[List.lookup_cons]at z
     cases hx:x == n with
     |true=>
      rw[hx]at z
      have:=eq_of_beq hx
      subst this
      exact .inr (by rw[hc];exact z)
     |false=>rw[hx]at z;exact .inl z
    ·exact .inr z
   ·exact ZE h
  ·exact ZE h
theorem WC{cells:List (Str×Addr)}{x:Str}:∀{names:List (Str×NameKind)}{acc:List (Str×Addr)},(∃c,acc.lookup x=some c)->∃c,(clFrom cells names acc).lookup x=some c
 | [],acc,h=>h
 |(n,k)::r,acc,h=>by
  unfold clFrom
  split
  ·split
   ·refine WC ?_
    rw[List.lookup_cons]
    cases hx:x == n with
    |true=>exact⟨_,rfl⟩
    |false=>exact h
   ·exact WC h
  ·exact WC h
theorem ZY{cells:List (Str×Addr)}{x:Str}{c:Addr}(hc:cells.lookup x=some c):∀{names:List (Str×NameKind)}{acc:List (Str×Addr)},(x,NameKind.free)∈names->∃c,(clFrom cells names acc).lookup x=some c
 | [],acc,h=>by cases h
 |(n,k)::r,acc,h=>by
  unfold clFrom
  rcases List.mem_cons.mp h with e|e
  ·cases e
   simp only[beq_self_eq_true,if_true,hc]
   exact WC ⟨c,by simp[List.lookup_cons]⟩
  ·split
   ·split
    ·exact ZY hc e
    ·exact ZY hc e
   ·exact ZY hc e
theorem Z1{scope:Scope}{env:Env}{x:Str}{k:NameKind}(h:(relabel scope env).names.lookup x=some k):scope.names.lookup x=some k\/(k=.cell/\scope.names.lookup x=some .free):=by
 unfold relabel at h
 simp only at h
 generalize scope.names=names at h ⊢
 induction names with
 |nil=>cases h
 |cons y r ih=>
  obtain⟨n,j⟩:=y
  rw[List.map_cons]at h
  rw[List.lookup_cons]
  cases hx:x == n with
  |true=>
   simp only
   split at h
   ·rename_i hc
    rw[List.lookup_cons,hx]at h
    simp only[Bool.and_eq_true,beq_iff_eq]at hc
    rw[hc.1.1]
    exact .inr ⟨(Option.some.inj h).symm,rfl⟩
   ·rw[List.lookup_cons,hx]at h
    exact .inl h
  |false=>
   simp only
   split at h
   ·rw[List.lookup_cons,hx]at h;exact ih h
   ·rw[List.lookup_cons,hx]at h;exact ih h
theorem Ygr{prog:Program}{w:World}{A:Around}{R:Result->Shared->Prop}{s:Shared}{elt target iter:Expr}{ifs:List Expr}{scope:Scope}{pos:Pos}{it acc:Value}{env:Env}(I:Nat->Shared->Prop)
 (turn:∀n s,I n s->wpAny (model prog w) A (pyNext it) (fun r s₁=>match r with
  |none=>R (.ok .next) s₁
  |some v=>wpAny (model prog w) A (letOwnedTupleGo target it v) (fun _ s₁'=>wpAny (model prog w) A (assign target env v) (fun _ s₂=>
   wpAny (model prog w) A (forIn ifs true fun c r=>if r=true then do let ok <-isTrue c env (eval c env);pure (ForInStep.yield ok) else pure (ForInStep.yield r)) (fun ok s₃=>
    if ok=true then wpAny (model prog w) A (eval elt env) (fun x s₄=>
     wpAny (model prog w) A (call (.builtin "list.append") [acc,x]) (fun _ s₅=>∃m,m<n/\I m s₅) (notedBy (model prog w) A env fun e s'=>R (.error e) s') s₄) (notedBy (model prog w) A env fun e s'=>R (.error e) s') s₃
    else ∃m,m<n/\I m s₃) (notedBy (model prog w) A env fun e s'=>R (.error e) s') s₂) (notedBy (model prog w) A env fun e s'=>R (.error e) s') s₁') (notedBy (model prog w) A env fun e s'=>R (.error e) s') s₁) (notedBy (model prog w) A env fun e s'=>R (.error e) s') s)
 (n:Nat) (h:I n s):
 codeAny (model prog w) A (.compLoop (.ListComp elt [⟨target,iter,ifs,0⟩] scope pos) 0 it acc env) R s:=by
 refine codeAny_loop rfl I (fun n s hI=>?_) n h
 show wpAny _ A ((compTurn (.ListComp elt [⟨target,iter,ifs,0⟩] scope pos) 0 it acc env).onRaise (fun x=>do noteFrame x env;theTreesLotGoes x)) _ _ s
 refine wpAny_noted ?_
 rw[compTurn_list]
 refine wpAny_bind (wpAny_standAt (wpAny_bind (wpAny_mono (turn n s hI) (fun r s₁ h₁=>?_) fun _ _ h'=>h')))
 cases r with
 |none=>exact wpAny_pure h₁
 |some v=>
  refine wpAny_bind (wpAny_mono h₁ (fun _ s₁' h₁'=>?_) fun _ _ h'=>h')
  refine wpAny_bind (wpAny_mono h₁' (fun _ s₂ h₂=>wpAny_bind (wpAny_mono h₂ (fun ok s₃ h₃=>?_) fun _ _ h'=>h')) fun _ _ h'=>h')
  cases ok with
  |false=>exact wpAny_pure ⟨rfl,h₃⟩
  |true=>
   exact wpAny_bind (wpAny_bind (wpAny_mono h₃ (fun x s₄ h₄=>wpAny_bind (wpAny_mono h₄ (fun _ s₅ h₅=>wpAny_pure (wpAny_pure ⟨rfl,h₅⟩)) fun _ _ h'=>h')) fun _ _ h'=>h'))
def cxComp(X:Cx)(scope:Scope)(N:List Str)(C:Addr)(s₀:Shared)(H₀:Hp)(ex:List Addr):Cx where
 prog:=X.prog
 w:=X.w
 K:=X.K
 mg:=X.mg
 base:=X.base
 A:=X.A
 N:=N
 s₀:=s₀
 H₀:=H₀
 env:=compEnvC scope (clFrom X.env.cells scope.names []) C X.env
 outer:=X.stack
 stack:=X.stack
 ex:=ex
 fn:=fun _=>false
 calm:=X.calm
 pn:=[]
 xe:=fun _ _=>False
structure CompOk(X:Cx)(scope:Scope)(TN FN:List Str)(fr:List Nat):Prop where
 cell:∀y∈scope.names,y.2≠.cell
 kind:scope.kind=.function
 names:∀y∈scope.names,y.2=.local->scope.names.lookup y.1=some .local
 free:∀y∈scope.names,y.2=.free->X.env.kindOf y.1=some .cell\/X.env.kindOf y.1=some .free
 lk:∀y,scope.names.lookup y=some .free->(y,NameKind.free)∈scope.names
 flen:FN.length=fr.length
 at_:∀(j:Nat) x k,FN[j]?=some x->fr[j]?=some k->X.N[k]?=some x/\scope.names.lookup x=some .free
def rho0(n:Nat)(fr:List Nat)(ρ:Rho):Rho:=List.replicate n none++fr.map fun k=>(ρ[k]?).join
section
variable{X:Cx}{scope:Scope}{TN FN:List Str}{fr:List Nat}{pins:List (Addr×Obj)}{σ:St}{H:Hp}{s₂ s₄:Shared}{fp:List Addr}{C:Addr}
theorem CompOk.has(c:CompOk X scope TN FN fr)(ok:X.Ok):∀x∈scope.names,x.2=.free->∃c,X.env.cells.lookup x.1=some c:=fun x hx e=>ok.has x.1 (c.free x hx e)
theorem CompOk.cl(c:CompOk X scope TN FN fr){x:Str}{a:Addr}(h:(clFrom X.env.cells scope.names []).lookup x=some a):X.env.cells.lookup x=some a:=by
 rcases ZE h with z|z
 ·cases z
 ·exact z
theorem CompOk.freeOf(c:CompOk X scope TN FN fr){x:Str}(h:(relabel scope X.env).names.lookup x=some .cell\/(relabel scope X.env).names.lookup x=some .free):scope.names.lookup x=some .free:=by
 have nc:scope.names.lookup x≠some .cell:=fun z=>c.cell _ (PySem.mem_of_lookup z) rfl
 rcases h with h|h
 ·rcases Z1 h with z|⟨_,z⟩
  ·exact absurd z nc
  ·exact z
 ·rcases Z1 h with z|⟨z,_⟩
  ·exact z
  ·cases z
theorem YlK(c:CompOk X scope TN FN fr)(I:Inv X pins σ H s₂)(hf:∀b∈fp,FpOk X pins H b)(hfo:∀b∈fp,∃o,s₂.heap.get? b=some o)(hC:s₂.heap.objs.size<=C):(cxComp X scope (TN++FN) C s₂ H fp).Ok where
 mod:=I.ok.mod
 kind:=c.kind
 glob:=I.ok.glob
 blt:=I.ok.blt
 above:=hC
 inj:=fun x y a h1 h2=>I.ok.inj x y a (c.cl h1) (c.cl h2)
 has:=fun x h=>by
  have hx:=c.freeOf h
  obtain⟨a,ha⟩:=c.has I.ok _ (c.lk x hx) rfl
  exact ZY ha (c.lk x hx)
 cab:=fun x a h=>by cases h
 hd:=I.ok.hd
 frames:=I.ok.frames
 stk:=.inl rfl
 exf:=fun b hb=>by
  obtain⟨f0,f1,f2,f3,f4,f5⟩:=hf b hb
  obtain⟨o,ho⟩:=hfo b hb
  exact⟨Nat.ne_of_lt (Nat.lt_of_lt_of_le (Heap.lt_size ho) hC),fun x a h=>f4 x a (c.cl h)⟩
 bs:=I.bs
 bsz:=Nat.le_trans I.ok.bsz I.sz
 noex:=fun b o e hb=>by
  obtain⟨f0,f1,f2,f3,f4,f5⟩:=hf b hb
  rcases f3 with z|z
  ·exact I.ok.noex b o e z
  ·exact absurd (Nat.lt_of_lt_of_le (Heap.lt_size e) (Nat.le_trans I.ok.bsz z)) (Nat.lt_irrefl _)
 exfs:=fun b hb hz=>by
  obtain⟨f0,f1,f2,f3,f4,f5⟩:=hf b hb
  rcases List.mem_cons.mp (I.stkSub b hz) with e|e
  ·exact f1 e
  ·exact f2 e
 funs:=I.stack
 frf:=I.stkFree
theorem getElem?_rho0{n:Nat}{ρ:Rho}{i:Nat}{p:P}(h:(rho0 n fr ρ)[i]?=some (some p)):∃j k,i=n+j/\fr[j]?=some k/\ρ[k]?=some (some p):=by
 unfold rho0 at h
 by_cases hi:i<n
 ·rw[List.getElem?_append_left (by simpa using hi),List.getElem?_replicate,if_pos hi]at h
  cases h
 ·rw[List.getElem?_append_right (by simpa using hi),List.length_replicate,List.getElem?_map]at h
  refine⟨i - n,?_⟩
  cases q:fr[i - n]? with
  |none=>rw[q]at h;cases h
  |some k=>
   rw[q]at h
   refine⟨k,by omega,rfl,?_⟩
   have h':(ρ[k]?).join=some p:=Option.some.inj h
   cases w:ρ[k]? with
   |none=>rw[w]at h';cases h'
   |some o=>rw[w]at h';rw[show o=some p from h']
def sig0(n:Nat)(fr:List Nat)(σ:St):St:=List.replicate n none++fr.map fun k=>(σ[k]?).join
theorem Yhi{n:Nat}:(sig0 n fr σ).length=n+fr.length:=by simp[sig0]
theorem getElem?_sig0{n:Nat}{i:Nat}{v:V}(h:(sig0 n fr σ)[i]?=some (some v)):∃j k,i=n+j/\fr[j]?=some k/\σ[k]?=some (some v):=by
 unfold sig0 at h
 by_cases hi:i<n
 ·rw[List.getElem?_append_left (by simpa using hi),List.getElem?_replicate,if_pos hi]at h
  cases h
 ·rw[List.getElem?_append_right (by simpa using hi),List.length_replicate,List.getElem?_map]at h
  refine⟨i - n,?_⟩
  cases q:fr[i - n]? with
  |none=>rw[q]at h;cases h
  |some k=>
   rw[q]at h
   refine⟨k,by omega,rfl,?_⟩
   have h':(σ[k]?).join=some v:=Option.some.inj h
   cases w:σ[k]? with
   |none=>rw[w]at h';cases h'
   |some o=>rw[w]at h';rw[show o=some v from h']
theorem env0{K:PySem.W.Frag}{as:List Addr}{ρ:Rho}{n:Nat}(en:EnvOk K as H ρ σ):EnvOk K as H (rho0 n fr ρ) (sig0 n fr σ):=
 ⟨by simp[rho0,sig0],fun i p e=>by
  obtain⟨j,k,e1,e2,e3⟩:=getElem?_rho0 e
  obtain⟨v,h1,h2⟩:=en.val k p e3
  refine⟨v,?_,h2⟩
  subst e1
  unfold sig0
  rw[List.getElem?_append_right (by simp),List.length_replicate,List.getElem?_map]
  have:n+j - n=j:=by omega
  rw[this,e2]
  simp[h1]⟩
theorem YgU(c:CompOk X scope TN FN fr)(I:Inv X pins σ H s₂)(hf:∀b∈fp,FpOk X pins H b)(hfo:∀b∈fp,∃o,s₂.heap.get? b=some o)(hC:s₂.heap.objs.size<=C){h':Heap}{tk:Nat}
 (hk:∀b o,s₂.heap.get? b=some o->h'.get? b=some o) (hn:h'.Ns C fun _=>none) (htk:s₂.toks<=tk):Inv (cxComp X scope (TN++FN) C s₂ H fp) [] (sig0 TN.length fr σ) H { s₂ with heap:=h',toks:=tk } where
 tk:=I.tk.mono htk
 ok:=YlK c I hf hfo hC
 os:=rfl
 bare:=I.bare
 base:=Un.kept hk
 loc:=⟨_,hn,fun i x v h1 h2 h3=>by
  obtain⟨j,k,e1,e2,e3⟩:=getElem?_sig0 h2
  have h1':(TN++FN)[i]?=some x:=h1
  subst e1
  rw[List.getElem?_append_right (by omega)]at h1'
  have:TN.length+j - TN.length=j:=by omega
  rw[this]at h1'
  obtain⟨g1,g2⟩:=c.at_ j x k h1' e2
  obtain⟨m,_,hl⟩:=I.loc
  have hcf:=c.free _ (c.lk x g2) rfl
  have vis:Vis X.env.scope x:=.inr hcf
  obtain⟨u,r,q⟩:=hl k x v g1 e3 vis
  refine⟨u,r,.inr ?_⟩
  rcases q with⟨q1,_⟩|⟨_,a,q2,q3⟩
  ·rcases hcf with z|z
   ·have:X.env.kindOf x=some .cell:=z
    rw[q1]at this;cases this
   ·have:X.env.kindOf x=some .free:=z
    rw[q1]at this;cases this
  ·refine⟨?_,a,?_,?_⟩
   ·rcases h3 with z|z|z
    ·have w:(relabel scope X.env).names.lookup x=some .local:=z
     rcases Z1 w with w|⟨w,_⟩
     ·rw[g2]at w;cases w
     ·cases w
    ·exact .inl z
    ·exact .inr z
   ·obtain⟨a',ha'⟩:=ZY (cells:=X.env.cells) q2 (acc:=[]) (c.lk x g2)
    have:=c.cl ha'
    rw[q2]at this;cases this
    exact ha'
   ·obtain⟨o,ho,hd⟩:=q3
    exact⟨o,hk a o ho,hd⟩⟩
 cell:=fun x a h=>by
  obtain⟨v,o,ho,hd⟩:=I.cell x a (c.cl h)
  exact⟨v,o,hk a o ho,hd⟩
 free:=I.hok.fresh hC
 freeC:=fun x a h=>I.freeC x a (c.cl h)
 pin:=fun p hp=>absurd (show p∈([]:List (Addr×Obj)) from hp) (by simp)
 hok:=I.hok.kept hk
 len:=by
  rw[Yhi]
  show _=(TN++FN).length
  rw[List.length_append,c.flen]
theorem Inv.track{s:Shared}{D:Addr}{vs:List V}{its:List Value}{n:Nat}(I:Inv X pins σ H s)(hD:s.heap.get? D=some { cls:=.type "list",data:=.seq its.toArray n }) (hn:H D=none) (rv:Vals vs its) (hz:vs.length<=sizeLine)
 (h1:X.s₀.heap.objs.size<=D) (h2:D≠X.env.locals) (h3:∀x c,X.env.cells.lookup x=some c->c≠D) (h4:∀p∈X.pn++pins,p.1≠D):Inv X pins σ (upd H D (.lst vs)) s:=by
 have q:=I.step (H':=upd H D (.lst vs)) (h':=s.heap) (g':=s.gens) (t':=s.toks) (d':=s.drawn) (ch:=[D]) (fun b hb=>by
  have e:b=D:=by simpa using hb
  subst e
  exact⟨.inr h1,h2,h3,h4⟩) (fun b o _ _ _ e _=>e) (fun b o _ _ _ e _=>⟨o.slots,e⟩) (fun b o hb e n=>by rw[Yt (by simpa using hb)];exact n) (fun b o _ e=>⟨o,e⟩)
  (fun b xs e=>by rw[Yt (Yv e hn)];exact e) (fun b o u e=>by rw[Yt (Yv e hn)];exact e) (fun b ps e=>⟨#[],by rw[Yt (Yv e hn),e];simp⟩) (fun m h=>h) (fun b u e=>?_) I.bare
 ·exact q I.tk
 ·by_cases hb:b=D
  ·subst hb
   rw[Yq]at e
   cases e
   exact⟨hz,its,n,rv,hD⟩
  ·rw[Yt hb]at e
   exact (I.hok b u e).stay (fun c v _ q=>q) (fun c q=>by rw[Yt (Yv q hn)];exact q) fun c xs q=>by rw[Yt (Yv q hn)];exact q
end
def compN(src:Src)(g:MG)(nt:MT)(me:ME)(ρ0:Rho):Nat->Nat->Stor->List P->R (List P)
 | 0,i,st,acc=>match src.nx i st with
  |some none=>.ok acc st
  |_=>.bad
 |n+1,i,st,acc=>match src.nx i st with
  |some none=>.ok acc st
  |none=>.bad
  |some (some p)=>match g p ρ0 st with
   |none=>.bad
   |some ρ1=>match nt ρ1 st with
    | .ok false st1=>compN src g nt me ρ0 n (i+1) st1 acc
    | .ok true st1=>match me ρ1 st1 with
     | .ok q st2=>if acc.length<cap then compN src g nt me ρ0 n (i+1) st2 (acc++[q]) else .bad
     |_=>.bad
    |_=>.bad
def lComp(mi:MI)(n:Nat)(fr:List Nat)(g:MG)(nt:MT)(me:ME):MA:=fun ρ st=>(mi ρ st).bind fun src st1=>compN src g nt me (rho0 n fr ρ) src.n 0 st1 []
def PTs(X:Cx)(ifs:List Expr)(t:TT):Prop:=
 ∀(pins:List (Addr×Obj))(s:Shared)(σ:St)(H:Hp)(Q:Bool->Hp->Prop),Inv X pins σ H s->t σ H Q->
  wpAny (model X.prog X.w) X.A (forIn ifs true fun c r=>if r=true then do let ok <-isTrue c X.env (eval c X.env);pure (ForInStep.yield ok) else pure (ForInStep.yield r)) (TP X pins σ Q) X.xe s
abbrev JTs(X:Cx)(ifs:List Expr)(nt:MT):Prop:=PTs X ifs (tT X nt)
def nTrue:MT:=fun _ st=>.ok true st
theorem YY{X:Cx}:JTs X [] nTrue:=fun pins s σ H Q I ⟨as,ρ,st,en,rp,h⟩=>wpAny_tests_nil ⟨H,I,h as H Ext.refl rp⟩
theorem ZO{X:Cx}{c:Expr}{nt:MT}(h:JT X c nt):JTs X [c] nt:=fun pins s σ H Q I t=>wpAny_tests_one (h pins s σ H Q I t)
def GOnly(n:Nat)(g:MG):Prop:=∀p ρ st ρ1,g p ρ st=some ρ1->ρ1.length=ρ.length/\∀i:Nat,n<=i->ρ1[i]?=ρ[i]?
def GsOnly(n:Nat)(g:MGs):Prop:=∀p ρ st ρ1,g p ρ st=some ρ1->ρ1.length=ρ.length/\∀i:Nat,n<=i->ρ1[i]?=ρ[i]?
theorem Yi{n i:Nat}(h:i<n):GOnly n (mgName i):=fun p ρ st ρ1 e=>by
 cases e
 exact⟨by simp,fun j hj=>by rw[List.getElem?_set_ne (by omega)]⟩
theorem Z4{n:Nat}:GsOnly n mgNil:=fun p ρ st ρ1 e=>by
 cases p with
 |nil=>cases e;exact⟨rfl,fun _ _=>rfl⟩
 |cons a b=>cases e
theorem YE{n:Nat}{g:MG}{r:MGs}(h1:GOnly n g)(h2:GsOnly n r):GsOnly n (mgCons g r):=fun p ρ st ρ1 e=>by
 cases p with
 |nil=>cases e
 |cons a b=>
  have e':(g a ρ st).bind (fun ρ1=>r b ρ1 st)=some ρ1:=e
  cases z:g a ρ st with
  |none=>rw[z]at e';cases e'
  |some ρ2=>
   rw[z]at e'
   obtain⟨a1,a2⟩:=h1 _ _ _ _ z
   obtain⟨b1,b2⟩:=h2 _ _ _ _ (show r b ρ2 st=some ρ1 from e')
   exact⟨b1.trans a1,fun i hi=>(b2 i hi).trans (a2 i hi)⟩
section
variable{X:Cx}
theorem EnvOk.back{K:PySem.W.Frag}{as:List Addr}{H:Hp}{n:Nat}{fr:List Nat}{ρ ρ1:Rho}{σ:St}(e:EnvOk K as H ρ1 σ)(hl:ρ1.length=(rho0 n fr ρ).length)(hk:∀i:Nat,n<=i->ρ1[i]?=(rho0 n fr ρ)[i]?):EnvOk K as H (rho0 n fr ρ) σ:=
 ⟨by rw[<-hl];exact e.len,fun i p q=>by
  obtain⟨j,k,e1,_,_⟩:=getElem?_rho0 q
  exact e.val i p (by rw[hk i (by omega)];exact q)⟩
set_option maxHeartbeats 4000000 in
theorem Ybz{elt tg iter:Expr}{ifs:List Expr}{scope:Scope}{pos pos0:Pos}{TN FN:List Str}{fr:List Nat}{mi:MI}{g:MG}{nt:MT}{me:ME}{use:Option (Value->Sem Unit)}{Q0:Value->Shared->Prop}{pins:List (Addr×Obj)}{s:Shared}{σ:St}{H:Hp}{Q:VK}
 (hc:X.calm=true) (c:CompOk X scope TN FN fr) (hi:JI X tg iter mi) (hgo:GOnly TN.length g)
 (hb:∀C s₀ H₀ ex,JG (cxComp X scope (TN++FN) C s₀ H₀ ex) tg g/\JTs (cxComp X scope (TN++FN) C s₀ H₀ ex) ifs nt/\JE (cxComp X scope (TN++FN) C s₀ H₀ ex) elt me)
 (hs:∀x,foldedSetIterable iter X.env x=pure x) (I:Inv X pins σ H s) (ht:tL X (lComp mi TN.length fr g nt me) σ H Q)
 (hend:∀(s4:Shared)(C D:Addr)(H':Hp),(∃m,s4.heap.Ns C m)->H' C=none->FpOk X pins H' C->(∀h',Heap.SameBut C s4.heap h'->Inv X pins σ H' { s4 with heap:=h' })->Q (.ref D) H'->compPost (model X.prog X.w) X.A X.xe use Q0 (.ref D) C (.ok .next) s4):
 wpAny (model X.prog X.w) X.A (comprehension (.ListComp elt [⟨tg,iter,ifs,0⟩] scope pos) scope X.env pos0 (newList []) false (eval iter X.env) use) Q0 X.xe s:=by
 obtain⟨as,ρ,st,en,rp,h⟩:=ht
 refine wpAny_comprehension_free (use:=use) rfl hs (Ybv (c.has I.ok)) c.kind c.names ?_
 refine thn (hi pins s σ H (fun J H1=>∃as1 src st1,Ext as H as1 H1/\Rep X.K as1 st1 H1/\ItOk X.K as1 H1 src J/\PostL X as1 H1 ρ (compN src g nt me (rho0 TN.length fr ρ) src.n 0 st1 []) Q) I ⟨as,ρ,st,en,rp,?_⟩) fun v s1 h1=>thn h1 fun itv s2 h2=>?_
 ·unfold lComp at h
  cases q:mi ρ st with
  |bad=>rw[q]at h;exact h
  |exc k st'=>rw[q]at h;exact h
  |ok src st1=>
   rw[q]at h
   exact fun as1 H1 J x rp1 ok=>⟨as1,src,st1,x,rp1,ok,PostL.ext x h⟩
 obtain⟨it,fp,tn,J,H2,rfl,I2,T,st2,f2,as1,src,st1,x1,rp1,ok,hp⟩:=h2
 have hfo:∀b∈fp,∃o,s2.heap.get? b=some o:=fun b hb=>let ⟨o,e,_⟩:=T.obj 0 _ st2 b hb;⟨o,e⟩
 have hfl:∀b∈fp,b<s2.heap.objs.size:=fun b hb=>let ⟨o,e⟩:=hfo b hb;Heap.lt_size e
 refine wpAny_newObj_type (wpAny_newFunctionEnv c.cell (by intro y hy;simp at hy) (fun h₁ hns hsb=>?_) c.kind)
 dsimp only at hns hsb ⊢
 generalize hH2:s2.heap.push { cls:=.type "list",dict:=none,data:=.seq ([]:List Value).toArray }=G at hns hsb ⊢
 have hGC:G.objs.size=s2.heap.objs.size+1:=by rw[<-hH2,Heap.size_push]
 have hDC:s2.heap.objs.size≠G.objs.size:=by omega
 have hC:s2.heap.objs.size<=G.objs.size:=by omega
 have keep:∀b o,s2.heap.get? b=some o->h₁.get? b=some o:=fun b o e=>hsb.extBut b o (Nat.ne_of_lt (Nat.lt_of_lt_of_le (Heap.lt_size e) hC)) (Heap.get?_push_of_some _ (hH2 ▸ Heap.get?_push_of_some _ e))
 have hD0:h₁.get? s2.heap.objs.size=some { cls:=.type "list",data:=.seq ([]:List Value).toArray 0 }:=hsb.extBut _ _ hDC (Heap.get?_push_of_some _ (hH2 ▸ Heap.get?_push_size _ rfl))
 have hns':h₁.Ns G.objs.size fun _=>none:=by simpa using hns
 obtain⟨bg,bt,be⟩:=hb G.objs.size s2 H2 fp
 have HD0:H2 s2.heap.objs.size=none:=I2.hok.fresh (Nat.le_refl _)
 have loop:∀s₃:Shared,s₃={ s2 with heap:=h₁,toks:=s2.toks+([]:List (Str×Value)).length }->
  codeAny (model X.prog X.w) X.A (.compLoop (.ListComp elt [⟨tg,iter,ifs,0⟩] scope pos) 0 (.ref it) (.ref s2.heap.objs.size) (compEnvC scope (clFrom X.env.cells scope.names []) G.objs.size X.env))
   (compPost (model X.prog X.w) X.A X.xe use Q0 (.ref s2.heap.objs.size) G.objs.size) s₃:=by
  rintro s₃ rfl
  have IY:=YgU (tk:=s2.toks+([]:List (Str×Value)).length) c I2 f2 hfo hC keep hns' (Nat.le_add_right _ _)
  have stat:∀{H':Hp}{pl:List (Addr×Obj)},(∀b∈fp,H' b=none)->(∀p∈pl,∀b∈fp,p.1≠b)->∀b∈fp,FpOk (cxComp X scope (TN++FN) G.objs.size s2 H2 fp) pl H' b:=fun {H' pl} hn hpl b hb=>by
   obtain⟨f0,f1,f2',f3,f4,f5⟩:=f2 b hb
   refine⟨hn b hb,?_,?_,.inl hb,fun y a e=>f4 y a (c.cl e),fun p hp=>hpl p hp b hb⟩
   ·exact Nat.ne_of_lt (Nat.lt_of_lt_of_le (hfl b hb) hC)
   ·intro z
    rcases List.mem_cons.mp (I2.stkSub b z) with e|e
    ·exact f1 e
    ·exact f2' e
  have nDf:s2.heap.objs.size∉frs X.stack:=fun z=>by
   rcases List.mem_cons.mp (I2.stkSub _ z) with e|e
   ·exact absurd (e ▸ I2.lt) (Nat.lt_irrefl _)
   ·exact I2.nofs (Nat.le_refl _) e
  have cellD:∀y a,X.env.cells.lookup y=some a->a≠s2.heap.objs.size:=fun y a e=>by
   obtain⟨v,q⟩:=I2.cell y a e
   exact Nat.ne_of_lt q.lt
  refine Ygr (fun n s'=>∃i as' st' H' σ' acc vs its m,Inv (cxComp X scope (TN++FN) G.objs.size s2 H2 fp) [] σ' H' s'/\EnvOk X.K as' H' (rho0 TN.length fr ρ) σ'/\Ext as1 H2 as' H'/\Rep X.K as' st' H'/\tn i s'.heap/\(∀b∈fp,H' b=none)/\
   s'.heap.get? s2.heap.objs.size=some { cls:=.type "list",data:=.seq its.toArray m }/\H' s2.heap.objs.size=none/\Vals vs its/\Dens X.K as' H' vs acc/\acc.length<=cap/\PostL X as' H' ρ (compN src g nt me (rho0 TN.length fr ρ) n i st' acc) Q) ?_ src.n
   ⟨0,as1,st1,H2,_,[],[],[],0,IY,env0 (EnvOk.ext x1 en),Ext.refl,rp1,T.keep _ _ _ st2 fun b hb o e=>keep b o e,fun b hb=>(f2 b hb).1,hD0,HD0,.nil,.nil,Nat.zero_le _,hp⟩
  rintro n s3 ⟨i,as3,st3,H3,σ3,acc,vs,its,m,I3,en3,x3,rp3,tn3,fr3,hD,nD,rv,dn,hl,h⟩
  have nDloc:s2.heap.objs.size≠(cxComp X scope (TN++FN) G.objs.size s2 H2 fp).env.locals:=hDC
  have IP:Inv (cxComp X scope (TN++FN) G.objs.size s2 H2 fp) [(s2.heap.objs.size,{ cls:=.type "list",data:=.seq its.toArray m })] σ3 H3 s3:=I3.pins_of fun p hp=>by
   have e:p=(s2.heap.objs.size,{ cls:=.type "list",data:=.seq its.toArray m }):=by simpa using hp
   subst e
   exact⟨hD,nD,nDloc,nDf,fun v z=>by cases z⟩
  have hpl:∀p∈[(s2.heap.objs.size,({ cls:=.type "list",data:=.seq its.toArray m }:Obj))],∀b∈fp,p.1≠b:=fun p hp b hb=>by
   have e:p=(s2.heap.objs.size,{ cls:=.type "list",data:=.seq its.toArray m }):=by simpa using hp
   subst e
   exact Nat.ne_of_gt (hfl b hb)
  have done:src.nx i st3=some none->PostL X as3 H3 ρ (.ok acc st3) Q->wpAny (model X.prog X.w) X.A (pyNext (.ref it)) (fun r s₁=>r=none/\compPost (model X.prog X.w) X.A X.xe use Q0 (.ref s2.heap.objs.size) G.objs.size (.ok .next) s₁)
   (notedBy (model X.prog X.w) X.A (compEnvC scope (clFrom X.env.cells scope.names []) G.objs.size X.env) fun e s'=>compPost (model X.prog X.w) X.A X.xe use Q0 (.ref s2.heap.objs.size) G.objs.size (.error e) s') s3:=fun e h=>by
   refine thn (T.done (cxComp X scope (TN++FN) G.objs.size s2 H2 fp) rfl rfl rfl hc i _ s3 σ3 H3 _ IP (stat fr3 hpl) tn3 (ok.stop i as3 st3 H3 x3 rp3 e)) fun r s4 ⟨hr,I4⟩=>⟨hr,?_⟩
   obtain⟨m4,hn4,_⟩:=id I4.loc
   obtain⟨hD4,nD4,_⟩:=I4.pin _ (List.mem_append_right _ List.mem_cons_self)
   have inv:∀h',Heap.SameBut G.objs.size s4.heap h'->Inv X pins σ (upd H3 s2.heap.objs.size (.lst vs)) { s4 with heap:=h' }:=fun h' sb=>by
    have un:Un (frs X.stack) fp H2 H3 s2.heap h':=by
     have u:=I4.base
     have up:∀b o,s2.heap.get? b=some o->b≠G.objs.size:=fun b o e=>Nat.ne_of_lt (Nat.lt_of_lt_of_le (Heap.lt_size e) hC)
     exact⟨fun b o e n hb hx=>(sb.2 b (up b o e)).trans (u.keep b o e n hb hx),fun b o e n hb hx=>let ⟨sl,q⟩:=u.slot b o e n hb hx;⟨sl,(sb.2 b (up b o e)).trans q⟩,u.free,fun b o e hx=>let ⟨o',q⟩:=u.there b o e hx;⟨o',(sb.2 b (up b o e)).trans q⟩,u.tups,u.frzs,u.tbls⟩
    have hok:HOk X.prog X.w H3 h':=fun b u e=>(I4.hok b u e).stay (fun c' v hc' q=>by
     refine (sb.2 c' ?_).trans q
     rintro rfl
     have nC:H3 G.objs.size=none:=I4.free
     rcases hc' with z|z
     ·rw[<-z,nC]at e;cases e
     ·rw[nC]at z;cases z) (fun _ q=>q) fun _ _ q=>q
    have IX:Inv X pins σ H3 { s4 with heap:=h' }:=I2.call' (s':={ s4 with heap:=h' }) (ch:=fp) I4.os un hok I4.bare (fun b hb=>⟨(f2 b hb).2.2.2.1,(f2 b hb).2.1,(f2 b hb).2.2.2.2.1,(f2 b hb).2.2.2.2.2⟩) I4.tk
    have hDh:h'.get? s2.heap.objs.size=some { cls:=.type "list",data:=.seq its.toArray m }:=(sb.2 _ hDC).trans hD4
    have IT:=Inv.track (s:={ s4 with heap:=h' }) IX hDh nD rv (by rw[dn.length];exact Nat.le_trans hl YK) I2.sz (by have:=I2.lt;exact Nat.ne_of_gt this) cellD (fun p hp=>Nat.ne_of_lt (Heap.lt_size (I2.pin p hp).1))
    exact IT
   have nC:(upd H3 s2.heap.objs.size (.lst vs)) G.objs.size=none:=by rw[Yt (Ne.symm hDC)];exact I4.free
   exact hend s4 G.objs.size s2.heap.objs.size _ ⟨m4,hn4⟩ nC (I2.fpOk hC nC) inv (h as3 _ _ vs (Ext.laid nD) (rp3.laid nD) Yq (rp3.fresh nD) (dn.ext (Ext.laid nD)))
  have bad:∀{r:Option Value->Shared->Prop}{E:Value->Shared->Prop},False->wpAny (model X.prog X.w) X.A (pyNext (.ref it)) r E s3:=fun f=>f.elim
  cases e:src.nx i st3 with
  |none=>cases n <;> (simp only[compN,e]at h;exact h.elim)
  |some o=>
   cases o with
   |none=>
    have h':PostL X as3 H3 ρ (.ok acc st3) Q:=by cases n <;> (simp only[compN,e]at h;exact h)
    exact thn (done e h') fun r s4 ⟨hr,q⟩=>by subst hr;exact q
   |some p=>
    cases n with
    |zero=>simp only[compN,e]at h;exact h.elim
    |succ n=>
     obtain⟨g1,g2⟩:=ok.go i as3 st3 H3 p x3 rp3 e
     cases zg:g p (rho0 TN.length fr ρ) st3 with
     |none=>simp only[compN,e,zg]at h;exact h.elim
     |some ρ1=>
      obtain⟨gl,gk⟩:=hgo _ _ _ _ zg
      refine thn (T.item (cxComp X scope (TN++FN) G.objs.size s2 H2 fp) rfl rfl rfl hc i _ s3 σ3 H3 _ IP (stat fr3 hpl) tn3 g1) fun r s4 ⟨u,hr,h4⟩=>?_
      subst hr
      refine thn h4 fun _ s5 ⟨x,H5,I5,r5,y5,st5,fr5⟩=>?_
      obtain⟨x5,rp5,d5⟩:=g2 x H5 y5
      have nD5:H5 s2.heap.objs.size=none:=(I5.pin _ (List.mem_append_right _ List.mem_cons_self)).2.1
      have I5':=I5.pinned (stat fr5 hpl) (T.obj _ _ st5)
      refine wpAny_mono (bg _ s5 σ3 H5 x u (fun σ' H'=>H'=H5/\EnvOk X.K as3 H5 ρ1 σ') I5' r5 ⟨as3,_,st3,p,ρ1,en3.ext x5,rp5,d5,zg,fun σ' en'=>⟨rfl,en'⟩⟩) (fun _ s6 ⟨σ6,H6,I6,e6,en6⟩=>?_) fun _ _ f=>f.elim
      subst e6
      cases zt:nt ρ1 st3 with
      |bad=>simp only[compN,e,zg,zt]at h;exact h.elim
      |exc k st'=>simp only[compN,e,zg,zt]at h;exact h.elim
      |ok k st4=>
       refine wpAny_mono (bt _ s6 σ6 H6 (fun k' H'=>k'=k/\∃as',Ext as3 H6 as' H'/\Rep X.K as' st4 H') I6 ⟨as3,ρ1,st3,en6,rp5,by rw[zt];exact fun as' H' x rp=>⟨rfl,as',x,rp⟩⟩) (fun k' s7 ⟨H7,I7,ek,as7,x7,rp7⟩=>?_) fun _ _ f=>f.elim
       subst ek
       have fin:∀{H8:Hp}{s8:Shared}{as8:List Addr}{st8:Stor}{acc':List P}{vs':List V}{its':List Value}{m':Nat}{s9:Shared},Inv (cxComp X scope (TN++FN) G.objs.size s2 H2 fp) ([]:List (Addr×Obj)) σ6 H8 s9->Ext as7 H7 as8 H8->Rep X.K as8 st8 H8->
        tn (i+1) s9.heap->(∀b∈fp,H8 b=none)->s9.heap.get? s2.heap.objs.size=some { cls:=.type "list",data:=.seq its'.toArray m' }->H8 s2.heap.objs.size=none->Vals vs' its'->Dens X.K as8 H8 vs' acc'->acc'.length<=cap->
        PostL X as8 H8 ρ (compN src g nt me (rho0 TN.length fr ρ) n (i+1) st8 acc') Q->∃m,m<n+1/\∃i as' st' H' σ' acc vs its m_1,Inv (cxComp X scope (TN++FN) G.objs.size s2 H2 fp) [] σ' H' s9/\EnvOk X.K as' H' (rho0 TN.length fr ρ) σ'/\Ext as1 H2 as' H'/\Rep X.K as' st' H'/\tn i s9.heap/\(∀b∈fp,H' b=none)/\
         s9.heap.get? s2.heap.objs.size=some { cls:=.type "list",data:=.seq its.toArray m_1 }/\H' s2.heap.objs.size=none/\Vals vs its/\Dens X.K as' H' vs acc/\acc.length<=cap/\PostL X as' H' ρ (compN src g nt me (rho0 TN.length fr ρ) m i st' acc) Q:=
        fun {H8 s8 as8 st8 acc' vs' its' m' s9} I8 x8 rp8 t8 fr8 hD8 nD8 rv8 dn8 hl8 h8=>⟨n,Nat.lt_succ_self n,i+1,as8,st8,H8,σ6,acc',vs',its',m',I8,EnvOk.ext x8 (EnvOk.ext x7 (en6.back gl gk)),((x3.trans x5).trans x7).trans x8,rp8,t8,fr8,hD8,nD8,rv8,dn8,hl8,h8⟩
       have stay:∀{H8:Hp}{s8:Shared},Inv (cxComp X scope (TN++FN) G.objs.size s2 H2 fp) ([(s2.heap.objs.size,({ cls:=.type "list",data:=.seq its.toArray m }:Obj))]++pinsAt fp s5.heap) σ6 H8 s8->
        tn (i+1) s8.heap/\(∀b∈fp,H8 b=none)/\s8.heap.get? s2.heap.objs.size=some { cls:=.type "list",data:=.seq its.toArray m }/\H8 s2.heap.objs.size=none:=fun {H8 s8} I8=>by
        refine⟨T.keep _ _ _ st5 fun b hb o e=>(I8.pin (b,o) (List.mem_append_right _ (List.mem_append_right _ (Wr hb e)))).1,fun b hb=>?_,?_⟩
        ·obtain⟨o,e,d⟩:=T.obj _ _ st5 b hb
         exact (I8.pin (b,o) (List.mem_append_right _ (List.mem_append_right _ (Wr hb e)))).2.1
        ·have q:=I8.pin (s2.heap.objs.size,{ cls:=.type "list",data:=.seq its.toArray m }) (List.mem_append_right _ (List.mem_append_left _ List.mem_cons_self))
         exact⟨q.1,q.2.1⟩
       have nopins:∀{H8:Hp}{s8:Shared}{pl:List (Addr×Obj)},Inv (cxComp X scope (TN++FN) G.objs.size s2 H2 fp) pl σ6 H8 s8->Inv (cxComp X scope (TN++FN) G.objs.size s2 H2 fp) [] σ6 H8 s8:=fun {H8 s8 pl} I8=>I8.pins_of fun p hp=>by cases hp
       cases k' with
       |false=>
        simp only[compN,e,zg,zt]at h
        rw[if_neg Bool.false_ne_true]
        obtain⟨t7,f7,hD7,nD7⟩:=stay I7
        exact fin (s8:=s7) (nopins I7) Ext.refl rp7 t7 f7 hD7 nD7 rv (dn.ext (x5.trans x7)) hl (PostL.ext (x5.trans x7) h)
       |true=>
        rw[if_pos rfl]
        cases ze:me ρ1 st4 with
        |bad=>simp only[compN,e,zg,zt,ze]at h;exact h.elim
        |exc k st'=>simp only[compN,e,zg,zt,ze]at h;exact h.elim
        |ok q st8=>
         simp only[compN,e,zg,zt,ze]at h
         by_cases hlt:acc.length<cap
         ·rw[if_pos hlt]at h
          refine wpAny_mono (be _ s7 σ6 H7 (fun v' H'=>∃as',Ext as7 H7 as' H'/\Rep X.K as' st8 H'/\Den X.K as' H' v' q) I7 ⟨as7,ρ1,st4,en6.ext x7,rp7,by rw[ze];exact fun as' H' v' x rp d=>⟨as',x,rp,d⟩⟩) (fun w' s8 ⟨y,H8,I8,r8,as8,x8,rp8,d8⟩=>?_) fun _ _ f=>f.elim
          obtain⟨t8,f8,hD8,nD8⟩:=stay I8
          have hll:its.length<=cap:=by rw[<-rv.length,dn.length];exact hl
          refine call_meets F.slot_list_append ⟨_,hD8,rfl⟩ F.entry_list_append (F.args_list_append_2 _ _) (PySem.list_append s2.heap.objs.size its.toArray m w' (by rw[List.size_toArray];exact Nat.le_trans hll YK)) ⟨hD8,?_⟩
          have hD9:=PySem.IsL.update hD8 (fun a=>a.push w')
          rw[show its.toArray.push w'=(its++[w']).toArray by simp]at hD9
          have oth:∀b o,b≠s2.heap.objs.size->s8.heap.get? b=some o->(s8.heap.update s2.heap.objs.size (Obj.mapSeq fun a=>a.push w')).get? b=some o:=fun b o hb e=>(Heap.get?_update_other _ _ (Ne.symm hb)).trans e
          have I9:Inv (cxComp X scope (TN++FN) G.objs.size s2 H2 fp) [] σ6 H8 { s8 with heap:=s8.heap.update s2.heap.objs.size (Obj.mapSeq fun a=>a.push w'),toks:=s8.toks }:=
           Inv.turned (it:=s2.heap.objs.size) (nopins I8) oth nD8 nDloc (.inr (Nat.le_refl _)) (fun y a e=>cellD y a (c.cl e)) fun p hp=>by cases hp
          refine fin (s8:=s8) (its':=its++[w']) I9 x8 rp8 (T.keep _ _ _ t8 fun b hb o e=>oth b o (Nat.ne_of_lt (hfl b hb)) e) f8 hD9 nD8 (rv.append (.cons r8 .nil)) ((dn.ext ((x5.trans x7).trans x8)).append (.cons d8 .nil)) ?_ (PostL.ext ((x5.trans x7).trans x8) h)
          rw[List.length_append,List.length_singleton];exact hlt
         ·rw[if_neg hlt]at h;exact h.elim
 exact codeAny_compStart_list (loop _ rfl) (T.self _ 0 _ _ _ (T.keep _ _ _ st2 fun b hb o e=>keep b o e) (loop _ rfl))
theorem YL{elt tg iter:Expr}{ifs:List Expr}{scope:Scope}{pos:Pos}{TN FN:List Str}{fr:List Nat}{mi:MI}{g:MG}{nt:MT}{me:ME}(hc:X.calm=true)(c:CompOk X scope TN FN fr)(hi:JI X tg iter mi)(hgo:GOnly TN.length g)
 (hb:∀C s₀ H₀ ex,JG (cxComp X scope (TN++FN) C s₀ H₀ ex) tg g/\JTs (cxComp X scope (TN++FN) C s₀ H₀ ex) ifs nt/\JE (cxComp X scope (TN++FN) C s₀ H₀ ex) elt me)
 (hs:∀x,foldedSetIterable iter X.env x=pure x:=by intro _;rfl):JL X (.ListComp elt [⟨tg,iter,ifs,0⟩] scope pos) (lComp mi TN.length fr g nt me):=by
 intro pins s σ H Q I ht
 rw[eval_ListComp]
 exact Ybz hc c hi hgo hb hs I ht fun s4 C D H' ⟨m,hn⟩ _ _ inv q=>⟨m,hn,fun h' sb=>⟨.ref D,H',inv h' sb,rfl,q⟩⟩
def sSetL(i:Nat)(ml:MA):MS:=fun ρ st=>RS.ofE ρ (ml ρ st) fun ps st1=>.nx (ρ.set i (some (.ref st1.length))) (st1++[.lst ps])
theorem ZD{elt tg iter:Expr}{ifs:List Expr}{scope:Scope}{pos pos' cpos:Pos}{TN FN:List Str}{fr:List Nat}{mi:MI}{g:MG}{nt:MT}{me:ME}{i:Nat}{x:Str}(hN:X.N.Nodup)(hi':X.N[i]?=some x)(hx:Loc X.env.scope x)
 (hc:X.calm=true) (c:CompOk X scope TN FN fr) (hi:JI X tg iter mi) (hgo:GOnly TN.length g)
 (hb:∀C s₀ H₀ ex,JG (cxComp X scope (TN++FN) C s₀ H₀ ex) tg g/\JTs (cxComp X scope (TN++FN) C s₀ H₀ ex) ifs nt/\JE (cxComp X scope (TN++FN) C s₀ H₀ ex) elt me)
 (hs:∀x,foldedSetIterable iter X.env x=pure x:=by intro _;rfl) (hsw:swapsWith (.ListComp elt [⟨tg,iter,ifs,0⟩] scope cpos) (some (.Name x pos')) pos.line X.env=pure true:=by rfl)
 (hf:X.fn x=true\/X.env.scope.names.lookup x=some .local:=by first|exact .inl rfl|exact .inr rfl|assumption):
 JS X (.Assign [.Name x pos'] (.ListComp elt [⟨tg,iter,ifs,0⟩] scope cpos) pos) (sSetL i (lComp mi TN.length fr g nt me)):=by
 intro pins s σ H D I ⟨as,ρ,st,en,rp,h⟩
 rw[exec_Assign_Name_used _ _ _ _ hsw]
 refine wpAny_bind (wpAny_standAt (wpAny_bind ?_))
 rw[arm_evalThenUse_ListComp]
 refine wpAny_bind ?_
 refine Ybz (Q:=fun v H'=>∃as' ρ' st',EnvOk X.K as' H' ρ σ/\Rep X.K as' st' H'/\Den X.K as' H' v (.ref (st'.length - 1))/\ρ'=ρ.set i (some (.ref (st'.length - 1)))/\PostS X as' H' (.nx ρ' st') D) hc c hi hgo hb hs I ⟨as,ρ,st,en,rp,?_⟩ ?_
 ·unfold sSetL at h
  cases q:lComp mi TN.length fr g nt me ρ st with
  |bad=>rw[q]at h;exact h
  |exc k st'=>rw[q]at h;exact h
  |ok ps st1=>
   rw[q]at h
   intro as' H' l vs x rp' hl fr' d
   have en':EnvOk X.K (as'++[l]) H' ρ σ:=(en.ext x).ext Ext.add
   have rp'':Rep X.K (as'++[l]) (st1++[.lst ps]) H':=rp'.add fr' ⟨vs,hl,d.ext Ext.add⟩
   have el:(st1++[O.lst ps]).length - 1=st1.length:=by simp
   refine⟨as'++[l],_,st1++[.lst ps],en',rp'',?_,rfl,?_⟩
   ·rw[el];exact .ref (by rw[<-rp'.len];exact VL)
   ·rw[el];exact PostS.ext (x.trans Ext.add) h
 ·intro s4 C Dl H' ⟨m,hn⟩ nC fo inv ⟨as',ρ',st',en',rp',d',hρ,hq⟩
  have I4:Inv X pins σ H' s4:=inv s4.heap (Heap.SameBut.refl _ _)
  show wpAny _ _ (assign (.Name x pos') X.env (.ref Dl)) _ _ _
  refine wpAny_assign_Name (Ycd I4 hN hi' hx (v:=.ref Dl) rfl (fun s5 I5 ⟨a,sb,ha⟩=>?_) hf)
  have hCa:C≠a:=by
   rcases ha with rfl|ha
   ·exact fo.2.1
   ·exact fun z=>fo.2.2.2.2.1 x a ha z.symm
  have hn5:s5.heap.Ns C m:=by
   obtain⟨o,es,ep,e,r⟩:=hn
   exact⟨o,es,ep,(sb.2 C hCa).trans e,r⟩
  refine⟨m,hn5,fun h' sb'=>wpAny_pure ?_⟩
  have I6:Inv X pins (σ.set i (some (.ref Dl))) H' { s5 with heap:=h',toks:=s5.toks }:=I5.turned (it:=C) (fun b o hb e=>(sb'.2 b hb).trans e) nC fo.2.1 fo.2.2.2.1 fo.2.2.2.2.1 fo.2.2.2.2.2
  refine wpAny_pure ⟨σ.set i (some (.ref Dl)),H',I6,hq as' H' _ Ext.refl rp' ?_⟩
  rw[hρ]
  exact en'.set d'
end
abbrev MF:=List P->Stor->R P
def fnM(n:Nat)(m:MS):MF:=fun ps st=>match m (ps.map some++List.replicate (n - ps.length) none) st with
 | .nx _ st'=>.ok .non st'
 | .rt p st'=>.ok p st'
 |_=>.bad
def spM(K:PySem.W.Frag)(n:Nat)(mf:MF):Sp:=fun vs H Q _=>vs.length=n/\∃as st ps,Rep K as st H/\Dens K as H vs ps/\match mf ps st with
 | .ok p st'=>∀as' H' v,Ext as H as' H'->Rep K as' st' H'->Den K as' H' v p->Q v H'
 |_=>False
abbrev FM(P':Program)(w:World)(K:PySem.W.Frag)(mg:Str->Option Value)(base:Heap)(k:Nat)(f:Addr)(fd:FuncData)(ps:List Str)(mf:MF):Prop:=FnOk P' w K mg base CX0 k f fd ps (spM K ps.length mf)
theorem Yf2{K:PySem.W.Frag}{as:List Addr}{H:Hp}{vs:List V}{ps:List P}{N:List Str}(d:Dens K as H vs ps):EnvOk K as H (ps.map some++List.replicate (N.length - ps.length) none) (L2.start N vs):=
 ⟨by unfold L2.start;simp[d.length],fun i p e=>by
  have hl:=d.length
  by_cases hi:i<ps.length
  ·rw[List.getElem?_append_left (by simpa using hi),List.getElem?_map]at e
   cases q:ps[i]? with
   |none=>rw[q]at e;cases e
   |some p'=>
    rw[q]at e
    cases e
    obtain⟨v,h1,h2⟩:=d.get q
    refine⟨v,?_,h2⟩
    unfold L2.start
    rw[List.getElem?_append_left (by simp;omega),List.getElem?_map,h1]
    rfl
  ·rw[List.getElem?_append_right (by simpa using hi),List.getElem?_replicate]at e
   split at e <;> cases e⟩
section
variable{P':Program}{w:World}{K:PySem.W.Frag}{mg:Str->Option Value}{base:Heap}
theorem Fun.mirror{x qual:Str}{st:Stmt}{f:Addr}{fd:FuncData}{N ps:List Str}{k:Nat}{m:MS}(F:Fun K x qual st f fd)(S:FnScope N ps (defScope st))
 (hbody:∀(cdv:Value)(A:Around)(outer:List Env)(s:Shared)(H:Hp)(E:XK),Room k (A.deeper (envOfC qual (defScope st) s.heap.objs.size f cdv))->JSs (cxOf CX0 P' w K mg base N qual (defScope st) f cdv A outer s H E).nox (defBody st) m):
 FM P' w K mg base (k+1) f fd ps (fnM N.length m):=by
 refine F.ok S (fun vs H Q E h=>h.1) (fun cdv A outer s H vs Q E hr h=>⟨_,hbody cdv A outer s H E hr,?_⟩)
 obtain⟨hl,as,st',qs,rp,d,h⟩:=h
 refine⟨as,_,st',Yf2 d,rp,?_⟩
 unfold fnM at h
 cases q:m (qs.map some++List.replicate (N.length - qs.length) none) st' with
 |nx ρ' s'=>rw[q]at h;exact fun as' H' σ' x rp en=>h as' H' .non x rp .non
 |rt p s'=>rw[q]at h;exact h
 |bk ρ' s'=>rw[q]at h;exact h.elim
 |ct ρ' s'=>rw[q]at h;exact h.elim
 |exc k ρ' s'=>rw[q]at h;exact h.elim
 |bad=>rw[q]at h;exact h.elim
end
section
variable{X:Cx}{k:Nat}{f:Addr}{fd:FuncData}{ps:List Str}{mf:MF}{x:Str}{p pos:Pos}{e:Expr}{es:List Expr}{mr:MA}
def eCall(n:Nat)(mf:MF)(mr:MA):ME:=fun ρ st=>(mr ρ st).bind fun ps st1=>if ps.length=n then match mf ps st1 with
 | .ok p st2=>.ok p st2
 |_=>.bad else .bad
theorem YiP(F:FM X.prog X.w X.K X.mg X.base k f fd ps mf)(hr:Room k X.A)(hg:Gl X x)(hm:X.mg x=some (.ref f))(hk:PySem.W.keepIn X.K (.ref f)=true)(hb:Binds X.K fd ps [])
 (ha:JA X (e::es) mr) (hdb:(x == ("__debug__":Str))=false:=by decide) (he:starEach (e::es) X.env=(false,eval e X.env)::starEach es X.env:=by rfl) (hpl:(backTo pos (starEach es X.env)).any (·.1)=false:=by rfl):
 JE X (.Call (.Name x p) (e::es) [] pos) (eCall ps.length mf mr):=
 PE.imp (Yjt F hr hg hm hk hb .nil (pass0 (X:=X)) ha hdb he hpl) fun σ H Q ⟨as,ρ,st,en,rp,h⟩=>⟨as,ρ,st,en,rp,Post.bindA h fun qs st1 as1 H1 vs x rp1 d h1=>by
  rw[List.append_nil]
  by_cases hl:qs.length=ps.length
  ·rw[if_pos hl]at h1
   refine⟨by rw[d.length];exact hl,as1,st1,qs,rp1,d,?_⟩
   cases z:mf qs st1 with
   |ok p' st2=>rw[z]at h1;exact h1
   |exc k s'=>rw[z]at h1;exact h1.elim
   |bad=>rw[z]at h1;exact h1.elim
  ·rw[if_neg hl]at h1;exact h1.elim⟩
end
abbrev GC:=List P->Stor->Option (P×Stor)
def rMC(X:Cx)(g:GC):List V->Hp->VK->Prop:=fun xs H Q=>∃as st ps,Rep X.K as st H/\Dens X.K as H xs ps/\PostO X as H (g ps st) Q
def eB(g:GC)(mr:MA):ME:=fun ρ st=>(mr ρ st).bind fun ps st1=>ofO (g ps st1)
section
variable{X:Cx}{x:Str}{p pos:Pos}{e:Expr}{es:List Expr}{mr:MA}{id T:String}{g:GC}
theorem CallR.imp{f:Value}{r r':List V->Hp->VK->Prop}(h:CallR X f r)(i:∀xs H Q,r' xs H Q->r xs H Q):CallR X f r':=fun pins s σ H xs us Q I rv q=>h pins s σ H xs us Q I rv (i xs H Q q)
theorem Yie{σ:St}{H:Hp}{Q:VK}(h:tE X (eB g mr) σ H Q):tCB (rMC X g) (tA X mr) σ H Q:=by
 obtain⟨as,ρ,st,en,rp,h⟩:=h
 exact⟨as,ρ,st,en,rp,Post.bindA h fun ps st1 as1 H1 vs x rp1 d h1=>⟨as1,st1,ps,rp1,d,Post.ofO h1⟩⟩
theorem je_B(hc:CallR X (.builtin id) (rMC X g))(hg:Gl X x)(hm:X.mg x=none)(hv:bootBuiltins x=some (.builtin id))(ha:JA X (e::es) mr)(hn:x≠"__name__":=by decide) (hdb:(x == ("__debug__":Str))=false:=by decide)
 (he:starEach (e::es) X.env=(false,eval e X.env)::starEach es X.env:=by rfl) (hpl:(backTo pos (starEach es X.env)).any (·.1)=false:=by rfl):JE X (.Call (.Name x p) (e::es) [] pos) (eB g mr):=
 PE.imp (YaQ hc hg hm hv ha hn hdb he hpl) fun _ _ _ h=>Yie h
theorem YbZ(hc:CallR X (.type T) (rMC X g))(hg:Gl X x)(hm:X.mg x=none)(hv:bootBuiltins x=some (.type T))(ha:JA X (e::es) mr)(hn:x≠"__name__":=by decide) (hdb:(x == ("__debug__":Str))=false:=by decide)
 (he:starEach (e::es) X.env=(false,eval e X.env)::starEach es X.env:=by rfl) (hpl:(backTo pos (starEach es X.env)).any (·.1)=false:=by rfl):JE X (.Call (.Name x p) (e::es) [] pos) (eB g mr):=
 PE.imp (JP hc hg hm hv ha hn hdb he hpl) fun _ _ _ h=>Yie h
theorem cM{f:Value}(h:∀pins s σ H xs us Q as st ps,Inv X pins σ H s->Vals xs us->Rep X.K as st H->Dens X.K as H xs ps->PostO X as H (g ps st) Q->wpAny (model X.prog X.w) X.A (call f us) (EP X pins σ Q) X.xe s):CallR X f (rMC X g):=
 fun pins s σ H xs us Q I rv ⟨as,st,ps,rp,d,po⟩=>h pins s σ H xs us Q as st ps I rv rp d po
def lenP:GC:=fun ps st=>match ps with
 | [.str z]=>if z.length<=cap then okP (.int z.length) st else none
 | [.ref k]=>match st[k]? with
  |some (.lst xs)=>okP (.int xs.length) st
  |some (.ro xs)=>okP (.int xs.length) st
  |some (.dct kvs)=>okP (.int kvs.length) st
  |_=>none
 | [.tup xs]=>okP (.int xs.length) st
 |_=>none
theorem Dens.one{K:PySem.W.Frag}{as:List Addr}{H:Hp}{xs:List V}{p:P}(d:Dens K as H xs [p]):∃v,xs=[v]/\Den K as H v p:=by
 cases d with
 |cons a b=>cases b;exact⟨_,rfl,a⟩
theorem Dens.two{K:PySem.W.Frag}{as:List Addr}{H:Hp}{xs:List V}{p q:P}(d:Dens K as H xs [p,q]):∃v w,xs=[v,w]/\Den K as H v p/\Den K as H w q:=by
 cases d with
 |cons a b=>
  cases b with
  |cons c d=>cases d;exact⟨_,_,rfl,a,c⟩
theorem YlS{ps:List P}{α:Type}{f:P->Option α}{r:α}(h:(match ps with| [p]=>f p|_=>none)=some r):∃p,ps=[p]/\f p=some r:=by
 match ps,h with
 | [p],h=>exact⟨p,rfl,h⟩
theorem YJ:CallR X (.builtin "len") (rMC X lenP):=cM fun pins s σ H xs us Q as st ps I rv rp d h=>by
 match ps,d,h with
 | [],_,h=>exact h.elim
 |_::_::_,_,h=>exact (by simp only[lenP]at h;exact h.elim)
 | [p],d,h=>
  obtain⟨v,rfl,d1⟩:=d.one
  cases d1 with
  |@str z=>
   have h':PostO X as H (if z.length<=cap then okP (.int z.length) st else none) Q:=h
   by_cases hz:z.length<=cap
   ·rw[if_pos hz]at h'
    exact YcA pins s σ H _ us Q I rv ⟨z,_,rfl,Nat.le_trans hz YK,h' as H _ Ext.refl rp .int⟩
   ·rw[if_neg hz]at h';exact h'.elim
  |tup e r=>
   refine WE pins s σ H _ us Q I rv ⟨_,_,rfl,.inr e,?_⟩
   rw[r.length]
   exact h as H _ Ext.refl rp .int
  |@ref k a e=>
   have h':PostO X as H (match st[k]? with|some (.lst xs)=>okP (.int xs.length) st|some (.ro xs)=>okP (.int xs.length) st|some (.dct kvs)=>okP (.int kvs.length) st|_=>none) Q:=h
   cases q:st[k]? with
   |none=>rw[q]at h';exact h'.elim
   |some o=>
    rw[q]at h'
    have ob:=rp.ob k a o e q
    cases o with
    |lst ys=>
     obtain⟨vs,h1,h2⟩:=ob
     refine WE pins s σ H _ us Q I rv ⟨_,_,rfl,.inl (.of h1),?_⟩
     rw[h2.length]
     exact h' as H _ Ext.refl rp .int
    |ro ys=>
     obtain⟨vs,h1,h2⟩:=ob
     refine WE pins s σ H _ us Q I rv ⟨_,_,rfl,.inl (WS h1),?_⟩
     rw[h2.length]
     exact h' as H _ Ext.refl rp .int
    |dct kvs=>
     obtain⟨ws,h1,h2,h3⟩:=ob
     refine YfF pins s σ H _ us Q I rv ⟨_,_,rfl,h1,?_⟩
     have:ws.length=kvs.length:=by simpa using congrArg List.length h2
     rw[this]
     exact h' as H _ Ext.refl rp .int
    |exc c fs=>exact h'.elim
    |ddk kvs=>exact h'.elim
    |fdc kvs=>exact h'.elim
    |fdd kvs=>exact h'.elim
    |fn n=>exact h'.elim
  |_=>exact h.elim
def tupleP:GC:=fun ps st=>match ps with
 | [p]=>match seqAt p st with
  |some xs=>okP (.tup xs) st
  |none=>none
 |_=>none
theorem YaL:CallR X (.type "tuple") (rMC X tupleP):=cM fun pins s σ H xs us Q as st ps I rv rp d h=>by
 match ps,d,h with
 | [],_,h=>exact h.elim
 |_::_::_,_,h=>exact (by simp only[tupleP]at h;exact h.elim)
 | [p],d,h=>
  obtain⟨v,rfl,d1⟩:=d.one
  have h':PostO X as H (match seqAt p st with|some xs=>okP (.tup xs) st|none=>none) Q:=h
  cases q:seqAt p st with
  |none=>rw[q]at h';exact h'.elim
  |some xs=>
   rw[q]at h'
   obtain⟨a,vs,rfl,hq,r⟩:=YiN rp d1 q
   refine VB pins s σ H _ us Q I rv ⟨a,vs,rfl,?_⟩
   rcases hq with hq|⟨hq,tk⟩
   ·exact .inl ⟨hq,fun l hl=>h' as _ _ (Ext.laid hl) (rp.laid hl) (.tup (.of Yq) (r.ext (Ext.laid hl)))⟩
   ·exact .inr ⟨hq,h' as H _ Ext.refl rp (.tup hq r)⟩
def listP:GC:=fun ps st=>match ps with
 | [p]=>match seqAt p st with
  |some xs=>newL xs st
  |none=>none
 |_=>none
theorem YiK:CallR X (.type "list") (rMC X listP):=cM fun pins s σ H xs us Q as st ps I rv rp d h=>by
 match ps,d,h with
 | [],_,h=>exact h.elim
 |_::_::_,_,h=>exact (by simp only[listP]at h;exact h.elim)
 | [p],d,h=>
  obtain⟨v,rfl,d1⟩:=d.one
  have h':PostO X as H (match seqAt p st with|some xs=>newL xs st|none=>none) Q:=h
  cases q:seqAt p st with
  |none=>rw[q]at h';exact h'.elim
  |some xs=>
   rw[q]at h'
   obtain⟨a,vs,rfl,hq,r⟩:=Yio rp d1 q
   exact Ycz pins s σ H _ us Q I rv ⟨a,vs,rfl,hq,fun l hl=>ZR rp r h' hl⟩
def eTupL(m:MA):ME:=fun ρ st=>(m ρ st).bind fun ps st1=>.ok (.tup ps) st1
theorem YbQ{m:MA}(hg:Gl X "tuple") (hm:X.mg "tuple"=none) (hv:bootBuiltins "tuple"=some (.type "tuple")) (h:JL X e m)
 (he:starEach [e] X.env=(false,eval e X.env)::starEach [] X.env:=by rfl):JE X (.Call (.Name "tuple" p) [e] [] pos) (eTupL m):=
 PE.imp (JP VB hg hm hv (Vr h JN he) (by decide) (by decide) he) fun σ H Q ⟨as,ρ,st,en,rp,h⟩=>⟨as,ρ,st,en,rp,Post.bindL h fun ps st1 as1 H1 l vs x rp1 hl fr d h1=>
  ⟨l,vs,rfl,.inl ⟨.of hl,fun p hp=>h1 as1 _ _ (Ext.laid hp) (rp1.laid hp) (.tup (.of Yq) (d.ext (Ext.laid hp)))⟩⟩⟩
end
abbrev GM:=P->List P->Stor->Option (P×Stor)
def rMM(X:Cx)(g:GM):V->List V->Hp->VK->Prop:=fun x xs H Q=>∃as st p ps,Rep X.K as st H/\Den X.K as H x p/\Dens X.K as H xs ps/\PostO X as H (g p ps st) Q
def isStr:P->Stor->Bool:=fun p _=>match p with
 | .str _=>true
 |_=>false
def isLst:P->Stor->Bool:=fun p st=>match p with
 | .ref k=>(match st[k]? with
  |some (.lst _)=>true
  |some (.ro _)=>true
  |_=>false)
 |_=>false
def eM(ty:P->Stor->Bool)(g:GM)(me:ME)(mr:MA):ME:=fun ρ st=>(me ρ st).bind fun p st1=>if ty p st1=true then (mr ρ st1).bind fun ps st2=>ofO (g p ps st2) else .bad
def TyIs(T:String)(ty:P->Stor->Bool):Prop:=∀(K:PySem.W.Frag) as st H v p,Rep K as st H->Den K as H v p->ty p st=true->tyV K T v H
theorem Vi:TyIs "str" isStr:=fun K as st H v p rp d h=>by
 cases d with
 |str=>rfl
 |_=>cases h
theorem JC:TyIs "list" isLst:=fun K as st H v p rp d h=>by
 cases d with
 |@ref k a e=>
  have h':(match st[k]? with|some (.lst _)=>true|some (.ro _)=>true|_=>false)=true:=h
  cases q:st[k]? with
  |none=>rw[q]at h';cases h'
  |some o=>
   rw[q]at h'
   have ob:=rp.ob k a o e q
   cases o with
   |lst ys=>obtain⟨vs,h1,_⟩:=ob;exact .inl ⟨rfl,vs,.of h1⟩
   |ro ys=>obtain⟨vs,h1,_⟩:=ob;exact .inl ⟨rfl,vs,WS h1⟩
   |dct ys=>cases h'
   |exc c fs=>cases h'
   |ddk kvs=>cases h'
   |fdc kvs=>cases h'
   |fdd kvs=>cases h'
   |fn n=>cases h'
 |_=>cases h
section
variable{X:Cx}{o e:Expr}{es:List Expr}{me:ME}{mr:MA}{name:Str}{apos cpos:Pos}{T id:String}{g:GM}{ty:P->Stor->Bool}
theorem YbW(hT:TyIs T ty)(pa:PlainAttrs T)(slot:Slot T name id)(hty:typeOf (.builtin id)=pure (.type "method_descriptor")) (hm:MtR X id (rMM X g)) (ho:JE X o me)
 (hbase:attributeBase o name X.env (eval o X.env)=eval o X.env:=by rfl) (hline:(apos.endLine == cpos.line)=true:=by rfl):JE X (.Call (.Attribute o name apos) [] [] cpos) (eM ty g me aNil):=
 PE.imp (Yk1 pa slot hty hm ho hbase hline) fun σ H Q ⟨as,ρ,st,en,rp,h⟩=>⟨as,ρ,st,en,rp,Post.bindE h fun p st1 as1 H1 v x rp1 d h1=>by
  by_cases z:ty p st1=true
  ·rw[if_pos z]at h1
   exact⟨hT _ _ _ _ _ _ rp1 d z,as1,st1,p,[],rp1,d,.nil,Post.ofO h1⟩
  ·rw[if_neg z]at h1;exact h1.elim⟩
theorem je_M(hT:TyIs T ty)(pa:PlainAttrs T)(slot:Slot T name id)(hty:typeOf (.builtin id)=pure (.type "method_descriptor")) (hm:MtR X id (rMM X g)) (ho:JE X o me) (ha:JA X (e::es) mr)
 (hbase:attributeBase o name X.env (eval o X.env)=eval o X.env:=by rfl)
 (hfew:((backTo cpos (starEach (e::es) X.env)).all (fun x=>!x.1) && (backToKw cpos (keywordEach [] X.env)).all (fun x=>x.1.isSome)
  && decide ((e::es).length+([]:List Keyword).length+(if ([]:List Keyword).isEmpty then 0 else 1)<30))=true:=by rfl)
 (hline:(apos.endLine == cpos.line)=true:=by rfl) (hs:starEach (e::es) X.env=(false,eval e X.env)::starEach es X.env:=by rfl) (hplain:(backTo cpos (starEach es X.env)).any (·.1)=false:=by rfl):
 JE X (.Call (.Attribute o name apos) (e::es) [] cpos) (eM ty g me mr):=
 PE.imp (YjF pa slot hty hm ho ha hbase hfew hline hs hplain) fun σ H Q ⟨as,ρ,st,en,rp,h⟩=>⟨as,ρ,st,en,rp,Post.bindE h fun p st1 as1 H1 v x rp1 d h1=>by
  by_cases z:ty p st1=true
  ·rw[if_pos z]at h1
   exact⟨hT _ _ _ _ _ _ rp1 d z,as1,ρ,st1,en.ext x,rp1,Post.bindA h1 fun ps st2 as2 H2 vs x2 rp2 d2 h2=>⟨as2,st2,p,ps,rp2,d.ext x2,d2,Post.ofO h2⟩⟩
  ·rw[if_neg z]at h1;exact h1.elim⟩
theorem mM(h:∀pins s σ H x xs v us Q as st p ps,Inv X pins σ H s->RelV x v->Vals xs us->Rep X.K as st H->Den X.K as H x p->Dens X.K as H xs ps->PostO X as H (g p ps st) Q->
 wpAny (model X.prog X.w) X.A (call (.builtin id) (v::us)) (EP X pins σ Q) X.xe s):MtR X id (rMM X g):=
 fun pins s σ H x xs v us Q I rx rv ⟨as,st,p,ps,rp,d1,d2,po⟩=>h pins s σ H x xs v us Q as st p ps I rx rv rp d1 d2 po
def upperP:GM:=fun p ps st=>match p,ps with
 | .str x,[]=>if x.length<=cap then okP (.str (Txt.upper x)) st else none
 |_,_=>none
def appendP:GM:=fun p ps st=>match p,ps with
 | .ref k,[q]=>match lstAt st k with
  |some xs=>if xs.length<cap then some (.non,st.set k (.lst (xs++[q]))) else none
  |none=>none
 |_,_=>none
theorem We:MtR X "list.append" (rMM X appendP):=mM fun pins s σ H x xs v us Q as st p ps I rx rv rp d1 d2 h=>by
 match p,ps,d1,d2,h with
 | .ref k,[q],d1,d2,h=>
  have h':PostO X as H (match lstAt st k with|some xs=>if xs.length<cap then some (.non,st.set k (.lst (xs++[q]))) else none|none=>none) Q:=h
  cases z:lstAt st k with
  |none=>rw[z]at h';exact h'.elim
  |some ys=>
   rw[z]at h'
   obtain⟨a,vs,rfl,e,hk,h1,h2⟩:=Ya2 rp d1 z
   obtain⟨y,rfl,dy⟩:=d2.one
   by_cases hl:ys.length<cap
   ·simp only[if_pos hl]at h'
    refine YfM pins s σ H _ _ v us Q I rx rv ⟨a,vs,y,rfl,rfl,h1,by rw[h2.length];exact Nat.lt_of_lt_of_le hl YK,?_⟩
    exact h' as _ _ (Ext.write h1 trivial) (rp.lset e h1 hk (h2.append (.cons dy .nil))) .non
   ·simp only[if_neg hl]at h';exact h'.elim
 | .ref k,[],_,_,h=>exact h.elim
 | .ref k,_::_::_,_,_,h=>exact h.elim
 | .non,_,_,_,h=>exact h.elim
 | .bl _,_,_,_,h=>exact h.elim
 | .int _,_,_,_,h=>exact h.elim
 | .str _,_,_,_,h=>exact h.elim
 | .tup _,_,_,_,h=>exact h.elim
def strsP:List P->Option (List Str)
 | []=>some []
 | .str x::r=>(strsP r).map (x::·)
 |_::_=>none
theorem VH{K:PySem.W.Frag}{as:List Addr}{H:Hp}:∀{ps:List P}{vs:List V}{us:List Value}{ys:List Str},Dens K as H vs ps->Vals vs us->strsP ps=some ys->StrsAre us ys
 | [],_,_,_,.nil,.nil,h=>by cases h;exact .nil
 |p::r,_,_,ys,.cons d d',.cons r1 r2,h=>by
  cases d with
  |@str x=>
   have h':(strsP r).map (x::·)=some ys:=h
   cases q:strsP r with
   |none=>rw[q]at h';cases h'
   |some zs=>
    rw[q]at h'
    cases h'
    cases r1
    exact .cons x _ (VH d' r2 q)
  |_=>cases h
theorem YdB{vs:List V}{u:Value}(r:Vals vs [u]):∃v,vs=[v]/\RelV v u:=by
 cases r with
 |cons r1 r2=>cases r2;exact⟨_,rfl,r1⟩
theorem YiW{K:PySem.W.Frag}{as:List Addr}{H:Hp}{ps:List P}{v:V}{ys:List Str}{z:Str}(d:Dens K as H [v] ps)(h:strsP ps=some ys):Den K as H v (.str (Txt.join z ys)):=by
 cases d with
 |cons d1 d2=>
  cases d2
  cases d1 with
  |str hx zx=>
   cases h
   exact .str hx zx
  |_=>cases h
def joinLen(x:Str)(ys:List Str):Nat:=(ys.map (·.length)).sum+ys.length * x.length
def eJoinL(me:ME)(m:MA):ME:=fun ρ st=>(me ρ st).bind fun p st1=>match p with
 | .str x=>(m ρ st1).bind fun ps st2=>match strsP ps with
  |some ys=>if joinLen x ys<=cap then .ok (.str (Txt.join x ys)) st2 else .bad
  |none=>.bad
 |_=>.bad
section
variable{prog:Program}{w:World}{A:Around}{E:Value->Shared->Prop}{s:Shared}{x:Str}{t:Tok}{Q:Value->Shared->Prop}
theorem YaJ{l:List (Str×Tok)}(hf:(Txt.join x (l.map (·.1))).length<=sizeLine)(h1:∀y u,strValues l=[.str y u]->Q (.str y u) s)(h2:Q (.str (Txt.join x (l.map (·.1))) s.toks) { s with toks:=s.toks+1 }):(joinMade x l).post Q s:=
 match l,hf,h1,h2 with
 | [],hf,_,h2=>⟨hf,h2⟩
 | [p],_,h1,_=>h1 p.1 p.2 rfl
 |_::_::_,hf,_,h2=>⟨hf,h2⟩
theorem Yid{D:Addr}{items:List Value}{ys:List Str}(hl:s.heap.IsList D items.toArray\/IsTup s.heap D items.toArray)(hi:StrsAre items ys)(hok:(ys.map (·.length)).sum+ys.length * x.length<=16777216)
 (h1:∀y u,items=[.str y u]->Q (.str y u) s) (h2:Q (.str (Txt.join x ys) s.toks) { s with toks:=s.toks+1 }):wpAny (model prog w) A (call (.builtin "str.join") [.str x t,.ref D]) Q E s:=by
 obtain⟨l,hv,ht⟩:=strsAre_values hi
 subst hv
 subst ht
 have hok':=joinOk_of hok
 unfold JoinOk at hok'
 rw[Bool.not_eq_true']at hok'
 rcases hl with hl|⟨o,ho,hc,n,hd⟩
 ·exact call_meets PySem.F.slot_str_join (typeIs_str _ _ _) PySem.F.entry_str_join (PySem.F.args_str_join_2 _ _) (meets_str_join_list x t D l hok') ⟨hl,YaJ (joinFit_length hok') h1 h2⟩
 ·exact call_meets PySem.F.slot_str_join (typeIs_str _ _ _) PySem.F.entry_str_join (PySem.F.args_str_join_2 _ _) (meets_str_join_tuple x t D l hok') ⟨⟨o,n,ho,hc,hd⟩,YaJ (joinFit_length hok') h1 h2⟩
end
theorem Yg4:MtR X "str.join" (fun x xs H Q=>∃z tz a vs ys,x=.str z tz/\xs=[.ref a]/\(SqL X.K H a vs\/SqT X.K H a vs)/\(∀us,Vals vs us->StrsAre us ys)/\joinLen z ys<=cap/\(∀v,vs=[v]->Q v H)/\MkT (Txt.join z ys) Q H):=by
 intro pins s σ H x xs v us Q I rx rv h
 obtain⟨z,tz,a,vs,ys,rfl,rfl,hq,hs,hl,q0,q⟩:=h
 cases rx
 obtain⟨u,rfl,ru⟩:=rv.one
 cases ru
 have hc:joinLen z ys<=16777216:=Nat.le_trans hl (by decide)
 rcases hq with hq|hq
 ·obtain⟨its,r,p,_⟩:=I.list hq
  refine Yid (.inl p.isList) (hs _ r) hc (fun y u e=>?_) ⟨.str _ _,_,I.txt,rfl,q _ I.fresh_tok.1 I.fresh_tok.2⟩
  subst e
  obtain⟨v,rv1,e2⟩:=YdB r
  exact⟨v,H,I,e2,q0 v rv1⟩
 ·obtain⟨its,r,p,_⟩:=I.tuple hq
  refine Yid (.inr p) (hs _ r) hc (fun y u e=>?_) ⟨.str _ _,_,I.txt,rfl,q _ I.fresh_tok.1 I.fresh_tok.2⟩
  subst e
  obtain⟨v,rv1,e2⟩:=YdB r
  exact⟨v,H,I,e2,q0 v rv1⟩
theorem ZW{m:MA}(ho:JE X o me)(h:JL X e m)
 (hbase:attributeBase o "join" X.env (eval o X.env)=eval o X.env:=by rfl)
 (hfew:((backTo cpos (starEach [e] X.env)).all (fun x=>!x.1) && (backToKw cpos (keywordEach [] X.env)).all (fun x=>x.1.isSome)
  && decide (([e]:List Expr).length+([]:List Keyword).length+(if ([]:List Keyword).isEmpty then 0 else 1)<30))=true:=by rfl)
 (hline:(apos.endLine == cpos.line)=true:=by rfl) (hs:starEach [e] X.env=(false,eval e X.env)::starEach [] X.env:=by rfl):JE X (.Call (.Attribute o "join" apos) [e] [] cpos) (eJoinL me m):=
 PE.imp (YjF PySem.F.plainAttrs_str PySem.F.slot_str_join PySem.F.type_str_join Yg4 ho (Vr h JN hs) hbase hfew hline hs) fun σ H Q ⟨as,ρ,st,en,rp,h⟩=>⟨as,ρ,st,en,rp,Post.bindE h fun p st1 as1 H1 v x rp1 d h1=>by
  cases d with
  |@str z=>
   refine⟨rfl,as1,ρ,st1,en.ext x,rp1,Post.bindL h1 fun ps st2 as2 H2 l vs x2 rp2 hl fr d2 h2=>?_⟩
   cases q:strsP ps with
   |none=>rw[q]at h2;exact h2.elim
   |some ys=>
    rw[q]at h2
    by_cases hz:joinLen z ys<=cap
    ·simp only[if_pos hz]at h2
     exact⟨z,_,l,vs,ys,rfl,rfl,.inl (.of hl),fun us r=>VH d2 r q,hz,fun v e=>h2 as2 H2 _ Ext.refl rp2 (by subst e;exact YiW d2 q),mkT rp2 fun as3 H3 v x3 r3 d3=>h2 as3 H3 v x3 r3 d3⟩
    ·simp only[if_neg hz]at h2;exact h2.elim
  |_=>exact h1.elim⟩
end
def keyP:P->Option Key
 | .int i=>some (.inl i)
 | .str x=>some (.inr x)
 |_=>none
theorem Ycp{K:PySem.W.Frag}{as:List Addr}{H:Hp}{v:V}{p:P}{k:Key}(d:Den K as H v p)(h:keyP p=some k):KeyV k v:=by
 cases d with
 |int=>cases h;rfl
 |str=>cases h;exact⟨_,rfl⟩
 |_=>cases h
def valP{κ:Type} [DecidableEq κ](kvs:List (κ×P))(k:κ):Option P:=(kvs.find? fun kv=>decide (kv.1=k)).map (·.2)
def putP{κ:Type} [DecidableEq κ](kvs:List (κ×P))(k:κ)(v:P):List (κ×P):=
 if (kvs.any fun kv=>decide (kv.1=k))=true then kvs.map fun kv=>if kv.1=k then (kv.1,v) else kv else kvs++[(k,v)]
inductive OptDen(K:PySem.W.Frag)(as:List Addr)(H:Hp):Option V->Option P->Prop where
 |none:OptDen K as H none none
 |some {v:V} {p:P}:Den K as H v p->OptDen K as H (some v) (some p)
section
variable{K:PySem.W.Frag}{as:List Addr}{H:Hp}
theorem Wd{κ:Type} [DecidableEq κ]{k:κ}:∀{ws:List (κ×V)}{kvs:List (κ×P)},ws.map (·.1)=kvs.map (·.1)->Dens K as H (ws.map (·.2)) (kvs.map (·.2))->OptDen K as H (valV ws k) (valP kvs k)
 | [],[],_,_=>.none
 | [],_::_,h,_=>by simp at h
 |_::_,[],h,_=>by simp at h
 |(k1,v)::ws,(k2,p)::kvs,h,d=>by
  simp only[List.map_cons,List.cons.injEq]at h
  obtain⟨rfl,h⟩:=h
  cases d with
  |cons d1 d2=>
   by_cases e:k1=k
   ·rw[Js (p:=(k1,v)) e]
    have:valP ((k1,p)::kvs) k=some p:=by simp[valP,List.find?_cons,e]
    rw[this];exact .some d1
   ·rw[Jh (p:=(k1,v)) e]
    have:valP ((k1,p)::kvs) k=valP kvs k:=by simp[valP,List.find?_cons,e]
    rw[this];exact Wd h d2
theorem Ycs{κ:Type} [DecidableEq κ]{k:κ}{v:V}{p:P}(dv:Den K as H v p){ws:List (κ×V)}{kvs:List (κ×P)}(h:ws.map (·.1)=kvs.map (·.1))(d:Dens K as H (ws.map (·.2)) (kvs.map (·.2))):
 (putK ws k v).map (·.1)=(putP kvs k p).map (·.1)/\Dens K as H ((putK ws k v).map (·.2)) ((putP kvs k p).map (·.2)):=by
 have hany:(ws.any fun kv=>decide (kv.1=k))=(kvs.any fun kv=>decide (kv.1=k)):=by
  have e1:(ws.any fun kv=>decide (kv.1=k))=(ws.map (·.1)).any fun x=>decide (x=k):=by rw[List.any_map];rfl
  have e2:(kvs.any fun kv=>decide (kv.1=k))=(kvs.map (·.1)).any fun x=>decide (x=k):=by rw[List.any_map];rfl
  rw[e1,e2,h]
 unfold putK putP
 rw[hany]
 by_cases z:(kvs.any fun kv=>decide (kv.1=k))=true
 ·rw[if_pos z,if_pos z]
  clear z hany
  induction ws generalizing kvs with
  |nil=>
   cases kvs with
   |nil=>exact⟨rfl,.nil⟩
   |cons a b=>simp at h
  |cons a ws ih=>
   cases kvs with
   |nil=>simp at h
   |cons b kvs=>
    obtain⟨k1,v1⟩:=a
    obtain⟨k2,p2⟩:=b
    simp only[List.map_cons,List.cons.injEq]at h
    obtain⟨rfl,h⟩:=h
    cases d with
    |cons d1 d2=>
     obtain⟨i1,i2⟩:=ih h d2
     simp only[List.map_cons]
     by_cases e:k1=k
     ·simp only[if_pos e]
      exact⟨by rw[i1],.cons dv i2⟩
     ·simp only[if_neg e]
      exact⟨by rw[i1],.cons d1 i2⟩
 ·rw[if_neg z,if_neg z,List.map_append,List.map_append,List.map_append,List.map_append,h]
  exact⟨rfl,d.append (.cons dv .nil)⟩
theorem YcG{st:Stor}{k:Nat}{kvs:List (Key×P)}{v:V}(rp:Rep K as st H)(d:Den K as H v (.ref k))(h:st[k]?=some (.dct kvs)):
 ∃a ws,v=.ref a/\as[k]?=some a/\H a=some (.dK ws)/\ws.map (·.1)=kvs.map (·.1)/\Dens K as H (ws.map (·.2)) (kvs.map (·.2)):=by
 cases d with
 |ref e=>
  obtain⟨ws,h1,h2,h3⟩:=rp.ob k _ _ e h
  exact⟨_,ws,rfl,e,h1,h2,h3⟩
end
def ixI(xs:List P)(q:P)(st:Stor):Option (P×Stor):=match q with
 | .int i=>(atI xs i).map fun p=>(p,st)
 |_=>none
def ixP:G2:=fun p q st=>match p with
 | .str z=>(match q with
  | .int i=>if z.length<=cap then (atI z.cps.toList i).map fun c=>(P.str ⟨#[c]⟩,st) else none
  |_=>none)
 | .tup xs=>ixI xs q st
 | .ref k=>(match st[k]? with
  |some (.lst xs)=>ixI xs q st
  |some (.ro xs)=>ixI xs q st
  |some (.dct kvs)=>(match keyP q with
   |some k=>(valP kvs k).map fun p=>(p,st)
   |none=>none)
  |_=>none)
 |_=>none
theorem IxR.imp{X:Cx}{r r':R2}(h:IxR X r)(i:∀x y H Q,r' x y H Q->r x y H Q):IxR X r':=fun value slice pins s σ H x y v u Q I rx ry q=>h value slice pins s σ H x y v u Q I rx ry (i x y H Q q)
theorem YcK{K:PySem.W.Frag}{as:List Addr}{H:Hp}{vs:List V}{xs:List P}{i:Int}{p:P}(d:Dens K as H vs xs)(h:atI xs i=some p):∃v,atI vs i=some v/\Den K as H v p:=by
 unfold atI at h ⊢
 rw[d.length]
 cases e:ixN xs.length i with
 |none=>rw[e]at h;cases h
 |some j=>
  rw[e]at h
  obtain⟨v,h1,h2⟩:=d.get (show xs[j]?=some p from h)
  exact⟨v,h1,h2⟩
section
variable{X:Cx}{a b c o i e:Expr}{ma mb mo mi me:ME}{pos pos':Pos}
theorem Yjj(hu:X.A.units+7<cLine):IxR X (fun x y H Q=>∃a v,x=.ref a/\DGet H a y (some v)/\Q v H):=by
 intro value slice pins s σ H x y v u Q I rx ry h hs
 obtain⟨a,w,rfl,g,q⟩:=h
 cases rx
 exact tail_any (YdJ I g) PySem.F.slot_dict_getitem.lookup (YfQ hu I g ry fun w' s3 I3 rw'=>⟨w,H,I3,rw',q⟩) hs
theorem Yle(hu:X.A.units+7<cLine):IxR X (rM X ixP):=IxR.imp ((YjX (X:=X)).or (Yjj hu)) fun x y H Q ⟨as,st,p,q,rp,d1,d2,h⟩=>by
 cases d1 with
 |@str z=>
  cases d2 with
  |@int j=>
   have h':PostO X as H (if z.length<=cap then (atI z.cps.toList j).map fun c=>(P.str ⟨#[c]⟩,st) else none) Q:=h
   by_cases hz:z.length<=cap
   ·rw[if_pos hz]at h'
    cases e:atI z.cps.toList j with
    |none=>rw[e]at h';exact h'.elim
    |some c=>rw[e]at h';exact .inl (.inr (.inr ⟨z,_,j,c,rfl,rfl,Nat.le_trans hz YK,e,mkT rp fun as1 H1 v x r d=>h' as1 H1 v x r d⟩))
   ·rw[if_neg hz]at h';exact h'.elim
  |_=>exact h.elim
 |@tup a vs xs e r=>
  cases d2 with
  |@int j=>
   have h':PostO X as H ((atI xs j).map fun p=>(p,st)) Q:=h
   cases q:atI xs j with
   |none=>rw[q]at h';exact h'.elim
   |some p=>
    rw[q]at h'
    obtain⟨v,h1,h2⟩:=YcK r q
    exact .inl (.inr (.inl ⟨a,vs,j,v,rfl,rfl,e,h1,h' as H _ Ext.refl rp h2⟩))
  |_=>exact h.elim
 |@ref k a e=>
  have h':PostO X as H (match st[k]? with
   |some (.lst xs)=>ixI xs q st
   |some (.ro xs)=>ixI xs q st
   |some (.dct kvs)=>(match keyP q with
    |some k=>(valP kvs k).map fun p=>(p,st)
    |none=>none)
   |_=>none) Q:=h
  cases w:st[k]? with
  |none=>rw[w]at h';exact h'.elim
  |some ob=>
   rw[w]at h'
   have r:=rp.ob k a ob e w
   cases ob with
   |lst xs=>
    obtain⟨vs,h1,h2⟩:=r
    cases d2 with
    |@int j=>
     have h':PostO X as H ((atI xs j).map fun p=>(p,st)) Q:=h'
     cases q:atI xs j with
     |none=>rw[q]at h';exact h'.elim
     |some p=>
      rw[q]at h'
      obtain⟨v,g1,g2⟩:=YcK h2 q
      exact .inl (.inl ⟨a,vs,j,v,rfl,rfl,.of h1,g1,h' as H _ Ext.refl rp g2⟩)
    |_=>exact h'.elim
   |ro xs=>
    obtain⟨vs,h1,h2⟩:=r
    cases d2 with
    |@int j=>
     have h':PostO X as H ((atI xs j).map fun p=>(p,st)) Q:=h'
     cases q:atI xs j with
     |none=>rw[q]at h';exact h'.elim
     |some p=>
      rw[q]at h'
      obtain⟨v,g1,g2⟩:=YcK h2 q
      exact .inl (.inl ⟨a,vs,j,v,rfl,rfl,WS h1,g1,h' as H _ Ext.refl rp g2⟩)
    |_=>exact h'.elim
   |dct kvs=>
    obtain⟨ws,h1,h2,h3⟩:=r
    cases z:keyP q with
    |none=>simp only[z]at h';exact h'.elim
    |some key=>
     simp only[z]at h'
     have ev:=Ycp d2 z
     cases zz:valP kvs key with
     |none=>rw[zz]at h';exact h'.elim
     |some p=>
      rw[zz]at h'
      have od:=Wd (k:=key) h2 h3
      rw[zz]at od
      cases hv:valV ws key with
      |none=>rw[hv]at od;cases od
      |some v=>
       rw[hv]at od
       cases od with
       |some dd=>exact .inr ⟨a,v,rfl,by rw[<-hv];exact DGet.k h1 ev,h' as H _ Ext.refl rp dd⟩
   |exc c fs=>exact h'.elim
   |ddk kvs=>exact h'.elim
   |fdc kvs=>exact h'.elim
   |fdd kvs=>exact h'.elim
   |fn n=>exact h'.elim
 |_=>exact h.elim
theorem YlB(hu:X.A.units+7<cLine)(ha:JE X a ma)(hb:JE X b mb)(hs:PlainIx b):JE X (.Subscript a b pos) (eBin ixP ma mb):=PE.imp (YlG (Yle hu) ha hb hs) fun _ _ _ h=>YcX h
def setP(o i v:P)(st:Stor):Option Stor:=match o with
 | .ref k=>(match st[k]? with
  |some (.lst xs)=>(match i with
   | .int j=>(ixN xs.length j).map fun n=>st.set k (.lst (xs.set n v))
   |_=>none)
  |some (.dct kvs)=>(match keyP i with
   |some key=>if kvs.length<cap then some (st.set k (.dct (putP kvs key v))) else none
   |none=>none)
  |_=>none)
 |_=>none
def sPut(mo mi me:ME):MS:=fun ρ st=>RS.ofE ρ (me ρ st) fun v st1=>RS.ofE ρ (mo ρ st1) fun o st2=>RS.ofE ρ (mi ρ st2) fun i st3=>match setP o i v st3 with
 |some st4=>.nx ρ st4
 |none=>.bad
theorem Yik(hu:X.A.units+7<cLine){to ti te:TE}(ho:PE X o to)(hi:PE X i ti)(hv:PE X e te)(hs:swapsWith e (some (.Subscript o i pos')) pos.line X.env=pure false):
 PS X (.Assign [.Subscript o i pos'] e pos) (fun D σ H=>te σ H fun v H1=>to σ H1 fun x H2=>ti σ H2 fun y H3=>rSetL x y v H3 (fun H4=>D.nx σ H4)\/∃a H4,x=.ref a/\DPut H3 a y v H4/\D.nx σ H4):=by
 intro pins s σ H D I h
 refine wpAny_Assign_Subscript (thn (hv pins s σ H _ I h) fun r s1 ⟨v,H1,I1,rv,q1⟩=>thn (ho pins s1 σ H1 _ I1 q1) fun u s2 ⟨x,H2,I2,rx,q2⟩=>thn (hi pins s2 σ H2 _ I2 q2) fun iv s3 ⟨y,H3,I3,ry,q3⟩=>?_) hs
 rcases q3 with q3|⟨a,H4,ex,g,q3⟩
 ·exact thn (YiB pins s3 σ H3 x y v u iv r _ I3 rx ry rv q3) fun _ s4 ⟨H4,I4,q4⟩=>⟨σ,H4,I4,q4⟩
 ·subst ex
  obtain rfl:u=Value.ref a:=rx
  exact Yf0 hu I3 g ry rv fun s4 I4=>⟨σ,H4,I4,q3⟩
theorem YaY(hu:X.A.units+7<cLine)(ho:JE X o mo)(hi:JE X i mi)(hv:JE X e me)(hs:swapsWith e (some (.Subscript o i pos')) pos.line X.env=pure false:=by rfl):JS X (.Assign [.Subscript o i pos'] e pos) (sPut mo mi me):=
 PS.imp (Yik hu ho hi hv hs) fun D σ H ⟨as,ρ,st,en,rp,h⟩=>⟨as,ρ,st,en,rp,PostS.ofE h fun pv st1 as1 H1 v x1 rp1 dv h1=>⟨as1,ρ,st1,en.ext x1,rp1,PostS.ofE h1 fun po st2 as2 H2 x x2 rp2 dx h2=>
  ⟨as2,ρ,st2,(en.ext x1).ext x2,rp2,PostS.ofE h2 fun pi st3 as3 H3 y x3 rp3 dy h3=>by
   have dv:=(dv.ext x2).ext x3
   have dx:=dx.ext x3
   have en3:=((en.ext x1).ext x2).ext x3
   cases q:setP po pi pv st3 with
   |none=>rw[q]at h3;exact h3.elim
   |some st4=>
    rw[q]at h3
    unfold setP at q
    cases po with
    |ref k=>
     simp only at q
     cases w:st3[k]? with
     |none=>rw[w]at q;cases q
     |some ob=>
      rw[w]at q
      cases ob with
      |lst xs=>
       simp only at q
       cases pi with
       |int j=>
        simp only at q
        cases z:ixN xs.length j with
        |none=>rw[z]at q;cases q
        |some n=>
         rw[z]at q
         cases q
         obtain⟨a,vs,rfl,e1,e2,h4,h5⟩:=Ya2 (xs:=xs) rp3 dx (by unfold lstAt;rw[w])
         cases dy with
         |int=>exact .inl ⟨a,vs,j,n,rfl,rfl,h4,by rw[h5.length];exact z,h3 as3 _ _ (Ext.write h4 trivial) (rp3.lset e1 h4 e2 (Dens.set dv n h5)) (en3.ext (Ext.write h4 trivial))⟩
       |_=>cases q
      |dct kvs=>
       simp only at q
       cases z:keyP pi with
       |none=>rw[z]at q;cases q
       |some key=>
        rw[z]at q
        simp only at q
        by_cases hl:kvs.length<cap
        ·rw[if_pos hl]at q
         cases q
         obtain⟨a,ws,rfl,e1,h4,h5,h6⟩:=YcG rp3 dx w
         have ev:=Ycp dy z
         obtain⟨g1,g2⟩:=Ycs (k:=key) dv h5 h6
         have hlen:ws.length=kvs.length:=by simpa using congrArg List.length h5
         refine .inr ⟨a,_,rfl,DPut.k h4 ⟨ev,Yj4 dy⟩ (by rw[hlen];exact Nat.lt_of_lt_of_le hl YK),?_⟩
         exact h3 as3 _ _ (Ext.write h4 trivial) (rp3.write e1 h4 trivial (fun z=>z) (by rw[w];exact fun z=>z) ⟨_,Yq,g1,g2.ext (Ext.write h4 trivial)⟩) (en3.ext (Ext.write h4 trivial))
        ·rw[if_neg hl]at q;cases q
      |ro xs=>cases q
      |exc c fs=>cases q
      |ddk kvs=>cases q
      |fdc kvs=>cases q
      |fdd kvs=>cases q
      |fn n=>cases q
    |_=>cases q⟩⟩⟩
def eDict0:ME:=fun _ st=>.ok (.ref st.length) (st++[.dct []])
theorem Ybb:JE X (.Dict [] [] pos) eDict0:=PE.imp Yir fun σ H Q ⟨as,ρ,st,en,rp,h⟩ p hp=>
 h (as++[p]) _ _ (Ext.new hp) (rp.new hp ⟨[],Yq,rfl,.nil⟩) (.ref (by rw[<-rp.len];exact VL))
def eGet(md mk mx:ME):ME:=fun ρ st=>(md ρ st).bind fun d st1=>match d with
 | .ref k=>(match st1[k]? with
  |some (.dct _)=>(mk ρ st1).bind fun y st2=>(mx ρ st2).bind fun z st3=>(match st3[k]?,keyP y with
   |some (.dct kvs),some key=>.ok ((valP kvs key).getD z) st3
   |_,_=>.bad)
  |_=>.bad)
 |_=>.bad
theorem YhV{md mk mx:ME}{f:Expr}{apos cpos:Pos}(hu:X.A.units+7<cLine)(ho:JE X o md)(he:JE X e mk)(hf:JE X f mx)(m:M2 X o "get" apos e f cpos):JE X (.Call (.Attribute o "get" apos) [e,f] [] cpos) (eGet md mk mx):=
 PE.imp (YgX hu ho he hf m) fun σ H Q ⟨as,ρ,st,en,rp,h⟩=>⟨as,ρ,st,en,rp,Post.bindE h fun pd st1 as1 H1 x x1 rp1 dx h1=>by
  cases dx with
  |@ref k a ek=>
   simp only at h1
   cases w:st1[k]? with
   |none=>rw[w]at h1;exact h1.elim
   |some ob=>
    rw[w]at h1
    cases ob with
    |dct kvs0=>
     simp only at h1
     obtain⟨a',ws,e0,e1,h4,h5,h6⟩:=YcG rp1 (.ref ek) w
     cases e0
     refine⟨a,rfl,.inl ⟨ws,.inl h4⟩,as1,ρ,st1,en.ext x1,rp1,Post.bindE h1 fun py st2 as2 H2 y x2 rp2 dy h2=>⟨as2,ρ,st2,(en.ext x1).ext x2,rp2,Post.bindE h2 fun pz st3 as3 H3 z x3 rp3 dz h3=>?_⟩⟩
     cases w3:st3[k]? with
     |none=>rw[w3]at h3;exact h3.elim
     |some ob3=>
      rw[w3]at h3
      cases ob3 with
      |dct kvs=>
       cases zk:keyP py with
       |none=>rw[zk]at h3;exact h3.elim
       |some key=>
        rw[zk]at h3
        simp only at h3
        have ea:as3[k]?=some a:=x3.pre _ _ (x2.pre _ _ ek)
        obtain⟨a3,ws3,e3,_,g4,g5,g6⟩:=YcG rp3 (.ref ea) w3
        cases e3
        have ev:=Ycp (dy.ext x3) zk
        refine⟨_,DGet.k g4 ev,?_⟩
        have od:=Wd (k:=key) g5 g6
        refine h3 as3 H3 _ Ext.refl rp3 ?_
        cases hv:valV ws3 key with
        |none=>
         rw[hv]at od
         cases hp:valP kvs key with
         |none=>exact dz
         |some q=>rw[hp]at od;cases od
        |some v=>
         rw[hv]at od
         cases hp:valP kvs key with
         |none=>rw[hp]at od;cases od
         |some q=>rw[hp]at od;cases od with|some dd=>exact dd
      |lst xs=>exact h3.elim
      |ro xs=>exact h3.elim
      |exc c fs=>exact h3.elim
      |ddk kvs=>exact h3.elim
      |fdc kvs=>exact h3.elim
      |fdd kvs=>exact h3.elim
      |fn n=>exact h3.elim
    |lst xs=>exact h1.elim
    |ro xs=>exact h1.elim
    |exc c fs=>exact h1.elim
    |ddk kvs=>exact h1.elim
    |fdc kvs=>exact h1.elim
    |fdd kvs=>exact h1.elim
    |fn n=>exact h1.elim
  |_=>exact h1.elim⟩
def inP:G2:=fun p q st=>match p,q with
 | .str x,.str y=>okP (.bl (!(Builtin.Str.occurrences y x 0 y.length 1).isEmpty)) st
 |p,.ref k=>(match st[k]? with
  |some (.dct kvs)=>(match keyP p with
   |some key=>okP (.bl (valP kvs key).isSome) st
   |none=>none)
  |_=>none)
 |_,_=>none
theorem Z9{K:PySem.W.Frag}{as:List Addr}{H:Hp}{v:Option V}{p:Option P}(h:OptDen K as H v p):v.isSome=p.isSome:=by cases h <;> rfl
theorem Yhx(hu:X.A.units+7<cLine):OpR X (compareOp .In) (rM X inP):=opM fun pins s σ H x y v u Q as st p q I rx ry rp d1 d2 h=>by
 cases d2 with
 |str=>
  cases d1 with
  |str=>exact Yfp pins s σ H _ _ v u Q I rx ry ⟨_,_,_,_,rfl,rfl,h as H _ Ext.refl rp .bl⟩
  |_=>exact h.elim
 |@ref k a e=>
  have h':PostO X as H (match st[k]? with
   |some (.dct kvs)=>(match keyP p with
    |some key=>okP (.bl (valP kvs key).isSome) st
    |none=>none)
   |_=>none) Q:=by cases d1 <;> exact h
  cases w:st[k]? with
  |none=>rw[w]at h';exact h'.elim
  |some ob=>
   rw[w]at h'
   cases ob with
   |dct kvs=>
    cases z:keyP p with
    |none=>simp only[z]at h';exact h'.elim
    |some key=>
     simp only[z]at h'
     obtain⟨a',ws,e0,_,g4,g5,g6⟩:=YcG rp (.ref e) w
     cases e0
     have ev:=Ycp d1 z
     cases ry
     refine d_in hu I (DGet.k (k:=key) g4 ev) rx fun s3 I3=>⟨.bl _,H,I3,rfl,?_⟩
     rw[Z9 (Wd (k:=key) g5 g6)]
     exact h' as H _ Ext.refl rp .bl
   |_=>exact h'.elim
 |_=>cases d1 <;> exact h.elim
end
section
variable{prog:Program}{w:World}{A:Around}{E:Value->Shared->Prop}{s:Shared}
theorem Vv{t sl:Addr}{items:Array Value}{vl vu:Value}{lo hi:Option Int}{Q:Value->Shared->Prop}(ht:IsTup s.heap t items)(hs:s.heap.IsSliceOf sl vl vu .none)(pl:IsPart vl lo)(pu:IsPart vu hi)
 (hw:HT.sIx items.size 0 lo=0/\HT.sIx items.size items.size hi=items.size) (h:Q (.ref t) s):wpAny (model prog w) A (getItem (.ref t) (.ref sl)) Q E s:=by
 obtain⟨os,hos,hcs,hds⟩:=id hs
 have hTs:s.TypeIs (.ref sl) "slice":=⟨os,hos,hcs⟩
 unfold getItem
 try with_reducible refine wpAny_holding ?_
 first|refine wpAny_bind (wpAny_pure ?_)|skip
 refine wpAny_bind (wpAny_sequenceKey ht.typeIs (by decide) ?_)
 refine wpAny_bind (wpAny_callSpecial?_slot (name:=Str.ofString "__getitem__") ht.typeIs PyProof.Rows.slot_tuple_getitem
  (wpAny_call_entry PyProof.Rows.slot_tuple_getitem ht.typeIs entry_tuple_getitem ?_ (args_tuple_getitem _ _)))
 show wpAny _ _ (Builtin.Tuple.tupleItemsOf (.ref t) >>= _) _ _ s
 refine wpAny_bind (tupleItemsOf_ ht ?_)
 refine wpAny_bind (wpAny_typeOf hTs ?_)
 rw[if_pos (by decide)]
 refine wpAny_bind (HT.sliceApplied_gen hs pl pu ?_)
 have hno:(((HT.sIx items.size 0 lo:Nat):Int) == 0 && (1:Int) == 1 && (HT.sIx items.size items.size hi - HT.sIx items.size 0 lo) == items.size)=true:=by
  rw[hw.1,hw.2];simp
 show wpAny _ _ (if (((HT.sIx items.size 0 lo:Nat):Int) == 0 && (1:Int) == 1 && (HT.sIx items.size items.size hi - HT.sIx items.size 0 lo) == items.size)=true then _ else _) _ _ s
 rw[if_pos hno]
 refine wpAny_bind ?_
 unfold Builtin.Tuple.tupleIsExact
 refine wpAny_bind (wpAny_typeOf ht.typeIs (wpAny_pure ?_))
 rw[if_pos (by decide)]
 exact wpAny_bind (wpAny_rule (wpAny_pure ⟨_,rfl,wpAny_pure h⟩))
end
abbrev MO:=Rho->Stor->R (Option Int)
def PostN(X:Cx)(as:List Addr)(H:Hp)(ρ:Rho)(r:R (Option Int))(Q:Option Int->Hp->Prop):Prop:=
 match r with
 | .ok o st'=>∀as' H',Ext as H as' H'->Rep X.K as' st' H'->Q o H'
 | .exc k st'=>XOk X as H ρ k st'
 | .bad=>False
def tO(X:Cx)(m:MO):TO:=fun σ H Q=>∃as ρ st,EnvOk X.K as H ρ σ/\Rep X.K as st H/\PostN X as H ρ (m ρ st) Q
abbrev JO(X:Cx)(e:Option Expr)(m:MO):Prop:=PO X e (tO X m)
theorem PO.imp{X:Cx}{e:Option Expr}{t t':TO}(h:PO X e t)(i:∀σ H Q,t' σ H Q->t σ H Q):PO X e t':=fun pins s σ H Q I q=>h pins s σ H Q I (i σ H Q q)
def oNone:MO:=fun _ st=>.ok none st
def oSome(me:ME):MO:=fun ρ st=>(me ρ st).bind fun p st1=>match p with
 | .int i=>.ok (some i) st1
 |_=>.bad
section
variable{X:Cx}{e:Expr}{me:ME}{lo hi:Option Expr}{ml mh:MO}{pos p2:Pos}
theorem PostN.ext{as as1:List Addr}{H H1:Hp}{ρ:Rho}{r:R (Option Int)}{Q:Option Int->Hp->Prop}(x:Ext as H as1 H1)(h:PostN X as H ρ r Q):PostN X as1 H1 ρ r Q:=by
 cases r with
 |ok p st'=>exact fun as' H' y=>h as' H' (x.trans y)
 |exc k st'=>exact XOk.ext x h
 |bad=>exact h
theorem PostN.bindE{as:List Addr}{H:Hp}{ρ:Rho}{r:R P}{f:P->Stor->R (Option Int)}{Q:Option Int->Hp->Prop}{Q':VK}(h:PostN X as H ρ (r.bind f) Q)
 (go:∀p st1 as1 H1 v,Ext as H as1 H1->Rep X.K as1 st1 H1->Den X.K as1 H1 v p->PostN X as1 H1 ρ (f p st1) Q->Q' v H1):Post X as H ρ r Q':=by
 cases r with
 |ok p st1=>exact fun as1 H1 v x rp d=>go p st1 as1 H1 v x rp d (PostN.ext x h)
 |exc k st'=>exact h
 |bad=>exact h
theorem Post.bindN{as:List Addr}{H:Hp}{ρ:Rho}{r:R (Option Int)}{f:Option Int->Stor->R P}{Q:VK}{Q':Option Int->Hp->Prop}(h:Post X as H ρ (r.bind f) Q)
 (go:∀b st1 as1 H1,Ext as H as1 H1->Rep X.K as1 st1 H1->Post X as1 H1 ρ (f b st1) Q->Q' b H1):PostN X as H ρ r Q':=by
 cases r with
 |ok p st1=>exact fun as1 H1 x rp=>go p st1 as1 H1 x rp (Post.ext x h)
 |exc k st'=>exact h
 |bad=>exact h
theorem Y1:JO X none oNone:=PO.imp YiJ fun σ H Q ⟨as,ρ,st,en,rp,h⟩=>h as H Ext.refl rp
theorem Yz(he:JE X e me):JO X (some e) (oSome me):=PO.imp (Yjh he) fun σ H Q ⟨as,ρ,st,en,rp,h⟩=>⟨as,ρ,st,en,rp,PostN.bindE h fun p st1 as1 H1 v x rp1 d h1=>by
 cases d with
 |int=>exact⟨_,rfl,h1 as1 H1 Ext.refl rp1⟩
 |_=>exact h1.elim⟩
def cutP(xs:List P)(lo hi:Option Int):List P:=(xs.drop (HT.sIx xs.length 0 lo)).take (HT.sIx xs.length xs.length hi - HT.sIx xs.length 0 lo)
theorem YcB{K:PySem.W.Frag}{as:List Addr}{H:Hp}{vs:List V}{xs:List P}(d:Dens K as H vs xs)(lo hi:Option Int):Dens K as H (cutV vs lo hi) (cutP xs lo hi):=by
 unfold cutV cutP
 rw[d.length]
 exact (d.drop _).take _
def slP(p:P)(lo hi:Option Int)(st:Stor):Option (P×Stor):=match p with
 | .str z=>if z.length<=cap then okP (.str (Txt.slice z lo hi)) st else none
 | .tup xs=>okP (.tup (cutP xs lo hi)) st
 | .ref k=>(match st[k]? with
  |some (.lst xs)=>newL (cutP xs lo hi) st
  |some (.ro xs)=>newL (cutP xs lo hi) st
  |_=>none)
 |_=>none
def rMS(X:Cx):V->Option Int->Option Int->Hp->VK->Prop:=fun x lo hi H Q=>∃as st p,Rep X.K as st H/\Den X.K as H x p/\PostO X as H (slP p lo hi st) Q
theorem YdG{v:Value}{o:Option Int}(p:IsPart v o):∃q:Option (Int×Tok),v=partValue q/\q.map (·.1)=o:=by
 cases p with
 |none=>exact⟨none,rfl,rfl⟩
 |int i t=>exact⟨some (i,t),rfl,rfl⟩
theorem Ycg{s:Shared}{c:Prop} [Decidable c]{y z:Str}{t:Tok}{Q:Value->Shared->Prop}(h1:c->Q (.str y t) s)(h2:¬c->z.length<=sizeLine/\Q (.str z s.toks) { s with toks:=s.toks+1 }):(if c then Made.val (.str y t) else Made.str z).post Q s:=by
 by_cases hc:c
 ·rw[if_pos hc];exact h1 hc
 ·rw[if_neg hc];exact h2 hc
theorem Yk0:SlR X (fun x lo hi H Q=>∃z tz,x=.str z tz/\z.length<=cap/\(Txt.slice z lo hi=z->Q (.str z tz) H)/\MkT (Txt.slice z lo hi) Q H):=by
 intro pins s σ H x v vl vu lo hi sl Q I rx hs pl pu h
 obtain⟨z,t,rfl,hz,q0,q⟩:=h
 cases rx
 obtain⟨ql,rfl,el⟩:=YdG pl
 obtain⟨qu,rfl,eu⟩:=YdG pu
 obtain⟨o,ho,hc,hd⟩:=id hs
 refine⟨"str",_,PySem.F.slot_str_getitem.lookup,typeIs_str _ _ _,wpAny_getItem_str_slice (l:=ql) (u:=qu) (st:=none) ⟨o,ho,hc,hd⟩ rfl ?_⟩
 unfold sliceMade
 have e:slicePicked z ql qu none=Builtin.Str.strSliceIndices lo hi 1 z.length:=by unfold slicePicked;rw[el,eu];rfl
 rw[e]
 have hle:(Txt.slice z lo hi).length<=sizeLine:=Nat.le_trans (Txt.slice_le z lo hi) (Nat.le_trans hz YK)
 refine Ycg (fun c=>⟨.str z t,H,I,rfl,q0 (if_pos c)⟩) fun c=>?_
 have es:Txt.slice z lo hi=⟨((Builtin.Str.strSliceIndices lo hi 1 z.length).filterMap (z.cps[·]?)).toArray⟩:=if_neg c
 rw[es]at hle q
 exact⟨hle,.str _ _,_,I.txt,rfl,q _ I.fresh_tok.1 I.fresh_tok.2⟩
theorem Yi2:SlR X (fun x lo hi H Q=>∃a xs,x=.ref a/\SqT X.K H a xs/\HT.sIx xs.length 0 lo=0/\HT.sIx xs.length xs.length hi=xs.length/\Q (.ref a) H):=by
 intro pins s σ H x v vl vu lo hi sl Q I rx hs pl pu h
 obtain⟨a,xs,rfl,hx,h1,h2,q⟩:=h
 cases rx
 obtain⟨its,r,ht,hz⟩:=I.tuple hx
 have hlen:its.toArray.size=xs.length:=by rw[List.size_toArray];exact r.length.symm
 exact⟨"tuple",_,PyProof.Rows.slot_tuple_getitem.lookup,ht.typeIs,Vv ht hs pl pu (by rw[hlen];exact⟨h1,h2⟩) ⟨.ref a,H,I,rfl,q⟩⟩
theorem SlR.imp{r r':V->Option Int->Option Int->Hp->VK->Prop}(h:SlR X r)(i:∀x lo hi H Q,r' x lo hi H Q->r x lo hi H Q):SlR X r':=fun pins s σ H x v vl vu lo hi sl Q I rx hs pl pu q=>h pins s σ H x v vl vu lo hi sl Q I rx hs pl pu (i x lo hi H Q q)
theorem YlA:SlR X (rMS X):=SlR.imp ((Yk0 (X:=X)).or ((YjY (X:=X)).or ((Yi2 (X:=X)).or (YiX (X:=X))))) fun x lo hi H Q ⟨as,st,p,rp,d,h⟩=>by
 cases d with
 |@str z tz hx zx=>
  have h':PostO X as H (if z.length<=cap then okP (.str (Txt.slice z lo hi)) st else none) Q:=h
  by_cases hz:z.length<=cap
  ·rw[if_pos hz]at h'
   exact .inl ⟨z,_,rfl,hz,fun e=>h' as H _ Ext.refl rp (by rw[e];exact .str hx zx),mkT rp fun as1 H1 v x r d=>h' as1 H1 v x r d⟩
  ·rw[if_neg hz]at h';exact h'.elim
 |@tup a vs xs e r=>
  have h':PostO X as H (okP (.tup (cutP xs lo hi)) st) Q:=h
  by_cases w:HT.sIx vs.length 0 lo=0/\HT.sIx vs.length vs.length hi=vs.length
  ·refine .inr (.inr (.inl ⟨a,vs,rfl,e,w.1,w.2,?_⟩))
   have ec:cutP xs lo hi=xs:=by
    unfold cutP
    rw[<-r.length,w.1,w.2,List.drop_zero,List.take_of_length_le (by rw[r.length];exact Nat.le_refl _)]
   rw[ec]at h'
   exact h' as H _ Ext.refl rp (.tup e r)
  ·exact .inr (.inl ⟨a,vs,rfl,e,w,fun p hp=>h' as _ _ (Ext.laid hp) (rp.laid hp) (.tup (.of Yq) ((YcB r lo hi).ext (Ext.laid hp)))⟩)
 |@ref k a e=>
  have h':PostO X as H (match st[k]? with|some (.lst xs)=>newL (cutP xs lo hi) st|some (.ro xs)=>newL (cutP xs lo hi) st|_=>none) Q:=h
  cases w:st[k]? with
  |none=>rw[w]at h';exact h'.elim
  |some ob=>
   rw[w]at h'
   have r:=rp.ob k a ob e w
   cases ob with
   |lst xs=>obtain⟨vs,h1,h2⟩:=r;exact .inr (.inr (.inr ⟨a,vs,rfl,.of h1,fun p hp=>ZR rp (YcB h2 lo hi) h' hp⟩))
   |ro xs=>obtain⟨vs,h1,h2⟩:=r;exact .inr (.inr (.inr ⟨a,vs,rfl,WS h1,fun p hp=>ZR rp (YcB h2 lo hi) h' hp⟩))
   |dct kvs=>exact h'.elim
   |exc c fs=>exact h'.elim
   |ddk kvs=>exact h'.elim
   |fdc kvs=>exact h'.elim
   |fdd kvs=>exact h'.elim
   |fn n=>exact h'.elim
 |_=>exact h.elim
def eSl(me:ME)(ml mh:MO):ME:=fun ρ st=>(me ρ st).bind fun p st1=>(ml ρ st1).bind fun l st2=>(mh ρ st2).bind fun u st3=>ofO (slP p l u st3)
theorem YR(he:JE X e me)(hl:JO X lo ml)(hu:JO X hi mh):JE X (.Subscript e (.Slice lo hi none p2) pos) (eSl me ml mh):=
 PE.imp (Yhb YlA he hl hu) fun σ H Q ⟨as,ρ,st,en,rp,h⟩=>⟨as,ρ,st,en,rp,Post.bindE h fun p st1 as1 H1 v x rp1 d h1=>⟨as1,ρ,st1,en.ext x,rp1,Post.bindN h1 fun l st2 as2 H2 x2 rp2 h2=>
  ⟨as2,ρ,st2,(en.ext x).ext x2,rp2,Post.bindN h2 fun u st3 as3 H3 x3 rp3 h3=>⟨as3,st3,p,rp3,(d.ext x2).ext x3,Post.ofO h3⟩⟩⟩⟩
end
section
variable{X:Cx}{e:Expr}{me:ME}{pos p p':Pos}
def mgTup(n:Nat)(r:MGs):MG:=fun p ρ st=>match seqAt p st with
 |some xs=>if xs.length=n then r xs ρ st else none
 |none=>none
theorem Va{n k:Nat}{r:MGs}(h:GsOnly n r):GOnly n (mgTup k r):=fun p ρ st ρ1 e=>by
 unfold mgTup at e
 cases q:seqAt p st with
 |none=>rw[q]at e;cases e
 |some xs=>
  rw[q]at e
  simp only at e
  by_cases z:xs.length=k
  ·rw[if_pos z]at e;exact h _ _ _ _ e
  ·rw[if_neg z]at e;cases e
theorem YbB{prog:Program}{w:World}{A:Around}{E:Value->Shared->Prop}{it t:Addr}{items:Array Value}(hne:t≠it):∀(n i:Nat)(s:Shared)(Q:List Value->Shared->Prop),s.heap.IsListIter it t i->s.heap.IsList t items->i+n<=items.size->
 (∀h',h'.IsListIter it t (i+n)->Heap.SameBut it s.heap h'->Q ((items.toList.drop i).take n) { s with heap:=h' })->wpAny (model prog w) A (draw (.ref it) n) Q E s
 | 0,i,s,Q,hit,ht,hl,hQ=>by
  show wpAny _ _ (pure []) Q E s
  exact wpAny_pure (hQ s.heap hit (.refl ..))
 |n+1,i,s,Q,hit,ht,hl,hQ=>by
  have hlt:i<items.size:=by omega
  show wpAny _ _ (pyNext (.ref it) >>= _) Q E s
  refine wpAny_bind (wpAny_pyNext_list_item hit ht (x:=items[i]) (by simp[hlt]) fun h₁ hit₁ hs₁=>?_)
  refine wpAny_bind (wpAny_holding (YbB hne n (i+1) _ _ hit₁ (ht.extBut hs₁.extBut hne) (by omega) fun h₂ hit₂ hs₂=>wpAny_pure ?_))
  have hd:items.toList.drop i=items[i]::items.toList.drop (i+1):=by simp[List.drop_eq_getElem_cons,hlt]
  have:=hQ h₂ (by rw[show i+(n+1)=i+1+n by omega];exact hit₂) (hs₁.trans hs₂)
  rw[hd,List.take_succ_cons]at this
  exact this
theorem Jw{prog:Program}{w:World}{A:Around}{E:Value->Shared->Prop}{s:Shared}{t:Addr}{items:Array Value}{Q:List Value->Shared->Prop}(hh:A.handled=none)(ht:s.heap.IsList t items)
 (hQ:∀h',Heap.ExtBut s.heap.objs.size s.heap h'->Q items.toList { s with heap:=h' }):wpAny (model prog w) A (unpackItems (.ref t) items.size none) Q E s:=by
 have hlt:t≠s.heap.objs.size:=by obtain⟨o,ho,_⟩:=ht;exact Nat.ne_of_lt (Heap.lt_size ho)
 unfold unpackItems
 refine wpAny_bind ?_
 ·unfold notIterableAtAll
  refine wpAny_bind (wpAny_specialOf ht.typeIs PySem.F.slot_list_iter.lookup ?_)
  refine wpAny_pure ?_
  simp only[Bool.false_eq_true,if_false]
  refine wpAny_bind (wpAny_holding (wpAny_pyIter_list ht ?_))
  refine wpAny_bind (wpAny_holding (YbB hlt items.size 0 _ _ ⟨_,Heap.get?_push_size _ rfl,rfl,rfl⟩ (ht.push _) (by omega) fun h₁ hit₁ hs₁=>?_))
  have hall:List.take items.size (List.drop 0 items.toList)=items.toList:=by
   rw[List.drop_zero];exact List.take_of_length_le (by simp)
  rw[hall]
  rw[if_neg (by simp)]
  have ht₁:h₁.IsList t items:=(ht.push _).extBut hs₁.extBut hlt
  refine wpAny_bind (wpAny_holding (wpAny_pyNext_list_end hh hit₁ ht₁ (by simp) fun h₂ he₂=>?_))
  simp only[Option.isSome_none,Bool.false_eq_true,if_false]
  refine wpAny_pure (hQ h₂ fun b o hb e=>he₂ b o hb (hs₁.extBut b o hb (Heap.get?_push_of_some _ e)))
theorem VZ{prog:Program}{w:World}{A:Around}{E:Value->Shared->Prop}{s:Shared}{env:Env}{elts:List Expr}{x1}{pos:Pos}{t:Addr}{items:Array Value}{Q:Unit->Shared->Prop}(hh:A.handled=none)(ht:s.heap.IsList t items)
 (hn:(assignEach elts env).length=items.size) (hstar:(assignEach elts env).findIdx? (·.1)=none)
 (h:∀h',Heap.ExtBut s.heap.objs.size s.heap h'->wpAny (model prog w) A (assignInOrder ((assignEach elts env).map (·.2)) items.toList) Q E { s with heap:=h' }):
 wpAny (model prog w) A (assign (.Tuple elts x1 pos) env (.ref t)) Q E s:=by
 rw[assign_Tuple]
 refine wpAny_bind (wpAny_standAt ?_)
 unfold unpack
 rw[hn,hstar]
 exact wpAny_bind (wpAny_holding (Jw hh ht h))
theorem Ykc{es:List Expr}{k:Nat}{t:TGs}{n:Nat}(hc:X.calm=true)(h:PGs X es t)
 (hn:(assignEach es X.env).length=n:=by rfl) (hst:(assignEach es X.env).findIdx? (·.1)=none:=by rfl):PG X (.Tuple es k pos) (fun v σ H Q=>∃a xs,v=.ref a/\(SqL X.K H a xs\/SqT X.K H a xs)/\xs.length=n/\t xs σ H Q):=by
 intro pins s σ H v u Q I r hw
 obtain⟨a,xs,e1,hq,hl,hw⟩:=hw
 subst e1
 rcases hq with hq|hq
 ·cases r
  obtain⟨its,rv,ht,hz⟩:=I.list hq
  refine VZ (I.ok.hd hc) ht.isList (by simp[hn,<-hl,rv.length]) hst fun h' hx=>?_
  have I1:Inv X pins σ H { s with heap:=h' }:=I.kept (t':=s.toks) fun b o e=>hx b o (Nat.ne_of_lt (Heap.lt_size e)) e
  exact h pins _ σ H xs _ Q I1 (by simpa using rv) hw
 ·exact YkA hc h hn hst pins s σ H _ u Q I r ⟨a,xs,rfl,hq,hl,hw⟩
theorem Zf{es:List Expr}{k:Nat}{r:MGs}{n:Nat}(hc:X.calm=true)(h:JGs X es r)
 (hn:(assignEach es X.env).length=n:=by rfl) (hst:(assignEach es X.env).findIdx? (·.1)=none:=by rfl):JG X (.Tuple es k pos) (mgTup n r):=
 PG.imp (Ykc hc h hn hst) fun v σ H Q ⟨as,ρ,st,p,ρ',en,rp,d,g,q⟩=>by
  unfold mgTup at g
  cases w:seqAt p st with
  |none=>rw[w]at g;cases g
  |some xs=>
   rw[w]at g
   simp only at g
   by_cases z:xs.length=n
   ·rw[if_pos z]at g
    obtain⟨a,vs,rfl,hq,r⟩:=Yio rp d w
    exact⟨a,vs,rfl,hq,by rw[r.length];exact z,as,ρ,st,xs,ρ',en,rp,r,g,q⟩
   ·rw[if_neg z]at g;cases g
def sTup(me:ME)(g:MG):MS:=fun ρ st=>RS.ofE ρ (me ρ st) fun p st1=>match g p ρ st1 with
 |some ρ'=>.nx ρ' st1
 |none=>.bad
theorem YaA{tg:Expr}{g:MG}(he:JE X e me)(hg:JG X tg g)(hs:swapsWithSole [tg] e pos.line X.env=pure false:=by rfl)(hw:swappedStores [tg] e X.env=pure none:=by rfl)
 (h1:(assignEach [tg] X.env).map (·.2)=[assign tg X.env]:=by rfl):JS X (.Assign [tg] e pos) (sTup me g):=
 PS.imp (YkP he hg hs hw h1) fun D σ H ⟨as,ρ,st,en,rp,h⟩=>⟨as,ρ,st,en,rp,PostS.ofE h fun p st1 as1 H1 v x rp1 d h1=>by
  cases w:g p ρ st1 with
  |none=>rw[w]at h1;exact h1.elim
  |some ρ'=>rw[w]at h1;exact⟨as1,ρ,st1,p,ρ',en.ext x,rp1,d,w,fun σ' en'=>h1 as1 H1 σ' Ext.refl rp1 en'⟩⟩
end
structure ZAp(z TI TO i1 i2:Addr):Prop where
 TIz:TI≠z
 TOz:TO≠z
 i1z:i1≠z
 i2z:i2≠z
 TITO:TI≠TO
 TIi1:TI≠i1
 TIi2:TI≠i2
 TOi1:TO≠i1
 TOi2:TO≠i2
 i12:i1≠i2
section
variable{X:Cx}{elts:List Expr}{x1:Nat}{tp p pos:Pos}{e f:Expr}
def listAt(st:Stor)(k:Nat):Option (List P):=match st[k]? with
 |some (.lst xs)=>some xs
 |some (.ro xs)=>some xs
 |_=>none
theorem Ycl{K:PySem.W.Frag}{as:List Addr}{st:Stor}{H:Hp}{k:Nat}{xs:List P}{a:Addr}(rp:Rep K as st H)(e:as[k]?=some a)(h:listAt st k=some xs):∃vs,SqL K H a vs/\Dens K as H vs xs:=by
 unfold listAt at h
 cases q:st[k]? with
 |none=>rw[q]at h;cases h
 |some o=>
  rw[q]at h
  have ob:=rp.ob k a _ e q
  cases o with
  |lst ys=>cases h;obtain⟨vs,h1,h2⟩:=ob;exact⟨vs,.of h1,h2⟩
  |ro ys=>cases h;obtain⟨vs,h1,h2⟩:=ob;exact⟨vs,WS h1,h2⟩
  |dct ys=>cases h
  |exc c ys=>cases h
  |ddk kvs=>cases h
  |fdc kvs=>cases h
  |fdd kvs=>cases h
  |fn n=>cases h
end
section
variable{M:Model}{A:Around}{E:Value->Shared->Prop}{s:Shared}
theorem YfK{src:Source}{n:Nat}{Q:Nat->Shared->Prop}(hn:n≠0)(h:∀i,i<n->Q i { s with drawn:=s.drawn.bump src }):wpAny M A (choose src n) Q E s:=
 fun _ _ _=>⟨hn,h _ (Nat.mod_lt _ (Nat.pos_of_ne_zero hn))⟩
end
theorem Yef(t:SetTable)(es:Array (Int×Value))(h:Int)(x:Value):(layNew t es h x).2.1.led=t.led:=by
 unfold layNew
 split
 ·simp only[SetTable.orStandIn]
  split <;> rfl
 ·rfl
theorem YcM(t:SetTable)(es:Array (Int×Value))(h:Int)(x:Value)(p:t.plain=false):(layNew t es h x).2.1.plain=false:=by
 unfold layNew
 split
 ·simp only[SetTable.orStandIn]
  split
  ·exact p
  ·rfl
 ·rfl
theorem Ya6{mask finger moves:Nat}{led plain:Bool}{hs:Array Int}{t:SetTable}{o:Array Nat}(h:SetTable.laid mask finger moves led plain hs=some (t,o)):t.led=led/\t.plain=plain:=by
 unfold SetTable.laid at h
 cases q:SetTable.layClean mask hs with
 |none=>rw[q]at h;cases h
 |some ow=>
  rw[q]at h
  cases h
  exact⟨rfl,rfl⟩
theorem Ycq(t:SetTable)(es:Array (Int×Value))(n:Nat):(relayAll t es n).2.1.led=t.led:=by
 unfold relayAll
 split
 ·rename_i t' o e
  dsimp only
  split
  ·exact (Ya6 e).1
  ·rfl
 ·rfl
theorem Ya8(t:SetTable)(es:Array (Int×Value))(n:Nat)(p:t.plain=false):(relayAll t es n).2.1.plain=false:=by
 unfold relayAll
 split
 ·rename_i t' o e
  dsimp only
  split
  ·exact (Ya6 e).2.trans p
  ·rfl
 ·rfl
abbrev byText(w:World):Bool:=w.params.followText "set-order"
def setObj(es:Array (Int×Value))(ep:Nat)(t:SetTable):Obj:={ cls:=.type "set",dict:=none,data:=.set es ep t,slots:=#[] }
structure TT1(prog:Program)(w:World)(es:Array (Int×Value))(t:SetTable)(ks:List Str)(G:Value->Prop):Prop where
 el:ElemsOf (strKind prog w) es.toList
 fit:t.fits es.size=true
 led:t.led= !(byText w)
 pl:es.size=0\/t.plain=false
 pm:(es.toList.map fun e=>strOf e.2).Perm ks
 gd:∀e∈es.toList,G e.2
def TS(prog:Program)(w:World)(h:Heap)(a:Addr)(ks:List Str)(G:Value->Prop):Prop:=∃es ep t,h.get? a=some (setObj es ep t)/\TT1 prog w es t ks G
theorem TT1.sz{prog:Program}{w:World}{es:Array (Int×Value)}{t:SetTable}{ks:List Str}{G:Value->Prop}(h:TT1 prog w es t ks G):es.size=ks.length:=by
 rw[<-h.pm.length_eq];simp
theorem TT1.mem{prog:Program}{w:World}{es:Array (Int×Value)}{t:SetTable}{ks:List Str}{G:Value->Prop}(h:TT1 prog w es t ks G)(k:Str):k∈ks↔∃e∈es.toList,(strKind prog w).is k e.2=true:=by
 rw[<-h.pm.mem_iff,List.mem_map]
 constructor
 ·rintro⟨e,he,rfl⟩
  obtain⟨⟨k',hk,_⟩,_⟩:=h.el e he
  obtain⟨t',e'⟩:=Value.isStrOf_shape hk
  exact⟨e,he,by rw[e'];exact strKind_is _ _ _ _⟩
 ·rintro⟨e,he,hk⟩
  obtain⟨t',e'⟩:=Value.isStrOf_shape hk
  exact⟨e,he,by rw[e'];rfl⟩
section
variable{prog:Program}{w:World}{A:Around}{E:Value->Shared->Prop}{s:Shared}
theorem Ya3{g:Bool->Sem Unit}(hg:∀(b:Bool)(s1:Shared)(Q1:Unit->Shared->Prop),Q1 () s1->wpAny (model prog w) A (g b) Q1 E s1)
 {a:Addr} {es es1:Array (Int×Value)} {ep:Nat} {t t2:SetTable} (ho:s.heap.get? a=some (setObj es ep t)) (hb:es1.size<scanBound) {dm:Bool} {R:Option Bool->Shared->Prop}
 (hf:t2.fits es1.size=true) (hp:t2.plain=false)
 (fin:∀h' es' ep' t',Heap.SameBut a s.heap h'->h'.get? a=some (setObj es' ep' t')->es'.toList.Perm es1.toList->t'.fits es'.size=true->t'.led=t2.led->t'.plain=false->R (some true) { s with heap:=h' }):
 wpAny (model prog w) A (do
  storeSet a es1 t2
  if (!dm && t2.tooFull)=true then do
   g (relayAll t2 es1 (SetTable.grown es1.size)).2.2
   storeSet a (relayAll t2 es1 (SetTable.grown es1.size)).1 (relayAll t2 es1 (SetTable.grown es1.size)).2.1
   pure (some true)
  else pure (some true)) R E s:=by
 refine wpAny_bind (wpAny_storeSet_of ho rfl ?_ (fits_of_scanBound hb))
 have g1:(s.heap.update a (Obj.putSet es1 t2)).get? a=some (setObj es1 (ep+1) t2):=by
  have:=Heap.get?_update_self (Obj.putSet es1 t2) ho (by rw[putSet_of es1 t2 rfl];rfl)
  rw[putSet_of es1 t2 rfl]at this
  exact this
 have b1:=Heap.SameBut.update s.heap a (Obj.putSet es1 t2)
 split
 ·have e1:=relayAll_perm t2 es1 (SetTable.grown es1.size)
  have e2:=relayAll_fits t2 es1 (SetTable.grown es1.size)
  have e3:=Ycq t2 es1 (SetTable.grown es1.size)
  have e4:=Ya8 t2 es1 (SetTable.grown es1.size) hp
  generalize relayAll t2 es1 (SetTable.grown es1.size)=r at e1 e2 e3 e4 ⊢
  obtain⟨es2,t3,gw⟩:=r
  dsimp only at e1 e2 e3 e4 ⊢
  have hb2:es2.size<scanBound:=by
   have:=e1.length_eq
   simp only[Array.length_toList]at this
   rw[this];exact hb
  refine wpAny_bind (hg _ _ _ ?_)
  refine wpAny_bind (wpAny_storeSet_of g1 rfl ?_ (fits_of_scanBound hb2))
  have g2:((s.heap.update a (Obj.putSet es1 t2)).update a (Obj.putSet es2 t3)).get? a=some (setObj es2 (ep+1+1) t3):=by
   have:=Heap.get?_update_self (Obj.putSet es2 t3) g1 (by rw[putSet_of es2 t3 rfl];rfl)
   rw[putSet_of es2 t3 rfl]at this
   exact this
  exact wpAny_pure (fin _ _ _ _ (b1.trans (Heap.SameBut.update _ a _)) g2 e1 e2 e3 e4)
 ·exact wpAny_pure (fin _ _ _ _ b1 g1 .rfl hf rfl hp)
def putK(ks:List Str)(k:Str):List Str:=if k∈ks then ks else ks++[k]
theorem Yf3{a:Addr}{ks:List Str}{k:Str}{tk:Tok}{Q:Bool->Shared->Prop}{G:Value->Prop}(hG:G (.str k tk))(hS:TS prog w s.heap a ks G)(hr:ks.length+1<scanBound)
 (h:∀h' b,Heap.SameBut a s.heap h'->TS prog w h' a (putK ks k) G->Q b { s with heap:=h' }):wpAny (model prog w) A (setAddHashed a (.str k tk) ((strKind prog w).hash k)) Q E s:=by
 obtain⟨es,ep,t,ho,T⟩:=hS
 have hk:(strKind prog w).is k (.str k tk)=true:=strKind_is _ _ _ _
 have hb:es.size<scanBound:=by rw[T.sz];omega
 have hb1:es.size+1<scanBound:=by rw[T.sz];exact hr
 unfold setAddHashed setAddHashedIn
 refine wpAny_holding (wpAny_bind (wpAny_setState_of ho rfl T.fit ?_))
 dsimp only
 rw[byScan_of (knd:=strKind prog w) (x:=.str k tk) rfl hb T.el]
 simp only[↓reduceIte]
 unfold setAddByScan
 refine wpAny_bind ?_
 refine wpAny_bind (wpAny_rule ?_)
 refine wpAny_bind (wpAny_setScan_of hk ho rfl T.fit T.el ?_)
 cases q:List.findIdx? (fun e=>(strKind prog w).is k e.2) es.toList with
 |some j=>
  dsimp only
  obtain⟨hj,hpj,_⟩:=List.findIdx?_eq_some_iff_getElem.mp q
  have hin:k∈ks:=(T.mem k).mpr ⟨es.toList[j],List.getElem_mem hj,hpj⟩
  refine wpAny_pure (wpAny_pure ?_)
  have:=h s.heap false (Heap.SameBut.refl a s.heap) (by rw[putK,if_pos hin];exact⟨es,ep,t,ho,T⟩)
  cases s;exact this
 |none=>
  dsimp only
  have hin:k∉ks:=fun z=>by
   obtain⟨e,he,hp⟩:=(T.mem k).mp z
   have:=List.findIdx?_eq_none_iff.mp q e he
   rw[hp]at this;cases this
  have hgw:∀(b:Bool){s1:Shared}{Q1:Unit->Shared->Prop},Q1 () s1->wpAny (model prog w) A (match b with|true=>rule "set.scan.the-table-gave-way" |false=>pure ()) Q1 E s1:=
   fun b s1 Q1 z=>by
    cases b
    ·exact wpAny_pure z
    ·exact wpAny_rule z
  have e1:=layNew_perm t es ((strKind prog w).hash k) (.str k tk)
  have e2:=layNew_fits t es ((strKind prog w).hash k) (.str k tk)
  have e3:=Yef t es ((strKind prog w).hash k) (.str k tk)
  have e4:=YcM t es ((strKind prog w).hash k) (.str k tk)
  generalize layNew t es ((strKind prog w).hash k) (.str k tk)=L at e1 e2 e3 e4 ⊢
  obtain⟨es1,t1,dm,gv⟩:=L
  dsimp only at e1 e2 e3 e4 ⊢
  rw[Array.toList_push]at e1
  have hz:es1.size<scanBound:=by
   have:=e1.length_eq
   simp only[Array.length_toList,List.length_append,List.length_singleton]at this
   rw[this];exact hb1
  have el1:ElemsOf (strKind prog w) es1.toList:=(T.el.push hk rfl).perm e1
  have fin:∀(t2:SetTable),t2.led=t1.led->∀(h':Heap)(es':Array (Int×Value))(ep':Nat)(t':SetTable),Heap.SameBut a s.heap h'->h'.get? a=some (setObj es' ep' t')->es'.toList.Perm es1.toList->t'.fits es'.size=true->t'.led=t2.led->t'.plain=false->
   Q true { s with heap:=h' }:=fun t2 l2 h' es' ep' t' sb g' pm ft ld pl=>
   h h' true sb ⟨es',ep',t',g',el1.perm pm,ft,by rw[ld,l2,e3,T.led],.inr pl,by
    rw[putK,if_neg hin]
    refine ((pm.trans e1).map _).trans ?_
    rw[List.map_append]
    exact T.pm.append_right _,fun e he=>by
    rcases List.mem_append.mp ((pm.trans e1).mem_iff.mp he) with z|z
    ·exact T.gd e z
    ·rw[List.mem_singleton.mp z];exact hG⟩
  refine wpAny_bind (hgw _ ?_)
  split
  ·refine wpAny_bind ?_
   rw[hashByValue_scannable 8 rfl]
   refine wpAny_pure ?_
   have hpk:plainKind (.str k tk)=false:=rfl
   rw[hpk]
   simp only[Bool.false_eq_true,↓reduceIte]
   refine Ya3 ?_ ho hz ?_ rfl ?_
   ·intro b s1 Q1 z
    cases b
    ·exact wpAny_pure z
    ·exact wpAny_rule z
   ·exact SetTable.fits_plain_off e2
   ·intro h' es' ep' t' c1 c2 c3 c4 c5 c6
    dsimp only
    exact wpAny_pure (fin _ (by rfl) h' es' ep' t' c1 c2 c3 c4 c5 c6)
  ·rename_i np
   refine wpAny_bind (wpAny_pure ?_)
   simp only[↓reduceIte]
   refine Ya3 ?_ ho hz e2 (by simpa using np) ?_
   ·intro b s1 Q1 z
    cases b
    ·exact wpAny_pure z
    ·exact wpAny_rule z
   ·intro h' es' ep' t' c1 c2 c3 c4 c5 c6
    dsimp only
    exact wpAny_pure (fin _ rfl h' es' ep' t' c1 c2 c3 c4 c5 c6)
end
def once(ks:List Str):List Str:=ks.foldl putK []
theorem Yfv(ks:List Str)(k:Str):once (ks++[k])=putK (once ks) k:=by simp[once,List.foldl_append]
theorem YgN(ks:List Str)(k:Str):(putK ks k).length<=ks.length+1:=by
 unfold putK;split <;> simp
theorem Vm:∀(ks acc:List Str),(ks.foldl putK acc).length<=acc.length+ks.length
 | [],acc=>by simp
 |k::r,acc=>by
  rw[List.foldl_cons]
  have h1:=Vm r (putK acc k)
  have h2:=YgN acc k
  simp only[List.length_cons];omega
theorem Yg2(ks:List Str):(once ks).length<=ks.length:=by simpa [once]using Vm ks []
theorem TS.keep{prog:Program}{w:World}{h h':Heap}{a:Addr}{ks:List Str}{G:Value->Prop}(x:TS prog w h a ks G)(k:∀o,h.get? a=some o->h'.get? a=some o):TS prog w h' a ks G:=
 let ⟨es,ep,t,ho,T⟩:=x;⟨es,ep,t,k _ ho,T⟩
theorem TS.typeIs{prog:Program}{w:World}{s:Shared}{a:Addr}{ks:List Str}{G:Value->Prop}(x:TS prog w s.heap a ks G):s.TypeIs (.ref a) "set":=
 let ⟨_,_,_,ho,_⟩:=x;⟨_,ho,rfl⟩
theorem TS.empty{prog:Program}{w:World}{h:Heap}{a:Addr}{G:Value->Prop}(e:h.get? a=some (setObj #[] 0 (.fresh 0 0 (!(byText w))))):TS prog w h a [] G:=
 ⟨_,_,_,e,fun e he=>by simp at he,rfl,rfl,.inl rfl,.refl _,fun e he=>by simp at he⟩
section
variable{prog:Program}{w:World}{A:Around}{R:Result->Shared->Prop}{I:Addr}{fp wr:List Addr}{G:Array GenState->Array GenState->Prop}{P:Nat->Value->Prop}{St:Nat->Shared->Prop}
theorem Yc0{ys:List Str}{Gd:Value->Prop}(W:WalksS prog w A.in1 I fp wr G ys.length P St)(S:Addr)(hS:S∉fp)(hv:∀i v,P i v->∃x t,ys[i]?=some x/\v=.str x t/\Gd v)(hb:ys.length+1<scanBound):
 ∀(k i:Nat)(s:Shared),ys.length - i=k->i<=ys.length->St i s->TS prog w s.heap S (once (ys.take i)) Gd->
  (∀s',Moved (S::wr) G s s'->TS prog w s'.heap S (once ys) Gd->R (.ok (.ret .none)) s')->codeAny (model prog w) A (.builtin "set.update.loop" ⟨[.ref S,.ref I],[]⟩) R s:=by
 have nw:S∉wr:=fun h=>hS (W.sub _ h)
 have sub:∀b∈wr,b∈S::wr:=fun b hb=>List.mem_cons_of_mem _ hb
 intro k
 induction k with
 |zero=>
  intro i s hk hi hst T hR
  have e:i=ys.length:=by omega
  subst e
  rw[List.take_length]at T
  refine codeAny_builtin F.entry_set_update_loop ?_
  rw[Around.under_plainId F.plain_set_update_loop _]
  show wpAny _ A.in1 (pyNext (.ref I) >>= _) _ _ s
  refine wpAny_bind (W.done s _ _ hst fun s' hm=>?_)
  show wpAny _ A.in1 (ret Value.none) _ _ s'
  exact wpAny_pure (hR s' (hm.mono sub) (T.keep fun o e=>hm.heap S o nw e))
 |succ k ih=>
  intro i s hk hi hst T hR
  have hlt:i<ys.length:=by omega
  refine codeAny_builtin F.entry_set_update_loop ?_
  rw[Around.under_plainId F.plain_set_update_loop _]
  show wpAny _ A.in1 (pyNext (.ref I) >>= _) _ _ s
  refine wpAny_bind (W.item i s _ _ hlt hst fun v s' hP hst' hm=>?_)
  obtain⟨x,t,hx,rfl,hgd⟩:=hv i v hP
  have T':TS prog w s'.heap S (once (ys.take i)) Gd:=T.keep fun o e=>hm.heap S o nw e
  show wpAny _ A.in1 (holding [Value.str x t] (setAdd S (.str x t)) >>= _) _ _ s'
  refine wpAny_bind (wpAny_holding ?_)
  unfold setAdd
  refine wpAny_holding ?_
  refine wpAny_bind ((strKind prog w).pyHash (k:=x) (strKind_is _ _ _ _) ?_)
  have room:(once (ys.take i)).length+1<scanBound:=by
   have:=Yg2 (ys.take i)
   rw[List.length_take]at this
   omega
  refine Yf3 (s:={ s' with toks:=s'.toks+1 }) hgd T' room fun h' b sb T2=>?_
  have T3:TS prog w h' S (once (ys.take (i+1))) Gd:=by
   rw[List.take_add_one,hx]
   simp only[Option.toList_some]
   rw[Yfv]
   exact T2
  refine wpAny_pure ⟨plainId_quiet F.plain_set_update_loop _,ih (i+1) _ (by omega) hlt (W.frame _ s' _ _ hst' (Nat.le_succ _) fun b hb o e=>?_) T3 fun s2 hm2 T4=>?_⟩
  ·rw[sb.2 b fun z:b=S=>hS (z ▸ hb)];exact e
  ·refine hR s2 (Moved.trans W.gtrans ((hm.mono sub).then_heap (Nat.le_succ _) fun b o hb e=>?_) hm2) T4
   rw[sb.2 b fun z:b=S=>hb (z ▸ List.mem_cons_self)];exact e
end
section
variable{prog:Program}{w:World}{A:Around}{E:Value->Shared->Prop}{s:Shared}
theorem Ydb(a:Value){Q:Value->Shared->Prop}
 (h:Q (.ref s.heap.objs.size) { s with heap:=s.heap.push (setObj #[] 0 (.fresh 0 0 (!(byText w)))) }):
 codeAny (model prog w) A (.call (.builtin "set.__new__") ⟨[.type "set",a],[]⟩) (wants Q E) s:=by
 refine codeAny_of_tree ?_
 show wpAny _ A.in1 (do checkBuiltinCall "set.__new__" ⟨[.type "set",a],[]⟩;again (.builtin "set.__new__" ⟨[.type "set",a],[]⟩)) _ _ s
 refine wpAny_bind (wpAny_of_eq (F.newCall_set_1 a) (wpAny_pure ⟨plainId_quiet F.plain_set_new _,codeAny_builtin F.entry_set_new ?_⟩))
 rw[Around.under_plainId F.plain_set_new _]
 unfold Builtin.«set.__new__» Builtin.Frozenset.newClass
 have q1:=sub_set_self
 obtain⟨hp,g,d,tk,os⟩:=s
 dsimp only
 wp_walk
 refine wpAny_askSetting (wpAny_pure ?_)
 dsimp only
 simp only[newObj]
 refine wpAny_bind (wpAny_alloc (wpAny_pure ?_))
 exact wpAny_pure h
set_option maxHeartbeats 3200000 in
theorem YfZ{l:Addr}{items:Array Value}{ys:List Str}{Gd:Value->Prop}{Q:Value->Shared->Prop}(hgd:∀v∈items.toList,Gd v)
 (hh:A.handled=none) (hl:s.heap.IsList l items) (hi:StrsAre items.toList ys) (hb:ys.length+1<scanBound)
 (h:∀(h':Heap)(tk:Nat),TS prog w h' s.heap.objs.size (once ys) Gd->s.heap.objs.size<h'.objs.size->(∀b o,s.heap.get? b=some o->h'.get? b=some o)->Q (.ref s.heap.objs.size) { s with heap:=h',toks:=tk }):
 wpAny (model prog w) A (call (.type "set") [.ref l]) Q E s:=by
 have hn:items.size=ys.length:=by have:=StrsAre.length hi;simpa using this
 obtain⟨c,tl,hmro⟩:=F.called_set.mro
 have q1:=F.called_set.made
 have q2:=F.called_set.sub
 refine wpAny_call (codeAny_of_tree ?_)
 show wpAny _ _ (callAny (.type "set") _) _ _ _
 refine wpAny_pure ⟨Code.quiet_builtin _ (by decide +kernel),codeAny_builtin F.entry_type_call ?_⟩
 rw[Around.under_plain (weight_type_call_type "set" [.ref l] []) rfl]
 have q3:=F.called_set.notType
 have q4:=F.called_set.canCreate
 have q5:=F.typeCall_set_1 (.ref l)
 repeat (any_goals (first|assumption|wp_step))
 refine codeAny_mono (Ydb (.ref l) (E:=E) (Q:=fun obj s1=>obj=.ref s.heap.objs.size/\s1={ s with heap:=s.heap.push (setObj #[] 0 (.fresh 0 0 (!(byText w)))) }) ⟨rfl,rfl⟩) fun r s1 hr=>?_
 cases r with
 |error e=>exact hr
 |ok fl=>
  cases fl with
  |ret obj=>
   obtain⟨rfl,rfl⟩:=hr
   have gS:(s.heap.push (setObj #[] 0 (.fresh 0 0 (!(byText w))))).get? s.heap.objs.size=some (setObj #[] 0 (.fresh 0 0 (!(byText w)))):=Heap.get?_push_size _ rfl
   have hT:Shared.TypeIs { s with heap:=s.heap.push (setObj #[] 0 (.fresh 0 0 (!(byText w)))) } (.ref s.heap.objs.size) "set":=⟨_,gS,rfl⟩
   have q6:=F.called_set.init.lookup
   have q7:=F.called_set.init.bind (.ref s.heap.objs.size)
   repeat (any_goals (first|assumption|wp_step))
   refine codeAny_mono (codeAny_call_builtin (R:=wants (fun r s2=>r=.none/\∃h' tk,s2={ s with heap:=h',toks:=tk }/\TS prog w h' s.heap.objs.size (once ys) Gd/\(∀b o,s.heap.get? b=some o->h'.get? b=some o)) E)
    F.called_set.init.plain F.entry_set_init (check_set_init_1 hT ?_)) fun r2 s2 hr2=>?_
   ·obtain⟨ol,hol,hcl,nl,hdl⟩:=hl
    obtain⟨ocls,odict,odata,oslots⟩:=ol
    simp only at hcl hdl
    subst hcl;subst hdl
    have hol1:(s.heap.push (setObj #[] 0 (.fresh 0 0 (!(byText w))))).get? l=some { cls:=.type "list",dict:=odict,data:=.seq items nl,slots:=oslots }:=Heap.get?_push_of_some _ hol
    have q8:=F.sub_list_set
    have q9:=F.sub_list_frozenset
    have q10:(Value.type "list" == Value.type "dict")=false:=by decide
    have hl1:(s.heap.push (setObj #[] 0 (.fresh 0 0 (!(byText w))))).IsList l items:=⟨_,hol1,rfl,nl,rfl⟩
    unfold Builtin.«set.__init__» noKeywords Builtin.Frozenset.updateFrom
    generalize hPI:pyIter=PI
    wp_walk
    subst hPI
    refine wpAny_pyIter_list hl1 ?_
    refine wpAny_bind (wpAny_runValue ?_)
    have lt:l<s.heap.objs.size:=Heap.lt_size hol
    have hh3:A.in1.in1.in1.handled=none:=by simp[hh]
    have hneI:l≠(s.heap.push (setObj #[] 0 (.fresh 0 0 (!(byText w))))).objs.size:=by
     rw[Heap.size_push];exact Nat.ne_of_lt (Nat.lt_succ_of_lt lt)
    have hSf:s.heap.objs.size∉[(s.heap.push (setObj #[] 0 (.fresh 0 0 (!(byText w))))).objs.size,l]:=by
     rw[Heap.size_push];simp only[List.mem_cons,List.mem_singleton,List.not_mem_nil,or_false,not_or]
     exact⟨Nat.ne_of_lt (Nat.lt_succ_self _),Nat.ne_of_gt lt⟩
    have hv:∀(i:Nat)(v:Value),items[i]?=some v->∃x t,ys[i]?=some x/\v=.str x t/\Gd v:=fun i v hv=>by
     have e1:v∈items.toList:=by
      rw[<-Array.getElem?_toList]at hv
      exact List.mem_of_getElem? hv
     obtain⟨x,t,rfl⟩:=hi.all v e1
     refine⟨x,t,?_,rfl,hgd _ e1⟩
     have:=hi.strs
     rw[<-this,List.getElem?_map,Array.getElem?_toList,hv]
     rfl
    have W:=(Walks.list (prog:=prog) (w:=w) hh3 _ l hneI items).toS
    rw[hn]at W
    refine Yc0 W s.heap.objs.size hSf hv hb (ys.length - 0) 0 _ (by omega) (Nat.zero_le _)
     ⟨⟨_,Heap.get?_push_size _ rfl,rfl,rfl⟩,(hl1.push _)⟩ ?hS0 ?hR
    case hS0=>
     exact TS.empty (Heap.get?_push_of_some _ gS)
    case hR=>
     intro s3 hm T3
     obtain⟨h3,g3,d3,tk3,os3⟩:=s3
     have eg:g3=s.gens:=hm.gens
     have ed:d3=s.drawn:=hm.drawn
     have eo:os3=s.os:=hm.os
     subst eg;subst ed;subst eo
     show wpAny _ _ _ _ _ _
     refine wpAny_pure ?_
     show wpAny _ _ (ret Value.none) _ _ _
     refine wpAny_pure ⟨rfl,h3,tk3,rfl,T3,fun b o e=>?_⟩
     have hb:=Heap.lt_size e
     have hb1:b≠s.heap.objs.size:=Nat.ne_of_lt hb
     have hb2:b≠(s.heap.push (setObj #[] 0 (.fresh 0 0 (!(byText w))))).objs.size:=by
      rw[Heap.size_push];exact Nat.ne_of_lt (Nat.lt_succ_of_lt hb)
     exact hm.heap b o (by simp only[List.mem_cons,List.mem_singleton,List.not_mem_nil,or_false,not_or];exact⟨hb1,hb2⟩) (Heap.get?_push_of_some _ (Heap.get?_push_of_some _ e))
   ·cases r2 with
    |error e=>exact hr2
    |ok fl2=>
     cases fl2 with
     |ret r=>
      obtain⟨rfl,h',tk,rfl,hS',hk'⟩:=hr2
      repeat (any_goals (first|assumption|wp_step))
      obtain⟨es,ep,t,ho,T⟩:=hS'
      exact h _ _ ⟨es,ep,t,ho,T⟩ (Heap.lt_size ho) hk'
     |_=>exact hr2.elim
  |_=>exact hr.elim
end
theorem slot_seti_next:Slot "set_iterator" "__next__" "set_iterator.__next__":=
 .of (owner:="set_iterator") (n:="__next__") (by rw[typeLookup_type,builtinLookup_eq_fast];kernel_rfl) (by decide +kernel) (by decide +kernel) (by decide +kernel)
  (by first|exact .inl (by decide +kernel)|exact .inr (by decide +kernel)) (by rw[isSubtype_type];kernel_rfl)
theorem Vc:Slot "set_iterator" "__iter__" "set_iterator.__iter__":=
 .of (owner:="set_iterator") (n:="__iter__") (by rw[typeLookup_type,builtinLookup_eq_fast];kernel_rfl) (by decide +kernel) (by decide +kernel) (by decide +kernel)
  (by first|exact .inl (by decide +kernel)|exact .inr (by decide +kernel)) (by rw[isSubtype_type];kernel_rfl)
theorem Zk:entryFor table "set_iterator.__next__"=some Builtin.«set_iterator.__next__»:=entryFor_of_fast (by kernel_rfl)
theorem Yal:entryFor table "set_iterator.__iter__"=some Builtin.«dict_keyiterator.__iter__»:=
 entryFor_alias (id':="dict_keyiterator.__iter__") (by kernel_rfl) rfl (by decide +kernel) (by kernel_rfl)
theorem Yao:entryFor table "set.__iter__"=some Builtin.«frozenset.__iter__»:=
 entryFor_alias (id':="frozenset.__iter__") (by kernel_rfl) rfl (by decide +kernel) (by kernel_rfl)
theorem Zt(a:Value):argsOk "set_iterator.__next__" ⟨[a],[]⟩:=by unfold argsOk;kernel_rfl
theorem Yau(a:Value):argsOk "set_iterator.__iter__" ⟨[a],[]⟩:=by unfold argsOk;kernel_rfl
def itObj(f:Value)(i:Nat)(S:Addr)(n ep:Nat):Obj:={ cls:=.type "set_iterator",dict:=none,data:=.fields #[f,.int i 0,.ref S,.int n 0,.int ep 0],slots:=#[] }
section
variable{prog:Program}{w:World}{A:Around}{E:Value->Shared->Prop}{s:Shared}{I S:Addr}{f:Value}{i ep:Nat}{es:Array (Int×Value)}{t:SetTable}{Q:Option Value->Shared->Prop}
theorem Vu(hI:s.heap.get? I=some (itObj f i S es.size ep))(hS:s.heap.get? S=some (setObj es ep t))(hf:t.fits es.size=true)
 {P:Fin->Shared->Prop}
 (h:wpAny (model prog w) A (match f with
  | .int slot _=>(do
   match <-setNext S slot.toNat i ep with
   |some (x,next)=>
    setField (.ref I) 0 (rawInt next)
    setField (.ref I) 1 (rawInt ((i:Int)+1))
    ret x
   |none=>setField (.ref I) 2 .none;raiseNew (<-newExc (.type "StopIteration") []))
  |_=>(do
   let some places <-seqItems? f|unsupported "internal:set_iterator"
   match places[i]? with
   |some (.int place _)=>
    let x <-setNextDrawn S place.toNat ep
    setField (.ref I) 1 (rawInt ((i:Int)+1))
    ret x
   |some _=>unsupported "internal:set_iterator"
   |none=>setField (.ref I) 0 (rawInt 0);setField (.ref I) 2 .none;raiseNew (<-newExc (.type "StopIteration") []))) P E s):
 wpAny (model prog w) A (Builtin.«set_iterator.__next__» ⟨[.ref I],[]⟩) P E s:=by
 unfold Builtin.«set_iterator.__next__» slotArgs
 simp only[List.isEmpty_nil,Bool.not_true,Bool.false_eq_true,↓reduceIte,List.length_nil,bne_self_eq_false]
 refine wpAny_bind (wpAny_pure ?_)
 dsimp only
 unfold fieldsOf
 refine wpAny_bind (wpAny_bind (wpAny_load hI ?_))
 refine wpAny_pure ?_
 dsimp only
 refine wpAny_bind (wpAny_setEntries_of hS rfl hf ?_)
 simp only[bne_self_eq_false,Bool.false_eq_true,↓reduceIte,Int.toNat_natCast]
 cases f <;> exact h
end
section
variable{prog:Program}{w:World}{A:Around}{E:Value->Shared->Prop}{s:Shared}{I S:Addr}{f:Value}{i ep:Nat}{es:Array (Int×Value)}{t:SetTable}{Q:Option Value->Shared->Prop}
theorem Zu(hI:s.heap.get? I=some (itObj f i S es.size ep)):s.TypeIs (.ref I) "set_iterator":=⟨_,hI,rfl⟩
theorem Yca{h0:Heap}(hh:A.handled=none)(k:Heap.ExtBut I h0 s.heap){P:Fin->Shared->Prop}
 (h:∀h' x,Heap.ExtBut I h0 h'->(∃o,h'.get? x=some o/\o.cls=.type "StopIteration")->E (.ref x) { s with heap:=h' }):
 wpAny (model prog w) A (do raiseNew (<-newExc (.type "StopIteration") [])) P E s:=by
 refine wpAny_bind ?_
 simp only[newExc,newTuple]
 refine wpAny_bind (wpAny_newObj_type ?_ (by size_fits))
 refine wpAny_bind (m:=firstArgMember _ _) (wpAny_of_eq (a:=Value.none) (by first|rfl|(simp only[firstArgMember];rfl)) ?_)
 refine wpAny_newObj_type ?_ (by size_fits)
 simp only[raiseNew]
 refine wpAny_bind (wpAny_handled ?_)
 rw[hh]
 refine wpAny_bind (wpAny_pure (wpAny_throw ?_))
 exact h _ _ ((k.push _).push _) ⟨_,Heap.get?_push_size _ rfl,rfl⟩
theorem YaD{slot next:Nat}{x:Value}(hI:s.heap.get? I=some (itObj (.int slot 0) i S es.size ep))(hS:s.heap.get? S=some (setObj es ep t))(hf:t.fits es.size=true)
 (hn:∀(A':Around)(E':Value->Shared->Prop)(Q':Option (Value×Nat)->Shared->Prop),Q' (some (x,next)) s->wpAny (model prog w) A' (setNext S slot i ep) Q' E' s)
 (h:∀h',h'.get? I=some (itObj (.int next 0) (i+1) S es.size ep)->Heap.SameBut I s.heap h'->Q (some x) { s with heap:=h' }):wpAny (model prog w) A (pyNext (.ref I)) Q E s:=by
 unfold pyNext
 refine wpAny_bind (wpAny_attempt (wpAny_callSpecial?_slot (name:=Str.ofString "__next__") (Zu hI) slot_seti_next
  (wpAny_call_entry slot_seti_next (Zu hI) Zk (Vu hI hS hf ?_) (Zt _))))
 dsimp only
 refine wpAny_bind ?_
 simp only[Int.toNat_natCast]
 refine hn _ _ _ ?_
 dsimp only
 refine wpAny_bind (wpAny_setField_rec hI (by simp) fun h1 g1 b1=>?_)
 refine wpAny_bind (wpAny_setField_rec g1 (by simp) fun h2 g2 b2=>?_)
 exact wpAny_pure ⟨_,rfl,wpAny_pure (h h2 (by rw[g2];simp[itObj,rawInt]) (b1.trans b2))⟩
theorem Jx{slot:Nat}(hh:A.handled=none)(hI:s.heap.get? I=some (itObj (.int slot 0) i S es.size ep))(hS:s.heap.get? S=some (setObj es ep t))(hf:t.fits es.size=true)
 (hn:∀(A':Around)(E':Value->Shared->Prop)(Q':Option (Value×Nat)->Shared->Prop),Q' none s->wpAny (model prog w) A' (setNext S slot i ep) Q' E' s)
 (h:∀h',Heap.ExtBut I s.heap h'->Q none { s with heap:=h' }):wpAny (model prog w) A (pyNext (.ref I)) Q E s:=by
 unfold pyNext
 refine wpAny_bind (wpAny_attempt (wpAny_callSpecial?_slot (name:=Str.ofString "__next__") (Zu hI) slot_seti_next
  (wpAny_call_entry slot_seti_next (Zu hI) Zk (Vu hI hS hf ?_) (Zt _))))
 dsimp only
 refine wpAny_bind ?_
 simp only[Int.toNat_natCast]
 refine hn _ _ _ ?_
 dsimp only
 refine wpAny_bind (wpAny_setField_rec hI (by simp) fun h1 g1 b1=>?_)
 refine Yca (h0:=s.heap) (s:={ s with heap:=h1 }) (A:=A.in1) hh b1.extBut fun h2 x k ⟨o,ho,hc⟩=>?_
 refine wpAny_bind (wpAny_isInstance (T:="StopIteration") (b:=true) ⟨o,ho,hc⟩ isSubtype_stop ?_)
 exact wpAny_pure (h _ k)
theorem YeE{T:Addr}{pl:Array Value}{n p:Nat}{tk:Tok}{hx:Int}{x:Value}(hI:s.heap.get? I=some (itObj (.ref T) i S es.size ep))(hS:s.heap.get? S=some (setObj es ep t))(hf:t.fits es.size=true)
 (hT:s.heap.get? T=some { cls:=.type "tuple",data:=.seq pl n }) (hp:pl[i]?=some (.int p tk)) (he:es[p]?=some (hx,x))
 (h:∀h',h'.get? I=some (itObj (.ref T) (i+1) S es.size ep)->Heap.SameBut I s.heap h'->Q (some x) { s with heap:=h' }):wpAny (model prog w) A (pyNext (.ref I)) Q E s:=by
 unfold pyNext
 refine wpAny_bind (wpAny_attempt (wpAny_callSpecial?_slot (name:=Str.ofString "__next__") (Zu hI) slot_seti_next
  (wpAny_call_entry slot_seti_next (Zu hI) Zk (Vu hI hS hf ?_) (Zt _))))
 dsimp only
 refine wpAny_bind (wpAny_seqItems hT rfl ?_)
 dsimp only
 rw[hp]
 dsimp only
 unfold setNextDrawn
 refine wpAny_bind (wpAny_bind (wpAny_setState_of hS rfl hf ?_))
 simp only[bne_self_eq_false,Bool.false_eq_true,↓reduceIte,Int.toNat_natCast,he]
 refine wpAny_pure ?_
 refine wpAny_bind (wpAny_setField_rec hI (by simp) fun h1 g1 b1=>?_)
 exact wpAny_pure ⟨_,rfl,wpAny_pure (h h1 (by rw[g1];simp[itObj,rawInt]) b1)⟩
theorem Ygp{T:Addr}{pl:Array Value}{n:Nat}(hh:A.handled=none)(hI:s.heap.get? I=some (itObj (.ref T) i S es.size ep))(hS:s.heap.get? S=some (setObj es ep t))(hf:t.fits es.size=true)
 (hT:s.heap.get? T=some { cls:=.type "tuple",data:=.seq pl n }) (hp:pl[i]?=none)
 (h:∀h',Heap.ExtBut I s.heap h'->Q none { s with heap:=h' }):wpAny (model prog w) A (pyNext (.ref I)) Q E s:=by
 unfold pyNext
 refine wpAny_bind (wpAny_attempt (wpAny_callSpecial?_slot (name:=Str.ofString "__next__") (Zu hI) slot_seti_next
  (wpAny_call_entry slot_seti_next (Zu hI) Zk (Vu hI hS hf ?_) (Zt _))))
 dsimp only
 refine wpAny_bind (wpAny_seqItems hT rfl ?_)
 dsimp only
 rw[hp]
 dsimp only
 refine wpAny_bind (wpAny_setField_rec hI (by simp) fun h1 g1 b1=>?_)
 refine wpAny_bind (wpAny_setField_rec g1 (by simp) fun h2 g2 b2=>?_)
 refine Yca (h0:=s.heap) (s:={ s with heap:=h2 }) (A:=A.in1) hh (b1.trans b2).extBut fun h3 x k ⟨o,ho,hc⟩=>?_
 refine wpAny_bind (wpAny_isInstance (T:="StopIteration") (b:=true) ⟨o,ho,hc⟩ isSubtype_stop ?_)
 exact wpAny_pure (h _ k)
theorem JQ(hI:s.heap.get? I=some (itObj f i S es.size ep)){Q:Value->Shared->Prop}(h:Q (.ref I) s):wpAny (model prog w) A (pyIter (.ref I)) Q E s:=by
 refine wpAny_pyIter_slot (Zu hI) Vc (wpAny_call_entry Vc (Zu hI) Yal ?_ (Yau _))
 show wpAny _ _ (ret (.ref I)) _ _ s
 exact wpAny_pure ⟨_,rfl,"set_iterator",_,Zu hI,slot_seti_next.lookup,h⟩
end
theorem Ya1{α:Type}{xs:Array α}(h:xs.size=1):∃x,xs=#[x]:=by
 obtain⟨l⟩:=xs
 match l,h with
 | [x],_=>exact⟨x,rfl⟩
theorem VT{α:Type}:∀{l:List α}{i:Nat}(h:i<l.length),(l[i]::l.eraseIdx i).Perm l
 | [],_,h=>by simp at h
 |x::l,0,_=>.refl _
 |x::l,i+1,h=>by
  have h':i<l.length:=by simpa using h
  simp only[List.getElem_cons_succ,List.eraseIdx_cons_succ]
  exact (List.Perm.swap _ _ _).trans ((VT h').cons _)
theorem J6{α:Type}(next:Nat->Nat):∀(n k:Nat)(left:List α)(out:Array α),left.length=n->(pickOrder.go next n k left out).toList.Perm (out.toList++left)
 | 0,k,left,out,h=>by
  have:left=[]:=List.length_eq_zero_iff.mp h
  subst this
  simp[pickOrder.go]
 |n+1,k,left,out,h=>by
  have hlt:next k % left.length<left.length:=Nat.mod_lt _ (by omega)
  unfold pickOrder.go
  rw[List.getElem?_eq_getElem hlt]
  dsimp only
  refine (J6 next n (k+1) _ _ (by rw[List.length_eraseIdx_of_lt hlt];omega)).trans ?_
  rw[Array.toList_push,List.append_assoc]
  refine List.Perm.append_left _ ?_
  exact VT hlt
theorem Jy{α:Type}(next:Nat->Nat)(xs:Array α):(pickOrder next xs).toList.Perm xs.toList:=by
 have:=J6 next xs.size 0 xs.toList #[] (by simp)
 simpa [pickOrder]using this
section
variable{prog:Program}{w:World}{A:Around}{E:Value->Shared->Prop}{s:Shared}{I S:Addr}{i ep slot:Nat}{es:Array (Int×Value)}{t:SetTable}
theorem Ja(hb:byText w=true)(hS:s.heap.get? S=some (setObj es ep t))(hf:t.fits es.size=true){Q:Option (Value×Nat)->Shared->Prop}
 (h:Q (((pickOrder (w.params.setOrder S ep) es)[i]?).map fun e=>(e.2,slot)) s):wpAny (model prog w) A (setNext S slot i ep) Q E s:=by
 unfold setNext
 refine wpAny_bind (wpAny_setState_of hS rfl hf ?_)
 dsimp only
 unfold setsByText
 refine wpAny_bind (wpAny_bind (wpAny_askSetting (wpAny_pure ?_)))
 rw[if_pos (show (model prog w).w.params.followText "set-order"=true from hb)]
 simp only[bne_self_eq_false,Bool.false_eq_true,↓reduceIte]
 unfold setWalk
 refine wpAny_bind (wpAny_bind (wpAny_setState_of hS rfl hf ?_))
 dsimp only
 unfold setsByText
 refine wpAny_bind (wpAny_bind (wpAny_askSetting (wpAny_pure ?_)))
 rw[if_pos (show (model prog w).w.params.followText "set-order"=true from hb)]
 refine wpAny_bind (wpAny_askSetting (wpAny_pure ?_))
 exact wpAny_pure h
theorem W0(hb:byText w=false)(hS:s.heap.get? S=some (setObj es ep t))(hf:t.fits es.size=true)(hl:t.led=true)(hz:es.size<=1){Q:Option (Value×Nat)->Shared->Prop}
 (h:Q (match es[SetTable.below t.place slot]?,t.place[SetTable.below t.place slot]? with
  |some (_,x),some j=>some (x,j+1)
  |_,_=>none) s):wpAny (model prog w) A (setNext S slot i ep) Q E s:=by
 unfold setNext
 refine wpAny_bind (wpAny_setState_of hS rfl hf ?_)
 dsimp only
 unfold setsByText
 refine wpAny_bind (wpAny_bind (wpAny_askSetting (wpAny_pure ?_)))
 rw[if_neg (show ¬(model prog w).w.params.followText "set-order"=true from by show ¬byText w=true;rw[hb];simp)]
 split
 ·rename_i z
  have z':(!t.plain && decide (es.size > 1))=true:=z
  rw[Bool.and_eq_true]at z'
  have:=of_decide_eq_true z'.2
  omega
 ·refine wpAny_bind (m:=if (!t.led && !es.isEmpty)=true then unsupported "set:maker-not-led" else pure ()) ?_
  rw[hl]
  simp only[Bool.not_true,Bool.false_and,Bool.false_eq_true,↓reduceIte]
  exact wpAny_pure (wpAny_pure h)
theorem YeL(hh:A.handled=none)(hb:byText w=true)(hne:S≠I)(hf:t.fits es.size=true):
 Walks prog w A I [I,S] [I] es.size (fun i v=>((pickOrder (w.params.setOrder S ep) es).map (·.2))[i]?=some v) (fun i h=>h.get? I=some (itObj (.int 0 0) i S es.size ep)/\h.get? S=some (setObj es ep t)) where
 sub:=fun b hb=>by simp at hb;simp[hb]
 frame:=fun _ _ _ st hk=>⟨hk I (by simp) _ st.1,hk S (by simp) _ st.2⟩
 item:=fun i s Q E hi st hQ=>by
  have hsz:(pickOrder (w.params.setOrder S ep) es).size=es.size:=by
   have:=(Jy (w.params.setOrder S ep) es).length_eq
   simpa using this
  have hi':i<(pickOrder (w.params.setOrder S ep) es).size:=by omega
  refine YaD (slot:=0) (next:=0) (x:=((pickOrder (w.params.setOrder S ep) es)[i]).2) st.1 st.2 hf (fun A' E' Q' hq=>Ja hb st.2 hf ?_) fun h' g' b'=>?_
  ·rw[Array.getElem?_eq_getElem hi'];exact hq
  ·exact hQ _ h' s.toks (by simp[hi']) ⟨g',b'.extBut S _ hne st.2⟩ fun b o hb e=>b'.extBut b o (fun z=>hb (by simp[z])) e
 done:=fun s Q E st hQ=>by
  have hsz:(pickOrder (w.params.setOrder S ep) es).size=es.size:=by
   have:=(Jy (w.params.setOrder S ep) es).length_eq
   simpa using this
  refine Jx (slot:=0) hh st.1 st.2 hf (fun A' E' Q' hq=>Ja hb st.2 hf ?_) fun h' b'=>?_
  ·rw[Array.getElem?_eq_none (by omega)];exact hq
  ·exact hQ h' s.toks fun b o hb e=>b' b o (fun z=>hb (by simp[z])) e
 self:=fun _ _ _ _ st hQ=>JQ st.1 hQ
theorem YfA(hh:A.handled=none)(hb:byText w=false)(hne:S≠I)(hf:t.fits es.size=true)(hl:t.led=true)(hz:es.size<=1):
 Walks prog w A I [I,S] [I] es.size (fun i v=>(es.map (·.2))[i]?=some v) (fun i h=>h.get? I=some (itObj (.int (if i=0 then 0 else t.place.getD 0 0+1:Nat) 0) i S es.size ep)/\h.get? S=some (setObj es ep t)) where
 sub:=fun b hb=>by simp at hb;simp[hb]
 frame:=fun _ _ _ st hk=>⟨hk I (by simp) _ st.1,hk S (by simp) _ st.2⟩
 item:=fun i s Q E hi st hQ=>by
  have e0:i=0:=by omega
  have e1:es.size=1:=by omega
  subst e0
  have hp:t.place.size=1:=by
   have:(t.place.size == es.size && decide (t.fill<=t.mask))=true:=hf
   rw[Bool.and_eq_true,beq_iff_eq]at this
   omega
  obtain⟨j,ej⟩:∃j,t.place=#[j]:=Ya1 hp
  obtain⟨y,ey⟩:∃y,es=#[y]:=Ya1 e1
  refine YaD (slot:=0) (next:=j+1) (x:=y.2) st.1 st.2 hf (fun A' E' Q' hq=>W0 hb st.2 hf hl hz ?_) fun h' g' b'=>?_
  ·have hbl:SetTable.below t.place 0=0:=by rw[ej];simp[SetTable.below,SetTable.below.go]
   rw[hbl,ej,ey]
   exact hq
  ·refine hQ _ h' s.toks (by rw[ey];simp) ⟨?_,b'.extBut S _ hne st.2⟩ fun b o hb e=>b'.extBut b o (fun z=>hb (by simp[z])) e
   rw[g',ej];rfl
 done:=fun s Q E st hQ=>by
  rcases Nat.lt_or_ge 0 es.size with h0|h0
  ·have e1:es.size=1:=by omega
   have hp:t.place.size=1:=by
    have:(t.place.size == es.size && decide (t.fill<=t.mask))=true:=hf
    rw[Bool.and_eq_true,beq_iff_eq]at this
    omega
   obtain⟨j,ej⟩:∃j,t.place=#[j]:=Ya1 hp
   refine Jx (slot:=j+1) hh (by have:=st.1;rw[e1]at this ⊢;rw[ej]at this;exact this) st.2 hf (fun A' E' Q' hq=>W0 hb st.2 hf hl hz ?_) fun h' b'=>?_
   ·have hbl:SetTable.below t.place (j+1)=1:=by rw[ej];simp[SetTable.below,SetTable.below.go]
    rw[hbl,Array.getElem?_eq_none (by omega:es.size<=1)]
    exact hq
   ·exact hQ h' s.toks fun b o hb e=>b' b o (fun z=>hb (by simp[z])) e
  ·have e0:es.size=0:=by omega
   refine Jx (slot:=0) hh (by have:=st.1;rw[e0]at this ⊢;exact this) st.2 hf (fun A' E' Q' hq=>W0 hb st.2 hf hl hz ?_) fun h' b'=>?_
   ·rw[Array.getElem?_eq_none (by omega:es.size<=_)]
    exact hq
   ·exact hQ h' s.toks fun b o hb e=>b' b o (fun z=>hb (by simp[z])) e
 self:=fun _ _ _ _ st hQ=>JQ st.1 hQ
theorem Ydi{T:Addr}{od:List Nat}{n:Nat}(hh:A.handled=none)(hne:S≠I)(hnT:T≠I)(hf:t.fits es.size=true)(hod:od.Perm (List.range es.size)):
 Walks prog w A I [I,S,T] [I] es.size (fun i v=>(od.filterMap fun j=>(es[j]?).map (·.2))[i]?=some v)
  (fun i h=>h.get? I=some (itObj (.ref T) i S es.size ep)/\h.get? S=some (setObj es ep t)/\h.get? T=some { cls:=.type "tuple",data:=.seq (od.map fun (j:Nat)=>rawInt j).toArray n }) where
 sub:=fun b hb=>by simp at hb;simp[hb]
 frame:=fun _ _ _ st hk=>⟨hk I (by simp) _ st.1,hk S (by simp) _ st.2.1,hk T (by simp) _ st.2.2⟩
 item:=fun i s Q E hi st hQ=>by
  have hl:od.length=es.size:=by simpa using hod.length_eq
  have hi':i<od.length:=by omega
  have hj:od[i]<es.size:=by
   have:=hod.mem_iff.mp (List.getElem_mem hi')
   simpa using this
  have key:∀(od':List Nat),(∀j∈od',j<es.size)->od'.filterMap (fun j=>(es[j]?).map (·.2))=od'.map fun j=>(es.getD j (0,.none)).2:=by
   intro od'
   induction od' with
   |nil=>intro _;rfl
   |cons j r ih=>
    intro hm
    have h1:=hm j (List.mem_cons_self ..)
    rw[List.filterMap_cons,Array.getElem?_eq_getElem h1]
    simp only[Option.map_some,List.map_cons]
    rw[ih fun k hk=>hm k (List.mem_cons_of_mem _ hk)]
    simp[h1]
  refine YeE (p:=od[i]) (tk:=0) (hx:=es[od[i]].1) (x:=es[od[i]].2) st.1 st.2.1 hf st.2.2 (by simp[hi',rawInt]) (by rw[Array.getElem?_eq_getElem hj]) fun h' g' b'=>?_
  refine hQ _ h' s.toks ?_ ⟨g',b'.extBut S _ hne st.2.1,b'.extBut T _ hnT st.2.2⟩ fun b o hb e=>b'.extBut b o (fun z=>hb (by simp[z])) e
  rw[key od fun j hj=>by simpa using hod.mem_iff.mp hj]
  simp[hi',hj]
 done:=fun s Q E st hQ=>by
  have hl:od.length=es.size:=by simpa using hod.length_eq
  refine Ygp hh st.1 st.2.1 hf st.2.2 (by simp[hl]) fun h' b'=>?_
  exact hQ h' s.toks fun b o hb e=>b' b o (fun z=>hb (by simp[z])) e
 self:=fun _ _ _ _ st hQ=>JQ st.1 hQ
theorem V1{α:Type}:∀(n:Nat)(xs:List α)(s:Shared)(Q:List α->Shared->Prop),xs.length=n->(∀ys d,ys.Perm xs->Q ys { s with drawn:=d })->wpAny (model prog w) A (drawOrder n xs) Q E s
 | 0,xs,s,Q,hn,h=>by
  have:xs=[]:=List.length_eq_zero_iff.mp hn
  subst this
  unfold drawOrder
  exact wpAny_pure (h [] s.drawn (.refl _))
 |n+1,[],s,Q,hn,h=>by cases hn
 |n+1,x::xs,s,Q,hn,h=>by
  unfold drawOrder
  refine wpAny_bind (YfK (by simp) fun i hi=>?_)
  rw[List.getElem?_eq_getElem hi]
  dsimp only
  refine wpAny_bind (V1 n _ _ _ (by rw[List.length_eraseIdx_of_lt hi];omega) fun ys d hp=>wpAny_pure ?_)
  exact h _ d ((List.Perm.cons _ hp).trans (VT hi))
end
section
variable{prog:Program}{w:World}{A:Around}{E:Value->Shared->Prop}{s:Shared}{S:Addr}
structure SetIt(prog:Program)(w:World)(s:Shared)(S:Addr)(ks:List Str)(Gd:Value->Prop)(I:Addr)(s':Shared):Prop where
 old:∀b o,s.heap.get? b=some o->s'.heap.get? b=some o
 new:s.heap.objs.size<=I
 gens:s'.gens=s.gens
 os:s'.os=s.os
 toks:s'.toks=s.toks
 ty:s'.TypeIs (.ref I) "set_iterator"
 wk:∀A':Around,A'.handled=none->∃(fp:List Addr)(items:List Value)(St:Nat->Heap->Prop),Walks prog w A' I fp [I] ks.length (fun i v=>items[i]?=some v) St/\St 0 s'.heap/\(∀b∈fp,b<s'.heap.objs.size)/\(∀b∈fp,b=S\/s.heap.objs.size<=b)/\
  items.length=ks.length/\(∃ys,StrsAre items ys/\ys.Perm ks)/\∀v∈items,Gd v
theorem Wv{es:Array (Int×Value)}{t:SetTable}{ks:List Str}{Gd:Value->Prop}(T:TT1 prog w es t ks Gd){items:List Value}(hp:items.Perm (es.toList.map (·.2))):items.length=ks.length/\(∃ys,StrsAre items ys/\ys.Perm ks)/\∀v∈items,Gd v:=by
 refine⟨by rw[hp.length_eq,<-T.sz];simp,⟨items.map strOf,strsAre_map items fun v hv=>?_,?_⟩,fun v hv=>?_⟩
 ·have:=hp.mem_iff.mp hv
  obtain⟨e,he,rfl⟩:=List.mem_map.mp this
  obtain⟨⟨k,hk,_⟩,_⟩:=T.el e he
  obtain⟨tk,e'⟩:=Value.isStrOf_shape hk
  exact⟨k,tk,e'⟩
 ·refine (hp.map strOf).trans ?_
  rw[List.map_map]
  exact T.pm
 ·obtain⟨e,he,rfl⟩:=List.mem_map.mp (hp.mem_iff.mp hv)
  exact T.gd e he
theorem Yaj{es:Array (Int×Value)}:(List.range es.size).filterMap (fun j=>(es[j]?).map (·.2))=es.toList.map (·.2):=by
 have e:(fun j=>(es[j]?).map (·.2))=fun j:Nat=>((fun j=>es[j]?) j).map (fun p:Int×Value=>p.2):=rfl
 rw[e,<-List.map_filterMap,filterMap_getElem?_range]
theorem YgF{ks:List Str}{Gd:Value->Prop}{Q:Value->Shared->Prop}(T:TS prog w s.heap S ks Gd)(hb:ks.length<scanBound)(h:∀I s',SetIt prog w s S ks Gd I s'->Q (.ref I) s'):wpAny (model prog w) A (pyIter (.ref S)) Q E s:=by
 have hT:=T.typeIs
 obtain⟨es,ep,t,ho,T⟩:=T
 have hlt:S<s.heap.objs.size:=Heap.lt_size ho
 refine wpAny_pyIter_slot hT F.slot_set_iter (wpAny_call_entry F.slot_set_iter hT Yao ?_ (F.args_set_iter_1 _))
 unfold Builtin.«frozenset.__iter__» Builtin.Frozenset.slot0 slotArgs
 simp only[List.isEmpty_nil,Bool.not_true,Bool.false_eq_true,↓reduceIte,List.length_nil,bne_self_eq_false]
 unfold Builtin.Frozenset.addrOf Builtin.Frozenset.sizeOf
 refine wpAny_bind (wpAny_bind (wpAny_pure (wpAny_pure ?_)))
 refine wpAny_bind (wpAny_bind (wpAny_setEntries_of ho rfl T.fit (wpAny_pure ?_)))
 unfold setDrawn
 refine wpAny_bind (wpAny_bind (wpAny_setState_of ho rfl T.fit ?_))
 dsimp only
 unfold setsByText
 refine wpAny_bind (wpAny_bind (wpAny_askSetting (wpAny_pure (wpAny_pure ?_))))
 split
 ·rename_i z
  have z':(!(byText w) && (!t.plain && decide (es.size > 1)))=true:=z
  refine wpAny_bind (V1 es.size _ _ _ (by simp) fun od d hp=>?_)
  have hz:od.length<=sizeLine:=by
   have:=hp.length_eq
   rw[List.length_range]at this
   rw[this,T.sz]
   exact fits_of_scanBound hb
  refine wpAny_bind (wpAny_newTuple ?_ (by simpa using hz))
  refine wpAny_bind (wpAny_setEpoch_of (Heap.get?_push_of_some _ ho) rfl T.fit ?_)
  refine wpAny_bind (wpAny_newObj_type (wpAny_pure ⟨_,rfl,"set_iterator",_,⟨_,Heap.get?_push_size _ rfl,rfl⟩,slot_seti_next.lookup,h _ _ ?_⟩))
  refine⟨fun b o e=>Heap.get?_push_of_some _ (Heap.get?_push_of_some _ e),by rw[Heap.size_push];exact Nat.le_succ _,rfl,rfl,rfl,⟨_,Heap.get?_push_size _ rfl,rfl⟩,fun A' hh=>?_⟩
  have hne:S≠(s.heap.push { cls:=.type "tuple",dict:=none,data:=.seq (od.map fun (i:Nat)=>rawInt i).toArray }).objs.size:=by
   rw[Heap.size_push];exact Nat.ne_of_lt (Nat.lt_succ_of_lt hlt)
  have hnT:s.heap.objs.size≠(s.heap.push { cls:=.type "tuple",dict:=none,data:=.seq (od.map fun (i:Nat)=>rawInt i).toArray }).objs.size:=by
   rw[Heap.size_push];exact Nat.ne_of_lt (Nat.lt_succ_self _)
  have W:=Ydi (prog:=prog) (w:=w) (ep:=ep) (n:=0) hh hne hnT T.fit hp
  rw[T.sz]at W
  refine⟨_,_,_,W,⟨?_,?_,?_⟩,?_,?_,Wv T ?_⟩
  ·refine (Heap.get?_push_size _ rfl).trans ?_
   simp[itObj,rawInt,T.sz]
  ·exact Heap.get?_push_of_some _ (Heap.get?_push_of_some _ ho)
  ·exact Heap.get?_push_of_some _ (Heap.get?_push_size _ rfl)
  ·intro b hb
   rw[Heap.size_push,Heap.size_push]
   simp only[List.mem_cons,List.not_mem_nil,or_false]at hb
   rcases hb with rfl|rfl|rfl
   ·rw[Heap.size_push];exact Nat.lt_succ_self _
   ·exact Nat.lt_succ_of_lt (Nat.lt_succ_of_lt hlt)
   ·exact Nat.lt_succ_of_lt (Nat.lt_succ_self _)
  ·intro b hb
   simp only[List.mem_cons,List.not_mem_nil,or_false]at hb
   rcases hb with rfl|rfl|rfl
   ·rw[Heap.size_push];exact .inr (Nat.le_succ _)
   ·exact .inl rfl
   ·exact .inr (Nat.le_refl _)
  ·rw[<-Yaj]
   exact hp.filterMap _
 ·rename_i z
  refine wpAny_bind (wpAny_pure ?_)
  refine wpAny_bind (wpAny_setEpoch_of ho rfl T.fit ?_)
  refine wpAny_bind (wpAny_newObj_type (wpAny_pure ⟨_,rfl,"set_iterator",_,⟨_,Heap.get?_push_size _ rfl,rfl⟩,slot_seti_next.lookup,h _ _ ?_⟩))
  refine⟨fun b o e=>Heap.get?_push_of_some _ e,Nat.le_refl _,rfl,rfl,rfl,⟨_,Heap.get?_push_size _ rfl,rfl⟩,fun A' hh=>?_⟩
  have hne:S≠s.heap.objs.size:=Nat.ne_of_lt hlt
  have small:∀b∈[s.heap.objs.size,S],b<(s.heap.push { cls:=.type "set_iterator",dict:=none,data:=.fields [rawInt 0,rawInt 0,.ref S,rawInt es.size,rawInt ep].toArray }).objs.size:=by
   intro b hb
   rw[Heap.size_push]
   simp only[List.mem_cons,List.not_mem_nil,or_false]at hb
   rcases hb with rfl|rfl
   ·exact Nat.lt_succ_self _
   ·exact Nat.lt_succ_of_lt hlt
  have apart:∀b∈[s.heap.objs.size,S],b=S\/s.heap.objs.size<=b:=by
   intro b hb
   simp only[List.mem_cons,List.not_mem_nil,or_false]at hb
   rcases hb with rfl|rfl
   ·exact .inr (Nat.le_refl _)
   ·exact .inl rfl
  cases hbt:byText w with
  |true=>
   have W:=YeL (prog:=prog) (es:=es) (ep:=ep) hh hbt hne T.fit
   simp only[<-Array.getElem?_toList,Array.toList_map]at W
   rw[T.sz]at W
   refine⟨_,_,_,W,⟨?_,Heap.get?_push_of_some _ ho⟩,small,apart,Wv T ?_⟩
   ·refine (Heap.get?_push_size _ rfl).trans ?_
    simp[itObj,rawInt,T.sz]
   ·exact (Jy _ es).map _
  |false=>
   have hl:t.led=true:=by rw[T.led,hbt];rfl
   have hz:es.size<=1:=by
    rcases T.pl with h0|h0
    ·omega
    ·have z':¬(!(byText w) && (!t.plain && decide (es.size > 1)))=true:=z
     rw[hbt,h0]at z'
     simp at z'
     omega
   have W:=YfA (prog:=prog) (es:=es) (ep:=ep) hh hbt hne T.fit hl hz
   simp only[<-Array.getElem?_toList,Array.toList_map]at W
   rw[T.sz]at W
   refine⟨_,_,_,W,⟨?_,Heap.get?_push_of_some _ ho⟩,small,apart,Wv T (.refl _)⟩
   refine (Heap.get?_push_size _ rfl).trans ?_
   simp[itObj,rawInt,T.sz]
end
section
variable{prog:Program}{w:World}{A:Around}{E:Value->Shared->Prop}{s:Shared}{S:Addr}
theorem Yhd{r:Addr}{Q:Bool->Shared->Prop}(hT:s.TypeIs (.ref r) "set") (h:Q false s):wpAny (model prog w) A (Builtin.List.listLengthHint (.ref r)) Q E s:=by
 unfold Builtin.List.listLengthHint
 refine wpAny_bind (wpAny_specialOf hT F.slot_set_len.lookup ?_)
 generalize hid:("set.__len__":String)=id0
 wp_delta
 rw[show splitId id0=some ("set","__len__") from by subst hid;decide +kernel]
 subst hid
 refine wpAny_bind (wpAny_isInstance (T:="set") (b:=true) hT (by rw[isSubtype_type];kernel_rfl) ?_)
 refine wpAny_ite_split (fun hab=>absurd hab (by decide)) (fun _=>?_)
 refine wpAny_ite_split (fun _=>?_) (fun hab=>absurd (by decide +kernel) hab)
 refine wpAny_bind (wpAny_typeOf hT ?_)
 exact wpAny_pure h
theorem YeR{items:List Value}{acc:Array Value}(h:ItemsOf (fun i v=>items[i]?=some v) acc items.length):acc.toList=items:=by
 refine List.ext_getElem? fun i=>?_
 by_cases hi:i<acc.size
 ·have e:acc[i]?=some acc[i]:=by simp[hi]
  rw[Array.getElem?_toList,e,h.2 i _ e]
 ·rw[Array.getElem?_toList,Array.getElem?_eq_none (by omega),List.getElem?_eq_none (by have:=h.1;omega)]
theorem Yez{R:Result->Shared->Prop}{ks:List Str}{Gd:Value->Prop}(T:TS prog w s.heap S ks Gd)(hb:ks.length<scanBound)(hh:A.handled=none)(L:Addr)(hLS:L≠S)(res:Value)
 (hL:s.heap.get? L=some { cls:=.type "list",data:=.seq #[] })
 (hR:∀(s':Shared)(acc:Array Value)(c:Nat)(ys:List Str),(∀b o,b≠L->s.heap.get? b=some o->s'.heap.get? b=some o)->s'.gens=s.gens->s'.os=s.os->
  s'.heap.get? L=some { cls:=.type "list",dict:=none,data:=.seq acc c,slots:=#[] }->StrsAre acc.toList ys->ys.Perm ks->(∀v∈acc.toList,Gd v)->R (.ok (.ret res)) s'):
 wpAny (model prog w) A.in1 (Builtin.List.listExtendWith (.ref L) (.ref S) res)
  (fun fin s'=>match fin with| .done f=>R (.ok f) s'| .again c'=>c'.quiet=true/\codeAny (model prog w) A c' R s') (fun e s'=>R (.error e) s') s:=by
 have hT:=T.typeIs
 unfold Builtin.List.listExtendWith
 refine wpAny_bind (wpAny_typeOf (T:="set") hT ?_)
 have h1:Builtin.List.listSameRef (.ref L) (.ref S)=false:=by simp[Builtin.List.listSameRef,hLS]
 have h2:(Value.type "set" == Value.type "list")=false:=by decide
 have h3:(Value.type "set" == Value.type "tuple")=false:=by decide
 simp only[h1,h2,h3,Bool.or_false,Bool.false_eq_true,if_false]
 refine wpAny_bind (YgF T hb fun I s1 X=>?_)
 obtain⟨fp,items,St,W,st,small,apart,hlen,⟨ys,hys,hp⟩,hgd⟩:=X.wk A.in1 hh
 have hLf:L∉fp:=fun z=>by
  rcases apart L z with e|e
  ·exact hLS e
  ·exact absurd (Heap.lt_size hL) (Nat.not_lt.mpr e)
 have hn:ks.length<=sizeLine:=fits_of_scanBound hb
 have hL1:=X.old _ _ hL
 have hLI:L≠I:=fun z=>absurd (Heap.lt_size hL) (Nat.not_lt.mpr (by rw[z];exact X.new))
 have key:∀(h:Heap)(c₁:Nat),St 0 h->(∀b o,b≠L->s.heap.get? b=some o->h.get? b=some o)->h.get? L=some { cls:=.type "list",data:=.seq #[] c₁ }->
  codeAny (model prog w) A (.builtin "list.extend.loop" ⟨[.ref L,.ref I,res],[]⟩) R { s1 with heap:=h }:=by
  intro h c₁ hst hk hS₁
  refine codeAny_extend_loopS W.toS hn L hLf res ks.length 0 _ #[] c₁ rfl (Nat.zero_le _) hst hS₁ (ItemsOf.nil _) fun s' acc' c' hm hS' hacc=>?_
  rw[<-hlen]at hacc
  have e:=YeR hacc
  refine hR s' acc' c' ys (fun b o hb' e'=>?_) ?_ ?_ hS' (by rw[e];exact hys) hp (by rw[e];exact hgd)
  ·refine hm.heap b o (fun hmem=>?_) (hk b o hb' e')
   rcases List.mem_cons.mp hmem with e''|hmem
   ·exact hb' e''
   ·rw[List.mem_singleton.mp hmem]at e'
    exact absurd (Heap.lt_size e') (Nat.not_lt.mpr X.new)
  ·have:=hm.gens;exact this.trans X.gens
  ·exact hm.os.trans X.os
 refine wpAny_bind (wpAny_holding (Yhd (T.keep (X.old S)).typeIs ?_))
 refine wpAny_ite_split (fun _=>?_) (fun _=>wpAny_pure ⟨plainId_quiet PySem.F.plain_extend_loop _,key s1.heap 0 st (fun b o _ e=>X.old b o e) hL1⟩)
 refine wpAny_bind (wpAny_rule ?_)
 refine wpAny_bind ?_
 show wpAny _ _ (updateSeq L (·.push .none) >>= fun _=>updateSeq L (·.pop)) _ _ _
 refine wpAny_bind (wpAny_updateSeq hL1 rfl ?_)
 have hS₂:=Heap.get?_update_self (Obj.mapSeq (·.push Value.none)) hL1 rfl
 refine wpAny_updateSeq (hz:=by seq_fits) hS₂ rfl ?_
 have hS₃:=Heap.get?_update_self (Obj.mapSeq (·.pop)) hS₂ rfl
 refine wpAny_pure ⟨plainId_quiet PySem.F.plain_extend_loop _,key _ _ ?_ (fun b o hb e=>?_) hS₃⟩
 ·refine W.frame 0 _ _ st fun b hb o e=>?_
  have hbS:b≠L:=fun h=>hLf (h ▸ hb)
  exact (Heap.get?_update_other _ _ (Ne.symm hbS)).trans ((Heap.get?_update_other _ _ (Ne.symm hbS)).trans e)
 ·exact (Heap.get?_update_other _ _ (Ne.symm hb)).trans ((Heap.get?_update_other _ _ (Ne.symm hb)).trans (X.old b o e))
theorem YdN{R:List Value->Shared->Prop}{ks:List Str}{Gd:Value->Prop}(T:TS prog w s.heap S ks Gd)(hb:ks.length<scanBound)(hh:A.handled=none)
 (h:∀(s':Shared)(acc:List Value)(ys:List Str),(∀b o,s.heap.get? b=some o->s'.heap.get? b=some o)->s'.gens=s.gens->s'.os=s.os->s.heap.objs.size<s'.heap.objs.size->StrsAre acc ys->ys.Perm ks->(∀v∈acc,Gd v)->R acc s'):
 wpAny (model prog w) A (collect (.ref S)) R E s:=by
 have hlt:S<s.heap.objs.size:=let ⟨_,_,_,ho,_⟩:=T;Heap.lt_size ho
 unfold collect
 refine wpAny_bind (wpAny_runValue (codeAny_builtin entry_proto_collect' ?_))
 rw[Around.under_plainId PySem.F.plain_proto_collect _]
 show wpAny _ A.in1 (newList [] >>= fun l=>again (.builtin "list.__iadd__" ⟨[l,.ref S],[]⟩)) _ _ s
 refine wpAny_bind (wpAny_newObj_type ?_)
 refine wpAny_pure ⟨plainId_quiet PySem.F.plain_list_iadd _,codeAny_builtin entry_list_iadd' ?_⟩
 rw[Around.under_plainId PySem.F.plain_list_iadd _]
 have hS₁:(s.heap.push { cls:=.type "list",data:=.seq ([]:List Value).toArray }).get? s.heap.objs.size=some { cls:=.type "list",data:=.seq #[] }:=Heap.get?_push_size _ rfl
 show wpAny _ A.in1 (Builtin.List.listExtendWith (.ref s.heap.objs.size) (.ref S) (.ref s.heap.objs.size)) _ _ _
 have key:=Yez (A:=A) (s:={ s with heap:=s.heap.push { cls:=.type "list",data:=.seq ([]:List Value).toArray } })
  (R:=fun (q:Result) (s':Shared)=>∃(acc:Array Value)(c:Nat)(ys:List Str),q=.ok (.ret (.ref s.heap.objs.size))/\
   (∀b o,s.heap.get? b=some o->s'.heap.get? b=some o)/\s'.gens=s.gens/\s'.os=s.os/\s'.heap.get? s.heap.objs.size=some { cls:=.type "list",dict:=none,data:=.seq acc c,slots:=#[] }/\StrsAre acc.toList ys/\ys.Perm ks/\∀v∈acc.toList,Gd v)
  (T.keep fun o e=>Heap.get?_push_of_some _ e) hb hh s.heap.objs.size (Nat.ne_of_gt hlt) (.ref s.heap.objs.size) hS₁
  (fun s' acc c ys hk hg ho hS' hacc hp hgd=>⟨acc,c,ys,rfl,fun b o e=>hk b o (Nat.ne_of_lt (Heap.lt_size e)) (Heap.get?_push_of_some _ e),hg,ho,hS',hacc,hp,hgd⟩)
 refine wpAny_mono key (fun fin s' x=>?_) fun e s' x=>?_
 ·cases fin with
  |done f=>
   obtain⟨acc,c,ys,e,hk,hg,ho,hS',hacc,hp,hgd⟩:=x
   cases e
   show wpAny _ A (load s.heap.objs.size >>= _) _ _ _
   refine wpAny_bind (wpAny_load hS' ?_)
   exact wpAny_pure (h s' acc.toList ys hk hg ho (Heap.lt_size hS') hacc hp hgd)
  |again c₁=>
   refine⟨x.1,codeAny_mono x.2 fun q s₂ y=>?_⟩
   obtain⟨acc,c,ys,rfl,hk,hg,ho,hS',hacc,hp,hgd⟩:=y
   show wpAny _ A (load s.heap.objs.size >>= _) _ _ _
   refine wpAny_bind (wpAny_load hS' ?_)
   exact wpAny_pure (h s₂ acc.toList ys hk hg ho (Heap.lt_size hS') hacc hp hgd)
 ·obtain⟨_,_,_,e',_⟩:=x
  cases e'
theorem Yaf{ks:List Str}{Gd:Value->Prop}{Q:Value->Shared->Prop}(T:TS prog w s.heap S ks Gd)(hb:ks.length<64)(hh:A.handled=none)
 (h:∀(D:Addr)(s':Shared)(out:List Value)(ss:List Str)(n:Nat),s.heap.objs.size<=D->(∀b o,s.heap.get? b=some o->s'.heap.get? b=some o)->s'.gens=s.gens->s'.os=s.os->
  s'.heap.get? D=some { cls:=.type "list",data:=.seq out.toArray n }->StrsAre out ss->ss.Perm ks->sortedS ss=true->(∀v∈out,Gd v)->Q (.ref D) s'):
 wpAny (model prog w) A (call (.builtin "sorted") [.ref S]) Q E s:=by
 refine Calls.call_function_entry kind_sorted plain_sorted entry_sorted (args_sorted1 _) ?_
 unfold Builtin.«sorted»
 refine wpAny_bind (m:=checkCount "sorted" 1 1 _) (wpAny_pure ?_)
 refine wpAny_bind (YdN (A:=A.in1) T (Nat.lt_trans hb (by decide)) hh fun s1 acc ys hk hg ho hsz0 hacc hp hgd=>?_)
 have hl:acc.length=ks.length:=by have:=StrsAre.length hacc;rw[this,hp.length_eq]
 refine wpAny_bind (wpAny_newList ?_ (by rw[hl];exact Nat.le_trans (Nat.le_of_lt hb) (by rw[sizeLine_eq];decide)))
 have hoL:(s1.heap.push (seqObj "list" acc.toArray 0)).get? s1.heap.objs.size=some (seqObj "list" acc.toArray 0):=Heap.get?_push_size _ rfl
 refine wpAny_bind (wpAny_holding (wpAny_call_entry (s:={ s1 with heap:=s1.heap.push (seqObj "list" acc.toArray 0) }) slot_list_sort ⟨_,hoL,rfl⟩ entry_list_sort
  (list_sort_treeK strKind_oneLt hoL hacc.keysOf (fun v₁ v₂ rest e=>keyKind_strs (by rw[<-e];exact hacc)) (by rw[hl];exact hb) fun st' a1 a2=>⟨_,rfl,?_⟩) (args_list_sort _)))
 obtain⟨ss,g1,g2,g3⟩:=sorted_out_str hacc a1 a2
 have hsz:s.heap.objs.size<=s1.heap.objs.size:=Nat.le_of_lt hsz0
 obtain⟨n,hD⟩:∃n,(sortedHeap (s1.heap.push (seqObj "list" acc.toArray 0)) s1.heap.objs.size acc ((arrOf st').map (·.2))).get? s1.heap.objs.size=some (seqObj "list" ((arrOf st').map (·.2)) n):=by
  have g0:=Heap.get?_push_of_some (seqObj "list" #[] 0) (Heap.get?_push_of_some (seqObj "tuple" acc.toArray 0) (get?_update_seq hoL fun _=>#[]))
  exact⟨_,get?_update_seq g0 _⟩
 have hOld:∀b o,s.heap.get? b=some o->(sortedHeap (s1.heap.push (seqObj "list" acc.toArray 0)) s1.heap.objs.size acc ((arrOf st').map (·.2))).get? b=some o:=fun b o e=>by
  have hb':b≠s1.heap.objs.size:=Nat.ne_of_lt (Heap.lt_size (hk b o e))
  unfold sortedHeap
  rw[Heap.get?_update_other _ _ (Ne.symm hb')]
  refine Heap.get?_push_of_some _ (Heap.get?_push_of_some _ ?_)
  rw[Heap.get?_update_other _ _ (Ne.symm hb')]
  exact Heap.get?_push_of_some _ (hk b o e)
 generalize sortedHeap (s1.heap.push (seqObj "list" acc.toArray 0)) s1.heap.objs.size acc ((arrOf st').map (·.2))=hp' at hD hOld ⊢
 have hD':hp'.get? s1.heap.objs.size=some { cls:=.type "list",data:=.seq ((arrOf st').map (·.2)).toList.toArray n }:=by rw[Array.toArray_toList];exact hD
 refine wpAny_pure ⟨_,rfl,h s1.heap.objs.size _ ((arrOf st').map (·.2)).toList ss n hsz hOld hg ho hD' g1 (g2.trans hp) g3 fun v hv=>?_⟩
 rw[Array.toList_map]at hv
 obtain⟨p,hp',rfl⟩:=List.mem_map.mp hv
 have hl2:(arrOf st').toList.Perm (acc.zip acc):=by rw[<-pairsOf_toList];exact Array.perm_iff_toList_perm.mp a1
 have h2:=mem_zip_self (hl2.mem_iff.mp hp')
 rw[<-h2.1]
 exact hgd _ h2.2
end
def leS(a b:Str):Bool:=!strLt b a
def sortS(ks:List Str):List Str:=ks.mergeSort leS
theorem Ye1{a b:Str}(h:a.cps.toList=b.cps.toList):a=b:=by
 cases a with|mk a=>cases b with|mk b=>exact congrArg Str.mk (Array.toList_inj.mp h)
theorem Yaq{a b:Str}:leS a b=true↔a.cps.toList<=b.cps.toList:=by
 unfold leS strLt
 simp[List.not_lt]
theorem YbS(a b c:Str)(h1:leS a b=true)(h2:leS b c=true):leS a c=true:=by
 rw[Yaq]at *
 exact List.le_trans h1 h2
theorem Ygw(a b:Str):(leS a b || leS b a)=true:=by
 rw[Bool.or_eq_true,Yaq,Yaq]
 exact List.le_total _ _
theorem Yiw{a b:Str}(h1:leS a b=true)(h2:leS b a=true):a=b:=by
 rw[Yaq]at *
 exact Ye1 (List.le_antisymm h1 h2)
theorem YeQ(ks:List Str):(sortS ks).Perm ks:=List.mergeSort_perm ks leS
theorem Ybe(ks:List Str):(sortS ks).Pairwise fun a b=>leS a b=true:=List.pairwise_mergeSort YbS Ygw ks
theorem Jp{ss ks:List Str}(hp:ss.Perm ks)(h:ss.Pairwise fun a b=>leS a b=true):ss=sortS ks:=
 List.Perm.eq_of_pairwise (fun a b _ _ h1 h2=>Yiw h1 h2) h (Ybe ks) (hp.trans (YeQ ks).symm)
theorem Wh:∀(p:Str)(l:List Str),risingS p l=true->(p::l).Pairwise fun a b=>leS a b=true
 |p,[],_=>List.pairwise_singleton ..
 |p,x::r,h=>by
  unfold risingS at h
  rw[Bool.and_eq_true]at h
  have ih:=Wh x r h.2
  have h1:leS p x=true:=by
   have:=h.1
   rw[ltCps_eq]at this
   exact this
  refine List.Pairwise.cons (fun y hy=>?_) ih
  rcases List.mem_cons.mp hy with rfl|hy
  ·exact h1
  ·exact YbS _ _ _ h1 (List.rel_of_pairwise_cons ih hy)
theorem Ju:∀(l:List Str),sortedS l=true->l.Pairwise fun a b=>leS a b=true
 | [],_=>.nil
 |x::r,h=>Wh x r h
section
variable{X:Cx}{e:Expr}{me:ME}{p1 p2 c1 c2:Pos}
end
end Mi
namespace Mi
open PySem PySem.Spec L2 PySem.SeqAt
open PyProof.Rows hiding St
def noD:Nat->PyData->Bool
 |_,.none=>true
 |_,.bool _=>true
 |_,.int _=>true
 |_,.str _=>true
 |n+1,.list xs=>xs.all (noD n)
 |n+1,.tuple xs=>xs.all (noD n)
 |_,_=>false
theorem Zz{h:Heap}:∀{vs:List Value}{xs:List PyData}{as:List Addr},ReadsAll h vs xs as->∀j (h1:j<vs.length),∃(h2:j<xs.length)(bs:List Addr),Reads h vs[j] xs[j] bs
 |_,_,_,.nil,j,h1=>absurd h1 (Nat.not_lt_zero _)
 |_,_,_,.cons r _,0,_=>⟨Nat.succ_pos _,_,r⟩
 |_,_,_,.cons _ rs,j+1,h1=>by
  obtain⟨h2,bs,q⟩:=Zz rs j (Nat.lt_of_succ_lt_succ h1)
  exact⟨Nat.succ_lt_succ h2,bs,q⟩
theorem YX{h:Heap}:∀{vs:List Value}{xs:List PyData}{as:List Addr},ReadsAll h vs xs as->vs.length=xs.length
 |_,_,_,.nil=>rfl
 |_,_,_,.cons _ rs=>congrArg Nat.succ (YX rs)
theorem Ygi{h:Heap}:∀(n:Nat){v:Value}{d e:PyData}{as bs:List Addr},noD n d=true->Reads h v d as->Reads h v e bs->d=e:=by
 intro n
 induction n with
 |zero=>
  intro v d e as bs hd r q
  cases r <;> first|(cases q;rfl)|exact absurd hd (by simp[noD])
 |succ n ih=>
  have all:∀{vs:List Value}{xs ys:List PyData}{as bs:List Addr},xs.all (noD n)=true->ReadsAll h vs xs as->ReadsAll h vs ys bs->xs=ys:=by
   intro vs xs ys as bs ha rx ry
   have l1:=YX rx
   have l2:=YX ry
   refine List.ext_getElem (l1.symm.trans l2) fun j j1 j2=>?_
   obtain⟨_,_,a⟩:=Zz rx j (by omega)
   obtain⟨_,_,b⟩:=Zz ry j (by omega)
   exact ih (List.all_eq_true.mp ha _ (List.getElem_mem j1)) a b
  intro v d e as bs hd r q
  cases r with
  |none=>cases q;rfl
  |bool b=>cases q;rfl
  |int i t=>cases q;rfl
  |str x t=>cases q;rfl
  |list h1 h2 h3 h4=>
   cases q with
   |list k1 k2 k3 k4=>rw[h1]at k1;cases k1;rw[h3]at k3;cases k3;rw[all hd h4 k4]
   |tuple k1 k2 k3 k4=>rw[h1]at k1;cases k1;rw[h2]at k2;exact absurd k2 (by decide)
   |dict k1 k2 k3 k4 k5=>rw[h1]at k1;cases k1;rw[h2]at k2;exact absurd k2 (by decide)
  |tuple h1 h2 h3 h4=>
   cases q with
   |tuple k1 k2 k3 k4=>rw[h1]at k1;cases k1;rw[h3]at k3;cases k3;rw[all hd h4 k4]
   |list k1 k2 k3 k4=>rw[h1]at k1;cases k1;rw[h2]at k2;exact absurd k2 (by decide)
   |dict k1 k2 k3 k4 k5=>rw[h1]at k1;cases k1;rw[h2]at k2;exact absurd k2 (by decide)
  |dict=>exact absurd hd (by simp[noD])
theorem Ya0{xs:List PyData}(h:∀x∈xs,PyData.eqv x x=true):PyData.eqvAll xs xs=true:=by
 induction xs with
 |nil=>rfl
 |cons x r ih=>rw[PyData.eqvAll,h x (List.mem_cons_self ..),ih fun y hy=>h y (List.mem_cons_of_mem _ hy)];rfl
theorem Yhf:∀(n:Nat){d:PyData},noD n d=true->PyData.eqv d d=true:=by
 intro n
 induction n with
 |zero=>intro d hd;cases d <;> first|(simp[PyData.eqv];done)|exact absurd hd (by simp[noD])
 |succ n ih=>
  intro d hd
  cases d with
  |list xs=>rw[PyData.eqv];exact Ya0 fun x hx=>ih (List.all_eq_true.mp hd x hx)
  |tuple xs=>rw[PyData.eqv];exact Ya0 fun x hx=>ih (List.all_eq_true.mp hd x hx)
  |dict _=>exact absurd hd (by simp[noD])
  |_=>simp[PyData.eqv]
inductive Sh(h:Heap):Value->PyData->Prop where
 |none:Sh h .none .none
 |bool (b):Sh h (.bool b) (.bool b)
 |int (i t):Sh h (.int i t) (.int i)
 |str (x t):Sh h (.str x t) (.str x)
 |list {a its xs as}:h.IsList a its->ReadsAll h its.toList xs as->Sh h (.ref a) (.list xs)
 |tup {a its xs as}:h.IsTuple a its->ReadsAll h its.toList xs as->Sh h (.ref a) (.tuple xs)
theorem Ye0{h:Heap}{n:Nat}{v:Value}{d:PyData}{as:List Addr}(r:Reads h v d as)(hd:noD n d=true):Sh h v d:=by
 cases r with
 |none=>exact .none
 |bool b=>exact .bool b
 |int i t=>exact .int i t
 |str x t=>exact .str x t
 |list h1 h2 h3 h4=>exact .list ⟨_,h1,h2,_,h3⟩ h4
 |tuple h1 h2 h3 h4=>exact .tup ⟨_,h1,h2,_,h3⟩ h4
 |dict=>cases n <;> exact absurd hd (by simp[noD])
theorem Ydr{A:Around}{s:Shared}{v u:Value}{d e:PyData}(hu:A.units<cLine)(a:Sh s.heap v d)(b:Sh s.heap u e)
 (sub:∀{its its':Array Value}{xs ys:List PyData}{as bs:List Addr},(d=.list xs/\e=.list ys)\/(d=.tuple xs/\e=.tuple ys)->ReadsAll s.heap its.toList xs as->ReadsAll s.heap its'.toList ys bs->
  ∀j (h1:j<its.size) (h2:j<its'.size),EqAt A.in1 s its[j] its'[j] (pairEq xs ys j)):RcAt A s v u (PyData.eqv d e)/\RcNeAt A s v u (!PyData.eqv d e):=by
 cases a with
 |none=>
  cases b with
  |none=>exact⟨.none_none,.none_none⟩
  |bool y=>exact⟨.none_bool y,.none_bool y⟩
  |int y t=>exact⟨.none_int y t,.none_int y t⟩
  |str y t=>exact⟨.none_str y t,.none_str y t⟩
  |list k _=>exact⟨.none_list k hu,.none_list k hu⟩
  |tup k _=>exact⟨.none_tuple k hu,.none_tuple k hu⟩
 |bool x=>
  cases b with
  |none=>exact⟨.bool_none x,.bool_none x⟩
  |bool y=>exact⟨.bool_bool x y,.bool_bool x y⟩
  |int y t=>exact⟨.bool_int x y t,.bool_int x y t⟩
  |str y t=>exact⟨.bool_str x y t,.bool_str x y t⟩
  |list k _=>exact⟨.bool_list x k hu,.bool_list x k hu⟩
  |tup k _=>exact⟨.bool_tuple x k hu,.bool_tuple x k hu⟩
 |int x t=>
  cases b with
  |none=>exact⟨.int_none x t,.int_none x t⟩
  |bool y=>exact⟨.int_bool x t y,.int_bool x t y⟩
  |int y t'=>exact⟨.int_int x t y t',.int_int x t y t'⟩
  |str y t'=>exact⟨.int_str x t y t',.int_str x t y t'⟩
  |list k _=>exact⟨.int_list x t k hu,.int_list x t k hu⟩
  |tup k _=>exact⟨.int_tuple x t k hu,.int_tuple x t k hu⟩
 |str x t=>
  cases b with
  |none=>exact⟨.str_none x t,.str_none x t⟩
  |bool y=>exact⟨.str_bool x t y,.str_bool x t y⟩
  |int y t'=>exact⟨.str_int x t y t',.str_int x t y t'⟩
  |str y t'=>exact⟨.str_str x t y t',.str_str x t y t'⟩
  |list k _=>exact⟨.str_list x t k hu,.str_list x t k hu⟩
  |tup k _=>exact⟨.str_tuple x t k hu,.str_tuple x t k hu⟩
 |@list l its xs as h1 h2=>
  cases b with
  |none=>exact⟨.list_none h1 hu,.list_none h1 hu⟩
  |bool y=>exact⟨.list_bool y h1 hu,.list_bool y h1 hu⟩
  |int y t'=>exact⟨.list_int y t' h1 hu,.list_int y t' h1 hu⟩
  |str y t'=>exact⟨.list_str y t' h1 hu,.list_str y t' h1 hu⟩
  |tup k _=>exact⟨.list_tuple h1 k hu,.list_tuple h1 k hu⟩
  |@list l' its' ys bs k1 k2=>
   have n1:its.size=xs.length:=by simpa using YX h2
   have n2:its'.size=ys.length:=by simpa using YX k2
   have he:=sub (.inl ⟨rfl,rfl⟩) h2 k2
   rw[PyData.eqv]
   by_cases hz:its.size=its'.size
   ·rw[<-eqvAll_same_length (by omega:xs.length=ys.length),<-n1]
    exact⟨.lists h1 k1 hz hu he,.lists h1 k1 hz hu he⟩
   ·rw[eqvAll_other_length (by omega:xs.length≠ys.length)]
    exact⟨.lists_lengths h1 k1 (by simpa using hz) hu,.lists_lengths h1 k1 (by simpa using hz) hu⟩
 |@tup l its xs as h1 h2=>
  cases b with
  |none=>exact⟨.tuple_none h1 hu,.tuple_none h1 hu⟩
  |bool y=>exact⟨.tuple_bool y h1 hu,.tuple_bool y h1 hu⟩
  |int y t'=>exact⟨.tuple_int y t' h1 hu,.tuple_int y t' h1 hu⟩
  |str y t'=>exact⟨.tuple_str y t' h1 hu,.tuple_str y t' h1 hu⟩
  |list k _=>exact⟨.tuple_list h1 k hu,.tuple_list h1 k hu⟩
  |@tup l' its' ys bs k1 k2=>
   have n1:its.size=xs.length:=by simpa using YX h2
   have n2:its'.size=ys.length:=by simpa using YX k2
   have he:=sub (.inr ⟨rfl,rfl⟩) h2 k2
   rw[PyData.eqv,<-eqvAll_eq xs ys,<-n1,<-n2]
   exact⟨.tuples h1 k1 hu he,.tuples h1 k1 hu he⟩
theorem Ye9{A:Around}{s:Shared}{v u:Value}{d e:PyData}(hu:A.units<cLine)(a:Sh s.heap v d)(b:Sh s.heap u e)(hs:∀x y,v=.ref x->u=.ref y->EqAt A s v u (PyData.eqv d e)):EqAt A s v u (PyData.eqv d e):=by
 cases a with
 |none=>
  cases b with
  |none=>exact .same _
  |bool y=>exact .none_bool y
  |int y t=>exact .none_int y t
  |str y t=>exact .none_str y t
  |list k _=>exact .none_list k hu
  |tup k _=>exact .none_tuple k hu
 |bool x=>
  cases b with
  |none=>exact .bool_none x
  |bool y=>exact .bool_bool x y
  |int y t=>exact .bool_int x y t
  |str y t=>exact .bool_str x y t
  |list k _=>exact .bool_list x k hu
  |tup k _=>exact .bool_tuple x k hu
 |int x t=>
  cases b with
  |none=>exact .int_none x t
  |bool y=>exact .int_bool x t y
  |int y t'=>exact .int_int x t y t'
  |str y t'=>exact .int_str x t y t'
  |list k _=>exact .int_list x t k hu
  |tup k _=>exact .int_tuple x t k hu
 |str x t=>
  cases b with
  |none=>exact .str_none x t
  |bool y=>exact .str_bool x t y
  |int y t'=>exact .str_int x t y t'
  |str y t'=>exact .str_str x t y t'
  |list k _=>exact .str_list x t k hu
  |tup k _=>exact .str_tuple x t k hu
 |list h1 _=>
  cases b with
  |none=>exact .list_none h1 hu
  |bool y=>exact .list_bool y h1 hu
  |int y t'=>exact .list_int y t' h1 hu
  |str y t'=>exact .list_str y t' h1 hu
  |list _ _=>exact hs _ _ rfl rfl
  |tup _ _=>exact hs _ _ rfl rfl
 |tup h1 _=>
  cases b with
  |none=>exact .tuple_none h1 hu
  |bool y=>exact .tuple_bool y h1 hu
  |int y t'=>exact .tuple_int y t' h1 hu
  |str y t'=>exact .tuple_str y t' h1 hu
  |list _ _=>exact hs _ _ rfl rfl
  |tup _ _=>exact hs _ _ rfl rfl
theorem Yce:∀(n:Nat){d e:PyData}{A:Around}{s:Shared}{v u:Value}{as bs:List Addr},Reads s.heap v d as->Reads s.heap u e bs->noD n d=true->noD n e=true->A.units+n<cLine->
 EqAt A s v u (PyData.eqv d e)/\RcAt A s v u (PyData.eqv d e)/\RcNeAt A s v u (!PyData.eqv d e):=by
 intro n
 induction n with
 |zero=>
  intro d e A s v u as bs r q hd he hu
  have a:=Ye0 r hd
  have b:=Ye0 q he
  have rc:=Ydr (A:=A) (by omega) a b fun {its its' xs ys as bs} h=>by rcases h with⟨rfl,_⟩|⟨rfl,_⟩ <;> exact absurd hd (by simp[noD])
  exact⟨Ye9 (by omega) a b fun x y e1 e2=>by subst e1;cases a <;> exact absurd hd (by simp[noD]),rc.1,rc.2⟩
 |succ n ih=>
  intro d e A s v u as bs r q hd he hu
  have a:=Ye0 r hd
  have b:=Ye0 q he
  have rc:=Ydr (A:=A) (by omega) a b fun {its its' xs ys as bs} h rx ry j h1 h2=>by
   obtain⟨l1,as',ra⟩:=Zz rx j (by simpa using h1)
   obtain⟨l2,bs',rb⟩:=Zz ry j (by simpa using h2)
   have hx:noD n xs[j]=true:=by
    rcases h with⟨rfl,_⟩|⟨rfl,_⟩ <;> exact List.all_eq_true.mp hd _ (List.getElem_mem l1)
   have hy:noD n ys[j]=true:=by
    rcases h with⟨_,rfl⟩|⟨_,rfl⟩ <;> exact List.all_eq_true.mp he _ (List.getElem_mem l2)
   have:=(ih (A:=A.in1) ra rb hx hy (by show A.units+1+n<cLine;omega)).1
   unfold pairEq
   rw[List.getD_eq_getElem?_getD,List.getD_eq_getElem?_getD,List.getElem?_eq_getElem l1,List.getElem?_eq_getElem l2]
   simpa using this
  refine⟨Ye9 (by omega) a b fun x y e1 e2=>?_,rc.1,rc.2⟩
  subst e1;subst e2
  by_cases hxy:x=y
  ·subst hxy
   have:=Ygi (n+1) hd r q
   subst this
   rw[Yhf (n+1) hd]
   exact .same _
  ·exact .of_refs hxy rc.1
def snap:Nat->Stor->P->Option PyData
 |_,_,.non=>some .none
 |_,_,.bl b=>some (.bool b)
 |_,_,.int i=>some (.int i)
 |_,_,.str x=>some (.str x)
 |n+1,st,.tup xs=>(xs.mapM (snap n st)).map .tuple
 |n+1,st,.ref k=>match listAt st k with
  |some xs=>(xs.mapM (snap n st)).map .list
  |none=>none
 | 0,_,.tup _=>none
 | 0,_,.ref _=>none
theorem W7{α β:Type}{f:α->Option β}{x:α}{xs:List α}{ys:List β}(h:(x::xs).mapM f=some ys):∃y r,f x=some y/\xs.mapM f=some r/\ys=y::r:=by
 rw[List.mapM_cons]at h
 cases q:f x with
 |none=>rw[q]at h;cases h
 |some y=>
  rw[q]at h
  cases q2:xs.mapM f with
  |none=>rw[q2]at h;cases h
  |some r=>rw[q2]at h;cases h;exact⟨y,r,rfl,rfl,rfl⟩
theorem YaX{α β:Type}{f:α->Option β}{p:β->Bool}(hf:∀x y,f x=some y->p y=true):∀{xs:List α}{ys:List β},xs.mapM f=some ys->ys.all p=true
 | [],ys,h=>by rw[List.mapM_nil]at h;cases h;rfl
 |x::xs,ys,h=>by
  obtain⟨y,r,h1,h2,rfl⟩:=W7 h
  rw[List.all_cons,hf x y h1,YaX hf h2]
  rfl
theorem Wm{st:Stor}:∀{n:Nat}{p:P}{d:PyData},snap n st p=some d->noD n d=true:=by
 intro n
 induction n with
 |zero=>intro p d h;cases p <;> first|(unfold snap at h;cases h;rfl)|(unfold snap at h;cases h)
 |succ n ih=>
  intro p d h
  cases p with
  |tup xs=>
   unfold snap at h
   cases q:xs.mapM (snap n st) with
   |none=>rw[q]at h;cases h
   |some ds=>rw[q]at h;cases h;exact YaX (fun x y e=>ih e) q
  |ref k=>
   unfold snap at h
   cases q0:listAt st k with
   |none=>rw[q0]at h;cases h
   |some xs=>
    rw[q0]at h
    dsimp only at h
    cases q:xs.mapM (snap n st) with
    |none=>rw[q]at h;cases h
    |some ds=>rw[q]at h;cases h;exact YaX (fun x y e=>ih e) q
  |_=>unfold snap at h;cases h;rfl
section
variable{X:Cx}{pins:List (Addr×Obj)}{σ:St}{H:Hp}{s:Shared}{as:List Addr}{st:Stor}
theorem ZA(I:Inv X pins σ H s)(rp:Rep X.K as st H):∀{n:Nat}{p:P}{d:PyData}{x:V}{v:Value},snap n st p=some d->Den X.K as H x p->RelV x v->∃bs,Reads s.heap v d bs:=by
 have all:∀{n:Nat},(∀{p:P}{d:PyData}{x:V}{v:Value},snap n st p=some d->Den X.K as H x p->RelV x v->∃bs,Reads s.heap v d bs)->
  ∀{ps:List P}{ds:List PyData}{xs:List V}{vs:List Value},ps.mapM (snap n st)=some ds->Dens X.K as H xs ps->Vals xs vs->∃bs,ReadsAll s.heap vs ds bs:=by
  intro n one ps
  induction ps with
  |nil=>intro ds xs vs h d r;rw[List.mapM_nil]at h;cases h;cases d;cases r;exact⟨_,.nil⟩
  |cons p ps ih=>
   intro ds xs vs h d r
   obtain⟨y,rs,h1,h2,rfl⟩:=W7 h
   cases d with
   |cons d1 d2=>
    cases r with
    |cons r1 r2=>
     obtain⟨b1,q1⟩:=one h1 d1 r1
     obtain⟨b2,q2⟩:=ih h2 d2 r2
     exact⟨_,.cons q1 q2⟩
 intro n
 induction n with
 |zero=>
  intro p d x v h den r
  cases den with
  |non=>unfold snap at h;cases h;cases r;exact⟨_,.none⟩
  |bl=>unfold snap at h;cases h;cases r;exact⟨_,.bool _⟩
  |int=>unfold snap at h;cases h;obtain⟨t,rfl⟩:=r;exact⟨_,.int _ t⟩
  |str=>unfold snap at h;cases h;cases r;exact⟨_,.str _ _⟩
  |_=>unfold snap at h;cases h
 |succ n ih=>
  intro p d x v h den r
  cases den with
  |non=>unfold snap at h;cases h;cases r;exact⟨_,.none⟩
  |bl=>unfold snap at h;cases h;cases r;exact⟨_,.bool _⟩
  |int=>unfold snap at h;cases h;obtain⟨t,rfl⟩:=r;exact⟨_,.int _ t⟩
  |str=>unfold snap at h;cases h;cases r;exact⟨_,.str _ _⟩
  |@tup a vs ps e q=>
   unfold snap at h
   cases z:ps.mapM (snap n st) with
   |none=>rw[z]at h;cases h
   |some ds=>
    rw[z]at h;cases h
    cases r
    obtain⟨its,r1,⟨o,ho,hc,m,hd⟩,_⟩:=I.tuple e
    obtain⟨bs,q'⟩:=all ih z q r1
    exact⟨_,.tuple ho hc hd (by simpa using q')⟩
  |@ref k a e=>
   unfold snap at h
   cases q0:listAt st k with
   |none=>rw[q0]at h;cases h
   |some xs=>
    rw[q0]at h
    dsimp only at h
    cases z:xs.mapM (snap n st) with
    |none=>rw[z]at h;cases h
    |some ds=>
     rw[z]at h;cases h
     cases r
     obtain⟨vs,g1,g2⟩:=Ycl rp e q0
     obtain⟨its,r1,pl,_⟩:=I.list g1
     obtain⟨o,ho,hc,m,hd⟩:=pl.isList
     obtain⟨bs,q'⟩:=all ih z g2 r1
     exact⟨_,.list ho hc hd (by simpa using q')⟩
def deep:Nat:=8
def eqB(p q:P)(st:Stor):Option Bool:=match snap deep st p,snap deep st q with
 |some d,some e=>some (PyData.eqv d e)
 |_,_=>none
def eqP:G2:=fun p q st=>(eqB p q st).map fun b=>(.bl b,st)
def neP:G2:=fun p q st=>(eqB p q st).map fun b=>(.bl (!b),st)
theorem ZT(hu:X.A.units+deep<cLine):OpR X (compareOp .Eq) (rM X eqP):=opM fun pins s σ H x y v u Q as st p q I rx ry rp d1 d2 h=>by
 unfold eqP eqB at h
 cases z1:snap deep st p with
 |none=>rw[z1]at h;exact h.elim
 |some d=>
  cases z2:snap deep st q with
  |none=>rw[z1,z2]at h;exact h.elim
  |some e=>
   rw[z1,z2]at h
   obtain⟨b1,r1⟩:=ZA I rp z1 d1 rx
   obtain⟨b2,r2⟩:=ZA I rp z2 d2 ry
   exact (Yce deep (A:=X.A) r1 r2 (Wm z1) (Wm z2) hu).2.1 _ _ _ _ ⟨.bl _,H,I,rfl,h as H _ Ext.refl rp .bl⟩
theorem Jc(hu:X.A.units+deep<cLine):OpR X (compareOp .NotEq) (rM X neP):=opM fun pins s σ H x y v u Q as st p q I rx ry rp d1 d2 h=>by
 unfold neP eqB at h
 cases z1:snap deep st p with
 |none=>rw[z1]at h;exact h.elim
 |some d=>
  cases z2:snap deep st q with
  |none=>rw[z1,z2]at h;exact h.elim
  |some e=>
   rw[z1,z2]at h
   obtain⟨b1,r1⟩:=ZA I rp z1 d1 rx
   obtain⟨b2,r2⟩:=ZA I rp z2 d2 ry
   exact (Yce deep (A:=X.A) r1 r2 (Wm z1) (Wm z2) hu).2.2 _ _ _ _ ⟨.bl _,H,I,rfl,h as H _ Ext.refl rp .bl⟩
end
end Mi
namespace Mi
open PySem PySem.Spec L2
open PyProof.Rows hiding St
theorem YI:bootBuiltins "len"=some (.builtin "len"):=by decide +kernel
theorem Vb:bootBuiltins "tuple"=some (.type "tuple"):=by decide +kernel
theorem YcI:bootBuiltins "list"=some (.type "list"):=by decide +kernel
theorem Yi8:bootBuiltins "dict"=some (.type "dict"):=by decide +kernel
theorem Yki:bootBuiltins "set"=some (.type "set"):=by decide +kernel
theorem Ygj:bootBuiltins "sorted"=some (.builtin "sorted"):=by decide +kernel
theorem Yem:bootBuiltins "all"=some (.builtin "all"):=by decide +kernel
theorem Yh2:bootBuiltins "any"=some (.builtin "any"):=by decide +kernel
theorem Yit:bootBuiltins "min"=some (.builtin "min"):=by decide +kernel
def eNeg(me:ME):ME:=fun ρ st=>(me ρ st).bind fun p st1=>match p with
 | .int i=>.ok (.int (-i)) st1
 |_=>.bad
theorem YgW{X:Cx}{a:Expr}{ma:ME}{pos:Pos}(ha:JE X a ma):JE X (.UnaryOp .USub a pos) (eNeg ma):=
 PE.imp (Yly Yj7 ha) fun σ H Q ⟨as,ρ,st,en,rp,h⟩=>⟨as,ρ,st,en,rp,Post.bindE h fun p st1 as1 H1 v x rp1 d h1=>by
  cases d with
  |int=>exact⟨_,rfl,h1 as1 H1 _ Ext.refl rp1 .int⟩
  |_=>exact False.elim h1⟩
structure Fn(P':Program)(w:World)(K:PySem.W.Frag)(mg:Str->Option Value)(base:Heap)(x:Str)(k:Nat)(ps:List Str)(mf:MF):Prop where
 ex:∃f fd,FM P' w K mg base k f fd ps mf/\mg x=some (.ref f)/\PySem.W.keepIn K (.ref f)=true/\Binds K fd ps []
theorem Yl{X:Cx}{x:Str}{k:Nat}{ps:List Str}{mf:MF}{e:Expr}{es:List Expr}{mr:MA}{p pos:Pos}(F:Fn X.prog X.w X.K X.mg X.base x k ps mf)(hr:Room k X.A)(hg:Gl X x)(ha:JA X (e::es) mr)
 (hdb:(x == ("__debug__":Str))=false:=by decide) (he:starEach (e::es) X.env=(false,eval e X.env)::starEach es X.env:=by rfl) (hpl:(backTo pos (starEach es X.env)).any (·.1)=false:=by rfl):
 JE X (.Call (.Name x p) (e::es) [] pos) (eCall ps.length mf mr):=by
 obtain⟨f,fd,h1,h2,h3,h4⟩:=F.ex
 exact YiP h1 hr hg h2 h3 h4 ha hdb he hpl
def DefAt(K:PySem.W.Frag)(x:Str)(st:Stmt):Prop:=∃(f:Addr)(oc:Value)(od an:Option Addr)(kV doc pm cd ct:Value)(sl:Array (Option Value)),
 PySem.W.nsIn K mainGlobals x=some (some (.ref f))/\K.lookup f=some ⟨oc,od,.func (PySem.W.fnOf x x (defArgs st) (defBody st) (defScope st) .none kV doc pm an cd ct),sl⟩/\PySem.W.codeIn K cd x=true/\PySem.W.keepIn K (.ref f)=true
structure Top(K:PySem.W.Frag)(mg:Str->Option Value):Prop where
 ex:∃h:Heap,K.In h/\h.Ns mainGlobals mg
theorem Top.none{K:PySem.W.Frag}{mg:Str->Option Value}{x:Str}(T:Top K mg)(e:PySem.W.nsIn K mainGlobals x=some none):mg x=none:=by
 obtain⟨h,a,b⟩:=T.ex
 exact PySem.W.mg_none_of a b e
theorem Top.at{K:PySem.W.Frag}{mg:Str->Option Value}{x:Str}{v:Value}(T:Top K mg)(e:PySem.W.nsIn K mainGlobals x=some (some v)):mg x=some v:=by
 obtain⟨h,a,b⟩:=T.ex
 exact PySem.W.mg_of a b e
section
variable{P':Program}{w:World}{K:PySem.W.Frag}{mg:Str->Option Value}{base:Heap}{x:Str}{st:Stmt}{N ps:List Str}{k:Nat}{m:MS}
theorem YD(T:Top K mg)(D:DefAt K x st)(S:FnScope N ps (defScope st))
 (hb:∀(kV doc pm:Value)(an:Option Addr)(cdv ct:Value)(us:List Value),us.length=ps.length->bindArgs (PySem.W.fnOf x x (defArgs st) (defBody st) (defScope st) .none kV doc pm an cdv ct) ⟨us,[]⟩=pure (ps.zip us))
 (hbody:∀(f:Addr)(cdv:Value)(A:Around)(outer:List Env)(s:Shared)(H:Hp)(E:XK),Room k (A.deeper (envOfC x (defScope st) s.heap.objs.size f cdv))->JSs (cxOf CX0 P' w K mg base N x (defScope st) f cdv A outer s H E).nox (defBody st) m):
 Fn P' w K mg base x (k+1) ps (fnM N.length m):=by
 obtain⟨f,oc,od,an,kV,doc,pm,cd,ct,sl,h1,h2,h3,h4⟩:=D
 have F:=YgH (st:=st) h2 h3 h4
 exact⟨f,_,Mi.Fun.mirror F S (hbody f),T.at h1,h4,F.binds hb⟩
end
def spLaw(n:Nat)(mf:MF)(K:PySem.W.Frag):Sp:=fun vs H Q _=>∃(a:Addr)(ns:List Int),vs=[.ref a]/\Only H/\SqL K H a (ns.map V.int)/\ns.length<=n/\∀H',Q (.bl true) H'
theorem JF{K:PySem.W.Frag}{as:List Addr}{H:Hp}:∀(ns:List Int),Dens K as H (ns.map V.int) (ns.map P.int)
 | []=>.nil
 |_::r=>.cons .int (JF r)
theorem YeA{K:PySem.W.Frag}{H:Hp}{a:Addr}{ns:List Int}(hO:Only H)(hS:SqL K H a (ns.map V.int)):Rep K [a] [.ro (ns.map P.int)] H where
 len:=rfl
 nd:=fun i j b hi hj ni nj=>by
  have h1:i<1:=(List.getElem?_eq_some_iff.mp hi).1
  have h2:j<1:=(List.getElem?_eq_some_iff.mp hj).1
  omega
 ob:=fun k b o hk ho=>by
  have h1:k<1:=(List.getElem?_eq_some_iff.mp hk).1
  have e:k=0:=by omega
  subst e
  cases hk;cases ho
  rcases hS with (h|h)|h
  ·rcases hO a with z|⟨o,xs,z⟩
   ·rw[z]at h;cases h
   ·rw[z]at h;cases h
  ·exact⟨_,.inl h,JF ns⟩
  ·exact⟨_,.inr h,JF ns⟩
def Law(n:Nat)(mf:MF):Prop:=∀ns:List Int,ns.length<=n->∃st,mf [.ref 0] [.ro (ns.map P.int)]=.ok (.bl true) st
theorem Yj0{n:Nat}{mf:MF}{K:PySem.W.Frag}(L:Law n mf):∀vs H Q E,spLaw n mf K vs H Q E->spM K 1 mf vs H Q E:=by
 rintro vs H Q E ⟨a,ns,rfl,hO,hS,hl,hq⟩
 refine⟨rfl,[a],_,[.ref 0],YeA hO hS,.cons (.ref rfl) .nil,?_⟩
 obtain⟨st,e⟩:=L ns hl
 rw[e]
 intro as' H' v _ _ d
 cases d
 exact hq H'
theorem YhT{l:PySem.W.OpenLaw}{q:Program}{loose:List Str}{XP:(Str->Option Value)->Heap->Prop}{YP:World->Heap->Prop}{d:DefRec}{K:Params->PySem.W.Frag}{n k:Nat}{x y:Str}{st:Stmt}{mf:MF}(hn:l.most=some n)(hn2:n<=1000)(hdf:d.params.defaults=[])(hy:d.name=y)
 (hr:Room k callerA) (hY:∀(w:World)(h:Heap),YP w h->(K w.params).In h) (hb:∀(kV doc pm:Value)(an:Option Addr)(cdv ct:Value)(s:Shared)(u:Value),BindsTo s (PySem.W.fnOf y y (defArgs st) (defBody st) (defScope st) .none kV doc pm an cdv ct) ⟨[u],[]⟩ [(x,u)])
 (D:∀w:World,DefAt (K w.params) y st)
 (F:∀(w:World)(mg:Str->Option Value),Top (K w.params) mg->∀(f:Addr)(fd:FuncData),Fun (K w.params) y y st f fd->∀base:Heap,FM l.prog w (K w.params) mg base k f fd [x] mf) (L:Law n mf) (hloc:(defScope st).names.lookup x=some .local:=by decide +kernel):
 PySem.W.WalkO q loose XP YP l.row.toRowW d [] (fun f vs=>PySem.call f vs):=by
 refine L2.walk_of (n:=n) (k:=k) (x:=x) (CX:=fun _=>CX0) (sp:=fun w=>spLaw n mf (K w.params)) hn (Nat.le_trans hn2 (by rw[sizeLine_eq];decide)) hdf hr hY ?_ (fun w H a ns hl hO hS=>⟨a,ns,rfl,hO,hS,hl,fun _=>rfl⟩) fun _ _ _ _ _ z=>z
 intro w mg fa h KX G hmg
 subst hy
 have T:Top (K w.params) mg:=⟨h,KX,G⟩
 obtain⟨f,oc,od,an,kV,doc,pm,cd,ct,sl,h1,h2,h3,h4⟩:=D w
 have e:=T.at h1
 rw[hmg]at e
 cases e
 have F0:=YgH (st:=st) h2 h3 h4
 exact⟨_,hloc,hb kV doc pm an cd ct,fun base _ _=>(F w mg T fa _ F0 base).imp (Yj0 L)⟩
theorem Ym{A:Around}{k:Nat}(hr:Room k A):A.units+deep<cLine:=Nat.lt_of_le_of_lt (Nat.add_le_add_left (by decide:deep<=64) _) hr.units
def compChk(X:Cx)(scope:Scope)(FN:List Str)(fr:List Nat):Bool:=
 scope.names.all (fun y=>!(y.2 == NameKind.cell)) && (match scope.kind with| .function=>true|_=>false) && scope.names.all (fun y=>!(y.2 == NameKind.local) || (match scope.names.lookup y.1 with|some .local=>true|_=>false)) &&
 scope.names.all (fun y=>!(y.2 == NameKind.free) || (match X.env.kindOf y.1 with|some .cell=>true|some .free=>true|_=>false)) &&
 (FN.length == fr.length) && (FN.zip fr).all fun z=>(match X.N[z.2]? with|some x=>x == z.1|none=>false) && (match scope.names.lookup z.1 with|some .free=>true|_=>false)
theorem YgJ{α:Type}:∀{l:List (Str×α)}{y:Str}{a:α},l.lookup y=some a->(y,a)∈l
 | [],_,_,h=>by cases h
 |(k,v)::r,y,a,h=>by
  rw[List.lookup_cons]at h
  cases q:(y == k) with
  |true=>
   rw[q]at h
   have e:y=k:=by simpa using q
   subst e
   cases h
   exact List.mem_cons_self ..
  |false=>rw[q]at h;exact List.mem_cons_of_mem _ (YgJ h)
theorem Ylq{a b:NameKind}(h:(!(a == b))=true):a≠b:=fun e=>by
 subst e
 cases a <;> exact absurd h (by decide)
theorem Yr{X:Cx}{scope:Scope}(TN FN:List Str)(fr:List Nat)(h:compChk X scope FN fr=true):CompOk X scope TN FN fr:=by
 unfold compChk at h
 simp only[Bool.and_eq_true,List.all_eq_true]at h
 obtain⟨⟨⟨⟨⟨h1,h2⟩,h3⟩,h4⟩,h5⟩,h6⟩:=h
 refine⟨fun y hy=>Ylq (h1 y hy),?_,fun y hy e=>?_,fun y hy e=>?_,fun y=>YgJ,by simpa using h5,fun j x k hx hk=>?_⟩
 ·revert h2;cases scope.kind <;> intro h2 <;> first|rfl|exact absurd h2 (by decide)
 ·have:=h3 y hy
  rw[e]at this
  have e2:(!(NameKind.local == NameKind.local))=false:=by decide
  rw[e2,Bool.false_or]at this
  revert this
  split
  ·intro _;assumption
  ·intro z;exact absurd z (by decide)
 ·have:=h4 y hy
  rw[e]at this
  have e2:(!(NameKind.free == NameKind.free))=false:=by decide
  rw[e2,Bool.false_or]at this
  revert this
  split
  ·intro _;left;assumption
  ·intro _;right;assumption
  ·intro z;exact absurd z (by decide)
 ·have hm:(x,k)∈FN.zip fr:=List.mem_iff_getElem?.mpr ⟨j,by rw[List.getElem?_zip_eq_some];exact⟨hx,hk⟩⟩
  obtain⟨g1,g2⟩:=h6 _ hm
  dsimp only at g1 g2
  constructor
  ·revert g1
   cases X.N[k]? with
   |none=>intro z;exact absurd z Bool.false_ne_true
   |some z=>intro e;rw[show z=x by simpa using e]
  ·revert g2
   split
   ·intro _;assumption
   ·intro z;exact absurd z (by decide)
theorem DefAt.of{K:PySem.W.Frag}{x:Str}{st:Stmt}{f:Addr}{oc:Value}{od an:Option Addr}{kV doc pm cd ct:Value}{sl:Array (Option Value)}(a:PySem.W.nsIn K mainGlobals x=some (some (.ref f)))
 (l:K.lookup f=some ⟨oc,od,.func (PySem.W.fnOf x x (defArgs st) (defBody st) (defScope st) .none kV doc pm an cd ct),sl⟩) (c:PySem.W.codeIn K cd x=true) (k:PySem.W.keepIn K (.ref f)=true):DefAt K x st:=⟨f,oc,od,an,kV,doc,pm,cd,ct,sl,a,l,c,k⟩
def blsP:List P->Option (List Bool)
 | []=>some []
 | .bl b::r=>(blsP r).map (b::·)
 |_::_=>none
def intsP:List P->Option (List Int)
 | []=>some []
 | .int i::r=>(intsP r).map (i::·)
 |_::_=>none
section
variable{K:PySem.W.Frag}{as:List Addr}{H:Hp}
theorem YaW:∀{ps:List P}{vs:List V}{us:List Value}{bs:List Bool},Dens K as H vs ps->Vals vs us->blsP ps=some bs->LSm.BoolsAre us bs
 | [],_,_,_,.nil,.nil,e=>by cases e;exact .nil
 | .bl b::r,_,_,bs,.cons d ds,.cons rv rs,e=>by
  cases d
  cases rv
  have e':(blsP r).map (b::·)=some bs:=e
  cases q:blsP r with
  |none=>rw[q]at e';cases e'
  |some cs=>rw[q]at e';cases e';exact .cons b (YaW ds rs q)
end
section
variable{prog:Program}{w:World}{A:Around}{E:Value->Shared->Prop}{s:Shared}{l:Addr}{vs:List Value}{bs:List Bool}{Q:Value->Shared->Prop}
theorem YbF{h':Heap}{o:Obj}(hk:∀b x,b∉[s.heap.objs.size]->(s.heap.push o).get? b=some x->h'.get? b=some x)(b:Addr)(x:Obj)(e:s.heap.get? b=some x):h'.get? b=some x:=by
 refine hk b x (fun hm=>?_) (Heap.get?_push_of_some _ e)
 rw[List.mem_singleton.mp hm]at e
 exact absurd (Heap.lt_size e) (Nat.lt_irrefl _)
theorem YgR(hh:A.handled=none)(hl:s.heap.IsList l vs.toArray)(hb:LSm.BoolsAre vs bs)
 (h:∀h' tk,(∀b x,s.heap.get? b=some x->h'.get? b=some x)->Q (.bool (bs.all id)) { s with heap:=h',toks:=tk }):wpAny (model prog w) A (call (.builtin "all") [.ref l]) Q E s:=by
 have hlt:l<s.heap.objs.size:=let ⟨_,e,_⟩:=hl;Heap.lt_size e
 have W:=Walks.list (prog:=prog) (w:=w) (A:=A.in1) hh s.heap.objs.size l (Nat.ne_of_lt hlt) vs.toArray
 refine call_all_walk (wpAny_pyIter_list hl ⟨_,_,_,_,_,_,(fun i=>(bs[i]?).getD true),rfl,W,⟨⟨_,Heap.get?_push_size _ rfl,rfl,rfl⟩,hl.push _⟩,?_,?_⟩)
 ·intro i v s' Q' E' hP hQ
  obtain⟨b,e,rfl⟩:=hb.get i v (by simpa using hP)
  dsimp only at hQ
  rw[e]at hQ
  exact wpAny_truthy_bool hQ
 ·intro h' tk hk
  have e:((List.range vs.toArray.size).all fun i=>(bs[i]?).getD true)=bs.all id:=by rw[List.size_toArray,hb.length,LSm.range_all]
  rw[e]
  exact h h' tk fun b x=>YbF hk b x
theorem Yht(hh:A.handled=none)(hl:s.heap.IsList l vs.toArray)(hb:LSm.BoolsAre vs bs)
 (h:∀h' tk,(∀b x,s.heap.get? b=some x->h'.get? b=some x)->Q (.bool (bs.any id)) { s with heap:=h',toks:=tk }):wpAny (model prog w) A (call (.builtin "any") [.ref l]) Q E s:=by
 have hlt:l<s.heap.objs.size:=let ⟨_,e,_⟩:=hl;Heap.lt_size e
 have W:=Walks.list (prog:=prog) (w:=w) (A:=A.in1) hh s.heap.objs.size l (Nat.ne_of_lt hlt) vs.toArray
 refine call_any_walk (wpAny_pyIter_list hl ⟨_,_,_,_,_,_,(fun i=>(bs[i]?).getD false),rfl,W,⟨⟨_,Heap.get?_push_size _ rfl,rfl,rfl⟩,hl.push _⟩,?_,?_⟩)
 ·intro i v s' Q' E' hP hQ
  obtain⟨b,e,rfl⟩:=hb.get i v (by simpa using hP)
  dsimp only at hQ
  rw[e]at hQ
  exact wpAny_truthy_bool hQ
 ·intro h' tk hk
  have e:((List.range vs.toArray.size).any fun i=>(bs[i]?).getD false)=bs.any id:=by rw[List.size_toArray,hb.length,LSm.range_any]
  rw[e]
  exact h h' tk fun b x=>YbF hk b x
end
section
variable{X:Cx}{e:Expr}{m:MA}{p pos:Pos}
theorem YfP(hc:X.calm=true):CallR X (.builtin "all") (fun xs H Q=>∃a vs bs,xs=[.ref a]/\SqL X.K H a vs/\(∀us,Vals vs us->LSm.BoolsAre us bs)/\Q (.bl (bs.all id)) H):=by
 intro pins s σ H xs us Q I r ⟨a,vs,bs,e,sq,hb,q⟩
 subst e
 obtain⟨u,rfl,rx⟩:=vals1 r
 cases rx
 obtain⟨its,rv,pl,_⟩:=I.list sq
 exact Tk.wpAny_le (YgR (I.ok.hd hc) pl.isList (hb _ rv) fun h' tk hk le=>⟨.bl _,H,I.kept hk le,rfl,q⟩)
theorem Yf8(hc:X.calm=true):CallR X (.builtin "any") (fun xs H Q=>∃a vs bs,xs=[.ref a]/\SqL X.K H a vs/\(∀us,Vals vs us->LSm.BoolsAre us bs)/\Q (.bl (bs.any id)) H):=by
 intro pins s σ H xs us Q I r ⟨a,vs,bs,e,sq,hb,q⟩
 subst e
 obtain⟨u,rfl,rx⟩:=vals1 r
 cases rx
 obtain⟨its,rv,pl,_⟩:=I.list sq
 exact Tk.wpAny_le (Yht (I.ok.hd hc) pl.isList (hb _ rv) fun h' tk hk le=>⟨.bl _,H,I.kept hk le,rfl,q⟩)
def eAllL(m:MA):ME:=fun ρ st=>(m ρ st).bind fun ps st1=>match blsP ps with
 |some bs=>.ok (.bl (bs.all id)) st1
 |none=>.bad
def eAnyL(m:MA):ME:=fun ρ st=>(m ρ st).bind fun ps st1=>match blsP ps with
 |some bs=>.ok (.bl (bs.any id)) st1
 |none=>.bad
theorem Yc2(hc:X.calm=true)(hg:Gl X "all") (hm:X.mg "all"=none) (hv:bootBuiltins "all"=some (.builtin "all")) (h:JL X e m)
 (he:starEach [e] X.env=(false,eval e X.env)::starEach [] X.env:=by rfl):JE X (.Call (.Name "all" p) [e] [] pos) (eAllL m):=
 PE.imp (YaQ (YfP hc) hg hm hv (Vr h JN he) (by decide) (by decide) he) fun σ H Q ⟨as,ρ,st,en,rp,h⟩=>⟨as,ρ,st,en,rp,Post.bindL h fun ps st1 as1 H1 l vs x rp1 hl fr d h1=>by
  cases q:blsP ps with
  |none=>rw[q]at h1;exact h1.elim
  |some bs=>rw[q]at h1;exact⟨l,vs,bs,rfl,.of hl,fun us r=>YaW d r q,h1 as1 H1 _ Ext.refl rp1 .bl⟩⟩
theorem Yfh(hc:X.calm=true)(hg:Gl X "any") (hm:X.mg "any"=none) (hv:bootBuiltins "any"=some (.builtin "any")) (h:JL X e m)
 (he:starEach [e] X.env=(false,eval e X.env)::starEach [] X.env:=by rfl):JE X (.Call (.Name "any" p) [e] [] pos) (eAnyL m):=
 PE.imp (YaQ (Yf8 hc) hg hm hv (Vr h JN he) (by decide) (by decide) he) fun σ H Q ⟨as,ρ,st,en,rp,h⟩=>⟨as,ρ,st,en,rp,Post.bindL h fun ps st1 as1 H1 l vs x rp1 hl fr d h1=>by
  cases q:blsP ps with
  |none=>rw[q]at h1;exact h1.elim
  |some bs=>rw[q]at h1;exact⟨l,vs,bs,rfl,.of hl,fun us r=>YaW d r q,h1 as1 H1 _ Ext.refl rp1 .bl⟩⟩
def minP:GC:=fun ps st=>match ps with
 | [.int i,.int j]=>okP (.int (if j<i then j else i)) st
 |_=>none
theorem Yh4(hc:X.calm=true):CallR X (.builtin "min") (rMC X minP):=CallR.imp (Ygd hc) fun xs H Q ⟨as,st,ps,rp,d,h⟩=>by
 match ps,h with
 | [.int i,.int j],h=>
  obtain⟨v,u,rfl,d1,d2⟩:=d.two
  cases d1;cases d2
  exact⟨i,j,rfl,h as H _ Ext.refl rp .int⟩
end
def mul2P:G2:=fun p q st=>match p,q with
 | .int i,.int j=>if (small64 i || small64 j)=true then okP (.int (i * j)) st else none
 | .str x,.int k=>if -1000000<=k/\k<=1000000/\x.length<=1000000/\x.length * k.toNat<=cap then okP (.str (Txt.mul x k)) st else none
 |_,_=>none
theorem YgT{x:Str}{k:Int}(h1: -1000000<=k)(h2:k<=1000000)(h3:x.length<=1000000)(h4:x.length * k.toNat<=cap):MulOk x k:=by
 refine⟨?_,fun h _=>?_,fun h _=>?_⟩
 ·rw[decide_eq_false (by omega),decide_eq_false (by omega)];rfl
 ·have a:(9223372036854:Int)<=(2 ^ 63 - 1) / k:=by
   refine Int.le_ediv_of_mul_le (by omega) ?_
   have:(9223372036854:Int) * k<=9223372036854 * 1000000:=Int.mul_le_mul_of_nonneg_left h2 (by decide)
   omega
  omega
 ·unfold Builtin.Str.tooLong
  rw[decide_eq_false]
  have:cap<=sizeLine:=YK
  omega
variable{X:Cx}
theorem Yas:OpR X (binaryOp .Mult) (rM X mul2P):=opM fun pins s σ H x y v u Q as st p q I rx ry rp d1 d2 h=>by
 cases d1 with
 |int=>
  cases d2 with
  |int=>exact Yk3 pins s σ H _ _ v u Q I rx ry ⟨as,st,_,_,rp,.int,.int,h⟩
  |_=>exact h.elim
 |@str x tx hx zx=>
  cases d2 with
  |int=>
   rename_i k
   have h':PostO X as H (if -1000000<=k/\k<=1000000/\x.length<=1000000/\x.length * k.toNat<=cap then okP (.str (Txt.mul x k)) st else none) Q:=h
   by_cases z: -1000000<=k/\k<=1000000/\x.length<=1000000/\x.length * k.toNat<=cap
   ·rw[if_pos z]at h'
    cases rx
    obtain⟨t',rfl⟩:=ry
    have hok:=YgT z.1 z.2.1 z.2.2.1 z.2.2.2
    have q:MkT (Txt.mul x k) Q H:=mkT rp fun as1 H1 v x r d=>h' as1 H1 v x r d
    have q0:Txt.mul x k=x->Q (.str x tx) H:=fun e=>h' as H _ Ext.refl rp (by rw[e];exact .str hx zx)
    refine PySem.P.mul_str hok.1 hok.2.1 hok.2.2 ?_
    unfold Txt.mul at q q0
    by_cases h1:k<1
    ·rw[if_pos h1]at q ⊢
     exact⟨by decide,.str _ _,_,I.txt,rfl,q _ I.fresh_tok.1 I.fresh_tok.2⟩
    ·rw[if_neg h1]at q q0 ⊢
     refine Ycg (fun c=>⟨.str x tx,H,I,rfl,q0 (if_pos c)⟩) fun c=>?_
     rw[if_neg c]at q
     exact⟨fits_reps (hok.2.2 h1 (by simpa using c)),.str _ _,_,I.txt,rfl,q _ I.fresh_tok.1 I.fresh_tok.2⟩
   ·rw[if_neg z]at h';exact h'.elim
  |_=>exact h.elim
 |_=>exact h.elim
def islowerP:GM:=fun p ps st=>match p,ps with
 | .str x,[]=>okP (.bl (Txt.islower x)) st
 |_,_=>none
section
variable{X:Cx}
theorem ZU:MtR X "str.islower" (rMM X islowerP):=mM fun pins s σ H x xs v us Q as st p ps I rx rv rp d1 d2 h=>by
 cases d1 with
 |str=>
  cases d2 with
  |cons a b=>exact h.elim
  |nil=>
   cases rv
   cases rx
   exact SC.islower ⟨.bl _,H,I,rfl,h as H _ Ext.refl rp .bl⟩
 |_=>exact h.elim
end
section
variable{X:Cx}
def modNP:G2:=fun p q st=>match p,q with
 | .int i,.int j=>if j≠0 then okP (.int (i.fmod j)) st else none
 |_,_=>none
def powP:G2:=fun p q st=>match p,q with
 | .int i,.int j=>if 0<=j/\j<=1000000/\i.natAbs<2 ^ 64 then okP (.int (i ^ j.toNat)) st else none
 |_,_=>none
theorem YiF:OpR X (binaryOp .Pow) (rM X powP):=opM fun pins s σ H x y v u Q as st p q I rx ry rp d1 d2 h=>by
 cases d1 with
 |int=>
  rename_i i
  cases d2 with
  |int=>
   rename_i j
   have h':PostO X as H (if 0<=j/\j<=1000000/\i.natAbs<2 ^ 64 then okP (.int (i ^ j.toNat)) st else none) Q:=h
   by_cases z:0<=j/\j<=1000000/\i.natAbs<2 ^ 64
   ·rw[if_pos z]at h'
    exact YkJ pins s σ H _ _ v u Q I rx ry ⟨_,_,rfl,rfl,z,h' as H _ Ext.refl rp .int⟩
   ·rw[if_neg z]at h';exact h'.elim
  |_=>exact h.elim
 |_=>exact h.elim
end
section
variable{X:Cx}
def popP:GM:=fun p ps st=>match p,ps with
 | .ref k,[]=>(match lstAt st k with
  |some xs=>(match xs[xs.length - 1]? with
   |some y=>some (y,st.set k (.lst xs.dropLast))
   |none=>none)
  |none=>none)
 |_,_=>none
theorem Dens.dropLast{K:PySem.W.Frag}{as:List Addr}{H:Hp}:∀{vs:List V}{xs:List P},Dens K as H vs xs->Dens K as H vs.dropLast xs.dropLast
 | [],[],_=>.nil
 | [_],[_],_=>.nil
 |v::v2::vs,x::x2::xs,d=>by
  cases d with
  |cons d1 d2=>
   have ih:=Dens.dropLast d2
   exact .cons d1 ih
 | [],_::_,d=>nomatch d
 |_::_,[],d=>nomatch d
 | [_],_::_::_,d=>by cases d with|cons _ d2=>cases d2
 |_::_::_,[_],d=>by cases d with|cons _ d2=>cases d2
theorem YkQ:MtR X "list.pop" (rMM X popP):=mM fun pins s σ H x xs v us Q as st p ps I rx rv rp d1 d2 h=>by
 match p,ps,d1,d2,h with
 | .ref k,[],d1,d2,h=>
  have h':PostO X as H (match lstAt st k with|some xs=>(match xs[xs.length - 1]? with|some y=>some (y,st.set k (.lst xs.dropLast))|none=>none)|none=>none) Q:=h
  cases z:lstAt st k with
  |none=>rw[z]at h';exact h'.elim
  |some ys=>
   rw[z]at h'
   dsimp only at h'
   obtain⟨a,vs,rfl,e,hk,h1,h2⟩:=Ya2 rp d1 z
   cases d2
   cases w:ys[ys.length - 1]? with
   |none=>rw[w]at h';exact h'.elim
   |some y=>
    rw[w]at h'
    obtain⟨u,g1,g2⟩:=h2.get w
    rw[<-h2.length]at g1
    exact YkG pins s σ H _ _ v us Q I rx rv ⟨a,vs,u,rfl,rfl,h1,g1,h' as _ _ (Ext.write h1 trivial) (rp.lset e h1 hk h2.dropLast) (g2.ext (Ext.write h1 trivial))⟩
 | .ref k,_::_,_,_,h=>exact h.elim
 | .non,_,_,_,h=>exact h.elim
 | .bl _,_,_,_,h=>exact h.elim
 | .int _,_,_,_,h=>exact h.elim
 | .str _,_,_,_,h=>exact h.elim
 | .tup _,_,_,_,h=>exact h.elim
def extendP:GM:=fun p ps st=>match p,ps with
 | .ref k,[.ref l]=>(match lstAt st k,lstAt st l with
  |some xs,some ys=>if xs.length+ys.length<=cap then some (.non,st.set k (.lst (xs++ys))) else none
  |_,_=>none)
 |_,_=>none
def pickL{α:Type}(is:List Nat)(xs:List α):List α:=is.filterMap fun i=>xs[i]?
def stepIx(n:Nat)(lo hi:Option Int)(c:Int):List Nat:=sliceRange (sliceBounds lo hi (some c) n).1 (sliceBounds lo hi (some c) n).2.1 (sliceBounds lo hi (some c) n).2.2
theorem YbD{xs:List V}{its:List Value}(r:Vals xs its):∀is:List Nat,Vals (pickL is xs) (pickL is its)
 | []=>.nil
 |i::is=>by
  have ih:=YbD r is
  unfold pickL at ih ⊢
  cases q:xs[i]? with
  |none=>
   have:its[i]?=none:=List.getElem?_eq_none (by rw[<-r.length];exact List.getElem?_eq_none_iff.mp q)
   rw[List.filterMap_cons_none q,List.filterMap_cons_none this]
   exact ih
  |some x=>
   obtain⟨u,hu,ru⟩:=r.get q
   rw[List.filterMap_cons_some q,List.filterMap_cons_some hu]
   exact .cons ru ih
theorem YbL{K:PySem.W.Frag}{as:List Addr}{H:Hp}{vs:List V}{xs:List P}(d:Dens K as H vs xs):∀is:List Nat,Dens K as H (pickL is vs) (pickL is xs)
 | []=>.nil
 |i::is=>by
  have ih:=YbL d is
  unfold pickL at ih ⊢
  cases q:xs[i]? with
  |none=>
   have:vs[i]?=none:=List.getElem?_eq_none (by rw[d.length];exact List.getElem?_eq_none_iff.mp q)
   rw[List.filterMap_cons_none q,List.filterMap_cons_none this]
   exact ih
  |some x=>
   obtain⟨u,hu,ru⟩:=d.get q
   rw[List.filterMap_cons_some q,List.filterMap_cons_some hu]
   exact .cons ru ih
theorem Yba(its:List Value)(lo hi:Option Int)(c:Int):slicePick its.toArray lo hi (some c)=(pickL (stepIx its.length lo hi c) its).toArray:=by
 unfold slicePick pickL stepIx
 simp
variable{e es:Expr}{lo hi:Option Expr}{pos p2:Pos}
def rSl3(K:PySem.W.Frag):V->Option Int->Option Int->Option Int->Hp->VK->Prop:=fun x lo hi st H Q=>∃a xs c,x=.ref a/\st=some c/\c≠0/\SqL K H a xs/\(pickL (stepIx xs.length lo hi c) xs).length<=sizeLine/\
 ∀p,H p=none->Q (.ref p) (upd H p (.lst (pickL (stepIx xs.length lo hi c) xs)))
theorem YfY{te:TE}{tl th ts:TO}(he:PE X e te)(hl:PO X lo tl)(hu:PO X hi th)(hs:PO X (some es) ts):PE X (.Subscript e (.Slice lo hi (some es) p2) pos) (fun σ H Q=>te σ H fun x H1=>tl σ H1 fun l H2=>th σ H2 fun u H3=>ts σ H3 fun c H4=>rSl3 X.K x l u c H4 Q):=by
 intro pins s σ H Q I h
 refine Subscript_ (thn (he pins s σ H _ I h) fun v s1 ⟨x,H1,I1,r1,q1⟩=>?_)
 refine wpAny_Slice (thn (hl pins s1 σ H1 _ I1 q1) fun vl s2 ⟨l,H2,I2,pl,q2⟩=>thn (hu pins s2 σ H2 _ I2 q2) fun vu s3 ⟨u,H3,I3,pu,q3⟩=>thn (hs pins s3 σ H3 _ I3 q3) fun vs s4 ⟨c,H4,I4,pc,q4⟩=>?_)
 obtain⟨a,xs,c',rfl,rfl,hc,hx,hz,q⟩:=q4
 cases r1
 have I5:Inv X pins σ H4 { s4 with heap:=s4.heap.push { cls:=.type "slice",data:=.fields #[vl,vu,vs] } }:=I4.kept (t':=s4.toks) fun b ob q=>Heap.get?_push_of_some _ q
 obtain⟨its,r,ht,hz'⟩:=I5.list hx
 have hlen:=r.length
 show wpAny (model X.prog X.w) X.A (subscriptTail e (.Slice lo hi (some es) p2) (.ref a) (.ref s4.heap.objs.size)) (EP X pins σ Q) X.xe { s4 with heap:=s4.heap.push { cls:=.type "slice",data:=.fields #[vl,vu,vs] } }
 refine tail_any (ops:=[.ref a,.ref s4.heap.objs.size]) ht.isList.typeIs slot_list_getitem.lookup ?_ (by with_unfolding_all rfl)
 refine wpAny_getItem_list_slice ht.isList (Heap.IsSliceOf.new ..) pl pu pc (by simpa using hc) ?_ (by rw[List.size_toArray] <;> omega)
 rw[Yba,<-hlen]
 refine⟨.ref _,_,I5.laid (t':=s4.toks) (o:=.lst (pickL (stepIx xs.length l u c') xs)) (fun b ob q=>Heap.get?_push_of_some _ q) (Nat.le_refl _) ?_,rfl,q _ (I5.hok.fresh (Nat.le_refl _))⟩
 exact⟨hz,_,0,YbD r _,Heap.get?_push_size _ rfl⟩
def sl3P(p:P)(lo hi c:Option Int)(st:Stor):Option (P×Stor):=match p,c with
 | .ref k,some c=>if c≠0 then (match listAt st k with
  |some xs=>newL (pickL (stepIx xs.length lo hi c) xs) st
  |none=>none) else none
 |_,_=>none
def eSl3(me:ME)(ml mh ms:MO):ME:=fun ρ st=>(me ρ st).bind fun p st1=>(ml ρ st1).bind fun l st2=>(mh ρ st2).bind fun u st3=>(ms ρ st3).bind fun c st4=>ofO (sl3P p l u c st4)
theorem Yb7{me:ME}{ml mh ms:MO}(he:JE X e me)(hl:JO X lo ml)(hu:JO X hi mh)(hs:JO X (some es) ms):JE X (.Subscript e (.Slice lo hi (some es) p2) pos) (eSl3 me ml mh ms):=
 PE.imp (YfY he hl hu hs) fun σ H Q ⟨as,ρ,st,en,rp,h⟩=>⟨as,ρ,st,en,rp,Post.bindE h fun p st1 as1 H1 v x rp1 d h1=>⟨as1,ρ,st1,en.ext x,rp1,Post.bindN h1 fun l st2 as2 H2 x2 rp2 h2=>
  ⟨as2,ρ,st2,(en.ext x).ext x2,rp2,Post.bindN h2 fun u st3 as3 H3 x3 rp3 h3=>⟨as3,ρ,st3,((en.ext x).ext x2).ext x3,rp3,Post.bindN h3 fun c st4 as4 H4 x4 rp4 h4=>by
   have h5:=Post.ofO h4
   have d4:=((d.ext x2).ext x3).ext x4
   match p,c,d4,h5 with
   | .ref k,some c,d4,h5=>
    have h6:PostO X as4 H4 (if c≠0 then (match listAt st4 k with|some xs=>newL (pickL (stepIx xs.length l u c) xs) st4|none=>none) else none) Q:=h5
    by_cases hc:c≠0
    ·rw[if_pos hc]at h6
     cases q:listAt st4 k with
     |none=>rw[q]at h6;exact h6.elim
     |some xs=>
      rw[q]at h6
      dsimp only at h6
      cases d4 with
      |ref e4=>
       obtain⟨vs,hv,dv⟩:=Ycl rp4 e4 q
       have hd:=YbL dv (stepIx xs.length l u c)
       rw[<-dv.length]at hd h6
       exact⟨_,vs,c,rfl,rfl,hc,hv,by rw[hd.length];exact YdH h6,fun p hp=>ZR rp4 hd h6 hp⟩
    ·rw[if_neg hc]at h6;exact h6.elim
   | .ref k,none,_,h5=>exact h5.elim
   | .non,_,_,h5=>exact h5.elim
   | .bl _,_,_,h5=>exact h5.elim
   | .int _,_,_,h5=>exact h5.elim
   | .str _,_,_,h5=>exact h5.elim
   | .tup _,_,_,h5=>exact h5.elim⟩⟩⟩⟩
end
section
variable{ρ:Rho}{st:Stor}
end
section
variable{X:Cx}
inductive KeysV(H:Hp):List (Key×V)->List V->Prop
 |nil:KeysV H [] []
 |cons {p:Key×V} {ks:List (Key×V)} {v:V} {vs:List V}:KeyV p.1 v->TkV H v->KeysV H ks vs->KeysV H (p::ks) (v::vs)
theorem KeysV.length{H:Hp}:∀{ks:List (Key×V)}{vs:List V},KeysV H ks vs->vs.length=ks.length
 |_,_,.nil=>rfl
 |_,_,.cons _ _ r=>by rw[List.length_cons,List.length_cons,r.length]
theorem Yjr{P:Program}{w:World}{H:Hp}{k:Key}{u:Value}(h:(mixKind P w).is k u=true)(g:TkG H u):∃v,KeyV k v/\TkV H v/\RelV v u:=by
 rw[Yeo]at h
 cases k with
 |inl i=>exact⟨.int i,rfl,(fun _ _ z=>by cases z),Value.isInt_shape h⟩
 |inr x=>
  obtain⟨t,rfl⟩:=Value.isStrOf_shape h
  exact⟨.str x t,⟨t,rfl⟩,(fun _ _ z=>by cases z;exact g x t rfl),rfl⟩
theorem Yax(hc:X.calm=true):CallR X (.type "list") (fun xs H Q=>∃a kvs,xs=[.ref a]/\H a=some (.dK kvs)/\∀l vs,H l=none->KeysV H kvs vs->Q (.ref l) (upd H l (.lst vs))):=by
 intro pins s σ H xs us Q I r h
 obtain⟨a,kvs,rfl,e,q⟩:=h
 obtain⟨u,rfl,rx⟩:=vals1 r
 cases rx
 obtain⟨z,hd,vs,rel,dd⟩:=YjL I.hok e
 obtain⟨ep,hat⟩:=dd.dictAt
 have hlen:=rel.length
 refine Tk.wpAny_le (PySem.W.kdl_call (Kt.srcKeys (G:=TkG H) (knd:=mixKind X.prog X.w) (kvs:=vs) (ep:=ep) hd) (I.ok.hd hc) ⟨hat,YjH I.hok e⟩ (by omega) fun h' tk acc' c' hk hD hacc le=>?_)
 obtain⟨h1,h2⟩:=hacc
 have gen:∀(ks:List (Key×V))(ws:List (Key×Value))(us:List Value),KV ks ws->us.length=ws.length->(∀(i:Nat)(v:Value),us[i]?=some v->∃k x,ws[i]?=some (k,x)/\(mixKind X.prog X.w).is k v=true/\TkG H v)->∃vs,KeysV H ks vs/\Vals vs us:=by
  intro ks
  induction ks with
  |nil=>
   intro ws us rel hl hv
   cases rel
   cases us with
   |nil=>exact⟨_,.nil,.nil⟩
   |cons a b=>simp at hl
  |cons p ks ih=>
   intro ws us rel hl hv
   cases rel with
   |cons r1 r2=>
    cases us with
    |nil=>simp at hl
    |cons u us=>
     obtain⟨k,x,e1,e2,e3⟩:=hv 0 u rfl
     have e1':=Option.some.inj e1
     obtain⟨vs,g1,g2⟩:=ih _ us r2 (by simpa using hl) fun i v hi=>by simpa using hv (i+1) v (by simpa using hi)
     obtain⟨v,f1,f2,f3⟩:=Yjr e2 e3
     exact⟨v::vs,.cons (by rw[r1.1,e1'];exact f1) f2 g1,.cons f3 g2⟩
 obtain⟨ys,k1,rv⟩:=gen kvs vs acc'.toList rel (by rw[Array.length_toList];exact h1) fun i v hi=>h2 i v (by rw[<-Array.getElem?_toList];exact hi)
 exact⟨.ref s.heap.objs.size,_,I.laid (t':=tk) hk (Nat.le_refl _) (show ObjOk X.prog X.w _ h' _ (.lst ys) from⟨by rw[k1.length];exact z,acc'.toList,c',rv,by first|exact hD|simpa using hD⟩) le,rfl,q _ ys (I.hok.fresh (Nat.le_refl _)) k1⟩
def keyToP:Key->P
 | .inl i=>.int i
 | .inr x=>.str x
def listDP:GC:=fun ps st=>match ps with
 | [.ref k]=>(match st[k]? with
  |some (.dct kvs)=>newL (kvs.map fun p=>keyToP p.1) st
  |_=>listP ps st)
 |_=>listP ps st
theorem YbT{K:PySem.W.Frag}{as:List Addr}{H:Hp}:∀{ws:List (Key×V)}{vs:List V}{kvs:List (Key×P)},KeysV H ws vs->ws.map (·.1)=kvs.map (·.1)->Dens K as H vs (kvs.map fun p=>keyToP p.1)
 |_,_,[],.nil,_=>.nil
 |_,_,_::_,.nil,h=>by simp at h
 |_,_,[],.cons _ _ _,h=>by simp at h
 |w::ws,v::vs,k::kvs,.cons h1 h2 h3,h=>by
  simp only[List.map_cons,List.cons.injEq]at h
  refine .cons ?_ (YbT h3 h.2)
  show Den K as H v (keyToP k.1)
  rw[h.1]at h1
  cases q:k.1 with
  |inl i=>
   rw[q]at h1
   cases (show v=.int i from h1)
   exact .int
  |inr x=>
   rw[q]at h1
   obtain⟨t,rfl⟩:=(show ∃t,v=.str x t from h1)
   exact .str (h2 x t rfl).1 (h2 x t rfl).2
theorem YaT(hc:X.calm=true):CallR X (.type "list") (rMC X listDP):=by
 intro pins s σ H xs us Q I r ⟨as,st,ps,rp,d,h⟩
 have old:PostO X as H (listP ps st) Q->wpAny (model X.prog X.w) X.A (call (.type "list") us) (EP X pins σ Q) X.xe s:=fun h'=>YiK pins s σ H xs us Q I r ⟨as,st,ps,rp,d,h'⟩
 match ps,d,h,old with
 | [.ref k],d,h,old=>
  have h':PostO X as H (match st[k]? with|some (.dct kvs)=>newL (kvs.map fun p=>keyToP p.1) st|_=>listP [.ref k] st) Q:=h
  cases q:st[k]? with
  |none=>rw[q]at h';exact old h'
  |some o=>
   rw[q]at h'
   cases o with
   |dct kvs=>
    obtain⟨x,rfl,dx⟩:=d.one
    cases dx with
    |ref e1=>
     obtain⟨ws,g1,g2,g3⟩:=rp.ob k _ _ e1 q
     exact Yax hc pins s σ H _ us Q I r ⟨_,ws,rfl,g1,fun l vs hl kv=>ZR rp (YbT kv g2) h' hl⟩
   |lst ys=>exact old h'
   |ro ys=>exact old h'
   |exc c fs=>exact old h'
   |ddk kvs=>exact old h'
   |fdc kvs=>exact old h'
   |fdd kvs=>exact old h'
   |fn n=>exact old h'
 | [],_,h,old=>exact old h
 | [.non],_,h,old=>exact old h
 | [.bl _],_,h,old=>exact old h
 | [.int _],_,h,old=>exact old h
 | [.str _],_,h,old=>exact old h
 | [.tup _],_,h,old=>exact old h
 |_::_::_,_,h,old=>exact old (by simp only[listDP]at h;exact h)
end
section
variable{X:Cx}
def sPar(i j:Nat)(ma:MA):MS:=fun ρ st=>RS.ofE ρ (ma ρ st) fun ps st1=>match ps with
 | [p,q]=>.nx ((ρ.set i (some p)).set j (some q)) st1
 |_=>.bad
theorem PostS.ofA{as:List Addr}{H:Hp}{ρ:Rho}{r:R (List P)}{f:List P->Stor->RS}{D:Ends}{Q':List V->Hp->Prop}(h:PostS X as H (RS.ofE ρ r f) D)
 (go:∀p st1 as1 H1 v,Ext as H as1 H1->Rep X.K as1 st1 H1->Dens X.K as1 H1 v p->PostS X as1 H1 (f p st1) D->Q' v H1):PostA X as H ρ r Q':=by
 cases r with
 |ok p st1=>exact fun as1 H1 v x rp d=>go p st1 as1 H1 v x rp d (PostS.ext x h)
 |exc k st'=>exact h
 |bad=>exact h
theorem Ykp{i j:Nat}{x y:Str}{a b:Expr}{ma:MA}{px py pt pos:Pos}{kt k2:Nat}{pt2:Pos}(hc:X.calm=true)(hN:X.N.Nodup)(hi:X.N[i]?=some x)(hj:X.N[j]?=some y)(hij:i≠j)
 (hx:X.env.scope.names.lookup x=some .local) (hy:X.env.scope.names.lookup y=some .local) (ha:JA X [a,b] ma)
 (hw:swappedStores [.Tuple [.Name x px,.Name y py] kt pt] (.Tuple [a,b] k2 pt2) X.env=pure (some [x,y]):=by rfl)
 (hs:swapsWithSole [.Tuple [.Name x px,.Name y py] kt pt] (.Tuple [a,b] k2 pt2) pos.line X.env=pure false:=by rfl):
 JS X (.Assign [.Tuple [.Name x px,.Name y py] kt pt] (.Tuple [a,b] k2 pt2) pos) (sPar i j ma):=
 PS.imp (Ykb hc hN hi hj hij hx hy ha hw hs) fun D σ H ⟨as,ρ,st,en,rp,h⟩=>⟨as,ρ,st,en,rp,PostS.ofA h fun ps st1 as1 H1 vs e rp1 d h1=>by
  match ps,d,h1 with
  | [p,q],d,h1=>
   obtain⟨v,w,rfl,d1,d2⟩:=d.two
   exact⟨v,w,rfl,h1 as1 H1 _ Ext.refl rp1 (((en.ext e).set d1).set d2)⟩
  | [],_,h1=>exact h1.elim
  | [_],_,h1=>exact h1.elim
  |_::_::_::_,_,h1=>exact h1.elim⟩
end
def lSortSetX(me:ME):MA:=fun ρ st=>(me ρ st).bind fun p st1=>match p with
 | .ref k=>(match listAt st1 k with
  |some xs=>(match strsP xs with
   |some ys=>if ys.length<4000/\(once ys).length<64 then .ok ((sortS (once ys)).map P.str) st1 else .bad
   |none=>.bad)
  |none=>.bad)
 |_=>.bad
def GdT(H:Hp)(u:Value):Prop:=∃x t,u=.str x t/\H.τ t=some x/\t≠0
inductive TxA(H:Hp):List V->List Str->Prop where
 |nil:TxA H [] []
 |cons {x t ws xs} (h:H.τ t=some x) (z:t≠0) (r:TxA H ws xs):TxA H (.str x t::ws) (x::xs)
theorem TxA.dens{K:PySem.W.Frag}{as:List Addr}{H:Hp}:∀{ws:List V}{ks:List Str},TxA H ws ks->Dens K as H ws (ks.map P.str)
 |_,_,.nil=>.nil
 |_,_,.cons h z r=>.cons (.str h z) r.dens
theorem YhZ{H:Hp}:∀{out:List Value}{ss:List Str},StrsAre out ss->(∀v∈out,GdT H v)->∃ws,Vals ws out/\TxA H ws ss
 |_,_,.nil,_=>⟨[],.nil,.nil⟩
 |_,_,.cons y t r,g=>by
  obtain⟨ws,h1,h2⟩:=YhZ r fun v hv=>g v (List.mem_cons_of_mem _ hv)
  obtain⟨x,t',e,h3,h4⟩:=g _ (List.mem_cons_self ..)
  cases e
  exact⟨.str y t::ws,.cons rfl h1,.cons h3 h4 h2⟩
theorem Yfc{H:Hp}{l:Addr}{o:HO}:∀{ws:List V}{ks:List Str},TxA H ws ks->TxA (upd H l o) ws ks
 |_,_,.nil=>.nil
 |_,_,.cons h z r=>.cons h z (Yfc r)
theorem Yhe{K:PySem.W.Frag}{as:List Addr}{H:Hp}:∀{ps:List P}{vs:List V}{us:List Value}{ys:List Str},Dens K as H vs ps->Vals vs us->strsP ps=some ys->∀u∈us,GdT H u
 | [],_,_,_,.nil,.nil,h=>fun u hu=>absurd hu (by simp)
 |p::r,_,_,ys,.cons d d',.cons r1 r2,h=>fun u hu=>by
  cases d with
  |@str x t hx zx=>
   have h':(strsP r).map (x::·)=some ys:=h
   cases q:strsP r with
   |none=>rw[q]at h';cases h'
   |some zs=>
    cases r1
    rcases List.mem_cons.mp hu with rfl|hu
    ·exact⟨x,t,rfl,hx,zx⟩
    ·exact Yhe d' r2 q u hu
  |_=>cases h
section
variable{X:Cx}{e:Expr}{me:ME}{p1 p2 c1 c2:Pos}
theorem YdY(hc:X.calm=true)(hg:Gl X "sorted") (hm:X.mg "sorted"=none) (hv:bootBuiltins "sorted"=some (.builtin "sorted")) (hg2:Gl X "set") (hm2:X.mg "set"=none) (hv2:bootBuiltins "set"=some (.type "set")) (he:JE X e me)
 (hs:starEach [e] X.env=(false,eval e X.env)::starEach [] X.env:=by rfl)
 (hs2:starEach [Expr.Call (.Name "set" p2) [e] [] c2] X.env=(false,eval (.Call (.Name "set" p2) [e] [] c2) X.env)::starEach [] X.env:=by rfl):
 JL X (.Call (.Name "sorted" p1) [.Call (.Name "set" p2) [e] [] c2] [] c1) (lSortSetX me):=by
 intro pins s σ H Q I ⟨as,ρ,st,en,rp,h⟩
 refine wpAny_Call_Name_kw (Yav I hg hm hv ?_ (by decide) (by decide))
 refine PyProof.Rows.callWith_builtin1 ?_ hs2 rfl
 rw[hs2]
 show wpAny _ _ (spliced ((false,eval (.Call (.Name "set" p2) [e] [] c2) X.env)::backTo c1 (starEach [] X.env))) _ _ s
 refine Calls.spliced_cons ?_
 refine wpAny_Call_Name_kw (Yav I hg2 hm2 hv2 ?_ (by decide) (by decide))
 refine PyProof.Rows.callWith_type1 ?_ hs rfl
 rw[hs]
 show wpAny _ _ (spliced ((false,eval e X.env)::backTo c2 (starEach [] X.env))) _ _ s
 refine Calls.spliced_cons ?_
 unfold lSortSetX at h
 refine thn (he pins s σ H (fun v H1=>∃ys ks as1 st1,(∃a vs,v=.ref a/\SqL X.K H1 a vs/\(∀us,Vals vs us->StrsAre us ys)/\∀us,Vals vs us->∀u∈us,GdT H1 u)/\ys.length<4000/\(once ys).length<64/\ks=sortS (once ys)/\Rep X.K as1 st1 H1/\
  ∀l ws,H1 l=none->TxA H1 ws ks->Q (.ref l) (upd H1 l (.lst ws))) I ⟨as,ρ,st,en,rp,?_⟩) fun u s1 ⟨x,H1,I1,r1,q1⟩=>?_
 ·refine PostL.bindE (Q:=Q) h fun p st1 as1 H1 v x rp1 d h1=>?_
  cases d with
  |@ref k a e=>
   dsimp only at h1
   cases q:listAt st1 k with
   |none=>rw[q]at h1;exact h1.elim
   |some xs=>
    rw[q]at h1
    dsimp only at h1
    cases q2:strsP xs with
    |none=>rw[q2]at h1;exact h1.elim
    |some ys=>
     rw[q2]at h1
     dsimp only at h1
     by_cases z:ys.length<4000/\(once ys).length<64
     ·rw[if_pos z]at h1
      obtain⟨vs,g1,g2⟩:=Ycl rp1 e q
      refine⟨ys,_,as1,st1,⟨a,vs,rfl,g1,fun us r=>VH g2 r q2,fun us r=>Yhe g2 r q2⟩,z.1,z.2,rfl,rp1,fun l ws hl hws=>?_⟩
      exact h1 as1 _ l _ (Ext.laid hl) (rp1.laid hl) Yq (rp1.fresh hl) (TxA.dens (H:=upd H1 l (.lst ws)) (by exact Yfc hws))
     ·rw[if_neg z]at h1;exact h1.elim
  |_=>exact h1.elim
 ·obtain⟨ys,ks,as1,st1,hway,hl1,hl2,hks,rp1,hq⟩:=q1
  refine Calls.spliced_nil ?_
  have fin:∀(h2:Heap)(tk:Nat),s1.toks<=tk->TS X.prog X.w h2 s1.heap.objs.size (once ys) (GdT H1)->s1.heap.objs.size<h2.objs.size->(∀b o,s1.heap.get? b=some o->h2.get? b=some o)->wpAny (model X.prog X.w) X.A (spliced []) (fun vs s₂=>wpAny (model X.prog X.w) X.A (call (.builtin "sorted") ((.ref s1.heap.objs.size)::vs)) (EP X pins σ Q) X.xe s₂) X.xe { s1 with heap:=h2,toks:=tk }:=fun h2 tk le1 TS2 lt2 keep2=>by
   have I2:Inv X pins σ H1 { s1 with heap:=h2,toks:=tk }:=I1.kept keep2 le1
   refine Calls.spliced_nil ?_
   refine Tk.wpAny_le (Yaf TS2 hl2 (I1.ok.hd hc) fun D s3 out ss n hD keep3 hg3 ho3 hD3 hss hp3 hs3 hgd3 le2=>?_)
   obtain⟨ws,hws1,hws2⟩:=YhZ hss hgd3
   have le3:s1.toks<=s3.toks:=Nat.le_trans le1 le2
   have ess:ss=ks:=by rw[hks];exact Jp hp3 (Ju ss hs3)
   have hDs:s1.heap.objs.size<=D:=Nat.le_trans (Nat.le_of_lt (Nat.lt_of_le_of_lt (Nat.le_refl _) lt2)) hD
   have hzl:ss.length<=sizeLine:=by
    rw[hp3.length_eq,sizeLine_eq];omega
   have I3:Inv X pins σ (upd H1 D (.lst ws)) { s1 with heap:=s3.heap,gens:=s3.gens,drawn:=s3.drawn,toks:=s3.toks }:=by
    have hn:H1 D=none:=I1.hok.fresh hDs
    have I3a:Inv X pins σ H1 { s1 with heap:=s3.heap,gens:=s3.gens,drawn:=s3.drawn,toks:=s3.toks }:=by
     refine I1.step (ch:=[]) (fun b hb=>absurd hb (by simp)) (fun b o _ _ _ e _=>keep3 b o (keep2 b o e)) (fun b o _ _ _ e _=>⟨o.slots,keep3 b o (keep2 b o e)⟩) (fun b o _ e n=>n) (fun b o _ e=>⟨o,keep3 b o (keep2 b o e)⟩)
      (fun b xs e=>e) (fun b o u e=>e) (fun b ps e=>⟨#[],by rw[e];simp⟩) (fun m hm=>hm.keeps fun b o e=>keep3 b o (keep2 b o e)) (I1.hok.kept fun b o e=>keep3 b o (keep2 b o e)) ?_ (I1.tk.mono le3)
     rw[show s3.gens=s1.gens from hg3];exact I1.bare
    have fo:=I1.fpOk hDs hn
    exact Mi.Inv.track I3a hD3 hn hws1 (by rw[show ws.length=ss.length from by have:=hws1.length;have:=StrsAre.length hss;omega];exact hzl) (Nat.le_trans I1.sz hDs) fo.2.1 fo.2.2.2.2.1 fo.2.2.2.2.2
   have es3:{ s1 with heap:=s3.heap,gens:=s3.gens,drawn:=s3.drawn,toks:=s3.toks }=s3:=by
    have:s3.os=s1.os:=ho3
    cases s3
    simp only at this
    simp[this]
   rw[es3]at I3
   exact⟨.ref D,_,I3,rfl,hq D ws (I1.hok.fresh hDs) (by rw[<-ess];exact hws2)⟩
  obtain⟨a,vs,rfl,hsq,hst,hgs⟩:=hway
  ·cases r1
   obtain⟨its,rv,pl,_⟩:=I1.list hsq
   exact Tk.wpAny_le (YfZ (by simpa using hgs its rv) (I1.ok.hd hc) pl.isList (by simpa using hst its rv) (by show _<4096;omega) fun h2 tk TS2 lt2 keep2 le=>fin h2 tk le TS2 lt2 keep2)
end
end Mi
namespace Mi
open PySem PySem.Spec L2
open PyProof.Rows hiding St
section
variable{K:PySem.W.Frag}{as:List Addr}{H:Hp}
end
section
variable{X:Cx}
end
end Mi
namespace L2
open PySem PySem.Spec
theorem Vals.two:∀{x y:V}{us:List Value},Vals [x,y] us->∃u v,us=[u,v]/\RelV x u/\RelV y v
 |_,_,_,.cons r (.cons q .nil)=>⟨_,_,rfl,r,q⟩
end L2
namespace Mi
open PySem PySem.Spec L2
open PyProof.Rows hiding St
section
variable{X:Cx}
def replaceP:GM:=fun p ps st=>match p,ps with
 | .str x,[.str y,.str z]=>if x.length+(x.length+1) * z.length<=cap/\y≠z then okP (.str (Txt.replace x y z)) st else none
 |_,_=>none
theorem VP:MtR X "str.replace" (rMM X replaceP):=mM fun pins s σ H x xs v us Q as st p ps I rx rv rp d1 d2 h=>by
 cases d1 with
 |@str z tz hz zz=>
  cases d2 with
  |nil=>exact h.elim
  |cons da r=>
   cases r with
   |nil=>cases da <;> exact h.elim
   |cons db r=>
    cases r with
    |cons _ _=>cases da <;> first|exact h.elim|(cases db <;> exact h.elim)
    |nil=>
     cases da with
     |@str y ty hy zy=>
      cases db with
      |@str b tb hb zb=>
       have h':PostO X as H (if z.length+(z.length+1) * b.length<=cap/\y≠b then okP (.str (Txt.replace z y b)) st else none) Q:=h
       by_cases hc:z.length+(z.length+1) * b.length<=cap/\y≠b
       ·rw[if_pos hc]at h'
        obtain⟨u,w,rfl,ru,rw⟩:=rv.two
        cases rx
        cases ru
        cases rw
        have huv:ty≠tb:=fun e=>by
         subst e
         rw[hy]at hb
         exact hc.2 (Option.some.inj hb)
        have hyz:(y == b)=false:=by simpa using hc.2
        have hl16:z.length+(z.length+1) * b.length<=16777216:=Nat.le_trans hc.1 (by decide)
        have hl:Builtin.Str.tooLong (z.length+(Builtin.Str.occurrences z y 0 z.length (z.length+1)).length * b.length)=false:=by
         have h1:=StrLaws.occ_length_le z y 0 z.length (z.length+1)
         have h2:(Builtin.Str.occurrences z y 0 z.length (z.length+1)).length * b.length<=(z.length+1) * b.length:=Nat.mul_le_mul_right _ h1
         unfold Builtin.Str.tooLong sizeLine
         exact decide_eq_false (by omega)
        refine call_gives PySem.F.slot_str_replace (typeIs_str _ _ _) PySem.F.entry_str_replace (PySem.F.args_str_replace_3 _ _ _)
         (gives_str_replace z y b tz ty tb fun _=>⟨by simp[zy,zb],by simp[huv],hyz,hl⟩) ?_
        have hq:MkT (Txt.replace z y b) Q H:=mkT rp fun as1 H1 v x r d=>h' as1 H1 v x r d
        have hq0:Txt.replace z y b=z->Q (.str z tz) H:=fun e=>h' as H _ Ext.refl rp (by rw[e];exact .str hz zz)
        unfold Txt.replace at hq hq0
        refine Ycg (fun c=>⟨.str z tz,H,I,rfl,hq0 (if_pos c)⟩) fun c=>?_
        rw[if_neg c]at hq
        exact⟨fits_replaced y hl16,.str _ _,_,I.txt,rfl,hq _ I.fresh_tok.1 I.fresh_tok.2⟩
       ·rw[if_neg hc]at h';exact h'.elim
      |_=>exact h.elim
     |_=>exact h.elim
 |_=>exact h.elim
end
end Mi
namespace Mi
open PySem PySem.Spec L2 PySem.SeqAt
open PyProof.Rows hiding St
section
variable{X:Cx}
theorem YbX{h:Heap}:∀{vs:List Value}{ds:List PyData}{bs:List Addr},ReadsAll h vs ds bs->∀v∈vs,∃d∈ds,∃cs,Reads h v d cs
 |_,_,_,.nil=>fun v hv=>by cases hv
 |_,_,_,.cons r q=>fun v hv=>by
  rcases List.mem_cons.mp hv with e|hv
  ·subst e
   exact⟨_,List.mem_cons_self ..,_,r⟩
  ·obtain⟨d,h1,h2⟩:=YbX q v hv
   exact⟨d,List.mem_cons_of_mem _ h1,h2⟩
theorem Yb8{h:Heap}(f:Value->Bool)(g:PyData->Bool)(hf:∀v d cs,Reads h v d cs->f v=g d):∀{vs:List Value}{ds:List PyData}{bs:List Addr},ReadsAll h vs ds bs->vs.any f=ds.any g
 |_,_,_,.nil=>rfl
 |_,_,_,.cons r q=>by rw[List.any_cons,List.any_cons,hf _ _ _ r,Yb8 f g hf q]
open Classical in
end
end Mi
namespace Mi
open PySem PySem.Spec L2
open PyProof.Rows hiding St
def mapO{α β:Type}(f:α->Option β):List α->Option (List β)
 | []=>some []
 |x::xs=>(f x).bind fun y=>(mapO f xs).map fun r=>y::r
def dkP:Nat->P->Option DK
 |_,.int i=>some (.key (.inl i))
 |_,.str x=>some (.key (.inr x))
 |n+1,.tup ps=>(mapO (dkP n) ps).map DK.tup
 |_,_=>none
mutual
def pOf:DK->P
 | .key (.inl i)=>.int i
 | .key (.inr x)=>.str x
 | .tup ks=>.tup (psOf ks)
def psOf:List DK->List P
 | []=>[]
 |k::ks=>pOf k::psOf ks
end
def tupK:P->Option DK
 | .tup ps=>dkP 6 (.tup ps)
 |_=>none
def ddkAt(q:P)(st:Stor):Option (List (DK×P)):=match q with
 | .ref k=>(match st[k]? with
  |some (.ddk kvs)=>some kvs
  |some (.fdd kvs)=>some kvs
  |_=>none)
 |_=>none
noncomputable def inDP:G2:=fun p q st=>match ddkAt q st with
 |some kvs=>(match tupK p with
  |some k=>okP (.bl (valP kvs k).isSome) st
  |none=>none)
 |none=>none
noncomputable def notInDP:G2:=fun p q st=>match ddkAt q st with
 |some kvs=>(match tupK p with
  |some k=>okP (.bl (!(valP kvs k).isSome)) st
  |none=>none)
 |none=>none
def isBP:G2:=fun p q st=>match p,q with
 | .bl a,.bl b=>okP (.bl (a == b)) st
 |_,_=>none
def isNotBP:G2:=fun p q st=>match p,q with
 | .bl a,.bl b=>okP (.bl (!(a == b))) st
 |_,_=>none
def notIn6P:G2:=fun p q st=>match q with
 | .ref k=>(match listAt st k with
  |some xs=>(match snap 6 st p,xs.mapM (snap 6 st) with
   |some d,some ds=>okP (.bl (!(ds.any fun e=>PyData.eqv e d))) st
   |_,_=>none)
  |none=>none)
 |_=>none
noncomputable def sPutD(mo mi me:ME):MS:=fun ρ st=>RS.ofE ρ (me ρ st) fun v st1=>RS.ofE ρ (mo ρ st1) fun o st2=>RS.ofE ρ (mi ρ st2) fun i st3=>match o with
 | .ref k=>(match st3[k]?,tupK i with
  |some (.ddk kvs),some ks=>if kvs.length<cap then .nx ρ (st3.set k (.ddk (putP kvs ks v))) else .bad
  |_,_=>.bad)
 |_=>.bad
def eDictD0:ME:=fun _ st=>.ok (.ref st.length) (st++[.ddk []])
def pairD:P->Option (DK×P)
 | .tup [a,b]=>(tupK a).map fun k=>(k,b)
 |_=>none
def pairsD:List P->Option (List (DK×P))
 | []=>some []
 |p::ps=>(pairD p).bind fun q=>(pairsD ps).map fun r=>q::r
noncomputable def putsD(prs:List (DK×P)):List (DK×P):=prs.foldl (fun acc q=>putP acc q.1 q.2) []
noncomputable def eDictLF(m:MA):ME:=fun ρ st=>(m ρ st).bind fun ps st1=>match pairsD ps with
 |some kvs=>.ok (.ref st1.length) (st1++[.fdd (putsD kvs)])
 |none=>.bad
def srcKeysD(kvs:List (DK×P)):Src:=⟨kvs.length,fun i _=>some ((kvs[i]?).map fun p=>pOf p.1)⟩
def iKeysD(me:ME):MI:=fun ρ st=>(me ρ st).bind fun p st1=>match p with
 | .ref k=>(match st1[k]? with
  |some (.fdd kvs)=>.ok (srcKeysD kvs) st1
  |_=>.bad)
 |_=>.bad
def eFnV(n:Str):ME:=fun _ st=>.ok (.ref st.length) (st++[.fn n])
def eCallV(x:Str)(n:Nat)(mf:MF)(mc:ME)(mr:MA):ME:=fun ρ st=>(mc ρ st).bind fun c st0=>match c with
 | .ref k=>(match st0[k]? with
  |some (.fn y)=>if y=x then eCall n mf mr ρ st0 else .bad
  |_=>.bad)
 |_=>.bad
section
variable{K:PySem.W.Frag}{as:List Addr}{H:Hp}{st:Stor}
theorem Yln:∀(n:Nat){p:P}{k:DK}{v:V},Den K as H v p->dkP n p=some k->k.ok n=true/\DGh H k v:=by
 intro n
 induction n with
 |zero=>
  intro p k v d h
  cases d with
  |int=>cases h;exact⟨rfl,.key rfl fun _ _ e=>nomatch e⟩
  |str a b=>cases h;exact⟨rfl,.key ⟨_,rfl⟩ fun _ _ e=>by cases e;exact⟨a,b⟩⟩
  |_=>cases h
 |succ n ih=>
  intro p k v d h
  cases d with
  |int=>cases h;exact⟨rfl,.key rfl fun _ _ e=>nomatch e⟩
  |str a b=>cases h;exact⟨rfl,.key ⟨_,rfl⟩ fun _ _ e=>by cases e;exact⟨a,b⟩⟩
  |@tup a vs ps sq ds tk=>
   have all:∀{vs:List V}{ps:List P}{ks:List DK},Dens K as H vs ps->mapO (dkP n) ps=some ks->ks.all (DK.ok n)=true/\DGhs H ks vs:=by
    intro vs ps
    induction ps generalizing vs with
    |nil=>intro ks d h;cases d;cases h;exact⟨rfl,.nil⟩
    |cons p ps ih2=>
     intro ks d h
     cases d with
     |cons d1 d2=>
      cases z:dkP n p with
      |none=>rw[mapO,z]at h;cases h
      |some k1=>
       cases z2:mapO (dkP n) ps with
       |none=>rw[mapO,z,z2]at h;cases h
       |some r=>
        rw[mapO,z,z2]at h;cases h
        obtain⟨a1,a2⟩:=ih d1 z
        obtain⟨b1,b2⟩:=ih2 d2 z2
        exact⟨by rw[List.all_cons,a1,b1];rfl,.cons a2 b2⟩
   cases z:mapO (dkP n) ps with
   |none=>rw[dkP,z]at h;cases h
   |some ks=>
    rw[dkP,z]at h;cases h
    obtain⟨a1,a2⟩:=all ds z
    exact⟨a1,.tup tk a2⟩
  |_=>cases h
theorem YcU{p:P}{k:DK}{v:V}(d:Den K as H v p)(h:tupK p=some k):∃b,v=.ref b/\DG H k b:=by
 cases d with
 |tup sq ds tk=>
  obtain⟨h1,h2⟩:=Yln 6 (.tup sq ds tk) h
  exact⟨_,rfl,h1,h2⟩
 |_=>cases h
theorem Yhu{q:P}{kvs:List (DK×P)}{v:V}(rp:Rep K as st H)(d:Den K as H v q)(h:ddkAt q st=some kvs):
 ∃a ws,v=.ref a/\Rd H a (.dT ws)/\ws.map (·.1)=kvs.map (·.1)/\Dens K as H (ws.map (·.2)) (kvs.map (·.2)):=by
 cases d with
 |@ref k a e=>
  have h':(match st[k]? with|some (.ddk kvs)=>some kvs|some (.fdd kvs)=>some kvs|_=>none)=some kvs:=h
  cases w:st[k]? with
  |none=>rw[w]at h';cases h'
  |some ob=>
   rw[w]at h'
   cases ob with
   |ddk kvs'=>
    cases h'
    obtain⟨ws,h1,h2,h3⟩:=rp.ob k _ _ e w
    exact⟨a,ws,rfl,.inl h1,h2,h3⟩
   |fdd kvs'=>
    cases h'
    obtain⟨o,ws,h1,h2,h3⟩:=rp.ob k _ _ e w
    exact⟨a,ws,rfl,.inr ⟨o,h1⟩,h2,h3⟩
   |_=>cases h'
 |_=>cases h
end
section
variable{X:Cx}{a b o i e:Expr}{ma mb mo mi me mc:ME}{pos pos' p:Pos}{m:MA}{tg:Expr}
theorem Yia(hu:X.A.units+deep<cLine):OpR X (compareOp .In) (rM X inDP):=opM fun pins s σ H x y v u Q as st p q I rx ry rp d1 d2 h=>by
 unfold inDP at h
 cases z:ddkAt q st with
 |none=>rw[z]at h;exact h.elim
 |some kvs=>
  rw[z]at h
  cases w:tupK p with
  |none=>simp only[w]at h;exact h.elim
  |some k=>
   simp only[w]at h
   obtain⟨a,ws,rfl,g4,g5,g6⟩:=Yhu rp d2 z
   obtain⟨b,rfl,eb⟩:=YcU d1 w
   cases ry
   refine d_in (show X.A.units+7<cLine from Nat.lt_of_succ_lt hu) I (.inr ⟨ws,k,b,g4,rfl,eb,rfl⟩) rx fun s3 I3=>⟨.bl _,H,I3,rfl,?_⟩
   rw[Z9 (Wd (k:=k) g5 g6)]
   exact h as H _ Ext.refl rp .bl
theorem Yfy(hu:X.A.units+deep<cLine):OpR X (compareOp .NotIn) (rM X notInDP):=opM fun pins s σ H x y v u Q as st p q I rx ry rp d1 d2 h=>by
 unfold notInDP at h
 cases z:ddkAt q st with
 |none=>rw[z]at h;exact h.elim
 |some kvs=>
  rw[z]at h
  cases w:tupK p with
  |none=>simp only[w]at h;exact h.elim
  |some k=>
   simp only[w]at h
   obtain⟨a,ws,rfl,g4,g5,g6⟩:=Yhu rp d2 z
   obtain⟨b,rfl,eb⟩:=YcU d1 w
   cases ry
   refine Yi3 (show X.A.units+7<cLine from Nat.lt_of_succ_lt hu) I (.inr ⟨ws,k,b,g4,rfl,eb,rfl⟩) rx fun s3 I3=>⟨.bl _,H,I3,rfl,?_⟩
   rw[Z9 (Wd (k:=k) g5 g6)]
   exact h as H _ Ext.refl rp .bl
theorem YeV(hu:X.A.units+deep<cLine)(ho:JE X o mo)(hi:JE X i mi)(hv:JE X e me)(hs:swapsWith e (some (.Subscript o i pos')) pos.line X.env=pure false:=by rfl):JS X (.Assign [.Subscript o i pos'] e pos) (sPutD mo mi me):=
 PS.imp (Yik (show X.A.units+7<cLine from Nat.lt_of_succ_lt hu) ho hi hv hs) fun D σ H ⟨as,ρ,st,en,rp,h⟩=>⟨as,ρ,st,en,rp,PostS.ofE h fun pv st1 as1 H1 v x1 rp1 dv h1=>⟨as1,ρ,st1,en.ext x1,rp1,PostS.ofE h1 fun po st2 as2 H2 x x2 rp2 dx h2=>
  ⟨as2,ρ,st2,(en.ext x1).ext x2,rp2,PostS.ofE h2 fun pi st3 as3 H3 y x3 rp3 dy h3=>by
   have dv:=(dv.ext x2).ext x3
   have dx:=dx.ext x3
   have en3:=((en.ext x1).ext x2).ext x3
   cases dx with
   |@ref k a e1=>
    dsimp only at h3
    cases z:st3[k]? with
    |none=>simp only[z]at h3;exact h3.elim
    |some ob=>cases ob with
     |ddk kvs=>
      cases w:tupK pi with
      |none=>simp only[z,w]at h3;exact h3.elim
      |some ks=>
       simp only[z,w]at h3
       by_cases hl:kvs.length<cap
       ·rw[if_pos hl]at h3
        obtain⟨ws,h4,h5,h6⟩:=rp3.ob k _ _ e1 z
        obtain⟨b,rfl,eb⟩:=YcU dy w
        obtain⟨g1,g2⟩:=Ycs (k:=ks) dv h5 h6
        have hlen:ws.length=kvs.length:=by simpa using congrArg List.length h5
        refine .inr ⟨a,_,rfl,.inr ⟨ws,ks,b,h4,rfl,eb,by rw[hlen];exact Nat.lt_of_lt_of_le hl YK,rfl⟩,?_⟩
        exact h3 as3 _ _ (Ext.write h4 trivial) (rp3.write e1 h4 trivial (fun z=>z) (by rw[z];exact fun z=>z) ⟨_,Yq,g1,g2.ext (Ext.write h4 trivial)⟩) (en3.ext (Ext.write h4 trivial))
       ·rw[if_neg hl]at h3;exact h3.elim
     |_=>simp only[z]at h3;exact h3.elim
   |_=>exact h3.elim⟩⟩⟩
theorem YfU:OpR X (compareOp .IsNot) (rM X isNotBP):=opM fun pins s σ H x y v u Q as st p q I rx ry rp d1 d2 h=>by
 cases d1 with
 |@bl a=>cases d2 with
  |@bl b=>
   cases rx;cases ry
   refine wpAny_isNot_plain rfl ⟨.bl _,H,I,rfl,?_⟩
   rw[show (Value.bool a == Value.bool b)=(a == b) by cases a <;> cases b <;> rfl]
   exact h as H _ Ext.refl rp .bl
  |_=>exact h.elim
 |_=>cases d2 <;> exact h.elim
theorem Ykh{x:Str}{st:Stmt}(D:DefAt X.K x st)(hg:Gl X x)(hd:(x == ("__debug__":Str))=false:=by decide):JE X (.Name x pos) (eFnV x):=by
 intro pins s σ H Q I ⟨as,ρ,st',en,rp,h⟩
 obtain⟨f,_,_,_,_,_,_,_,_,_,h1,h2,_⟩:=D
 have hm:X.mg x=some (.ref f):=PySem.W.mg_of I.mod.kin I.mod.glob h1
 refine Ye4 I hg hm ⟨.ref f,H,I,rfl,?_⟩ hd
 exact h (as++[f]) H _ Ext.add (rp.add (rp.fresh (I.bs f _ (I.mod.kin f _ h2)).2) h1) (.ref (by rw[<-rp.len];exact VL))
theorem Yhs{x y:Str}{k:Nat}{ps:List Str}{mf:MF}{es:List Expr}{mr:MA}(F:Fn X.prog X.w X.K X.mg X.base x k ps mf)(hr:Room k X.A)(hc:JE X (.Name y p) mc)(ha:JA X (e::es) mr)
 (he:starEach (e::es) X.env=(false,eval e X.env)::starEach es X.env:=by rfl) (hpl:(backTo pos (starEach es X.env)).any (·.1)=false:=by rfl):
 JE X (.Call (.Name y p) (e::es) [] pos) (eCallV x ps.length mf mc mr):=by
 intro pins s σ H Q I ⟨as,ρ,st,en,rp,h⟩
 obtain⟨f,fd,h1,h2,h3,h4⟩:=F.ex
 refine wpAny_Call_Name_kw (thn (hc pins s σ H (fun v H1=>v=.ref f/\∃as1 st1,Ext as H as1 H1/\Rep X.K as1 st1 H1/\Post X as1 H1 ρ (eCall ps.length mf mr ρ st1) Q) I ⟨as,ρ,st,en,rp,Post.bindE h fun c st1 as1 H1 v x1 rp1 d h1'=>?_⟩) fun u s1 ⟨v,H1,I1,r,ev,as1,st1,x1,rp1,q⟩=>?_)
 ·cases d with
  |@ref k' a e1=>
   dsimp only at h1'
   cases z:st1[k']? with
   |none=>simp only[z]at h1';exact h1'.elim
   |some ob=>cases ob with
    |fn n=>
     simp only[z]at h1'
     by_cases en:n=x
     ·rw[if_pos en]at h1'
      have w:=rp1.ob k' a _ e1 z
      have hm:=PySem.W.mg_of I.mod.kin I.mod.glob w
      rw[en,h2]at hm
      cases hm
      exact⟨rfl,as1,st1,x1,rp1,h1'⟩
     ·rw[if_neg en]at h1';exact h1'.elim
    |_=>simp only[z]at h1';exact h1'.elim
  |_=>exact h1'.elim
 ·subst ev
  cases r
  refine PySem.W.callWith_K (h₀:=X.base) I.ok.mod.kin h3 (thn (ha pos pins s1 σ H1 _ I1 ⟨as1,ρ,st1,en.ext x1,rp1,Post.bindA q fun qs st2 as2 H2 vs x2 rp2 d h5=>?_⟩) fun us s2 ⟨vs,H2,I2,r,q2⟩=>⟨I2.kIn,YgM h1 hr h4 .nil (pass0 (X:=X)) I2 r q2⟩) he hpl
  rw[List.append_nil]
  by_cases hl:qs.length=ps.length
  ·rw[if_pos hl]at h5
   refine⟨by rw[d.length];exact hl,as2,st2,qs,rp2,d,?_⟩
   cases z:mf qs st2 with
   |ok p' st2=>rw[z]at h5;exact h5
   |exc k s'=>rw[z]at h5;exact h5.elim
   |bad=>rw[z]at h5;exact h5.elim
  ·rw[if_neg hl]at h5;exact h5.elim
end
end Mi
namespace Mi
open PySem PySem.Spec L2
open PyProof.Rows hiding St
theorem WV:entryFor table "dict.update.loop"=some Builtin.«dict.update.loop»:=entryFor_of_tree (by kernel_rfl)
theorem Zj:plainId "dict.update.loop"=true:=by decide +kernel
theorem YaB:typeLookup (.type "list") "keys"=pure none:=by rw[typeLookup_type,builtinLookup_eq_fast];kernel_rfl
section
variable{prog:Program}{w:World}{A:Around}{E:Value->Shared->Prop}{s:Shared}
theorem Yah{a:Addr}{xs:Array Value}{Q:Option Value->Shared->Prop}(hl:PlainL s.heap a xs)(hA:A.handled=none)
 (h:∀h' tk,(∀b o,s.heap.get? b=some o->h'.get? b=some o)->Q none { s with heap:=h',toks:=tk }):wpAny (model prog w) A (getAttr? (.ref a) "keys") Q E s:=by
 obtain⟨⟨c,dct,dat,sl⟩,k,hx,hc,hd,hdat⟩:=hl
 simp only at hc hdat hd
 subst hc hdat hd
 obtain⟨hp,g,d,tk,os⟩:=s
 have hT:∀tk',(⟨hp,g,d,tk',os⟩:Shared).TypeIs (.ref a) "list":=fun _=>⟨_,hx,rfl⟩
 have f1:=sub_AttributeError
 have f3:=F.slot_list_getattribute.lookup
 have f4:=F.slot_list_getattribute.bind (.ref a)
 have f5:=am_list_getattr_none
 unfold getAttr? getAttrBy? getAttrBy
 repeat (any_goals (first|assumption|exact hT _|((with_reducible show wpAny _ _ (call (Value.builtin "list.__getattribute__") _ _) _ _ _);refine call_meets F.slot_list_getattribute (hT _) am_entry_list_getattribute (F.args_list_getattribute_2 _ _) (meets_getattribute_miss_list a xs k sl "keys" _ YaB (by decide +kernel)) ⟨hx,hA,fun h' tk' e hx'=>?_⟩)|wp_step))
 obtain⟨t',u',he⟩:=hx'.there
 show wpAny _ _ (getattributeRaised _ _ _ _ _ _ _) _ _ _
 unfold getattributeRaised
 repeat (any_goals (first|assumption|wp_step))
 exact h _ _ hx'.keeps
end
end Mi
namespace Mi
open PySem PySem.Spec L2
open PyProof.Rows hiding St
noncomputable def storeAllD(prs:List (DK×Addr×Value)):List (DK×Addr×Value):=prs.foldl (fun acc p=>storedH acc p.1 p.2.1 p.2.2) []
section
variable{prog:Program}{w:World}{A:Around}{R:Result->Shared->Prop}{I:Addr}{fp wr:List Addr}{G:Array GenState->Array GenState->Prop}{P:Nat->Value->Prop}{St:Nat->Shared->Prop}
theorem Vk(prs:List (DK×Addr×Value))(p:DK×Addr×Value):storeAllD (prs++[p])=storedH (storeAllD prs) p.1 p.2.1 p.2.2:=by simp[storeAllD,List.foldl_append]
theorem VD(prs:List (DK×Addr×Value)):(storeAllD prs).length<=prs.length:=by
 have:∀(prs acc:List (DK×Addr×Value)),(prs.foldl (fun acc p=>storedH acc p.1 p.2.1 p.2.2) acc).length<=acc.length+prs.length:=by
  intro prs
  induction prs with
  |nil=>intro acc;simp
  |cons p r ih=>
   intro acc
   have h1:=ih (storedH acc p.1 p.2.1 p.2.2)
   have h2:(storedH acc p.1 p.2.1 p.2.2).length<=acc.length+1:=by unfold storedH;split <;> simp
   rw[List.foldl_cons,List.length_cons]
   omega
 have h:=this prs []
 rw[List.length_nil,Nat.zero_add]at h
 exact h
def PairsD(prog:Program)(w:World)(P:Nat->Value->Prop)(prs:List (DK×Addr×Value))(h:Heap):Prop:=
 ∀i v,P i v->∃t k b val,v=.ref t/\IsTup h t #[.ref b,val]/\prs[i]?=some (k,b,val)/\(deepKind prog w).is h k b
theorem Ycr{h h':Heap}{k:DK}{b:Addr}(kp:∀c o,h.get? c=some o->h'.get? c=some o)(x:(deepKind prog w).is h k b):(deepKind prog w).is h' k b:=
 ⟨x.1,x.2.keep fun a its ⟨o,e,r⟩=>⟨o,kp a o e,r⟩⟩
theorem Yc7{xs:List (DK×Addr×Value)}{k:DK}{a:Addr}{v:Value}{x:DK×Addr×Value}(h:x∈storedH xs k a v):(∃y∈xs,y.1=x.1/\y.2.1=x.2.1)\/(x.1=k/\x.2.1=a):=by
 unfold storedH at h
 split at h
 ·obtain⟨y,hy,rfl⟩:=List.mem_map.mp h
  refine .inl ⟨y,hy,?_⟩
  unfold putAt
  split <;> exact⟨rfl,rfl⟩
 ·rcases List.mem_append.mp h with h|h
  ·exact .inl ⟨x,h,rfl,rfl⟩
  ·rw[List.mem_singleton.mp h];exact .inr ⟨rfl,rfl⟩
theorem YaZ{prs:List (DK×Addr×Value)}{h0:Heap}(W:WalksS prog w A.in1 I fp wr G prs.length P St)(d:Addr)(hd:d∉fp)(hb:prs.length<=sizeLine)(hu:A.units+7<cLine)
 (T:PairsD prog w P prs h0) (fr:∀b o,h0.get? b=some o->b≠d/\b∉wr):
 ∀(k i:Nat)(s:Shared)(c:Int)(u:Tok),prs.length - i=k->i<=prs.length->St i s->(∀b o,h0.get? b=some o->s.heap.get? b=some o)->s.heap.DictOfH (deepKind prog w) d (storeAllD (prs.take i))->(∀x∈storeAllD (prs.take i),(deepKind prog w).is h0 x.1 x.2.1)->
  (∀s',Moved (d::wr) G s s'->s'.heap.DictOfH (deepKind prog w) d (storeAllD prs)->R (.ok (.ret .none)) s')->codeAny (model prog w) A (.builtin "dict.update.loop" ⟨[.ref d,.ref I,.int c u,.none],[]⟩) R s:=by
 have nw:d∉wr:=fun h=>hd (W.sub _ h)
 have sub:∀b∈wr,b∈d::wr:=fun b hb=>List.mem_cons_of_mem _ hb
 have kept:∀{s s':Shared}{xs:List (DK×Addr×Value)},Moved wr G s s'->s.heap.DictOfH (deepKind prog w) d xs->(∀x∈xs,(deepKind prog w).is s'.heap x.1 x.2.1)->s'.heap.DictOfH (deepKind prog w) d xs:=fun hm ⟨o,es,ep,ho,r1,r2,r3,_,r5⟩ q=>⟨o,es,ep,hm.heap d o nw ho,r1,r2,r3,q,r5⟩
 intro k
 induction k with
 |zero=>
  intro i s c u hk hi hst K0 D Z hR
  have e:i=prs.length:=by omega
  subst e
  refine codeAny_builtin WV ?_
  rw[Around.under_plainId Zj _]
  show wpAny _ A.in1 (pyNext (.ref I) >>= _) _ _ s
  refine wpAny_bind (W.done s _ _ hst fun s' hm=>?_)
  show wpAny _ A.in1 (Builtin.Dict.addKeywords d [] >>= _) _ _ s'
  refine wpAny_bind (wpAny_pure ?_)
  show wpAny _ A.in1 (ret Value.none) _ _ s'
  refine wpAny_pure (hR s' (hm.mono sub) ?_)
  have:=kept hm D fun x hx=>Ycr (fun b o e=>hm.heap b o (fr b o e).2 (K0 b o e)) (Z x hx)
  rwa[List.take_length]at this
 |succ k ih=>
  intro i s c u hk hi hst K0 D Z hR
  have hlt:i<prs.length:=by omega
  refine codeAny_builtin WV ?_
  rw[Around.under_plainId Zj _]
  show wpAny _ A.in1 (pyNext (.ref I) >>= _) _ _ s
  refine wpAny_bind (W.item i s _ _ hlt hst fun v s' hP hst' hm=>?_)
  have K1:∀b o,h0.get? b=some o->s'.heap.get? b=some o:=fun b o e=>hm.heap b o (fr b o e).2 (K0 b o e)
  have D':=kept hm D fun x hx=>Ycr K1 (Z x hx)
  obtain⟨t,kk,b,val,rfl,⟨o,ho,hc,n,hdat⟩,hpr,hkey⟩:=T i v hP
  have ho:=K1 t o ho
  have hT:s'.TypeIs (.ref t) "tuple":=⟨_,ho,hc⟩
  show wpAny _ A.in1 (holding [Value.ref t] _ >>= _) _ _ s'
  refine wpAny_bind (wpAny_holding ?_)
  refine wpAny_bind (wpAny_tryCatch ?_)
  unfold Builtin.Dict.pairItems
  refine wpAny_bind (wpAny_typeOf hT ?_)
  rw[if_pos (by decide)]
  refine wpAny_bind (wpAny_seqItems ho hdat ?_)
  refine wpAny_pure ?_
  show wpAny _ A.in1 (holding [Value.ref b,val] (dictSet d (.ref b) val)) _ _ s'
  have room:(storeAllD (prs.take i)).length<=sizeLine:=by
   have:=VD (prs.take i)
   rw[List.length_take]at this
   omega
  refine wpAny_holding (wpAny_dictSet_heap (knd:=deepKind prog w) (show A.units+1+6<cLine by omega) (Ycr K1 hkey) D' (fun h' D2 sb=>?_) room)
  have D3:h'.DictOfH (deepKind prog w) d (storeAllD (prs.take (i+1))):=by
   rw[List.take_add_one,hpr]
   simp only[Option.toList_some]
   rw[Vk]
   exact D2
  have Z':∀x∈storeAllD (prs.take (i+1)),(deepKind prog w).is h0 x.1 x.2.1:=by
   rw[List.take_add_one,hpr]
   simp only[Option.toList_some]
   rw[Vk]
   intro x hx
   rcases Yc7 hx with⟨y,hy,e1,e2⟩|⟨e1,e2⟩
   ·rw[<-e1,<-e2];exact Z y hy
   ·rw[e1,e2];exact hkey
  refine wpAny_pure ⟨plainId_quiet Zj _,ih (i+1) _ _ _ (by omega) hlt (W.frame _ s' _ _ hst' (Nat.le_add_right _ _) fun b hb o e=>?_) (fun b o e=>?_) D3 Z' fun s2 hm2 D4=>?_⟩
  ·rw[sb.2 b fun z:b=d=>hd (z ▸ hb)];exact e
  ·show h'.get? b=some o
   rw[sb.2 b (fr b o e).1];exact K1 b o e
  ·refine hR s2 (Moved.trans W.gtrans ((hm.mono sub).then_heap (Nat.le_add_right _ _) fun b o hb e=>?_) hm2) D4
   rw[sb.2 b fun z:b=d=>hb (z ▸ List.mem_cons_self)];exact e
end
section
variable{prog:Program}{w:World}{A:Around}{E:Value->Shared->Prop}{s:Shared}
theorem Yak{l:Addr}{items:Array Value}{prs:List (DK×Addr×Value)}{Q:Value->Shared->Prop}(hh:A.handled=none)(hu:A.units+8<cLine)(hl:PlainL s.heap l items)(hn:items.size=prs.length)
 (hp:∀(i:Nat)(v:Value),items[i]?=some v->∃t k b val,v=.ref t/\IsTup s.heap t #[.ref b,val]/\prs[i]?=some (k,b,val)/\(deepKind prog w).is s.heap k b) (hb:prs.length<=sizeLine)
 (h:∀h' tk,h'.DictOfH (deepKind prog w) s.heap.objs.size (storeAllD prs)->(∀b o,s.heap.get? b=some o->h'.get? b=some o)->Q (.ref s.heap.objs.size) { s with heap:=h',toks:=tk }):
 wpAny (model prog w) A (call (.type "dict") [.ref l]) Q E s:=by
 refine callType_codes (Q₁:=fun obj s₁=>obj=.ref s.heap.objs.size/\s₁={ s with heap:=s.heap.push { cls:=.type "dict",data:=.dict #[] } }) F.kt_called_dict (F.kt_typeCall_dict_1 _) F.entry_dict_init (kt_code_dict_new _ ⟨rfl,rfl⟩) ?_
 rintro obj s₁ ⟨rfl,rfl⟩
 have hnew:(s.heap.push { cls:=.type "dict",data:=.dict #[] }).DictOfH (deepKind prog w) s.heap.objs.size []:=Heap.DictOfH.new s.heap
 have keepL:∀{h h':Heap},PlainL h l items->(∀o,h.get? l=some o->h'.get? l=some o)->PlainL h' l items:=fun ⟨o,n,e,c⟩ k=>⟨o,n,k o e,c⟩
 have hl1:PlainL (s.heap.push { cls:=.type "dict",data:=.dict #[] }) l items:=keepL hl fun o e=>Heap.get?_push_of_some _ e
 have hlT:Shared.TypeIs { s with heap:=s.heap.push { cls:=.type "dict",data:=.dict #[] } } (.ref l) "list":=by
  obtain⟨o,n,e,c,_⟩:=hl1
  exact⟨o,e,c⟩
 have lt:l<s.heap.objs.size:=by
  obtain⟨o,n,e,_⟩:=hl
  exact Heap.lt_size e
 refine⟨hnew.typeIs,F.args_dict_init_2 _ _,?_⟩
 unfold Builtin.«dict.__init__»
 refine wpAny_bind ?_
 unfold Builtin.Dict.selfAndRest
 refine wpAny_bind (wpAny_notOrdered_dict hnew.typeIs ?_)
 show wpAny _ _ (pure (s.heap.objs.size,[Value.ref l])) _ _ _
 refine wpAny_pure ?_
 show wpAny _ _ (Builtin.Dict.updateFrom "dict.__init__" s.heap.objs.size (.ref l) [] .none) _ _ _
 unfold Builtin.Dict.updateFrom
 refine wpAny_bind (wpAny_typeOf hlT ?_)
 rw[if_pos (by decide)]
 refine wpAny_bind (Yah hl1 (by simp[hh]) fun h1 tk1 k1=>?_)
 rw[if_pos (show (none:Option Value).isNone=true from rfl)]
 refine wpAny_bind (wpAny_rule ?_)
 have hl2:PlainL h1 l items:=keepL hl1 fun o e=>k1 l o e
 refine wpAny_bind (wpAny_pyIter_list (PlainL.isList hl2) ?_)
 have sz:s.heap.objs.size<h1.objs.size:=Heap.lt_size (k1 _ _ (Heap.get?_push_size _ rfl))
 have hneI:l≠h1.objs.size:=by
  obtain⟨o,n,e,_⟩:=hl2
  exact Nat.ne_of_lt (Heap.lt_size e)
 have W:=(Walks.list (prog:=prog) (w:=w) (A:=A.in1.in1) (by simp[hh]) h1.objs.size l hneI items).toS
 rw[hn]at W
 refine wpAny_pure ⟨plainId_quiet Zj _,YaZ (h0:=s.heap) W s.heap.objs.size ?_ hb (show A.units+1+7<cLine by omega) (fun i v hv=>hp i v hv) (fun b o e=>?_) (prs.length - 0) 0 _ _ _ (by omega) (Nat.zero_le _) ⟨⟨_,Heap.get?_push_size _ rfl,rfl,rfl⟩,(PlainL.isList hl2).push _⟩ (fun b o e=>Heap.get?_push_of_some _ (k1 _ _ (Heap.get?_push_of_some _ e))) ?_ (fun x hx=>nomatch hx) ?_⟩
 ·simp only[List.mem_cons,List.not_mem_nil,or_false,not_or]
  exact⟨Nat.ne_of_lt sz,Nat.ne_of_gt lt⟩
 ·have hb:=Heap.lt_size e
  simp only[List.mem_cons,List.not_mem_nil,or_false]
  exact⟨Nat.ne_of_lt hb,Nat.ne_of_lt (Nat.lt_trans hb sz)⟩
 ·exact⟨_,#[],0,Heap.get?_push_of_some _ (k1 _ _ (Heap.get?_push_size _ rfl)),⟨rfl,rfl,rfl⟩,rfl,rfl,(fun x hx=>nomatch hx),List.nodup_nil⟩
 ·intro s3 hm D3
  obtain⟨h3,g3,d3,tk3,os3⟩:=s3
  have eg:g3=s.gens:=hm.gens
  have ed:d3=s.drawn:=hm.drawn
  have eo:os3=s.os:=hm.os
  subst eg;subst ed;subst eo
  refine⟨rfl,h h3 tk3 D3 fun b o e=>?_⟩
  have hb:=Heap.lt_size e
  exact hm.heap b o (by simp only[List.mem_cons,List.not_mem_nil,or_false,not_or];exact⟨Nat.ne_of_lt hb,Nat.ne_of_lt (Nat.lt_trans hb sz)⟩) (Heap.get?_push_of_some _ (k1 b o (Heap.get?_push_of_some _ e)))
end
def PrsD(K:PySem.W.Frag)(H:Hp):List V->List (DK×V)->Prop:=Paired fun v p=>∃t b,v=V.ref t/\SqT K H t [.ref b,p.2]/\DG H p.1 b
noncomputable def putsV(prs:List (DK×V)):List (DK×V):=prs.foldl (fun acc q=>L2.putK acc q.1 q.2) []
section
variable{X:Cx}{pins:List (Addr×Obj)}{σ:St}{H:Hp}{s:Shared}
theorem Ygv(I:Inv X pins σ H s){vs:List V}{its:List Value}(rv:Vals vs its):∀{prs:List (DK×V)},PrsD X.K H vs prs->
 ∃pv:List (DK×Addr×Value),KT H prs pv/\pv.length=its.length/\∀(i:Nat)(v:Value),its[i]?=some v->∃t k b val,v=.ref t/\IsTup s.heap t #[.ref b,val]/\pv[i]?=some (k,b,val)/\(deepKind X.prog X.w).is s.heap k b:=by
 induction rv with
 |nil=>
  intro prs hp
  cases hp
  exact⟨[],.nil,rfl,fun i v h=>by simp at h⟩
 |@cons v u vs us r1 r2 ih=>
  intro prs hp
  cases hp with
  |@cons _ p _ ps h q2=>
   obtain⟨t,b,e,sq,dg⟩:=h
   obtain⟨pv,h1,h2,h3⟩:=ih q2
   subst e
   obtain rfl:u=Value.ref t:=r1
   obtain⟨its2,rr,ht,_⟩:=I.tuple sq
   cases rr with
   |@cons _ key _ rest a rr2=>
    cases rr2 with
    |@cons _ val _ rest2 c rr3=>
     cases rr3
     cases a
     refine⟨(p.1,b,val)::pv,.cons ⟨rfl,dg,c⟩ h1,by simp[h2],fun i v hv=>?_⟩
     cases i with
     |zero=>
      cases hv
      exact⟨t,p.1,b,val,rfl,ht,rfl,VS I.hok dg⟩
     |succ i=>exact h3 i v (by simpa using hv)
theorem Yi4{prs:List (DK×V)}{pv:List (DK×Addr×Value)}(r:KT H prs pv):∀{a:List (DK×V)}{b:List (DK×Addr×Value)},KT H a b->KT H (prs.foldl (fun acc q=>L2.putK acc q.1 q.2) a) (pv.foldl (fun acc p=>storedH acc p.1 p.2.1 p.2.2) b):=by
 induction r with
 |nil=>exact fun h=>h
 |@cons p q ps qs r1 r2 ih=>
  intro a b h
  rw[List.foldl_cons,List.foldl_cons]
  refine ih ?_
  rw[<-r1.1]
  exact KT.put h p.1 r1.2.1 r1.2.2
theorem Yee(hc:X.calm=true)(hu:X.A.units+deep<cLine):CallR X (.type "dict") (fun xs H Q=>∃a vs prs,xs=[.ref a]/\SqL X.K H a vs/\PrsD X.K H vs prs/\∀p o,H p=none->Q (.ref p) (upd H p (.frz o (.dT (putsV prs))))):=by
 intro pins s σ H xs us Q I r ⟨a,vs,prs,e,sq,hb,q⟩
 subst e
 obtain⟨u,rfl,rx⟩:=vals1 r
 cases rx
 obtain⟨its,rv,pl,sz⟩:=I.list sq
 obtain⟨pv,h1,h2,h3⟩:=Ygv I rv hb
 have hlen:pv.length<=sizeLine:=by rw[h2,<-Paired.length rv];exact sz
 refine Tk.wpAny_le (Yak (I.ok.hd hc) hu pl (by rw[h2];simp) (fun i v hv=>h3 i v (by simpa using hv)) hlen fun h' tk D k le=>?_)
 have rel:KT H (putsV prs) (storeAllD pv):=Yi4 h1 .nil
 have hn:H s.heap.objs.size=none:=I.hok.fresh (Nat.le_refl _)
 obtain⟨o,es,ep,ho,c1,c2,c3,_,c5⟩:=D
 refine⟨.ref _,_,I.laid (a:=s.heap.objs.size) (o:=.frz o (.dT (putsV prs))) (t':=tk) (fun b q hq=>k b q hq) (Nat.le_refl _) ⟨ho,?_,beq_eq_false_iff_ne.mpr (Ne.symm (Nat.ne_of_lt I.big)),_,rel.keeps (fun c ys ec=>by rw[Yt (Yv ec hn)];exact ec),o,es,ep,ho,c1,c2,c3,c5⟩,rfl,q _ o hn⟩
 rw[show (putsV prs).length=(storeAllD pv).length from Paired.length rel]
 exact Nat.le_trans (VD pv) hlen
end
end Mi
namespace Kd
open PySem
section
variable{prog:Program}{w:World}{A:Around}{E:Value->Shared->Prop}{s:Shared}{d it:Addr}{od:Obj}{es:Array DictEntry}{ep i:Nat}
theorem iter{Q:Value->Shared->Prop}(ns:(d == sysModules)=false)(ho:s.heap.get? d=some od)(hc:od.ExactDict)(hq:od.data=.dict es ep)
 (h:Q (.ref s.heap.objs.size) { s with heap:=s.heap.push { cls:=.type "dict_keyiterator",data:=.fields #[.ref d,.int 0 0,.int es.size 0,.int ep 0] } }):wpAny (model prog w) A (pyIter (.ref d)) Q E s:=by
 have hT:s.TypeIs (.ref d) "dict":=⟨od,ho,hc.1⟩
 refine wpAny_pyIter_slot hT F.slot_dict_iter (wpAny_call_entry F.slot_dict_iter hT F.entry_dict_iter ?_ (F.args_dict_iter_1 _))
 unfold Builtin.«dict.__iter__» Builtin.Dict.dictSlotNone
 refine wpAny_bind (wpAny_bind (wpAny_notOrdered_dict hT (wpAny_pure ?_)))
 show wpAny _ _ (Builtin.Dict.showsAll d >>= _) _ _ s
 unfold Builtin.Dict.showsAll
 rw[if_neg (by rw[ns];exact Bool.false_ne_true)]
 refine wpAny_bind (wpAny_pure (wpAny_bind (wpAny_dictEntries ho hq (wpAny_bind (wpAny_dictEpoch ho hq ?_)))))
 refine wpAny_bind (wpAny_newObj_type (wpAny_pure ⟨_,rfl,"dict_keyiterator",_,⟨_,Heap.get?_push_size _ rfl,rfl⟩,F.slot_dict_keyiterator_next.lookup,?_⟩))
 simpa [rawInt]using h
theorem item{Q:Option Value->Shared->Prop}(hit:s.heap.IsKeyIter it d i es.size ep)(ho':s.heap.get? d=some od)(hq:od.data=.dict es ep)(hlt:i<es.size)
 (h:∀h',h'.IsKeyIter it d (i+1) es.size ep->Heap.SameBut it s.heap h'->Q (some es[i].key) { s with heap:=h' }):wpAny (model prog w) A (pyNext (.ref it)) Q E s:=by
 obtain⟨o,ho,hc,hd⟩:=id hit
 have hno:Builtin.Dict_items.ownsTuple "dict_keyiterator"=false:=by decide
 unfold pyNext
 refine wpAny_bind (wpAny_attempt (wpAny_callSpecial?_slot (name:=Str.ofString "__next__") hit.typeIs F.slot_dict_keyiterator_next (wpAny_call_entry F.slot_dict_keyiterator_next hit.typeIs F.entry_dict_keyiterator_next (wpAny_bind (wpAny_pure (wpAny_bind (wpAny_bind ?_)))) (F.args_dict_keyiterator_next_1 _))))
 first|refine wpAny_bind (wpAny_typeNameOfWhole_keyiter hit.typeIs (wpAny_pure (wpAny_bind (wpAny_fieldsOf ho hd ?_))))|refine wpAny_bind (wpAny_typeNameOf_keyiter hit.typeIs (wpAny_pure (wpAny_bind (wpAny_fieldsOf ho hd ?_))))
 simp only[hno,Bool.false_eq_true,if_false]
 show wpAny _ _ (if (Value.ref d == Value.none)=true then _ else _) _ _ s
 rw[if_neg (by exact Bool.false_ne_true)]
 refine wpAny_bind (wpAny_pure (wpAny_bind (wpAny_dictEntries ho' hq ?_)))
 rw[if_neg (by simp)]
 refine wpAny_bind (wpAny_pure (wpAny_bind (wpAny_dictEpoch ho' hq ?_)))
 rw[if_neg (by simp)]
 refine wpAny_pure ?_
 simp only[show ¬((i:Int)<0) by omega,if_false,Int.toNat_natCast,Array.getElem?_eq_getElem hlt]
 refine wpAny_bind ?_
 first|refine wpAny_bind (wpAny_typeNameOfWhole_keyiter hit.typeIs (wpAny_pure (wpAny_bind (wpAny_isOneOf_keyiter hit.typeIs ?_))))|refine wpAny_bind (wpAny_typeNameOf_keyiter hit.typeIs (wpAny_pure (wpAny_bind (wpAny_isOneOf_keyiter hit.typeIs ?_))))
 show wpAny _ _ (setField (.ref it) 1 (rawInt ((i:Int)+1)) >>= _) _ _ s
 refine wpAny_bind (wpAny_setField ho hd (by simp) ?_)
 generalize hh:s.heap.update it (Obj.mapFields (·.setIfInBounds 1 (rawInt ((i:Int)+1))))=h'
 have hit':h'.IsKeyIter it d (i+1) es.size ep:=by
  rw[<-hh]
  exact⟨_,Heap.get?_update_self _ ho (Obj.isFreed_of_fields (Obj.data_mapFields hd _)),(Obj.cls_mapFields ..).trans hc,by rw[Obj.data_mapFields hd];simp[rawInt]⟩
 have hsb:Heap.SameBut it s.heap h':=by rw[<-hh];exact Heap.SameBut.update ..
 refine wpAny_bind (wpAny_holding (wpAny_bind (wpAny_isOneOf_keyiter (s:={ s with heap:=h' }) hit'.typeIs ?_)))
 show wpAny _ _ (pure es[i].key) _ _ _
 exact wpAny_pure (wpAny_pure ⟨_,rfl,wpAny_pure (h _ hit' hsb)⟩)
theorem over{Q:Option Value->Shared->Prop}(hh:A.handled=none)(hit:s.heap.IsKeyIter it d i es.size ep)(ho':s.heap.get? d=some od)(hq:od.data=.dict es ep)(hge:es.size<=i)
 (h:∀h',Heap.ExtBut it s.heap h'->Q none { s with heap:=h' }):wpAny (model prog w) A (pyNext (.ref it)) Q E s:=by
 obtain⟨o,ho,hc,hd⟩:=id hit
 have hno:Builtin.Dict_items.ownsTuple "dict_keyiterator"=false:=by decide
 unfold pyNext
 refine wpAny_bind (wpAny_attempt (wpAny_callSpecial?_slot (name:=Str.ofString "__next__") hit.typeIs F.slot_dict_keyiterator_next (wpAny_call_entry F.slot_dict_keyiterator_next hit.typeIs F.entry_dict_keyiterator_next (wpAny_bind (wpAny_pure (wpAny_bind (wpAny_bind ?_)))) (F.args_dict_keyiterator_next_1 _))))
 first|refine wpAny_bind (wpAny_typeNameOfWhole_keyiter hit.typeIs (wpAny_pure (wpAny_bind (wpAny_fieldsOf ho hd ?_))))|refine wpAny_bind (wpAny_typeNameOf_keyiter hit.typeIs (wpAny_pure (wpAny_bind (wpAny_fieldsOf ho hd ?_))))
 simp only[hno,Bool.false_eq_true,if_false]
 show wpAny _ _ (if (Value.ref d == Value.none)=true then _ else _) _ _ s
 rw[if_neg (by exact Bool.false_ne_true)]
 refine wpAny_bind (wpAny_pure (wpAny_bind (wpAny_dictEntries ho' hq ?_)))
 rw[if_neg (by simp)]
 refine wpAny_bind (wpAny_pure (wpAny_bind (wpAny_dictEpoch ho' hq ?_)))
 rw[if_neg (by simp)]
 refine wpAny_pure ?_
 simp only[show ¬((i:Int)<0) by omega,if_false,Int.toNat_natCast,Array.getElem?_eq_none hge]
 refine wpAny_bind ?_
 first|refine wpAny_bind (wpAny_typeNameOfWhole_keyiter hit.typeIs (wpAny_pure ?_))|refine wpAny_bind (wpAny_typeNameOf_keyiter hit.typeIs (wpAny_pure ?_))
 show wpAny _ _ (setField (.ref it) 0 .none >>= _) _ _ s
 refine wpAny_bind (wpAny_setField ho hd (by simp) ?_)
 show wpAny _ _ (newExc (.type "StopIteration") [] >>= _) _ _ _
 refine wpAny_bind ?_
 simp only[newExc,newTuple]
 refine wpAny_bind (wpAny_newObj_type ?_ (by size_fits))
 refine wpAny_bind (m:=firstArgMember _ _) (wpAny_of_eq (a:=Value.none) (by first|rfl|(simp only[firstArgMember];rfl)) ?_)
 refine wpAny_newObj_type ?_ (by size_fits)
 simp only[raiseNew]
 refine wpAny_bind (wpAny_handled ?_)
 rw[show A.in1.handled=none from hh]
 refine wpAny_bind (wpAny_pure (wpAny_throw ?_))
 refine wpAny_bind (wpAny_isInstance (T:="StopIteration") (b:=true) ⟨_,Heap.get?_push_size _ rfl,rfl⟩ isSubtype_stop ?_)
 exact wpAny_pure (h _ (((Heap.SameBut.update ..).extBut.push _).push _))
end
end Kd
namespace L2
open PySem PySem.Spec PyProof.Rows
def ItD(a:Addr)(o:Obj)(ws:List (DK×V)):It:=
 ⟨fun i H=>H a=some (.frz o (.dT ws))/\i<ws.length,fun i H x H'=>H'=H/\∃p b,ws[i]?=some p/\x=.ref b/\DG H p.1 b,fun i H=>H a=some (.frz o (.dT ws))/\ws.length<=i⟩
theorem Yfk{X:Cx}{pins:List (Addr×Obj)}{σ:List (Option V)}{H:Hp}{s:Shared}{a:Addr}{o:Obj}{ws:List (DK×V)}{es:Array DictEntry}{ep:Nat}(I:Inv X pins σ H s)(e:H a=some (.frz o (.dT ws)))(hd:o.data=.dict es ep):
 s.heap.get? a=some o/\o.ExactDict/\(a == sysModules)=false/\es.size=ws.length/\∀(i:Nat)(hi:i<es.size),∃p b,ws[i]?=some p/\es[i].key=.ref b/\DG H p.1 b:=by
 obtain⟨ho,z,y,xs,r,o',es',ep',h1,h2,h3,h4,_⟩:=(show ObjOk X.prog X.w H s.heap a (.frz o (.dT ws)) from I.hok a _ e)
 rw[ho]at h1;cases h1
 rw[hd]at h3;cases h3
 have hl:=Paired.length r
 have hs:es.size=xs.length:=by have:=congrArg List.length h4;simpa using this
 refine⟨ho,h2,y,by omega,fun i hi=>?_⟩
 have key:∀{l:List (DK×V)}{m:List (DK×Addr×Value)},KT H l m->∀(i:Nat) x,m[i]?=some x->∃p,l[i]?=some p/\DG H p.1 x.2.1:=by
  intro l m q
  induction q with
  |nil=>intro i x h;simp at h
  |@cons p q ps qs hq t ih=>
   intro i x h
   cases i with
   |zero=>simp at h;subst h;exact⟨p,rfl,hq.2.1⟩
   |succ j=>
    obtain⟨p',h1,h2⟩:=ih j x (by simpa using h)
    exact⟨p',by simpa using h1,h2⟩
 have hx:xs[i]?=some (xs[i]'(by omega)):=List.getElem?_eq_getElem _
 obtain⟨p,h5,h6⟩:=key r i _ hx
 refine⟨p,_,h5,?_,h6⟩
 have h7:=entry_at h4 i
 rw[Array.getElem?_eq_getElem hi,hx]at h7
 have h8:=Option.some.inj h7
 rw[h8];rfl
theorem Yel{P:Program}{w:World}{K:PySem.W.Frag}{tg:Expr}(a it:Addr)(o:Obj)(ws:List (DK×V)){es:Array DictEntry}{ep:Nat}(hd:o.data=.dict es ep):Turn P w K tg (ItD a o ws) [it] it (fun i h=>h.IsKeyIter it a i es.size ep) where
 mem:=by simp
 obj:=fun i h st b hb=>by
  have e:b=it:=by simpa using hb
  subst e
  obtain⟨o,e,c,d⟩:=st
  exact⟨o,e,fun v z=>by rw[d]at z;cases z⟩
 keep:=fun i h h' st k=>st.at fun o e=>k it (by simp) o e
 item:=by
  intro X hP hw hK hc i pins s σ H E I hf st hg
  subst hP hw hK
  obtain⟨he,hi⟩:=hg
  obtain⟨ho,_,_,hl,hk⟩:=Yfk I he hd
  obtain⟨f0,f1,f2,f3,f4,f5⟩:=hf it (by simp)
  obtain⟨p,b,hp,hb,dg⟩:=hk i (by omega)
  refine Kd.item st ho hd (by omega) fun h' st' sb=>?_
  have I1:Inv X pins σ H { s with heap:=h' }:=I.turned (t':=s.toks) (fun b o hb e=>(sb.2 b hb).trans e) f0 f1 f3 f4 f5
  obtain⟨o,e,c,d⟩:=id st'
  exact⟨_,rfl,Ydh (s:={ s with heap:=h' }) e c d (by decide) ⟨.ref b,H,I1,hb,⟨rfl,p,b,hp,rfl,dg⟩,st',fun b hb=>(hf b hb).1⟩⟩
 done:=by
  intro X hP hw hK hc i pins s σ H E I hf st hg
  subst hP hw hK
  obtain⟨he,hi⟩:=hg
  obtain⟨ho,_,_,hl,hk⟩:=Yfk I he hd
  obtain⟨f0,f1,f2,f3,f4,f5⟩:=hf it (by simp)
  exact Kd.over (I.ok.hd hc) st ho hd (by omega) fun h' eb=>⟨rfl,I.turned (t':=s.toks) (fun b o hb e=>eb b o hb e) f0 f1 f3 f4 f5⟩
 self:=fun _ _ _ _ _ st h=>wpAny_pyIter_keyiter st h
theorem YgS{X:Cx}{tg:Expr}{pins:List (Addr×Obj)}{σ:St}{H:Hp}{s:Shared}{a:Addr}{o:Obj}{ws:List (DK×V)}{R:It->Hp->Prop}{E:Value->Shared->Prop}(I:Inv X pins σ H s)(e:H a=some (.frz o (.dT ws)))(q:R (ItD a o ws) H):
 wpAny (model X.prog X.w) X.A (pyIter (.ref a)) (PIE X pins σ tg R) E s:=by
 obtain⟨ho,z,y,xs,r,o',es,ep,h1,h2,h3,_⟩:=(show ObjOk X.prog X.w H s.heap a (.frz o (.dT ws)) from I.hok a _ e)
 rw[ho]at h1;cases h1
 refine Kd.iter y ho h2 h3 ?_
 refine⟨s.heap.objs.size,[s.heap.objs.size],_,_,H,rfl,I.kept (t':=s.toks) fun b o e=>Heap.get?_push_of_some _ e,Yel a _ o ws h3,⟨_,Heap.get?_push_size _ rfl,rfl,rfl⟩,fun b hb=>?_,q⟩
 have e:b=s.heap.objs.size:=by simpa using hb
 subst e
 exact I.fpOk (Nat.le_refl _) (I.hok.fresh (Nat.le_refl _))
end L2
namespace Mi
open PySem PySem.Spec L2 PySem.SeqAt
open PyProof.Rows hiding St
mutual
theorem Yfa{K:PySem.W.Frag}{as:List Addr}{H:Hp}{k:DK}{v:V}(d:DGh H k v):Den K as H v (pOf k):=
 match d with
 |@DGh.key _ (.inl i) v p q=>by cases (show v=.int i from p);exact .int
 |@DGh.key _ (.inr x) v p q=>by
  obtain⟨t,rfl⟩:=(show ∃t,v=.str x t from p)
  exact .str (q x t rfl).1 (q x t rfl).2
 | .tup p r=>.tup (.inl (.inl p)) (YdC r) p
theorem YdC{K:PySem.W.Frag}{as:List Addr}{H:Hp}{k:List DK}{v:List V}(d:DGhs H k v):Dens K as H v (psOf k):=
 match d with
 | .nil=>.nil
 | .cons p r=>.cons (Yfa p) (YdC r)
end
theorem Yd7{K:PySem.W.Frag}{as:List Addr}{H:Hp}{a:Addr}{o:Obj}{ws:List (DK×V)}{kvs:List (DK×P)}(e:H a=some (.frz o (.dT ws)))(hk:ws.map (·.1)=kvs.map (·.1)):ItOk K as H (srcKeysD kvs) (ItD a o ws) where
 go:=fun i as2 st2 H2 p x rp q=>by
  have q':(kvs[i]?).map (fun p=>pOf p.1)=some p:=Option.some.inj q
  have hl:ws.length=kvs.length:=by simpa using congrArg List.length hk
  cases w:kvs[i]? with
  |none=>rw[w]at q';cases q'
  |some kv=>
   rw[w]at q'
   cases q'
   have hi:i<kvs.length:=(List.getElem?_eq_some_iff.mp w).1
   refine⟨⟨x.keep a _ e (fun z=>z),by omega⟩,fun y H3 ⟨z1,pr,b,z2,z3,z4⟩=>?_⟩
   subst z1;subst z3
   have:(ws.map (·.1))[i]?=(kvs.map (·.1))[i]?:=by rw[hk]
   rw[List.getElem?_map,List.getElem?_map,z2,w]at this
   have e2:pr.1=kv.1:=by simpa using this
   show Ext _ _ _ _/\Rep _ _ _ _/\Den _ _ _ _ (pOf kv.1)
   rw[<-e2]
   exact⟨Ext.refl,rp,Yfa z4.2⟩
 stop:=fun i as2 st2 H2 x rp q=>by
  have q':(kvs[i]?).map (fun p=>pOf p.1)=none:=Option.some.inj q
  have hl:ws.length=kvs.length:=by simpa using congrArg List.length hk
  have:kvs.length<=i:=by simpa using q'
  exact⟨x.keep a _ e (fun z=>z),by omega⟩
section
variable{X:Cx}{a b o i e:Expr}{ma mb mo mi me mc:ME}{pos pos' p:Pos}{m:MA}{tg:Expr}
theorem YhX(he:JE X e me):JI X tg e (iKeysD me):=by
 intro pins s σ H R I ⟨as,ρ,st,en,rp,h⟩
 refine thn (he pins s σ H (fun x H1=>∃a o ws,x=.ref a/\H1 a=some (.frz o (.dT ws))/\R (ItD a o ws) H1) I
  ⟨as,ρ,st,en,rp,PostI.bindE h fun p st1 as1 H1 v x rp1 d h1=>?_⟩) fun v s1 ⟨x,H1,I1,r1,a,o,ws,ex,e1,q1⟩=>by subst ex;cases r1;exact YgS I1 e1 q1
 cases d with
 |@ref k a hk=>
  dsimp only at h1
  cases z:st1[k]? with
  |none=>simp only[z]at h1;exact h1.elim
  |some ob=>cases ob with
   |fdd kvs=>
    simp only[z]at h1
    obtain⟨o,ws,g1,g2,g3⟩:=rp1.ob k a _ hk z
    exact⟨a,o,ws,rfl,g1,h1 as1 H1 _ Ext.refl rp1 (Yd7 g1 g2)⟩
   |_=>simp only[z]at h1;exact h1.elim
 |_=>exact h1.elim
theorem YfH:JE X (.Dict [] [] pos) eDictD0:=fun pins s σ H Q I ⟨as,ρ,st,en,rp,h⟩=>by
 have hn:H s.heap.objs.size=none:=I.hok.fresh (Nat.le_refl _)
 refine wpAny_Dict_empty ⟨.ref s.heap.objs.size,_,I.laid (a:=s.heap.objs.size) (o:=.dT []) (t':=s.toks) (fun _ _ q=>Heap.get?_push_of_some _ q) (Nat.le_refl _) ⟨Nat.zero_le _,beq_eq_false_iff_ne.mpr (Ne.symm (Nat.ne_of_lt I.big)),[],.nil,_,#[],0,Heap.get?_push_size _ rfl,⟨rfl,rfl,rfl⟩,rfl,rfl,List.nodup_nil⟩,rfl,
  h (as++[_]) _ _ (Ext.new hn) (rp.new hn ⟨[],Yq,rfl,.nil⟩) (.ref (by rw[<-rp.len];exact VL))⟩
theorem YfD{K:PySem.W.Frag}{as:List Addr}{H:Hp}:∀{prs:List (DK×V)}{kvs:List (DK×P)}{a:List (DK×V)}{b:List (DK×P)},prs.map (·.1)=kvs.map (·.1)->Dens K as H (prs.map (·.2)) (kvs.map (·.2))->a.map (·.1)=b.map (·.1)->Dens K as H (a.map (·.2)) (b.map (·.2))->
 (prs.foldl (fun acc q=>L2.putK acc q.1 q.2) a).map (·.1)=(kvs.foldl (fun acc q=>putP acc q.1 q.2) b).map (·.1)/\Dens K as H ((prs.foldl (fun acc q=>L2.putK acc q.1 q.2) a).map (·.2)) ((kvs.foldl (fun acc q=>putP acc q.1 q.2) b).map (·.2)):=by
 intro prs
 induction prs with
 |nil=>
  intro kvs a b h1 h2 h3 h4
  cases kvs with
  |nil=>exact⟨h3,h4⟩
  |cons c d=>simp at h1
 |cons q qs ih=>
  intro kvs a b h1 h2 h3 h4
  cases kvs with
  |nil=>simp at h1
  |cons c d=>
   simp only[List.map_cons,List.cons.injEq]at h1
   cases h2 with
   |cons d1 d2=>
    have:=Ycs (k:=q.1) d1 h3 h4
    rw[List.foldl_cons,List.foldl_cons]
    rw[h1.1]at this ⊢
    exact ih h1.2 d2 this.1 this.2
theorem YfV{K:PySem.W.Frag}{as:List Addr}{H:Hp}:∀{ps:List P}{vs:List V}{kvs:List (DK×P)},Dens K as H vs ps->pairsD ps=some kvs->∃prs,PrsD K H vs prs/\prs.map (·.1)=kvs.map (·.1)/\Dens K as H (prs.map (·.2)) (kvs.map (·.2)):=by
 intro ps
 induction ps with
 |nil=>
  intro vs kvs d h
  cases d
  cases h
  exact⟨[],.nil,rfl,.nil⟩
 |cons p ps ih=>
  intro vs kvs d h
  cases d with
  |@cons v _ vs2 _ d1 d2=>
   unfold pairsD at h
   cases hq:pairD p with
   |none=>rw[hq]at h;cases h
   |some q=>
    rw[hq]at h
    cases hr:pairsD ps with
    |none=>rw[hr]at h;cases h
    |some r=>
     rw[hr]at h
     cases h
     obtain⟨prs,h1,h2,h3⟩:=ih d2 hr
     unfold pairD at hq
     split at hq
     ·rename_i a b
      cases hk:tupK a with
      |none=>rw[hk]at hq;cases hq
      |some k=>
       rw[hk]at hq
       cases hq
       cases d1 with
       |@tup t ws _ et dd=>
        cases dd with
        |@cons va _ _ _ da dd2=>
         cases dd2 with
         |@cons vb _ _ _ db dd3=>
          cases dd3
          obtain⟨c,rfl,dg⟩:=YcU da hk
          exact⟨(k,vb)::prs,.cons ⟨t,c,rfl,et,dg⟩ h1,by simp[h2],.cons db h3⟩
     ·cases hq
theorem Yft(hu:X.A.units+deep<cLine)(hc:X.calm=true)(hg:Gl X "dict") (hm:X.mg "dict"=none) (hv:bootBuiltins "dict"=some (.type "dict")) (h:JL X e m)
 (he:starEach [e] X.env=(false,eval e X.env)::starEach [] X.env:=by rfl):JE X (.Call (.Name "dict" p) [e] [] pos) (eDictLF m):=
 PE.imp (JP (Yee hc hu) hg hm hv (Vr h JN he) (by decide) (by decide) he) fun σ H Q ⟨as,ρ,st,en,rp,h⟩=>⟨as,ρ,st,en,rp,Post.bindL h fun ps st1 as1 H1 l vs x rp1 hl fr d h1=>by
  cases q:pairsD ps with
  |none=>rw[q]at h1;exact h1.elim
  |some kvs=>
   rw[q]at h1
   obtain⟨prs,k1,k2,k3⟩:=YfV d q
   have k4:=YfD (a:=[]) (b:=[]) k2 k3 rfl .nil
   exact⟨l,vs,prs,rfl,.of hl,k1,fun p o hp=>h1 (as1++[p]) _ _ (Ext.new hp) (rp1.new hp ⟨o,_,Yq,k4.1,k4.2.ext (Ext.new hp)⟩) (.ref (by rw[<-rp1.len];exact VL))⟩⟩
open Classical in
theorem Ygo(hu:X.A.units+deep<cLine):OpR X (compareOp .NotIn) (rM X notIn6P):=opM fun pins s σ H x y v u Q as st p q I rx ry rp d1 d2 h=>by
 cases d2 with
 |@ref k a hk=>
  unfold notIn6P at h
  dsimp only at h
  cases z0:listAt st k with
  |none=>rw[z0]at h;exact h.elim
  |some xs=>
   rw[z0]at h
   dsimp only at h
   cases z1:snap 6 st p with
   |none=>rw[z1]at h;exact h.elim
   |some d=>
    cases z2:xs.mapM (snap 6 st) with
    |none=>rw[z1,z2]at h;exact h.elim
    |some ds=>
     rw[z1,z2]at h
     obtain⟨b1,r1⟩:=ZA I rp z1 d1 rx
     have z3:snap 7 st (.ref k)=some (.list ds):=by
      show (match listAt st k with|some xs=>(xs.mapM (snap 6 st)).map PyData.list|none=>none)=_
      rw[z0]
      show (xs.mapM (snap 6 st)).map PyData.list=_
      rw[z2]
      rfl
     obtain⟨b2,r2⟩:=ZA I rp z3 (.ref hk) ry
     have hall:ds.all (noD 6)=true:=Wm z3
     cases ry
     cases r2 with
     |@list _ o ws n _ _ h1 h2 h3 h4=>
      have hf:∀(v':Value)(d':PyData)(cs:List Addr),Reads s.heap v' d' cs->decide (∃d' bs,Reads s.heap v' d' bs/\PyData.eqv d' d=true)=PyData.eqv d' d:=fun v' d' cs rr=>by
       cases q:PyData.eqv d' d with
       |true=>exact decide_eq_true ⟨d',cs,rr,q⟩
       |false=>
        refine decide_eq_false ?_
        rintro⟨d2,bs,r3,q2⟩
        rw[<-(Reads.unique rr _ _ r3).1,q]at q2
        cases q2
      refine SeqAt.notIn_listAt (fun v'=>decide (∃d' bs,Reads s.heap v' d' bs/\PyData.eqv d' d=true)) ⟨o,h1,h2,n,h3⟩ (fun v' hv=>?_) ⟨.bl _,H,I,rfl,?_⟩
      ·obtain⟨d',m1,cs,rr⟩:=YbX h4 v' (by simpa using hv)
       rw[hf v' d' cs rr]
       exact (Yce 6 (A:=X.A.in1) rr r1 (List.all_eq_true.mp hall d' m1) (Wm z1) (by
        show X.A.units+1+6<cLine
        have:X.A.units+8<cLine:=hu
        omega)).1
      ·rw[show ws.any (fun v'=>decide (∃d' bs,Reads s.heap v' d' bs/\PyData.eqv d' d=true))=ws.toList.any (fun v'=>decide (∃d' bs,Reads s.heap v' d' bs/\PyData.eqv d' d=true)) by simp,Yb8 _ (fun e=>PyData.eqv e d) hf h4]
       exact h as H _ Ext.refl rp .bl
 |_=>exact h.elim
end
end Mi
namespace HT
section
open PySem PyProof.Rows
variable{prog:Program}{w:World}{A:Around}{E:Value->Shared->Prop}{s:Shared}
theorem sIx_none(n d:Nat):sIx n d none=d:=rfl
end
end HT
namespace HT
section
open PySem PyProof.Rows
variable{prog:Program}{w:World}{A:Around}{E:Value->Shared->Prop}{s:Shared}
theorem sIx_nat(n d k:Nat):sIx n d (some (k:Int))=min k n:=by
 show (if (k:Int)<0 then ((k:Int)+(n:Int)).toNat else min (k:Int).toNat n)=min k n
 rw[if_neg (by omega),Int.toNat_natCast]
end
end HT
namespace Mi
section
open PySem PySem.Spec L2
open PyProof.Rows hiding St
theorem Yil{ks:List Str}{k x:Str}:x∈putK ks k↔x∈ks\/x=k:=by
 unfold putK
 split
 ·rename_i h
  exact⟨.inl,fun z=>z.elim id fun e=>e ▸ h⟩
 ·simp
end
end Mi
namespace Mi
section
open PySem PySem.Spec L2
open PyProof.Rows hiding St
theorem Vl{x:Str}:∀(ks acc:List Str),x∈ks.foldl putK acc↔x∈acc\/x∈ks
 | [],acc=>by simp
 |k::r,acc=>by
  rw[List.foldl_cons,Vl r,Yil,List.mem_cons]
  exact or_assoc
end
end Mi
namespace Mi
section
open PySem PySem.Spec L2
open PyProof.Rows hiding St
theorem mem_once{ks:List Str}{x:Str}:x∈once ks↔x∈ks:=by simpa [once]using Vl (x:=x) ks []
end
end Mi
namespace Mi
section
open PySem PySem.Spec L2
open PyProof.Rows hiding St
theorem YeN{ks:List Str}{k:Str}(h:ks.Nodup):(putK ks k).Nodup:=by
 unfold putK
 split
 ·exact h
 ·rename_i hk
  rw[List.nodup_append]
  exact⟨h,by simp,fun a ha b hb e=>hk (by rw[List.mem_singleton]at hb;subst hb;exact e ▸ ha)⟩
end
end Mi
namespace Mi
section
open PySem PySem.Spec L2
open PyProof.Rows hiding St
theorem Wi:∀(ks acc:List Str),acc.Nodup->(ks.foldl putK acc).Nodup
 | [],_,h=>h
 |k::r,acc,h=>by rw[List.foldl_cons];exact Wi r _ (YeN h)
end
end Mi
namespace Mi
section
open PySem PySem.Spec L2
open PyProof.Rows hiding St
theorem Yes(ks:List Str):(once ks).Nodup:=Wi ks [] List.nodup_nil
end
end Mi
namespace Mi
section
open PySem PySem.Spec L2
open PyProof.Rows hiding St
theorem YlL{st:Stor}{i j:Int}(h:0<=j)(h1:j<=1000000)(h2:i.natAbs<2 ^ 64):powP (.int i) (.int j) st=some (.int (i ^ j.toNat),st):=by
 unfold powP;dsimp only;rw[if_pos ⟨h,h1,h2⟩];rfl
end
end Mi
namespace Mi
section
open PySem PySem.Spec L2
open PyProof.Rows hiding St
variable{ρ:Rho}{st:Stor}
theorem YkN{a:ME}{l h c:MO}:eSl3 a l h c ρ st=(a ρ st).bind fun p st1=>(l ρ st1).bind fun l st2=>(h ρ st2).bind fun u st3=>(c ρ st3).bind fun c st4=>ofO (sl3P p l u c st4):=rfl
end
end Mi
namespace Mi
section
open PySem PySem.Spec L2
open PyProof.Rows hiding St
variable{ρ:Rho}{st:Stor}
theorem YdK{α β:Type}{f:α->β}(xs:List α):∀is:List Nat,pickL is (xs.map f)=(pickL is xs).map f
 | []=>rfl
 |i::is=>by
  have ih:=YdK (f:=f) xs is
  unfold pickL at ih ⊢
  cases q:xs[i]? with
  |none=>
   rw[List.filterMap_cons_none q,List.filterMap_cons_none (by rw[List.getElem?_map,q];rfl),ih]
  |some x=>
   rw[List.filterMap_cons_some q,List.filterMap_cons_some (by rw[List.getElem?_map,q];rfl),ih,List.map_cons]
end
end Mi
namespace Mi
section
open PySem PySem.Spec L2
open PyProof.Rows hiding St
variable{ρ:Rho}{st:Stor}
theorem YaM(n:Nat)(lo hi:Option Int){c:Int}(hc:0<c):(stepIx n lo hi c).length<=n:=by
 unfold stepIx
 refine sliceRange_length_le _ _ _ _ (fun _=>?_) fun h=>?_
 ·simp only[sliceBounds,Option.getD_some,show c > 0 from hc,if_true]
  constructor
  ·cases lo with
   |none=>simp
   |some i=>dsimp only;omega
  ·cases hi with
   |none=>simp
   |some i=>dsimp only;omega
 ·simp only[sliceBounds,Option.getD_some]at h
  exact absurd hc h
end
end Mi
namespace Mi
section
open PySem PySem.Spec L2
open PyProof.Rows hiding St
variable{ρ:Rho}{st:Stor}
theorem YlF{k:Nat}{ns:List Int}{lo hi:Option Int}{c:Int}(h:listAt st k=some (ns.map P.int))(hc:0<c)(hl:ns.length<=1000000):∃cs:List Int,cs.length<=ns.length/\sl3P (.ref k) lo hi (some c) st=some (.ref st.length,st++[.lst (cs.map P.int)]):=by
 refine⟨pickL (stepIx ns.length lo hi c) ns,Nat.le_trans (List.length_filterMap_le _ _) (YaM _ _ _ hc),?_⟩
 show (if c≠0 then (match listAt st k with|some xs=>newL (pickL (stepIx xs.length lo hi c) xs) st|none=>none) else none)=_
 rw[if_pos (by omega),h]
 dsimp only
 rw[List.length_map,YdK]
 unfold newL
 rw[if_pos]
 rw[List.length_map]
 exact Nat.le_trans (Nat.le_trans (List.length_filterMap_le _ _) (YaM _ _ _ hc)) hl
end
end Mi
namespace Mi
section
open PySem PySem.Spec L2
open PyProof.Rows hiding St
variable{ρ:Rho}{st:Stor}
theorem Yli{k:Nat}{xs:List P}{y:P}(h:st[k]?=some (.lst (xs++[y]))):popP (.ref k) [] st=some (y,st.set k (.lst xs)):=by
 have e:lstAt st k=some (xs++[y]):=by unfold lstAt;rw[h]
 show (match lstAt st k with|some xs=>(match xs[xs.length - 1]? with|some y=>some (y,st.set k (.lst xs.dropLast))|none=>none)|none=>none)=_
 rw[e]
 simp
end
end Mi
namespace Mi
section
open PySem PySem.Spec L2
open PyProof.Rows hiding St
theorem YiY{st:Stor}{k:Nat}{kvs:List (Key×P)}(h:st[k]?=some (.dct kvs))(hl:kvs.length<=1000000):listDP [.ref k] st=some (.ref st.length,st++[.lst (kvs.map fun p=>keyToP p.1)]):=by
 show (match st[k]? with|some (O.dct kvs)=>newL (kvs.map fun (p:Key×P)=>keyToP p.1) st|_=>listP [.ref k] st)=_
 rw[h]
 dsimp only
 unfold newL
 rw[if_pos]
 rw[List.length_map]
 exact hl
end
end Mi
namespace Mi
section
open PySem PySem.Spec L2
open PyProof.Rows hiding St
theorem Yk5{ρ:Rho}{st:Stor}{i j:Nat}{ma:MA}:sPar i j ma ρ st=RS.ofE ρ (ma ρ st) fun ps st1=>match ps with| [p,q]=>.nx ((ρ.set i (some p)).set j (some q)) st1|_=>.bad:=rfl
end
end Mi
namespace Mi
section
open PySem PySem.Spec L2
open PyProof.Rows hiding St
theorem Yj2(n:Nat):sliceRange ((n:Int) - 1) (-1) (-1)=(List.range n).reverse:=by
 unfold sliceRange
 have hc:(if (-1:Int) > 0 then (if (n:Int) - 1< -1 then (-1 - ((n:Int) - 1)+-1 - 1) / -1 else 0) else (if (n:Int) - 1 > -1 then ((n:Int) - 1 - -1 - -1 - 1) / (- -1) else 0))=(n:Int):=by
  rw[if_neg (by decide)]
  by_cases h:(n:Int) - 1 > -1
  ·rw[if_pos h,show (- -1:Int)=1 from rfl,Int.ediv_one];omega
  ·rw[if_neg h];omega
 simp only[hc,Int.toNat_natCast]
 apply List.ext_getElem
 ·simp
 ·intro i h1 h2
  simp only[List.getElem_map,List.getElem_range,List.getElem_reverse,List.length_range]
  simp at h1
  omega
end
end Mi
namespace Mi
section
open PySem PySem.Spec L2
open PyProof.Rows hiding St
theorem Yhn{α:Type}(xs:List α):pickL (List.range xs.length).reverse xs=xs.reverse:=by
 unfold pickL
 rw[List.filterMap_reverse]
 congr 1
 have:∀n:Nat,n<=xs.length->(List.range n).filterMap (fun i=>xs[i]?)=xs.take n:=by
  intro n hn
  induction n with
  |zero=>rfl
  |succ n ih=>
   rw[List.range_succ,List.filterMap_append,ih (by omega),List.take_add_one,List.getElem?_eq_getElem (show n<xs.length by omega)]
   simp[show n<xs.length by omega]
 rw[this _ (Nat.le_refl _),List.take_length]
end
end Mi
namespace Mi
section
open PySem PySem.Spec L2
open PyProof.Rows hiding St
theorem YhQ(n:Nat):stepIx n none none (-1)=(List.range n).reverse:=Yj2 n
end
end Mi
namespace Mi
section
open PySem PySem.Spec L2
open PyProof.Rows hiding St
theorem Ygq{α:Type}(xs:List α):pickL (stepIx xs.length none none (-1)) xs=xs.reverse:=by rw[YhQ,Yhn]
end
end Mi
set_option maxHeartbeats 4000000
namespace G
open PySem PySem.Spec L2 Mi
open PyProof.Rows hiding St
set_option hygiene false in
local macro_rules | `(tactic| walk_at "1") => `(tactic| first | exact Or.inl rfl | exact Or.inr rfl)
set_option hygiene false in
local macro_rules | `(tactic| walk_at "2") => `(tactic| refine Yjq ?_ ?_)
set_option hygiene false in
local macro_rules | `(tactic| walk_at "3") => `(tactic| refine YhD ?_ ?_)
set_option hygiene false in
local macro_rules | `(tactic| walk_at "4") => `(tactic| refine YjW ?_ ?_ ?_)
set_option hygiene false in
local macro_rules | `(tactic| walk_at "6") => `(tactic| exact (fun _ _ => rfl))
set_option hygiene false in
local macro_rules | `(tactic| walk_at "7") => `(tactic| refine YlB ?_ ?_ ?_ ?_)
set_option hygiene false in
local macro_rules | `(tactic| walk_at "8") => `(tactic| refine Ykf ?_ ?_ ?_ ?_)
set_option hygiene false in
local macro_rules | `(tactic| walk_at "A") => `(tactic| refine YiU ?_ ?_ ?_)
set_option hygiene false in
local macro_rules | `(tactic| walk_at "C") => `(tactic| refine Yj8 ?_ ?_ ?_ ?_)
set_option hygiene false in
local macro_rules | `(tactic| walk_at "D") => `(tactic| refine YgO ?_ ?_)
set_option hygiene false in
local macro_rules | `(tactic| walk_at "E") => `(tactic| exact (hr.mono (by decide)))
def top(i:Nat):Stmt:=PySem.Challenge.pw_gapwords_k36_whole_no_paper_against_answ.main.body.getD i (.Pass ⟨0,0,0,0⟩)
noncomputable def JB:MS:=
 (sRet (eChain leP leP (eC (.str "a")) (eVar 0) (eC (.str "z"))))
noncomputable def YN:MF:=fnM 1 JB
noncomputable def WK:MS:=
 (sRet (eChain leP leP (eC (.str "A")) (eVar 0) (eC (.str "Z"))))
noncomputable def YW:MF:=fnM 1 WK
noncomputable def Ww:MS:=
 (sRet (eJoinL (eC (.str "")) (lComp (iVal (eVar 0)) 2 [] (mgTup 2 (mgCons (mgName 0) (mgCons (mgName 1) mgNil))) nTrue (eBin addP (eVar 0) (eVar 1)))))
noncomputable def Y8:MF:=fnM 1 Ww
noncomputable def YaV:MS:=
 (sRet (eJoinL (eC (.str "")) (lSortSetX (eVar 0))))
noncomputable def Wn:MF:=fnM 1 YaV
noncomputable def VX:MS:=
 (sRet (eCall 1 Wn (aCons (eSto (lComp (iVal (eCall 1 Y8 (aCons (eVar 0) aNil))) 1 [] (mgName 0) (eTru (eCall 1 YW (aCons (eVar 0) aNil))) (eVar 0))) aNil)))
noncomputable def Zl:MF:=fnM 1 VX
noncomputable def Y2:MS:=
 (sSet 2 (eBin addP (eVar 2) (eC (.int 1))))
noncomputable def Ze:MS:=
 (sSeq (sSet 2 (eC (.int 0)))
 (sSeq (sWhile (eAndT (eTst (eBin ltP (eVar 2) (eB minP (aCons (eB lenP (aCons (eVar 0) aNil)) (aCons (eB lenP (aCons (eVar 1) aNil)) aNil))))) (eTst (eBin eqP (eBin ixP (eVar 0) (eVar 2)) (eBin ixP (eVar 1) (eVar 2)))))
 Y2)
 (sRet (eTup (aCons (eSl (eVar 0) (oSome (eVar 2)) oNone) (aCons (eSl (eVar 1) (oSome (eVar 2)) oNone) aNil))))))
noncomputable def Yj:MF:=fnM 3 Ze
noncomputable def WR:MS:=
 (sSeq (sSetL 1 (lComp (iVal (eVar 0)) 2 [] (mgTup 2 (mgCons (mgName 0) (mgCons (mgName 1) mgNil))) nTrue (eCall 2 Yj (aCons (eVar 0) (aCons (eVar 1) aNil)))))
 (sRet (eTupL (lComp (iVal (eVar 1)) 1 [] (mgName 0) (eTst (eBin neP (eVar 0) (eTup (aCons (eC (.str "")) (aCons (eC (.str "")) aNil))))) (eVar 0)))))
noncomputable def YC:MF:=fnM 2 WR
noncomputable def Ws:MS:=
 (sRet (eTup (aCons (eCall 1 Zl (aCons (eVar 0) aNil)) (aCons (eCall 1 YC (aCons (eVar 0) aNil)) aNil))))
noncomputable def Za:MF:=fnM 1 Ws
noncomputable def VV:MS:=
 (sRet (eBin eqP (eB lenP (aCons (eBin ixP (eVar 0) (eC (.int 1))) aNil)) (eC (.int 0))))
noncomputable def YV:MF:=fnM 1 VV
noncomputable def VJ:MS:=
 (sRet (eAnyL (lComp (iVal (eVar 0)) 1 [] (mgName 0) nTrue (eCall 1 YN (aCons (eVar 0) aNil)))))
noncomputable def ZB:MF:=fnM 1 VJ
noncomputable def WL:MS:=
 (sSeq (sIf (eOrT (eTst (eBin eqP (eVar 0) (eC (.str "")))) (eTst (eBin eqP (eVar 1) (eC (.str "")))))
 (sRet (eCall 1 ZB (aCons (eBin addP (eVar 0) (eVar 1)) aNil)))
 sNil)
 (sRet (eAnd (eCall 1 YN (aCons (eBin ixP (eVar 0) (eC (.int 0))) aNil)) (eCall 1 YN (aCons (eBin ixP (eVar 1) (eC (.int 0))) aNil)))))
noncomputable def Zc:MF:=fnM 2 WL
noncomputable def JJ:MS:=
 (sRet (eAnyL (lComp (iVal (eBin ixP (eVar 0) (eC (.int 1)))) 2 [] (mgTup 2 (mgCons (mgName 0) (mgCons (mgName 1) mgNil))) nTrue (eCall 2 Zc (aCons (eVar 0) (aCons (eVar 1) aNil))))))
noncomputable def ZP:MF:=fnM 1 JJ
noncomputable def ZM:MS:=
 (sSeq (sIf (eOrT (eTst (eBin eqP (eVar 0) (eC (.str "")))) (eTst (eBin eqP (eVar 1) (eC (.str "")))))
 (sRet (eTup (aCons (eTup (aCons (eC (.str "none")) (aCons (eBin ixP (eBin addP (eVar 0) (eVar 1)) (eC (.int 0))) aNil))) aNil)))
 sNil)
 (sSeq (sIf (eTru (eCall 1 YN (aCons (eBin ixP (eVar 0) (eC (.int 0))) aNil)))
 (sRet (eTup (aCons (eTup (aCons (eC (.str "none")) (aCons (eBin ixP (eVar 1) (eC (.int 0))) aNil))) (aCons (eTup (aCons (eC (.str "sign")) (aCons (eBin ixP (eVar 1) (eC (.int 0))) (aCons (eBin ixP (eVar 0) (eC (.int 0))) aNil)))) aNil))))
 sNil)
 (sSeq (sIf (eTru (eCall 1 YN (aCons (eBin ixP (eVar 1) (eC (.int 0))) aNil)))
 (sRet (eTup (aCons (eTup (aCons (eC (.str "none")) (aCons (eBin ixP (eVar 0) (eC (.int 0))) aNil))) (aCons (eTup (aCons (eC (.str "sign")) (aCons (eBin ixP (eVar 0) (eC (.int 0))) (aCons (eBin ixP (eVar 1) (eC (.int 0))) aNil)))) aNil))))
 sNil)
 (sRet (eTup (aCons (eTup (aCons (eC (.str "none")) (aCons (eBin ixP (eVar 0) (eC (.int 0))) aNil))) (aCons (eTup (aCons (eC (.str "none")) (aCons (eBin ixP (eVar 1) (eC (.int 0))) aNil))) (aCons (eTup (aCons (eC (.str "over")) (aCons (eBin ixP (eVar 0) (eC (.int 0))) (aCons (eBin ixP (eVar 1) (eC (.int 0))) aNil)))) (aCons (eTup (aCons (eC (.str "over")) (aCons (eBin ixP (eVar 1) (eC (.int 0))) (aCons (eBin ixP (eVar 0) (eC (.int 0))) aNil)))) aNil)))))))))
noncomputable def YQ:MF:=fnM 2 ZM
noncomputable def VU:MS:=
 (sSeq (sIf (eOrT (eTru (eCall 1 YV (aCons (eVar 0) aNil))) (eTru (eCall 1 ZP (aCons (eVar 0) aNil))))
 (sRet (eTup aNil))
 sNil)
 (sSeq (sSet 1 (eBin ixP (eBin ixP (eVar 0) (eC (.int 1))) (eC (.int 0))))
 (sRet (eCall 2 YQ (aCons (eBin ixP (eVar 1) (eC (.int 0))) (aCons (eBin ixP (eVar 1) (eC (.int 1))) aNil))))))
noncomputable def Zm:MF:=fnM 2 VU
noncomputable def Z7:MS:=
 (sSeq (sSet 2 (eBin ixP (eVar 1) (eC (.int 1))))
 (sSeq (sIf (eTst (eBin eqP (eBin ixP (eVar 1) (eC (.int 0))) (eC (.str "none"))))
 (sSeq (sSet 3 (eM isStr replaceP (eBin ixP (eVar 0) (eC (.int 0))) (aCons (eVar 2) (aCons (eC (.str "")) aNil))))
 (sSet 4 (eC (.str ""))))
 (sSeq (sSet 3 (eBin ixP (eVar 0) (eC (.int 0))))
 (sSet 4 (eBin addP (eBin ixP (eVar 1) (eC (.int 2))) (eVar 2)))))
 (sSeq (sSetL 5 (lComp (iVal (eBin ixP (eVar 0) (eC (.int 1)))) 2 [4,2] (mgTup 2 (mgCons (mgName 0) (mgCons (mgName 1) mgNil))) nTrue (eTup (aCons (eM isStr replaceP (eVar 0) (aCons (eVar 3) (aCons (eVar 2) aNil))) (aCons (eM isStr replaceP (eVar 1) (aCons (eVar 3) (aCons (eVar 2) aNil))) aNil)))))
 (sRet (eTup (aCons (eVar 3) (aCons (eCall 1 YC (aCons (eVar 5) aNil)) aNil)))))))
noncomputable def YF:MF:=fnM 6 Z7
noncomputable def VO:MS:=
 (sRet (eSto (lComp (iVal (eCall 1 Zm (aCons (eVar 0) aNil))) 1 [0] (mgName 0) nTrue (eTup (aCons (eVar 0) (aCons (eCall 2 YF (aCons (eVar 1) (aCons (eVar 0) aNil))) aNil))))))
noncomputable def Y4:MF:=fnM 1 VO
noncomputable def ZX:MS:=
 (sRet (eAnd (eNot (eCall 1 YV (aCons (eVar 0) aNil))) (eAllL (lComp (iVal (eCallV "exits_of" 1 Y4 (eVar 2) (aCons (eVar 0) aNil))) 2 [1] (mgTup 2 (mgCons (mgName 0) (mgCons (mgName 1) mgNil))) nTrue (eBin inDP (eVar 1) (eVar 2))))))
noncomputable def YH:MF:=fnM 3 ZX
noncomputable def WZ:MS:=
 (sSeq (sSet 3 (eDictLF (lComp (iVal (eVar 1)) 1 [] (mgName 0) nTrue (eTup (aCons (eVar 0) (aCons (eC (.bl true)) aNil))))))
 (sSeq (sIf (eNotT (eTru (eAllL (lComp (iVal (eVar 0)) 1 [3] (mgName 0) nTrue (eBin inDP (eVar 0) (eVar 1))))))
 (sRet (eC (.bl false)))
 sNil)
 (sRet (eAllL (lComp (iKeysD (eVar 3)) 1 [2,3] (mgName 0) nTrue (eCall 3 YH (aCons (eVar 0) (aCons (eVar 2) (aCons (eVar 1) aNil)))))))))
noncomputable def Y6:MF:=fnM 4 WZ
noncomputable def JV:MS:=
 (sRet (eCall 3 Y6 (aCons (eTup (aCons (eCall 1 Za (aCons (eVar 0) aNil)) aNil)) (aCons (eVar 1) (aCons (eFnV "exits_of") aNil)))))
noncomputable def ZQ:MF:=fnM 2 JV
noncomputable def ZS:MS:=
 (sSeq (sIf (eTst (eBin ltP (eVar 1) (eB lenP (aCons (eVar 0) aNil))))
 (sRet (eBin ixP (eVar 0) (eVar 1)))
 sNil)
 (sRet (eC (.int 0))))
noncomputable def Yo:MF:=fnM 2 ZS
noncomputable def Vg:MS:=
 (sSeq (sSet 3 (eBin ixP (eSto (lMk (aCons (eC (.int 1)) (aCons (eC (.int 3)) (aCons (eC (.int 5)) (aCons (eC (.int 7)) (aCons (eC (.int 9)) (aCons (eC (.int 11)) (aCons (eC (.int 15)) (aCons (eC (.int 17)) aNil)))))))))) (eBin modP (eBin fdivP (eVar 0) (eC (.int 26))) (eC (.int 8)))))
 (sRet (eSto (lComp (iRange (aCons (eVar 1) aNil)) 1 [0,2,3] (mgName 0) nTrue (eBin ixP (eVar 2) (eBin modP (eBin addP (eBin modP (eVar 1) (eC (.int 26))) (eBin mul2P (eVar 0) (eVar 3))) (eC (.int 26))))))))
noncomputable def Y7:MF:=fnM 4 Vg
noncomputable def WN:MS:=
 (sSeq (sSet 5 (eBin addP (eVar 5) (eBin ixP (eVar 1) (eBin modP (eVar 4) (eB lenP (aCons (eVar 1) aNil))))))
 (sSet 4 (eBin fdivP (eVar 4) (eB lenP (aCons (eVar 1) aNil)))))
noncomputable def Vf:MS:=
 (sSeq (sSet 3 (eBin modP (eVar 0) (eBin addP (eVar 2) (eC (.int 1)))))
 (sSeq (sSet 4 (eBin modP (eBin fdivP (eVar 0) (eBin addP (eVar 2) (eC (.int 1)))) (eBin powP (eC (.int 10)) (eC (.int 30)))))
 (sSeq (sSet 5 (eC (.str "")))
 (sSeq (sFor (iRange (aCons (eVar 3) aNil)) (mgName 6)
 WN)
 (sRet (eVar 5))))))
noncomputable def Zs:MF:=fnM 7 Vf
noncomputable def Z3:MS:=
 (sRet (eJoinL (eC (.str "")) (lComp (iVal (eVar 0)) 1 [1] (mgName 0) nTrue (eGet (eVar 1) (eVar 0) (eVar 0)))))
noncomputable def Yy:MF:=fnM 2 Z3
noncomputable def WA:MS:=
 (sSeq (sSetL 6 (lComp (iVal (eB listDP (aCons (eVar 2) aNil))) 1 [3] (mgName 0) (eTst (eBin ltP (eBin ixP (eVar 1) (eVar 0)) (eC (.int 2)))) (eVar 0)))
 (sSeq (sSet 7 (eBin addP (eBin addP (eVar 6) (eVar 6)) (eVar 1)))
 (sSeq (sSet 8 (eBin ixP (eVar 7) (eBin modP (eBin modP (eBin mul2P (eVar 5) (eC (.int 48271))) (eC (.int 99991))) (eB lenP (aCons (eVar 7) aNil)))))
 (sSeq (sIf (eTst (eBin inP (eVar 8) (eVar 3)))
 (sPut (eVar 3) (eVar 8) (eBin addP (eBin ixP (eVar 3) (eVar 8)) (eC (.int 1))))
 sNil)
 (sSet 4 (eBin addP (eVar 4) (eVar 8)))))))
noncomputable def W5:MS:=
 (sSeq (sSet 4 (eC (.str "")))
 (sSeq (sFor (iVal (eVar 0)) (mgName 5)
 WA)
 (sRet (eVar 4))))
noncomputable def Zn:MF:=fnM 9 W5
noncomputable def Zy:MS:=
 (sSeq (sSet 7 (eIf (eTst (eBin ltP (eVar 6) (eB lenP (aCons (eVar 1) aNil)))) (eBin modP (eBin mul2P (eBin ixP (eVar 1) (eVar 6)) (eC (.int 69621))) (eC (.int 99989))) (eC (.int 0))))
 (sSeq (sSetL 8 (lComp (iVal (eB listDP (aCons (eVar 2) aNil))) 1 [3] (mgName 0) (eTst (eBin ltP (eBin ixP (eVar 1) (eVar 0)) (eC (.int 2)))) (eVar 0)))
 (sSeq (sSetL 9 (lComp (iVal (eVar 8)) 1 [5,0,2] (mgName 0) (eTst (eBin eqP (eSl (eVar 2) (oSome (eVar 1)) (oSome (eBin addP (eVar 1) (eB lenP (aCons (eBin ixP (eVar 3) (eVar 0)) aNil))))) (eBin ixP (eVar 3) (eVar 0)))) (eVar 0)))
 (sSeq (sSet 10 (eBin addP (eBin addP (eVar 9) (eVar 9)) (eSto (lMk (aCons (eSl (eVar 0) (oSome (eVar 5)) (oSome (eBin addP (eVar 5) (eC (.int 1))))) aNil)))))
 (sSeq (sSet 11 (eBin ixP (eVar 10) (eBin modP (eVar 7) (eB lenP (aCons (eVar 10) aNil)))))
 (sSeq (sIf (eTst (eBin inP (eVar 11) (eVar 3)))
 (sPut (eVar 3) (eVar 11) (eBin addP (eBin ixP (eVar 3) (eVar 11)) (eC (.int 1))))
 sNil)
 (sSeq (sSet 4 (eBin addP (eVar 4) (eVar 11)))
 (sSet 5 (eBin addP (eVar 5) (eB lenP (aCons (eGet (eVar 2) (eVar 11) (eVar 11)) aNil)))))))))))
noncomputable def ZC:MS:=
 (sSeq (sSet 4 (eC (.str "")))
 (sSeq (sSet 5 (eC (.int 0)))
 (sSeq (sFor (iRange (aCons (eBin addP (eB lenP (aCons (eVar 0) aNil)) (eC (.int 4))) aNil)) (mgName 6)
 Zy)
 (sRet (eBin addP (eVar 4) (eSl (eVar 0) (oSome (eVar 5)) oNone))))))
noncomputable def YG:MF:=fnM 12 ZC
noncomputable def WI:MS:=
 (sSeq (sPut (eVar 11) (eBin ixP (eVar 10) (eVar 13)) (eCall 3 Zs (aCons (eCall 2 Yo (aCons (eVar 0) (aCons (eBin addP (eC (.int 2)) (eVar 13)) aNil))) (aCons (eVar 9) (aCons (eVar 3) aNil)))))
 (sPut (eVar 12) (eBin ixP (eVar 10) (eVar 13)) (eC (.int 0))))
noncomputable def WP:MS:=
 (sSeq (sSet 16 (eSl3 (eVar 0) (oSome (eBin addP (eBin addP (eC (.int 2)) (eB lenP (aCons (eVar 10) aNil))) (eVar 13))) (oSome (eC (.int 63))) (oSome (eVar 14))))
 (sSeq (sSet 17 (eBin addP (eC (.int 1)) (eBin modP (eBin fdivP (eVar 8) (eC (.int 6))) (eVar 4))))
 (sSeq (sSet 18 (eCall 4 Zn (aCons (eSl (eVar 16) oNone (oSome (eVar 17))) (aCons (eVar 9) (aCons (eVar 11) (aCons (eVar 12) aNil))))))
 (sSeq (sSet 19 (eCall 2 Yy (aCons (eVar 18) (aCons (eVar 11) aNil))))
 (sSeq (sSet 20 (eCall 4 YG (aCons (eVar 19) (aCons (eSl (eVar 16) (oSome (eVar 17)) oNone) (aCons (eVar 11) (aCons (eVar 12) aNil))))))
 (sSeq (sIf (eTst (eBin eqP (eBin modP (eBin fdivP (eVar 7) (eC (.int 18))) (eC (.int 2))) (eC (.int 1))))
 (sPar 18 20 (aCons (eVar 20) (aCons (eVar 18) aNil)))
 sNil)
 (sDrop (eM isLst appendP (eVar 15) (aCons (eTup (aCons (eVar 18) (aCons (eVar 20) aNil))) aNil)))))))))
noncomputable def WM:MS:=
 (sSeq (sTup (eM isLst popP (eVar 15) aNil) (mgTup 2 (mgCons (mgName 18) (mgCons (mgName 20) mgNil))))
 (sSet 17 (eBin subP (eBin subP (eVar 17) (eB lenP (aCons (eVar 18) aNil))) (eB lenP (aCons (eVar 20) aNil)))))
noncomputable def W2:MS:=
 (sSeq (sTup (eVar 1) (mgTup 5 (mgCons (mgName 2) (mgCons (mgName 3) (mgCons (mgName 4) (mgCons (mgName 5) (mgCons (mgName 6) mgNil)))))))
 (sSeq (sSet 7 (eCall 2 Yo (aCons (eVar 0) (aCons (eC (.int 0)) aNil))))
 (sSeq (sSet 8 (eCall 2 Yo (aCons (eVar 0) (aCons (eC (.int 1)) aNil))))
 (sSeq (sSet 9 (eCall 3 Y7 (aCons (eBin fdivP (eVar 7) (eC (.int 36))) (aCons (eBin addP (eC (.int 1)) (eBin modP (eVar 7) (eC (.int 3)))) (aCons (eC (.str "abcdefghijklmnopqrstuvwxyz")) aNil)))))
 (sSeq (sSet 10 (eCall 3 Y7 (aCons (eBin fdivP (eVar 8) (eC (.int 72))) (aCons (eBin addP (eC (.int 1)) (eBin modP (eBin fdivP (eVar 7) (eC (.int 3))) (eVar 2))) (aCons (eC (.str "ABCDEFGHIJKLMNOPQRSTUVWXYZ")) aNil)))))
 (sSeq (sSet 11 eDict0)
 (sSeq (sSet 12 eDict0)
 (sSeq (sFor (iRange (aCons (eB lenP (aCons (eVar 10) aNil)) aNil)) (mgName 13)
 WI)
 (sSeq (sSet 14 (eBin addP (eC (.int 1)) (eBin modP (eVar 8) (eVar 5))))
 (sSeq (sSet 15 (eSto (lMk aNil)))
 (sSeq (sFor (iRange (aCons (eVar 14) aNil)) (mgName 13)
 WP)
 (sSeq (sSet 17 (eB lenP (aCons (eJoinL (eC (.str "")) (lComp (iVal (eVar 15)) 2 [] (mgTup 2 (mgCons (mgName 0) (mgCons (mgName 1) mgNil))) nTrue (eBin addP (eVar 0) (eVar 1)))) aNil)))
 (sSeq (sWhile (eAndT (eTst (eBin gtP (eB lenP (aCons (eVar 15) aNil)) (eC (.int 1)))) (eTst (eBin gtP (eVar 17) (eVar 6))))
 WM)
 (sRet (eTup (aCons (eVar 15) (aCons (eVar 11) (aCons (eVar 9) aNil))))))))))))))))))
noncomputable def Y5:MF:=fnM 21 W2
noncomputable def WQ:MS:=
 (sSeq (sSet 1 (eC (.str "ABCDEFGHIJKLMNOPQRSTUVWXYZ")))
 (sSeq (sSet 2 (eJoinL (eC (.str "")) (lComp (iVal (eVar 0)) 2 [] (mgTup 2 (mgCons (mgName 0) (mgCons (mgName 1) mgNil))) nTrue (eBin addP (eVar 0) (eVar 1)))))
 (sRet (eJoinL (eC (.str "")) (lComp (iVal (eVar 1)) 1 [2] (mgName 0) (eTst (eBin inP (eVar 0) (eVar 1))) (eVar 0))))))
noncomputable def Y9:MF:=fnM 3 WQ
noncomputable def Z8:MS:=
 (sSet 4 (eBin addP (eVar 4) (eC (.int 1))))
noncomputable def Wb:MS:=
 (sSeq (sSet 4 (eC (.int 0)))
 (sSeq (sWhile (eAndT (eTst (eBin ltP (eVar 4) (eB minP (aCons (eB lenP (aCons (eVar 2) aNil)) (aCons (eB lenP (aCons (eVar 3) aNil)) aNil))))) (eTst (eBin eqP (eBin ixP (eVar 2) (eVar 4)) (eBin ixP (eVar 3) (eVar 4)))))
 Z8)
 (sIf (eOrT (eTst (eBin neP (eSl (eVar 2) (oSome (eVar 4)) oNone) (eC (.str "")))) (eTst (eBin neP (eSl (eVar 3) (oSome (eVar 4)) oNone) (eC (.str "")))))
 (sDrop (eM isLst appendP (eVar 1) (aCons (eTup (aCons (eSl (eVar 2) (oSome (eVar 4)) oNone) (aCons (eSl (eVar 3) (oSome (eVar 4)) oNone) aNil))) aNil)))
 sNil)))
noncomputable def WF:MS:=
 (sSeq (sSet 1 (eSto (lMk aNil)))
 (sSeq (sFor (iVal (eVar 0)) (mgTup 2 (mgCons (mgName 2) (mgCons (mgName 3) mgNil)))
 Wb)
 (sRet (eB tupleP (aCons (eVar 1) aNil)))))
noncomputable def Yp:MF:=fnM 5 WF
noncomputable def WG:MS:=
 (sIf (eAndT (eTst (eBin neP (eVar 1) (eC (.str "")))) (eTst (eBin neP (eVar 2) (eC (.str "")))))
 (sIf (eAndT (eTru (eM isStr islowerP (eBin ixP (eVar 1) (eC (.int 0))) aNil)) (eTru (eM isStr islowerP (eBin ixP (eVar 2) (eC (.int 0))) aNil)))
 (sRet (eC (.bl true)))
 sNil)
 (sIf (eTst (eBin neP (eSto (lComp (iVal (eBin addP (eVar 1) (eVar 2))) 1 [] (mgName 0) (eTru (eM isStr islowerP (eVar 0) aNil)) (eVar 0))) (eSto (lMk aNil))))
 (sRet (eC (.bl true)))
 sNil))
noncomputable def Vo:MS:=
 (sSeq (sFor (iVal (eBin ixP (eVar 0) (eC (.int 1)))) (mgTup 2 (mgCons (mgName 1) (mgCons (mgName 2) mgNil)))
 WG)
 (sRet (eC (.bl false))))
noncomputable def Zq:MF:=fnM 3 Vo
noncomputable def Wu:MS:=
 (sSeq (sIf (eOrT (eTst (eBin eqP (eBin ixP (eVar 0) (eC (.int 1))) (eTup aNil))) (eTru (eCall 1 Zq (aCons (eVar 0) aNil))))
 (sRet (eTup aNil))
 sNil)
 (sSeq (sTup (eBin ixP (eBin ixP (eVar 0) (eC (.int 1))) (eC (.int 0))) (mgTup 2 (mgCons (mgName 1) (mgCons (mgName 2) mgNil))))
 (sSeq (sIf (eOrT (eTst (eBin eqP (eVar 1) (eC (.str "")))) (eTst (eBin eqP (eVar 2) (eC (.str "")))))
 (sRet (eTup (aCons (eTup (aCons (eC (.str "none")) (aCons (eBin ixP (eBin addP (eVar 1) (eVar 2)) (eC (.int 0))) aNil))) aNil)))
 sNil)
 (sSeq (sSet 3 (eBin ixP (eVar 1) (eC (.int 0))))
 (sSeq (sSet 4 (eBin ixP (eVar 2) (eC (.int 0))))
 (sSeq (sIf (eTru (eM isStr islowerP (eVar 4) aNil))
 (sRet (eTup (aCons (eTup (aCons (eC (.str "none")) (aCons (eVar 3) aNil))) (aCons (eTup (aCons (eC (.str "sign")) (aCons (eVar 3) (aCons (eVar 4) aNil)))) aNil))))
 sNil)
 (sSeq (sIf (eTru (eM isStr islowerP (eVar 3) aNil))
 (sRet (eTup (aCons (eTup (aCons (eC (.str "none")) (aCons (eVar 4) aNil))) (aCons (eTup (aCons (eC (.str "sign")) (aCons (eVar 4) (aCons (eVar 3) aNil)))) aNil))))
 sNil)
 (sRet (eTup (aCons (eTup (aCons (eC (.str "none")) (aCons (eVar 3) aNil))) (aCons (eTup (aCons (eC (.str "none")) (aCons (eVar 4) aNil))) (aCons (eTup (aCons (eC (.str "over")) (aCons (eVar 3) (aCons (eVar 4) aNil)))) (aCons (eTup (aCons (eC (.str "over")) (aCons (eVar 4) (aCons (eVar 3) aNil)))) aNil)))))))))))))
noncomputable def Yx:MF:=fnM 5 Wu
noncomputable def YZ:MS:=
 (sDrop (eM isLst appendP (eVar 6) (aCons (eTup (aCons (eCall 2 Yy (aCons (eVar 7) (aCons (eVar 5) aNil))) (aCons (eCall 2 Yy (aCons (eVar 8) (aCons (eVar 5) aNil))) aNil))) aNil)))
noncomputable def Z0:MS:=
 (sSeq (sTup (eVar 0) (mgTup 2 (mgCons (mgName 2) (mgCons (mgName 3) mgNil))))
 (sSeq (sSet 4 (eC (.str "")))
 (sSeq (sIf (eTst (eBin eqP (eBin ixP (eVar 1) (eC (.int 0))) (eC (.str "none"))))
 (sSet 2 (eJoinL (eC (.str "")) (lComp (iVal (eVar 2)) 1 [1] (mgName 0) (eTst (eBin neP (eVar 0) (eBin ixP (eVar 1) (eC (.int 1))))) (eVar 0))))
 (sSet 4 (eBin addP (eBin ixP (eVar 1) (eC (.int 2))) (eBin ixP (eVar 1) (eC (.int 1))))))
 (sSeq (sSet 5 eDict0)
 (sSeq (sPut (eVar 5) (eBin ixP (eVar 1) (eC (.int 1))) (eVar 4))
 (sSeq (sSet 6 (eSto (lMk aNil)))
 (sSeq (sFor (iVal (eVar 3)) (mgTup 2 (mgCons (mgName 7) (mgCons (mgName 8) mgNil)))
 YZ)
 (sRet (eTup (aCons (eVar 2) (aCons (eCall 1 Yp (aCons (eVar 6) aNil)) aNil)))))))))))
noncomputable def Yu:MF:=fnM 9 Z0
noncomputable def ZV:MS:=
 (sSeq (sSet 6 (eCall 1 Yx (aCons (eVar 4) aNil)))
 (sSeq (sIf (eTst (eBin eqP (eVar 6) (eTup aNil)))
 (sSet 4 (eVar 2))
 (sSet 4 (eCall 2 Yu (aCons (eVar 4) (aCons (eBin ixP (eVar 6) (eBin modP (eBin modP (eBin mul2P (eVar 5) (eC (.int 16807))) (eC (.int 99971))) (eB lenP (aCons (eVar 6) aNil)))) aNil)))))
 (sIf (eTst (eBin notIn6P (eVar 4) (eVar 3)))
 (sDrop (eM isLst appendP (eVar 3) (aCons (eVar 4) aNil)))
 sNil)))
noncomputable def Wa:MS:=
 (sSeq (sSet 2 (eTup (aCons (eCall 1 Y9 (aCons (eVar 0) aNil)) (aCons (eCall 1 Yp (aCons (eVar 0) aNil)) aNil))))
 (sSeq (sSet 3 (eSto (lMk (aCons (eVar 2) aNil))))
 (sSeq (sSet 4 (eVar 2))
 (sSeq (sFor (iVal (eVar 1)) (mgName 5)
 ZV)
 (sRet (eVar 3))))))
noncomputable def YS:MF:=fnM 7 Wa
noncomputable def Wc:MS:=
 (sPutD (eVar 2) (eVar 3) (eC (.bl true)))
noncomputable def ZF:MS:=
 (sSeq (sSet 6 (eCall 2 Yu (aCons (eBin ixP (eVar 1) (eVar 4)) (aCons (eVar 5) aNil))))
 (sIf (eAndT (eTst (eBin notInDP (eVar 6) (eVar 2))) (eTst (eBin neP (eBin ixP (eVar 6) (eC (.int 1))) (eTup aNil))))
 (sSeq (sPutD (eVar 2) (eVar 6) (eC (.bl true)))
 (sDrop (eM isLst appendP (eVar 1) (aCons (eVar 6) aNil))))
 sNil))
noncomputable def Zg:MS:=
 (sSeq (sFor (iVal (eCall 1 Yx (aCons (eBin ixP (eVar 1) (eVar 4)) aNil))) (mgName 5)
 ZF)
 (sSet 4 (eBin addP (eVar 4) (eC (.int 1)))))
noncomputable def WJ:MS:=
 (sSeq (sSet 1 (eB listDP (aCons (eVar 0) aNil)))
 (sSeq (sSet 2 eDictD0)
 (sSeq (sFor (iVal (eVar 1)) (mgName 3)
 Wc)
 (sSeq (sSet 4 (eC (.int 0)))
 (sSeq (sWhile (eAndT (eTst (eBin ltP (eVar 4) (eB lenP (aCons (eVar 1) aNil)))) (eTst (eBin ltP (eB lenP (aCons (eVar 1) aNil)) (eC (.int 100)))))
 Zg)
 (sRet (eVar 1)))))))
noncomputable def Zb:MF:=fnM 7 WJ
noncomputable def YaC:MS:=
 (sIf (eTst (eBin isNotBP (eCall 2 ZQ (aCons (eVar 4) (aCons (eB tupleP (aCons (eVar 9) aNil)) aNil))) (eC (.bl false))))
 (sRet (eC (.bl false)))
 sNil)
noncomputable def YgV:MS:=
 (sSeq (sTup (eCall 2 Y5 (aCons (eVar 0) (aCons (eTup (aCons (eC (.int 3)) (aCons (eC (.int 6)) (aCons (eC (.int 3)) (aCons (eC (.int 2)) (aCons (eC (.int 36)) aNil)))))) aNil))) (mgTup 3 (mgCons (mgName 1) (mgCons (mgName 2) (mgCons (mgName 3) mgNil)))))
 (sSeq (sSet 4 (eB tupleP (aCons (eVar 1) aNil)))
 (sSeq (sSet 5 (eCall 2 YS (aCons (eVar 4) (aCons (eSl (eVar 0) oNone (oSome (eC (.int 60)))) aNil))))
 (sSeq (sSetL 6 (lComp (iVal (eVar 5)) 1 [] (mgName 0) (eTst (eBin neP (eBin ixP (eVar 0) (eC (.int 1))) (eTup aNil))) (eVar 0)))
 (sSeq (sSet 7 (eCall 1 Zb (aCons (eVar 6) aNil)))
 (sSeq (sSet 8 (eTupL (lComp (iVal (eVar 4)) 2 [] (mgTup 2 (mgCons (mgName 0) (mgCons (mgName 1) mgNil))) nTrue (eTup (aCons (eSl (eVar 0) oNone (oSome (eNeg (eC (.int 1))))) (aCons (eVar 1) aNil))))))
 (sSeq (sFor (iVal (eSto (lMk (aCons (eVar 5) (aCons (eVar 6) (aCons (eVar 7) (aCons (eBin addP (eVar 7) (eCall 2 YS (aCons (eVar 8) (aCons (eSl (eVar 0) oNone (oSome (eC (.int 20)))) aNil)))) (aCons (eSl3 (eVar 7) oNone oNone (oSome (eNeg (eC (.int 1))))) aNil)))))))) (mgName 9)
 YaC)
 (sRet (eC (.bl true))))))))))
noncomputable def Ydl:MF:=fnM 10 YgV
section
variable{P':Program}{w:World}{K:PySem.W.Frag}{mg:Str->Option Value}{base:Heap}
structure Own(K:PySem.W.Frag)(mg:Str->Option Value):Prop where
 z_all:mg "all"=none
 z_any:mg "any"=none
 z_dict:mg "dict"=none
 z_len:mg "len"=none
 z_list:mg "list"=none
 z_min:mg "min"=none
 z_range:mg "range"=none
 z_set:mg "set"=none
 z_sorted:mg "sorted"=none
 z_tuple:mg "tuple"=none
theorem Yaz:FnScope ["letter"] ["letter"] (defScope (top 1)):=⟨rfl,rfl,rfl,by decide +kernel,rfl,by decide +kernel,by decide +kernel⟩
theorem YeH(kV doc pm:Value)(an:Option Addr)(cdv ct:Value)(us:List Value)(hl:us.length=(["letter"]:List Str).length):bindArgs (PySem.W.fnOf "is_sign" "is_sign" (defArgs (top 1)) (defBody (top 1)) (defScope (top 1)) .none kV doc pm an cdv ct) ⟨us,[]⟩=pure ((["letter"]:List Str).zip us):=by
 match us,hl with
 | [_],_=>exact rfl
theorem Yed(T:Top K mg)(O:Own K mg)(D:DefAt K "is_sign" (top 1))  :Fn P' w K mg base "is_sign" 1 ["letter"] YN:=by
 refine @YD P' w K mg base "is_sign" (top 1) ["letter"] ["letter"] 0 JB T D Yaz YeH ?_
 intro f cdv A outer s H E hr
 have hu:=YA hr
 have hu8:=Ym hr
 have sc:=Yaz
 refine Yc ?_
 refine Yh ?_
 refine Yd5 ?_ ?_ ?_ ?_ ?_
 exact Ye7
 exact Ye7
 exact Yf
 exact (jv 0)
 exact Yf
theorem VG:FnScope ["letter"] ["letter"] (defScope (top 2)):=⟨rfl,rfl,rfl,by decide +kernel,rfl,by decide +kernel,by decide +kernel⟩
theorem Ybx(kV doc pm:Value)(an:Option Addr)(cdv ct:Value)(us:List Value)(hl:us.length=(["letter"]:List Str).length):bindArgs (PySem.W.fnOf "is_unknown" "is_unknown" (defArgs (top 2)) (defBody (top 2)) (defScope (top 2)) .none kV doc pm an cdv ct) ⟨us,[]⟩=pure ((["letter"]:List Str).zip us):=by
 match us,hl with
 | [_],_=>exact rfl
theorem Ybl(T:Top K mg)(O:Own K mg)(D:DefAt K "is_unknown" (top 2))  :Fn P' w K mg base "is_unknown" 1 ["letter"] YW:=by
 refine @YD P' w K mg base "is_unknown" (top 2) ["letter"] ["letter"] 0 WK T D VG Ybx ?_
 intro f cdv A outer s H E hr
 have hu:=YA hr
 have hu8:=Ym hr
 have sc:=VG
 refine Yc ?_
 refine Yh ?_
 refine Yd5 ?_ ?_ ?_ ?_ ?_
 exact Ye7
 exact Ye7
 exact Yf
 exact (jv 0)
 exact Yf
theorem Vx:FnScope ["system"] ["system"] (defScope (top 3)):=⟨rfl,rfl,rfl,by decide +kernel,rfl,by decide +kernel,by decide +kernel⟩
theorem Ybp(kV doc pm:Value)(an:Option Addr)(cdv ct:Value)(us:List Value)(hl:us.length=(["system"]:List Str).length):bindArgs (PySem.W.fnOf "letters_of" "letters_of" (defArgs (top 3)) (defBody (top 3)) (defScope (top 3)) .none kV doc pm an cdv ct) ⟨us,[]⟩=pure ((["system"]:List Str).zip us):=by
 match us,hl with
 | [_],_=>exact rfl
theorem Ybt(T:Top K mg)(O:Own K mg)(D:DefAt K "letters_of" (top 3))  :Fn P' w K mg base "letters_of" 1 ["system"] Y8:=by
 refine @YD P' w K mg base "letters_of" (top 3) ["system"] ["system"] 0 Ww T D Vx Ybp ?_
 intro f cdv A outer s H E hr
 have hu:=YA hr
 have hu8:=Ym hr
 have sc:=Vx
 refine Yc ?_
 refine Yh ?_
 refine ZW ?_ ?_
 exact Yf
 refine YL (TN:=["left","right"]) (FN:=[]) (fr:=[]) ?_ ?_ ?_ ?_ ?_
 exact rfl
 exact (Yr ["left","right"] [] [] (by rfl))
 refine Ys ?_
 exact (jv 0)
 exact (Va (YE (Yi (by decide)) (YE (Yi (by decide)) Z4)))
 intro C s₀ H₀ ex
 refine⟨?_,?_,?_⟩
 refine Zf ?_ ?_
 exact rfl
 walk_at "D"
 walk_at "A"
 show (["left","right"]:List Str).Nodup;decide +kernel
 exact rfl
 walk_at "1"
 walk_at "D"
 walk_at "A"
 show (["left","right"]:List Str).Nodup;decide +kernel
 exact rfl
 walk_at "1"
 exact YT
 exact YY
 walk_at "4"
 exact Yk
 exact (jv 0)
 exact (jv 1)
theorem Yb0:FnScope ["letters"] ["letters"] (defScope (top 4)):=⟨rfl,rfl,rfl,by decide +kernel,rfl,by decide +kernel,by decide +kernel⟩
theorem Ygn(kV doc pm:Value)(an:Option Addr)(cdv ct:Value)(us:List Value)(hl:us.length=(["letters"]:List Str).length):bindArgs (PySem.W.fnOf "rising" "rising" (defArgs (top 4)) (defBody (top 4)) (defScope (top 4)) .none kV doc pm an cdv ct) ⟨us,[]⟩=pure ((["letters"]:List Str).zip us):=by
 match us,hl with
 | [_],_=>exact rfl
theorem Yf9(T:Top K mg)(O:Own K mg)(D:DefAt K "rising" (top 4))  :Fn P' w K mg base "rising" 1 ["letters"] Wn:=by
 have z_set:=O.z_set
 have z_sorted:=O.z_sorted
 refine @YD P' w K mg base "rising" (top 4) ["letters"] ["letters"] 0 YaV T D Yb0 Ygn ?_
 intro f cdv A outer s H E hr
 have hu:=YA hr
 have hu8:=Ym hr
 have sc:=Yb0
 refine Yc ?_
 refine Yh ?_
 refine ZW ?_ ?_
 exact Yf
 refine YdY ?_ ?_ ?_ ?_ ?_ ?_ ?_ ?_
 exact rfl
 exact rfl
 exact z_sorted
 exact Ygj
 exact rfl
 exact z_set
 exact Yki
 exact (jv 0)
theorem JZ:FnScope ["system"] ["system"] (defScope (top 5)):=⟨rfl,rfl,rfl,by decide +kernel,rfl,by decide +kernel,by decide +kernel⟩
theorem Ydx(kV doc pm:Value)(an:Option Addr)(cdv ct:Value)(us:List Value)(hl:us.length=(["system"]:List Str).length):bindArgs (PySem.W.fnOf "names_of" "names_of" (defArgs (top 5)) (defBody (top 5)) (defScope (top 5)) .none kV doc pm an cdv ct) ⟨us,[]⟩=pure ((["system"]:List Str).zip us):=by
 match us,hl with
 | [_],_=>exact rfl
theorem Ydk(T:Top K mg)(O:Own K mg)(D:DefAt K "names_of" (top 5)) (F_is_unknown:Fn P' w K mg base "is_unknown" 1 ["letter"] YW) (F_letters_of:Fn P' w K mg base "letters_of" 1 ["system"] Y8) (F_rising:Fn P' w K mg base "rising" 1 ["letters"] Wn):Fn P' w K mg base "names_of" 2 ["system"] Zl:=by
 refine @YD P' w K mg base "names_of" (top 5) ["system"] ["system"] 1 VX T D JZ Ydx ?_
 intro f cdv A outer s H E hr
 have hu:=YA hr
 have hu8:=Ym hr
 have sc:=JZ
 refine Yc ?_
 refine Yh ?_
 refine Yl (ps:=["letters"]) (k:=1) ?_ ?_ ?_ ?_
 exact F_rising
 walk_at "E"
 exact rfl
 walk_at "2"
 refine ZN ?_
 refine YL (TN:=["letter"]) (FN:=[]) (fr:=[]) ?_ ?_ ?_ ?_ ?_
 exact rfl
 exact (Yr ["letter"] [] [] (by rfl))
 refine Ys ?_
 refine Yl (ps:=["system"]) (k:=1) ?_ ?_ ?_ ?_
 exact F_letters_of
 walk_at "E"
 exact rfl
 walk_at "2"
 exact (jv 0)
 exact Ya
 exact (Yi (by decide))
 intro C s₀ H₀ ex
 refine⟨?_,?_,?_⟩
 walk_at "A"
 show (["letter"]:List Str).Nodup;decide +kernel
 exact rfl
 walk_at "1"
 refine ZO ?_
 refine ZK ?_ ?_
 refine Yl (ps:=["letter"]) (k:=1) ?_ ?_ ?_ ?_
 exact F_is_unknown
 walk_at "E"
 exact rfl
 walk_at "2"
 exact (jv 0)
 exact Ya
 exact (fun _=>rfl)
 exact (jv 0)
 exact Ya
theorem ZG:FnScope ["left","right","alike"] ["left","right"] (defScope (top 7)):=⟨rfl,rfl,rfl,by decide +kernel,rfl,by decide +kernel,by decide +kernel⟩
theorem Vj(kV doc pm:Value)(an:Option Addr)(cdv ct:Value)(us:List Value)(hl:us.length=(["left","right"]:List Str).length):bindArgs (PySem.W.fnOf "without_beginning" "without_beginning" (defArgs (top 7)) (defBody (top 7)) (defScope (top 7)) .none kV doc pm an cdv ct) ⟨us,[]⟩=pure ((["left","right"]:List Str).zip us):=by
 match us,hl with
 | [_,_],_=>exact rfl
theorem W8(T:Top K mg)(O:Own K mg)(D:DefAt K "without_beginning" (top 7))  :Fn P' w K mg base "without_beginning" 1 ["left","right"] Yj:=by
 have z_len:=O.z_len
 have z_min:=O.z_min
 refine @YD P' w K mg base "without_beginning" (top 7) ["left","right","alike"] ["left","right"] 0 Ze T D ZG Vj ?_
 intro f cdv A outer s H E hr
 have hu:=YA hr
 have hu8:=Ym hr
 have sc:=ZG
 walk_at "3"
 walk_at "8"
 exact sc.nd
 exact rfl
 walk_at "1"
 exact Yb
 walk_at "3"
 refine Jk ?_ ?_ ?_
 exact PassesOwn.never
 refine L2.PW.pt ?_
 refine VN ?_ ?_
 walk_at "C"
 exact J9
 exact (jv 2)
 refine je_B (id:="min") ?_ ?_ ?_ ?_ ?_
 exact (Yh4 rfl)
 exact rfl
 exact z_min
 exact Yit
 walk_at "2"
 refine je_B (id:="len") ?_ ?_ ?_ ?_ ?_
 exact YJ
 exact rfl
 exact z_len
 exact YI
 walk_at "2"
 exact (jv 0)
 exact Ya
 walk_at "2"
 refine je_B (id:="len") ?_ ?_ ?_ ?_ ?_
 exact YJ
 exact rfl
 exact z_len
 exact YI
 walk_at "2"
 exact (jv 1)
 exact Ya
 exact Ya
 exact (nomark _)
 refine Wy ?_
 walk_at "C"
 exact (ZT hu8)
 walk_at "7"
 exact hu
 exact (jv 0)
 exact (jv 2)
 walk_at "6"
 walk_at "7"
 exact hu
 exact (jv 1)
 exact (jv 2)
 walk_at "6"
 exact (nomark _)
 refine Yc ?_
 walk_at "8"
 exact sc.nd
 exact rfl
 walk_at "1"
 walk_at "4"
 exact Yk
 exact (jv 2)
 exact Yb
 refine Yc ?_
 refine Yh ?_
 refine Yg ?_
 walk_at "2"
 refine YR ?_ ?_ ?_
 exact (jv 0)
 refine Yz ?_
 exact (jv 2)
 exact Y1
 walk_at "2"
 refine YR ?_ ?_ ?_
 exact (jv 1)
 refine Yz ?_
 exact (jv 2)
 exact Y1
 exact Ya
theorem J3:FnScope ["equations","rests"] ["equations"] (defScope (top 8)):=⟨rfl,rfl,rfl,by decide +kernel,rfl,by decide +kernel,by decide +kernel⟩
theorem Yc6(kV doc pm:Value)(an:Option Addr)(cdv ct:Value)(us:List Value)(hl:us.length=(["equations"]:List Str).length):bindArgs (PySem.W.fnOf "stripped" "stripped" (defArgs (top 8)) (defBody (top 8)) (defScope (top 8)) .none kV doc pm an cdv ct) ⟨us,[]⟩=pure ((["equations"]:List Str).zip us):=by
 match us,hl with
 | [_],_=>exact rfl
theorem YdQ(T:Top K mg)(O:Own K mg)(D:DefAt K "stripped" (top 8)) (F_without_beginning:Fn P' w K mg base "without_beginning" 1 ["left","right"] Yj):Fn P' w K mg base "stripped" 2 ["equations"] YC:=by
 have z_tuple:=O.z_tuple
 refine @YD P' w K mg base "stripped" (top 8) ["equations","rests"] ["equations"] 1 WR T D J3 Yc6 ?_
 intro f cdv A outer s H E hr
 have hu:=YA hr
 have hu8:=Ym hr
 have sc:=J3
 walk_at "3"
 refine ZD (TN:=["left","right"]) (FN:=[]) (fr:=[]) ?_ ?_ ?_ ?_ ?_ ?_ ?_ ?_
 exact sc.nd
 exact rfl
 walk_at "1"
 exact rfl
 exact (Yr ["left","right"] [] [] (by rfl))
 refine Ys ?_
 exact (jv 0)
 exact (Va (YE (Yi (by decide)) (YE (Yi (by decide)) Z4)))
 intro C s₀ H₀ ex
 refine⟨?_,?_,?_⟩
 refine Zf ?_ ?_
 exact rfl
 walk_at "D"
 walk_at "A"
 show (["left","right"]:List Str).Nodup;decide +kernel
 exact rfl
 walk_at "1"
 walk_at "D"
 walk_at "A"
 show (["left","right"]:List Str).Nodup;decide +kernel
 exact rfl
 walk_at "1"
 exact YT
 exact YY
 refine Yl (ps:=["left","right"]) (k:=1) ?_ ?_ ?_ ?_
 exact F_without_beginning
 walk_at "E"
 exact rfl
 walk_at "2"
 exact (jv 0)
 walk_at "2"
 exact (jv 1)
 exact Ya
 refine Yc ?_
 refine Yh ?_
 refine YbQ ?_ ?_ ?_ ?_
 exact rfl
 exact z_tuple
 exact Vb
 refine YL (TN:=["rest"]) (FN:=[]) (fr:=[]) ?_ ?_ ?_ ?_ ?_
 exact rfl
 exact (Yr ["rest"] [] [] (by rfl))
 refine Ys ?_
 exact (jv 1)
 exact (Yi (by decide))
 intro C s₀ H₀ ex
 refine⟨?_,?_,?_⟩
 walk_at "A"
 show (["rest"]:List Str).Nodup;decide +kernel
 exact rfl
 walk_at "1"
 refine ZO ?_
 walk_at "C"
 exact (Jc hu8)
 exact (jv 0)
 refine Yg ?_
 walk_at "2"
 exact Yf
 walk_at "2"
 exact Yf
 exact Ya
 exact (nomark _)
 exact (jv 0)
theorem VE:FnScope ["system"] ["system"] (defScope (top 9)):=⟨rfl,rfl,rfl,by decide +kernel,rfl,by decide +kernel,by decide +kernel⟩
theorem Ybu(kV doc pm:Value)(an:Option Addr)(cdv ct:Value)(us:List Value)(hl:us.length=(["system"]:List Str).length):bindArgs (PySem.W.fnOf "first_room" "first_room" (defArgs (top 9)) (defBody (top 9)) (defScope (top 9)) .none kV doc pm an cdv ct) ⟨us,[]⟩=pure ((["system"]:List Str).zip us):=by
 match us,hl with
 | [_],_=>exact rfl
theorem Ybm(T:Top K mg)(O:Own K mg)(D:DefAt K "first_room" (top 9)) (F_names_of:Fn P' w K mg base "names_of" 2 ["system"] Zl) (F_stripped:Fn P' w K mg base "stripped" 2 ["equations"] YC):Fn P' w K mg base "first_room" 3 ["system"] Za:=by
 refine @YD P' w K mg base "first_room" (top 9) ["system"] ["system"] 2 Ws T D VE Ybu ?_
 intro f cdv A outer s H E hr
 have hu:=YA hr
 have hu8:=Ym hr
 have sc:=VE
 refine Yc ?_
 refine Yh ?_
 refine Yg ?_
 walk_at "2"
 refine Yl (ps:=["system"]) (k:=2) ?_ ?_ ?_ ?_
 exact F_names_of
 walk_at "E"
 exact rfl
 walk_at "2"
 exact (jv 0)
 exact Ya
 walk_at "2"
 refine Yl (ps:=["equations"]) (k:=2) ?_ ?_ ?_ ?_
 exact F_stripped
 walk_at "E"
 exact rfl
 walk_at "2"
 exact (jv 0)
 exact Ya
 exact Ya
theorem JY:FnScope ["room"] ["room"] (defScope (top 10)):=⟨rfl,rfl,rfl,by decide +kernel,rfl,by decide +kernel,by decide +kernel⟩
theorem YdM(kV doc pm:Value)(an:Option Addr)(cdv ct:Value)(us:List Value)(hl:us.length=(["room"]:List Str).length):bindArgs (PySem.W.fnOf "is_ended" "is_ended" (defArgs (top 10)) (defBody (top 10)) (defScope (top 10)) .none kV doc pm an cdv ct) ⟨us,[]⟩=pure ((["room"]:List Str).zip us):=by
 match us,hl with
 | [_],_=>exact rfl
theorem YdL(T:Top K mg)(O:Own K mg)(D:DefAt K "is_ended" (top 10))  :Fn P' w K mg base "is_ended" 1 ["room"] YV:=by
 have z_len:=O.z_len
 refine @YD P' w K mg base "is_ended" (top 10) ["room"] ["room"] 0 VV T D JY YdM ?_
 intro f cdv A outer s H E hr
 have hu:=YA hr
 have hu8:=Ym hr
 have sc:=JY
 refine Yc ?_
 refine Yh ?_
 refine Yex ?_ ?_ ?_ ?_
 exact (ZT hu8)
 refine je_B (id:="len") ?_ ?_ ?_ ?_ ?_
 exact YJ
 exact rfl
 exact z_len
 exact YI
 walk_at "2"
 walk_at "7"
 exact hu
 exact (jv 0)
 exact Yb
 walk_at "6"
 exact Ya
 exact Yb
 exact (nomark _)
theorem Yaa:FnScope ["side"] ["side"] (defScope (top 11)):=⟨rfl,rfl,rfl,by decide +kernel,rfl,by decide +kernel,by decide +kernel⟩
theorem Yc8(kV doc pm:Value)(an:Option Addr)(cdv ct:Value)(us:List Value)(hl:us.length=(["side"]:List Str).length):bindArgs (PySem.W.fnOf "has_sign" "has_sign" (defArgs (top 11)) (defBody (top 11)) (defScope (top 11)) .none kV doc pm an cdv ct) ⟨us,[]⟩=pure ((["side"]:List Str).zip us):=by
 match us,hl with
 | [_],_=>exact rfl
theorem Ydf(T:Top K mg)(O:Own K mg)(D:DefAt K "has_sign" (top 11)) (F_is_sign:Fn P' w K mg base "is_sign" 1 ["letter"] YN):Fn P' w K mg base "has_sign" 2 ["side"] ZB:=by
 have z_any:=O.z_any
 refine @YD P' w K mg base "has_sign" (top 11) ["side"] ["side"] 1 VJ T D Yaa Yc8 ?_
 intro f cdv A outer s H E hr
 have hu:=YA hr
 have hu8:=Ym hr
 have sc:=Yaa
 refine Yc ?_
 refine Yh ?_
 refine Yfh ?_ ?_ ?_ ?_ ?_
 exact rfl
 exact rfl
 exact z_any
 exact Yh2
 refine YL (TN:=["letter"]) (FN:=[]) (fr:=[]) ?_ ?_ ?_ ?_ ?_
 exact rfl
 exact (Yr ["letter"] [] [] (by rfl))
 refine Ys ?_
 exact (jv 0)
 exact (Yi (by decide))
 intro C s₀ H₀ ex
 refine⟨?_,?_,?_⟩
 walk_at "A"
 show (["letter"]:List Str).Nodup;decide +kernel
 exact rfl
 walk_at "1"
 exact YY
 refine Yl (ps:=["letter"]) (k:=1) ?_ ?_ ?_ ?_
 exact F_is_sign
 walk_at "E"
 exact rfl
 walk_at "2"
 exact (jv 0)
 exact Ya
theorem Vz:FnScope ["left","right"] ["left","right"] (defScope (top 12)):=⟨rfl,rfl,rfl,by decide +kernel,rfl,by decide +kernel,by decide +kernel⟩
theorem Ybr(kV doc pm:Value)(an:Option Addr)(cdv ct:Value)(us:List Value)(hl:us.length=(["left","right"]:List Str).length):bindArgs (PySem.W.fnOf "is_against" "is_against" (defArgs (top 12)) (defBody (top 12)) (defScope (top 12)) .none kV doc pm an cdv ct) ⟨us,[]⟩=pure ((["left","right"]:List Str).zip us):=by
 match us,hl with
 | [_,_],_=>exact rfl
theorem Ybw(T:Top K mg)(O:Own K mg)(D:DefAt K "is_against" (top 12)) (F_has_sign:Fn P' w K mg base "has_sign" 2 ["side"] ZB) (F_is_sign:Fn P' w K mg base "is_sign" 1 ["letter"] YN):Fn P' w K mg base "is_against" 3 ["left","right"] Zc:=by
 refine @YD P' w K mg base "is_against" (top 12) ["left","right"] ["left","right"] 2 WL T D Vz Ybr ?_
 intro f cdv A outer s H E hr
 have hu:=YA hr
 have hu8:=Ym hr
 have sc:=Vz
 walk_at "3"
 refine Y0 ?_ ?_ ?_
 refine L2.PW.pt ?_
 refine Yb3 ?_ ?_
 walk_at "C"
 exact (ZT hu8)
 exact (jv 0)
 exact Yf
 exact (nomark _)
 refine JH ?_
 walk_at "C"
 exact (ZT hu8)
 exact (jv 1)
 exact Yf
 exact (nomark _)
 refine Yc ?_
 refine Yh ?_
 refine Yl (ps:=["side"]) (k:=2) ?_ ?_ ?_ ?_
 exact F_has_sign
 walk_at "E"
 exact rfl
 walk_at "2"
 walk_at "4"
 exact Yk
 exact (jv 0)
 exact (jv 1)
 exact Ya
 exact YB
 refine Yc ?_
 refine Yh ?_
 refine Yig ?_ ?_
 refine Yl (ps:=["letter"]) (k:=1) ?_ ?_ ?_ ?_
 exact F_is_sign
 walk_at "E"
 exact rfl
 walk_at "2"
 walk_at "7"
 exact hu
 exact (jv 0)
 exact Yb
 walk_at "6"
 exact Ya
 refine YgP ?_
 refine Yl (ps:=["letter"]) (k:=1) ?_ ?_ ?_ ?_
 exact F_is_sign
 walk_at "E"
 exact rfl
 walk_at "2"
 walk_at "7"
 exact hu
 exact (jv 1)
 exact Yb
 walk_at "6"
 exact Ya
theorem YaG:FnScope ["room"] ["room"] (defScope (top 13)):=⟨rfl,rfl,rfl,by decide +kernel,rfl,by decide +kernel,by decide +kernel⟩
theorem Yej(kV doc pm:Value)(an:Option Addr)(cdv ct:Value)(us:List Value)(hl:us.length=(["room"]:List Str).length):bindArgs (PySem.W.fnOf "is_dead" "is_dead" (defArgs (top 13)) (defBody (top 13)) (defScope (top 13)) .none kV doc pm an cdv ct) ⟨us,[]⟩=pure ((["room"]:List Str).zip us):=by
 match us,hl with
 | [_],_=>exact rfl
theorem Yeb(T:Top K mg)(O:Own K mg)(D:DefAt K "is_dead" (top 13)) (F_is_against:Fn P' w K mg base "is_against" 3 ["left","right"] Zc):Fn P' w K mg base "is_dead" 4 ["room"] ZP:=by
 have z_any:=O.z_any
 refine @YD P' w K mg base "is_dead" (top 13) ["room"] ["room"] 3 JJ T D YaG Yej ?_
 intro f cdv A outer s H E hr
 have hu:=YA hr
 have hu8:=Ym hr
 have sc:=YaG
 refine Yc ?_
 refine Yh ?_
 refine Yfh ?_ ?_ ?_ ?_ ?_
 exact rfl
 exact rfl
 exact z_any
 exact Yh2
 refine YL (TN:=["left","right"]) (FN:=[]) (fr:=[]) ?_ ?_ ?_ ?_ ?_
 exact rfl
 exact (Yr ["left","right"] [] [] (by rfl))
 refine Ys ?_
 walk_at "7"
 exact hu
 exact (jv 0)
 exact Yb
 walk_at "6"
 exact (Va (YE (Yi (by decide)) (YE (Yi (by decide)) Z4)))
 intro C s₀ H₀ ex
 refine⟨?_,?_,?_⟩
 refine Zf ?_ ?_
 exact rfl
 walk_at "D"
 walk_at "A"
 show (["left","right"]:List Str).Nodup;decide +kernel
 exact rfl
 walk_at "1"
 walk_at "D"
 walk_at "A"
 show (["left","right"]:List Str).Nodup;decide +kernel
 exact rfl
 walk_at "1"
 exact YT
 exact YY
 refine Yl (ps:=["left","right"]) (k:=3) ?_ ?_ ?_ ?_
 exact F_is_against
 walk_at "E"
 exact rfl
 walk_at "2"
 exact (jv 0)
 walk_at "2"
 exact (jv 1)
 exact Ya
theorem Wq:FnScope ["left","right"] ["left","right"] (defScope (top 15)):=⟨rfl,rfl,rfl,by decide +kernel,rfl,by decide +kernel,by decide +kernel⟩
theorem Jv(kV doc pm:Value)(an:Option Addr)(cdv ct:Value)(us:List Value)(hl:us.length=(["left","right"]:List Str).length):bindArgs (PySem.W.fnOf "steps_against" "steps_against" (defArgs (top 15)) (defBody (top 15)) (defScope (top 15)) .none kV doc pm an cdv ct) ⟨us,[]⟩=pure ((["left","right"]:List Str).zip us):=by
 match us,hl with
 | [_,_],_=>exact rfl
theorem JK(T:Top K mg)(O:Own K mg)(D:DefAt K "steps_against" (top 15)) (F_is_sign:Fn P' w K mg base "is_sign" 1 ["letter"] YN):Fn P' w K mg base "steps_against" 2 ["left","right"] YQ:=by
 refine @YD P' w K mg base "steps_against" (top 15) ["left","right"] ["left","right"] 1 ZM T D Wq Jv ?_
 intro f cdv A outer s H E hr
 have hu:=YA hr
 have hu8:=Ym hr
 have sc:=Wq
 walk_at "3"
 refine Y0 ?_ ?_ ?_
 refine L2.PW.pt ?_
 refine Yb3 ?_ ?_
 walk_at "C"
 exact (ZT hu8)
 exact (jv 0)
 exact Yf
 exact (nomark _)
 refine JH ?_
 walk_at "C"
 exact (ZT hu8)
 exact (jv 1)
 exact Yf
 exact (nomark _)
 refine Yc ?_
 refine Yh ?_
 refine Yg ?_
 walk_at "2"
 refine Yg ?_
 walk_at "2"
 exact Yf
 walk_at "2"
 walk_at "7"
 exact hu
 walk_at "4"
 exact Yk
 exact (jv 0)
 exact (jv 1)
 exact Yb
 walk_at "6"
 exact Ya
 exact Ya
 exact YB
 walk_at "3"
 refine Y0 ?_ ?_ ?_
 refine ZK ?_ ?_
 refine Yl (ps:=["letter"]) (k:=1) ?_ ?_ ?_ ?_
 exact F_is_sign
 walk_at "E"
 exact rfl
 walk_at "2"
 walk_at "7"
 exact hu
 exact (jv 0)
 exact Yb
 walk_at "6"
 exact Ya
 exact (fun _=>rfl)
 refine Yc ?_
 refine Yh ?_
 refine Yg ?_
 walk_at "2"
 refine Yg ?_
 walk_at "2"
 exact Yf
 walk_at "2"
 walk_at "7"
 exact hu
 exact (jv 1)
 exact Yb
 walk_at "6"
 exact Ya
 walk_at "2"
 refine Yg ?_
 walk_at "2"
 exact Yf
 walk_at "2"
 walk_at "7"
 exact hu
 exact (jv 1)
 exact Yb
 walk_at "6"
 walk_at "2"
 walk_at "7"
 exact hu
 exact (jv 0)
 exact Yb
 walk_at "6"
 exact Ya
 exact Ya
 exact YB
 walk_at "3"
 refine Y0 ?_ ?_ ?_
 refine ZK ?_ ?_
 refine Yl (ps:=["letter"]) (k:=1) ?_ ?_ ?_ ?_
 exact F_is_sign
 walk_at "E"
 exact rfl
 walk_at "2"
 walk_at "7"
 exact hu
 exact (jv 1)
 exact Yb
 walk_at "6"
 exact Ya
 exact (fun _=>rfl)
 refine Yc ?_
 refine Yh ?_
 refine Yg ?_
 walk_at "2"
 refine Yg ?_
 walk_at "2"
 exact Yf
 walk_at "2"
 walk_at "7"
 exact hu
 exact (jv 0)
 exact Yb
 walk_at "6"
 exact Ya
 walk_at "2"
 refine Yg ?_
 walk_at "2"
 exact Yf
 walk_at "2"
 walk_at "7"
 exact hu
 exact (jv 0)
 exact Yb
 walk_at "6"
 walk_at "2"
 walk_at "7"
 exact hu
 exact (jv 1)
 exact Yb
 walk_at "6"
 exact Ya
 exact Ya
 exact YB
 refine Yc ?_
 refine Yh ?_
 refine Yg ?_
 walk_at "2"
 refine Yg ?_
 walk_at "2"
 exact Yf
 walk_at "2"
 walk_at "7"
 exact hu
 exact (jv 0)
 exact Yb
 walk_at "6"
 exact Ya
 walk_at "2"
 refine Yg ?_
 walk_at "2"
 exact Yf
 walk_at "2"
 walk_at "7"
 exact hu
 exact (jv 1)
 exact Yb
 walk_at "6"
 exact Ya
 walk_at "2"
 refine Yg ?_
 walk_at "2"
 exact Yf
 walk_at "2"
 walk_at "7"
 exact hu
 exact (jv 0)
 exact Yb
 walk_at "6"
 walk_at "2"
 walk_at "7"
 exact hu
 exact (jv 1)
 exact Yb
 walk_at "6"
 exact Ya
 walk_at "2"
 refine Yg ?_
 walk_at "2"
 exact Yf
 walk_at "2"
 walk_at "7"
 exact hu
 exact (jv 1)
 exact Yb
 walk_at "6"
 walk_at "2"
 walk_at "7"
 exact hu
 exact (jv 0)
 exact Yb
 walk_at "6"
 exact Ya
 exact Ya
theorem J2:FnScope ["room","first"] ["room"] (defScope (top 16)):=⟨rfl,rfl,rfl,by decide +kernel,rfl,by decide +kernel,by decide +kernel⟩
theorem YdO(kV doc pm:Value)(an:Option Addr)(cdv ct:Value)(us:List Value)(hl:us.length=(["room"]:List Str).length):bindArgs (PySem.W.fnOf "steps_of" "steps_of" (defArgs (top 16)) (defBody (top 16)) (defScope (top 16)) .none kV doc pm an cdv ct) ⟨us,[]⟩=pure ((["room"]:List Str).zip us):=by
 match us,hl with
 | [_],_=>exact rfl
theorem Ydy(T:Top K mg)(O:Own K mg)(D:DefAt K "steps_of" (top 16)) (F_is_dead:Fn P' w K mg base "is_dead" 4 ["room"] ZP) (F_is_ended:Fn P' w K mg base "is_ended" 1 ["room"] YV) (F_steps_against:Fn P' w K mg base "steps_against" 2 ["left","right"] YQ):Fn P' w K mg base "steps_of" 5 ["room"] Zm:=by
 refine @YD P' w K mg base "steps_of" (top 16) ["room","first"] ["room"] 4 VU T D J2 YdO ?_
 intro f cdv A outer s H E hr
 have hu:=YA hr
 have hu8:=Ym hr
 have sc:=J2
 walk_at "3"
 refine Y0 ?_ ?_ ?_
 refine L2.PW.pt ?_
 refine Yb3 ?_ ?_
 refine ZK ?_ ?_
 refine Yl (ps:=["room"]) (k:=1) ?_ ?_ ?_ ?_
 exact F_is_ended
 walk_at "E"
 exact rfl
 walk_at "2"
 exact (jv 0)
 exact Ya
 exact (fun _=>rfl)
 refine JH ?_
 refine ZK ?_ ?_
 refine Yl (ps:=["room"]) (k:=4) ?_ ?_ ?_ ?_
 exact F_is_dead
 walk_at "E"
 exact rfl
 walk_at "2"
 exact (jv 0)
 exact Ya
 exact (fun _=>rfl)
 refine Yc ?_
 refine Yh ?_
 refine Yg ?_
 exact Ya
 exact YB
 walk_at "3"
 walk_at "8"
 exact sc.nd
 exact rfl
 walk_at "1"
 walk_at "7"
 exact hu
 walk_at "7"
 exact hu
 exact (jv 0)
 exact Yb
 walk_at "6"
 exact Yb
 walk_at "6"
 refine Yc ?_
 refine Yh ?_
 refine Yl (ps:=["left","right"]) (k:=2) ?_ ?_ ?_ ?_
 exact F_steps_against
 walk_at "E"
 exact rfl
 walk_at "2"
 walk_at "7"
 exact hu
 exact (jv 1)
 exact Yb
 walk_at "6"
 walk_at "2"
 walk_at "7"
 exact hu
 exact (jv 1)
 exact Yb
 walk_at "6"
 exact Ya
theorem WY:FnScope ["room","step","unknown","names","instead","put"] ["room","step"] (defScope (top 17)):=⟨rfl,rfl,rfl,by decide +kernel,rfl,by decide +kernel,by decide +kernel⟩
theorem YaI(kV doc pm:Value)(an:Option Addr)(cdv ct:Value)(us:List Value)(hl:us.length=(["room","step"]:List Str).length):bindArgs (PySem.W.fnOf "room_behind" "room_behind" (defArgs (top 17)) (defBody (top 17)) (defScope (top 17)) .none kV doc pm an cdv ct) ⟨us,[]⟩=pure ((["room","step"]:List Str).zip us):=by
 match us,hl with
 | [_,_],_=>exact rfl
theorem Ya4(T:Top K mg)(O:Own K mg)(D:DefAt K "room_behind" (top 17)) (F_stripped:Fn P' w K mg base "stripped" 2 ["equations"] YC):Fn P' w K mg base "room_behind" 3 ["room","step"] YF:=by
 refine @YD P' w K mg base "room_behind" (top 17) ["room","step","unknown","names","instead","put"] ["room","step"] 2 Z7 T D WY YaI ?_
 intro f cdv A outer s H E hr
 have hu:=YA hr
 have hu8:=Ym hr
 have sc:=WY
 walk_at "3"
 walk_at "8"
 exact sc.nd
 exact rfl
 walk_at "1"
 walk_at "7"
 exact hu
 exact (jv 1)
 exact Yb
 walk_at "6"
 walk_at "3"
 refine Y0 ?_ ?_ ?_
 walk_at "C"
 exact (ZT hu8)
 walk_at "7"
 exact hu
 exact (jv 1)
 exact Yb
 walk_at "6"
 exact Yf
 exact (nomark _)
 walk_at "3"
 walk_at "8"
 exact sc.nd
 exact rfl
 walk_at "1"
 refine je_M (T:="str") (id:="str.replace") ?_ ?_ ?_ ?_ ?_ ?_ ?_
 exact Vi
 exact PySem.F.plainAttrs_str
 exact PySem.F.slot_str_replace
 exact PySem.F.type_str_replace
 exact VP
 walk_at "7"
 exact hu
 exact (jv 0)
 exact Yb
 walk_at "6"
 walk_at "2"
 exact (jv 2)
 walk_at "2"
 exact Yf
 exact Ya
 refine Yc ?_
 walk_at "8"
 exact sc.nd
 exact rfl
 walk_at "1"
 exact Yf
 walk_at "3"
 walk_at "8"
 exact sc.nd
 exact rfl
 walk_at "1"
 walk_at "7"
 exact hu
 exact (jv 0)
 exact Yb
 walk_at "6"
 refine Yc ?_
 walk_at "8"
 exact sc.nd
 exact rfl
 walk_at "1"
 walk_at "4"
 exact Yk
 walk_at "7"
 exact hu
 exact (jv 1)
 exact Yb
 walk_at "6"
 exact (jv 2)
 walk_at "3"
 refine ZD (TN:=["left","right"]) (FN:=["instead","unknown"]) (fr:=[4,2]) ?_ ?_ ?_ ?_ ?_ ?_ ?_ ?_
 exact sc.nd
 exact rfl
 walk_at "1"
 exact rfl
 exact (Yr ["left","right"] ["instead","unknown"] [4,2] (by rfl))
 refine Ys ?_
 walk_at "7"
 exact hu
 exact (jv 0)
 exact Yb
 walk_at "6"
 exact (Va (YE (Yi (by decide)) (YE (Yi (by decide)) Z4)))
 intro C s₀ H₀ ex
 refine⟨?_,?_,?_⟩
 refine Zf ?_ ?_
 exact rfl
 walk_at "D"
 walk_at "A"
 show (["left","right","instead","unknown"]:List Str).Nodup;decide +kernel
 exact rfl
 walk_at "1"
 walk_at "D"
 walk_at "A"
 show (["left","right","instead","unknown"]:List Str).Nodup;decide +kernel
 exact rfl
 walk_at "1"
 exact YT
 exact YY
 refine Yg ?_
 walk_at "2"
 refine je_M (T:="str") (id:="str.replace") ?_ ?_ ?_ ?_ ?_ ?_ ?_
 exact Vi
 exact PySem.F.plainAttrs_str
 exact PySem.F.slot_str_replace
 exact PySem.F.type_str_replace
 exact VP
 exact (jv 0)
 walk_at "2"
 exact (jv 3)
 walk_at "2"
 exact (jv 2)
 exact Ya
 walk_at "2"
 refine je_M (T:="str") (id:="str.replace") ?_ ?_ ?_ ?_ ?_ ?_ ?_
 exact Vi
 exact PySem.F.plainAttrs_str
 exact PySem.F.slot_str_replace
 exact PySem.F.type_str_replace
 exact VP
 exact (jv 1)
 walk_at "2"
 exact (jv 3)
 walk_at "2"
 exact (jv 2)
 exact Ya
 exact Ya
 refine Yc ?_
 refine Yh ?_
 refine Yg ?_
 walk_at "2"
 exact (jv 3)
 walk_at "2"
 refine Yl (ps:=["equations"]) (k:=2) ?_ ?_ ?_ ?_
 exact F_stripped
 walk_at "E"
 exact rfl
 walk_at "2"
 exact (jv 5)
 exact Ya
 exact Ya
theorem J0:FnScope ["room"] ["room"] (defScope (top 18)):=⟨rfl,rfl,rfl,by decide +kernel,rfl,by decide +kernel,by decide +kernel⟩
theorem Ydq(kV doc pm:Value)(an:Option Addr)(cdv ct:Value)(us:List Value)(hl:us.length=(["room"]:List Str).length):bindArgs (PySem.W.fnOf "exits_of" "exits_of" (defArgs (top 18)) (defBody (top 18)) (defScope (top 18)) .none kV doc pm an cdv ct) ⟨us,[]⟩=pure ((["room"]:List Str).zip us):=by
 match us,hl with
 | [_],_=>exact rfl
theorem YdT(T:Top K mg)(O:Own K mg)(D:DefAt K "exits_of" (top 18)) (F_room_behind:Fn P' w K mg base "room_behind" 3 ["room","step"] YF) (F_steps_of:Fn P' w K mg base "steps_of" 5 ["room"] Zm):Fn P' w K mg base "exits_of" 6 ["room"] Y4:=by
 refine @YD P' w K mg base "exits_of" (top 18) ["room"] ["room"] 5 VO T D J0 Ydq ?_
 intro f cdv A outer s H E hr
 have hu:=YA hr
 have hu8:=Ym hr
 have sc:=J0
 refine Yc ?_
 refine Yh ?_
 refine ZN ?_
 refine YL (TN:=["step"]) (FN:=["room"]) (fr:=[0]) ?_ ?_ ?_ ?_ ?_
 exact rfl
 exact (Yr ["step"] ["room"] [0] (by rfl))
 refine Ys ?_
 refine Yl (ps:=["room"]) (k:=5) ?_ ?_ ?_ ?_
 exact F_steps_of
 walk_at "E"
 exact rfl
 walk_at "2"
 exact (jv 0)
 exact Ya
 exact (Yi (by decide))
 intro C s₀ H₀ ex
 refine⟨?_,?_,?_⟩
 walk_at "A"
 show (["step","room"]:List Str).Nodup;decide +kernel
 exact rfl
 walk_at "1"
 exact YY
 refine Yg ?_
 walk_at "2"
 exact (jv 0)
 walk_at "2"
 refine Yl (ps:=["room","step"]) (k:=3) ?_ ?_ ?_ ?_
 exact F_room_behind
 walk_at "E"
 exact rfl
 walk_at "2"
 exact (jv 1)
 walk_at "2"
 exact (jv 0)
 exact Ya
 exact Ya
theorem WT:FnScope ["room","standing","leading"] ["room","standing","leading"] (defScope (top 20)):=⟨rfl,rfl,rfl,by decide +kernel,rfl,by decide +kernel,by decide +kernel⟩
theorem Yag(kV doc pm:Value)(an:Option Addr)(cdv ct:Value)(us:List Value)(hl:us.length=(["room","standing","leading"]:List Str).length):bindArgs (PySem.W.fnOf "leads_within" "leads_within" (defArgs (top 20)) (defBody (top 20)) (defScope (top 20)) .none kV doc pm an cdv ct) ⟨us,[]⟩=pure ((["room","standing","leading"]:List Str).zip us):=by
 match us,hl with
 | [_,_,_],_=>exact rfl
theorem Yan(T:Top K mg)(O:Own K mg)(D:DefAt K "leads_within" (top 20)) (F_exits_of:Fn P' w K mg base "exits_of" 6 ["room"] Y4) (F_is_ended:Fn P' w K mg base "is_ended" 1 ["room"] YV):Fn P' w K mg base "leads_within" 7 ["room","standing","leading"] YH:=by
 have z_all:=O.z_all
 refine @YD P' w K mg base "leads_within" (top 20) ["room","standing","leading"] ["room","standing","leading"] 6 ZX T D WT Yag ?_
 intro f cdv A outer s H E hr
 have hu:=YA hr
 have hu8:=Ym hr
 have sc:=WT
 refine Yc ?_
 refine Yh ?_
 refine Yig ?_ ?_
 refine Ykm ?_
 refine Yl (ps:=["room"]) (k:=1) ?_ ?_ ?_ ?_
 exact F_is_ended
 walk_at "E"
 exact rfl
 walk_at "2"
 exact (jv 0)
 exact Ya
 refine YgP ?_
 refine Yc2 ?_ ?_ ?_ ?_ ?_
 exact rfl
 exact rfl
 exact z_all
 exact Yem
 refine YL (TN:=["step","behind"]) (FN:=["standing"]) (fr:=[1]) ?_ ?_ ?_ ?_ ?_
 exact rfl
 exact (Yr ["step","behind"] ["standing"] [1] (by rfl))
 refine Ys ?_
 refine Yhs (ps:=["room"]) (k:=6) ?_ ?_ ?_ ?_
 exact F_exits_of
 walk_at "E"
 exact (jv 2)
 walk_at "2"
 exact (jv 0)
 exact Ya
 exact (Va (YE (Yi (by decide)) (YE (Yi (by decide)) Z4)))
 intro C s₀ H₀ ex
 refine⟨?_,?_,?_⟩
 refine Zf ?_ ?_
 exact rfl
 walk_at "D"
 walk_at "A"
 show (["step","behind","standing"]:List Str).Nodup;decide +kernel
 exact rfl
 walk_at "1"
 walk_at "D"
 walk_at "A"
 show (["step","behind","standing"]:List Str).Nodup;decide +kernel
 exact rfl
 walk_at "1"
 exact YT
 exact YY
 refine Yex ?_ ?_ ?_ ?_
 exact (Yia hu8)
 exact (jv 1)
 exact (jv 2)
 with_unfolding_all rfl
theorem Jl:FnScope ["starts","paper","leading","standing"] ["starts","paper","leading"] (defScope (top 21)):=⟨rfl,rfl,rfl,by decide +kernel,rfl,by decide +kernel,by decide +kernel⟩
theorem YcC(kV doc pm:Value)(an:Option Addr)(cdv ct:Value)(us:List Value)(hl:us.length=(["starts","paper","leading"]:List Str).length):bindArgs (PySem.W.fnOf "is_closed" "is_closed" (defArgs (top 21)) (defBody (top 21)) (defScope (top 21)) .none kV doc pm an cdv ct) ⟨us,[]⟩=pure ((["starts","paper","leading"]:List Str).zip us):=by
 match us,hl with
 | [_,_,_],_=>exact rfl
theorem YcR(T:Top K mg)(O:Own K mg)(D:DefAt K "is_closed" (top 21)) (F_leads_within:Fn P' w K mg base "leads_within" 7 ["room","standing","leading"] YH):Fn P' w K mg base "is_closed" 8 ["starts","paper","leading"] Y6:=by
 have z_all:=O.z_all
 have z_dict:=O.z_dict
 refine @YD P' w K mg base "is_closed" (top 21) ["starts","paper","leading","standing"] ["starts","paper","leading"] 7 WZ T D Jl YcC ?_
 intro f cdv A outer s H E hr
 have hu:=YA hr
 have hu8:=Ym hr
 have sc:=Jl
 walk_at "3"
 walk_at "8"
 exact sc.nd
 exact rfl
 walk_at "1"
 refine Yft ?_ ?_ ?_ ?_ ?_ ?_
 exact hu8
 exact rfl
 exact rfl
 exact z_dict
 exact Yi8
 refine YL (TN:=["room"]) (FN:=[]) (fr:=[]) ?_ ?_ ?_ ?_ ?_
 exact rfl
 exact (Yr ["room"] [] [] (by rfl))
 refine Ys ?_
 exact (jv 1)
 exact (Yi (by decide))
 intro C s₀ H₀ ex
 refine⟨?_,?_,?_⟩
 walk_at "A"
 show (["room"]:List Str).Nodup;decide +kernel
 exact rfl
 walk_at "1"
 exact YY
 refine Yg ?_
 walk_at "2"
 exact (jv 0)
 walk_at "2"
 exact VA
 exact Ya
 walk_at "3"
 refine Y0 ?_ ?_ ?_
 refine YkV ?_
 refine ZK ?_ ?_
 refine Yc2 ?_ ?_ ?_ ?_ ?_
 exact rfl
 exact rfl
 exact z_all
 exact Yem
 refine YL (TN:=["room"]) (FN:=["standing"]) (fr:=[3]) ?_ ?_ ?_ ?_ ?_
 exact rfl
 exact (Yr ["room"] ["standing"] [3] (by rfl))
 refine Ys ?_
 exact (jv 0)
 exact (Yi (by decide))
 intro C s₀ H₀ ex
 refine⟨?_,?_,?_⟩
 walk_at "A"
 show (["room","standing"]:List Str).Nodup;decide +kernel
 exact rfl
 walk_at "1"
 exact YY
 refine Yex ?_ ?_ ?_ ?_
 exact (Yia hu8)
 exact (jv 0)
 exact (jv 1)
 with_unfolding_all rfl
 exact (fun _=>rfl)
 refine Yc ?_
 refine Yh ?_
 exact VA
 exact YB
 refine Yc ?_
 refine Yh ?_
 refine Yc2 ?_ ?_ ?_ ?_ ?_
 exact rfl
 exact rfl
 exact z_all
 exact Yem
 refine YL (TN:=["room"]) (FN:=["leading","standing"]) (fr:=[2,3]) ?_ ?_ ?_ ?_ ?_
 exact rfl
 exact (Yr ["room"] ["leading","standing"] [2,3] (by rfl))
 refine YhX ?_
 exact (jv 3)
 exact (Yi (by decide))
 intro C s₀ H₀ ex
 refine⟨?_,?_,?_⟩
 walk_at "A"
 show (["room","leading","standing"]:List Str).Nodup;decide +kernel
 exact rfl
 walk_at "1"
 exact YY
 refine Yl (ps:=["room","standing","leading"]) (k:=7) ?_ ?_ ?_ ?_
 exact F_leads_within
 walk_at "E"
 exact rfl
 walk_at "2"
 exact (jv 0)
 walk_at "2"
 exact (jv 2)
 walk_at "2"
 exact (jv 1)
 exact Ya
theorem Ya7:FnScope ["system","paper"] ["system","paper"] (defScope (top 22)):=⟨rfl,rfl,rfl,by decide +kernel,rfl,by decide +kernel,by decide +kernel⟩
theorem YeC(kV doc pm:Value)(an:Option Addr)(cdv ct:Value)(us:List Value)(hl:us.length=(["system","paper"]:List Str).length):bindArgs (PySem.W.fnOf "lets_by" "lets_by" (defArgs (top 22)) (defBody (top 22)) (defScope (top 22)) .none kV doc pm an cdv ct) ⟨us,[]⟩=pure ((["system","paper"]:List Str).zip us):=by
 match us,hl with
 | [_,_],_=>exact rfl
theorem YeI(T:Top K mg)(O:Own K mg)(D:DefAt K "lets_by" (top 22)) (F_exits_of:Fn P' w K mg base "exits_of" 6 ["room"] Y4) (F_first_room:Fn P' w K mg base "first_room" 3 ["system"] Za) (F_is_closed:Fn P' w K mg base "is_closed" 8 ["starts","paper","leading"] Y6) (V_exits_of:DefAt K "exits_of" (top 18)):Fn P' w K mg base "lets_by" 9 ["system","paper"] ZQ:=by
 refine @YD P' w K mg base "lets_by" (top 22) ["system","paper"] ["system","paper"] 8 JV T D Ya7 YeC ?_
 intro f cdv A outer s H E hr
 have hu:=YA hr
 have hu8:=Ym hr
 have sc:=Ya7
 refine Yc ?_
 refine Yh ?_
 refine Yl (ps:=["starts","paper","leading"]) (k:=8) ?_ ?_ ?_ ?_
 exact F_is_closed
 walk_at "E"
 exact rfl
 walk_at "2"
 refine Yg ?_
 walk_at "2"
 refine Yl (ps:=["system"]) (k:=3) ?_ ?_ ?_ ?_
 exact F_first_room
 walk_at "E"
 exact rfl
 walk_at "2"
 exact (jv 0)
 exact Ya
 exact Ya
 walk_at "2"
 exact (jv 1)
 walk_at "2"
 exact (Ykh V_exits_of rfl)
 exact Ya
theorem WU:FnScope ["_law_script","_law_k"] ["_law_script","_law_k"] (defScope (top 24)):=⟨rfl,rfl,rfl,by decide +kernel,rfl,by decide +kernel,by decide +kernel⟩
theorem Yam(kV doc pm:Value)(an:Option Addr)(cdv ct:Value)(us:List Value)(hl:us.length=(["_law_script","_law_k"]:List Str).length):bindArgs (PySem.W.fnOf "_law_cell_at" "_law_cell_at" (defArgs (top 24)) (defBody (top 24)) (defScope (top 24)) .none kV doc pm an cdv ct) ⟨us,[]⟩=pure ((["_law_script","_law_k"]:List Str).zip us):=by
 match us,hl with
 | [_,_],_=>exact rfl
theorem Yac(T:Top K mg)(O:Own K mg)(D:DefAt K "_law_cell_at" (top 24))  :Fn P' w K mg base "_law_cell_at" 1 ["_law_script","_law_k"] Yo:=by
 have z_len:=O.z_len
 refine @YD P' w K mg base "_law_cell_at" (top 24) ["_law_script","_law_k"] ["_law_script","_law_k"] 0 ZS T D WU Yam ?_
 intro f cdv A outer s H E hr
 have hu:=YA hr
 have hu8:=Ym hr
 have sc:=WU
 walk_at "3"
 refine Y0 ?_ ?_ ?_
 walk_at "C"
 exact J9
 exact (jv 1)
 refine je_B (id:="len") ?_ ?_ ?_ ?_ ?_
 exact YJ
 exact rfl
 exact z_len
 exact YI
 walk_at "2"
 exact (jv 0)
 exact Ya
 exact (nomark _)
 refine Yc ?_
 refine Yh ?_
 walk_at "7"
 exact hu
 exact (jv 0)
 exact (jv 1)
 walk_at "6"
 exact YB
 refine Yc ?_
 refine Yh ?_
 exact Yb
theorem V7:FnScope ["_law_cell","_law_many","_law_letters","_law_step"] ["_law_cell","_law_many","_law_letters"] (defScope (top 25)):=⟨rfl,rfl,rfl,by decide +kernel,rfl,by decide +kernel,by decide +kernel⟩
theorem YcE(kV doc pm:Value)(an:Option Addr)(cdv ct:Value)(us:List Value)(hl:us.length=(["_law_cell","_law_many","_law_letters"]:List Str).length):bindArgs (PySem.W.fnOf "_law_some" "_law_some" (defArgs (top 25)) (defBody (top 25)) (defScope (top 25)) .none kV doc pm an cdv ct) ⟨us,[]⟩=pure ((["_law_cell","_law_many","_law_letters"]:List Str).zip us):=by
 match us,hl with
 | [_,_,_],_=>exact rfl
theorem YcZ(T:Top K mg)(O:Own K mg)(D:DefAt K "_law_some" (top 25))  :Fn P' w K mg base "_law_some" 1 ["_law_cell","_law_many","_law_letters"] Y7:=by
 have z_range:=O.z_range
 refine @YD P' w K mg base "_law_some" (top 25) ["_law_cell","_law_many","_law_letters","_law_step"] ["_law_cell","_law_many","_law_letters"] 0 Vg T D V7 YcE ?_
 intro f cdv A outer s H E hr
 have hu:=YA hr
 have hu8:=Ym hr
 have sc:=V7
 walk_at "3"
 walk_at "8"
 exact sc.nd
 exact rfl
 walk_at "1"
 walk_at "7"
 exact hu
 refine ZN ?_
 refine Vd ?_
 walk_at "2"
 exact Yb
 walk_at "2"
 exact Yb
 walk_at "2"
 exact Yb
 walk_at "2"
 exact Yb
 walk_at "2"
 exact Yb
 walk_at "2"
 exact Yb
 walk_at "2"
 exact Yb
 walk_at "2"
 exact Yb
 exact Ya
 walk_at "4"
 exact Y3
 walk_at "4"
 exact Z6
 exact (jv 0)
 exact Yb
 exact Yb
 walk_at "6"
 refine Yc ?_
 refine Yh ?_
 refine ZN ?_
 refine YL (TN:=["_law_k"]) (FN:=["_law_cell","_law_letters","_law_step"]) (fr:=[0,2,3]) ?_ ?_ ?_ ?_ ?_
 exact rfl
 exact (Yr ["_law_k"] ["_law_cell","_law_letters","_law_step"] [0,2,3] (by rfl))
 refine Wf ?_ ?_ ?_ ?_
 exact rfl
 exact z_range
 walk_at "2"
 exact (jv 1)
 exact Ya
 exact (Wo W3)
 exact (Yi (by decide))
 intro C s₀ H₀ ex
 refine⟨?_,?_,?_⟩
 walk_at "A"
 show (["_law_k","_law_cell","_law_letters","_law_step"]:List Str).Nodup;decide +kernel
 exact rfl
 walk_at "1"
 exact YY
 walk_at "7"
 exact hu
 exact (jv 2)
 walk_at "4"
 exact Y3
 walk_at "4"
 exact Yk
 walk_at "4"
 exact Y3
 exact (jv 1)
 exact Yb
 walk_at "4"
 exact Yas
 exact (jv 0)
 exact (jv 3)
 exact Yb
 walk_at "6"
theorem Jq:FnScope ["_law_cell","_law_signs","_law_most","_law_size","_law_rest","_law_word_here","_law_k"] ["_law_cell","_law_signs","_law_most"] (defScope (top 26)):=⟨rfl,rfl,rfl,by decide +kernel,rfl,by decide +kernel,by decide +kernel⟩
theorem YcN(kV doc pm:Value)(an:Option Addr)(cdv ct:Value)(us:List Value)(hl:us.length=(["_law_cell","_law_signs","_law_most"]:List Str).length):bindArgs (PySem.W.fnOf "_law_word" "_law_word" (defArgs (top 26)) (defBody (top 26)) (defScope (top 26)) .none kV doc pm an cdv ct) ⟨us,[]⟩=pure ((["_law_cell","_law_signs","_law_most"]:List Str).zip us):=by
 match us,hl with
 | [_,_,_],_=>exact rfl
theorem YcD(T:Top K mg)(O:Own K mg)(D:DefAt K "_law_word" (top 26))  :Fn P' w K mg base "_law_word" 1 ["_law_cell","_law_signs","_law_most"] Zs:=by
 have z_len:=O.z_len
 have z_range:=O.z_range
 refine @YD P' w K mg base "_law_word" (top 26) ["_law_cell","_law_signs","_law_most","_law_size","_law_rest","_law_word_here","_law_k"] ["_law_cell","_law_signs","_law_most"] 0 Vf T D Jq YcN ?_
 intro f cdv A outer s H E hr
 have hu:=YA hr
 have hu8:=Ym hr
 have sc:=Jq
 walk_at "3"
 walk_at "8"
 exact sc.nd
 exact rfl
 walk_at "1"
 walk_at "4"
 exact Y3
 exact (jv 0)
 walk_at "4"
 exact Yk
 exact (jv 2)
 exact Yb
 walk_at "3"
 walk_at "8"
 exact sc.nd
 exact rfl
 walk_at "1"
 walk_at "4"
 exact Y3
 walk_at "4"
 exact Z6
 exact (jv 0)
 walk_at "4"
 exact Yk
 exact (jv 2)
 exact Yb
 walk_at "4"
 exact YiF
 exact Yb
 exact Yb
 walk_at "3"
 walk_at "8"
 exact sc.nd
 exact rfl
 walk_at "1"
 exact Yf
 walk_at "3"
 refine ZL ?_ ?_ ?_ ?_ ?_
 exact PassesOwn.never
 exact rfl
 refine Wf ?_ ?_ ?_ ?_
 exact rfl
 exact z_range
 walk_at "2"
 exact (jv 3)
 exact Ya
 exact (Wo W3)
 walk_at "A"
 exact sc.nd
 exact rfl
 walk_at "1"
 walk_at "3"
 walk_at "8"
 exact sc.nd
 exact rfl
 walk_at "1"
 walk_at "4"
 exact Yk
 exact (jv 5)
 walk_at "7"
 exact hu
 exact (jv 1)
 walk_at "4"
 exact Y3
 exact (jv 4)
 refine je_B (id:="len") ?_ ?_ ?_ ?_ ?_
 exact YJ
 exact rfl
 exact z_len
 exact YI
 walk_at "2"
 exact (jv 1)
 exact Ya
 walk_at "6"
 refine Yc ?_
 walk_at "8"
 exact sc.nd
 exact rfl
 walk_at "1"
 walk_at "4"
 exact Z6
 exact (jv 4)
 refine je_B (id:="len") ?_ ?_ ?_ ?_ ?_
 exact YJ
 exact rfl
 exact z_len
 exact YI
 walk_at "2"
 exact (jv 1)
 exact Ya
 refine Yc ?_
 refine Yh ?_
 exact (jv 5)
theorem Je:FnScope ["_law_side","_law_words"] ["_law_side","_law_words"] (defScope (top 27)):=⟨rfl,rfl,rfl,by decide +kernel,rfl,by decide +kernel,by decide +kernel⟩
theorem YcF(kV doc pm:Value)(an:Option Addr)(cdv ct:Value)(us:List Value)(hl:us.length=(["_law_side","_law_words"]:List Str).length):bindArgs (PySem.W.fnOf "_law_fill" "_law_fill" (defArgs (top 27)) (defBody (top 27)) (defScope (top 27)) .none kV doc pm an cdv ct) ⟨us,[]⟩=pure ((["_law_side","_law_words"]:List Str).zip us):=by
 match us,hl with
 | [_,_],_=>exact rfl
theorem YcQ(T:Top K mg)(O:Own K mg)(D:DefAt K "_law_fill" (top 27))  :Fn P' w K mg base "_law_fill" 1 ["_law_side","_law_words"] Yy:=by
 refine @YD P' w K mg base "_law_fill" (top 27) ["_law_side","_law_words"] ["_law_side","_law_words"] 0 Z3 T D Je YcF ?_
 intro f cdv A outer s H E hr
 have hu:=YA hr
 have hu8:=Ym hr
 have sc:=Je
 refine Yc ?_
 refine Yh ?_
 refine ZW ?_ ?_
 exact Yf
 refine YL (TN:=["_law_letter"]) (FN:=["_law_words"]) (fr:=[1]) ?_ ?_ ?_ ?_ ?_
 exact rfl
 exact (Yr ["_law_letter"] ["_law_words"] [1] (by rfl))
 refine Ys ?_
 exact (jv 0)
 exact (Yi (by decide))
 intro C s₀ H₀ ex
 refine⟨?_,?_,?_⟩
 walk_at "A"
 show (["_law_letter","_law_words"]:List Str).Nodup;decide +kernel
 exact rfl
 walk_at "1"
 exact YY
 refine YhV ?_ ?_ ?_ ?_ ?_
 exact hu
 exact (jv 1)
 exact (jv 0)
 exact (jv 0)
 exact⟨rfl,rfl,rfl,rfl⟩
theorem Jo:FnScope ["_law_cells","_law_signs","_law_words","_law_counts","_law_side","_law_cell","_law_free","_law_some_here","_law_letter"] ["_law_cells","_law_signs","_law_words","_law_counts"] (defScope (top 28)):=⟨rfl,rfl,rfl,by decide +kernel,rfl,by decide +kernel,by decide +kernel⟩
theorem Ycv(kV doc pm:Value)(an:Option Addr)(cdv ct:Value)(us:List Value)(hl:us.length=(["_law_cells","_law_signs","_law_words","_law_counts"]:List Str).length):bindArgs (PySem.W.fnOf "_law_left" "_law_left" (defArgs (top 28)) (defBody (top 28)) (defScope (top 28)) .none kV doc pm an cdv ct) ⟨us,[]⟩=pure ((["_law_cells","_law_signs","_law_words","_law_counts"]:List Str).zip us):=by
 match us,hl with
 | [_,_,_,_],_=>exact rfl
theorem YcY(T:Top K mg)(O:Own K mg)(D:DefAt K "_law_left" (top 28))  :Fn P' w K mg base "_law_left" 1 ["_law_cells","_law_signs","_law_words","_law_counts"] Zn:=by
 have z_len:=O.z_len
 have z_list:=O.z_list
 refine @YD P' w K mg base "_law_left" (top 28) ["_law_cells","_law_signs","_law_words","_law_counts","_law_side","_law_cell","_law_free","_law_some_here","_law_letter"] ["_law_cells","_law_signs","_law_words","_law_counts"] 0 W5 T D Jo Ycv ?_
 intro f cdv A outer s H E hr
 have hu:=YA hr
 have hu8:=Ym hr
 have sc:=Jo
 walk_at "3"
 walk_at "8"
 exact sc.nd
 exact rfl
 walk_at "1"
 exact Yf
 walk_at "3"
 refine ZL ?_ ?_ ?_ ?_ ?_
 exact PassesOwn.never
 exact rfl
 refine Ys ?_
 exact (jv 0)
 walk_at "A"
 exact sc.nd
 exact rfl
 walk_at "1"
 walk_at "3"
 refine ZD (TN:=["_law_name"]) (FN:=["_law_counts"]) (fr:=[3]) ?_ ?_ ?_ ?_ ?_ ?_ ?_ ?_
 exact sc.nd
 exact rfl
 walk_at "1"
 exact rfl
 exact (Yr ["_law_name"] ["_law_counts"] [3] (by rfl))
 refine Ys ?_
 refine YbZ (T:="list") ?_ ?_ ?_ ?_ ?_
 exact (YaT rfl)
 exact rfl
 exact z_list
 exact YcI
 walk_at "2"
 exact (jv 2)
 exact Ya
 exact (Yi (by decide))
 intro C s₀ H₀ ex
 refine⟨?_,?_,?_⟩
 walk_at "A"
 show (["_law_name","_law_counts"]:List Str).Nodup;decide +kernel
 exact rfl
 walk_at "1"
 refine ZO ?_
 walk_at "C"
 exact J9
 walk_at "7"
 exact hu
 exact (jv 1)
 exact (jv 0)
 walk_at "6"
 exact Yb
 exact (nomark _)
 exact (jv 0)
 walk_at "3"
 walk_at "8"
 exact sc.nd
 exact rfl
 walk_at "1"
 walk_at "4"
 exact Yk
 walk_at "4"
 exact Yk
 exact (jv 6)
 exact (jv 6)
 exact (jv 1)
 walk_at "3"
 walk_at "8"
 exact sc.nd
 exact rfl
 walk_at "1"
 walk_at "7"
 exact hu
 exact (jv 7)
 walk_at "4"
 exact Y3
 walk_at "4"
 exact Y3
 walk_at "4"
 exact Yas
 exact (jv 5)
 exact Yb
 exact Yb
 refine je_B (id:="len") ?_ ?_ ?_ ?_ ?_
 exact YJ
 exact rfl
 exact z_len
 exact YI
 walk_at "2"
 exact (jv 7)
 exact Ya
 walk_at "6"
 walk_at "3"
 refine Y0 ?_ ?_ ?_
 walk_at "C"
 exact (Yhx hu)
 exact (jv 8)
 exact (jv 3)
 with_unfolding_all rfl
 refine Yc ?_
 refine YaY ?_ ?_ ?_ ?_
 exact hu
 exact (jv 3)
 exact (jv 8)
 walk_at "4"
 exact Yk
 walk_at "7"
 exact hu
 exact (jv 3)
 exact (jv 8)
 walk_at "6"
 exact Yb
 exact YB
 refine Yc ?_
 walk_at "8"
 exact sc.nd
 exact rfl
 walk_at "1"
 walk_at "4"
 exact Yk
 exact (jv 4)
 exact (jv 8)
 refine Yc ?_
 refine Yh ?_
 exact (jv 4)
theorem Z2:FnScope ["_law_row","_law_cells","_law_words","_law_counts","_law_side","_law_at","_law_k","_law_cell","_law_free","_law_fit","_law_some_here","_law_letter"] ["_law_row","_law_cells","_law_words","_law_counts"] (defScope (top 29)):=⟨rfl,rfl,rfl,by decide +kernel,rfl,by decide +kernel,by decide +kernel⟩
theorem Jb(kV doc pm:Value)(an:Option Addr)(cdv ct:Value)(us:List Value)(hl:us.length=(["_law_row","_law_cells","_law_words","_law_counts"]:List Str).length):bindArgs (PySem.W.fnOf "_law_cut_again" "_law_cut_again" (defArgs (top 29)) (defBody (top 29)) (defScope (top 29)) .none kV doc pm an cdv ct) ⟨us,[]⟩=pure ((["_law_row","_law_cells","_law_words","_law_counts"]:List Str).zip us):=by
 match us,hl with
 | [_,_,_,_],_=>exact rfl
theorem V5(T:Top K mg)(O:Own K mg)(D:DefAt K "_law_cut_again" (top 29))  :Fn P' w K mg base "_law_cut_again" 1 ["_law_row","_law_cells","_law_words","_law_counts"] YG:=by
 have z_len:=O.z_len
 have z_list:=O.z_list
 have z_range:=O.z_range
 refine @YD P' w K mg base "_law_cut_again" (top 29) ["_law_row","_law_cells","_law_words","_law_counts","_law_side","_law_at","_law_k","_law_cell","_law_free","_law_fit","_law_some_here","_law_letter"] ["_law_row","_law_cells","_law_words","_law_counts"] 0 ZC T D Z2 Jb ?_
 intro f cdv A outer s H E hr
 have hu:=YA hr
 have hu8:=Ym hr
 have sc:=Z2
 walk_at "3"
 walk_at "8"
 exact sc.nd
 exact rfl
 walk_at "1"
 exact Yf
 walk_at "3"
 walk_at "8"
 exact sc.nd
 exact rfl
 walk_at "1"
 exact Yb
 walk_at "3"
 refine ZL ?_ ?_ ?_ ?_ ?_
 exact PassesOwn.never
 exact rfl
 refine Wf ?_ ?_ ?_ ?_
 exact rfl
 exact z_range
 walk_at "2"
 walk_at "4"
 exact Yk
 refine je_B (id:="len") ?_ ?_ ?_ ?_ ?_
 exact YJ
 exact rfl
 exact z_len
 exact YI
 walk_at "2"
 exact (jv 0)
 exact Ya
 exact Yb
 exact Ya
 exact (Wo W3)
 walk_at "A"
 exact sc.nd
 exact rfl
 walk_at "1"
 walk_at "3"
 walk_at "8"
 exact sc.nd
 exact rfl
 walk_at "1"
 refine YhW ?_ ?_ ?_
 walk_at "C"
 exact J9
 exact (jv 6)
 refine je_B (id:="len") ?_ ?_ ?_ ?_ ?_
 exact YJ
 exact rfl
 exact z_len
 exact YI
 walk_at "2"
 exact (jv 1)
 exact Ya
 exact (nomark _)
 walk_at "4"
 exact Y3
 walk_at "4"
 exact Yas
 walk_at "7"
 exact hu
 exact (jv 1)
 exact (jv 6)
 walk_at "6"
 exact Yb
 exact Yb
 exact Yb
 walk_at "3"
 refine ZD (TN:=["_law_name"]) (FN:=["_law_counts"]) (fr:=[3]) ?_ ?_ ?_ ?_ ?_ ?_ ?_ ?_
 exact sc.nd
 exact rfl
 walk_at "1"
 exact rfl
 exact (Yr ["_law_name"] ["_law_counts"] [3] (by rfl))
 refine Ys ?_
 refine YbZ (T:="list") ?_ ?_ ?_ ?_ ?_
 exact (YaT rfl)
 exact rfl
 exact z_list
 exact YcI
 walk_at "2"
 exact (jv 2)
 exact Ya
 exact (Yi (by decide))
 intro C s₀ H₀ ex
 refine⟨?_,?_,?_⟩
 walk_at "A"
 show (["_law_name","_law_counts"]:List Str).Nodup;decide +kernel
 exact rfl
 walk_at "1"
 refine ZO ?_
 walk_at "C"
 exact J9
 walk_at "7"
 exact hu
 exact (jv 1)
 exact (jv 0)
 walk_at "6"
 exact Yb
 exact (nomark _)
 exact (jv 0)
 walk_at "3"
 refine ZD (TN:=["_law_name"]) (FN:=["_law_at","_law_row","_law_words"]) (fr:=[5,0,2]) ?_ ?_ ?_ ?_ ?_ ?_ ?_ ?_
 exact sc.nd
 exact rfl
 walk_at "1"
 exact rfl
 exact (Yr ["_law_name"] ["_law_at","_law_row","_law_words"] [5,0,2] (by rfl))
 refine Ys ?_
 exact (jv 8)
 exact (Yi (by decide))
 intro C s₀ H₀ ex
 refine⟨?_,?_,?_⟩
 walk_at "A"
 show (["_law_name","_law_at","_law_row","_law_words"]:List Str).Nodup;decide +kernel
 exact rfl
 walk_at "1"
 refine ZO ?_
 walk_at "C"
 exact (ZT hu8)
 refine YR ?_ ?_ ?_
 exact (jv 2)
 refine Yz ?_
 exact (jv 1)
 refine Yz ?_
 walk_at "4"
 exact Yk
 exact (jv 1)
 refine je_B (id:="len") ?_ ?_ ?_ ?_ ?_
 exact YJ
 exact rfl
 exact z_len
 exact YI
 walk_at "2"
 walk_at "7"
 exact hu
 exact (jv 3)
 exact (jv 0)
 walk_at "6"
 exact Ya
 walk_at "7"
 exact hu
 exact (jv 3)
 exact (jv 0)
 walk_at "6"
 exact (nomark _)
 exact (jv 0)
 walk_at "3"
 walk_at "8"
 exact sc.nd
 exact rfl
 walk_at "1"
 walk_at "4"
 exact Yk
 walk_at "4"
 exact Yk
 exact (jv 9)
 exact (jv 9)
 refine ZN ?_
 refine Vd ?_
 walk_at "2"
 refine YR ?_ ?_ ?_
 exact (jv 0)
 refine Yz ?_
 exact (jv 5)
 refine Yz ?_
 walk_at "4"
 exact Yk
 exact (jv 5)
 exact Yb
 exact Ya
 walk_at "3"
 walk_at "8"
 exact sc.nd
 exact rfl
 walk_at "1"
 walk_at "7"
 exact hu
 exact (jv 10)
 walk_at "4"
 exact Y3
 exact (jv 7)
 refine je_B (id:="len") ?_ ?_ ?_ ?_ ?_
 exact YJ
 exact rfl
 exact z_len
 exact YI
 walk_at "2"
 exact (jv 10)
 exact Ya
 walk_at "6"
 walk_at "3"
 refine Y0 ?_ ?_ ?_
 walk_at "C"
 exact (Yhx hu)
 exact (jv 11)
 exact (jv 3)
 with_unfolding_all rfl
 refine Yc ?_
 refine YaY ?_ ?_ ?_ ?_
 exact hu
 exact (jv 3)
 exact (jv 11)
 walk_at "4"
 exact Yk
 walk_at "7"
 exact hu
 exact (jv 3)
 exact (jv 11)
 walk_at "6"
 exact Yb
 exact YB
 walk_at "3"
 walk_at "8"
 exact sc.nd
 exact rfl
 walk_at "1"
 walk_at "4"
 exact Yk
 exact (jv 4)
 exact (jv 11)
 refine Yc ?_
 walk_at "8"
 exact sc.nd
 exact rfl
 walk_at "1"
 walk_at "4"
 exact Yk
 exact (jv 5)
 refine je_B (id:="len") ?_ ?_ ?_ ?_ ?_
 exact YJ
 exact rfl
 exact z_len
 exact YI
 walk_at "2"
 refine YhV ?_ ?_ ?_ ?_ ?_
 exact hu
 exact (jv 2)
 exact (jv 11)
 exact (jv 11)
 exact⟨rfl,rfl,rfl,rfl⟩
 exact Ya
 refine Yc ?_
 refine Yh ?_
 walk_at "4"
 exact Yk
 exact (jv 4)
 refine YR ?_ ?_ ?_
 exact (jv 0)
 refine Yz ?_
 exact (jv 5)
 exact Y1
theorem Jf:FnScope ["_law_script","_law_sizes","_law_most_names","_law_most_word","_law_most_left","_law_most_many","_law_most","_law_first","_law_second","_law_signs","_law_names_here","_law_words","_law_counts","_law_k","_law_many","_law_equations","_law_cells","_law_size","_law_left_here","_law_row","_law_right"] ["_law_script","_law_sizes"] (defScope (top 31)):=⟨rfl,rfl,rfl,by decide +kernel,rfl,by decide +kernel,by decide +kernel⟩
theorem YcL(kV doc pm:Value)(an:Option Addr)(cdv ct:Value)(us:List Value)(hl:us.length=(["_law_script","_law_sizes"]:List Str).length):bindArgs (PySem.W.fnOf "_law_made" "_law_made" (defArgs (top 31)) (defBody (top 31)) (defScope (top 31)) .none kV doc pm an cdv ct) ⟨us,[]⟩=pure ((["_law_script","_law_sizes"]:List Str).zip us):=by
 match us,hl with
 | [_,_],_=>exact rfl
theorem Ycf(T:Top K mg)(O:Own K mg)(D:DefAt K "_law_made" (top 31)) (F__law_cell_at:Fn P' w K mg base "_law_cell_at" 1 ["_law_script","_law_k"] Yo) (F__law_cut_again:Fn P' w K mg base "_law_cut_again" 1 ["_law_row","_law_cells","_law_words","_law_counts"] YG) (F__law_fill:Fn P' w K mg base "_law_fill" 1 ["_law_side","_law_words"] Yy) (F__law_left:Fn P' w K mg base "_law_left" 1 ["_law_cells","_law_signs","_law_words","_law_counts"] Zn) (F__law_some:Fn P' w K mg base "_law_some" 1 ["_law_cell","_law_many","_law_letters"] Y7) (F__law_word:Fn P' w K mg base "_law_word" 1 ["_law_cell","_law_signs","_law_most"] Zs):Fn P' w K mg base "_law_made" 2 ["_law_script","_law_sizes"] Y5:=by
 have z_len:=O.z_len
 have z_range:=O.z_range
 refine @YD P' w K mg base "_law_made" (top 31) ["_law_script","_law_sizes","_law_most_names","_law_most_word","_law_most_left","_law_most_many","_law_most","_law_first","_law_second","_law_signs","_law_names_here","_law_words","_law_counts","_law_k","_law_many","_law_equations","_law_cells","_law_size","_law_left_here","_law_row","_law_right"] ["_law_script","_law_sizes"] 1 W2 T D Jf YcL ?_
 intro f cdv A outer s H E hr
 have hu:=YA hr
 have hu8:=Ym hr
 have sc:=Jf
 walk_at "3"
 refine YaA ?_ ?_
 exact (jv 1)
 refine Zf ?_ ?_
 exact rfl
 walk_at "D"
 walk_at "A"
 exact sc.nd
 exact rfl
 walk_at "1"
 walk_at "D"
 walk_at "A"
 exact sc.nd
 exact rfl
 walk_at "1"
 walk_at "D"
 walk_at "A"
 exact sc.nd
 exact rfl
 walk_at "1"
 walk_at "D"
 walk_at "A"
 exact sc.nd
 exact rfl
 walk_at "1"
 walk_at "D"
 walk_at "A"
 exact sc.nd
 exact rfl
 walk_at "1"
 exact YT
 walk_at "3"
 walk_at "8"
 exact sc.nd
 exact rfl
 walk_at "1"
 refine Yl (ps:=["_law_script","_law_k"]) (k:=1) ?_ ?_ ?_ ?_
 exact F__law_cell_at
 walk_at "E"
 exact rfl
 walk_at "2"
 exact (jv 0)
 walk_at "2"
 exact Yb
 exact Ya
 walk_at "3"
 walk_at "8"
 exact sc.nd
 exact rfl
 walk_at "1"
 refine Yl (ps:=["_law_script","_law_k"]) (k:=1) ?_ ?_ ?_ ?_
 exact F__law_cell_at
 walk_at "E"
 exact rfl
 walk_at "2"
 exact (jv 0)
 walk_at "2"
 exact Yb
 exact Ya
 walk_at "3"
 walk_at "8"
 exact sc.nd
 exact rfl
 walk_at "1"
 refine Yl (ps:=["_law_cell","_law_many","_law_letters"]) (k:=1) ?_ ?_ ?_ ?_
 exact F__law_some
 walk_at "E"
 exact rfl
 walk_at "2"
 walk_at "4"
 exact Z6
 exact (jv 7)
 exact Yb
 walk_at "2"
 walk_at "4"
 exact Yk
 exact Yb
 walk_at "4"
 exact Y3
 exact (jv 7)
 exact Yb
 walk_at "2"
 exact Yf
 exact Ya
 walk_at "3"
 walk_at "8"
 exact sc.nd
 exact rfl
 walk_at "1"
 refine Yl (ps:=["_law_cell","_law_many","_law_letters"]) (k:=1) ?_ ?_ ?_ ?_
 exact F__law_some
 walk_at "E"
 exact rfl
 walk_at "2"
 walk_at "4"
 exact Z6
 exact (jv 8)
 exact Yb
 walk_at "2"
 walk_at "4"
 exact Yk
 exact Yb
 walk_at "4"
 exact Y3
 walk_at "4"
 exact Z6
 exact (jv 7)
 exact Yb
 exact (jv 2)
 walk_at "2"
 exact Yf
 exact Ya
 walk_at "3"
 walk_at "8"
 exact sc.nd
 exact rfl
 walk_at "1"
 exact Ybb
 walk_at "3"
 walk_at "8"
 exact sc.nd
 exact rfl
 walk_at "1"
 exact Ybb
 walk_at "3"
 refine ZL ?_ ?_ ?_ ?_ ?_
 exact PassesOwn.never
 exact rfl
 refine Wf ?_ ?_ ?_ ?_
 exact rfl
 exact z_range
 walk_at "2"
 refine je_B (id:="len") ?_ ?_ ?_ ?_ ?_
 exact YJ
 exact rfl
 exact z_len
 exact YI
 walk_at "2"
 exact (jv 10)
 exact Ya
 exact Ya
 exact (Wo W3)
 walk_at "A"
 exact sc.nd
 exact rfl
 walk_at "1"
 walk_at "3"
 refine YaY ?_ ?_ ?_ ?_
 exact hu
 exact (jv 11)
 walk_at "7"
 exact hu
 exact (jv 10)
 exact (jv 13)
 walk_at "6"
 refine Yl (ps:=["_law_cell","_law_signs","_law_most"]) (k:=1) ?_ ?_ ?_ ?_
 exact F__law_word
 walk_at "E"
 exact rfl
 walk_at "2"
 refine Yl (ps:=["_law_script","_law_k"]) (k:=1) ?_ ?_ ?_ ?_
 exact F__law_cell_at
 walk_at "E"
 exact rfl
 walk_at "2"
 exact (jv 0)
 walk_at "2"
 walk_at "4"
 exact Yk
 exact Yb
 exact (jv 13)
 exact Ya
 walk_at "2"
 exact (jv 9)
 walk_at "2"
 exact (jv 3)
 exact Ya
 refine Yc ?_
 refine YaY ?_ ?_ ?_ ?_
 exact hu
 exact (jv 12)
 walk_at "7"
 exact hu
 exact (jv 10)
 exact (jv 13)
 walk_at "6"
 exact Yb
 walk_at "3"
 walk_at "8"
 exact sc.nd
 exact rfl
 walk_at "1"
 walk_at "4"
 exact Yk
 exact Yb
 walk_at "4"
 exact Y3
 exact (jv 8)
 exact (jv 5)
 walk_at "3"
 walk_at "8"
 exact sc.nd
 exact rfl
 walk_at "1"
 refine ZN ?_
 refine Vd ?_
 exact Ya
 walk_at "3"
 refine ZL ?_ ?_ ?_ ?_ ?_
 exact PassesOwn.never
 exact rfl
 refine Wf ?_ ?_ ?_ ?_
 exact rfl
 exact z_range
 walk_at "2"
 exact (jv 14)
 exact Ya
 exact (Wo W3)
 walk_at "A"
 exact sc.nd
 exact rfl
 walk_at "1"
 walk_at "3"
 walk_at "8"
 exact sc.nd
 exact rfl
 walk_at "1"
 refine Yb7 ?_ ?_ ?_ ?_
 exact (jv 0)
 refine Yz ?_
 walk_at "4"
 exact Yk
 walk_at "4"
 exact Yk
 exact Yb
 refine je_B (id:="len") ?_ ?_ ?_ ?_ ?_
 exact YJ
 exact rfl
 exact z_len
 exact YI
 walk_at "2"
 exact (jv 10)
 exact Ya
 exact (jv 13)
 refine Yz ?_
 exact Yb
 refine Yz ?_
 exact (jv 14)
 walk_at "3"
 walk_at "8"
 exact sc.nd
 exact rfl
 walk_at "1"
 walk_at "4"
 exact Yk
 exact Yb
 walk_at "4"
 exact Y3
 walk_at "4"
 exact Z6
 exact (jv 8)
 exact Yb
 exact (jv 4)
 walk_at "3"
 walk_at "8"
 exact sc.nd
 exact rfl
 walk_at "1"
 refine Yl (ps:=["_law_cells","_law_signs","_law_words","_law_counts"]) (k:=1) ?_ ?_ ?_ ?_
 exact F__law_left
 walk_at "E"
 exact rfl
 walk_at "2"
 refine YR ?_ ?_ ?_
 exact (jv 16)
 exact Y1
 refine Yz ?_
 exact (jv 17)
 walk_at "2"
 exact (jv 9)
 walk_at "2"
 exact (jv 11)
 walk_at "2"
 exact (jv 12)
 exact Ya
 walk_at "3"
 walk_at "8"
 exact sc.nd
 exact rfl
 walk_at "1"
 refine Yl (ps:=["_law_side","_law_words"]) (k:=1) ?_ ?_ ?_ ?_
 exact F__law_fill
 walk_at "E"
 exact rfl
 walk_at "2"
 exact (jv 18)
 walk_at "2"
 exact (jv 11)
 exact Ya
 walk_at "3"
 walk_at "8"
 exact sc.nd
 exact rfl
 walk_at "1"
 refine Yl (ps:=["_law_row","_law_cells","_law_words","_law_counts"]) (k:=1) ?_ ?_ ?_ ?_
 exact F__law_cut_again
 walk_at "E"
 exact rfl
 walk_at "2"
 exact (jv 19)
 walk_at "2"
 refine YR ?_ ?_ ?_
 exact (jv 16)
 refine Yz ?_
 exact (jv 17)
 exact Y1
 walk_at "2"
 exact (jv 11)
 walk_at "2"
 exact (jv 12)
 exact Ya
 walk_at "3"
 refine Y0 ?_ ?_ ?_
 walk_at "C"
 exact (ZT hu8)
 walk_at "4"
 exact Y3
 walk_at "4"
 exact Z6
 exact (jv 7)
 exact Yb
 exact Yb
 exact Yb
 exact (nomark _)
 refine Yc ?_
 refine Ykp ?_ ?_ ?_ ?_ ?_ ?_ ?_ ?_
 exact rfl
 exact sc.nd
 exact rfl
 exact rfl
 decide
 exact rfl
 exact rfl
 walk_at "2"
 exact (jv 20)
 walk_at "2"
 exact (jv 18)
 exact Ya
 exact YB
 refine Yc ?_
 refine Jr ?_
 refine je_M (T:="list") (id:="list.append") ?_ ?_ ?_ ?_ ?_ ?_ ?_
 exact JC
 exact PySem.F.plainAttrs_list
 exact PySem.F.slot_list_append
 exact PySem.F.type_list_append
 exact We
 exact (jv 15)
 walk_at "2"
 refine Yg ?_
 walk_at "2"
 exact (jv 18)
 walk_at "2"
 exact (jv 20)
 exact Ya
 exact Ya
 walk_at "3"
 walk_at "8"
 exact sc.nd
 exact rfl
 walk_at "1"
 refine je_B (id:="len") ?_ ?_ ?_ ?_ ?_
 exact YJ
 exact rfl
 exact z_len
 exact YI
 walk_at "2"
 refine ZW ?_ ?_
 exact Yf
 refine YL (TN:=["_law_left_here","_law_right"]) (FN:=[]) (fr:=[]) ?_ ?_ ?_ ?_ ?_
 exact rfl
 exact (Yr ["_law_left_here","_law_right"] [] [] (by rfl))
 refine Ys ?_
 exact (jv 15)
 exact (Va (YE (Yi (by decide)) (YE (Yi (by decide)) Z4)))
 intro C s₀ H₀ ex
 refine⟨?_,?_,?_⟩
 refine Zf ?_ ?_
 exact rfl
 walk_at "D"
 walk_at "A"
 show (["_law_left_here","_law_right"]:List Str).Nodup;decide +kernel
 exact rfl
 walk_at "1"
 walk_at "D"
 walk_at "A"
 show (["_law_left_here","_law_right"]:List Str).Nodup;decide +kernel
 exact rfl
 walk_at "1"
 exact YT
 exact YY
 walk_at "4"
 exact Yk
 exact (jv 0)
 exact (jv 1)
 exact Ya
 walk_at "3"
 refine Jk ?_ ?_ ?_
 exact PassesOwn.never
 refine L2.PW.pt ?_
 refine VN ?_ ?_
 walk_at "C"
 exact YjI
 refine je_B (id:="len") ?_ ?_ ?_ ?_ ?_
 exact YJ
 exact rfl
 exact z_len
 exact YI
 walk_at "2"
 exact (jv 15)
 exact Ya
 exact Yb
 exact (nomark _)
 refine Wy ?_
 walk_at "C"
 exact YjI
 exact (jv 17)
 exact (jv 6)
 exact (nomark _)
 walk_at "3"
 refine YaA ?_ ?_
 refine YbW (T:="list") (id:="list.pop") ?_ ?_ ?_ ?_ ?_ ?_
 exact JC
 exact PySem.F.plainAttrs_list
 exact PySem.F.slot_list_pop
 exact PySem.F.type_list_pop
 exact YkQ
 exact (jv 15)
 refine Zf ?_ ?_
 exact rfl
 walk_at "D"
 walk_at "A"
 exact sc.nd
 exact rfl
 walk_at "1"
 walk_at "D"
 walk_at "A"
 exact sc.nd
 exact rfl
 walk_at "1"
 exact YT
 refine Yc ?_
 walk_at "8"
 exact sc.nd
 exact rfl
 walk_at "1"
 walk_at "4"
 exact YiC
 walk_at "4"
 exact YiC
 exact (jv 17)
 refine je_B (id:="len") ?_ ?_ ?_ ?_ ?_
 exact YJ
 exact rfl
 exact z_len
 exact YI
 walk_at "2"
 exact (jv 18)
 exact Ya
 refine je_B (id:="len") ?_ ?_ ?_ ?_ ?_
 exact YJ
 exact rfl
 exact z_len
 exact YI
 walk_at "2"
 exact (jv 20)
 exact Ya
 refine Yc ?_
 refine Yh ?_
 refine Yg ?_
 walk_at "2"
 exact (jv 15)
 walk_at "2"
 exact (jv 11)
 walk_at "2"
 exact (jv 9)
 exact Ya
theorem VC:FnScope ["_law_equations","_law_some_here","_law_letters"] ["_law_equations"] (defScope (top 32)):=⟨rfl,rfl,rfl,by decide +kernel,rfl,by decide +kernel,by decide +kernel⟩
theorem Ybg(kV doc pm:Value)(an:Option Addr)(cdv ct:Value)(us:List Value)(hl:us.length=(["_law_equations"]:List Str).length):bindArgs (PySem.W.fnOf "_law_names" "_law_names" (defArgs (top 32)) (defBody (top 32)) (defScope (top 32)) .none kV doc pm an cdv ct) ⟨us,[]⟩=pure ((["_law_equations"]:List Str).zip us):=by
 match us,hl with
 | [_],_=>exact rfl
theorem Ybo(T:Top K mg)(O:Own K mg)(D:DefAt K "_law_names" (top 32))  :Fn P' w K mg base "_law_names" 1 ["_law_equations"] Y9:=by
 refine @YD P' w K mg base "_law_names" (top 32) ["_law_equations","_law_some_here","_law_letters"] ["_law_equations"] 0 WQ T D VC Ybg ?_
 intro f cdv A outer s H E hr
 have hu:=YA hr
 have hu8:=Ym hr
 have sc:=VC
 walk_at "3"
 walk_at "8"
 exact sc.nd
 exact rfl
 walk_at "1"
 exact Yf
 walk_at "3"
 walk_at "8"
 exact sc.nd
 exact rfl
 walk_at "1"
 refine ZW ?_ ?_
 exact Yf
 refine YL (TN:=["_law_left_here","_law_right"]) (FN:=[]) (fr:=[]) ?_ ?_ ?_ ?_ ?_
 exact rfl
 exact (Yr ["_law_left_here","_law_right"] [] [] (by rfl))
 refine Ys ?_
 exact (jv 0)
 exact (Va (YE (Yi (by decide)) (YE (Yi (by decide)) Z4)))
 intro C s₀ H₀ ex
 refine⟨?_,?_,?_⟩
 refine Zf ?_ ?_
 exact rfl
 walk_at "D"
 walk_at "A"
 show (["_law_left_here","_law_right"]:List Str).Nodup;decide +kernel
 exact rfl
 walk_at "1"
 walk_at "D"
 walk_at "A"
 show (["_law_left_here","_law_right"]:List Str).Nodup;decide +kernel
 exact rfl
 walk_at "1"
 exact YT
 exact YY
 walk_at "4"
 exact Yk
 exact (jv 0)
 exact (jv 1)
 refine Yc ?_
 refine Yh ?_
 refine ZW ?_ ?_
 exact Yf
 refine YL (TN:=["_law_name"]) (FN:=["_law_letters"]) (fr:=[2]) ?_ ?_ ?_ ?_ ?_
 exact rfl
 exact (Yr ["_law_name"] ["_law_letters"] [2] (by rfl))
 refine Ys ?_
 exact (jv 1)
 exact (Yi (by decide))
 intro C s₀ H₀ ex
 refine⟨?_,?_,?_⟩
 walk_at "A"
 show (["_law_name","_law_letters"]:List Str).Nodup;decide +kernel
 exact rfl
 walk_at "1"
 refine ZO ?_
 walk_at "C"
 exact (Yhx hu)
 exact (jv 0)
 exact (jv 1)
 with_unfolding_all rfl
 exact (jv 0)
theorem VF:FnScope ["_law_equations","_law_found","_law_left_here","_law_right","_law_at"] ["_law_equations"] (defScope (top 33)):=⟨rfl,rfl,rfl,by decide +kernel,rfl,by decide +kernel,by decide +kernel⟩
theorem Ybk(kV doc pm:Value)(an:Option Addr)(cdv ct:Value)(us:List Value)(hl:us.length=(["_law_equations"]:List Str).length):bindArgs (PySem.W.fnOf "_law_strip" "_law_strip" (defArgs (top 33)) (defBody (top 33)) (defScope (top 33)) .none kV doc pm an cdv ct) ⟨us,[]⟩=pure ((["_law_equations"]:List Str).zip us):=by
 match us,hl with
 | [_],_=>exact rfl
theorem Ybh(T:Top K mg)(O:Own K mg)(D:DefAt K "_law_strip" (top 33))  :Fn P' w K mg base "_law_strip" 1 ["_law_equations"] Yp:=by
 have z_len:=O.z_len
 have z_min:=O.z_min
 have z_tuple:=O.z_tuple
 refine @YD P' w K mg base "_law_strip" (top 33) ["_law_equations","_law_found","_law_left_here","_law_right","_law_at"] ["_law_equations"] 0 WF T D VF Ybk ?_
 intro f cdv A outer s H E hr
 have hu:=YA hr
 have hu8:=Ym hr
 have sc:=VF
 walk_at "3"
 walk_at "8"
 exact sc.nd
 exact rfl
 walk_at "1"
 refine ZN ?_
 refine Vd ?_
 exact Ya
 walk_at "3"
 refine ZL ?_ ?_ ?_ ?_ ?_
 exact PassesOwn.never
 exact rfl
 refine Ys ?_
 exact (jv 0)
 refine Zf ?_ ?_
 exact rfl
 walk_at "D"
 walk_at "A"
 exact sc.nd
 exact rfl
 walk_at "1"
 walk_at "D"
 walk_at "A"
 exact sc.nd
 exact rfl
 walk_at "1"
 exact YT
 walk_at "3"
 walk_at "8"
 exact sc.nd
 exact rfl
 walk_at "1"
 exact Yb
 walk_at "3"
 refine Jk ?_ ?_ ?_
 exact PassesOwn.never
 refine L2.PW.pt ?_
 refine VN ?_ ?_
 walk_at "C"
 exact J9
 exact (jv 4)
 refine je_B (id:="min") ?_ ?_ ?_ ?_ ?_
 exact (Yh4 rfl)
 exact rfl
 exact z_min
 exact Yit
 walk_at "2"
 refine je_B (id:="len") ?_ ?_ ?_ ?_ ?_
 exact YJ
 exact rfl
 exact z_len
 exact YI
 walk_at "2"
 exact (jv 2)
 exact Ya
 walk_at "2"
 refine je_B (id:="len") ?_ ?_ ?_ ?_ ?_
 exact YJ
 exact rfl
 exact z_len
 exact YI
 walk_at "2"
 exact (jv 3)
 exact Ya
 exact Ya
 exact (nomark _)
 refine Wy ?_
 walk_at "C"
 exact (ZT hu8)
 walk_at "7"
 exact hu
 exact (jv 2)
 exact (jv 4)
 walk_at "6"
 walk_at "7"
 exact hu
 exact (jv 3)
 exact (jv 4)
 walk_at "6"
 exact (nomark _)
 refine Yc ?_
 walk_at "8"
 exact sc.nd
 exact rfl
 walk_at "1"
 walk_at "4"
 exact Yk
 exact (jv 4)
 exact Yb
 refine Yc ?_
 refine Y0 ?_ ?_ ?_
 refine L2.PW.pt ?_
 refine Yb3 ?_ ?_
 walk_at "C"
 exact (Jc hu8)
 refine YR ?_ ?_ ?_
 exact (jv 2)
 refine Yz ?_
 exact (jv 4)
 exact Y1
 exact Yf
 exact (nomark _)
 refine JH ?_
 walk_at "C"
 exact (Jc hu8)
 refine YR ?_ ?_ ?_
 exact (jv 3)
 refine Yz ?_
 exact (jv 4)
 exact Y1
 exact Yf
 exact (nomark _)
 refine Yc ?_
 refine Jr ?_
 refine je_M (T:="list") (id:="list.append") ?_ ?_ ?_ ?_ ?_ ?_ ?_
 exact JC
 exact PySem.F.plainAttrs_list
 exact PySem.F.slot_list_append
 exact PySem.F.type_list_append
 exact We
 exact (jv 1)
 walk_at "2"
 refine Yg ?_
 walk_at "2"
 refine YR ?_ ?_ ?_
 exact (jv 2)
 refine Yz ?_
 exact (jv 4)
 exact Y1
 walk_at "2"
 refine YR ?_ ?_ ?_
 exact (jv 3)
 refine Yz ?_
 exact (jv 4)
 exact Y1
 exact Ya
 exact Ya
 exact YB
 refine Yc ?_
 refine Yh ?_
 refine YbZ (T:="tuple") ?_ ?_ ?_ ?_ ?_
 exact YaL
 exact rfl
 exact z_tuple
 exact Vb
 walk_at "2"
 exact (jv 1)
 exact Ya
theorem Jd:FnScope ["_law_room","_law_left_here","_law_right"] ["_law_room"] (defScope (top 34)):=⟨rfl,rfl,rfl,by decide +kernel,rfl,by decide +kernel,by decide +kernel⟩
theorem YcW(kV doc pm:Value)(an:Option Addr)(cdv ct:Value)(us:List Value)(hl:us.length=(["_law_room"]:List Str).length):bindArgs (PySem.W.fnOf "_law_dead" "_law_dead" (defArgs (top 34)) (defBody (top 34)) (defScope (top 34)) .none kV doc pm an cdv ct) ⟨us,[]⟩=pure ((["_law_room"]:List Str).zip us):=by
 match us,hl with
 | [_],_=>exact rfl
theorem YcS(T:Top K mg)(O:Own K mg)(D:DefAt K "_law_dead" (top 34))  :Fn P' w K mg base "_law_dead" 1 ["_law_room"] Zq:=by
 refine @YD P' w K mg base "_law_dead" (top 34) ["_law_room","_law_left_here","_law_right"] ["_law_room"] 0 Vo T D Jd YcW ?_
 intro f cdv A outer s H E hr
 have hu:=YA hr
 have hu8:=Ym hr
 have sc:=Jd
 walk_at "3"
 refine ZL ?_ ?_ ?_ ?_ ?_
 exact PassesOwn.never
 exact rfl
 refine Ys ?_
 walk_at "7"
 exact hu
 exact (jv 0)
 exact Yb
 walk_at "6"
 refine Zf ?_ ?_
 exact rfl
 walk_at "D"
 walk_at "A"
 exact sc.nd
 exact rfl
 walk_at "1"
 walk_at "D"
 walk_at "A"
 exact sc.nd
 exact rfl
 walk_at "1"
 exact YT
 refine Yc ?_
 refine Y0 ?_ ?_ ?_
 refine L2.PW.pt ?_
 refine VN ?_ ?_
 walk_at "C"
 exact (Jc hu8)
 exact (jv 1)
 exact Yf
 exact (nomark _)
 refine Wy ?_
 walk_at "C"
 exact (Jc hu8)
 exact (jv 2)
 exact Yf
 exact (nomark _)
 refine Yc ?_
 refine Y0 ?_ ?_ ?_
 refine L2.PW.pt ?_
 refine VN ?_ ?_
 refine ZK ?_ ?_
 refine YbW (T:="str") (id:="str.islower") ?_ ?_ ?_ ?_ ?_ ?_
 exact Vi
 exact PySem.F.plainAttrs_str
 exact PySem.F.slot_str_islower
 exact PySem.F.type_str_islower
 exact ZU
 walk_at "7"
 exact hu
 exact (jv 1)
 exact Yb
 walk_at "6"
 exact (fun _=>rfl)
 refine Wy ?_
 refine ZK ?_ ?_
 refine YbW (T:="str") (id:="str.islower") ?_ ?_ ?_ ?_ ?_ ?_
 exact Vi
 exact PySem.F.plainAttrs_str
 exact PySem.F.slot_str_islower
 exact PySem.F.type_str_islower
 exact ZU
 walk_at "7"
 exact hu
 exact (jv 2)
 exact Yb
 walk_at "6"
 exact (fun _=>rfl)
 refine Yc ?_
 refine Yh ?_
 exact VA
 exact YB
 refine Yc ?_
 refine Y0 ?_ ?_ ?_
 walk_at "C"
 exact (Jc hu8)
 refine ZN ?_
 refine YL (TN:=["_law_letter"]) (FN:=[]) (fr:=[]) ?_ ?_ ?_ ?_ ?_
 exact rfl
 exact (Yr ["_law_letter"] [] [] (by rfl))
 refine Ys ?_
 walk_at "4"
 exact Yk
 exact (jv 1)
 exact (jv 2)
 exact (Yi (by decide))
 intro C s₀ H₀ ex
 refine⟨?_,?_,?_⟩
 walk_at "A"
 show (["_law_letter"]:List Str).Nodup;decide +kernel
 exact rfl
 walk_at "1"
 refine ZO ?_
 refine ZK ?_ ?_
 refine YbW (T:="str") (id:="str.islower") ?_ ?_ ?_ ?_ ?_ ?_
 exact Vi
 exact PySem.F.plainAttrs_str
 exact PySem.F.slot_str_islower
 exact PySem.F.type_str_islower
 exact ZU
 exact (jv 0)
 exact (fun _=>rfl)
 exact (jv 0)
 refine ZN ?_
 refine Vd ?_
 exact Ya
 exact (nomark _)
 refine Yc ?_
 refine Yh ?_
 exact VA
 exact YB
 refine Yc ?_
 refine Yh ?_
 exact VA
theorem Vw:FnScope ["_law_room","_law_left_here","_law_right","_law_p","_law_q"] ["_law_room"] (defScope (top 35)):=⟨rfl,rfl,rfl,by decide +kernel,rfl,by decide +kernel,by decide +kernel⟩
theorem Ybq(kV doc pm:Value)(an:Option Addr)(cdv ct:Value)(us:List Value)(hl:us.length=(["_law_room"]:List Str).length):bindArgs (PySem.W.fnOf "_law_steps" "_law_steps" (defArgs (top 35)) (defBody (top 35)) (defScope (top 35)) .none kV doc pm an cdv ct) ⟨us,[]⟩=pure ((["_law_room"]:List Str).zip us):=by
 match us,hl with
 | [_],_=>exact rfl
theorem Ybs(T:Top K mg)(O:Own K mg)(D:DefAt K "_law_steps" (top 35)) (F__law_dead:Fn P' w K mg base "_law_dead" 1 ["_law_room"] Zq):Fn P' w K mg base "_law_steps" 2 ["_law_room"] Yx:=by
 refine @YD P' w K mg base "_law_steps" (top 35) ["_law_room","_law_left_here","_law_right","_law_p","_law_q"] ["_law_room"] 1 Wu T D Vw Ybq ?_
 intro f cdv A outer s H E hr
 have hu:=YA hr
 have hu8:=Ym hr
 have sc:=Vw
 walk_at "3"
 refine Y0 ?_ ?_ ?_
 refine L2.PW.pt ?_
 refine Yb3 ?_ ?_
 walk_at "C"
 exact (ZT hu8)
 walk_at "7"
 exact hu
 exact (jv 0)
 exact Yb
 walk_at "6"
 refine Yg ?_
 exact Ya
 exact (nomark _)
 refine JH ?_
 refine ZK ?_ ?_
 refine Yl (ps:=["_law_room"]) (k:=1) ?_ ?_ ?_ ?_
 exact F__law_dead
 walk_at "E"
 exact rfl
 walk_at "2"
 exact (jv 0)
 exact Ya
 exact (fun _=>rfl)
 refine Yc ?_
 refine Yh ?_
 refine Yg ?_
 exact Ya
 exact YB
 walk_at "3"
 refine YaA ?_ ?_
 walk_at "7"
 exact hu
 walk_at "7"
 exact hu
 exact (jv 0)
 exact Yb
 walk_at "6"
 exact Yb
 walk_at "6"
 refine Zf ?_ ?_
 exact rfl
 walk_at "D"
 walk_at "A"
 exact sc.nd
 exact rfl
 walk_at "1"
 walk_at "D"
 walk_at "A"
 exact sc.nd
 exact rfl
 walk_at "1"
 exact YT
 walk_at "3"
 refine Y0 ?_ ?_ ?_
 refine L2.PW.pt ?_
 refine Yb3 ?_ ?_
 walk_at "C"
 exact (ZT hu8)
 exact (jv 1)
 exact Yf
 exact (nomark _)
 refine JH ?_
 walk_at "C"
 exact (ZT hu8)
 exact (jv 2)
 exact Yf
 exact (nomark _)
 refine Yc ?_
 refine Yh ?_
 refine Yg ?_
 walk_at "2"
 refine Yg ?_
 walk_at "2"
 exact Yf
 walk_at "2"
 walk_at "7"
 exact hu
 walk_at "4"
 exact Yk
 exact (jv 1)
 exact (jv 2)
 exact Yb
 walk_at "6"
 exact Ya
 exact Ya
 exact YB
 walk_at "3"
 walk_at "8"
 exact sc.nd
 exact rfl
 walk_at "1"
 walk_at "7"
 exact hu
 exact (jv 1)
 exact Yb
 walk_at "6"
 walk_at "3"
 walk_at "8"
 exact sc.nd
 exact rfl
 walk_at "1"
 walk_at "7"
 exact hu
 exact (jv 2)
 exact Yb
 walk_at "6"
 walk_at "3"
 refine Y0 ?_ ?_ ?_
 refine ZK ?_ ?_
 refine YbW (T:="str") (id:="str.islower") ?_ ?_ ?_ ?_ ?_ ?_
 exact Vi
 exact PySem.F.plainAttrs_str
 exact PySem.F.slot_str_islower
 exact PySem.F.type_str_islower
 exact ZU
 exact (jv 4)
 exact (fun _=>rfl)
 refine Yc ?_
 refine Yh ?_
 refine Yg ?_
 walk_at "2"
 refine Yg ?_
 walk_at "2"
 exact Yf
 walk_at "2"
 exact (jv 3)
 exact Ya
 walk_at "2"
 refine Yg ?_
 walk_at "2"
 exact Yf
 walk_at "2"
 exact (jv 3)
 walk_at "2"
 exact (jv 4)
 exact Ya
 exact Ya
 exact YB
 walk_at "3"
 refine Y0 ?_ ?_ ?_
 refine ZK ?_ ?_
 refine YbW (T:="str") (id:="str.islower") ?_ ?_ ?_ ?_ ?_ ?_
 exact Vi
 exact PySem.F.plainAttrs_str
 exact PySem.F.slot_str_islower
 exact PySem.F.type_str_islower
 exact ZU
 exact (jv 3)
 exact (fun _=>rfl)
 refine Yc ?_
 refine Yh ?_
 refine Yg ?_
 walk_at "2"
 refine Yg ?_
 walk_at "2"
 exact Yf
 walk_at "2"
 exact (jv 4)
 exact Ya
 walk_at "2"
 refine Yg ?_
 walk_at "2"
 exact Yf
 walk_at "2"
 exact (jv 4)
 walk_at "2"
 exact (jv 3)
 exact Ya
 exact Ya
 exact YB
 refine Yc ?_
 refine Yh ?_
 refine Yg ?_
 walk_at "2"
 refine Yg ?_
 walk_at "2"
 exact Yf
 walk_at "2"
 exact (jv 3)
 exact Ya
 walk_at "2"
 refine Yg ?_
 walk_at "2"
 exact Yf
 walk_at "2"
 exact (jv 4)
 exact Ya
 walk_at "2"
 refine Yg ?_
 walk_at "2"
 exact Yf
 walk_at "2"
 exact (jv 3)
 walk_at "2"
 exact (jv 4)
 exact Ya
 walk_at "2"
 refine Yg ?_
 walk_at "2"
 exact Yf
 walk_at "2"
 exact (jv 4)
 walk_at "2"
 exact (jv 3)
 exact Ya
 exact Ya
theorem WW:FnScope ["_law_room","_law_step","_law_names_here","_law_equations","_law_put","_law_words","_law_found","_law_left_here","_law_right"] ["_law_room","_law_step"] (defScope (top 36)):=⟨rfl,rfl,rfl,by decide +kernel,rfl,by decide +kernel,by decide +kernel⟩
theorem Yad(kV doc pm:Value)(an:Option Addr)(cdv ct:Value)(us:List Value)(hl:us.length=(["_law_room","_law_step"]:List Str).length):bindArgs (PySem.W.fnOf "_law_stepped" "_law_stepped" (defArgs (top 36)) (defBody (top 36)) (defScope (top 36)) .none kV doc pm an cdv ct) ⟨us,[]⟩=pure ((["_law_room","_law_step"]:List Str).zip us):=by
 match us,hl with
 | [_,_],_=>exact rfl
theorem Yae(T:Top K mg)(O:Own K mg)(D:DefAt K "_law_stepped" (top 36)) (F__law_fill:Fn P' w K mg base "_law_fill" 1 ["_law_side","_law_words"] Yy) (F__law_strip:Fn P' w K mg base "_law_strip" 1 ["_law_equations"] Yp):Fn P' w K mg base "_law_stepped" 2 ["_law_room","_law_step"] Yu:=by
 refine @YD P' w K mg base "_law_stepped" (top 36) ["_law_room","_law_step","_law_names_here","_law_equations","_law_put","_law_words","_law_found","_law_left_here","_law_right"] ["_law_room","_law_step"] 1 Z0 T D WW Yad ?_
 intro f cdv A outer s H E hr
 have hu:=YA hr
 have hu8:=Ym hr
 have sc:=WW
 walk_at "3"
 refine YaA ?_ ?_
 exact (jv 0)
 refine Zf ?_ ?_
 exact rfl
 walk_at "D"
 walk_at "A"
 exact sc.nd
 exact rfl
 walk_at "1"
 walk_at "D"
 walk_at "A"
 exact sc.nd
 exact rfl
 walk_at "1"
 exact YT
 walk_at "3"
 walk_at "8"
 exact sc.nd
 exact rfl
 walk_at "1"
 exact Yf
 walk_at "3"
 refine Y0 ?_ ?_ ?_
 walk_at "C"
 exact (ZT hu8)
 walk_at "7"
 exact hu
 exact (jv 1)
 exact Yb
 walk_at "6"
 exact Yf
 exact (nomark _)
 refine Yc ?_
 walk_at "8"
 exact sc.nd
 exact rfl
 walk_at "1"
 refine ZW ?_ ?_
 exact Yf
 refine YL (TN:=["_law_name"]) (FN:=["_law_step"]) (fr:=[1]) ?_ ?_ ?_ ?_ ?_
 exact rfl
 exact (Yr ["_law_name"] ["_law_step"] [1] (by rfl))
 refine Ys ?_
 exact (jv 2)
 exact (Yi (by decide))
 intro C s₀ H₀ ex
 refine⟨?_,?_,?_⟩
 walk_at "A"
 show (["_law_name","_law_step"]:List Str).Nodup;decide +kernel
 exact rfl
 walk_at "1"
 refine ZO ?_
 walk_at "C"
 exact (Jc hu8)
 exact (jv 0)
 walk_at "7"
 exact hu
 exact (jv 1)
 exact Yb
 walk_at "6"
 exact (nomark _)
 exact (jv 0)
 refine Yc ?_
 walk_at "8"
 exact sc.nd
 exact rfl
 walk_at "1"
 walk_at "4"
 exact Yk
 walk_at "7"
 exact hu
 exact (jv 1)
 exact Yb
 walk_at "6"
 walk_at "7"
 exact hu
 exact (jv 1)
 exact Yb
 walk_at "6"
 walk_at "3"
 walk_at "8"
 exact sc.nd
 exact rfl
 walk_at "1"
 exact Ybb
 walk_at "3"
 refine YaY ?_ ?_ ?_ ?_
 exact hu
 exact (jv 5)
 walk_at "7"
 exact hu
 exact (jv 1)
 exact Yb
 walk_at "6"
 exact (jv 4)
 walk_at "3"
 walk_at "8"
 exact sc.nd
 exact rfl
 walk_at "1"
 refine ZN ?_
 refine Vd ?_
 exact Ya
 walk_at "3"
 refine ZL ?_ ?_ ?_ ?_ ?_
 exact PassesOwn.never
 exact rfl
 refine Ys ?_
 exact (jv 3)
 refine Zf ?_ ?_
 exact rfl
 walk_at "D"
 walk_at "A"
 exact sc.nd
 exact rfl
 walk_at "1"
 walk_at "D"
 walk_at "A"
 exact sc.nd
 exact rfl
 walk_at "1"
 exact YT
 refine Yc ?_
 refine Jr ?_
 refine je_M (T:="list") (id:="list.append") ?_ ?_ ?_ ?_ ?_ ?_ ?_
 exact JC
 exact PySem.F.plainAttrs_list
 exact PySem.F.slot_list_append
 exact PySem.F.type_list_append
 exact We
 exact (jv 6)
 walk_at "2"
 refine Yg ?_
 walk_at "2"
 refine Yl (ps:=["_law_side","_law_words"]) (k:=1) ?_ ?_ ?_ ?_
 exact F__law_fill
 walk_at "E"
 exact rfl
 walk_at "2"
 exact (jv 7)
 walk_at "2"
 exact (jv 5)
 exact Ya
 walk_at "2"
 refine Yl (ps:=["_law_side","_law_words"]) (k:=1) ?_ ?_ ?_ ?_
 exact F__law_fill
 walk_at "E"
 exact rfl
 walk_at "2"
 exact (jv 8)
 walk_at "2"
 exact (jv 5)
 exact Ya
 exact Ya
 exact Ya
 refine Yc ?_
 refine Yh ?_
 refine Yg ?_
 walk_at "2"
 exact (jv 2)
 walk_at "2"
 refine Yl (ps:=["_law_equations"]) (k:=1) ?_ ?_ ?_ ?_
 exact F__law_strip
 walk_at "E"
 exact rfl
 walk_at "2"
 exact (jv 6)
 exact Ya
 exact Ya
theorem Vn:FnScope ["_law_system","_law_cells","_law_first","_law_rooms","_law_room","_law_cell","_law_steps_here"] ["_law_system","_law_cells"] (defScope (top 37)):=⟨rfl,rfl,rfl,by decide +kernel,rfl,by decide +kernel,by decide +kernel⟩
theorem YaP(kV doc pm:Value)(an:Option Addr)(cdv ct:Value)(us:List Value)(hl:us.length=(["_law_system","_law_cells"]:List Str).length):bindArgs (PySem.W.fnOf "_law_walked" "_law_walked" (defArgs (top 37)) (defBody (top 37)) (defScope (top 37)) .none kV doc pm an cdv ct) ⟨us,[]⟩=pure ((["_law_system","_law_cells"]:List Str).zip us):=by
 match us,hl with
 | [_,_],_=>exact rfl
theorem YaU(T:Top K mg)(O:Own K mg)(D:DefAt K "_law_walked" (top 37)) (F__law_names:Fn P' w K mg base "_law_names" 1 ["_law_equations"] Y9) (F__law_stepped:Fn P' w K mg base "_law_stepped" 2 ["_law_room","_law_step"] Yu) (F__law_steps:Fn P' w K mg base "_law_steps" 2 ["_law_room"] Yx) (F__law_strip:Fn P' w K mg base "_law_strip" 1 ["_law_equations"] Yp):Fn P' w K mg base "_law_walked" 3 ["_law_system","_law_cells"] YS:=by
 have z_len:=O.z_len
 refine @YD P' w K mg base "_law_walked" (top 37) ["_law_system","_law_cells","_law_first","_law_rooms","_law_room","_law_cell","_law_steps_here"] ["_law_system","_law_cells"] 2 Wa T D Vn YaP ?_
 intro f cdv A outer s H E hr
 have hu:=YA hr
 have hu8:=Ym hr
 have sc:=Vn
 walk_at "3"
 walk_at "8"
 exact sc.nd
 exact rfl
 walk_at "1"
 refine Yg ?_
 walk_at "2"
 refine Yl (ps:=["_law_equations"]) (k:=1) ?_ ?_ ?_ ?_
 exact F__law_names
 walk_at "E"
 exact rfl
 walk_at "2"
 exact (jv 0)
 exact Ya
 walk_at "2"
 refine Yl (ps:=["_law_equations"]) (k:=1) ?_ ?_ ?_ ?_
 exact F__law_strip
 walk_at "E"
 exact rfl
 walk_at "2"
 exact (jv 0)
 exact Ya
 exact Ya
 walk_at "3"
 walk_at "8"
 exact sc.nd
 exact rfl
 walk_at "1"
 refine ZN ?_
 refine Vd ?_
 walk_at "2"
 exact (jv 2)
 exact Ya
 walk_at "3"
 walk_at "8"
 exact sc.nd
 exact rfl
 walk_at "1"
 exact (jv 2)
 walk_at "3"
 refine ZL ?_ ?_ ?_ ?_ ?_
 exact PassesOwn.never
 exact rfl
 refine Ys ?_
 exact (jv 1)
 walk_at "A"
 exact sc.nd
 exact rfl
 walk_at "1"
 walk_at "3"
 walk_at "8"
 exact sc.nd
 exact rfl
 walk_at "1"
 refine Yl (ps:=["_law_room"]) (k:=2) ?_ ?_ ?_ ?_
 exact F__law_steps
 walk_at "E"
 exact rfl
 walk_at "2"
 exact (jv 4)
 exact Ya
 walk_at "3"
 refine Y0 ?_ ?_ ?_
 walk_at "C"
 exact (ZT hu8)
 exact (jv 6)
 refine Yg ?_
 exact Ya
 exact (nomark _)
 refine Yc ?_
 walk_at "8"
 exact sc.nd
 exact rfl
 walk_at "1"
 exact (jv 2)
 refine Yc ?_
 walk_at "8"
 exact sc.nd
 exact rfl
 walk_at "1"
 refine Yl (ps:=["_law_room","_law_step"]) (k:=2) ?_ ?_ ?_ ?_
 exact F__law_stepped
 walk_at "E"
 exact rfl
 walk_at "2"
 exact (jv 4)
 walk_at "2"
 walk_at "7"
 exact hu
 exact (jv 6)
 walk_at "4"
 exact Y3
 walk_at "4"
 exact Y3
 walk_at "4"
 exact Yas
 exact (jv 5)
 exact Yb
 exact Yb
 refine je_B (id:="len") ?_ ?_ ?_ ?_ ?_
 exact YJ
 exact rfl
 exact z_len
 exact YI
 walk_at "2"
 exact (jv 6)
 exact Ya
 walk_at "6"
 exact Ya
 refine Yc ?_
 refine Y0 ?_ ?_ ?_
 walk_at "C"
 exact (Ygo hu8)
 exact (jv 4)
 exact (jv 3)
 with_unfolding_all rfl
 refine Yc ?_
 refine Jr ?_
 refine je_M (T:="list") (id:="list.append") ?_ ?_ ?_ ?_ ?_ ?_ ?_
 exact JC
 exact PySem.F.plainAttrs_list
 exact PySem.F.slot_list_append
 exact PySem.F.type_list_append
 exact We
 exact (jv 3)
 walk_at "2"
 exact (jv 4)
 exact Ya
 exact YB
 refine Yc ?_
 refine Yh ?_
 exact (jv 3)
theorem Vy:FnScope ["_law_rooms","_law_found","_law_known","_law_room","_law_at","_law_step","_law_behind"] ["_law_rooms"] (defScope (top 38)):=⟨rfl,rfl,rfl,by decide +kernel,rfl,by decide +kernel,by decide +kernel⟩
theorem Ybj(kV doc pm:Value)(an:Option Addr)(cdv ct:Value)(us:List Value)(hl:us.length=(["_law_rooms"]:List Str).length):bindArgs (PySem.W.fnOf "_law_wider" "_law_wider" (defArgs (top 38)) (defBody (top 38)) (defScope (top 38)) .none kV doc pm an cdv ct) ⟨us,[]⟩=pure ((["_law_rooms"]:List Str).zip us):=by
 match us,hl with
 | [_],_=>exact rfl
theorem Ybi(T:Top K mg)(O:Own K mg)(D:DefAt K "_law_wider" (top 38)) (F__law_stepped:Fn P' w K mg base "_law_stepped" 2 ["_law_room","_law_step"] Yu) (F__law_steps:Fn P' w K mg base "_law_steps" 2 ["_law_room"] Yx):Fn P' w K mg base "_law_wider" 3 ["_law_rooms"] Zb:=by
 have z_len:=O.z_len
 have z_list:=O.z_list
 refine @YD P' w K mg base "_law_wider" (top 38) ["_law_rooms","_law_found","_law_known","_law_room","_law_at","_law_step","_law_behind"] ["_law_rooms"] 2 WJ T D Vy Ybj ?_
 intro f cdv A outer s H E hr
 have hu:=YA hr
 have hu8:=Ym hr
 have sc:=Vy
 walk_at "3"
 walk_at "8"
 exact sc.nd
 exact rfl
 walk_at "1"
 refine YbZ (T:="list") ?_ ?_ ?_ ?_ ?_
 exact (YaT rfl)
 exact rfl
 exact z_list
 exact YcI
 walk_at "2"
 exact (jv 0)
 exact Ya
 walk_at "3"
 walk_at "8"
 exact sc.nd
 exact rfl
 walk_at "1"
 exact YfH
 walk_at "3"
 refine ZL ?_ ?_ ?_ ?_ ?_
 exact PassesOwn.never
 exact rfl
 refine Ys ?_
 exact (jv 1)
 walk_at "A"
 exact sc.nd
 exact rfl
 walk_at "1"
 refine Yc ?_
 refine YeV ?_ ?_ ?_ ?_
 exact hu8
 exact (jv 2)
 exact (jv 3)
 exact VA
 walk_at "3"
 walk_at "8"
 exact sc.nd
 exact rfl
 walk_at "1"
 exact Yb
 walk_at "3"
 refine Jk ?_ ?_ ?_
 exact PassesOwn.never
 refine L2.PW.pt ?_
 refine VN ?_ ?_
 walk_at "C"
 exact J9
 exact (jv 4)
 refine je_B (id:="len") ?_ ?_ ?_ ?_ ?_
 exact YJ
 exact rfl
 exact z_len
 exact YI
 walk_at "2"
 exact (jv 1)
 exact Ya
 exact (nomark _)
 refine Wy ?_
 walk_at "C"
 exact J9
 refine je_B (id:="len") ?_ ?_ ?_ ?_ ?_
 exact YJ
 exact rfl
 exact z_len
 exact YI
 walk_at "2"
 exact (jv 1)
 exact Ya
 exact Yb
 exact (nomark _)
 walk_at "3"
 refine ZL ?_ ?_ ?_ ?_ ?_
 exact PassesOwn.never
 exact rfl
 refine Ys ?_
 refine Yl (ps:=["_law_room"]) (k:=2) ?_ ?_ ?_ ?_
 exact F__law_steps
 walk_at "E"
 exact rfl
 walk_at "2"
 walk_at "7"
 exact hu
 exact (jv 1)
 exact (jv 4)
 walk_at "6"
 exact Ya
 walk_at "A"
 exact sc.nd
 exact rfl
 walk_at "1"
 walk_at "3"
 walk_at "8"
 exact sc.nd
 exact rfl
 walk_at "1"
 refine Yl (ps:=["_law_room","_law_step"]) (k:=2) ?_ ?_ ?_ ?_
 exact F__law_stepped
 walk_at "E"
 exact rfl
 walk_at "2"
 walk_at "7"
 exact hu
 exact (jv 1)
 exact (jv 4)
 walk_at "6"
 walk_at "2"
 exact (jv 5)
 exact Ya
 refine Yc ?_
 refine Y0 ?_ ?_ ?_
 refine L2.PW.pt ?_
 refine VN ?_ ?_
 walk_at "C"
 exact (Yfy hu8)
 exact (jv 6)
 exact (jv 2)
 with_unfolding_all rfl
 refine Wy ?_
 walk_at "C"
 exact (Jc hu8)
 walk_at "7"
 exact hu
 exact (jv 6)
 exact Yb
 walk_at "6"
 refine Yg ?_
 exact Ya
 exact (nomark _)
 walk_at "3"
 refine YeV ?_ ?_ ?_ ?_
 exact hu8
 exact (jv 2)
 exact (jv 6)
 exact VA
 refine Yc ?_
 refine Jr ?_
 refine je_M (T:="list") (id:="list.append") ?_ ?_ ?_ ?_ ?_ ?_ ?_
 exact JC
 exact PySem.F.plainAttrs_list
 exact PySem.F.slot_list_append
 exact PySem.F.type_list_append
 exact We
 exact (jv 1)
 walk_at "2"
 exact (jv 6)
 exact Ya
 exact YB
 refine Yc ?_
 walk_at "8"
 exact sc.nd
 exact rfl
 walk_at "1"
 walk_at "4"
 exact Yk
 exact (jv 4)
 exact Yb
 refine Yc ?_
 refine Yh ?_
 exact (jv 1)
theorem Yhr:FnScope ["_law_script","_law_equations","_law_words","_law_signs","_law_system","_law_rooms","_law_plain","_law_wide","_law_other","_law_paper"] ["_law_script"] (defScope (top 39)):=⟨rfl,rfl,rfl,by decide +kernel,rfl,by decide +kernel,by decide +kernel⟩
theorem YlR(kV doc pm:Value)(an:Option Addr)(cdv ct:Value)(us:List Value)(hl:us.length=(["_law_script"]:List Str).length):bindArgs (PySem.W.fnOf "law" "law" (defArgs (top 39)) (defBody (top 39)) (defScope (top 39)) .none kV doc pm an cdv ct) ⟨us,[]⟩=pure ((["_law_script"]:List Str).zip us):=by
 match us,hl with
 | [_],_=>exact rfl
theorem YkX(T:Top K mg)(O:Own K mg)(F__law_made:Fn P' w K mg base "_law_made" 2 ["_law_script","_law_sizes"] Y5) (F__law_walked:Fn P' w K mg base "_law_walked" 3 ["_law_system","_law_cells"] YS) (F__law_wider:Fn P' w K mg base "_law_wider" 3 ["_law_rooms"] Zb) (F_lets_by:Fn P' w K mg base "lets_by" 9 ["system","paper"] ZQ) (f:Addr) (fd:FuncData) (F:Fun K "law" "law" (top 39) f fd):FM P' w K mg base 10 f fd ["_law_script"] Ydl:=by
 have z_tuple:=O.z_tuple
 refine @Mi.Fun.mirror P' w K mg base "law" "law" (top 39) f fd ["_law_script","_law_equations","_law_words","_law_signs","_law_system","_law_rooms","_law_plain","_law_wide","_law_other","_law_paper"] ["_law_script"] 9 YgV F Yhr ?_
 intro cdv A outer s H E hr
 have hu:=YA hr
 have hu8:=Ym hr
 have sc:=Yhr
 walk_at "3"
 refine YaA ?_ ?_
 refine Yl (ps:=["_law_script","_law_sizes"]) (k:=2) ?_ ?_ ?_ ?_
 exact F__law_made
 walk_at "E"
 exact rfl
 walk_at "2"
 exact (jv 0)
 walk_at "2"
 refine Yg ?_
 walk_at "2"
 exact Yb
 walk_at "2"
 exact Yb
 walk_at "2"
 exact Yb
 walk_at "2"
 exact Yb
 walk_at "2"
 exact Yb
 exact Ya
 exact Ya
 refine Zf ?_ ?_
 exact rfl
 walk_at "D"
 walk_at "A"
 exact sc.nd
 exact rfl
 walk_at "1"
 walk_at "D"
 walk_at "A"
 exact sc.nd
 exact rfl
 walk_at "1"
 walk_at "D"
 walk_at "A"
 exact sc.nd
 exact rfl
 walk_at "1"
 exact YT
 walk_at "3"
 walk_at "8"
 exact sc.nd
 exact rfl
 walk_at "1"
 refine YbZ (T:="tuple") ?_ ?_ ?_ ?_ ?_
 exact YaL
 exact rfl
 exact z_tuple
 exact Vb
 walk_at "2"
 exact (jv 1)
 exact Ya
 walk_at "3"
 walk_at "8"
 exact sc.nd
 exact rfl
 walk_at "1"
 refine Yl (ps:=["_law_system","_law_cells"]) (k:=3) ?_ ?_ ?_ ?_
 exact F__law_walked
 walk_at "E"
 exact rfl
 walk_at "2"
 exact (jv 4)
 walk_at "2"
 refine YR ?_ ?_ ?_
 exact (jv 0)
 exact Y1
 refine Yz ?_
 exact Yb
 exact Ya
 walk_at "3"
 refine ZD (TN:=["_law_room"]) (FN:=[]) (fr:=[]) ?_ ?_ ?_ ?_ ?_ ?_ ?_ ?_
 exact sc.nd
 exact rfl
 walk_at "1"
 exact rfl
 exact (Yr ["_law_room"] [] [] (by rfl))
 refine Ys ?_
 exact (jv 5)
 exact (Yi (by decide))
 intro C s₀ H₀ ex
 refine⟨?_,?_,?_⟩
 walk_at "A"
 show (["_law_room"]:List Str).Nodup;decide +kernel
 exact rfl
 walk_at "1"
 refine ZO ?_
 walk_at "C"
 exact (Jc hu8)
 walk_at "7"
 exact hu
 exact (jv 0)
 exact Yb
 walk_at "6"
 refine Yg ?_
 exact Ya
 exact (nomark _)
 exact (jv 0)
 walk_at "3"
 walk_at "8"
 exact sc.nd
 exact rfl
 walk_at "1"
 refine Yl (ps:=["_law_rooms"]) (k:=3) ?_ ?_ ?_ ?_
 exact F__law_wider
 walk_at "E"
 exact rfl
 walk_at "2"
 exact (jv 6)
 exact Ya
 walk_at "3"
 walk_at "8"
 exact sc.nd
 exact rfl
 walk_at "1"
 refine YbQ ?_ ?_ ?_ ?_
 exact rfl
 exact z_tuple
 exact Vb
 refine YL (TN:=["_law_left_here","_law_right"]) (FN:=[]) (fr:=[]) ?_ ?_ ?_ ?_ ?_
 exact rfl
 exact (Yr ["_law_left_here","_law_right"] [] [] (by rfl))
 refine Ys ?_
 exact (jv 4)
 exact (Va (YE (Yi (by decide)) (YE (Yi (by decide)) Z4)))
 intro C s₀ H₀ ex
 refine⟨?_,?_,?_⟩
 refine Zf ?_ ?_
 exact rfl
 walk_at "D"
 walk_at "A"
 show (["_law_left_here","_law_right"]:List Str).Nodup;decide +kernel
 exact rfl
 walk_at "1"
 walk_at "D"
 walk_at "A"
 show (["_law_left_here","_law_right"]:List Str).Nodup;decide +kernel
 exact rfl
 walk_at "1"
 exact YT
 exact YY
 refine Yg ?_
 walk_at "2"
 refine YR ?_ ?_ ?_
 exact (jv 0)
 exact Y1
 refine Yz ?_
 refine YgW ?_
 exact Yb
 walk_at "2"
 exact (jv 1)
 exact Ya
 walk_at "3"
 refine ZL ?_ ?_ ?_ ?_ ?_
 exact PassesOwn.never
 exact rfl
 refine Ys ?_
 refine ZN ?_
 refine Vd ?_
 walk_at "2"
 exact (jv 5)
 walk_at "2"
 exact (jv 6)
 walk_at "2"
 exact (jv 7)
 walk_at "2"
 walk_at "4"
 exact Yk
 exact (jv 7)
 refine Yl (ps:=["_law_system","_law_cells"]) (k:=3) ?_ ?_ ?_ ?_
 exact F__law_walked
 walk_at "E"
 exact rfl
 walk_at "2"
 exact (jv 8)
 walk_at "2"
 refine YR ?_ ?_ ?_
 exact (jv 0)
 exact Y1
 refine Yz ?_
 exact Yb
 exact Ya
 walk_at "2"
 refine Yb7 ?_ ?_ ?_ ?_
 exact (jv 7)
 exact Y1
 exact Y1
 refine Yz ?_
 refine YgW ?_
 exact Yb
 exact Ya
 walk_at "A"
 exact sc.nd
 exact rfl
 walk_at "1"
 refine Yc ?_
 refine Y0 ?_ ?_ ?_
 walk_at "C"
 exact YfU
 refine Yl (ps:=["system","paper"]) (k:=9) ?_ ?_ ?_ ?_
 exact F_lets_by
 walk_at "E"
 exact rfl
 walk_at "2"
 exact (jv 4)
 walk_at "2"
 refine YbZ (T:="tuple") ?_ ?_ ?_ ?_ ?_
 exact YaL
 exact rfl
 exact z_tuple
 exact Vb
 walk_at "2"
 exact (jv 9)
 exact Ya
 exact Ya
 exact VA
 exact (nomark _)
 refine Yc ?_
 refine Yh ?_
 exact VA
 exact YB
 refine Yc ?_
 refine Yh ?_
 exact VA
end
structure Seen(K:PySem.W.Frag):Prop where
 d_is_sign:DefAt K "is_sign" (top 1)
 d_is_unknown:DefAt K "is_unknown" (top 2)
 d_letters_of:DefAt K "letters_of" (top 3)
 d_rising:DefAt K "rising" (top 4)
 d_names_of:DefAt K "names_of" (top 5)
 d_without_beginning:DefAt K "without_beginning" (top 7)
 d_stripped:DefAt K "stripped" (top 8)
 d_first_room:DefAt K "first_room" (top 9)
 d_is_ended:DefAt K "is_ended" (top 10)
 d_has_sign:DefAt K "has_sign" (top 11)
 d_is_against:DefAt K "is_against" (top 12)
 d_is_dead:DefAt K "is_dead" (top 13)
 d_steps_against:DefAt K "steps_against" (top 15)
 d_steps_of:DefAt K "steps_of" (top 16)
 d_room_behind:DefAt K "room_behind" (top 17)
 d_exits_of:DefAt K "exits_of" (top 18)
 d_leads_within:DefAt K "leads_within" (top 20)
 d_is_closed:DefAt K "is_closed" (top 21)
 d_lets_by:DefAt K "lets_by" (top 22)
 d__law_cell_at:DefAt K "_law_cell_at" (top 24)
 d__law_some:DefAt K "_law_some" (top 25)
 d__law_word:DefAt K "_law_word" (top 26)
 d__law_fill:DefAt K "_law_fill" (top 27)
 d__law_left:DefAt K "_law_left" (top 28)
 d__law_cut_again:DefAt K "_law_cut_again" (top 29)
 d__law_made:DefAt K "_law_made" (top 31)
 d__law_names:DefAt K "_law_names" (top 32)
 d__law_strip:DefAt K "_law_strip" (top 33)
 d__law_dead:DefAt K "_law_dead" (top 34)
 d__law_steps:DefAt K "_law_steps" (top 35)
 d__law_stepped:DefAt K "_law_stepped" (top 36)
 d__law_walked:DefAt K "_law_walked" (top 37)
 d__law_wider:DefAt K "_law_wider" (top 38)
 d_law:DefAt K "law" (top 39)
 z_all:PySem.W.nsIn K mainGlobals "all"=some none
 z_any:PySem.W.nsIn K mainGlobals "any"=some none
 z_dict:PySem.W.nsIn K mainGlobals "dict"=some none
 z_len:PySem.W.nsIn K mainGlobals "len"=some none
 z_list:PySem.W.nsIn K mainGlobals "list"=some none
 z_min:PySem.W.nsIn K mainGlobals "min"=some none
 z_range:PySem.W.nsIn K mainGlobals "range"=some none
 z_set:PySem.W.nsIn K mainGlobals "set"=some none
 z_sorted:PySem.W.nsIn K mainGlobals "sorted"=some none
 z_tuple:PySem.W.nsIn K mainGlobals "tuple"=some none
theorem Yhv{K:PySem.W.Frag}{mg:Str->Option Value}(T:Top K mg)(S:Seen K):Own K mg where
 z_all:=T.none S.z_all
 z_any:=T.none S.z_any
 z_dict:=T.none S.z_dict
 z_len:=T.none S.z_len
 z_list:=T.none S.z_list
 z_min:=T.none S.z_min
 z_range:=T.none S.z_range
 z_set:=T.none S.z_set
 z_sorted:=T.none S.z_sorted
 z_tuple:=T.none S.z_tuple
theorem Yke{P':Program}{w:World}{K:PySem.W.Frag}{mg:Str->Option Value}(T:Top K mg)(S:Seen K)(f:Addr)(fd:FuncData)(F:Fun K "law" "law" (top 39) f fd) (base:Heap):FM P' w K mg base 10 f fd ["_law_script"] Ydl:=by
 have O:=Yhv T S
 have F_is_sign:Fn P' w K mg base "is_sign" 1 ["letter"] YN:=Yed T O S.d_is_sign
 have F_is_unknown:Fn P' w K mg base "is_unknown" 1 ["letter"] YW:=Ybl T O S.d_is_unknown
 have F_letters_of:Fn P' w K mg base "letters_of" 1 ["system"] Y8:=Ybt T O S.d_letters_of
 have F_rising:Fn P' w K mg base "rising" 1 ["letters"] Wn:=Yf9 T O S.d_rising
 have F_without_beginning:Fn P' w K mg base "without_beginning" 1 ["left","right"] Yj:=W8 T O S.d_without_beginning
 have F_is_ended:Fn P' w K mg base "is_ended" 1 ["room"] YV:=YdL T O S.d_is_ended
 have F__law_cell_at:Fn P' w K mg base "_law_cell_at" 1 ["_law_script","_law_k"] Yo:=Yac T O S.d__law_cell_at
 have F__law_some:Fn P' w K mg base "_law_some" 1 ["_law_cell","_law_many","_law_letters"] Y7:=YcZ T O S.d__law_some
 have F__law_word:Fn P' w K mg base "_law_word" 1 ["_law_cell","_law_signs","_law_most"] Zs:=YcD T O S.d__law_word
 have F__law_fill:Fn P' w K mg base "_law_fill" 1 ["_law_side","_law_words"] Yy:=YcQ T O S.d__law_fill
 have F__law_left:Fn P' w K mg base "_law_left" 1 ["_law_cells","_law_signs","_law_words","_law_counts"] Zn:=YcY T O S.d__law_left
 have F__law_cut_again:Fn P' w K mg base "_law_cut_again" 1 ["_law_row","_law_cells","_law_words","_law_counts"] YG:=V5 T O S.d__law_cut_again
 have F__law_names:Fn P' w K mg base "_law_names" 1 ["_law_equations"] Y9:=Ybo T O S.d__law_names
 have F__law_strip:Fn P' w K mg base "_law_strip" 1 ["_law_equations"] Yp:=Ybh T O S.d__law_strip
 have F__law_dead:Fn P' w K mg base "_law_dead" 1 ["_law_room"] Zq:=YcS T O S.d__law_dead
 have F_names_of:Fn P' w K mg base "names_of" 2 ["system"] Zl:=Ydk T O S.d_names_of F_is_unknown F_letters_of F_rising
 have F_stripped:Fn P' w K mg base "stripped" 2 ["equations"] YC:=YdQ T O S.d_stripped F_without_beginning
 have F_has_sign:Fn P' w K mg base "has_sign" 2 ["side"] ZB:=Ydf T O S.d_has_sign F_is_sign
 have F_steps_against:Fn P' w K mg base "steps_against" 2 ["left","right"] YQ:=JK T O S.d_steps_against F_is_sign
 have F__law_made:Fn P' w K mg base "_law_made" 2 ["_law_script","_law_sizes"] Y5:=Ycf T O S.d__law_made F__law_cell_at F__law_cut_again F__law_fill F__law_left F__law_some F__law_word
 have F__law_steps:Fn P' w K mg base "_law_steps" 2 ["_law_room"] Yx:=Ybs T O S.d__law_steps F__law_dead
 have F__law_stepped:Fn P' w K mg base "_law_stepped" 2 ["_law_room","_law_step"] Yu:=Yae T O S.d__law_stepped F__law_fill F__law_strip
 have F_first_room:Fn P' w K mg base "first_room" 3 ["system"] Za:=Ybm T O S.d_first_room F_names_of F_stripped
 have F_is_against:Fn P' w K mg base "is_against" 3 ["left","right"] Zc:=Ybw T O S.d_is_against F_has_sign F_is_sign
 have F_room_behind:Fn P' w K mg base "room_behind" 3 ["room","step"] YF:=Ya4 T O S.d_room_behind F_stripped
 have F__law_walked:Fn P' w K mg base "_law_walked" 3 ["_law_system","_law_cells"] YS:=YaU T O S.d__law_walked F__law_names F__law_stepped F__law_steps F__law_strip
 have F__law_wider:Fn P' w K mg base "_law_wider" 3 ["_law_rooms"] Zb:=Ybi T O S.d__law_wider F__law_stepped F__law_steps
 have F_is_dead:Fn P' w K mg base "is_dead" 4 ["room"] ZP:=Yeb T O S.d_is_dead F_is_against
 have F_steps_of:Fn P' w K mg base "steps_of" 5 ["room"] Zm:=Ydy T O S.d_steps_of F_is_dead F_is_ended F_steps_against
 have F_exits_of:Fn P' w K mg base "exits_of" 6 ["room"] Y4:=YdT T O S.d_exits_of F_room_behind F_steps_of
 have F_leads_within:Fn P' w K mg base "leads_within" 7 ["room","standing","leading"] YH:=Yan T O S.d_leads_within F_exits_of F_is_ended
 have F_is_closed:Fn P' w K mg base "is_closed" 8 ["starts","paper","leading"] Y6:=YcR T O S.d_is_closed F_leads_within
 have F_lets_by:Fn P' w K mg base "lets_by" 9 ["system","paper"] ZQ:=YeI T O S.d_lets_by F_exits_of F_first_room F_is_closed S.d_exits_of
 exact YkX T O F__law_made F__law_walked F__law_wider F_lets_by f fd F
theorem walk{q:Program}{loose:List Str}{XP:(Str->Option Value)->Heap->Prop}{YP:World->Heap->Prop}{d:DefRec}{K:Params->PySem.W.Frag}(hdf:d.params.defaults=[])(hy:d.name="law") (hY:∀(w:World)(h:Heap),YP w h->(K w.params).In h) (S:∀w:World,Seen (K w.params)) (L:Law 63 Ydl):
 PySem.W.WalkO q loose XP YP PySem.Challenge.rw_gapwords_k36_whole_no_paper_against_answ.row.toRowW d [] (fun f vs=>PySem.call f vs):=
 YhT (l:=PySem.Challenge.rw_gapwords_k36_whole_no_paper_against_answ) (k:=10) (x:="_law_script") (y:="law") (st:=top 39) rfl (by decide) hdf hy ⟨rfl,by decide,by decide⟩ hY (fun _ _ _ _ _ _ s u=>.of_eq rfl) (fun w=>(S w).d_law) (fun w mg T f fd F base=>Yke T (S w) f fd F base) L
end G
namespace Mi
open PySem PySem.Spec L2
open PyProof.Rows hiding St
def joinR(x:Str)(ps:List P)(st:Stor):R P:=match strsP ps with
 |some ys=>if joinLen x ys<=cap then .ok (.str (Txt.join x ys)) st else .bad
 |none=>.bad
def retR(r:RS):R P:=match r with
 | .nx _ st'=>.ok .non st'
 | .rt p st'=>.ok p st'
 |_=>.bad
def callR(r:R P):R P:=match r with
 | .ok p st2=>.ok p st2
 |_=>.bad
section
variable{ρ:Rho}{st:Stor}
@[simp] theorem YlQ:retR (.nx ρ st)=.ok .non st:=rfl
@[simp] theorem YiV{p:P}:retR (.rt p st)=.ok p st:=rfl
@[simp] theorem Yii{p:P}:callR (.ok p st)=.ok p st:=rfl
@[simp] theorem x_eC{p:P}:eC p ρ st=.ok p st:=rfl
@[simp] theorem YcH{i:Nat}:eVar i ρ st=match ρ[i]? with|some (some p)=>.ok p st|_=>.bad:=rfl
@[simp] theorem Yh0{g:G2}{a b:ME}:eBin g a b ρ st=(a ρ st).bind fun p st1=>(b ρ st1).bind fun q st2=>ofO (g p q st2):=rfl
@[simp] theorem Yhw{m:ME}:eTst m ρ st=(m ρ st).bind fun p st1=>match p with| .bl c=>.ok c st1|_=>.bad:=rfl
@[simp] theorem YhY{g g':G2}{a b c:ME}:eChain g g' a b c ρ st=(a ρ st).bind fun p st1=>(b ρ st1).bind fun q st2=>(ofO (g p q st2)).bind fun z st3=>match z with
 | .bl k=>if k=true then (c ρ st3).bind fun r st4=>ofO (g' q r st4) else .ok (.bl false) st3
 |_=>.bad:=rfl
@[simp] theorem Yjf{a b:MT}:eAndT a b ρ st=(a ρ st).bind fun c st1=>if c=true then b ρ st1 else .ok false st1:=rfl
@[simp] theorem Ykt{a b:MT}:eOrT a b ρ st=(a ρ st).bind fun c st1=>if c=true then .ok true st1 else b ρ st1:=rfl
@[simp] theorem YiR{a:MT}:eNotT a ρ st=(a ρ st).bind fun c st1=>.ok (!c) st1:=rfl
@[simp] theorem Ykq{a b:ME}:eAnd a b ρ st=(a ρ st).bind fun p st1=>match p with| .bl c=>if c=true then b ρ st1 else .ok (.bl false) st1|_=>.bad:=rfl
@[simp] theorem YlT{a b:ME}:eOr a b ρ st=(a ρ st).bind fun p st1=>match p with| .bl c=>if c=true then .ok (.bl true) st1 else b ρ st1|_=>.bad:=rfl
@[simp] theorem Yk4{a:ME}:eNot a ρ st=(a ρ st).bind fun p st1=>match p with| .bl c=>.ok (.bl (!c)) st1|_=>.bad:=rfl
@[simp] theorem YlC{c:MT}{a b:ME}:eIf c a b ρ st=(c ρ st).bind fun k st1=>if k=true then a ρ st1 else b ρ st1:=rfl
@[simp] theorem Yj1{m:ME}:eTru m ρ st=(m ρ st).bind fun p st1=>match truP p st1 with|some c=>.ok c st1|none=>.bad:=rfl
@[simp] theorem YfL{b:Bool}:truP (.bl b) st=some b:=rfl
@[simp] theorem YkK{i:Int}:truP (.int i) st=some (i != 0):=rfl
@[simp] theorem YkI:truP .non st=some false:=rfl
@[simp] theorem Yj5:aNil ρ st=.ok [] st:=rfl
@[simp] theorem YeT{a:ME}{r:MA}:aCons a r ρ st=(a ρ st).bind fun p st1=>(r ρ st1).bind fun ps st2=>.ok (p::ps) st2:=rfl
@[simp] theorem Yks{r:MA}:eTup r ρ st=(r ρ st).bind fun ps st1=>if ps.length<=cap then .ok (.tup ps) st1 else .bad:=rfl
@[simp] theorem Ylv{r:MA}:lMk r ρ st=(r ρ st).bind fun ps st1=>if ps.length<=cap then .ok ps st1 else .bad:=rfl
@[simp] theorem Yj9{r:MA}:eSto r ρ st=(r ρ st).bind fun ps st1=>.ok (.ref st1.length) (st1++[.lst ps]):=rfl
@[simp] theorem Yjn{r:MA}:eTupL r ρ st=(r ρ st).bind fun ps st1=>.ok (.tup ps) st1:=rfl
@[simp] theorem Yg8:eDict0 ρ st=.ok (.ref st.length) (st++[.dct []]):=rfl
@[simp] theorem x_eB{g:GC}{r:MA}:eB g r ρ st=(r ρ st).bind fun ps st1=>ofO (g ps st1):=rfl
@[simp] theorem Yky{a:ME}:eNeg a ρ st=(a ρ st).bind fun p st1=>match p with| .int i=>.ok (.int (-i)) st1|_=>.bad:=rfl
@[simp] theorem YiZ{n:Nat}{mf:MF}{r:MA}:eCall n mf r ρ st=(r ρ st).bind fun ps st1=>if ps.length=n then callR (mf ps st1) else .bad:=by unfold eCall callR;rfl
@[simp] theorem x_eM{ty:P->Stor->Bool}{g:GM}{a:ME}{r:MA}:eM ty g a r ρ st=(a ρ st).bind fun p st1=>if ty p st1=true then (r ρ st1).bind fun ps st2=>ofO (g p ps st2) else .bad:=rfl
@[simp] theorem Ylz{a:ME}{l h:MO}:eSl a l h ρ st=(a ρ st).bind fun p st1=>(l ρ st1).bind fun l st2=>(h ρ st2).bind fun u st3=>ofO (slP p l u st3):=rfl
@[simp] theorem Yjc:oNone ρ st=.ok none st:=rfl
@[simp] theorem YjB{a:ME}:oSome a ρ st=(a ρ st).bind fun p st1=>match p with| .int i=>.ok (some i) st1|_=>.bad:=rfl
@[simp] theorem YkZ:sNil ρ st=.nx ρ st:=rfl
@[simp] theorem W9{a b:MS}:sSeq a b ρ st=(a ρ st).seq b:=rfl
@[simp] theorem YkE{a:ME}:sRet a ρ st=RS.ofE ρ (a ρ st) fun p st1=>.rt p st1:=rfl
@[simp] theorem YiM{a:ME}:sDrop a ρ st=RS.ofE ρ (a ρ st) fun _ st1=>.nx ρ st1:=rfl
@[simp] theorem Ycy{i:Nat}{a:ME}:sSet i a ρ st=RS.ofE ρ (a ρ st) fun p st1=>.nx (ρ.set i (some p)) st1:=rfl
@[simp] theorem Yar{i:Nat}{a:MA}:sSetL i a ρ st=RS.ofE ρ (a ρ st) fun ps st1=>.nx (ρ.set i (some (.ref st1.length))) (st1++[.lst ps]):=rfl
@[simp] theorem YjJ{c:MT}{a b:MS}:sIf c a b ρ st=RS.ofE ρ (c ρ st) fun k st1=>if k=true then a ρ st1 else b ρ st1:=rfl
@[simp] theorem YjP{i:MI}{g:MG}{m:MS}:sFor i g m ρ st=RS.ofE ρ (i ρ st) fun src st1=>forN src g m src.n 0 ρ st1:=rfl
@[simp] theorem YkL{a:ME}{g:MG}:sTup a g ρ st=RS.ofE ρ (a ρ st) fun p st1=>match g p ρ st1 with|some ρ'=>.nx ρ' st1|none=>.bad:=rfl
@[simp] theorem YjT{o i e:ME}:sPut o i e ρ st=RS.ofE ρ (e ρ st) fun v st1=>RS.ofE ρ (o ρ st1) fun o st2=>RS.ofE ρ (i ρ st2) fun i st3=>match setP o i v st3 with|some st4=>.nx ρ st4|none=>.bad:=rfl
@[simp] theorem Ydo{i:Nat}{p:P}:mgName i p ρ st=some (ρ.set i (some p)):=rfl
@[simp] theorem Yjv:mgNil [] ρ st=some ρ:=rfl
@[simp] theorem Yg6{g:MG}{r:MGs}{p:P}{ps:List P}:mgCons g r (p::ps) ρ st=(g p ρ st).bind fun ρ1=>r ps ρ1 st:=rfl
@[simp] theorem Yjx{n:Nat}{r:MGs}{p:P}:mgTup n r p ρ st=match seqAt p st with|some xs=>if xs.length=n then r xs ρ st else none|none=>none:=rfl
@[simp] theorem Ydt{xs:List P}:seqAt (.tup xs) st=some xs:=rfl
@[simp] theorem Yeq{a:ME}:iVal a ρ st=(a ρ st).bind fun p st1=>match srcOf p st1 with|some s=>.ok s st1|none=>.bad:=rfl
@[simp] theorem Yc5{xs:List P}:srcOf (.tup xs) st=some (srcL xs):=rfl
@[simp] theorem YjK{z:Str}:srcOf (.str z) st=some (srcS z):=rfl
def rangeR(ps:List P)(st:Stor):R Src:=match ps with
 | [.int j]=>if small62 j=true then .ok (srcR 0 j.toNat) st else .bad
 | [.int i,.int j]=>if small62 i=true/\small62 j=true then .ok (srcR i (j - i).toNat) st else .bad
 |_=>.bad
theorem YfC{r:MA}:iRange r ρ st=(r ρ st).bind fun ps st1=>rangeR ps st1:=rfl
@[simp] theorem YgK{r:MA}:iRange r ρ st=(r ρ st).bind fun ps st1=>rangeR ps st1:=by rw[YfC]
theorem Yhg{i:Int}(h0: -1000000000<=i)(h1:i<=1000000000):small62 i=true:=by
 unfold small62
 rw[decide_eq_true (by omega),decide_eq_true (by omega)]
 rfl
theorem Yhl{j:Int}(h0: -1000000000<=j)(h1:j<=1000000000):rangeR [.int j] st=.ok (srcR 0 j.toNat) st:=by
 unfold rangeR
 dsimp only
 rw[if_pos (Yhg h0 h1)]
@[simp] theorem Ycx{i:MI}{n:Nat}{fr:List Nat}{g:MG}{nt:MT}{me:ME}:lComp i n fr g nt me ρ st=(i ρ st).bind fun src st1=>compN src g nt me (rho0 n fr ρ) src.n 0 st1 []:=rfl
@[simp] theorem YlP:nTrue ρ st=.ok true st:=rfl
@[simp] theorem Yhk{o:ME}{r:MA}:eJoinL o r ρ st=(o ρ st).bind fun p st1=>match p with
 | .str x=>(r ρ st1).bind fun ps st2=>joinR x ps st2
 |_=>.bad:=rfl
@[simp] theorem YgY{n:Nat}{m:MS}{ps:List P}:fnM n m ps st=retR (m (ps.map some++List.replicate (n - ps.length) none) st):=by unfold fnM retR;rfl
@[simp] theorem YjV{n:Nat}{fr:List Nat}:rho0 n fr ρ=List.replicate n none++fr.map fun k=>(ρ[k]?).join:=rfl
@[simp] theorem Ygs{i j:Int}:addP (.int i) (.int j) st=some (.int (i+j),st):=rfl
@[simp] theorem Ygc{i j:Int}:subP (.int i) (.int j) st=some (.int (i - j),st):=rfl
@[simp] theorem Yim{i j:Int}:ltP (.int i) (.int j) st=some (.bl (decide (i<j)),st):=rfl
@[simp] theorem YlI{i j:Int}:leP (.int i) (.int j) st=some (.bl (decide (i<=j)),st):=rfl
@[simp] theorem Yin{i j:Int}:gtP (.int i) (.int j) st=some (.bl (decide (j<i)),st):=rfl
@[simp] theorem Ylo{x y:Str}:ltP (.str x) (.str y) st=some (.bl (strLt x y),st):=rfl
@[simp] theorem YhR{x y:Str}:leP (.str x) (.str y) st=some (.bl (!strLt y x),st):=rfl
theorem Ylj{i j:Int}(h:0<j):modP (.int i) (.int j) st=some (.int (i % j),st):=by simp[modP,h,okP]
theorem YkO{i j:Int}(h:0<j)(h2:j<1073741824):fdivP (.int i) (.int j) st=some (.int (i / j),st):=by simp[fdivP,h,h2,okP]
theorem Ylw{i j:Int}(h: -(2 ^ 64)<j)(h2:j<2 ^ 64):mulP (.int i) (.int j) st=some (.int (i * j),st):=by
 have:small64 j=true:=by unfold small64;rw[decide_eq_true h,decide_eq_true h2];rfl
 simp[mulP,this,okP]
theorem Ykz{i j:Int}(h: -(2 ^ 64)<i)(h2:i<2 ^ 64):mulP (.int i) (.int j) st=some (.int (i * j),st):=by
 have:small64 i=true:=by unfold small64;rw[decide_eq_true h,decide_eq_true h2];rfl
 simp[mulP,this,okP]
theorem Ygl{x y:Str}(h:x.length+y.length<=1000000):addP (.str x) (.str y) st=some (.str (x++y),st):=by
 have:x.length+y.length<=cap:=h
 simp[addP,this,okP]
theorem Yga{x:Str}(h:x.length<=1000000):lenP [.str x] st=some (.int x.length,st):=by
 have:x.length<=cap:=h
 simp[lenP,this,okP]
@[simp] theorem YfE{xs:List P}:lenP [.tup xs] st=some (.int xs.length,st):=rfl
theorem YO{k:Nat}{xs:List P}(h:st[k]?=some (.lst xs)):lenP [.ref k] st=some (.int xs.length,st):=by simp[lenP,h,okP]
theorem Yg1{k:Nat}{xs:List P}(h:st[k]?=some (.ro xs)):lenP [.ref k] st=some (.int xs.length,st):=by simp[lenP,h,okP]
end
theorem Yfe{src:Src}{g:MG}{m:MS}(N:Nat)(I:Nat->Rho->Stor->Prop)(O:RS->Prop)
 (step:∀i ρ st,i<N->I i ρ st->∃p ρ1,src.nx i st=some (some p)/\g p ρ st=some ρ1/\match m ρ1 st with
  | .nx ρ' st'=>I (i+1) ρ' st'
  | .ct ρ' st'=>I (i+1) ρ' st'
  | .bk ρ' st'=>O (.nx ρ' st')
  |r=>O r)
 (stop:∀ρ st,I N ρ st->src.nx N st=some none/\O (.nx ρ st)):
 ∀(n i:Nat) ρ st,n+i=N->I i ρ st->O (forN src g m n i ρ st):=by
 intro n
 induction n with
 |zero=>
  intro i ρ st e h
  have e':i=N:=by omega
  subst e'
  obtain⟨h1,h2⟩:=stop ρ st h
  simp only[forN,h1]
  exact h2
 |succ n ih=>
  intro i ρ st e h
  obtain⟨p,ρ1,h1,h2,h3⟩:=step i ρ st (by omega) h
  simp only[forN,h1,h2]
  revert h3
  cases q:m ρ1 st with
  |nx ρ' st'=>intro h3;exact ih (i+1) ρ' st' (by omega) h3
  |ct ρ' st'=>intro h3;exact ih (i+1) ρ' st' (by omega) h3
  |bk ρ' st'=>intro h3;exact h3
  |rt p st'=>intro h3;exact h3
  |exc k ρ' st'=>intro h3;exact h3
  |bad=>intro h3;exact h3
theorem YhH{src:Src}{g:MG}{m:MS}{N:Nat}(I:Nat->Rho->Stor->Prop){ρ:Rho}{st:Stor}(h0:I 0 ρ st)
 (step:∀i ρ st,i<N->I i ρ st->∃p ρ1,src.nx i st=some (some p)/\g p ρ st=some ρ1/\∃ρ' st',m ρ1 st=.nx ρ' st'/\I (i+1) ρ' st')
 (stop:∀ρ st,I N ρ st->src.nx N st=some none):∃ρ' st',forN src g m N 0 ρ st=.nx ρ' st'/\I N ρ' st':=by
 have:=Yfe (src:=src) (g:=g) (m:=m) N I (fun r=>∃ρ' st',r=.nx ρ' st'/\I N ρ' st') (fun i ρ st hi h=>by
  obtain⟨p,ρ1,h1,h2,ρ',st',h3,h4⟩:=step i ρ st hi h
  refine⟨p,ρ1,h1,h2,?_⟩
  rw[h3]
  exact h4) (fun ρ st h=>⟨stop ρ st h,ρ,st,rfl,h⟩) N 0 ρ st (by omega) h0
 exact this
theorem Jt{src:Src}{g:MG}{nt:MT}{me:ME}{ρ0:Rho}{N:Nat}(I:Nat->Stor->List P->Prop){st:Stor}(h0:I 0 st [])
 (step:∀i st acc,i<N->I i st acc->∃p ρ1,src.nx i st=some (some p)/\g p ρ0 st=some ρ1/\
  ((∃st1,nt ρ1 st=.ok false st1/\I (i+1) st1 acc)\/∃st1 q st2,nt ρ1 st=.ok true st1/\me ρ1 st1=.ok q st2/\acc.length<cap/\I (i+1) st2 (acc++[q])))
 (stop:∀st acc,I N st acc->src.nx N st=some none):∃acc st',compN src g nt me ρ0 N 0 st []=.ok acc st'/\I N st' acc:=by
 have key:∀(n i:Nat) st acc,n+i=N->I i st acc->∃acc' st',compN src g nt me ρ0 n i st acc=.ok acc' st'/\I N st' acc':=by
  intro n
  induction n with
  |zero=>
   intro i st acc e h
   have e':i=N:=by omega
   subst e'
   exact⟨acc,st,by simp only[compN,stop st acc h],h⟩
  |succ n ih=>
   intro i st acc e h
   obtain⟨p,ρ1,h1,h2,h3⟩:=step i st acc (by omega) h
   rcases h3 with⟨st1,h3,h4⟩|⟨st1,q,st2,h3,h4,h5,h6⟩
   ·obtain⟨acc',st',e1,e2⟩:=ih (i+1) st1 acc (by omega) h4
    exact⟨acc',st',by simp only[compN,h1,h2,h3,e1],e2⟩
   ·obtain⟨acc',st',e1,e2⟩:=ih (i+1) st2 (acc++[q]) (by omega) h6
    exact⟨acc',st',by simp only[compN,h1,h2,h3,h4,if_pos h5,e1],e2⟩
 exact key N 0 st [] (by omega) h0
@[simp] theorem YeY{xs:List P}{i:Nat}{st:Stor}:(srcL xs).nx i st=some xs[i]?:=rfl
@[simp] theorem Yea{xs:List P}:(srcL xs).n=xs.length:=rfl
@[simp] theorem YhF{z:Str}:(srcS z).n=z.cps.size:=rfl
theorem Ye6{z:Str}{i:Nat}{st:Stor}(h:i<=z.cps.size):(srcS z).nx i st=some ((z.cps[i]?).map signP):=by
 unfold srcS
 dsimp only
 by_cases hi:i<z.cps.size
 ·rw[if_pos hi]
 ·have:i=z.cps.size:=by omega
  subst this
  simp
@[simp] theorem YkT{lo:Int}{n:Nat}:(srcR lo n).n=n:=rfl
@[simp] theorem Yfo{lo:Int}{n i:Nat}{st:Stor}:(srcR lo n).nx i st=some (if i<n then some (.int (lo+i)) else none):=rfl
@[simp] theorem YhU{k n:Nat}:(srcK k n).n=n:=rfl
theorem YjE{k n i:Nat}{st:Stor}{ys:List P}(h:listAt st k=some ys):(srcK k n).nx i st=some ys[i]?:=by
 unfold srcK
 unfold listAt at h
 dsimp only
 split at h <;> first|(cases h;rename_i e;simp only[e])|cases h
theorem YbJ{src:Src}{g:MG}{nt:MT}{me:ME}{ρ0:Rho}{st:Stor}{xs:List P}(t:P->Bool)(f:P->P)(hn:src.n=xs.length)(hx:∀i,i<=xs.length->src.nx i st=some xs[i]?)(hc:xs.length<=1000000)
 (h:∀p∈xs,∃ρ1,g p ρ0 st=some ρ1/\nt ρ1 st=.ok (t p) st/\(t p=true->me ρ1 st=.ok (f p) st)):compN src g nt me ρ0 src.n 0 st []=.ok ((xs.filter t).map f) st:=by
 obtain⟨acc,st',e,h1,h2,_⟩:=Jt (src:=src) (g:=g) (nt:=nt) (me:=me) (ρ0:=ρ0) (N:=xs.length) (fun i s acc=>s=st/\acc=((xs.take i).filter t).map f/\acc.length<=i) (st:=st) ⟨rfl,by simp,by simp⟩ (fun i s acc hi ⟨e1,e2,e3⟩=>by
  subst e1
  obtain⟨ρ1,g1,g2,g3⟩:=h xs[i] (List.getElem_mem hi)
  refine⟨xs[i],ρ1,by rw[hx i (by omega),List.getElem?_eq_getElem hi],g1,?_⟩
  have et:xs.take (i+1)=xs.take i++[xs[i]]:=by rw[List.take_add_one,List.getElem?_eq_getElem hi];rfl
  cases q:t xs[i]with
  |false=>exact .inl ⟨s,by rw[g2,q],rfl,by rw[et,List.filter_append,e2,List.filter_cons_of_neg (by rw[q];exact Bool.false_ne_true),List.filter_nil,List.append_nil],by omega⟩
  |true=>exact .inr ⟨s,f xs[i],s,by rw[g2,q],g3 q,by show _<1000000;omega,rfl,by rw[et,List.filter_append,e2,List.filter_cons_of_pos q,List.filter_nil,List.map_append,List.map_cons,List.map_nil],by rw[List.length_append,List.length_singleton];omega⟩) (fun s acc ⟨e1,_⟩=>by subst e1;rw[hx _ (Nat.le_refl _),List.getElem?_eq_none (Nat.le_refl _)])
 rw[hn,e,h1,h2,List.take_length]
def sT(l:List Nat):Str:=⟨l.toArray⟩
def tx(l:List Nat):P:=.str (sT l)
@[simp] theorem ZJ{l:List Nat}:(sT l).length=l.length:=by simp[sT,Str.length]
@[simp] theorem VW{l:List Nat}:(sT l).cps.toList=l:=rfl
@[simp] theorem Ye5{l:List Nat}:(sT l).cps.size=l.length:=by simp[sT]
@[simp] theorem YhC{l:List Nat}{i:Nat}:(sT l).cps[i]?=l[i]?:=by simp[sT]
theorem YaR{a b:List Nat}:sT a++sT b=sT (a++b):=by
 show (⟨a.toArray++b.toArray⟩:Str)=_
 simp[sT]
theorem sT_inj{a b:List Nat}:sT a=sT b↔a=b:=by
 constructor
 ·intro h
  have:=congrArg (fun s:Str=>s.cps.toList) h
  exact this
 ·rintro rfl;rfl
@[simp] theorem YiD{a b:List Nat}{st:Stor}(h:a.length+b.length<=1000000):addP (tx a) (tx b) st=some (tx (a++b),st):=by
 unfold tx
 rw[Ygl (by simpa using h),YaR]
theorem YgQ{a:List Nat}{st:Stor}(h:a.length<=1000000):lenP [tx a] st=some (.int a.length,st):=by
 unfold tx
 rw[Yga (by simpa using h)]
 simp
theorem Ylc{n:Nat}{i:Int}(h0:0<=i)(h1:i<n):ixN n i=some i.toNat:=by unfold ixN;rw[if_pos h0,if_pos h1]
theorem YcO{α:Type}{xs:List α}{i:Int}(h0:0<=i)(h1:i<xs.length):atI xs i=xs[i.toNat]?:=by unfold atI;rw[Ylc h0 h1];rfl
theorem YeZ{l:List Nat}{i:Int}{st:Stor}(h0:0<=i)(h1:i<l.length)(hc:l.length<=1000000):∃c,l[i.toNat]?=some c/\ixP (tx l) (.int i) st=some (tx [c],st):=by
 have hi:i.toNat<l.length:=by omega
 refine⟨l[i.toNat],by simp[hi],?_⟩
 have e:(sT l).length<=cap:=by rw[ZJ];exact hc
 show (if (sT l).length<=cap then (atI (sT l).cps.toList i).map fun c=>(P.str ⟨#[c]⟩,st) else none)=_
 rw[if_pos e,VW,YcO h0 h1,List.getElem?_eq_getElem hi]
 rfl
theorem V8{xs:List P}{i:Int}{st:Stor}{p:P}(h0:0<=i)(h:xs[i.toNat]?=some p):ixP (.tup xs) (.int i) st=some (p,st):=by
 have hi:i.toNat<xs.length:=(List.getElem?_eq_some_iff.mp h).1
 show (atI xs i).map (fun p=>(p,st))=_
 rw[YcO h0 (by omega),h]
 rfl
theorem WX{k:Nat}{xs:List P}{i:Int}{st:Stor}{p:P}(hk:st[k]?=some (.lst xs))(h0:0<=i)(h:xs[i.toNat]?=some p):ixP (.ref k) (.int i) st=some (p,st):=by
 have hi:i.toNat<xs.length:=(List.getElem?_eq_some_iff.mp h).1
 unfold ixP
 simp only[hk]
 show (atI xs i).map (fun p=>(p,st))=_
 rw[YcO h0 (by omega),h]
 rfl
theorem YiH{k:Nat}{xs:List P}{i:Int}{st:Stor}{p:P}(hk:st[k]?=some (.ro xs))(h0:0<=i)(h:xs[i.toNat]?=some p):ixP (.ref k) (.int i) st=some (p,st):=by
 have hi:i.toNat<xs.length:=(List.getElem?_eq_some_iff.mp h).1
 unfold ixP
 simp only[hk]
 show (atI xs i).map (fun p=>(p,st))=_
 rw[YcO h0 (by omega),h]
 rfl
@[simp] theorem YhB{i j:Int}{st:Stor}:eqP (.int i) (.int j) st=some (.bl (i == j),st):=rfl
@[simp] theorem Yd1{x y:Str}{st:Stor}:eqP (.str x) (.str y) st=some (.bl (x == y),st):=rfl
@[simp] theorem YlO{st:Stor}:eqP .non .non st=some (.bl true,st):=rfl
@[simp] theorem Ylf{i j:Int}{st:Stor}:neP (.int i) (.int j) st=some (.bl (!(i == j)),st):=rfl
@[simp] theorem Yde{x y:Str}{st:Stor}:neP (.str x) (.str y) st=some (.bl (!(x == y)),st):=rfl
theorem YiE{a b:List Nat}:(sT a == sT b)=decide (a=b):=by
 rw[Bool.eq_iff_iff]
 simp[sT_inj]
def isLow(c:Nat):Bool:=decide (97<=c) && decide (c<=122)
def isUp(c:Nat):Bool:=decide (65<=c) && decide (c<=90)
def isLet(c:Nat):Bool:=isLow c || isUp c
theorem JD{c:Nat}:isLow c=true↔97<=c/\c<=122:=by unfold isLow;simp
theorem YaS{c:Nat}:isUp c=true↔65<=c/\c<=90:=by unfold isUp;simp
theorem isLet_iff{c:Nat}:isLet c=true↔(97<=c/\c<=122)\/(65<=c/\c<=90):=by unfold isLet;rw[Bool.or_eq_true,JD,YaS]
theorem Vp{c:Nat}(h:isLet c=true):c<128:=by rw[isLet_iff]at h;omega
theorem Yfx:∀c,c<128->Unicode.isUpper c=isUp c:=by decide +kernel
theorem Ygz:∀c,c<128->Unicode.isLower c=isLow c:=by decide +kernel
theorem YfW:∀c,c<128->Unicode.isTitle c=false:=by decide +kernel
@[simp] theorem YiL{l:List Nat}{st:Stor}:isStr (tx l) st=true:=rfl
theorem WB{c:Nat}(h:isLow c=true):isUp c=false:=by
 rw[JD]at h
 rw[Bool.eq_false_iff,Ne,YaS]
 omega
theorem JR{a b:Nat}:strLt (sT [a]) (sT [b])=decide (a<b):=by
 unfold strLt
 show decide ([a]<[b])=decide (a<b)
 rw[Bool.eq_iff_iff,decide_eq_true_iff,decide_eq_true_iff,List.cons_lt_cons_iff]
 constructor
 ·rintro (h|⟨_,h⟩)
  ·exact h
  ·exact absurd h (List.not_lt_nil _)
 ·exact .inl
theorem J4(ls:List (List Nat)):Txt.join (sT []) (ls.map sT)=sT ls.flatten:=by
 unfold Txt.join
 rw[StrLaws.glued_eq_join]
 induction ls with
 |nil=>rfl
 |cons a r ih=>
  cases r with
  |nil=>simp[Str.join]
  |cons b r=>
   show sT a++sT []++Str.join (sT []) ((b::r).map sT)=_
   rw[ih,YaR,YaR]
   simp
theorem Jz:∀(ls:List (List Nat)),strsP (ls.map tx)=some (ls.map sT)
 | []=>rfl
 |a::r=>by
  show (strsP (r.map tx)).map (sT a::·)=_
  rw[Jz r]
  rfl
theorem Yab(ls:List (List Nat)):joinLen (sT []) (ls.map sT)=ls.flatten.length:=by
 unfold joinLen
 simp only[ZJ,List.length_nil,Nat.mul_zero,Nat.add_zero,List.map_map,List.length_flatten]
 rfl
def Grow(st st':Stor):Prop:=∃e,st'=st++e
theorem Grow.refl{st:Stor}:Grow st st:=⟨[],by simp⟩
theorem Grow.trans{a b c:Stor}(h:Grow a b)(h2:Grow b c):Grow a c:=by
 obtain⟨e,rfl⟩:=h
 obtain⟨f,rfl⟩:=h2
 exact⟨e++f,by simp⟩
theorem Grow.one{st:Stor}{o:O}:Grow st (st++[o]):=⟨_,rfl⟩
theorem Grow.get{a b:Stor}(h:Grow a b){k:Nat}{o:O}(e:a[k]?=some o):b[k]?=some o:=by
 obtain⟨f,rfl⟩:=h
 rw[List.getElem?_append_left (List.getElem?_eq_some_iff.mp e).1]
 exact e
theorem Grow.len{a b:Stor}(h:Grow a b):a.length<=b.length:=by
 obtain⟨f,rfl⟩:=h
 simp
theorem Grow.set{a b:Stor}(h:Grow a b){k:Nat}{o:O}(hk:a.length<=k):Grow a (b.set k o):=by
 obtain⟨f,rfl⟩:=h
 exact⟨f.set (k - a.length) o,by rw[List.set_append_right _ _ hk]⟩
theorem Grow.listAt{a b:Stor}(h:Grow a b){k:Nat}{xs:List P}(e:listAt a k=some xs):listAt b k=some xs:=by
 unfold Mi.listAt at *
 cases q:a[k]? with
 |none=>rw[q]at e;cases e
 |some o=>rw[q]at e;rw[h.get q];exact e
theorem Ye{st:Stor}{o:O}:(st++[o])[st.length]?=some o:=by simp
def tkey(l:List Nat):Key:=.inr (sT l)
theorem Ycn{l:List Nat}:keyP (tx l)=some (tkey l):=rfl
theorem Ya5{α β:Type}{f:α->β}{R:α->Prop}:∀{l:List β},(∀q∈l,∃c,q=f c/\R c)->∃ls:List α,l=ls.map f/\∀c∈ls,R c
 | [],_=>⟨[],rfl,by intro c hc;cases hc⟩
 |q::r,h=>by
  obtain⟨c,e,hc⟩:=h q (List.mem_cons_self ..)
  obtain⟨ls,e2,h2⟩:=Ya5 (l:=r) fun x hx=>h x (List.mem_cons_of_mem _ hx)
  refine⟨c::ls,by rw[e,e2];rfl,fun d hd=>?_⟩
  rcases List.mem_cons.mp hd with rfl|hd
  ·exact hc
  ·exact h2 d hd
theorem V6(ls:List Nat):(ls.map fun c=>[c]).flatten=ls:=by induction ls <;> simp_all
theorem YaF(ls:List Nat):strsP (ls.map fun c=>tx [c])=some ((ls.map fun c=>[c]).map sT):=by
 have:=Jz (ls.map fun c=>[c])
 rw[List.map_map]at this
 exact this
theorem ZZ:("":Str)=sT []:=by decide +kernel
theorem ZH{ls:List (List Nat)}{st:Stor}(h:ls.flatten.length<=1000000):joinR (sT []) (ls.map tx) st=.ok (tx ls.flatten) st:=by
 unfold joinR
 rw[Jz]
 dsimp only
 rw[Yab,if_pos (show _<=cap from h),J4]
 rfl
theorem VI{ls:List Nat}{st:Stor}(h:ls.length<=1000000):joinR (sT []) (ls.map fun c=>tx [c]) st=.ok (tx ls) st:=by
 unfold joinR
 rw[YaF]
 dsimp only
 rw[Yab,V6,if_pos (show _<=cap from h),J4,V6]
 rfl
theorem Yka{n:Nat}:(n<=cap)=(n<=1000000):=rfl
theorem tkey_inj{a b:List Nat}:tkey a=tkey b↔a=b:=by
 unfold tkey
 constructor
 ·intro h;exact sT_inj.mp (Sum.inr.inj h)
 ·rintro rfl;rfl
theorem Ych{kvs:List (Key×P)}{k k':Key}{v:P}:((kvs.map fun kv=>if kv.1=k then (kv.1,v) else kv).find? fun kv=>decide (kv.1=k')).map (·.2)=if k=k' then (if (kvs.any fun kv=>decide (kv.1=k))=true then some v else none) else (kvs.find? fun kv=>decide (kv.1=k')).map (·.2):=by
 induction kvs with
 |nil=>simp
 |cons a r ih=>
  rw[List.map_cons,List.find?_cons,List.find?_cons,List.any_cons]
  by_cases h1:a.1=k
  ·by_cases h2:k=k'
   ·subst h2;simp[h1]
   ·have h3:¬a.1=k':=by rw[h1];exact h2
    simp only[h1,if_true,h2,decide_false,if_false]at ih ⊢
    rw[ih]
  ·by_cases h2:a.1=k'
   ·have h3:¬k=k':=fun e=>h1 (h2.trans e.symm)
    rw[if_neg h1,decide_eq_true h2,if_neg h3]
   ·simp only[h1,if_false,h2,decide_false,Bool.false_or]
    exact ih
theorem V3{kvs:List (Key×P)}{k k':Key}{v:P}:valP (putP kvs k v) k'=if k=k' then some v else valP kvs k':=by
 unfold putP valP
 by_cases h:(kvs.any fun kv=>decide (kv.1=k))=true
 ·rw[if_pos h,Ych,if_pos h]
 ·rw[if_neg h,List.find?_append]
  by_cases h2:k=k'
  ·subst h2
   have:kvs.find? (fun kv=>decide (kv.1=k))=none:=by
    rw[List.find?_eq_none]
    intro x hx hd
    exact h (List.any_eq_true.mpr ⟨x,hx,hd⟩)
   rw[this,if_pos rfl]
   simp
  ·rw[if_neg h2]
   simp[h2]
theorem valP_none{kvs:List (Key×P)}{k:Key}:valP kvs k=none↔(kvs.any fun kv=>decide (kv.1=k))=false:=by
 unfold valP
 rw[Option.map_eq_none_iff,List.find?_eq_none,List.any_eq_false]
theorem Ycu{kvs:List (Key×P)}{k:Key}{v:P}:(putP kvs k v).length=if valP kvs k=none then kvs.length+1 else kvs.length:=by
 unfold putP
 by_cases h:(kvs.any fun kv=>decide (kv.1=k))=true
 ·rw[if_pos h,if_neg (fun e=>by rw[valP_none.mp e]at h;cases h),List.length_map]
 ·rw[if_neg h,if_pos (valP_none.mpr (Bool.eq_false_iff.mpr h)),List.length_append];rfl
theorem Yfn{st:Stor}{ρ:Rho}{d k x:ME}{n:Nat}{kvs:List (Key×P)}{l:List Nat}{z:P}(h1:d ρ st=.ok (.ref n) st)(h2:k ρ st=.ok (tx l) st)(h3:x ρ st=.ok z st)(h:st[n]?=some (.dct kvs)):eGet d k x ρ st=.ok ((valP kvs (tkey l)).getD z) st:=by
 unfold eGet
 simp only[h1,h2,h3,R.bind_ok,h,Ycn]
theorem Ydd{st:Stor}{n:Nat}{kvs:List (Key×P)}{l:List Nat}(h:st[n]?=some (.dct kvs)):inP (tx l) (.ref n) st=some (.bl (valP kvs (tkey l)).isSome,st):=by
 unfold inP tx
 simp only[h]
 rfl
theorem Wk{st:Stor}{n:Nat}{kvs:List (Key×P)}{l:List Nat}{v:P}(h:st[n]?=some (.dct kvs))(hl:kvs.length<1000000):setP (.ref n) (tx l) v st=some (st.set n (.dct (putP kvs (tkey l) v))):=by
 unfold setP
 have:kvs.length<cap:=hl
 simp only[h,Ycn,if_pos this]
theorem Wg{st:Stor}{n:Nat}{xs:List P}{v:P}(h:st[n]?=some (.lst xs))(hl:xs.length<1000000):appendP (.ref n) [v] st=some (.non,st.set n (.lst (xs++[v]))):=by
 unfold appendP lstAt
 have:xs.length<cap:=hl
 simp only[h,if_pos this]
theorem Wx{st:Stor}{n:Nat}{xs:List P}(h:st[n]?=some (.lst xs)):isLst (.ref n) st=true:=by
 unfold isLst
 simp only[h]
theorem Yw{st:Stor}{n:Nat}{xs:List P}(h:listAt st n=some xs):srcOf (.ref n) st=some (srcK n xs.length):=by
 unfold listAt at h
 unfold srcOf
 dsimp only
 split at h <;> first|(cases h;rename_i e;simp only[e])|cases h
theorem Yd{st:Stor}{k:Nat}{xs:List P}(h:st[k]?=some (.lst xs)):listAt st k=some xs:=by unfold listAt;rw[h]
theorem Yfq{st:Stor}{k:Nat}{xs:List P}(h:st[k]?=some (.ro xs)):listAt st k=some xs:=by unfold listAt;rw[h]
theorem YbM{st:Stor}{k:Nat}{xs:List P}(h:listAt st k=some xs):seqAt (.ref k) st=some xs:=by
 unfold listAt at h
 unfold seqAt
 dsimp only
 split at h <;> first|(cases h;rename_i e;simp only[e])|cases h
section
variable{ρ:Rho}{st:Stor}
theorem Yk7{i j:Int}(h: -(2 ^ 64)<j)(h2:j<2 ^ 64):mul2P (.int i) (.int j) st=some (.int (i * j),st):=Ylw h h2
theorem Yjz{i j:Int}(h: -(2 ^ 64)<i)(h2:i<2 ^ 64):mul2P (.int i) (.int j) st=some (.int (i * j),st):=Ykz h h2
theorem YaH{α:Type}{f:α->Bool}:∀(l:List α),blsP (l.map fun x=>P.bl (f x))=some (l.map f)
 | []=>rfl
 |a::r=>by
  show (blsP (r.map fun x=>P.bl (f x))).map (f a::·)=_
  rw[YaH r]
  rfl
def allR(ps:List P)(st:Stor):R P:=match blsP ps with
 |some bs=>.ok (.bl (bs.all id)) st
 |none=>.bad
def anyR(ps:List P)(st:Stor):R P:=match blsP ps with
 |some bs=>.ok (.bl (bs.any id)) st
 |none=>.bad
theorem Yjb{m:MA}:eAllL m ρ st=(m ρ st).bind fun ps st1=>allR ps st1:=rfl
theorem Yjs{m:MA}:eAnyL m ρ st=(m ρ st).bind fun ps st1=>anyR ps st1:=rfl
theorem Yew{α:Type}{f:α->Bool}{l:List α}:allR (l.map fun x=>P.bl (f x)) st=.ok (.bl (l.all f)) st:=by
 unfold allR
 rw[YaH]
 dsimp only
 rw[List.all_map]
 rfl
theorem Yg0{α:Type}{f:α->Bool}{l:List α}:anyR (l.map fun x=>P.bl (f x)) st=.ok (.bl (l.any f)) st:=by
 unfold anyR
 rw[YaH]
 dsimp only
 rw[List.any_map]
 rfl
theorem Ylh{i j:Int}:minP [.int i,.int j] st=some (.int (if j<i then j else i),st):=rfl
end
open Builtin.Str (occurrences partsBetween strSub strKind subAt)
section
variable{ρ:Rho}{st:Stor}
theorem Vh{k:Nat}{xs:List P}(h:listAt st k=some xs):tupleP [.ref k] st=some (.tup xs,st):=by
 unfold tupleP
 dsimp only
 rw[YbM h]
 rfl
end
section
variable{ρ:Rho}{st:Stor}
end
section
variable{st:Stor}
theorem Yjy{a b:List Nat}:eqP (tx a) (tx b) st=some (.bl (decide (a=b)),st):=by
 unfold tx;rw[Yd1,YiE]
theorem Yjm{a b:List Nat}:neP (tx a) (tx b) st=some (.bl (!decide (a=b)),st):=by
 unfold tx;rw[Yde,YiE]
def pureP:Nat->P->Bool
 |_,.non=>true
 |_,.int _=>true
 |_,.str _=>true
 |n+1,.tup xs=>xs.all (pureP n)
 |_,_=>false
def dat:Nat->P->PyData
 |_,.non=>.none
 |_,.bl b=>.bool b
 |_,.int i=>.int i
 |_,.str x=>.str x
 |n+1,.tup xs=>.tuple (xs.map (dat n))
 |_,_=>.none
theorem Jn{n:Nat}(ih:∀p,pureP n p=true->snap n st p=some (dat n p)):∀xs:List P,xs.all (pureP n)=true->xs.mapM (snap n st)=some (xs.map (dat n))
 | [],_=>rfl
 |x::xs,h=>by
  rw[List.all_cons,Bool.and_eq_true]at h
  rw[List.mapM_cons,ih x h.1,Jn ih xs h.2]
  rfl
theorem ZI:∀{n:Nat}{p:P},pureP n p=true->snap n st p=some (dat n p)
 | 0,.non,_=>rfl
 | 0,.int _,_=>rfl
 | 0,.str _,_=>rfl
 |_+1,.non,_=>rfl
 |_+1,.int _,_=>rfl
 |_+1,.str _,_=>rfl
 |n+1,.tup xs,h=>by
  have h':xs.all (pureP n)=true:=h
  show (xs.mapM (snap n st)).map PyData.tuple=some (.tuple (xs.map (dat n)))
  rw[Jn (fun p hp=>ZI (n:=n) hp) xs h']
  rfl
theorem YaN{n:Nat}(ih:∀p q,pureP n p=true->pureP n q=true->(PyData.eqv (dat n p) (dat n q)=true↔p=q)):
 ∀xs ys:List P,xs.all (pureP n)=true->ys.all (pureP n)=true->(PyData.eqvAll (xs.map (dat n)) (ys.map (dat n))=true↔xs=ys)
 | [],[],_,_=>by simp[PyData.eqvAll]
 | [],_::_,_,_=>by simp[PyData.eqvAll]
 |_::_,[],_,_=>by simp[PyData.eqvAll]
 |x::xs,y::ys,h1,h2=>by
  rw[List.all_cons,Bool.and_eq_true]at h1 h2
  rw[List.map_cons,List.map_cons,PyData.eqvAll,Bool.and_eq_true,ih x y h1.1 h2.1,YaN ih xs ys h1.2 h2.2,List.cons.injEq]
theorem YeW:∀{n:Nat}{p q:P},pureP n p=true->pureP n q=true->(PyData.eqv (dat n p) (dat n q)=true↔p=q):=by
 intro n
 induction n with
 |zero=>
  intro p q h1 h2
  cases p <;> first|(cases h1;done)|skip
  all_goals (cases q <;> first|(cases h2;done)|simp[dat,PyData.eqv])
 |succ n ih=>
  intro p q h1 h2
  cases p <;> first|(cases h1;done)|skip
  all_goals (cases q <;> first|(cases h2;done)|skip)
  all_goals first
   |(rename_i xs ys
     have h1':xs.all (pureP n)=true:=h1
     have h2':ys.all (pureP n)=true:=h2
     show PyData.eqv (.tuple (xs.map (dat n))) (.tuple (ys.map (dat n)))=true↔_
     rw[PyData.eqv,YaN (fun p q=>ih) xs ys h1' h2',P.tup.injEq])
   |simp[dat,PyData.eqv]
theorem Yby{p q:P}(hp:pureP 8 p=true)(hq:pureP 8 q=true):∃b,eqP p q st=some (.bl b,st)/\(b=true↔p=q):=by
 refine⟨PyData.eqv (dat 8 p) (dat 8 q),?_,YeW hp hq⟩
 unfold eqP eqB deep
 rw[ZI hp,ZI hq]
 rfl
theorem Vt{p q:P}(hp:pureP 8 p=true)(hq:pureP 8 q=true):∃b,neP p q st=some (.bl (!b),st)/\(b=true↔p=q):=by
 refine⟨PyData.eqv (dat 8 p) (dat 8 q),?_,YeW hp hq⟩
 unfold neP eqB deep
 rw[ZI hp,ZI hq]
 rfl
theorem YfX{p:P}(hp:pureP 8 p=true):neP p p st=some (.bl false,st):=by
 obtain⟨b,e,h⟩:=Vt (st:=st) hp hp
 rw[e,h.mpr rfl]
 rfl
theorem YbE{b:Bool}{a:Prop}(h:b=true↔a)(ha:¬a):b=false:=by
 cases b with
 |false=>rfl
 |true=>exact absurd (h.mp rfl) ha
end
section
variable{st:Stor}
end
section
variable{α:Type}{src:Src}{g:MG}{nt:MT}{me:ME}{m:MS}{ρ0 ρ:Rho}{st:Stor}{N:Nat}
theorem Zx(xs:List α)(enc:α->P)(t:α->Bool)(f:α->P)(hn:N=xs.length)(hx:∀i,i<=xs.length->src.nx i st=some (xs[i]?.map enc))(hc:xs.length<=1000000)
 (h:∀a∈xs,∃ρ1,g (enc a) ρ0 st=some ρ1/\nt ρ1 st=.ok (t a) st/\(t a=true->me ρ1 st=.ok (f a) st)):compN src g nt me ρ0 N 0 st []=.ok ((xs.filter t).map f) st:=by
 obtain⟨acc,st',e,h1,h2,_⟩:=Jt (src:=src) (g:=g) (nt:=nt) (me:=me) (ρ0:=ρ0) (N:=xs.length) (fun i s acc=>s=st/\acc=((xs.take i).filter t).map f/\acc.length<=i) (st:=st) ⟨rfl,by simp,by simp⟩ (fun i s acc hi ⟨e1,e2,e3⟩=>by
  subst e1
  obtain⟨ρ1,g1,g2,g3⟩:=h xs[i] (List.getElem_mem hi)
  refine⟨enc xs[i],ρ1,by rw[hx i (by omega),List.getElem?_eq_getElem hi];rfl,g1,?_⟩
  have et:xs.take (i+1)=xs.take i++[xs[i]]:=by rw[List.take_add_one,List.getElem?_eq_getElem hi];rfl
  cases q:t xs[i]with
  |false=>exact .inl ⟨s,by rw[g2,q],rfl,by rw[et,List.filter_append,e2,List.filter_cons_of_neg (by rw[q];exact Bool.false_ne_true),List.filter_nil,List.append_nil],by omega⟩
  |true=>exact .inr ⟨s,f xs[i],s,by rw[g2,q],g3 q,by show _<1000000;omega,rfl,by rw[et,List.filter_append,e2,List.filter_cons_of_pos q,List.filter_nil,List.map_append,List.map_cons,List.map_nil],by rw[List.length_append,List.length_singleton];omega⟩)
  (fun s acc ⟨e1,_⟩=>by subst e1;rw[hx _ (Nat.le_refl _),List.getElem?_eq_none (Nat.le_refl _)];rfl)
 rw[hn,e,h1,h2,List.take_length]
theorem YU(xs:List α)(enc:α->P)(f:α->P)(hn:N=xs.length)(hx:∀i,i<=xs.length->src.nx i st=some (xs[i]?.map enc))(hc:xs.length<=1000000)
 (h:∀a∈xs,∃ρ1,g (enc a) ρ0 st=some ρ1/\me ρ1 st=.ok (f a) st):compN src g nTrue me ρ0 N 0 st []=.ok (xs.map f) st:=by
 rw[Zx (nt:=nTrue) xs enc (fun _=>true) f hn hx hc fun a ha=>let ⟨ρ1,h1,h2⟩:=h a ha;⟨ρ1,h1,rfl,fun _=>h2⟩]
 rw[List.filter_eq_self.mpr fun _ _=>rfl]
theorem JM(xs:List α)(enc:α->P)(f:α->P)(I:Stor->Prop)(hn:N=xs.length)(hx:∀i s,i<=xs.length->I s->Grow st s->src.nx i s=some (xs[i]?.map enc))(hc:xs.length<=1000000)(h0:I st)
 (h:∀a∈xs,∀s,I s->Grow st s->∃ρ1 s',g (enc a) ρ0 s=some ρ1/\me ρ1 s=.ok (f a) s'/\I s'/\Grow s s'):∃s',compN src g nTrue me ρ0 N 0 st []=.ok (xs.map f) s'/\I s'/\Grow st s':=by
 obtain⟨acc,st',e,h1,h2,h3,_⟩:=Jt (src:=src) (g:=g) (nt:=nTrue) (me:=me) (ρ0:=ρ0) (N:=xs.length) (fun i s acc=>I s/\Grow st s/\acc=(xs.take i).map f/\acc.length<=i) (st:=st) ⟨h0,Grow.refl,by simp,by simp⟩ (fun i s acc hi ⟨e0,e1,e2,e3⟩=>by
  obtain⟨ρ1,s',g1,g2,g3,g4⟩:=h xs[i] (List.getElem_mem hi) s e0 e1
  refine⟨enc xs[i],ρ1,by rw[hx i s (by omega) e0 e1,List.getElem?_eq_getElem hi];rfl,g1,?_⟩
  have et:xs.take (i+1)=xs.take i++[xs[i]]:=by rw[List.take_add_one,List.getElem?_eq_getElem hi];rfl
  exact .inr ⟨s,f xs[i],s',rfl,g2,by show _<1000000;omega,g3,e1.trans g4,by rw[et,e2,List.map_append,List.map_cons,List.map_nil],by rw[List.length_append,List.length_singleton];omega⟩)
  (fun s acc ⟨e0,e1,_⟩=>by rw[hx _ s (Nat.le_refl _) e0 e1,List.getElem?_eq_none (Nat.le_refl _)];rfl)
 rw[List.take_length]at h3
 exact⟨st',by rw[hn,e,h3],h1,h2⟩
theorem Zw(xs:List α)(enc:α->P)(I:Nat->Rho->Stor->Prop)(hn:N=xs.length)(hx:∀i ρ s,i<=xs.length->I i ρ s->src.nx i s=some (xs[i]?.map enc))(h0:I 0 ρ st)
 (step:∀i (hi:i<xs.length) ρ s,I i ρ s->∃ρ1,g (enc xs[i]) ρ s=some ρ1/\∃ρ' s',m ρ1 s=.nx ρ' s'/\I (i+1) ρ' s'):∃ρ' s',forN src g m N 0 ρ st=.nx ρ' s'/\I xs.length ρ' s':=by
 rw[hn]
 refine YhH I h0 (fun i ρ s hi h=>?_) (fun ρ s h=>by rw[hx _ ρ s (Nat.le_refl _) h,List.getElem?_eq_none (Nat.le_refl _)];rfl)
 obtain⟨ρ1,g1,r⟩:=step i hi ρ s h
 exact⟨enc xs[i],ρ1,by rw[hx i ρ s (by omega) h,List.getElem?_eq_getElem hi];rfl,g1,r⟩
end
section
variable{α:Type}{st:Stor}{i:Nat}
theorem nxS{l:List Nat}(hi:i<=l.length):(srcS (sT l)).nx i st=some (l[i]?.map fun c=>tx [c]):=by
 rw[Ye6 (by simpa using hi),YhC]
 rfl
theorem nxL{xs:List α}{enc:α->P}:(srcL (xs.map enc)).nx i st=some (xs[i]?.map enc):=by
 rw[YeY,List.getElem?_map]
theorem nxR{lo:Int}{n:Nat}:(srcR lo n).nx i st=some ((List.range n)[i]?.map fun (k:Nat)=>P.int (lo+k)):=by
 rw[Yfo]
 by_cases h:i<n
 ·rw[if_pos h,List.getElem?_range h];rfl
 ·rw[if_neg h,List.getElem?_eq_none (by simpa using h)];rfl
theorem nxK{k n:Nat}{xs:List α}{enc:α->P}(h:listAt st k=some (xs.map enc)):(srcK k n).nx i st=some (xs[i]?.map enc):=by
 rw[YjE h,List.getElem?_map]
theorem YeP{l:List Nat}:srcOf (tx l) st=some (srcS (sT l)):=rfl
theorem YhS{l:List Nat}:(srcS (sT l)).n=l.length:=by rw[YhF,Ye5]
theorem Ylx{a:P}{r:List P}:ixP (.tup (a::r)) (.int 0) st=some (a,st):=V8 (by omega) rfl
theorem YdS{a b:P}{r:List P}:ixP (.tup (a::b::r)) (.int 1) st=some (b,st):=V8 (by omega) rfl
theorem YlE{a b c:P}{r:List P}:ixP (.tup (a::b::c::r)) (.int 2) st=some (c,st):=V8 (by omega) rfl
end
theorem YeD{α:Type}{xs:List α}{t:α->Bool}{i:Nat}(hi:i<xs.length)(h:∀b∈xs.take i,t b=false)(q:t xs[i]=true):xs.find? t=some xs[i]:=by
 have hd:=List.drop_eq_getElem_cons hi
 generalize xs[i]=a at *
 have e:xs.find? t=(xs.take i++xs.drop i).find? t:=by rw[List.take_append_drop]
 rw[e,List.find?_append,List.find?_eq_none.mpr (fun b hb=>by rw[h b hb];exact Bool.false_ne_true),Option.none_or,hd,List.find?_cons_of_pos q]
section
variable{α:Type}{src:Src}{g:MG}{m:MS}{ρ:Rho}{st:Stor}{N:Nat}
theorem Ygk(xs:List α)(enc:α->P)(t:α->Bool)(v:α->P)(I:Rho->Stor->Prop)(J:Stor->Prop)(hn:N=xs.length)(hx:∀i ρ s,i<=xs.length->I ρ s->src.nx i s=some (xs[i]?.map enc))(h0:I ρ st)
 (step:∀j (hj:j<xs.length) ρ s,(∀b∈xs.take j,t b=false)->I ρ s->∃ρ1,g (enc xs[j]) ρ s=some ρ1/\(t xs[j]=true->∃s',m ρ1 s=.rt (v xs[j]) s'/\J s')/\(t xs[j]=false->∃ρ' s',m ρ1 s=.nx ρ' s'/\I ρ' s')):
 (∃a s',xs.find? t=some a/\forN src g m N 0 ρ st=.rt (v a) s'/\J s')\/(xs.find? t=none/\∃ρ' s',forN src g m N 0 ρ st=.nx ρ' s'/\I ρ' s'):=by
 rw[hn]
 refine Yfe (src:=src) (g:=g) (m:=m) xs.length (fun i ρ s=>I ρ s/\∀b∈xs.take i,t b=false)
  (fun r=>(∃a s',xs.find? t=some a/\r=.rt (v a) s'/\J s')\/(xs.find? t=none/\∃ρ' s',r=.nx ρ' s'/\I ρ' s')) (fun i ρ s hi ⟨h1,h2⟩=>?_) (fun ρ s ⟨h1,h2⟩=>?_) xs.length 0 ρ st (by omega) ⟨h0,by simp⟩
 ·obtain⟨ρ1,g1,g2,g3⟩:=step i hi ρ s h2 h1
  refine⟨enc xs[i],ρ1,by rw[hx i ρ s (by omega) h1,List.getElem?_eq_getElem hi];rfl,g1,?_⟩
  cases q:t xs[i]with
  |true=>
   obtain⟨s',e1,e2⟩:=g2 q
   rw[e1]
   exact .inl ⟨xs[i],s',YeD hi h2 q,rfl,e2⟩
  |false=>
   obtain⟨ρ',s',e1,e2⟩:=g3 q
   rw[e1]
   refine⟨e2,fun b hb=>?_⟩
   rw[List.take_add_one,List.getElem?_eq_getElem hi,List.mem_append]at hb
   rcases hb with hb|hb
   ·exact h2 b hb
   ·rw[show b=xs[i] by simpa using hb];exact q
 ·rw[List.take_length]at h2
  exact⟨by rw[hx _ ρ s (Nat.le_refl _) h1,List.getElem?_eq_none (Nat.le_refl _)];rfl,.inr ⟨List.find?_eq_none.mpr fun b hb=>by rw[h2 b hb];exact Bool.false_ne_true,ρ,s,rfl,h1⟩⟩
theorem Ygt{t:α->Bool}{l:List α}:(l.filter t).isEmpty= !l.any t:=by
 induction l with
 |nil=>rfl
 |cons a l ih=>
  rw[List.any_cons,List.filter_cons]
  cases q:t a with
  |true=>simp
  |false=>rw[Bool.false_or,<-ih];simp
end
section
variable{α:Type}{st:Stor}
theorem Ji{k:Nat}{xs:List α}{f:α->P}{i:Int}(hk:st[k]?=some (.lst (xs.map f)))(h0:0<=i)(h1:i<xs.length):∃a∈xs,ixP (.ref k) (.int i) st=some (f a,st):=by
 have hl:i.toNat<xs.length:=by omega
 exact⟨xs[i.toNat],List.getElem_mem hl,WX hk h0 (by rw[List.getElem?_map,List.getElem?_eq_getElem hl];rfl)⟩
theorem Yhy{xs:List P}{b:Nat}:cutP xs none (some (b:Int))=xs.take b:=by
 unfold cutP
 rw[HT.sIx_nat,HT.sIx_none,List.drop_zero,Nat.sub_zero]
 by_cases h:b<=xs.length
 ·rw[Nat.min_eq_left h]
 ·rw[Nat.min_eq_right (by omega),List.take_of_length_le (Nat.le_refl _),List.take_of_length_le (by omega)]
theorem YhA{xs:List P}{a:Nat}:cutP xs (some (a:Int)) none=xs.drop a:=by
 unfold cutP
 rw[HT.sIx_nat,HT.sIx_none]
 by_cases h:a<=xs.length
 ·rw[Nat.min_eq_left h,List.take_of_length_le (by rw[List.length_drop];omega)]
 ·rw[Nat.min_eq_right (by omega),List.drop_of_length_le (Nat.le_refl _),List.drop_of_length_le (by omega),List.take_nil]
theorem YdI{k:Nat}{xs:List P}{lo hi:Option Int}(h:st[k]?=some (.lst xs))(hl:xs.length<=1000000):slP (.ref k) lo hi st=some (.ref st.length,st++[.lst (cutP xs lo hi)]):=by
 unfold slP
 simp only[h]
 unfold newL
 rw[if_pos]
 show _<=1000000
 unfold cutP
 rw[List.length_take,List.length_drop]
 omega
theorem Wj{k l:Nat}{xs ys:List P}(h1:st[k]?=some (.lst xs))(h2:st[l]?=some (.lst ys))(hl:xs.length+ys.length<=1000000):addP (.ref k) (.ref l) st=some (.ref st.length,st++[.lst (xs++ys)]):=by
 have e1:lstAt st k=some xs:=by unfold lstAt;rw[h1]
 have e2:lstAt st l=some ys:=by unfold lstAt;rw[h2]
 show (match lstAt st k,lstAt st l with|some xs,some ys=>newL (xs++ys) st|_,_=>none)=_
 rw[e1,e2]
 show newL (xs++ys) st=_
 unfold newL
 rw[if_pos]
 show _<=1000000
 rw[List.length_append]
 exact hl
end
theorem Yko(a:Nat)(u:Option Int)(n:Nat):Builtin.Str.strSliceIndices (some (a:Int)) u 1 n=Builtin.Str.strSliceIndices (some ((min a n:Nat):Int)) u 1 n:=by
 have e:max (0:Int) (min (if (a:Int)<0 then (a:Int)+n else a) n)=max 0 (min (if ((min a n:Nat):Int)<0 then ((min a n:Nat):Int)+n else ((min a n:Nat):Int)) n):=by
  rw[if_neg (by omega),if_neg (by omega)];omega
 unfold Builtin.Str.strSliceIndices
 simp only[show (1:Int) > 0 by decide,if_true]
 rw[e]
theorem YkY(l:Option Int)(b:Nat)(n:Nat):Builtin.Str.strSliceIndices l (some (b:Int)) 1 n=Builtin.Str.strSliceIndices l (some ((min b n:Nat):Int)) 1 n:=by
 have e:max (0:Int) (min (if (b:Int)<0 then (b:Int)+n else b) n)=max 0 (min (if ((min b n:Nat):Int)<0 then ((min b n:Nat):Int)+n else ((min b n:Nat):Int)) n):=by
  rw[if_neg (by omega),if_neg (by omega)];omega
 unfold Builtin.Str.strSliceIndices
 simp only[show (1:Int) > 0 by decide,if_true]
 rw[e]
theorem Zv(x:Str)(l u:Option Int):Txt.slice x l u=StrLaws.sliceText x l u:=by
 first|rfl|(unfold Txt.slice StrLaws.sliceText;rfl)
theorem YdR(x:Str)(a:Nat)(u:Option Int):Txt.slice x (some (a:Int)) u=Txt.slice x (some ((min a x.length:Nat):Int)) u:=by
 rw[Zv,Zv]
 unfold StrLaws.sliceText
 rw[Yko]
theorem YdX(x:Str)(l:Option Int)(b:Nat):Txt.slice x l (some (b:Int))=Txt.slice x l (some ((min b x.length:Nat):Int)):=by
 rw[Zv,Zv]
 unfold StrLaws.sliceText
 rw[YkY]
theorem Yeg(l:List Nat)(a:Nat):Txt.slice (sT l) (some (a:Int)) none=sT (l.drop a):=by
 rw[YdR,Zv,StrLaws.sliceText_from (by rw[VW,ZJ];omega),VW,ZJ]
 have e:(l.drop ((min a l.length:Nat):Int).toNat).take ((l.length:Int) - ((min a l.length:Nat):Int)).toNat=l.drop a:=by
  rw[Int.toNat_natCast]
  by_cases h:a<=l.length
  ·rw[Nat.min_eq_left h,List.take_of_length_le (by rw[List.length_drop];omega)]
  ·rw[Nat.min_eq_right (by omega),List.drop_of_length_le (Nat.le_refl _),List.drop_of_length_le (by omega),List.take_nil]
 rw[e]
 rfl
theorem Yhz(l:List Nat)(b:Nat):Txt.slice (sT l) none (some (b:Int))=sT (l.take b):=by
 rw[YdX,Zv,StrLaws.sliceText_to (by rw[VW,ZJ];omega),VW,ZJ]
 have e:(l.drop 0).take (((min b l.length:Nat):Int) - 0).toNat=l.take b:=by
  rw[List.drop_zero,Int.sub_zero,Int.toNat_natCast]
  by_cases h:b<=l.length
  ·rw[Nat.min_eq_left h]
  ·rw[Nat.min_eq_right (by omega),List.take_of_length_le (Nat.le_refl _),List.take_of_length_le (by omega)]
 rw[e]
 rfl
theorem YgD(l:List Nat)(a b:Nat)(hab:a<=b):Txt.slice (sT l) (some (a:Int)) (some (b:Int))=sT ((l.drop a).take (b - a)):=by
 rw[YdR,YdX,Zv,StrLaws.sliceText_plain (by rw[VW,ZJ];omega),VW,ZJ]
 have e:(l.drop ((min a l.length:Nat):Int).toNat).take (((min b l.length:Nat):Int) - ((min a l.length:Nat):Int)).toNat=(l.drop a).take (b - a):=by
  rw[Int.toNat_natCast]
  by_cases h:a<=l.length
  ·rw[Nat.min_eq_left h]
   by_cases h2:b<=l.length
   ·rw[Nat.min_eq_left h2];congr 1;omega
   ·rw[Nat.min_eq_right (by omega),List.take_of_length_le (by rw[List.length_drop];omega),List.take_of_length_le (by rw[List.length_drop];omega)]
  ·rw[Nat.min_eq_right (show l.length<=b by omega),Nat.min_eq_right (show l.length<=a by omega),List.drop_of_length_le (Nat.le_refl _),List.drop_of_length_le (show l.length<=a by omega),List.take_nil,List.take_nil]
 rw[e]
 rfl
section
variable{st:Stor}
theorem YfS{l:List Nat}{a:Nat}(h:l.length<=1000000):slP (tx l) (some (a:Int)) none st=some (tx (l.drop a),st):=by
 show (if (sT l).length<=cap then okP (.str (Txt.slice (sT l) (some (a:Int)) none)) st else none)=_
 rw[if_pos (by rw[ZJ];exact h),Yeg]
 rfl
theorem Ydj{l:List Nat}{a b:Nat}(hab:a<=b)(h:l.length<=1000000):slP (tx l) (some (a:Int)) (some (b:Int)) st=some (tx ((l.drop a).take (b - a)),st):=by
 show (if (sT l).length<=cap then okP (.str (Txt.slice (sT l) (some (a:Int)) (some (b:Int)))) st else none)=_
 rw[if_pos (by rw[ZJ];exact h),YgD _ _ _ hab]
 rfl
theorem YfN{a b:Nat}{xs:List P}(h1:listAt st a=some xs)(hp:xs.all (pureP 7)=true)(h2:listAt st b=some []):neP (.ref a) (.ref b) st=some (.bl (!xs.isEmpty),st):=by
 have e1:snap 8 st (.ref a)=some (.list (xs.map (dat 7))):=by
  show (match listAt st a with|some xs=>(xs.mapM (snap 7 st)).map PyData.list|none=>none)=_
  rw[h1]
  dsimp only
  rw[Jn (fun p hp=>ZI hp) xs hp]
  rfl
 have e2:snap 8 st (.ref b)=some (.list []):=by
  show (match listAt st b with|some xs=>(xs.mapM (snap 7 st)).map PyData.list|none=>none)=_
  rw[h2]
  rfl
 unfold neP eqB deep
 rw[e1,e2]
 cases xs <;> rfl
theorem Yf6(l:List Nat):(l.map fun c=>tx [c]).all (pureP 7)=true:=by
 rw[List.all_map]
 exact List.all_eq_true.mpr fun _ _=>rfl
end
theorem Yb6{nc:MT}{m:MS}{N:Nat}(I:Nat->Rho->Stor->Prop)(J:Rho->Stor->Prop){ρ:Rho}{st:Stor}(hN:N<1000000)(h0:I 0 ρ st)
 (step:∀i ρ st,i<N->I i ρ st->∃st1,nc ρ st=.ok true st1/\∃ρ' st',m ρ st1=.nx ρ' st'/\I (i+1) ρ' st')
 (stop:∀ρ st,I N ρ st->∃st1,nc ρ st=.ok false st1/\J ρ st1):∃ρ' st',sWhile nc m ρ st=.nx ρ' st'/\J ρ' st':=by
 have key:∀(k i n:Nat) ρ st,k+i=N->k<n->I i ρ st->∃ρ' st',whileN nc m n ρ st=.nx ρ' st'/\J ρ' st':=by
  intro k
  induction k with
  |zero=>
   intro i n ρ st e hn h
   have e':i=N:=by omega
   subst e'
   obtain⟨st1,h1,h2⟩:=stop ρ st h
   cases n with
   |zero=>omega
   |succ n=>exact⟨ρ,st1,by simp only[whileN,h1,RS.ofE_ok,Bool.false_eq_true,if_false],h2⟩
  |succ k ih=>
   intro i n ρ st e hn h
   obtain⟨st1,h1,ρ',st',h2,h3⟩:=step i ρ st (by omega) h
   cases n with
   |zero=>omega
   |succ n=>
    obtain⟨ρ2,st2,q1,q2⟩:=ih (i+1) n ρ' st' (by omega) (by omega) h3
    exact⟨ρ2,st2,by simp only[whileN,h1,RS.ofE_ok,if_true,h2,q1],q2⟩
 exact key N 0 turns ρ st (by omega) hN h0
theorem YkR{c:Nat}{l:List Nat}{st:Stor}:inP (tx [c]) (tx l) st=some (.bl (decide (c∈l)),st):=by
 have:=StrLaws.found_one (sT l) c
 show okP (.bl (!(Builtin.Str.occurrences (sT l) (sT [c]) 0 (sT l).length 1).isEmpty)) st=_
 have e:(!(Builtin.Str.occurrences (sT l) (sT [c]) 0 (sT l).length 1).isEmpty)=decide (c∈l):=this
 rw[e]
 rfl
theorem YdD{c:Nat}(h:c<128):Txt.islower (sT [c])=isLow c:=by
 have h1:=Yfx c h
 have h2:=Ygz c h
 have h3:=YfW c h
 unfold Txt.islower
 simp[sT,h1,h2,h3]
 cases q:isLow c with
 |false=>simp
 |true=>simp[WB q]
theorem Yer{c:Nat}{st:Stor}(h:c<128):islowerP (tx [c]) [] st=some (.bl (isLow c),st):=by
 show okP (.bl (Txt.islower (sT [c]))) st=_
 rw[YdD h]
 rfl
end Mi
namespace Mi
open PySem PySem.Spec L2
open PyProof.Rows hiding St
section
variable{n i:Nat}{m mb mh:MS}{mf:MF}{mr ma:MA}{me:ME}{ps:List P}{ρ:Rho}{st:Stor}{c:Str}{p:P}{fs:List (Str×P)}{x:Xc}{b:Bool}
end
end Mi
namespace Mi
open PySem PySem.Spec L2
open PyProof.Rows hiding St
end Mi
namespace G
open PySem PySem.Spec L2 Mi
open PyProof.Rows hiding St
section
variable{ρ:Rho}{st:Stor}{mb mh:MS}{hm r:HM}{c d:Str}{i n:Nat}{ms:List Str}{fs:List (Str×P)}{p:P}
end
end G
namespace G
open PySem PySem.Spec L2 Mi
open PyProof.Rows hiding St
open Builtin.Str (occurrences partsBetween strSub strKind subAt)
end G
namespace G
open PySem PySem.Spec L2 Mi
open PyProof.Rows hiding St
set_option hygiene false in
local macro_rules | `(tactic| walk_at "ev") => `(tactic| simp -implicitDefEqProofs (disch := first | omega | decide | (simp only [List.length_append, List.length_cons, List.length_nil, List.length_map]; omega)) only [YkR, Yer, Yk5, YkN, YfS, Int.cast_ofNat_Int, Int.reduceBEq, decide_true, decide_false, beq_self_eq_true, YlL, YeP, YhS, Ylx, YdS, YlE, Yjy, Yjm, YiV, Yii, Yhl, Ylj, YkO, Yk7, Yjz, Yjb, Yjs, Ylh, YiD, YgQ, x_eC, YcH, Yh0, Yhw, YhY, Yjf, Ykt, YiR, Ykq, Yk4, YlC, Yj1, YfL, Yj5, YeT, Yks, Ylv, Yj9, Yjn, Yg8, x_eB, Yky, YiZ, x_eM, Ylz, Yjc, YjB, YkZ, W9, YkE, YiM, Ycy, Yar, YjJ, YjP, YkL, YjT, Ydo, Yjv, Yg6, Yjx, Ydt, Yeq, Yc5, YgK, Ycx, Yhk, YgY, YjV, Ygs, Ygc, Yim, Yin, YhR, YfE, YeY, Yea, YhF, Ye5, YkT, Yfo, YhU, YhB, Yd1, Yde, YiL, Mi.R.bind_ok, Mi.RS.ofE_ok, Mi.RS.seq_nx, Mi.RS.seq_rt, Yg5, List.map_cons, List.map_nil, List.length_cons, List.length_nil, List.cons_append, List.nil_append, List.append_nil, List.replicate_succ, List.replicate_zero, List.getElem?_cons_zero, List.getElem?_cons_succ, List.set_cons_zero, List.set_cons_succ, Nat.reduceSub, Nat.reduceAdd, Nat.reduceLeDiff, Nat.reduceEqDiff, reduceIte, Bool.false_eq_true, Option.join_some, Option.join_none, Option.bind_some, Nat.zero_add, Nat.add_zero, Nat.sub_self, Option.map_some, Option.map_none, List.isEmpty_nil, List.isEmpty_cons, Bool.not_true, Bool.not_false, Nat.zero_le, Yka, Bool.true_and, Bool.and_true])
theorem YcP{k:Nat}{ns:List Int}{st:Stor}(i:Nat)(h:st[k]?=some (.ro (ns.map P.int))):Yo [.ref k,.int i] st=.ok (.int (ns.getD i 0)) st:=by
 unfold Yo ZS
 simp only[YgY,List.map_cons,List.map_nil,W9,YjJ,Yhw,Yh0,YcH]
 simp[Yg1 h]
 by_cases hi:i<ns.length
 ·simp[hi]
  rw[YiH h (by omega) (p:=.int ns[i]) (by simp[hi])]
  simp[hi]
 ·simp[hi]
theorem abc:("abcdefghijklmnopqrstuvwxyz":Str)=sT ((List.range 26).map (97+·)):=by decide +kernel
def low26:List Nat:=(List.range 26).map (97+·)
theorem YkW:P.str "abcdefghijklmnopqrstuvwxyz"=tx low26:=congrArg P.str abc
def up26:List Nat:=(List.range 26).map (65+·)
theorem Yiq:P.str "ABCDEFGHIJKLMNOPQRSTUVWXYZ"=tx up26:=congrArg P.str (by decide +kernel)
theorem mem_up26{c:Nat}:c∈up26↔isUp c=true:=by
 rw[YaS];unfold up26;simp only[List.mem_map,List.mem_range]
 exact⟨fun ⟨a,h1,h2⟩=>by omega,fun h=>⟨c - 65,by omega,by omega⟩⟩
theorem mem_low26{c:Nat}:c∈low26↔isLow c=true:=by
 rw[JD];unfold low26;simp only[List.mem_map,List.mem_range]
 exact⟨fun ⟨a,h1,h2⟩=>by omega,fun h=>⟨c - 97,by omega,by omega⟩⟩
abbrev Sys:=List (List Nat×List Nat)
def encEq(e:List Nat×List Nat):P:=.tup [tx e.1,tx e.2]
def encSys(tb:Sys):P:=.tup (tb.map encEq)
def allL(tb:Sys):List Nat:=tb.flatMap fun e=>e.1++e.2
theorem VY{tb:Sys}{e:List Nat×List Nat}(h:e∈tb):e.1.length+e.2.length<=(allL tb).length:=by
 unfold allL
 induction tb with
 |nil=>cases h
 |cons a r ih=>
  rw[List.flatMap_cons,List.length_append,List.length_append]
  rcases List.mem_cons.mp h with rfl|h
  ·omega
  ·have:=ih h;omega
def cp:List Nat->List Nat->Nat
 |x::a,y::b=>if x=y then cp a b+1 else 0
 |_,_=>0
theorem YiA:∀a b:List Nat,cp a b<=a.length/\cp a b<=b.length
 | [],_=>by simp[cp]
 |_::_,[]=>by simp[cp]
 |x::a,y::b=>by
  have:=YiA a b
  unfold cp
  split <;> simp <;> omega
theorem Yc1:∀(a b:List Nat)(i:Nat),i<cp a b->∃c,a[i]?=some c/\b[i]?=some c
 | [],_,i,h=>by simp[cp]at h
 |_::_,[],i,h=>by simp[cp]at h
 |x::a,y::b,i,h=>by
  unfold cp at h
  by_cases hxy:x=y
  ·rw[if_pos hxy]at h
   subst hxy
   cases i with
   |zero=>exact⟨x,rfl,rfl⟩
   |succ i=>
    obtain⟨c,h1,h2⟩:=Yc1 a b i (by omega)
    exact⟨c,by simpa using h1,by simpa using h2⟩
  ·rw[if_neg hxy]at h;omega
theorem cp_end:∀(a b:List Nat),a[cp a b]?=none\/b[cp a b]?=none\/∃c d,a[cp a b]?=some c/\b[cp a b]?=some d/\c≠d
 | [],_=>.inl (by simp)
 |_::_,[]=>.inr (.inl (by simp))
 |x::a,y::b=>by
  unfold cp
  by_cases hxy:x=y
  ·rw[if_pos hxy]
   simpa using cp_end a b
  ·rw[if_neg hxy]
   exact .inr (.inr ⟨x,y,rfl,rfl,hxy⟩)
theorem Ye8:∀(a b:List Nat),a.take (cp a b)=b.take (cp a b)
 | [],b=>by simp[cp]
 |_::_,[]=>by simp[cp]
 |x::a,y::b=>by
  unfold cp
  by_cases hxy:x=y
  ·rw[if_pos hxy,List.take_succ_cons,List.take_succ_cons,hxy,Ye8 a b]
  ·rw[if_neg hxy];rfl
def cut(e:List Nat×List Nat):List Nat×List Nat:=(e.1.drop (cp e.1 e.2),e.2.drop (cp e.1 e.2))
def strip(tb:Sys):Sys:=(tb.map cut).filter fun e=>!decide (e=([],[]))
theorem s_e:P.str ""=tx []:=congrArg P.str ZZ
theorem Zd{l:List Nat}{i c:Nat}{st:Stor}(h:l[i]?=some c)(hl:l.length<=1000000):ixP (tx l) (.int i) st=some (tx [c],st):=by
 have hi:i<l.length:=(List.getElem?_eq_some_iff.mp h).1
 obtain⟨d,h2,h3⟩:=YeZ (l:=l) (i:=i) (st:=st) (by omega) (by omega) hl
 rw[Int.toNat_natCast,h]at h2
 cases h2
 exact h3
theorem Z5{a b:List Nat}{st:Stor}(ha:a.length<=1000)(hb:b.length<=1000):Yj [tx a,tx b] st=.ok (.tup [tx (a.drop (cp a b)),tx (b.drop (cp a b))]) st:=by
 unfold Yj Ze
 have hle:=YiA a b
 rw[YgY,W9,Ycy]
 walk_at "ev"
 obtain⟨ρ',s',e1,e2,e3⟩:=Yb6 (nc:=eAndT (eTst (eBin ltP (eVar 2) (eB minP (aCons (eB lenP (aCons (eVar 0) aNil)) (aCons (eB lenP (aCons (eVar 1) aNil)) aNil))))) (eTst (eBin eqP (eBin ixP (eVar 0) (eVar 2)) (eBin ixP (eVar 1) (eVar 2))))) (m:=Y2) (N:=cp a b)
  (fun i ρ s=>ρ=[some (tx a),some (tx b),some (.int (i:Nat))]/\s=st) (fun ρ s=>ρ=[some (tx a),some (tx b),some (.int (cp a b:Nat))]/\s=st) (ρ:=[some (tx a),some (tx b),some (.int 0)]) (st:=st) (by omega) ⟨rfl,rfl⟩
  (fun i ρ s hi ⟨q1,q2⟩=>by
   subst q1;subst q2
   obtain⟨c,h1,h2⟩:=Yc1 a b i hi
   refine⟨s,?_,?_⟩
   ·walk_at "ev"
    rw[decide_eq_true (by split <;> omega)]
    walk_at "ev"
    rw[Zd h1 (by omega)]
    walk_at "ev"
    rw[Zd h2 (by omega)]
    walk_at "ev"
   ·unfold Y2
    walk_at "ev"
    exact⟨_,_,rfl,by simp,rfl⟩)
  (fun ρ s ⟨q1,q2⟩=>by
   subst q1;subst q2
   refine⟨s,?_,rfl,rfl⟩
   walk_at "ev"
   rcases cp_end a b with h|h|⟨c,d,h1,h2,h3⟩
   ·have:=List.getElem?_eq_none_iff.mp h
    rw[decide_eq_false (by split <;> omega)]
    walk_at "ev"
   ·have:=List.getElem?_eq_none_iff.mp h
    rw[decide_eq_false (by split <;> omega)]
    walk_at "ev"
   ·have l1:=(List.getElem?_eq_some_iff.mp h1).1
    have l2:=(List.getElem?_eq_some_iff.mp h2).1
    rw[decide_eq_true (by split <;> omega)]
    walk_at "ev"
    rw[Zd h1 (by omega)]
    walk_at "ev"
    rw[Zd h2 (by omega)]
    walk_at "ev"
    rw[show decide ([c]=[d])=false by simpa using h3])
 rw[e1,e2,e3]
 walk_at "ev"
theorem Yfl{e f:List Nat×List Nat}{st:Stor}:neP (encEq e) (encEq f) st=some (.bl (!decide (e=f)),st):=by
 obtain⟨b,h1,h2⟩:=Vt (st:=st) (p:=encEq e) (q:=encEq f) rfl rfl
 have:b=decide (e=f):=by
  rw[Bool.eq_iff_iff,h2,decide_eq_true_iff]
  unfold encEq
  constructor
  ·intro z
   simp only[P.tup.injEq,List.cons.injEq,and_true]at z
   obtain⟨z1,z2⟩:=z
   unfold tx at z1 z2
   simp only[P.str.injEq]at z1 z2
   exact Prod.ext (sT_inj.mp z1) (sT_inj.mp z2)
  ·rintro rfl;rfl
 rw[h1,this]
theorem stripped{tb:Sys}{st:Stor}(h6:tb.length<=1000)(hl:∀e∈tb,e.1.length<=1000/\e.2.length<=1000):∃st',YC [encSys tb] st=.ok (encSys (strip tb)) st'/\Grow st st':=by
 unfold YC WR encSys
 simp only[s_e]
 walk_at "ev"
 rw[List.length_map]
 rw[YU (me:=eCall 2 Yj (aCons (eVar 0) (aCons (eVar 1) aNil))) (g:=mgTup 2 (mgCons (mgName 0) (mgCons (mgName 1) mgNil))) tb encEq (fun e=>encEq (cut e)) rfl (fun i hi=>nxL) (by omega) (fun e he=>⟨[some (tx e.1),some (tx e.2)],rfl,by
  walk_at "ev"
  rw[Z5 (hl e he).1 (hl e he).2]
  rfl⟩)]
 walk_at "ev"
 generalize hS:st++[O.lst (tb.map fun e=>encEq (cut e))]=S
 have k1:listAt S st.length=some ((tb.map cut).map encEq):=by
  rw[<-hS,List.map_map]
  exact Yd Ye
 rw[Yw k1]
 walk_at "ev"
 rw[Zx (g:=mgName 0) (tb.map cut) encEq (fun e=>!decide (e=([],[]))) encEq (by simp) (fun i hi=>nxK k1) (by rw[List.length_map];omega) (fun e he=>⟨[some (encEq e)],rfl,by
  walk_at "ev"
  have:=Yfl (e:=e) (f:=([],[])) (st:=S)
  unfold encEq at this ⊢
  rw[this]
  rfl,fun _=>rfl⟩)]
 exact⟨S,rfl,by rw[<-hS];exact Grow.one⟩
def Keep(f:Nat)(s s':Stor):Prop:=s.length<=s'.length/\∀i,i≠f->i<s.length->s'[i]?=s[i]?
theorem Keep.refl{f:Nat}{s:Stor}:Keep f s s:=⟨Nat.le_refl _,fun _ _ _=>rfl⟩
theorem Keep.trans{f:Nat}{a b c:Stor}(h:Keep f a b)(h2:Keep f b c):Keep f a c:=⟨Nat.le_trans h.1 h2.1,fun i hi hl=>by rw[h2.2 i hi (by have:=h.1;omega),h.2 i hi hl]⟩
theorem Keep.grow{f:Nat}{a b:Stor}(h:Grow a b):Keep f a b:=⟨h.len,fun i _ hl=>by
 obtain⟨e,rfl⟩:=h
 rw[List.getElem?_append_left hl]⟩
theorem Keep.set{f:Nat}{a:Stor}{o:O}:Keep f a (a.set f o):=⟨by simp,fun i hi _=>List.getElem?_set_ne fun z=>hi z.symm⟩
theorem Keep.get{f i:Nat}{a b:Stor}{o:O}(h:Keep f a b)(hi:i≠f)(e:a[i]?=some o):b[i]?=some o:=by
 rw[h.2 i hi (List.getElem?_eq_some_iff.mp e).1];exact e
def ones(l:List Nat):O:=.lst (l.map fun c=>tx [c])
theorem Yja{l:List Nat}{i:Int}{st:Stor}(h0:0<=i)(h1:i<l.length)(hl:l.length<=1000000):ixP (tx l) (.int i) st=some (tx [l.getD i.toNat 0],st):=by
 obtain⟨d,h2,h3⟩:=YeZ (l:=l) (i:=i) (st:=st) h0 h1 hl
 rw[h3,List.getD_eq_getElem?_getD,h2]
 rfl
theorem YdV{cell:Int}{many:Nat}{al:List Nat}{st:Stor}(hal:al.length=26)(hm:many<=100):∃S r st',Y7 [.int cell,.int many,tx al] st=.ok (.ref r) st'/\st'[r]?=some (ones S)/\S.length=many/\Grow st st'/\st.length<=r/\(∀c∈S,c∈al)/\(al.Nodup->many<=26->S.Nodup):=by
 unfold Y7 Vg
 walk_at "ev"
 obtain⟨step,hstep,e⟩:=Ji (st:=st++[.lst ([1,3,5,7,9,11,15,17].map P.int)]) (k:=st.length) (xs:=[1,3,5,7,9,11,15,17]) (f:=P.int) (i:=cell / 26 % 8) Ye (by omega) (by simp;omega)
 simp only[List.map_cons,List.map_nil]at e
 rw[e]
 walk_at "ev"
 generalize hB:st++[O.lst [P.int 1,P.int 3,P.int 5,P.int 7,P.int 9,P.int 11,P.int 15,P.int 17]]=B
 have gB:Grow st B:=by rw[<-hB];exact Grow.one
 rw[Int.toNat_natCast]
 rw[YU (g:=mgName 0) (List.range many) (fun (k:Nat)=>.int (0+(k:Int))) (fun k=>tx [al.getD ((cell % 26+(0+(k:Int)) * step) % 26).toNat 0]) (by simp) (fun i hi=>nxR) (by simp;omega) (fun k hk=>⟨[some (.int (0+(k:Int))),some (.int cell),some (tx al),some (.int step)],rfl,by
  have:=List.mem_range.mp hk
  walk_at "ev"
  rw[Yja (by omega) (by rw[hal];omega) (by omega)]
  walk_at "ev"⟩)]
 walk_at "ev"
 refine⟨(List.range many).map fun (k:Nat)=>al.getD ((cell % 26+(0+(k:Int)) * step) % 26).toNat 0,B.length,_,rfl,?_,by simp,gB.trans Grow.one,gB.len,fun c hc=>?_,fun hnd hm26=>?_⟩
 ·unfold ones
  rw[List.map_map]
  exact Ye
 ·obtain⟨k,_,rfl⟩:=List.mem_map.mp hc
  have hi:((cell % 26+(0+(k:Int)) * step) % 26).toNat<al.length:=by rw[hal];omega
  rw[List.getD_eq_getElem?_getD,List.getElem?_eq_getElem hi]
  exact List.getElem_mem hi
 ·refine List.nodup_iff_pairwise_ne.mpr (List.pairwise_map.mpr (List.Pairwise.imp_of_mem (fun {a b} ha hb hab=>?_) (List.nodup_iff_pairwise_ne.mp List.nodup_range)))
  have ha':=List.mem_range.mp ha
  have hb':=List.mem_range.mp hb
  have hi:∀k:Nat,((cell % 26+(0+(k:Int)) * step) % 26).toNat<al.length:=fun k=>by rw[hal];omega
  have e:∀k:Nat,al.getD ((cell % 26+(0+(k:Int)) * step) % 26).toNat 0=al[((cell % 26+(0+(k:Int)) * step) % 26).toNat]'(hi k):=fun k=>by
   rw[List.getD_eq_getElem?_getD,List.getElem?_eq_getElem (hi k)];rfl
  rw[e,e]
  intro z
  have z2:=(List.getElem_inj hnd).mp z
  simp only[List.mem_cons,List.not_mem_nil,or_false]at hstep
  rcases hstep with rfl|rfl|rfl|rfl|rfl|rfl|rfl|rfl <;> omega
theorem Jj{st:Stor}{k:Nat}{kvs:List (Key×P)}{l:List Nat}{v:P}(h:st[k]?=some (.dct kvs))(hv:valP kvs (tkey l)=some v):ixP (.ref k) (tx l) st=some (v,st):=by
 show (match st[k]? with|some (.lst xs)=>ixI xs (tx l) st|some (.ro xs)=>ixI xs (tx l) st|some (O.dct kvs)=>(match keyP (tx l) with|some k=>(valP kvs k).map fun p=>(p,st)|none=>none)|_=>none)=_
 rw[h]
 dsimp only
 rw[Ycn]
 dsimp only
 rw[hv]
 rfl
def nval(names:List Nat)(f:Nat->P)(l:List Nat):Option P:=match l with
 | [n]=>if n∈names then some (f n) else none
 |_=>none
theorem Zi{names:List Nat}{f:Nat->P}{n:Nat}(h:n∈names):nval names f [n]=some (f n):=by unfold nval;dsimp only;rw[if_pos h]
theorem V4{names:List Nat}{f:Nat->P}{n:Nat}(h:n∉names):nval names f [n]=none:=by unfold nval;dsimp only;rw[if_neg h]
structure WD(kw:List (Key×P))(names:List Nat)(w:Nat->List Nat):Prop where
 keys:(kw.map fun p=>keyToP p.1)=names.map fun n=>tx [n]
 val:∀l,valP kw (tkey l)=nval names (fun n=>tx (w n)) l
 low:∀n,(w n).length<=6/\∀c∈w n,isLow c=true
 up:∀n∈names,isUp n=true
 many:names.length<=6
structure CD(kc:List (Key×P))(names:List Nat)(cnt:Nat->Nat):Prop where
 val:∀l,valP kc (tkey l)=nval names (fun n=>.int (cnt n:Nat)) l
 two:∀n∈names,cnt n<=2
 len:kc.length<=6
theorem CD.more{kc:List (Key×P)}{names:List Nat}{cnt:Nat->Nat}{d:Nat}(C:CD kc names cnt)(hd:d∈names)(h2:cnt d<2):CD (putP kc (tkey [d]) (.int (cnt d+1))) names (fun n=>cnt n+if n=d then 1 else 0) where
 val:=fun l=>by
  rw[V3]
  by_cases hl:[d]=l
  ·subst hl
   rw[if_pos rfl,Zi hd]
   simp
  ·rw[if_neg (fun z=>hl (tkey_inj.mp z)),C.val]
   unfold nval
   split
   ·rename_i n
    have:n≠d:=fun z=>hl (by rw[z])
    dsimp only
    rw[if_neg this,Nat.add_zero]
   ·rfl
 two:=fun n hn=>by
  have:=C.two n hn
  split
  ·rename_i h;subst h;omega
  ·omega
 len:=by
  rw[Ycu]
  have e:valP kc (tkey [d])≠none:=by rw[C.val,Zi hd];exact fun z=>by cases z
  rw[if_neg e]
  exact C.len
theorem Yiu{cell:Int}{rs:Nat}{S:List Nat}{most:Nat}{st:Stor}(hs:st[rs]?=some (ones S))(hS:S≠[])(hSl:S.length<=1000)(hm:most<=6)(hlow:∀c∈S,isLow c=true):∃l,Zs [.int cell,.ref rs,.int most] st=.ok (tx l) st/\l.length<=6/\∀c∈l,isLow c=true:=by
 have hS0:0<S.length:=List.length_pos_iff.mpr hS
 unfold Zs Vf
 simp only[s_e]
 walk_at "ev"
 obtain⟨sz,hsz,sz3⟩:∃sz:Nat,cell % ((most:Int)+1)=(sz:Int)/\sz<=6:=by
  have a1:=Int.emod_nonneg cell (show (most:Int)+1≠0 by omega)
  have a2:=Int.emod_lt_of_pos cell (show (0:Int)<(most:Int)+1 by omega)
  exact⟨(cell % ((most:Int)+1)).toNat,by omega,by omega⟩
 rw[hsz]
 generalize cell / ((most:Int)+1) % 10 ^ (30:Int).toNat=rest
 walk_at "ev"
 rw[Int.toNat_natCast]
 obtain⟨ρ',s',e1,l,v4,v6,e2,e3,e4,e5⟩:=Zw (src:=srcR 0 sz) (g:=mgName 6) (m:=WN) (N:=sz) (ρ:=[some (.int cell),some (.ref rs),some (.int most),some (.int sz),some (.int rest),some (tx []),none]) (st:=st) (List.range sz) (fun (k:Nat)=>.int (0+(k:Int)))
  (fun i ρ s=>∃(l:List Nat)(v4:Int)(v6:Option P),ρ=[some (.int cell),some (.ref rs),some (.int most),some (.int sz),some (.int v4),some (tx l),v6]/\s=st/\l.length=i/\∀c∈l,isLow c=true)
  (by simp) (fun i ρ s hi _=>nxR) ⟨[],rest,none,rfl,rfl,rfl,by simp⟩
  (fun i hi ρ s ⟨l,v4,v6,q1,q2,q3,q4⟩=>by
   subst q1;subst q2
   have hi':i<sz:=by simpa using hi
   refine⟨_,rfl,?_⟩
   unfold WN
   walk_at "ev"
   rw[YO hs,List.length_map]
   walk_at "ev"
   have b0:0<=v4 % (S.length:Int)/\v4 % (S.length:Int)<S.length:=⟨Int.emod_nonneg _ (by omega),Int.emod_lt_of_pos _ (by omega)⟩
   obtain⟨c,hc1,hc⟩:=Ji (f:=fun c=>tx [c]) hs b0.1 b0.2
   rw[hc]
   walk_at "ev"
   rw[YO hs,List.length_map]
   walk_at "ev"
   refine⟨_,_,rfl,_,_,_,rfl,rfl,by simp[q3],fun d hd=>?_⟩
   rcases List.mem_append.mp hd with hd|hd
   ·exact q4 d hd
   ·rw[List.mem_singleton.mp hd];exact hlow c hc1)
 rw[e1,e2,e3]
 walk_at "ev"
 rw[List.length_range]at e4
 exact⟨l,rfl,by omega,e5⟩
def fillW(names:List Nat)(w:Nat->List Nat)(l:List Nat):List Nat:=l.flatMap fun c=>if c∈names then w c else [c]
theorem YbK{names:List Nat}{w:Nat->List Nat}(hw:∀n,(w n).length<=6)(l:List Nat):(fillW names w l).length<=6 * l.length:=by
 induction l with
 |nil=>simp[fillW]
 |cons c l ih=>
  have e:fillW names w (c::l)=(if c∈names then w c else [c])++fillW names w l:=rfl
  have h1:(if c∈names then w c else [c]).length<=6:=by
   split
   ·exact hw c
   ·simp
  rw[e,List.length_append,List.length_cons]
  omega
theorem Yhc{rw':Nat}{kw:List (Key×P)}{names l:List Nat}{w:Nat->List Nat}{st:Stor}(hk:st[rw']?=some (.dct kw))(W:WD kw names w)(hl:l.length<=1000):Yy [tx l,.ref rw'] st=.ok (tx (fillW names w l)) st:=by
 unfold Yy Z3
 simp only[ZZ]
 walk_at "ev"
 have hwl:=YbK (names:=names) (fun n=>(W.low n).1) l
 rw[YU (g:=mgName 0) l (fun c=>tx [c]) (fun c=>tx (if c∈names then w c else [c])) rfl (fun i hi=>nxS hi) (by omega) (fun c _=>⟨[some (tx [c]),some (.ref rw')],rfl,by
  rw[Yfn (n:=rw') (kvs:=kw) (l:=[c]) (z:=tx [c]) rfl rfl rfl hk,W.val]
  by_cases hc:c∈names
  ·rw[Zi hc,if_pos hc];rfl
  ·rw[V4 hc,if_neg hc];rfl⟩)]
 rw[R.bind_ok,show (l.map fun c=>tx (if c∈names then w c else [c]))=(l.map fun c=>if c∈names then w c else [c]).map tx by rw[List.map_map];rfl,ZH (by rw[<-List.flatMap_def];exact Nat.le_trans hwl (by omega)),<-List.flatMap_def]
 rfl
theorem CD.congr{kc:List (Key×P)}{names:List Nat}{c1 c2:Nat->Nat}(C:CD kc names c1)(h:∀n∈names,c1 n=c2 n):CD kc names c2 where
 val:=fun l=>by
  rw[C.val]
  unfold nval
  split
  ·rename_i n
   by_cases hn:n∈names
   ·rw[if_pos hn,if_pos hn];dsimp only;rw[h n hn]
   ·rw[if_neg hn,if_neg hn]
  ·rfl
 two:=fun n hn=>by rw[<-h n hn];exact C.two n hn
 len:=C.len
theorem freeL{rw' rc:Nat}{kw kc:List (Key×P)}{names:List Nat}{w:Nat->List Nat}{cnt:Nat->Nat}{ρ:Rho}{s:Stor}(h2:ρ[2]?=some (some (.ref rw')))(h3:ρ[3]?=some (some (.ref rc)))(hk:s[rw']?=some (.dct kw))(hc:s[rc]?=some (.dct kc))(W:WD kw names w)(C:CD kc names cnt):
 lComp (iVal (eB listDP (aCons (eVar 2) aNil))) 1 [3] (mgName 0) (eTst (eBin ltP (eBin ixP (eVar 1) (eVar 0)) (eC (.int 2)))) (eVar 0) ρ s=.ok ((names.filter fun n=>decide (cnt n<2)).map fun n=>tx [n]) (s++[ones names]):=by
 have hkl:kw.length=names.length:=by
  have:=congrArg List.length W.keys
  rwa[List.length_map,List.length_map]at this
 have hm:=W.many
 rw[Ycx,Yeq,x_eB,YeT,YcH,h2]
 walk_at "ev"
 rw[YiY hk (by omega),W.keys]
 walk_at "ev"
 rw[Yw (xs:=names.map fun n=>tx [n]) (Yd Ye)]
 walk_at "ev"
 rw[h3]
 walk_at "ev"
 exact Zx (g:=mgName 0) names (fun n=>tx [n]) (fun n=>decide (cnt n<2)) (fun n=>tx [n]) (by simp) (fun i hi=>nxK (Yd Ye)) (by omega) (fun n hn=>⟨[some (tx [n]),some (.ref rc)],rfl,by
  walk_at "ev"
  rw[Jj (Grow.one.get hc) (by rw[C.val,Zi hn])]
  walk_at "ev"
  rw[show decide (((cnt n:Nat):Int)<2)=decide (cnt n<2) from decide_eq_decide.mpr (by omega)],fun _=>rfl⟩)
theorem YhK{kl rs rw' rc:Nat}{cs:List Int}{S names:List Nat}{kw kc:List (Key×P)}{w:Nat->List Nat}{cnt:Nat->Nat}{st:Stor}(hl:st[kl]?=some (.lst (cs.map P.int)))(hs:st[rs]?=some (ones S))(hk:st[rw']?=some (.dct kw))(hc:st[rc]?=some (.dct kc))
 (n1:kl≠rc) (n2:rs≠rc) (n3:rw'≠rc) (W:WD kw names w) (C:CD kc names cnt) (hS:S≠[]) (hSl:S.length<=1000) (hlow:∀c∈S,isLow c=true) (hcl:cs.length<=1000):
 ∃l kc' st',Zn [.ref kl,.ref rs,.ref rw',.ref rc] st=.ok (tx l) st'/\st'[rc]?=some (.dct kc')/\CD kc' names (fun n=>cnt n+l.count n)/\Keep rc st st'/\l.length=cs.length/\∀c∈l,isLow c=true\/c∈names:=by
 have hS0:0<S.length:=List.length_pos_iff.mpr hS
 have hm:=W.many
 unfold Zn W5
 simp only[s_e]
 walk_at "ev"
 rw[Yw (xs:=cs.map P.int) (Yd hl)]
 walk_at "ev"
 obtain⟨ρ',s',e1,l,kc',v5,v6,v7,v8,e2,e3,e4,e5,e6,e7⟩:=Zw (src:=srcK kl (cs.map P.int).length) (g:=mgName 5) (m:=WA) (N:=(cs.map P.int).length) (ρ:=[some (.ref kl),some (.ref rs),some (.ref rw'),some (.ref rc),some (tx []),none,none,none,none]) (st:=st) cs P.int
  (fun i ρ s=>∃(l:List Nat)(kc:List (Key×P))(v5 v6 v7 v8:Option P),ρ=[some (.ref kl),some (.ref rs),some (.ref rw'),some (.ref rc),some (tx l),v5,v6,v7,v8]/\s[rc]?=some (.dct kc)/\CD kc names (fun n=>cnt n+l.count n)/\Keep rc st s/\l.length=i/\∀c∈l,isLow c=true\/c∈names)
  (by simp) (fun i ρ s hi ⟨l,kc,v5,v6,v7,v8,q1,q2,q3,q4,q5,q6⟩=>nxK (Yd (q4.get n1 hl))) ⟨[],kc,none,none,none,none,rfl,hc,C.congr (fun n _=>by simp),Keep.refl,rfl,by simp⟩
  (fun i hi ρ s ⟨l,kc,v5,v6,v7,v8,q1,q2,q3,q4,q5,q6⟩=>by
   subst q1
   refine⟨_,rfl,?_⟩
   generalize cs[i]=x
   unfold WA
   rw[W9,Yar,freeL rfl rfl (q4.get n3 hk) q2 W q3]
   walk_at "ev"
   generalize hfr:(names.filter fun n=>decide (cnt n+l.count n<2))=fr
   have hfl:fr.length<=6:=by rw[<-hfr];exact Nat.le_trans (List.length_filter_le ..) hm
   generalize hA1:s++[ones names]++[O.lst (fr.map fun n=>tx [n])]=A1
   have g1:Grow s A1:=by rw[<-hA1];exact Grow.one.trans Grow.one
   have k1:A1[(s++[ones names]).length]?=some (.lst (fr.map fun n=>tx [n])):=by rw[<-hA1];exact Ye
   rw[Wj k1 k1 (by rw[List.length_map];omega)]
   walk_at "ev"
   generalize hA2:A1++[O.lst (fr.map (fun n=>tx [n])++fr.map fun n=>tx [n])]=A2
   have g2:Grow A1 A2:=by rw[<-hA2];exact Grow.one
   have k2:A2[A1.length]?=some (.lst (fr.map (fun n=>tx [n])++fr.map fun n=>tx [n])):=by rw[<-hA2];exact Ye
   have ks:A2[rs]?=some (.lst (S.map fun n=>tx [n])):=(g1.trans g2).get (q4.get n2 hs)
   rw[Wj k2 ks (by simp;omega),<-List.map_append,<-List.map_append]
   walk_at "ev"
   generalize hT:fr++fr++S=T
   have hTl:0<T.length/\T.length<=2000:=by rw[<-hT];simp;omega
   generalize hA3:A2++[O.lst (T.map fun n=>tx [n])]=A3
   have g3:Grow A2 A3:=by rw[<-hA3];exact Grow.one
   have k3:A3[A2.length]?=some (.lst (T.map fun n=>tx [n])):=by rw[<-hA3];exact Ye
   have gA:Grow s A3:=(g1.trans g2).trans g3
   rw[YO k3,List.length_map]
   walk_at "ev"
   have b0:0<=x * 48271 % 99991 % (T.length:Int)/\x * 48271 % 99991 % (T.length:Int)<T.length:=⟨Int.emod_nonneg _ (by omega),Int.emod_lt_of_pos _ (by omega)⟩
   obtain⟨d,hd1,hd⟩:=Ji (f:=fun c=>tx [c]) k3 b0.1 b0.2
   rw[hd]
   walk_at "ev"
   have kc3:=gA.get q2
   rw[Ydd kc3,q3.val]
   walk_at "ev"
   have hcnt:∀n,(l++[d]).count n=l.count n+if n=d then 1 else 0:=fun n=>by
    rw[List.count_append]
    by_cases h:n=d
    ·subst h;simp
    ·have:(d == n)=false:=by simp;exact fun z=>h z.symm
     simp[List.count_cons,this,h]
   by_cases hdn:d∈names
   ·rw[Zi hdn]
    have hfd:cnt d+l.count d<2:=by
     rw[<-hT]at hd1
     rcases List.mem_append.mp hd1 with h|h
     ·have:d∈fr:=by rcases List.mem_append.mp h with h|h <;> exact h
      rw[<-hfr]at this
      simpa using (List.mem_filter.mp this).2
     ·have a1:=WB (hlow d h)
      rw[W.up d hdn]at a1
      cases a1
    rw[show (some (P.int ((cnt d+l.count d:Nat):Int))).isSome=true from rfl]
    walk_at "ev"
    rw[Jj kc3 (by rw[q3.val,Zi hdn])]
    walk_at "ev"
    rw[Wk kc3 (by have:=q3.len;omega)]
    walk_at "ev"
    refine⟨_,_,rfl,_,_,_,_,_,_,rfl,List.getElem?_set_self (List.getElem?_eq_some_iff.mp kc3).1,?_,q4.trans ((Keep.grow gA).trans Keep.set),by simp[q5],fun c hcm=>?_⟩
    ·refine (q3.more hdn hfd).congr fun n _=>?_
     rw[hcnt];omega
    ·rcases List.mem_append.mp hcm with h|h
     ·exact q6 c h
     ·rw[List.mem_singleton.mp h];exact .inr hdn
   ·rw[V4 hdn]
    rw[show (none:Option P).isSome=false from rfl]
    walk_at "ev"
    refine⟨_,_,rfl,_,_,_,_,_,_,rfl,kc3,q3.congr fun n hn=>?_,q4.trans (Keep.grow gA),by simp[q5],fun c hcm=>?_⟩
    ·have hnd:n≠d:=fun z=>hdn (by rw[<-z];exact hn)
     rw[hcnt,if_neg hnd];rfl
    ·rcases List.mem_append.mp hcm with h|h
     ·exact q6 c h
     ·rw[List.mem_singleton.mp h]
      rw[<-hT]at hd1
      rcases List.mem_append.mp hd1 with h|h
      ·have:d∈fr:=by rcases List.mem_append.mp h with h|h <;> exact h
       rw[<-hfr]at this
       exact absurd (List.mem_filter.mp this).1 hdn
      ·exact .inl (hlow d h))
 rw[e1,e2]
 walk_at "ev"
 exact⟨l,kc',s',rfl,e3,e4,e5,e6,e7⟩
theorem VQ{names:List Nat}{w:Nat->List Nat}{l m:List Nat}:fillW names w (l++m)=fillW names w l++fillW names w m:=by
 unfold fillW
 rw[List.flatMap_append]
theorem YbH{names:List Nat}{w:Nat->List Nat}(hup:∀n∈names,isUp n=true){m:List Nat}(hm:∀c∈m,isLow c=true):fillW names w m=m:=by
 induction m with
 |nil=>rfl
 |cons c m ih=>
  have e:fillW names w (c::m)=(if c∈names then w c else [c])++fillW names w m:=rfl
  have hc:c∉names:=fun z=>by
   have a1:=hup c z
   rw[WB (hm c (List.mem_cons_self ..))]at a1
   cases a1
  rw[e,if_neg hc,ih fun d hd=>hm d (List.mem_cons_of_mem _ hd)]
  rfl
theorem fitL{rf rw' at':Nat}{kw:List (Key×P)}{names fr row:List Nat}{w:Nat->List Nat}{ρ:Rho}{s:Stor}(h8:ρ[8]?=some (some (.ref rf)))(h5:ρ[5]?=some (some (.int at')))(h0:ρ[0]?=some (some (tx row)))(h2:ρ[2]?=some (some (.ref rw')))(hf:s[rf]?=some (.lst (fr.map fun n=>tx [n])))(hk:s[rw']?=some (.dct kw))(W:WD kw names w)(hfn:∀n∈fr,n∈names)(hfl:fr.length<=1000)(hrl:row.length<=1000):
 lComp (iVal (eVar 8)) 1 [5,0,2] (mgName 0) (eTst (eBin eqP (eSl (eVar 2) (oSome (eVar 1)) (oSome (eBin addP (eVar 1) (eB lenP (aCons (eBin ixP (eVar 3) (eVar 0)) aNil))))) (eBin ixP (eVar 3) (eVar 0)))) (eVar 0) ρ s=.ok ((fr.filter fun n=>decide ((row.drop at').take (w n).length=w n)).map fun n=>tx [n]) s:=by
 rw[Ycx,Yeq,YcH,h8]
 walk_at "ev"
 rw[Yw (xs:=fr.map fun n=>tx [n]) (Yd hf)]
 walk_at "ev"
 rw[h5,h0,h2]
 walk_at "ev"
 exact Zx (g:=mgName 0) fr (fun n=>tx [n]) (fun n=>decide ((row.drop at').take (w n).length=w n)) (fun n=>tx [n]) (by simp) (fun i hi=>nxK (Yd hf)) (by omega) (fun n hn=>⟨[some (tx [n]),some (.int at'),some (tx row),some (.ref rw')],rfl,by
  have hwn:=(W.low n).1
  have hix:=Jj (st:=s) hk (show valP kw (tkey [n])=some (tx (w n)) by rw[W.val,Zi (hfn n hn)])
  walk_at "ev"
  rw[hix]
  walk_at "ev"
  rw[show ((at':Nat):Int)+(((w n).length:Nat):Int)=((at'+(w n).length:Nat):Int) by simp,Ydj (by omega) (by omega)]
  walk_at "ev"
  rw[hix]
  walk_at "ev"
  rw[show at'+(w n).length - at'=(w n).length by omega],fun _=>rfl⟩)
theorem Yeu(l:List Nat)(d n:Nat):(l++[d]).count n=l.count n+if n=d then 1 else 0:=by
 rw[List.count_append]
 by_cases h:n=d
 ·subst h;simp
 ·have:(d == n)=false:=by simp;exact fun z=>h z.symm
  simp[List.count_cons,this,h]
theorem Yge{kl rw' rc:Nat}{cs:List Int}{row names:List Nat}{kw kc:List (Key×P)}{w:Nat->List Nat}{cnt:Nat->Nat}{st:Stor}(hl:st[kl]?=some (.lst (cs.map P.int)))(hk:st[rw']?=some (.dct kw))(hc:st[rc]?=some (.dct kc))
 (n1:kl≠rc) (n3:rw'≠rc) (W:WD kw names w) (C:CD kc names cnt) (hrow:∀c∈row,isLow c=true) (hrl:row.length<=100) (hcl:cs.length<=1000):
 ∃l kc' st',YG [tx row,.ref kl,.ref rw',.ref rc] st=.ok (tx l) st'/\st'[rc]?=some (.dct kc')/\CD kc' names (fun n=>cnt n+l.count n)/\Keep rc st st'/\l.length<=2 * row.length+4/\(∀c∈l,isLow c=true\/c∈names)/\fillW names w l=row:=by
 have hm:=W.many
 have lowN:∀c,isLow c=true->c∉names:=fun c h z=>by
  have a1:=W.up c z
  rw[WB h]at a1
  cases a1
 unfold YG ZC
 simp only[s_e]
 walk_at "ev"
 rw[show (((row.length:Nat):Int)+4).toNat=row.length+4 by omega]
 obtain⟨ρ',s',e1,l,at',kc',v6,v7,v8,v9,v10,v11,e2,e3,e4,e5,e6,e7,e8,e9⟩:=Zw (src:=srcR 0 (row.length+4)) (g:=mgName 6) (m:=Zy) (N:=row.length+4) (ρ:=[some (tx row),some (.ref kl),some (.ref rw'),some (.ref rc),some (tx []),some (.int 0),none,none,none,none,none,none]) (st:=st) (List.range (row.length+4)) (fun (k:Nat)=>.int (0+(k:Int)))
  (fun i ρ s=>∃(l:List Nat)(at':Nat)(kc:List (Key×P))(v6 v7 v8 v9 v10 v11:Option P),ρ=[some (tx row),some (.ref kl),some (.ref rw'),some (.ref rc),some (tx l),some (.int at'),v6,v7,v8,v9,v10,v11]/\s[rc]?=some (.dct kc)/\CD kc names (fun n=>cnt n+l.count n)/\Keep rc st s/\l.length<=i/\(∀c∈l,isLow c=true\/c∈names)/\at'<=row.length/\fillW names w l=row.take at')
  (by simp) (fun i ρ s hi _=>nxR) ⟨[],0,kc,none,none,none,none,none,none,rfl,hc,C.congr (fun n _=>by simp),Keep.refl,Nat.le_refl _,by simp,Nat.zero_le _,rfl⟩
  (fun i hi ρ s ⟨l,at',kc,v6,v7,v8,v9,v10,v11,q1,q2,q3,q4,q5,q6,q7,q8⟩=>by
   subst q1
   have hi':i<row.length+4:=by simpa using hi
   rw[List.getElem_range]
   refine⟨_,rfl,?_⟩
   have hll:=q4.get n1 hl
   have hkk:=q4.get n3 hk
   obtain⟨x,hx⟩:∃x:Int,eIf (eTst (eBin ltP (eVar 6) (eB lenP (aCons (eVar 1) aNil)))) (eBin modP (eBin mul2P (eBin ixP (eVar 1) (eVar 6)) (eC (.int 69621))) (eC (.int 99989))) (eC (.int 0)) [some (tx row),some (.ref kl),some (.ref rw'),some (.ref rc),some (tx l),some (.int at'),some (.int (0+(i:Int))),v7,v8,v9,v10,v11] s=.ok (.int x) s:=by
    walk_at "ev"
    rw[YO hll,List.length_map]
    walk_at "ev"
    by_cases h:i<cs.length
    ·rw[decide_eq_true (show (0:Int)+(i:Int)<((cs.length:Nat):Int) by omega)]
     walk_at "ev"
     rw[WX (p:=.int cs[i]) hll (by omega) (by rw[show ((0:Int)+(i:Int)).toNat=i by omega,List.getElem?_map,List.getElem?_eq_getElem h];rfl)]
     walk_at "ev"
     exact⟨_,rfl⟩
    ·rw[decide_eq_false (show ¬((0:Int)+(i:Int)<((cs.length:Nat):Int)) by omega)]
     walk_at "ev"
     exact⟨_,rfl⟩
   unfold Zy
   simp only[Ydo,List.set_cons_succ,List.set_cons_zero]
   rw[W9,Ycy,hx,RS.ofE_ok]
   simp only[List.set_cons_succ,List.set_cons_zero,RS.seq_nx]
   rw[W9,Yar,freeL rfl rfl hkk q2 W q3,RS.ofE_ok]
   simp only[List.set_cons_succ,List.set_cons_zero,RS.seq_nx]
   generalize hfr:(names.filter fun n=>decide (cnt n+l.count n<2))=fr
   have hfl:fr.length<=6:=by rw[<-hfr];exact Nat.le_trans (List.length_filter_le ..) hm
   have hfn:∀n∈fr,n∈names:=fun n hn=>by rw[<-hfr]at hn;exact (List.mem_filter.mp hn).1
   have hf2:∀n∈fr,cnt n+l.count n<2:=fun n hn=>by rw[<-hfr]at hn;simpa using (List.mem_filter.mp hn).2
   generalize hA1:s++[ones names]++[O.lst (fr.map fun n=>tx [n])]=A1
   have g1:Grow s A1:=by rw[<-hA1];exact Grow.one.trans Grow.one
   have k1:A1[(s++[ones names]).length]?=some (.lst (fr.map fun n=>tx [n])):=by rw[<-hA1];exact Ye
   rw[W9,Yar,fitL (at':=at') (row:=row) rfl rfl rfl rfl k1 (g1.get hkk) W hfn (by omega) (by omega),RS.ofE_ok]
   simp only[List.set_cons_succ,List.set_cons_zero,RS.seq_nx]
   generalize hft:(fr.filter fun n=>decide ((row.drop at').take (w n).length=w n))=ft
   have htl:ft.length<=6:=by rw[<-hft];exact Nat.le_trans (List.length_filter_le ..) hfl
   have htm:∀n∈ft,n∈fr/\(row.drop at').take (w n).length=w n:=fun n hn=>by rw[<-hft]at hn;exact⟨(List.mem_filter.mp hn).1,by simpa using (List.mem_filter.mp hn).2⟩
   generalize hA2:A1++[O.lst (ft.map fun n=>tx [n])]=A2
   have g2:Grow s A2:=g1.trans (by rw[<-hA2];exact Grow.one)
   have k2:A2[A1.length]?=some (.lst (ft.map fun n=>tx [n])):=by rw[<-hA2];exact Ye
   walk_at "ev"
   rw[Wj k2 k2 (by rw[List.length_map];omega)]
   walk_at "ev"
   generalize hA3:A2++[O.lst (ft.map (fun n=>tx [n])++ft.map fun n=>tx [n])]=A3
   have g3:Grow s A3:=g2.trans (by rw[<-hA3];exact Grow.one)
   have k3:A3[A2.length]?=some (.lst (ft.map (fun n=>tx [n])++ft.map fun n=>tx [n])):=by rw[<-hA3];exact Ye
   rw[show ((at':Nat):Int)+1=((at'+1:Nat):Int) by simp,Ydj (by omega) (by omega),show at'+1 - at'=1 by omega]
   walk_at "ev"
   generalize hr1:(row.drop at').take 1=r1
   generalize hA4:A3++[O.lst [tx r1]]=A4
   have g34:Grow A3 A4:=by rw[<-hA4];exact Grow.one
   have k4:A4[A3.length]?=some (.lst [tx r1]):=by rw[<-hA4];exact Ye
   have eT:ft.map (fun n=>tx [n])++ft.map (fun n=>tx [n])++[tx r1]=((ft++ft).map (fun n=>[n])++[r1]).map tx:=by simp only[List.map_append,List.map_map,List.map_cons,List.map_nil];rfl
   rw[Wj (g34.get k3) k4 (by simp;omega),eT]
   walk_at "ev"
   generalize hT:(ft++ft).map (fun n=>[n])++[r1]=T
   have hTl:0<T.length/\T.length<=2000:=by rw[<-hT];simp;omega
   generalize hA5:A4++[O.lst (T.map tx)]=A5
   have gA:Grow s A5:=(g3.trans g34).trans (by rw[<-hA5];exact Grow.one)
   have k5:A5[A4.length]?=some (.lst (T.map tx)):=by rw[<-hA5];exact Ye
   rw[YO k5,List.length_map]
   walk_at "ev"
   have b0:0<=x % (T.length:Int)/\x % (T.length:Int)<T.length:=⟨Int.emod_nonneg _ (by omega),Int.emod_lt_of_pos _ (by omega)⟩
   obtain⟨t,ht1,ht⟩:=Ji (f:=tx) k5 b0.1 b0.2
   rw[ht]
   walk_at "ev"
   have kc5:=gA.get q2
   have kw5:=gA.get hkk
   rw[Ydd kc5,q3.val]
   have hcase:(∃n∈ft,t=[n])\/t=r1:=by
    rw[<-hT]at ht1
    rcases List.mem_append.mp ht1 with h|h
    ·obtain⟨n,hn,rfl⟩:=List.mem_map.mp h
     exact .inl ⟨n,by rcases List.mem_append.mp hn with h|h <;> exact h,rfl⟩
    ·exact .inr (by simpa using h)
   rcases hcase with⟨n,hn,rfl⟩|rfl
   ·obtain⟨hnf,hfit⟩:=htm n hn
    have hnn:=hfn n hnf
    rw[Zi hnn,show (some (P.int ((cnt n+l.count n:Nat):Int))).isSome=true from rfl]
    walk_at "ev"
    rw[Jj kc5 (by rw[q3.val,Zi hnn])]
    walk_at "ev"
    rw[Wk kc5 (by have:=q3.len;omega)]
    walk_at "ev"
    have kw6:(A5.set rc (O.dct (putP kc (tkey [n]) (.int (((cnt n+l.count n:Nat):Int)+1)))))[rw']?=some (.dct kw):=by rw[List.getElem?_set_ne n3.symm];exact kw5
    rw[Yfn (n:=rw') (kvs:=kw) (l:=[n]) (z:=tx [n]) rfl rfl rfl kw6,W.val,Zi hnn]
    walk_at "ev"
    have hwl:=(W.low n).1
    rw[show (some (tx (w n))).getD (tx [n])=tx (w n) from rfl]
    walk_at "ev"
    have hfl2:at'+(w n).length<=row.length:=by
     have:=congrArg List.length hfit
     rw[List.length_take,List.length_drop]at this
     omega
    rw[show ((at':Nat):Int)+(((w n).length:Nat):Int)=((at'+(w n).length:Nat):Int) by simp]
    refine⟨_,_,rfl,l++[n],at'+(w n).length,_,_,_,_,_,_,_,rfl,List.getElem?_set_self (List.getElem?_eq_some_iff.mp kc5).1,?_,q4.trans ((Keep.grow gA).trans Keep.set),by simp;omega,fun c hcm=>?_,hfl2,?_⟩
    ·exact (q3.more hnn (hf2 n hnf)).congr fun m _=>by rw[Yeu];omega
    ·rcases List.mem_append.mp hcm with h|h
     ·exact q6 c h
     ·rw[List.mem_singleton.mp h];exact .inr hnn
    ·rw[VQ,q8]
     have e:fillW names w [n]=w n:=by unfold fillW;simp[hnn]
     rw[e,List.take_add,hfit]
   ·have hr1l:t.length<=1:=by rw[<-hr1,List.length_take];omega
    have hr1low:∀c∈t,isLow c=true:=fun c h=>hrow c (List.mem_of_mem_drop (List.mem_of_mem_take (by rw[hr1];exact h)))
    have hnone:∀f,nval names f t=none:=fun f=>by
     match t,hr1low with
     | [],_=>rfl
     | [c],h=>exact V4 (lowN c (h c (List.mem_singleton.mpr rfl)))
     |_::_::_,_=>rfl
    rw[hnone,show (none:Option P).isSome=false from rfl]
    walk_at "ev"
    rw[Yfn (n:=rw') (kvs:=kw) (l:=t) (z:=tx t) rfl rfl rfl kw5,W.val,hnone]
    walk_at "ev"
    rw[show (none:Option P).getD (tx t)=tx t from rfl]
    walk_at "ev"
    rw[show ((at':Nat):Int)+((t.length:Nat):Int)=((at'+t.length:Nat):Int) by simp]
    refine⟨_,_,rfl,l++t,at'+t.length,kc,_,_,_,_,_,_,rfl,kc5,q3.congr fun n hn=>?_,q4.trans (Keep.grow gA),by rw[List.length_append];omega,fun c hcm=>?_,?_,?_⟩
    ·rw[List.count_append]
     have:t.count n=0:=List.count_eq_zero.mpr fun z=>lowN n (hr1low n z) hn
     omega
    ·rcases List.mem_append.mp hcm with h|h
     ·exact q6 c h
     ·exact .inl (hr1low c h)
    ·have:=congrArg List.length hr1
     rw[List.length_take,List.length_drop]at this
     omega
    ·rw[VQ,q8,YbH W.up hr1low,List.take_add]
     congr 1
     have h1:=congrArg List.length hr1
     rw[List.length_take,List.length_drop]at h1
     by_cases hz:at'<row.length
     ·have:t.length=1:=by omega
      rw[this,hr1]
     ·have h0:t.length=0:=by omega
      rw[h0,List.length_eq_zero_iff.mp h0,List.take_zero])
 rw[List.length_range]at e6
 have hdlen0:(row.drop at').length<=row.length:=by rw[List.length_drop];omega
 rw[e1,e2]
 walk_at "ev"
 have hdl:∀c∈row.drop at',isLow c=true:=fun c h=>hrow c (List.mem_of_mem_drop h)
 have hdlen:(row.drop at').length<=row.length:=by rw[List.length_drop];omega
 refine⟨l++row.drop at',kc',s',rfl,e3,e4.congr fun n hn=>?_,e5,by rw[List.length_append];omega,fun c h=>?_,?_⟩
 ·rw[List.count_append]
  have:(row.drop at').count n=0:=List.count_eq_zero.mpr fun z=>lowN n (hdl n z) hn
  omega
 ·rcases List.mem_append.mp h with h|h
  ·exact e7 c h
  ·exact .inl (hdl c h)
 ·rw[VQ,e9,YbH W.up hdl,List.take_append_drop]
theorem Ycc{nc:MT}{m:MS}{K:Nat}(I:Nat->Rho->Stor->Prop)(J:Rho->Stor->Prop){ρ:Rho}{st:Stor}(hK:K<1000000)(h0:I K ρ st)
 (step:∀k ρ st,I k ρ st->(∃st1,nc ρ st=.ok false st1/\J ρ st1)\/∃st1,nc ρ st=.ok true st1/\∃ρ' st' k',m ρ st1=.nx ρ' st'/\k'<k/\I k' ρ' st'):∃ρ' st',sWhile nc m ρ st=.nx ρ' st'/\J ρ' st':=by
 have key:∀(n k:Nat) ρ st,k<n->I k ρ st->∃ρ' st',whileN nc m n ρ st=.nx ρ' st'/\J ρ' st':=by
  intro n
  induction n with
  |zero=>intro k ρ st h;omega
  |succ n ih=>
   intro k ρ st hk h
   rcases step k ρ st h with⟨st1,h1,h2⟩|⟨st1,h1,ρ',st',k',h2,h3,h4⟩
   ·exact⟨ρ,st1,by simp only[whileN,h1,RS.ofE_ok,Bool.false_eq_true,if_false],h2⟩
   ·obtain⟨ρ2,st2,q1,q2⟩:=ih k' ρ' st' (by omega) h4
    exact⟨ρ2,st2,by simp only[whileN,h1,RS.ofE_ok,if_true,h2,q1],q2⟩
 exact key turns K ρ st hK h0
theorem Keep.grows{f:Nat}{a b c:Stor}(h:Grow a b)(k:Keep f b c)(hf:a.length<=f):Grow a c:=by
 refine⟨c.drop a.length,?_⟩
 have hl:=h.len
 have e:c.take a.length=a:=by
  apply List.ext_getElem?
  intro i
  by_cases hi:i<a.length
  ·rw[List.getElem?_take_of_lt hi,k.2 i (by omega) (by omega)]
   obtain⟨e,rfl⟩:=h
   rw[List.getElem?_append_left hi]
  ·rw[List.getElem?_eq_none (by rw[List.length_take];omega),List.getElem?_eq_none (by omega)]
 conv=>lhs;rw[<-List.take_append_drop a.length c,e]
theorem Yjd{kvs:List (Key×P)}{k:Key}{v:P}(h:valP kvs k=none):putP kvs k v=kvs++[(k,v)]:=by
 unfold putP
 rw[if_neg (by rw[valP_none.mp h];exact Bool.false_ne_true)]
theorem WD.more{kw:List (Key×P)}{names:List Nat}{w:Nat->List Nat}{n:Nat}{l:List Nat}(W:WD kw names w)(hn:n∉names)(hu:isUp n=true)(h6:names.length<6)(hl:l.length<=6/\∀c∈l,isLow c=true):WD (putP kw (tkey [n]) (tx l)) (names++[n]) (fun m=>if m=n then l else w m) where
 keys:=by
  rw[Yjd (by rw[W.val,V4 hn]),List.map_append,W.keys,List.map_append]
  rfl
 val:=fun x=>by
  rw[V3]
  by_cases hx:[n]=x
  ·subst hx
   rw[if_pos rfl,Zi (by simp)]
   simp
  ·rw[if_neg (fun z=>hx (tkey_inj.mp z)),W.val]
   unfold nval
   split
   ·rename_i m
    have hm:m≠n:=fun z=>hx (by rw[z])
    dsimp only
    rw[if_neg hm]
    by_cases hmn:m∈names
    ·rw[if_pos hmn,if_pos (by simp[hmn])]
    ·rw[if_neg hmn,if_neg (by simp[hmn,hm])]
   ·rfl
 low:=fun m=>by
  split
  ·exact hl
  ·exact W.low m
 up:=fun m hm=>by
  rcases List.mem_append.mp hm with h|h
  ·exact W.up m h
  ·rw[List.mem_singleton.mp h];exact hu
 many:=by rw[List.length_append];simp;omega
theorem CD.name{kc:List (Key×P)}{names:List Nat}{n:Nat}(C:CD kc names (fun _=>0))(hn:n∉names)(h6:kc.length<6):CD (putP kc (tkey [n]) (.int 0)) (names++[n]) (fun _=>0) where
 val:=fun x=>by
  rw[V3]
  by_cases hx:[n]=x
  ·subst hx
   rw[if_pos rfl,Zi (by simp)]
   rfl
  ·rw[if_neg (fun z=>hx (tkey_inj.mp z)),C.val]
   unfold nval
   split
   ·rename_i m
    have hm:m≠n:=fun z=>hx (by rw[z])
    by_cases hmn:m∈names
    ·rw[if_pos hmn,if_pos (by simp[hmn])]
    ·rw[if_neg hmn,if_neg (by simp[hmn,hm])]
   ·rfl
 two:=fun _ _=>Nat.zero_le _
 len:=by
  rw[Ycu]
  split <;> omega
theorem Ygb{names:List Nat}{w:Nat->List Nat}(hw:∀n,∀c∈w n,isLow c=true){l:List Nat}(hl:∀c∈l,isLow c=true\/c∈names):∀c∈fillW names w l,isLow c=true:=fun c hc=>by
 unfold fillW at hc
 obtain⟨d,hd,h⟩:=List.mem_flatMap.mp hc
 split at h
 ·exact hw d c h
 ·rename_i hdn
  rw[List.mem_singleton.mp h]
  rcases hl d hd with h|h
  ·exact h
  ·exact absurd h hdn
theorem YbR{tb:Sys}{e:List Nat×List Nat}:allL (tb++[e])=allL tb++(e.1++e.2):=by
 unfold allL
 rw[List.flatMap_append]
 simp
structure Made(tb:Sys)(names:List Nat)(w:Nat->List Nat):Prop where
 len:tb.length<=6
 each:∀e∈tb,e.1.length<=40/\e.2.length<=40
 lets:∀c∈allL tb,isLow c=true\/c∈names
 two:∀n∈names,(allL tb).count n<=2
 ans:∀e∈tb,fillW names w e.1=fillW names w e.2
theorem Jm{tb:Sys}(h:∀e∈tb,e.1.length<=40/\e.2.length<=40):(allL tb).length<=80 * tb.length:=by
 induction tb with
 |nil=>simp[allL]
 |cons a r ih=>
  have e1:allL (a::r)=(a.1++a.2)++allL r:=rfl
  have:=h a (List.mem_cons_self ..)
  have:=ih fun e he=>h e (List.mem_cons_of_mem _ he)
  rw[e1,List.length_append,List.length_append,List.length_cons]
  omega
theorem joinedK{k n:Nat}{tb:Sys}{st:Stor}(hk:listAt st k=some (tb.map encEq))(hn:n=tb.length)(h:(allL tb).length<=1000)(h6:tb.length<=1000):(compN (srcK k n) (mgTup 2 (mgCons (mgName 0) (mgCons (mgName 1) mgNil))) nTrue (eBin addP (eVar 0) (eVar 1)) [none,none] n 0 st []).bind (fun ps st2=>joinR (sT []) ps st2)=.ok (tx (allL tb)) st:=by
 rw[YU tb encEq (fun e=>tx (e.1++e.2)) hn (fun i hi=>nxK hk) (by omega) (fun e he=>⟨[some (tx e.1),some (tx e.2)],rfl,by
  have:=VY he
  walk_at "ev"⟩)]
 rw[R.bind_ok,show tb.map (fun e=>tx (e.1++e.2))=(tb.map fun e=>e.1++e.2).map tx by rw[List.map_map];rfl,ZH (by rw[<-List.flatMap_def];exact Nat.le_trans h (by omega)),<-List.flatMap_def]
 rfl
theorem YeO:up26.Nodup:=by decide
theorem Yh5{ns:List Int}{st:Stor}{a b c d:Nat}(h0:st[0]?=some (.ro (ns.map P.int)))(hl:ns.length<=63)(ha:1<=a/\a<=6)(hb:b<=6)(hc:1<=c/\c<=3)(hd:1<=d/\d<=6):
 ∃tb names S w kw re rw' rs st',Y5 [.ref 0,.tup [.int a,.int b,.int c,.int d,.int 36]] st=.ok (.tup [.ref re,.ref rw',.ref rs]) st'/\Grow st st'/\st'[re]?=some (.lst (tb.map encEq))/\st'[rw']?=some (.dct kw)/\st'[rs]?=some (ones S)/\
  st.length<=re/\re≠rs/\re≠rw'/\tb≠[]/\S≠[]/\S.length<=3/\(∀c∈S,isLow c=true)/\WD kw names w/\Made tb names w:=by
 unfold Y5 W2
 simp only[YkW,Yiq,ZZ]
 walk_at "ev"
 have c0:Yo [.ref 0,.int 0] st=.ok (.int (ns.getD 0 0)) st:=YcP 0 h0
 have c1:Yo [.ref 0,.int 1] st=.ok (.int (ns.getD 1 0)) st:=YcP 1 h0
 rw[c0]
 walk_at "ev"
 rw[c1]
 walk_at "ev"
 generalize ns.getD 0 0=first
 generalize ns.getD 1 0=second
 obtain⟨sm,hsm,sm1,sm2⟩:∃sm:Nat,1+first % 3=(sm:Int)/\1<=sm/\sm<=3:=⟨(1+first % 3).toNat,by omega,by omega,by omega⟩
 obtain⟨nm,hnm,nm1,nm2⟩:∃nm:Nat,1+first / 3 % (a:Int)=(nm:Int)/\1<=nm/\nm<=6:=by
  have a1:=Int.emod_nonneg (first / 3) (show (a:Int)≠0 by omega)
  have a2:=Int.emod_lt_of_pos (first / 3) (show (0:Int)<(a:Int) by omega)
  exact⟨(1+first / 3 % (a:Int)).toNat,by omega,by omega,by omega⟩
 obtain⟨many,hmany,mn1,mn2⟩:∃many:Nat,1+second % (d:Int)=(many:Int)/\1<=many/\many<=6:=by
  have a1:=Int.emod_nonneg second (show (d:Int)≠0 by omega)
  have a2:=Int.emod_lt_of_pos second (show (0:Int)<(d:Int) by omega)
  exact⟨(1+second % (d:Int)).toNat,by omega,by omega,by omega⟩
 obtain⟨sz,hsz,sz1,sz2⟩:∃sz:Nat,1+second / 6 % (c:Int)=(sz:Int)/\1<=sz/\sz<=3:=by
  have a1:=Int.emod_nonneg (second / 6) (show (c:Int)≠0 by omega)
  have a2:=Int.emod_lt_of_pos (second / 6) (show (0:Int)<(c:Int) by omega)
  exact⟨(1+second / 6 % (c:Int)).toNat,by omega,by omega,by omega⟩
 rw[hsm]
 obtain⟨S,rs,s1,t1,k1,S1,g1,r1,Sm,_⟩:=YdV (cell:=first / 36) (many:=sm) (al:=low26) (st:=st) (by decide) (by omega)
 rw[t1]
 walk_at "ev"
 rw[hnm]
 obtain⟨N,rn,s2,t2,k2,N1,g2,r2,Nm,Nd⟩:=YdV (cell:=second / 72) (many:=nm) (al:=up26) (st:=s1) (by decide) (by omega)
 rw[t2]
 walk_at "ev"
 have hS:S≠[]:=fun z=>by rw[z]at S1;simp at S1;omega
 have hlow:∀c∈S,isLow c=true:=fun c h=>mem_low26.mp (Sm c h)
 have hNd:N.Nodup:=Nd YeO (by omega)
 have hNu:∀n∈N,isUp n=true:=fun n h=>mem_up26.mp (Nm n h)
 have rsl:rs<s1.length:=(List.getElem?_eq_some_iff.mp k1).1
 have rnl:rn<s2.length:=(List.getElem?_eq_some_iff.mp k2).1
 have stl:0<st.length:=(List.getElem?_eq_some_iff.mp h0).1
 have l12:=g2.len
 have l01:=g1.len
 generalize hB:s2++[O.dct []]++[O.dct []]=B
 have gB:Grow s2 B:=by rw[<-hB];exact Grow.one.trans Grow.one
 have lB:(s2++[O.dct []]).length=s2.length+1:=by simp
 have kw0:B[s2.length]?=some (.dct []):=by rw[<-hB];exact Grow.one.get Ye
 have kc0:B[s2.length+1]?=some (.dct []):=by rw[<-hB,<-lB];exact Ye
 rw[lB,YO (gB.get k2),List.length_map]
 walk_at "ev"
 rw[N1,Int.toNat_natCast]
 obtain⟨ρ',s3,e1,kw,kc,w,e2,e3,e4,e5,e6,e6b,e7⟩:=Zw (src:=srcR 0 nm) (g:=mgName 13) (m:=WI) (N:=nm)
  (ρ:=[some (.ref 0),some (.tup [.int a,.int b,.int c,.int d,.int 36]),some (.int a),some (.int b),some (.int c),some (.int d),some (.int 36),some (.int first),some (.int second),some (.ref rs),some (.ref rn),some (.ref s2.length),some (.ref (s2.length+1)),none,none,none,none,none,none,none,none]) (st:=B) (List.range nm) (fun (k:Nat)=>.int (0+(k:Int)))
  (fun i ρ s=>∃(kw kc:List (Key×P))(w:Nat->List Nat),(∃v13,ρ=[some (.ref 0),some (.tup [.int a,.int b,.int c,.int d,.int 36]),some (.int a),some (.int b),some (.int c),some (.int d),some (.int 36),some (.int first),some (.int second),some (.ref rs),some (.ref rn),some (.ref s2.length),some (.ref (s2.length+1)),v13,none,none,none,none,none,none,none])/\
   s[s2.length]?=some (.dct kw)/\s[s2.length+1]?=some (.dct kc)/\WD kw (N.take i) w/\CD kc (N.take i) (fun _=>0)/\kc.length<=i/\Grow s2 s)
  (by simp) (fun i ρ s hi _=>nxR) ⟨[],[],fun _=>[],⟨none,rfl⟩,kw0,kc0,⟨rfl,fun l=>by unfold nval;split <;> simp[valP],fun _=>by simp,by simp,by simp⟩,⟨fun l=>by unfold nval;split <;> simp[valP],by simp,by simp⟩,Nat.le_refl _,gB⟩
  (fun i hi ρ s ⟨kw,kc,w,⟨v13,q1⟩,q2,q3,W,C,q6,q7⟩=>by
   subst q1
   have hi':i<nm:=by simpa using hi
   have hiN:i<N.length:=by omega
   rw[List.getElem_range]
   refine⟨_,rfl,?_⟩
   have hn:N[i]∉N.take i:=fun z=>by
    have e:N=N.take i++N.drop i:=(List.take_append_drop i N).symm
    have hd:=List.drop_eq_getElem_cons hiN
    rw[e,hd]at hNd
    exact (List.nodup_append.mp hNd).2.2 _ z _ (List.mem_cons_self ..) rfl
   have et:N.take (i+1)=N.take i++[N[i]]:=by rw[List.take_add_one,List.getElem?_eq_getElem hiN];rfl
   have hup:=hNu N[i] (List.getElem_mem hiN)
   have htl:(N.take i).length=i:=by rw[List.length_take];omega
   rw[et]
   have ix:∀s',s'[rn]?=some (ones N)->ixP (.ref rn) (.int (0+(i:Int))) s'=some (tx [N[i]],s'):=fun s' h=>WX h (by omega) (by rw[show ((0:Int)+(i:Int)).toNat=i by omega,List.getElem?_map,List.getElem?_eq_getElem hiN];rfl)
   have kn:=q7.get k2
   generalize N[i]=n at *
   unfold WI
   walk_at "ev"
   rw[show (2:Int)+(0+(i:Int))=((2+i:Nat):Int) by omega,YcP (2+i) ((g1.trans (g2.trans q7)).get h0)]
   walk_at "ev"
   obtain⟨l,y1,y2,y3⟩:=Yiu (cell:=ns.getD (2+i) 0) (most:=b) ((g2.trans q7).get k1) hS (by omega) (by omega) hlow
   rw[y1]
   walk_at "ev"
   rw[ix s kn]
   walk_at "ev"
   have hkwl:kw.length<=6:=by
    have:=congrArg List.length W.keys
    rw[List.length_map,List.length_map]at this
    have:=W.many
    omega
   rw[Wk q2 (by omega)]
   walk_at "ev"
   have hne:s2.length≠s2.length+1:=by omega
   have kn2:(s.set s2.length (O.dct (putP kw (tkey [n]) (tx l))))[rn]?=some (ones N):=by rw[List.getElem?_set_ne (by omega)];exact kn
   rw[ix _ kn2]
   walk_at "ev"
   have q32:(s.set s2.length (O.dct (putP kw (tkey [n]) (tx l))))[s2.length+1]?=some (.dct kc):=by rw[List.getElem?_set_ne hne];exact q3
   rw[Wk q32 (by omega)]
   walk_at "ev"
   refine⟨_,_,rfl,_,_,_,⟨_,rfl⟩,?_,List.getElem?_set_self (List.getElem?_eq_some_iff.mp q32).1,W.more hn hup (by omega) ⟨y2,y3⟩,C.name hn (by omega),?_,(q7.set (Nat.le_refl _)).set (by omega)⟩
   ·rw[List.getElem?_set_ne hne.symm]
    exact List.getElem?_set_self (List.getElem?_eq_some_iff.mp q2).1
   ·rw[Ycu]
    split <;> omega)
 obtain⟨v13,e2⟩:=e2
 rw[List.length_range,<-N1,List.take_length]at e5 e6
 rw[e1,e2]
 walk_at "ev"
 rw[hmany]
 rw[Int.toNat_natCast]
 have hrc:s2.length+1<s3.length:=(List.getElem?_eq_some_iff.mp e4).1
 have l23:=e7.len
 have gst:Grow st s3:=g1.trans (g2.trans e7)
 generalize hD:s3++[O.lst []]=D
 have gD:Grow s3 D:=by rw[<-hD];exact Grow.one
 have kD:D[s3.length]?=some (.lst []):=by rw[<-hD];exact Ye
 generalize hrw:s2.length=rw' at *
 generalize hrc':rw'+1=rc at *
 generalize hre:s3.length=re at *
 have n1:rw'≠rc:=by omega
 have n2:rs≠rc:=by omega
 have n3:rn≠rc:=by omega
 have n4:re≠rc:=by omega
 have n5:rw'≠re:=by omega
 have n6:rs≠re:=by omega
 have n7:rn≠re:=by omega
 have n8:st.length<=rc:=by omega
 have n9:st.length<=re:=by omega
 obtain⟨ρ',s4,f1,tb,kc4,u13,u16,u17,u18,u19,u20,f2,f3,f4,f5,f6c,f6,f7,f8,f9,f10,f11⟩:=Zw (src:=srcR 0 many) (g:=mgName 13) (m:=WP) (N:=many)
  (ρ:=[some (.ref 0),some (.tup [.int a,.int b,.int c,.int d,.int 36]),some (.int a),some (.int b),some (.int c),some (.int d),some (.int 36),some (.int first),some (.int second),some (.ref rs),some (.ref rn),some (.ref rw'),some (.ref rc),v13,some (.int many),some (.ref re),none,none,none,none,none]) (st:=D) (List.range many) (fun (k:Nat)=>.int (0+(k:Int)))
  (fun i ρ s=>∃(tb:Sys)(kc:List (Key×P))(v13 v16 v17 v18 v19 v20:Option P),ρ=[some (.ref 0),some (.tup [.int a,.int b,.int c,.int d,.int 36]),some (.int a),some (.int b),some (.int c),some (.int d),some (.int 36),some (.int first),some (.int second),some (.ref rs),some (.ref rn),some (.ref rw'),some (.ref rc),v13,some (.int many),some (.ref re),v16,v17,v18,v19,v20]/\
   s[rs]?=some (ones S)/\s[rn]?=some (ones N)/\s[rw']?=some (.dct kw)/\s[rc]?=some (.dct kc)/\s[re]?=some (.lst (tb.map encEq))/\CD kc N (fun n=>(allL tb).count n)/\tb.length=i/\Grow st s/\(∀e∈tb,e.1.length<=40/\e.2.length<=40/\fillW N w e.1=fillW N w e.2)/\∀c∈allL tb,isLow c=true\/c∈N)
  (by simp) (fun i ρ s hi _=>nxR) ⟨[],kc,v13,none,none,none,none,none,rfl,gD.get ((g2.trans e7).get k1),gD.get (e7.get k2),gD.get e3,gD.get e4,kD,e6.congr (fun n _=>by simp[allL]),rfl,gst.trans gD,by simp,by simp[allL]⟩
  (fun i hi ρ s ⟨tb,kc,v13,v16,v17,v18,v19,v20,q1,q2,q3,q4,q5,q6,q7,q8,q9,q10,q11⟩=>by
   subst q1
   have hi':i<many:=by simpa using hi
   rw[List.getElem_range]
   refine⟨_,rfl,?_⟩
   have hsl:re<s.length:=(List.getElem?_eq_some_iff.mp q6).1
   have hsl2:rc<s.length:=(List.getElem?_eq_some_iff.mp q5).1
   have hsl3:rw'<s.length:=(List.getElem?_eq_some_iff.mp q4).1
   unfold WP
   walk_at "ev"
   rw[YO q3,List.length_map]
   walk_at "ev"
   obtain⟨cs,hcs,x1⟩:=YlF (lo:=some (2+((N.length:Nat):Int)+(0+(i:Int)))) (hi:=some 63) (c:=(many:Int)) (Yfq (q9.get h0)) (by omega) (by omega)
   rw[x1]
   walk_at "ev"
   generalize hA1:s++[O.lst (cs.map P.int)]=A1
   have gA1:Grow s A1:=by rw[<-hA1];exact Grow.one
   have kl1:A1[s.length]?=some (.lst (cs.map P.int)):=by rw[<-hA1];exact Ye
   rw[hsz,YdI kl1 (by rw[List.length_map];omega),Yhy,<-List.map_take]
   walk_at "ev"
   generalize hA2:A1++[O.lst ((cs.take sz).map P.int)]=A2
   have gA2:Grow s A2:=gA1.trans (by rw[<-hA2];exact Grow.one)
   have kd2:A2[A1.length]?=some (.lst ((cs.take sz).map P.int)):=by rw[<-hA2];exact Ye
   have kl2:A2[s.length]?=some (.lst (cs.map P.int)):=(show Grow A1 A2 by rw[<-hA2];exact Grow.one).get kl1
   have a1l:=gA1.len
   obtain⟨l1,kc1,A3,y1,y2,y3,y4,y5,y6⟩:=YhK (w:=w) kd2 (gA2.get q2) (gA2.get q4) (gA2.get q5) (by omega) n2 n1 e5 q7 hS (by omega) hlow (by rw[List.length_take];omega)
   rw[y1]
   walk_at "ev"
   have hl1:l1.length<=3:=by rw[y5,List.length_take];omega
   have kw3:=y4.get n1 (gA2.get q4)
   rw[Yhc kw3 e5 (by omega)]
   walk_at "ev"
   generalize hrow:fillW N w l1=rowl
   have hrl:rowl.length<=18:=by rw[<-hrow];have:=YbK (names:=N) (fun n=>(e5.low n).1) l1;omega
   have hrlow:∀c∈rowl,isLow c=true:=by rw[<-hrow];exact Ygb (fun n=>(e5.low n).2) y6
   have kl3:=y4.get (show s.length≠rc by omega) kl2
   rw[YdI kl3 (by rw[List.length_map];omega),YhA,<-List.map_drop]
   walk_at "ev"
   generalize hA4:A3++[O.lst ((cs.drop sz).map P.int)]=A4
   have g34:Grow A3 A4:=by rw[<-hA4];exact Grow.one
   have kd4:A4[A3.length]?=some (.lst ((cs.drop sz).map P.int)):=by rw[<-hA4];exact Ye
   have K14:Keep rc s A4:=(Keep.grow gA2).trans (y4.trans (Keep.grow g34))
   have a3l:=((Keep.grow (f:=rc) gA2).trans y4).1
   obtain⟨l2,kc2,A5,z1,z2,z3,z4,z5,z6,z7⟩:=Yge (w:=w) kd4 (g34.get kw3) (g34.get y2) (by omega) n1 e5 y3 hrlow (by omega) (by rw[List.length_drop];omega)
   rw[z1]
   have K15:Keep rc s A5:=K14.trans z4
   have kre:=K15.get n4 q6
   have hl2:l2.length<=40:=by omega
   have fin:∀(x y:List Nat)(r13 r16 r17 r18 r19 r20:Option P),((x=l1/\y=l2)\/(x=l2/\y=l1))->∃ρ' s',RS.nx [some (P.ref 0),some (.tup [.int a,.int b,.int c,.int d,.int 36]),some (.int a),some (.int b),some (.int c),some (.int d),some (.int 36),some (.int first),some (.int second),some (.ref rs),some (.ref rn),some (.ref rw'),some (.ref rc),r13,some (.int many),some (.ref re),r16,r17,r18,r19,r20] (A5.set re (.lst (tb.map encEq++[.tup [tx x,tx y]])))=.nx ρ' s'/\
    ∃(tb:Sys)(kc:List (Key×P))(v13 v16 v17 v18 v19 v20:Option P),ρ'=[some (.ref 0),some (.tup [.int a,.int b,.int c,.int d,.int 36]),some (.int a),some (.int b),some (.int c),some (.int d),some (.int 36),some (.int first),some (.int second),some (.ref rs),some (.ref rn),some (.ref rw'),some (.ref rc),v13,some (.int many),some (.ref re),v16,v17,v18,v19,v20]/\
     s'[rs]?=some (ones S)/\s'[rn]?=some (ones N)/\s'[rw']?=some (.dct kw)/\s'[rc]?=some (.dct kc)/\s'[re]?=some (.lst (tb.map encEq))/\CD kc N (fun n=>(allL tb).count n)/\tb.length=i+1/\Grow st s'/\(∀e∈tb,e.1.length<=40/\e.2.length<=40/\fillW N w e.1=fillW N w e.2)/\∀c∈allL tb,isLow c=true\/c∈N:=fun x y r13 r16 r17 r18 r19 r20 hxy=>by
    have hpr:x.length<=40/\y.length<=40/\fillW N w x=fillW N w y/\(∀n,x.count n+y.count n=l1.count n+l2.count n)/\∀c,c∈x\/c∈y->c∈l1\/c∈l2:=by
     rcases hxy with⟨rfl,rfl⟩|⟨rfl,rfl⟩
     ·exact⟨by omega,hl2,by rw[z7,hrow],fun n=>rfl,fun c h=>h⟩
     ·exact⟨hl2,by omega,by rw[z7,hrow],fun n=>Nat.add_comm ..,fun c h=>h.symm⟩
    obtain⟨p1,p2,p3,p4,p5⟩:=hpr
    refine⟨_,_,rfl,tb++[(x,y)],kc2,_,_,_,_,_,_,rfl,?_,?_,?_,?_,?_,z3.congr fun n _=>?_,by simp[q8],(Keep.grows q9 K15 n8).set n9,fun e he=>?_,fun g hg=>?_⟩
    ·rw[List.getElem?_set_ne n6.symm];exact K15.get n2 q2
    ·rw[List.getElem?_set_ne n7.symm];exact K15.get n3 q3
    ·rw[List.getElem?_set_ne n5.symm];exact K15.get n1 q4
    ·rw[List.getElem?_set_ne n4];exact z2
    ·rw[List.getElem?_set_self (List.getElem?_eq_some_iff.mp kre).1,List.map_append];rfl
    ·rw[YbR,List.count_append,List.count_append]
     have:=p4 n
     dsimp only
     omega
    ·rcases List.mem_append.mp he with h|h
     ·exact q10 e h
     ·rw[List.mem_singleton.mp h];exact⟨p1,p2,p3⟩
    ·rw[YbR]at hg
     rcases List.mem_append.mp hg with h|h
     ·exact q11 g h
     ·rcases p5 g (List.mem_append.mp h) with h|h
      ·exact y6 g h
      ·exact z6 g h
   walk_at "ev"
   cases hsw:first / 18 % 2 == 1 with
   |true=>
    walk_at "ev"
    rw[Wx kre]
    walk_at "ev"
    rw[Wg kre (by rw[List.length_map];omega)]
    walk_at "ev"
    exact fin _ _ _ _ _ _ _ _ (.inr ⟨rfl,rfl⟩)
   |false=>
    walk_at "ev"
    rw[Wx kre]
    walk_at "ev"
    rw[Wg kre (by rw[List.length_map];omega)]
    walk_at "ev"
    exact fin _ _ _ _ _ _ _ _ (.inl ⟨rfl,rfl⟩))
 rw[List.length_range]at f8
 have hall:=Jm (tb:=tb) fun e he=>⟨(f10 e he).1,(f10 e he).2.1⟩
 have htb:tb≠[]:=fun z=>by rw[z]at f8;simp at f8;omega
 rw[f1,f2]
 walk_at "ev"
 rw[Yw (Yd f6)]
 walk_at "ev"
 rw[List.length_map,joinedK (Yd f6) rfl (by omega) (by omega)]
 walk_at "ev"
 obtain⟨ρ',s5,w1,tb',z17,w18,w20,w13,w16,w19,w2,w3,w4,w5,w6,w7,w8⟩:=Ycc (nc:=eAndT (eTst (eBin gtP (eB lenP (aCons (eVar 15) aNil)) (eC (P.int 1)))) (eTst (eBin gtP (eVar 17) (eVar 6)))) (m:=WM) (K:=tb.length)
  (fun k ρ s=>∃(tb':Sys)(z17:Int)(v18 v20 v13 v16 v19:Option P),ρ=[some (.ref 0),some (.tup [.int a,.int b,.int c,.int d,.int 36]),some (.int a),some (.int b),some (.int c),some (.int d),some (.int 36),some (.int first),some (.int second),some (.ref rs),some (.ref rn),some (.ref rw'),some (.ref rc),v13,some (.int many),some (.ref re),v16,some (.int z17),v18,v19,v20]/\
   s[rs]?=some (ones S)/\s[rw']?=some (.dct kw)/\s[re]?=some (.lst (tb'.map encEq))/\tb'.length=k/\Grow st s/\tb'≠[]/\∃r,tb=tb'++r)
  (fun ρ s=>∃(tb':Sys)(z17:Int)(v18 v20 v13 v16 v19:Option P),ρ=[some (.ref 0),some (.tup [.int a,.int b,.int c,.int d,.int 36]),some (.int a),some (.int b),some (.int c),some (.int d),some (.int 36),some (.int first),some (.int second),some (.ref rs),some (.ref rn),some (.ref rw'),some (.ref rc),v13,some (.int many),some (.ref re),v16,some (.int z17),v18,v19,v20]/\
   s[rs]?=some (ones S)/\s[rw']?=some (.dct kw)/\s[re]?=some (.lst (tb'.map encEq))/\Grow st s/\tb'≠[]/\∃r,tb=tb'++r)
  (ρ:=[some (.ref 0),some (.tup [.int a,.int b,.int c,.int d,.int 36]),some (.int a),some (.int b),some (.int c),some (.int d),some (.int 36),some (.int first),some (.int second),some (.ref rs),some (.ref rn),some (.ref rw'),some (.ref rc),u13,some (.int many),some (.ref re),u16,some (.int (allL tb).length),u18,u19,u20]) (st:=s4) (by omega)
  ⟨tb,_,_,_,_,_,_,rfl,f3,f5,f6,rfl,f9,htb,[],by simp⟩
  (fun k ρ s ⟨tb',z17,v18,v20,v13,v16,v19,q1,q2,q3,q4,q5,q6,q7,r,q8⟩=>by
   subst q1
   have hlt:tb'.length<=tb.length:=by rw[q8,List.length_append];omega
   have stay:∀st1,eAndT (eTst (eBin gtP (eB lenP (aCons (eVar 15) aNil)) (eC (P.int 1)))) (eTst (eBin gtP (eVar 17) (eVar 6))) [some (.ref 0),some (.tup [.int a,.int b,.int c,.int d,.int 36]),some (.int a),some (.int b),some (.int c),some (.int d),some (.int 36),some (.int first),some (.int second),some (.ref rs),some (.ref rn),some (.ref rw'),some (.ref rc),v13,some (.int many),some (.ref re),v16,some (.int z17),v18,v19,v20] s=.ok false st1->st1=s->(∃st1,eAndT (eTst (eBin gtP (eB lenP (aCons (eVar 15) aNil)) (eC (P.int 1)))) (eTst (eBin gtP (eVar 17) (eVar 6))) [some (.ref 0),some (.tup [.int a,.int b,.int c,.int d,.int 36]),some (.int a),some (.int b),some (.int c),some (.int d),some (.int 36),some (.int first),some (.int second),some (.ref rs),some (.ref rn),some (.ref rw'),some (.ref rc),v13,some (.int many),some (.ref re),v16,some (.int z17),v18,v19,v20] s=.ok false st1/\∃(tb':Sys)(z17':Int)(v18' v20' v13' v16' v19':Option P),[some (P.ref 0),some (.tup [.int a,.int b,.int c,.int d,.int 36]),some (.int a),some (.int b),some (.int c),some (.int d),some (.int 36),some (.int first),some (.int second),some (.ref rs),some (.ref rn),some (.ref rw'),some (.ref rc),v13,some (.int many),some (.ref re),v16,some (.int z17),v18,v19,v20]=[some (.ref 0),some (.tup [.int a,.int b,.int c,.int d,.int 36]),some (.int a),some (.int b),some (.int c),some (.int d),some (.int 36),some (.int first),some (.int second),some (.ref rs),some (.ref rn),some (.ref rw'),some (.ref rc),v13',some (.int many),some (.ref re),v16',some (.int z17'),v18',v19',v20']/\
    st1[rs]?=some (ones S)/\st1[rw']?=some (.dct kw)/\st1[re]?=some (.lst (tb'.map encEq))/\Grow st st1/\tb'≠[]/\∃r,tb=tb'++r):=fun st1 h1 h2=>by
    subst h2
    exact⟨_,h1,tb',z17,v18,v20,v13,v16,v19,rfl,q2,q3,q4,q6,q7,r,q8⟩
   by_cases h1:1<tb'.length
   ·by_cases h2:36<z17
    ·refine .inr ⟨s,?_,?_⟩
     ·walk_at "ev"
      rw[YO q4,List.length_map]
      walk_at "ev"
      rw[decide_eq_true (show (1:Int)<((tb'.length:Nat):Int) by omega)]
      walk_at "ev"
      rw[decide_eq_true h2]
     ·rcases List.eq_nil_or_concat tb' with hz|⟨t0,e,hz⟩
      ·exact absurd hz q7
      ·rw[List.concat_eq_append]at hz
       subst hz
       have hel:=f10 e (by rw[q8];simp)
       have q4':s[re]?=some (.lst (t0.map encEq++[.tup [tx e.1,tx e.2]])):=by rw[q4,List.map_append];rfl
       unfold WM
       walk_at "ev"
       rw[Wx q4']
       walk_at "ev"
       rw[Yli q4']
       walk_at "ev"
       refine⟨_,_,t0.length,rfl,by rw[<-q5];simp,t0,_,_,_,_,_,_,rfl,?_,?_,List.getElem?_set_self (List.getElem?_eq_some_iff.mp q4).1,rfl,q6.set n9,fun z=>by rw[z]at h1;simp at h1,e::r,by rw[q8];simp⟩
       ·rw[List.getElem?_set_ne n6.symm];exact q2
       ·rw[List.getElem?_set_ne n5.symm];exact q3
    ·refine .inl (stay s ?_ rfl)
     walk_at "ev"
     rw[YO q4,List.length_map]
     walk_at "ev"
     rw[decide_eq_true (show (1:Int)<((tb'.length:Nat):Int) by omega)]
     walk_at "ev"
     rw[decide_eq_false h2]
   ·refine .inl (stay s ?_ rfl)
    walk_at "ev"
    rw[YO q4,List.length_map]
    walk_at "ev"
    rw[decide_eq_false (show ¬(1:Int)<((tb'.length:Nat):Int) by omega)]
    walk_at "ev")
 rw[w1,w2]
 walk_at "ev"
 obtain⟨r,w9⟩:=w8
 refine⟨tb',N,S,w,kw,re,rw',rs,s5,rfl,w6,w5,w4,w3,n9,n6.symm,n5.symm,w7,hS,by omega,hlow,e5,⟨by rw[w9,List.length_append]at f8;omega,fun e he=>?_,fun g hg=>?_,fun n hn=>?_,fun e he=>?_⟩⟩
 ·have:=f10 e (by rw[w9];exact List.mem_append_left _ he)
  exact⟨this.1,this.2.1⟩
 ·refine f11 g ?_
  rw[w9]
  unfold allL at hg ⊢
  rw[List.flatMap_append]
  exact List.mem_append_left _ hg
 ·have h2:=f7.two n hn
  rw[w9]at h2
  unfold allL at h2 ⊢
  rw[List.flatMap_append,List.count_append]at h2
  omega
 ·exact (f10 e (by rw[w9];exact List.mem_append_left _ he)).2.2
theorem YbI:∀{l m:List Nat},l.Nodup->(∀x∈l,x∈m)->l.length<=m.length
 | [],m,_,_=>Nat.zero_le _
 |a::l,m,hn,h=>by
  have ha:a∈m:=h a (List.mem_cons_self ..)
  have hn':=List.nodup_cons.mp hn
  have ih:=YbI (l:=l) (m:=m.erase a) hn'.2 fun x hx=>by
   have e:x≠a:=fun e=>hn'.1 (by rw[<-e];exact hx)
   exact (List.mem_erase_of_ne e).mpr (h x (List.mem_cons_of_mem _ hx))
  rw[List.length_erase_of_mem ha]at ih
  have:0<m.length:=List.length_pos_of_mem ha
  rw[List.length_cons]
  omega
theorem s_A:("A":Str)=sT [65]:=by decide +kernel
theorem s_Z:("Z":Str)=sT [90]:=by decide +kernel
theorem s_a:("a":Str)=sT [97]:=by decide +kernel
theorem s_z:("z":Str)=sT [122]:=by decide +kernel
theorem Yet{c:Nat}{st:Stor}:YW [tx [c]] st=.ok (.bl (isUp c)) st:=by
 unfold YW WK tx
 walk_at "ev"
 rw[s_A,s_Z]
 simp only[JR]
 unfold isUp
 by_cases h:65<=c
 ·have e:decide (c<65)=false:=decide_eq_false (by omega)
  rw[e,decide_eq_true h]
  walk_at "ev"
  by_cases h2:c<=90
  ·rw[decide_eq_false (by omega:¬90<c),decide_eq_true h2];rfl
  ·rw[decide_eq_true (by omega:90<c),decide_eq_false h2];rfl
 ·have e:decide (c<65)=true:=decide_eq_true (by omega)
  rw[e,decide_eq_false h]
  rfl
theorem Jg{c:Nat}{st:Stor}:YN [tx [c]] st=.ok (.bl (isLow c)) st:=by
 unfold YN JB tx
 walk_at "ev"
 rw[s_a,s_z]
 simp only[JR]
 unfold isLow
 by_cases h:97<=c
 ·have e:decide (c<97)=false:=decide_eq_false (by omega)
  rw[e,decide_eq_true h]
  walk_at "ev"
  by_cases h2:c<=122
  ·rw[decide_eq_false (by omega:¬122<c),decide_eq_true h2];rfl
  ·rw[decide_eq_true (by omega:122<c),decide_eq_false h2];rfl
 ·have e:decide (c<97)=true:=decide_eq_true (by omega)
  rw[e,decide_eq_false h]
  rfl
def glue(p:P):P:=match p with
 | .tup [.str a,.str b]=>.str (a++b)
 |_=>.non
theorem YeB{tb:Sys}{st:Stor}(h:(allL tb).length<=1000)(h6:tb.length<=1000):Y8 [encSys tb] st=.ok (tx (allL tb)) st:=by
 unfold Y8 Ww encSys
 simp only[ZZ]
 walk_at "ev"
 have hc:=YbJ (src:=srcL (tb.map encEq)) (g:=mgTup 2 (mgCons (mgName 0) (mgCons (mgName 1) mgNil))) (nt:=nTrue) (me:=eBin addP (eVar 0) (eVar 1)) (ρ0:=[none,none]) (st:=st) (xs:=tb.map encEq) (fun _=>true) glue rfl (fun i hi=>rfl)
  (by rw[List.length_map];omega) (fun p hp=>by
   obtain⟨e,he,rfl⟩:=List.mem_map.mp hp
   have:=VY he
   refine⟨[some (tx e.1),some (tx e.2)],rfl,rfl,fun _=>?_⟩
   walk_at "ev"
   show R.ok (tx (e.1++e.2)) st=.ok (.str (sT e.1++sT e.2)) st
   rw[YaR]
   rfl)
 rw[Yea]at hc
 rw[hc]
 walk_at "ev"
 have e:((tb.map encEq).filter fun _=>true).map glue=(tb.map fun e=>e.1++e.2).map tx:=by
  rw[List.filter_eq_self.mpr (by intros;rfl),List.map_map,List.map_map]
  refine List.map_congr_left fun e _=>?_
  show P.str (sT e.1++sT e.2)=tx (e.1++e.2)
  rw[YaR]
  rfl
 have e2:(tb.map fun e=>e.1++e.2).flatten=allL tb:=by unfold allL;rw[List.flatMap_def]
 rw[e,ZH (by rw[e2];omega),e2]
 rfl
def Rises(r:List Nat):Prop:=r.Pairwise (·<·)
theorem Yh9{r s:List Nat}(h1:Rises r)(h2:Rises s)(h:∀c,c∈r↔c∈s):r=s:=by
 have n1:r.Nodup:=h1.imp fun h=>Nat.ne_of_lt h
 have n2:s.Nodup:=h2.imp fun h=>Nat.ne_of_lt h
 exact List.Perm.eq_of_pairwise (le:=(·<·)) (fun a b _ _ x y=>absurd x (Nat.lt_asymm y)) h1 h2 ((List.perm_ext_iff_of_nodup n1 n2).mpr h)
theorem YiI{a b:Nat}:leS (sT [a]) (sT [b])=decide (a<=b):=by
 unfold leS
 rw[JR]
 by_cases h:a<=b
 ·rw[decide_eq_true h,decide_eq_false (by omega)];rfl
 ·rw[decide_eq_false h,decide_eq_true (by omega)];rfl
theorem Yf7(ls:List Nat)(hn:ls.Nodup):∃r,sortS (ls.map fun c=>sT [c])=r.map (fun c=>sT [c])/\Rises r/\r.Perm ls:=by
 have hp:=List.mergeSort_perm ls (fun a b=>decide (a<=b))
 have hs:=List.pairwise_mergeSort (le:=fun a b:Nat=>decide (a<=b)) (fun a b c h1 h2=>by simp at *;omega) (fun a b=>by simp;omega) ls
 refine⟨ls.mergeSort (fun a b=>decide (a<=b)),(Jp (hp.map _) ?_).symm,?_,hp⟩
 ·rw[List.pairwise_map]
  exact hs.imp fun h=>by rw[YiI];exact h
 ·have hn':(ls.mergeSort (fun a b=>decide (a<=b))).Nodup:=hp.nodup_iff.mpr hn
  exact (hs.and hn').imp fun ⟨h1,h2⟩=>Nat.lt_of_le_of_ne (of_decide_eq_true h1) h2
theorem rising{ls:List Nat}{k:Nat}{st:Stor}(h:listAt st k=some (ls.map fun c=>tx [c]))(hl:ls.length<=1000)(ha:∀c∈ls,isLet c=true):∃r,Wn [.ref k] st=.ok (tx r) st/\Rises r/\∀c,c∈r↔c∈ls:=by
 unfold Wn YaV
 simp only[ZZ]
 walk_at "ev"
 have ho:∀x∈once (ls.map fun c=>sT [c]),∃c,x=sT [c]/\isLet c=true:=fun x hx=>by
  obtain⟨c,hc,rfl⟩:=List.mem_map.mp (mem_once.mp hx)
  exact⟨c,rfl,ha c hc⟩
 obtain⟨l0,e0,h0⟩:=Ya5 ho
 have hn:l0.Nodup:=by
  have:=Yes (ls.map fun c=>sT [c])
  rw[e0]at this
  rw[List.nodup_iff_pairwise_ne,List.pairwise_map]at this
  exact this.imp fun h e=>h (by rw[e])
 have hm:∀c,c∈l0↔c∈ls:=fun c=>by
  have key:∀l:List Nat,c∈l↔sT [c]∈l.map fun c=>sT [c]:=fun l=>by
   rw[List.mem_map]
   constructor
   ·intro h;exact⟨c,h,rfl⟩
   ·rintro⟨d,hd,e⟩
    have:[d]=[c]:=sT_inj.mp e
    cases this
    exact hd
  rw[key l0,<-e0,mem_once,<-key ls]
 have h64:l0.length<64:=by
  have:=YbI (m:=(List.range 26).map (65+·)++(List.range 26).map (97+·)) hn fun c hc=>by
   have:=isLet_iff.mp (h0 c hc)
   rw[List.mem_append,List.mem_map,List.mem_map]
   rcases this with h|h
   ·exact .inr ⟨c - 97,by simp;omega,by omega⟩
   ·exact .inl ⟨c - 65,by simp;omega,by omega⟩
  have e:((List.range 26).map (65+·)++(List.range 26).map (97+·)).length=52:=by decide
  omega
 obtain⟨r,r1,r2,r3⟩:=Yf7 l0 hn
 have hsort:lSortSetX (eVar 0) [some (.ref k)] st=.ok (r.map fun c=>tx [c]) st:=by
  unfold lSortSetX
  walk_at "ev"
  simp only[h]
  rw[YaF]
  dsimp only
  have e1:(ls.map fun c=>[c]).map sT=ls.map fun c=>sT [c]:=by rw[List.map_map];rfl
  rw[e1,if_pos ⟨by rw[List.length_map];omega,by rw[e0,List.length_map];exact h64⟩,e0,r1,List.map_map]
  rfl
 rw[hsort]
 walk_at "ev"
 rw[VI (by rw[r3.length_eq];omega)]
 exact⟨r,rfl,r2,fun c=>by rw[r3.mem_iff,hm]⟩
def headP(f:Nat->Bool)(p:P):Bool:=match p with
 | .str x=>f (x.cps.toList.headD 0)
 |_=>false
theorem Yd3(f:Nat->Bool)(ls:List Nat):((ls.map fun c=>tx [c]).filter (headP f)).map id=(ls.filter f).map fun c=>tx [c]:=by
 rw[List.map_id,List.filter_map]
 congr 1
theorem YfT(l:List Nat)(st:Stor):∀i,i<=(l.map fun c=>tx [c]).length->(srcS (sT l)).nx i st=some (l.map fun c=>tx [c])[i]?:=fun i hi=>by
 rw[Ye6 (by simpa using hi),YhC,List.getElem?_map]
 rfl
theorem YhG{tb:Sys}{st:Stor}(h:(allL tb).length<=1000)(h6:tb.length<=1000)(ha:∀c∈allL tb,isLet c=true):∃r st',Zl [encSys tb] st=.ok (tx r) st'/\Grow st st'/\Rises r/\∀c,c∈r↔c∈allL tb/\isUp c=true:=by
 unfold Zl VX
 walk_at "ev"
 rw[YeB h h6]
 walk_at "ev"
 have hc:=YbJ (src:=srcS (sT (allL tb))) (g:=mgName 0) (nt:=eTru (eCall 1 YW (aCons (eVar 0) aNil))) (me:=eVar 0) (ρ0:=[none]) (st:=st) (xs:=(allL tb).map fun c=>tx [c]) (headP isUp) id (by simp) (YfT _ _)
  (by rw[List.length_map];omega) (fun p hp=>by
   obtain⟨c,hc,rfl⟩:=List.mem_map.mp hp
   refine⟨[some (tx [c])],rfl,?_,fun _=>rfl⟩
   walk_at "ev"
   rw[Yet]
   rfl)
 rw[YhS]at hc
 rw[hc,Yd3]
 walk_at "ev"
 obtain⟨r,r1,r2,r3⟩:=rising (ls:=(allL tb).filter isUp) (k:=st.length) (st:=st++[.lst (((allL tb).filter isUp).map fun c=>tx [c])]) (Yd Ye) (Nat.le_trans (List.length_filter_le _ _) h) (fun c hc=>ha c (List.mem_filter.mp hc).1)
 rw[r1]
 walk_at "ev"
 exact⟨r,_,rfl,Grow.one,r2,fun c=>by rw[r3,List.mem_filter]⟩
theorem mem_allL{tb:Sys}{c:Nat}:c∈allL tb↔∃e∈tb,c∈e.1\/c∈e.2:=by
 unfold allL
 simp[List.mem_flatMap]
theorem joined{tb:Sys}{st:Stor}(h:(allL tb).length<=1000)(h6:tb.length<=1000):(compN (srcL (tb.map encEq)) (mgTup 2 (mgCons (mgName 0) (mgCons (mgName 1) mgNil))) nTrue (eBin addP (eVar 0) (eVar 1)) [none,none] tb.length 0 st []).bind (fun ps st2=>joinR (sT []) ps st2)=.ok (tx (allL tb)) st:=by
 rw[YU tb encEq (fun e=>tx (e.1++e.2)) rfl (fun i hi=>nxL) (by omega) (fun e he=>⟨[some (tx e.1),some (tx e.2)],rfl,by
  have:=VY he
  walk_at "ev"⟩)]
 rw[R.bind_ok,show tb.map (fun e=>tx (e.1++e.2))=(tb.map fun e=>e.1++e.2).map tx by rw[List.map_map];rfl,ZH (by rw[<-List.flatMap_def];exact Nat.le_trans h (by omega)),<-List.flatMap_def]
 rfl
theorem picked{al l:List Nat}{st:Stor}(h:al.length<=1000):compN (srcS (sT al)) (mgName 0) (eTst (eBin inP (eVar 0) (eVar 1))) (eVar 0) [none,some (tx l)] al.length 0 st []=.ok ((al.filter fun c=>decide (c∈l)).map fun c=>tx [c]) st:=
 Zx al (fun c=>tx [c]) (fun c=>decide (c∈l)) (fun c=>tx [c]) rfl (fun i hi=>nxS hi) (by omega) (fun c _=>⟨[some (tx [c]),some (tx l)],rfl,by
  walk_at "ev",fun _=>rfl⟩)
def nsOf(tb:Sys):List Nat:=up26.filter fun c=>decide (c∈allL tb)
theorem YhE(tb:Sys):(nsOf tb).length<=1000:=Nat.le_trans (List.length_filter_le ..) (by decide)
theorem Ygh{tb:Sys}{st:Stor}(h:(allL tb).length<=1000)(h6:tb.length<=1000):Y9 [encSys tb] st=.ok (tx (nsOf tb)) st:=by
 unfold Y9 WQ encSys
 simp only[Yiq,ZZ]
 walk_at "ev"
 rw[List.length_map,joined h h6]
 walk_at "ev"
 rw[picked (by decide)]
 have hns:(up26.filter fun c=>decide (c∈allL tb))=nsOf tb:=rfl
 have hl:=YhE tb
 rw[hns]
 walk_at "ev"
 rw[VI (by omega)]
 rfl
theorem YhM{tb:Sys}{st:Stor}(h:(allL tb).length<=1000)(h6:tb.length<=1000)(ha:∀c∈allL tb,isLet c=true):∃st',Zl [encSys tb] st=.ok (tx (nsOf tb)) st'/\Grow st st':=by
 obtain⟨r,s1,n1,g1,n2,n3⟩:=YhG (st:=st) h h6 ha
 have e1:r=nsOf tb:=Yh9 n2 (List.Pairwise.filter _ (by decide)) fun c=>by
  unfold nsOf
  rw[n3,List.mem_filter,mem_up26,decide_eq_true_iff];exact And.comm
 rw[e1]at n1
 exact⟨s1,n1,g1⟩
theorem YeF{tb:Sys}{st:Stor}(h:(allL tb).length<=1000)(h6:tb.length<=1000)(ha:∀c∈allL tb,isLet c=true)(hl:∀e∈tb,e.1.length<=1000/\e.2.length<=1000):∃st',Za [encSys tb] st=.ok (.tup [tx (nsOf tb),encSys (strip tb)]) st'/\Grow st st':=by
 unfold Za Ws
 walk_at "ev"
 obtain⟨s1,t1,g1⟩:=YhM (st:=st) h h6 ha
 rw[t1]
 walk_at "ev"
 obtain⟨s2,t2,g2⟩:=stripped (st:=s1) h6 hl
 rw[t2]
 walk_at "ev"
 exact⟨s2,rfl,g1.trans g2⟩
def against(e:List Nat×List Nat):Bool:=if e.1=[]\/e.2=[] then (e.1++e.2).any isLow else isLow (e.1.headD 0) && isLow (e.2.headD 0)
theorem Zh{l:List Nat}{st:Stor}(h:l≠[])(hl:l.length<=1000000):ixP (tx l) (.int 0) st=some (tx [l.headD 0],st):=by
 match l,h with
 |c::l,_=>exact Zd (i:=0) rfl hl
theorem Yda{l:List Nat}{st:Stor}(hl:l.length<=10000):ZB [tx l] st=.ok (.bl (l.any isLow)) st:=by
 unfold ZB VJ
 walk_at "ev"
 rw[YU (g:=mgName 0) l (fun c=>tx [c]) (fun c=>.bl (isLow c)) rfl (fun i hi=>nxS hi) (by omega) (fun c _=>⟨[some (tx [c])],rfl,by
  walk_at "ev"
  rw[Jg]
  rfl⟩)]
 walk_at "ev"
 rw[Yg0]
 rfl
theorem Yen{e:List Nat×List Nat}{st:Stor}(h1:e.1.length<=1000)(h2:e.2.length<=1000):Zc [tx e.1,tx e.2] st=.ok (.bl (against e)) st:=by
 unfold Zc WL
 simp only[s_e]
 walk_at "ev"
 by_cases a1:e.1=[]
 ·have hag:against e=(e.1++e.2).any isLow:=by unfold against;rw[if_pos (.inl a1)]
  rw[decide_eq_true a1,hag]
  walk_at "ev"
  rw[Yda (by simp;omega)]
  rfl
 ·rw[decide_eq_false a1]
  walk_at "ev"
  by_cases a2:e.2=[]
  ·have hag:against e=(e.1++e.2).any isLow:=by unfold against;rw[if_pos (.inr a2)]
   rw[decide_eq_true a2,hag]
   walk_at "ev"
   rw[Yda (by simp;omega)]
   rfl
  ·have hag:against e=(isLow (e.1.headD 0) && isLow (e.2.headD 0)):=by unfold against;rw[if_neg (by simp[a1,a2])]
   rw[decide_eq_false a2,hag]
   walk_at "ev"
   rw[Zh a1 (by omega)]
   walk_at "ev"
   rw[Jg]
   walk_at "ev"
   cases isLow (e.1.headD 0) with
   |false=>rfl
   |true=>
    walk_at "ev"
    rw[Zh a2 (by omega)]
    walk_at "ev"
    rw[Jg]
    rfl
theorem YiS{tb:Sys}{l:List Nat}{st:Stor}(h6:tb.length<=1000)(hl:∀e∈tb,e.1.length<=1000/\e.2.length<=1000):ZP [.tup [tx l,encSys tb]] st=.ok (.bl (tb.any against)) st:=by
 unfold ZP JJ encSys
 walk_at "ev"
 rw[List.length_map]
 rw[YU (g:=mgTup 2 (mgCons (mgName 0) (mgCons (mgName 1) mgNil))) tb encEq (fun e=>.bl (against e)) rfl (fun i hi=>nxL) (by omega) (fun e he=>⟨[some (tx e.1),some (tx e.2)],rfl,by
  walk_at "ev"
  rw[Yen (hl e he).1 (hl e he).2]
  rfl⟩)]
 walk_at "ev"
 rw[Yg0]
 rfl
theorem Yds{tb:Sys}{l:List Nat}{st:Stor}:YV [.tup [tx l,encSys tb]] st=.ok (.bl (((tb.length:Nat):Int) == 0)) st:=by
 unfold YV VV encSys
 walk_at "ev"
 rw[List.length_map]
theorem YeK{tb:Sys}{e:List Nat×List Nat}:strip (tb++[e])=strip tb++if cut e=([],[]) then [] else [cut e]:=by
 unfold strip
 rw[List.map_append,List.filter_append]
 congr 1
 by_cases h:cut e=([],[])
 ·rw[if_pos h];simp[h]
 ·rw[if_neg h];simp[h]
theorem Yb1{p:P}{tb:Sys}{st:Stor}(hp:∀s,Grow st s->∃src,srcOf p s=some src/\src.n=tb.length/\∀s',Grow st s'->∀i,i<=tb.length->src.nx i s'=some (tb[i]?.map encEq))(h6:tb.length<=1000)(hl:∀e∈tb,e.1.length<=1000/\e.2.length<=1000):∃st',Yp [p] st=.ok (encSys (strip tb)) st'/\Grow st st':=by
 unfold Yp WF
 walk_at "ev"
 obtain⟨src,hs1,hs2,hs3⟩:=hp (st++[.lst []]) Grow.one
 rw[hs1]
 walk_at "ev"
 rw[hs2]
 obtain⟨ρ',s',e1,v2,v3,v4,e2,e3⟩:=Zw (src:=src) (g:=mgTup 2 (mgCons (mgName 2) (mgCons (mgName 3) mgNil))) (m:=Wb) (N:=tb.length) (ρ:=[some p,some (.ref st.length),none,none,none]) (st:=st++[.lst []]) tb encEq
  (fun i ρ s=>∃v2 v3 v4,ρ=[some p,some (.ref st.length),v2,v3,v4]/\s=st++[.lst ((strip (tb.take i)).map encEq)]) rfl (fun i ρ s hi ⟨_,_,_,_,q⟩=>hs3 s (by rw[q];exact Grow.one) i hi) ⟨none,none,none,rfl,rfl⟩
  (fun i hi ρ s ⟨v2,v3,v4,q1,q2⟩=>by
   subst q1
   have hb:=hl tb[i] (List.getElem_mem hi)
   have et:tb.take (i+1)=tb.take i++[tb[i]]:=by rw[List.take_add_one,List.getElem?_eq_getElem hi];rfl
   have htl:(strip (tb.take i)).length<=1000:=by
    unfold strip
    refine Nat.le_trans (List.length_filter_le ..) ?_
    rw[List.length_map,List.length_take]
    omega
   rw[et,YeK]
   generalize tb[i]=e at hb
   obtain⟨x,y⟩:=e
   dsimp only at hb
   refine⟨[some p,some (.ref st.length),some (tx x),some (tx y),v4],rfl,?_⟩
   have hle:=YiA x y
   unfold Wb
   simp only[s_e]
   rw[W9,Ycy]
   walk_at "ev"
   obtain⟨ρ',s',w1,w2,w3⟩:=Yb6 (nc:=eAndT (eTst (eBin ltP (eVar 4) (eB minP (aCons (eB lenP (aCons (eVar 2) aNil)) (aCons (eB lenP (aCons (eVar 3) aNil)) aNil))))) (eTst (eBin eqP (eBin ixP (eVar 2) (eVar 4)) (eBin ixP (eVar 3) (eVar 4))))) (m:=Z8) (N:=cp x y)
    (fun i ρ s'=>ρ=[some p,some (.ref st.length),some (tx x),some (tx y),some (.int (i:Nat))]/\s'=s) (fun ρ s'=>ρ=[some p,some (.ref st.length),some (tx x),some (tx y),some (.int (cp x y:Nat))]/\s'=s) (ρ:=[some p,some (.ref st.length),some (tx x),some (tx y),some (.int 0)]) (st:=s) (by omega) ⟨rfl,rfl⟩
    (fun i ρ s' hi ⟨q1,q2⟩=>by
     subst q1;subst q2
     obtain⟨c,h1,h2⟩:=Yc1 x y i hi
     refine⟨s',?_,?_⟩
     ·walk_at "ev"
      rw[decide_eq_true (by split <;> omega)]
      walk_at "ev"
      rw[Zd h1 (by omega)]
      walk_at "ev"
      rw[Zd h2 (by omega)]
      walk_at "ev"
     ·unfold Z8
      walk_at "ev"
      exact⟨_,_,rfl,by simp,rfl⟩)
    (fun ρ s' ⟨q1,q2⟩=>by
     subst q1;subst q2
     refine⟨s',?_,rfl,rfl⟩
     walk_at "ev"
     rcases cp_end x y with h|h|⟨c,d,h1,h2,h3⟩
     ·have:=List.getElem?_eq_none_iff.mp h
      rw[decide_eq_false (by split <;> omega)]
      walk_at "ev"
     ·have:=List.getElem?_eq_none_iff.mp h
      rw[decide_eq_false (by split <;> omega)]
      walk_at "ev"
     ·have l1:=(List.getElem?_eq_some_iff.mp h1).1
      have l2:=(List.getElem?_eq_some_iff.mp h2).1
      rw[decide_eq_true (by split <;> omega)]
      walk_at "ev"
      rw[Zd h1 (by omega)]
      walk_at "ev"
      rw[Zd h2 (by omega)]
      walk_at "ev"
      rw[show decide ([c]=[d])=false by simpa using h3])
   rw[w1,w2,w3]
   walk_at "ev"
   have kf:s[st.length]?=some (.lst ((strip (tb.take i)).map encEq)):=by rw[q2];exact Ye
   have app:∀(w4:Option P),cut (x,y)≠([],[])->∃ρ' s',(RS.ofE [some p,some (.ref st.length),some (tx x),some (tx y),w4] (if isLst (P.ref st.length) s=true then ofO (appendP (.ref st.length) [.tup [tx (x.drop (cp x y)),tx (y.drop (cp x y))]] s) else .bad) fun _ st1=>.nx [some p,some (.ref st.length),some (tx x),some (tx y),w4] st1)=.nx ρ' s'/\∃v2 v3 v4,ρ'=[some p,some (.ref st.length),v2,v3,v4]/\s'=st++[.lst ((strip (tb.take i)++if cut (x,y)=([],[]) then [] else [cut (x,y)]).map encEq)]:=fun w4 hne=>by
    rw[Wx kf]
    walk_at "ev"
    rw[Wg kf (by rw[List.length_map];omega)]
    walk_at "ev"
    refine⟨_,_,rfl,_,_,_,rfl,?_⟩
    rw[if_neg hne,q2,List.set_append_right _ _ (Nat.le_refl _),Nat.sub_self,List.map_append]
    rfl
   by_cases h1:x.drop (cp x y)=[]
   ·rw[decide_eq_true h1]
    walk_at "ev"
    by_cases h2:y.drop (cp x y)=[]
    ·rw[decide_eq_true h2]
     walk_at "ev"
     have hc:cut (x,y)=([],[]):=by unfold cut;dsimp only;rw[h1,h2]
     exact⟨_,_,rfl,_,_,_,rfl,by rw[if_pos hc,List.append_nil];exact q2⟩
    ·rw[decide_eq_false h2]
     walk_at "ev"
     have:=app (some (.int (cp x y:Nat))) (fun z=>h2 (congrArg Prod.snd z))
     simpa only[List.length_cons,List.length_nil]using this
   ·rw[decide_eq_false h1]
    walk_at "ev"
    have:=app (some (.int (cp x y:Nat))) (fun z=>h1 (congrArg Prod.fst z))
    simpa only[List.length_cons,List.length_nil]using this)
 rw[e1,e2,e3,List.take_length]
 walk_at "ev"
 rw[Vh (Yd Ye)]
 exact⟨_,rfl,Grow.one⟩
theorem Ygm{tb:Sys}{st:Stor}(h6:tb.length<=1000)(hl:∀e∈tb,e.1.length<=1000/\e.2.length<=1000):∃st',Yp [encSys tb] st=.ok (encSys (strip tb)) st'/\Grow st st':=
 Yb1 (fun s _=>⟨srcL (tb.map encEq),rfl,by rw[Yea,List.length_map],fun s' _ i _=>nxL⟩) h6 hl
theorem YfR{k:Nat}{tb:Sys}{st:Stor}(hk:st[k]?=some (.lst (tb.map encEq)))(h6:tb.length<=1000)(hl:∀e∈tb,e.1.length<=1000/\e.2.length<=1000):∃st',Yp [.ref k] st=.ok (encSys (strip tb)) st'/\Grow st st':=
 Yb1 (fun s g=>⟨srcK k (tb.map encEq).length,Yw (Yd (g.get hk)),by rw[YhU,List.length_map],fun s' g' i _=>nxK (Yd (g'.get hk))⟩) h6 hl
theorem Yei{l:List Nat}{t:Nat->Bool}:(!((l.filter t).map fun c=>tx [c]).isEmpty)=l.any t:=by
 rw[List.isEmpty_map,Ygt,Bool.not_not]
theorem Yh1{tb:Sys}{l:List Nat}{st:Stor}(h6:tb.length<=1000)(hl:∀e∈tb,e.1.length<=1000/\e.2.length<=1000)(ha:∀e∈tb,∀c,c∈e.1\/c∈e.2->isLet c=true):∃st',Zq [.tup [tx l,encSys tb]] st=.ok (.bl (tb.any against)) st'/\Grow st st':=by
 unfold Zq Vo
 have henc:encSys tb=.tup (tb.map encEq):=rfl
 rw[henc]
 walk_at "ev"
 rw[List.length_map]
 have out:=Ygk (src:=srcL (tb.map encEq)) (g:=mgTup 2 (mgCons (mgName 1) (mgCons (mgName 2) mgNil))) (m:=WG) (N:=tb.length) (ρ:=[some (.tup [tx l,.tup (tb.map encEq)]),none,none]) (st:=st) tb encEq against (fun _=>.bl true)
  (fun ρ s=>Grow st s/\∃v1 v2,ρ=[some (.tup [tx l,.tup (tb.map encEq)]),v1,v2]) (fun s=>Grow st s) rfl (fun i ρ s hi _=>nxL) ⟨Grow.refl,none,none,rfl⟩
  (fun j hj ρ s _ ⟨q1,v1,v2,q2⟩=>by
   subst q2
   have hb:=hl tb[j] (List.getElem_mem hj)
   have hA:=ha tb[j] (List.getElem_mem hj)
   generalize tb[j]=e at hb hA
   obtain⟨x,y⟩:=e
   dsimp only at hb hA
   refine⟨[some (.tup [tx l,.tup (tb.map encEq)]),some (tx x),some (tx y)],rfl,?_⟩
   have both:∀r:RS,(∀b:Bool,against (x,y)=b->r=if b=true then .rt (.bl true) (s++[O.lst (((x++y).filter isLow).map fun c=>tx [c])]++[.lst []]) else .nx [some (.tup [tx l,.tup (tb.map encEq)]),some (tx x),some (tx y)] (s++[O.lst (((x++y).filter isLow).map fun c=>tx [c])]++[.lst []]))->(against (x,y)=true->∃s',r=.rt (.bl true) s'/\Grow st s')/\(against (x,y)=false->∃ρ' s',r=.nx ρ' s'/\Grow st s'/\∃v1 v2,ρ'=[some (.tup [tx l,.tup (tb.map encEq)]),v1,v2]):=fun r hr=>
    ⟨fun h=>⟨_,(hr true h).trans (if_pos rfl),q1.trans (Grow.one.trans Grow.one)⟩,fun h=>⟨_,_,(hr false h).trans (if_neg Bool.false_ne_true),q1.trans (Grow.one.trans Grow.one),_,_,rfl⟩⟩
   have elif:(x=[]\/y=[])->(RS.ofE [some (P.tup [tx l,.tup (tb.map encEq)]),some (tx x),some (tx y)] ((((compN (srcS (sT (x++y))) (mgName 0) (eTru (eM isStr islowerP (eVar 0) aNil)) (eVar 0) [none] (x++y).length 0 s []).bind fun ps st1=>R.ok (P.ref st1.length) (st1++[O.lst ps])).bind fun p st1=>ofO (neP p (P.ref st1.length) (st1++[O.lst []]))).bind fun p st1=>match p with| .bl c=>.ok c st1|_=>.bad) fun k st1=>if k=true then .rt (.bl true) st1 else .nx [some (.tup [tx l,.tup (tb.map encEq)]),some (tx x),some (tx y)] st1)=if against (x,y)=true then .rt (.bl true) (s++[O.lst (((x++y).filter isLow).map fun c=>tx [c])]++[.lst []]) else .nx [some (.tup [tx l,.tup (tb.map encEq)]),some (tx x),some (tx y)] (s++[O.lst (((x++y).filter isLow).map fun c=>tx [c])]++[.lst []]):=fun h=>by
    have hag:against (x,y)=(x++y).any isLow:=by unfold against;rw[if_pos h]
    rw[Zx (g:=mgName 0) (x++y) (fun c=>tx [c]) isLow (fun c=>tx [c]) rfl (fun i hi=>nxS hi) (by simp;omega) (fun c hc=>⟨[some (tx [c])],rfl,by
     have:c<128:=Vp (hA c (List.mem_append.mp hc))
     walk_at "ev",fun _=>rfl⟩)]
    walk_at "ev"
    rw[YfN (xs:=((x++y).filter isLow).map fun c=>tx [c]) (Grow.one.listAt (Yd Ye)) (Yf6 _) (Yd Ye),Yei,<-hag]
    walk_at "ev"
   unfold WG
   simp only[s_e]
   walk_at "ev"
   by_cases h1:x=[]
   ·rw[decide_eq_true h1]
    walk_at "ev"
    exact both _ fun b hb=>by rw[<-hb];exact elif (.inl h1)
   ·rw[decide_eq_false h1]
    walk_at "ev"
    by_cases h2:y=[]
    ·rw[decide_eq_true h2]
     walk_at "ev"
     exact both _ fun b hb=>by rw[<-hb];exact elif (.inr h2)
    ·rw[decide_eq_false h2]
     walk_at "ev"
     have hag:against (x,y)=(isLow (x.headD 0) && isLow (y.headD 0)):=by unfold against;rw[if_neg (by simp[h1,h2])]
     have mx:x.headD 0∈x:=by cases x with|nil=>exact absurd rfl h1|cons a b=>exact List.mem_cons_self ..
     have my:y.headD 0∈y:=by cases y with|nil=>exact absurd rfl h2|cons a b=>exact List.mem_cons_self ..
     have bx:x.headD 0<128:=Vp (hA _ (.inl mx))
     have by':y.headD 0<128:=Vp (hA _ (.inr my))
     rw[Zh h1 (by omega),hag]
     walk_at "ev"
     cases isLow (x.headD 0) with
     |false=>
      walk_at "ev"
      exact⟨fun z=>by simp at z,fun _=>⟨_,_,rfl,q1,_,_,rfl⟩⟩
     |true=>
      walk_at "ev"
      rw[Zh h2 (by omega)]
      walk_at "ev"
      cases isLow (y.headD 0) with
      |false=>
       walk_at "ev"
       exact⟨fun z=>by simp at z,fun _=>⟨_,_,rfl,q1,_,_,rfl⟩⟩
      |true=>
       walk_at "ev"
       exact⟨fun _=>⟨_,rfl,q1⟩,fun z=>by simp at z⟩)
 rcases out with⟨e,s',f1,f2,f3⟩|⟨f1,ρ',s',f2,f3,w1,w2,f4⟩
 ·rw[f2,List.any_eq_true.mpr ⟨e,List.mem_of_find?_eq_some f1,List.find?_some f1⟩]
  exact⟨s',rfl,f3⟩
 ·rw[f2,f4,List.any_eq_false.mpr fun e he=>List.find?_eq_none.mp f1 e he]
  exact⟨s',rfl,f3⟩
def ct(c:Nat)(e:List Nat×List Nat):Nat:=e.1.count c+e.2.count c
theorem YM(e:List Nat×List Nat)(tb:Sys):allL (e::tb)=(e.1++e.2)++allL tb:=rfl
theorem YeG(c:Nat)(e:List Nat×List Nat):ct c (cut e)<=ct c e:=by
 unfold ct cut
 have h1:=List.Sublist.count_le c (List.drop_sublist (cp e.1 e.2) e.1)
 have h2:=List.Sublist.count_le c (List.drop_sublist (cp e.1 e.2) e.2)
 dsimp only
 omega
theorem VR(e:List Nat×List Nat)(tb:Sys):strip (e::tb)=(if cut e=([],[]) then [] else [cut e])++strip tb:=by
 unfold strip
 rw[List.map_cons,List.filter_cons]
 by_cases h:cut e=([],[])
 ·rw[if_pos h];simp[h]
 ·rw[if_neg h];simp[h]
theorem WO(c:Nat)(e:List Nat×List Nat)(tb:Sys):(allL (strip (e::tb))).count c=ct c (cut e)+(allL (strip tb)).count c:=by
 rw[VR]
 by_cases h:cut e=([],[])
 ·rw[if_pos h,h];simp[ct]
 ·rw[if_neg h,List.singleton_append,YM,List.count_append,List.count_append];rfl
theorem Zp(c:Nat):∀tb:Sys,(allL (strip tb)).count c<=(allL tb).count c
 | []=>Nat.le_refl _
 |e::tb=>by
  have ih:=Zp c tb
  have h1:=YeG c e
  rw[WO,YM,List.count_append,List.count_append]
  unfold ct at *
  omega
theorem Vq:∀tb:Sys,(allL (strip tb)).length<=(allL tb).length
 | []=>Nat.le_refl _
 |e::tb=>by
  have ih:=Vq tb
  rw[VR]
  have h1:(cut e).1.length<=e.1.length:=by unfold cut;simp
  have h2:(cut e).2.length<=e.2.length:=by unfold cut;simp
  by_cases h:cut e=([],[])
  ·rw[if_pos h,List.nil_append,YM,List.length_append];omega
  ·rw[if_neg h,List.singleton_append,YM,YM,List.length_append,List.length_append,List.length_append,List.length_append];omega
theorem Yd0(q:Nat)(a b:List Nat):cut (q::a,q::b)=cut (a,b):=by
 unfold cut
 have:cp (q::a) (q::b)=cp a b+1:=by rw[cp,if_pos rfl]
 dsimp only
 rw[this]
 rfl
def fillB(f:Nat->List Nat)(tb:Sys):Sys:=tb.map fun e=>(e.1.flatMap f,e.2.flatMap f)
theorem Zo(f:Nat->List Nat):∀tb:Sys,allL (fillB f tb)=(allL tb).flatMap f
 | []=>rfl
 |e::tb=>by
  have e1:fillB f (e::tb)=(e.1.flatMap f,e.2.flatMap f)::fillB f tb:=rfl
  rw[e1,YM,YM,Zo f tb,List.flatMap_append,List.flatMap_append]
def putF(x:Nat)(put:List Nat)(c:Nat):List Nat:=if c=x then put else [c]
theorem Wz(x:Nat)(put:List Nat)(hp:put.length<=2):∀l:List Nat,(l.flatMap (putF x put)).length<=l.length+l.count x
 | []=>by simp
 |c::l=>by
  have ih:=Wz x put hp l
  have h1:(putF x put c).length<=1+if c=x then 1 else 0:=by
   unfold putF
   by_cases h:c=x
   ·rw[if_pos h,if_pos h];omega
   ·rw[if_neg h,if_neg h];simp
  rw[List.flatMap_cons,List.length_append,List.length_cons,List.count_cons]
  by_cases h:c=x
  ·rw[if_pos h]at h1
   subst h
   simp only[beq_self_eq_true,if_true]
   omega
  ·rw[if_neg h]at h1
   have hx:(c == x)=false:=by simpa using h
   simp only[hx,Bool.false_eq_true,if_false]
   omega
theorem Zr(x:Nat)(put:List Nat)(c:Nat):∀l:List Nat,(l.flatMap (putF x put)).count c=(if c=x then 0 else l.count c)+l.count x * put.count c
 | []=>by simp
 |d::l=>by
  have ih:=Zr x put c l
  rw[List.flatMap_cons,List.count_append,ih,List.count_cons,List.count_cons]
  unfold putF
  by_cases h:d=x
  ·subst h
   by_cases hc:c=d
   ·subst hc;simp[Nat.add_mul];omega
   ·have:(d == c)=false:=by simp;exact fun z=>hc z.symm
    simp[hc,this,Nat.add_mul];omega
  ·have hx:(d == x)=false:=by simpa using h
   by_cases hc:c=x
   ·subst hc
    have:(d == c)=false:=by simpa using h
    simp[h,this]
   ·simp[h,hc,hx,List.count_cons];omega
theorem Ya9(tb:Sys):∀e∈strip tb,e≠([],[])/\cp e.1 e.2=0:=by
 have cpc:∀a b:List Nat,cp (a.drop (cp a b)) (b.drop (cp a b))=0:=by
  intro a
  induction a with
  |nil=>intro b;simp[cp]
  |cons x a ih=>
   intro b
   cases b with
   |nil=>simp[cp]
   |cons y b=>
    by_cases hxy:x=y
    ·have:cp (x::a) (y::b)=cp a b+1:=by rw[cp,if_pos hxy]
     rw[this,List.drop_succ_cons,List.drop_succ_cons]
     exact ih b
    ·have:cp (x::a) (y::b)=0:=by rw[cp,if_neg hxy]
     rw[this,List.drop_zero,List.drop_zero,this]
 intro e he
 unfold strip at he
 obtain⟨h1,h2⟩:=List.mem_filter.mp he
 obtain⟨d,_,rfl⟩:=List.mem_map.mp h1
 exact⟨by simpa using h2,cpc d.1 d.2⟩
theorem Yec{p q:Nat}{u v:List Nat}{r:Sys}(hpq:p≠q)(hx:(allL ((p::u,q::v)::r)).count p<=2)(hy:(allL ((p::u,q::v)::r)).count q<=2):(allL (strip (fillB (putF p [q,p]) ((p::u,q::v)::r)))).count q<=2:=by
 have e1:fillB (putF p [q,p]) ((p::u,q::v)::r)=(q::p::u.flatMap (putF p [q,p]),q::v.flatMap (putF p [q,p]))::fillB (putF p [q,p]) r:=by
  unfold fillB
  rw[List.map_cons]
  simp only[List.flatMap_cons]
  have h1:putF p [q,p] p=[q,p]:=by unfold putF;rw[if_pos rfl]
  have h2:putF p [q,p] q=[q]:=by unfold putF;rw[if_neg (Ne.symm hpq)]
  rw[h1,h2]
  rfl
 have h3:=YeG q (p::u.flatMap (putF p [q,p]),v.flatMap (putF p [q,p]))
 have h4:=Zp q (fillB (putF p [q,p]) r)
 rw[e1,WO,Yd0]
 rw[Zo,Zr]at h4
 unfold ct at h3
 rw[List.count_cons,Zr,Zr]at h3
 have hqp:(p == q)=false:=by simpa using hpq
 have hqp':(q == p)=false:=by simpa using Ne.symm hpq
 have c1:[q,p].count q=1:=by simp[List.count_cons,hqp]
 rw[c1]at h3 h4
 rw[YM,List.count_append,List.count_append,List.count_cons,List.count_cons]at hx hy
 simp only[hqp,hqp',if_neg (Ne.symm hpq),beq_self_eq_true,if_true,Bool.false_eq_true,if_false]at hx hy h3 h4
 unfold ct
 omega
theorem YdW{p q:Nat}{u v:List Nat}{r:Sys}(hpq:p≠q)(hx:(allL ((p::u,q::v)::r)).count q<=2)(hy:(allL ((p::u,q::v)::r)).count p<=2):(allL (strip (fillB (putF q [p,q]) ((p::u,q::v)::r)))).count p<=2:=by
 have e1:fillB (putF q [p,q]) ((p::u,q::v)::r)=(p::u.flatMap (putF q [p,q]),p::q::v.flatMap (putF q [p,q]))::fillB (putF q [p,q]) r:=by
  unfold fillB
  rw[List.map_cons]
  simp only[List.flatMap_cons]
  have h1:putF q [p,q] q=[p,q]:=by unfold putF;rw[if_pos rfl]
  have h2:putF q [p,q] p=[p]:=by unfold putF;rw[if_neg hpq]
  rw[h1,h2]
  rfl
 have h3:=YeG p (u.flatMap (putF q [p,q]),q::v.flatMap (putF q [p,q]))
 have h4:=Zp p (fillB (putF q [p,q]) r)
 rw[e1,WO,Yd0]
 rw[Zo,Zr]at h4
 unfold ct at h3
 rw[List.count_cons,Zr,Zr]at h3
 have hqp:(p == q)=false:=by simpa using hpq
 have hqp':(q == p)=false:=by simpa using Ne.symm hpq
 have c1:[p,q].count p=1:=by simp[List.count_cons,hqp']
 rw[c1]at h3 h4
 rw[YM,List.count_append,List.count_append,List.count_cons,List.count_cons]at hx hy
 simp only[hqp,hqp',if_neg hpq,beq_self_eq_true,if_true,Bool.false_eq_true,if_false]at hx hy h3 h4
 unfold ct
 omega
theorem Yck:P.str "none"=tx [110,111,110,101]:=congrArg P.str (by decide +kernel)
theorem YhI:P.str "sign"=tx [115,105,103,110]:=congrArg P.str (by decide +kernel)
theorem Yha:P.str "over"=tx [111,118,101,114]:=congrArg P.str (by decide +kernel)
inductive Stp where|none (x:Nat)|sign (x a:Nat)|over (x y:Nat)
def Stp.parts:Stp->List (List Nat)
 | .none x=>[[110,111,110,101],[x]]
 | .sign x a=>[[115,105,103,110],[x],[a]]
 | .over x y=>[[111,118,101,114],[x],[y]]
def Stp.p(s:Stp):P:=.tup (s.parts.map tx)
def stepsA(e:List Nat×List Nat):List Stp:=if e.1=[]\/e.2=[] then [.none ((e.1++e.2).headD 0)] else
 if isLow (e.1.headD 0)=true then [.none (e.2.headD 0),.sign (e.2.headD 0) (e.1.headD 0)] else
 if isLow (e.2.headD 0)=true then [.none (e.1.headD 0),.sign (e.1.headD 0) (e.2.headD 0)] else
 [.none (e.1.headD 0),.none (e.2.headD 0),.over (e.1.headD 0) (e.2.headD 0),.over (e.2.headD 0) (e.1.headD 0)]
def stepsOf(tb:Sys):List Stp:=match tb with
 | []=>[]
 |e::r=>if (e::r).any against=true then [] else stepsA e
theorem Ybn{e:List Nat×List Nat}{st:Stor}(h1:e.1.length<=1000)(h2:e.2.length<=1000)(hne:e≠([],[])):YQ [tx e.1,tx e.2] st=.ok (.tup ((stepsA e).map Stp.p)) st:=by
 have hne':e.1++e.2≠[]:=fun z=>hne (Prod.ext (List.append_eq_nil_iff.mp z).1 (List.append_eq_nil_iff.mp z).2)
 have hl:(e.1++e.2).length<=1000000:=by rw[List.length_append];omega
 unfold YQ ZM
 simp only[s_e,Yck,YhI,Yha]
 walk_at "ev"
 by_cases a1:e.1=[]
 ·have hs:stepsA e=[.none ((e.1++e.2).headD 0)]:=by unfold stepsA;rw[if_pos (.inl a1)]
  rw[decide_eq_true a1,hs]
  walk_at "ev"
  rw[Zh hne' hl]
  walk_at "ev"
  rfl
 ·rw[decide_eq_false a1]
  walk_at "ev"
  by_cases a2:e.2=[]
  ·have hs:stepsA e=[.none ((e.1++e.2).headD 0)]:=by unfold stepsA;rw[if_pos (.inr a2)]
   rw[decide_eq_true a2,hs]
   walk_at "ev"
   rw[Zh hne' hl]
   walk_at "ev"
   rfl
  ·have hneg:¬(e.1=[]\/e.2=[]):=by simp[a1,a2]
   have i1:∀st,ixP (tx e.1) (.int 0) st=some (tx [e.1.headD 0],st):=fun st=>Zh a1 (by omega)
   have i2:∀st,ixP (tx e.2) (.int 0) st=some (tx [e.2.headD 0],st):=fun st=>Zh a2 (by omega)
   rw[decide_eq_false a2]
   walk_at "ev"
   rw[i1]
   walk_at "ev"
   rw[Jg]
   walk_at "ev"
   cases l1:isLow (e.1.headD 0) with
   |true=>
    have hs:stepsA e=[.none (e.2.headD 0),.sign (e.2.headD 0) (e.1.headD 0)]:=by unfold stepsA;rw[if_neg hneg,if_pos l1]
    rw[hs]
    walk_at "ev"
    simp only[i1,i2]
    walk_at "ev"
    rfl
   |false=>
    walk_at "ev"
    rw[i2]
    walk_at "ev"
    rw[Jg]
    walk_at "ev"
    cases l2:isLow (e.2.headD 0) with
    |true=>
     have hs:stepsA e=[.none (e.1.headD 0),.sign (e.1.headD 0) (e.2.headD 0)]:=by unfold stepsA;rw[if_neg hneg,if_neg (by rw[l1];exact Bool.false_ne_true),if_pos l2]
     rw[hs]
     walk_at "ev"
     simp only[i1,i2]
     walk_at "ev"
     rfl
    |false=>
     have hs:stepsA e=[.none (e.1.headD 0),.none (e.2.headD 0),.over (e.1.headD 0) (e.2.headD 0),.over (e.2.headD 0) (e.1.headD 0)]:=by unfold stepsA;rw[if_neg hneg,if_neg (by rw[l1];exact Bool.false_ne_true),if_neg (by rw[l2];exact Bool.false_ne_true)]
     rw[hs]
     walk_at "ev"
     simp only[i1,i2]
     walk_at "ev"
     rfl
structure Rm(tb:Sys):Prop where
 len:tb.length<=6
 each:∀e∈tb,e.1.length<=1000/\e.2.length<=1000
 lets:∀e∈tb,∀c,c∈e.1\/c∈e.2->isLet c=true
 ne:∀e∈tb,e≠([],[])
theorem Yg9{tb:Sys}{l:List Nat}{st:Stor}(R:Rm tb):Zm [.tup [tx l,encSys tb]] st=.ok (.tup ((stepsOf tb).map Stp.p)) st:=by
 have hlen:=R.len
 unfold Zm VU
 walk_at "ev"
 rw[Yds]
 walk_at "ev"
 cases tb with
 |nil=>
  rw[show ((((([]:Sys).length:Nat)):Int) == 0)=true from rfl]
  walk_at "ev"
  rfl
 |cons e r=>
  rw[show (((((e::r).length:Nat)):Int) == 0)=false by simp;omega]
  walk_at "ev"
  rw[YiS (by omega) R.each]
  walk_at "ev"
  cases hd:(e::r).any against with
  |true=>
   have hs:stepsOf (e::r)=[]:=by show (if (e::r).any against=true then [] else stepsA e)=[];rw[if_pos hd]
   rw[hs]
   walk_at "ev"
  |false=>
   have hs:stepsOf (e::r)=stepsA e:=by show (if (e::r).any against=true then [] else stepsA e)=stepsA e;rw[if_neg (by rw[hd];exact Bool.false_ne_true)]
   rw[hs]
   have henc:encSys (e::r)=.tup (.tup [tx e.1,tx e.2]::r.map encEq):=rfl
   have hb:=R.each e (List.mem_cons_self ..)
   rw[henc]
   walk_at "ev"
   rw[Ybn hb.1 hb.2 (R.ne e (List.mem_cons_self ..))]
   rfl
theorem YbU{tb:Sys}{l:List Nat}{st:Stor}(R:Rm tb):∃st',Yx [.tup [tx l,encSys tb]] st=.ok (.tup ((stepsOf tb).map Stp.p)) st'/\Grow st st':=by
 have hlen:=R.len
 unfold Yx Wu
 simp only[s_e,Yck,YhI,Yha]
 walk_at "ev"
 obtain⟨b,hb1,hb2⟩:=Yby (st:=st) (p:=encSys tb) (q:=.tup []) (by
  show (tb.map encEq).all (pureP 7)=true
  rw[List.all_map]
  exact List.all_eq_true.mpr fun _ _=>rfl) rfl
 rw[hb1]
 walk_at "ev"
 cases tb with
 |nil=>
  rw[hb2.mpr rfl]
  walk_at "ev"
  exact⟨st,rfl,Grow.refl⟩
 |cons e r=>
  rw[YbE hb2 (fun z=>by simp[encSys]at z)]
  walk_at "ev"
  obtain⟨s1,t1,g1⟩:=Yh1 (l:=l) (st:=st) (by omega) R.each R.lets
  rw[t1]
  walk_at "ev"
  cases hd:(e::r).any against with
  |true=>
   have hs:stepsOf (e::r)=[]:=by show (if (e::r).any against=true then [] else stepsA e)=[];rw[if_pos hd]
   rw[hs]
   walk_at "ev"
   exact⟨s1,rfl,g1⟩
  |false=>
   have hs:stepsOf (e::r)=stepsA e:=by show (if (e::r).any against=true then [] else stepsA e)=stepsA e;rw[if_neg (by rw[hd];exact Bool.false_ne_true)]
   have hag:against e=false:=by
    rw[List.any_cons,Bool.or_eq_false_iff]at hd
    exact hd.1
   rw[hs]
   have henc:encSys (e::r)=.tup (.tup [tx e.1,tx e.2]::r.map encEq):=rfl
   have hb:=R.each e (List.mem_cons_self ..)
   have hne:=R.ne e (List.mem_cons_self ..)
   have hle:=R.lets e (List.mem_cons_self ..)
   rw[henc]
   walk_at "ev"
   have hne':e.1++e.2≠[]:=fun z=>hne (Prod.ext (List.append_eq_nil_iff.mp z).1 (List.append_eq_nil_iff.mp z).2)
   have hl2:(e.1++e.2).length<=1000000:=by rw[List.length_append];omega
   by_cases a1:e.1=[]
   ·have hs:stepsA e=[.none ((e.1++e.2).headD 0)]:=by unfold stepsA;rw[if_pos (.inl a1)]
    rw[decide_eq_true a1,hs]
    walk_at "ev"
    rw[Zh hne' hl2]
    walk_at "ev"
    exact⟨s1,rfl,g1⟩
   ·rw[decide_eq_false a1]
    walk_at "ev"
    by_cases a2:e.2=[]
    ·have hs:stepsA e=[.none ((e.1++e.2).headD 0)]:=by unfold stepsA;rw[if_pos (.inr a2)]
     rw[decide_eq_true a2,hs]
     walk_at "ev"
     rw[Zh hne' hl2]
     walk_at "ev"
     exact⟨s1,rfl,g1⟩
    ·have hneg:¬(e.1=[]\/e.2=[]):=by simp[a1,a2]
     have hag2:(isLow (e.1.headD 0) && isLow (e.2.headD 0))=false:=by
      unfold against at hag
      rw[if_neg hneg]at hag
      exact hag
     have mx:e.1.headD 0∈e.1:=by cases h:e.1 with|nil=>exact absurd h a1|cons a b=>exact List.mem_cons_self ..
     have my:e.2.headD 0∈e.2:=by cases h:e.2 with|nil=>exact absurd h a2|cons a b=>exact List.mem_cons_self ..
     have bx:e.1.headD 0<128:=Vp (hle _ (.inl mx))
     have by':e.2.headD 0<128:=Vp (hle _ (.inr my))
     rw[decide_eq_false a2]
     walk_at "ev"
     rw[Zh a1 (by omega)]
     walk_at "ev"
     rw[Zh a2 (by omega)]
     walk_at "ev"
     cases l2:isLow (e.2.headD 0) with
     |true=>
      have l1:isLow (e.1.headD 0)=false:=by rw[l2,Bool.and_true]at hag2;exact hag2
      have hs:stepsA e=[.none (e.1.headD 0),.sign (e.1.headD 0) (e.2.headD 0)]:=by unfold stepsA;rw[if_neg hneg,if_neg (by rw[l1];exact Bool.false_ne_true),if_pos l2]
      rw[hs]
      walk_at "ev"
      exact⟨s1,rfl,g1⟩
     |false=>
      walk_at "ev"
      cases l1:isLow (e.1.headD 0) with
      |true=>
       have hs:stepsA e=[.none (e.2.headD 0),.sign (e.2.headD 0) (e.1.headD 0)]:=by unfold stepsA;rw[if_neg hneg,if_pos l1]
       rw[hs]
       walk_at "ev"
       exact⟨s1,rfl,g1⟩
      |false=>
       have hs:stepsA e=[.none (e.1.headD 0),.none (e.2.headD 0),.over (e.1.headD 0) (e.2.headD 0),.over (e.2.headD 0) (e.1.headD 0)]:=by unfold stepsA;rw[if_neg hneg,if_neg (by rw[l1];exact Bool.false_ne_true),if_neg (by rw[l2];exact Bool.false_ne_true)]
       rw[hs]
       walk_at "ev"
       exact⟨s1,rfl,g1⟩
theorem Stp.pure(s:Stp):pureP 7 s.p=true:=by
 cases s <;> rfl
theorem Ycb{rw':Nat}{kw:List (Key×P)}{f:Nat->List Nat}{l:List Nat}{st:Stor}(hk:st[rw']?=some (.dct kw))(hv:∀c,(valP kw (tkey [c])).getD (tx [c])=tx (f c))(hl:l.length<=1000)(hb:(l.flatMap f).length<=100000):Yy [tx l,.ref rw'] st=.ok (tx (l.flatMap f)) st:=by
 unfold Yy Z3
 simp only[ZZ]
 walk_at "ev"
 rw[YU (g:=mgName 0) l (fun c=>tx [c]) (fun c=>tx (f c)) rfl (fun i hi=>nxS hi) (by omega) (fun c _=>⟨[some (tx [c]),some (.ref rw')],rfl,by
  rw[Yfn (n:=rw') (kvs:=kw) (l:=[c]) (z:=tx [c]) rfl rfl rfl hk,hv]⟩)]
 rw[R.bind_ok,show (l.map fun c=>tx (f c))=(l.map f).map tx by rw[List.map_map];rfl,ZH (by rw[<-List.flatMap_def];exact Nat.le_trans hb (by omega)),<-List.flatMap_def]
 rfl
def Stp.x:Stp->Nat
 | .none x=>x
 | .sign x _=>x
 | .over x _=>x
def Stp.put:Stp->List Nat
 | .none _=>[]
 | .sign x a=>[a,x]
 | .over x y=>[y,x]
def Stp.names(l:List Nat):Stp->List Nat
 | .none x=>l.filter fun c=>!decide (c=x)
 |_=>l
theorem Yfm(x:Nat)(put:List Nat)(c:Nat):(valP (putP [] (tkey [x]) (tx put)) (tkey [c])).getD (tx [c])=tx (putF x put c):=by
 rw[V3]
 unfold putF
 by_cases h:c=x
 ·subst h;rw[if_pos rfl,if_pos rfl];rfl
 ·rw[if_neg (fun z=>h (by simpa using (tkey_inj.mp z).symm)),if_neg h];rfl
theorem W4{tb:Sys}{x:Nat}{put:List Nat}{v0 v1:Option P}{kd:P}{nm:List Nat}{st:Stor}(hx:v1=some (.tup [kd,tx [x]])\/∃y,v1=some (.tup [kd,tx [x],y]))(h6:tb.length<=6)(hl:∀e∈tb,e.1.length<=900/\e.2.length<=900)(hp:put.length<=2)(hcl:∀e∈tb,e.1.count x<=50/\e.2.count x<=50):
 ∃st',retR ((sSeq (sSet 5 eDict0)
 (sSeq (sPut (eVar 5) (eBin ixP (eVar 1) (eC (.int 1))) (eVar 4))
 (sSeq (sSet 6 (eSto (lMk aNil)))
 (sSeq (sFor (iVal (eVar 3)) (mgTup 2 (mgCons (mgName 7) (mgCons (mgName 8) mgNil)))
 YZ)
 (sRet (eTup (aCons (eVar 2) (aCons (eCall 1 Yp (aCons (eVar 6) aNil)) aNil)))))))) [v0,v1,some (tx nm),some (encSys tb),some (tx put),none,none,none,none] st)=.ok (.tup [tx nm,encSys (strip (fillB (putF x put) tb))]) st'/\Grow st st':=by
 have hix:∀s:Stor,∃xs,v1=some (.tup xs)/\ixP (.tup xs) (.int 1) s=some (tx [x],s):=fun s=>by
  rcases hx with h|⟨y,h⟩
  ·exact⟨_,h,YdS⟩
  ·exact⟨_,h,YdS⟩
 obtain⟨xs,hv1,hi1⟩:=hix (st++[O.dct []])
 subst hv1
 have henc:encSys tb=.tup (tb.map encEq):=rfl
 rw[henc]
 walk_at "ev"
 rw[hi1]
 walk_at "ev"
 rw[Wk Ye (by simp)]
 walk_at "ev"
 have hset:(st++[O.dct []]).set st.length (O.dct (putP [] (tkey [x]) (tx put)))=st++[O.dct (putP [] (tkey [x]) (tx put))]:=by
  rw[List.set_append_right _ _ (Nat.le_refl _),Nat.sub_self];rfl
 rw[hset]
 generalize hS:st++[O.dct (putP [] (tkey [x]) (tx put))]=S
 have gS:Grow st S:=by rw[<-hS];exact Grow.one
 have kS:S[st.length]?=some (.dct (putP [] (tkey [x]) (tx put))):=by rw[<-hS];exact Ye
 rw[List.length_map]
 have hfl:∀a:List Nat,a.length<=900->(a.flatMap (putF x put)).length<=1000000/\(a.flatMap (putF x put)).length<=2 * a.length:=fun a h=>by
  have h1:=Wz x put hp a
  have h2:a.count x<=a.length:=List.count_le_length
  omega
 obtain⟨ρ',s',e1,v7,v8,e2,e3⟩:=Zw (src:=srcL (tb.map encEq)) (g:=mgTup 2 (mgCons (mgName 7) (mgCons (mgName 8) mgNil))) (m:=YZ) (N:=tb.length) (ρ:=[v0,some (.tup xs),some (tx nm),some (.tup (tb.map encEq)),some (tx put),some (.ref st.length),some (.ref S.length),none,none]) (st:=S++[.lst []]) tb encEq
  (fun i ρ s=>∃v7 v8,ρ=[v0,some (.tup xs),some (tx nm),some (.tup (tb.map encEq)),some (tx put),some (.ref st.length),some (.ref S.length),v7,v8]/\s=S++[.lst ((fillB (putF x put) (tb.take i)).map encEq)]) rfl (fun i ρ s hi _=>nxL) ⟨none,none,rfl,rfl⟩
  (fun i hi ρ s ⟨v7,v8,q1,q2⟩=>by
   subst q1
   have hb:=hl tb[i] (List.getElem_mem hi)
   have et:fillB (putF x put) (tb.take (i+1))=fillB (putF x put) (tb.take i)++[(tb[i].1.flatMap (putF x put),tb[i].2.flatMap (putF x put))]:=by
    unfold fillB
    rw[List.take_add_one,List.getElem?_eq_getElem hi,List.map_append];rfl
   rw[et]
   have f1:=hfl tb[i].1 hb.1
   have f2:=hfl tb[i].2 hb.2
   generalize tb[i]=e at *
   refine⟨[v0,some (.tup xs),some (tx nm),some (.tup (tb.map encEq)),some (tx put),some (.ref st.length),some (.ref S.length),some (tx e.1),some (tx e.2)],rfl,?_⟩
   have kd:s[st.length]?=some (.dct (putP [] (tkey [x]) (tx put))):=by rw[q2];exact Grow.one.get kS
   have kf:s[S.length]?=some (.lst ((fillB (putF x put) (tb.take i)).map encEq)):=by rw[q2];exact Ye
   unfold YZ
   walk_at "ev"
   rw[Wx kf]
   walk_at "ev"
   rw[Ycb kd (Yfm x put) (by omega) (by omega)]
   walk_at "ev"
   rw[Ycb kd (Yfm x put) (by omega) (by omega)]
   walk_at "ev"
   rw[Wg kf (by unfold fillB;simp;omega)]
   walk_at "ev"
   refine⟨_,_,rfl,_,_,rfl,?_⟩
   rw[q2,List.set_append_right _ _ (Nat.le_refl _),Nat.sub_self,List.map_append]
   rfl)
 rw[e1,e2,e3,List.take_length]
 walk_at "ev"
 obtain⟨s2,t2,g2⟩:=YfR (k:=S.length) (tb:=fillB (putF x put) tb) (st:=S++[.lst ((fillB (putF x put) tb).map encEq)]) Ye (by unfold fillB;simp;omega) (fun e he=>by
  unfold fillB at he
  obtain⟨d,hd,rfl⟩:=List.mem_map.mp he
  have hb:=hl d hd
  have h1:=Wz x put hp d.1
  have h2:=Wz x put hp d.2
  have c1:=hcl d hd
  dsimp only
  omega)
 rw[t2]
 walk_at "ev"
 exact⟨s2,rfl,(gS.trans Grow.one).trans g2⟩
theorem Yd6{l:List Nat}{x:Nat}{kd:P}{st:Stor}(h:l.length<=1000):compN (srcS (sT l)) (mgName 0) (eTst (eBin neP (eVar 0) (eBin ixP (eVar 1) (eC (.int 1))))) (eVar 0) [none,some (.tup [kd,tx [x]])] l.length 0 st []=.ok ((l.filter fun c=>!decide (c=x)).map fun c=>tx [c]) st:=
 Zx l (fun c=>tx [c]) (fun c=>!decide (c=x)) (fun c=>tx [c]) rfl (fun i hi=>nxS hi) (by omega) (fun c _=>⟨[some (tx [c]),some (.tup [kd,tx [x]])],rfl,by
  walk_at "ev"
  by_cases h:c=x
  ·rw[decide_eq_true h,decide_eq_true (by rw[h])]
  ·rw[decide_eq_false h,decide_eq_false (fun z=>h (by simpa using z))],fun _=>rfl⟩)
theorem Ydv{l:List Nat}{tb:Sys}{s:Stp}{st:Stor}(h6:tb.length<=6)(hl:∀e∈tb,e.1.length<=900/\e.2.length<=900)(hcl:∀e∈tb,e.1.count s.x<=50/\e.2.count s.x<=50)(hn:l.length<=1000):
 ∃st',Yu [.tup [tx l,encSys tb],s.p] st=.ok (.tup [tx (s.names l),encSys (strip (fillB (putF s.x s.put) tb))]) st'/\Grow st st':=by
 unfold Yu Z0
 generalize hR:(sSeq (sSet 5 eDict0)
 (sSeq (sPut (eVar 5) (eBin ixP (eVar 1) (eC (.int 1))) (eVar 4))
 (sSeq (sSet 6 (eSto (lMk aNil)))
 (sSeq (sFor (iVal (eVar 3)) (mgTup 2 (mgCons (mgName 7) (mgCons (mgName 8) mgNil)))
 YZ)
 (sRet (eTup (aCons (eVar 2) (aCons (eCall 1 Yp (aCons (eVar 6) aNil)) aNil))))))))=REST
 simp only[s_e,Yck]
 cases s with
 |none x=>
  have hp:(Stp.none x).p=.tup [tx [110,111,110,101],tx [x]]:=rfl
  have hf:(l.filter fun c=>!decide (c=x)).length<=1000:=Nat.le_trans (List.length_filter_le ..) hn
  rw[hp]
  walk_at "ev"
  rw[Yd6 hn]
  walk_at "ev"
  show ∃st',retR ((RS.ofE _ (joinR (sT []) _ _) _).seq REST)=_/\_
  rw[VI (by omega)]
  walk_at "ev"
  rw[<-hR]
  exact W4 (x:=x) (put:=[]) (.inl rfl) h6 hl (by simp) hcl
 |sign x a=>
  have hp:(Stp.sign x a).p=.tup [tx [115,105,103,110],tx [x],tx [a]]:=rfl
  rw[hp]
  walk_at "ev"
  rw[show decide (([115,105,103,110]:List Nat)=[110,111,110,101])=false from rfl]
  walk_at "ev"
  rw[<-hR]
  exact W4 (x:=x) (put:=[a,x]) (.inr ⟨_,rfl⟩) h6 hl (by simp) hcl
 |over x y=>
  have hp:(Stp.over x y).p=.tup [tx [111,118,101,114],tx [x],tx [y]]:=rfl
  rw[hp]
  walk_at "ev"
  rw[show decide (([111,118,101,114]:List Nat)=[110,111,110,101])=false from rfl]
  walk_at "ev"
  rw[<-hR]
  exact W4 (x:=x) (put:=[y,x]) (.inr ⟨_,rfl⟩) h6 hl (by simp) hcl
structure Ro(n:Nat)(l:List Nat)(tb:Sys):Prop where
 len:tb.length<=6
 many:(allL tb).length<=480+2 * n
 lets:∀c∈allL tb,isLet c=true
 good:∀e∈tb,e≠([],[])/\cp e.1 e.2=0
 two:∀c,isUp c=true->(allL tb).count c<=2
 nm:l.length<=26
theorem Ro.more{n m:Nat}{l:List Nat}{tb:Sys}(R:Ro n l tb)(h:n<=m):Ro m l tb:=⟨R.len,by have:=R.many;omega,R.lets,R.good,R.two,R.nm⟩
theorem Ro.each{n:Nat}{l:List Nat}{tb:Sys}(R:Ro n l tb)(h:n<=200):∀e∈tb,e.1.length<=900/\e.2.length<=900:=fun e he=>by
 have h1:=VY he
 have h2:=R.many
 omega
theorem Ro.rm{n:Nat}{l:List Nat}{tb:Sys}(R:Ro n l tb)(h:n<=200):Rm tb where
 len:=R.len
 each:=fun e he=>by have:=R.each h e he;omega
 lets:=fun e he c hc=>R.lets c (mem_allL.mpr ⟨e,he,hc⟩)
 ne:=fun e he=>(R.good e he).1
theorem VM{c:Nat}(h:isUp c=true):isLow c=false:=by
 unfold isUp at h
 unfold isLow
 simp only[Bool.and_eq_true,decide_eq_true_eq]at h
 simp only[Bool.and_eq_false_iff,decide_eq_false_iff_not]
 omega
theorem YcV{c:Nat}(h:isLet c=true)(h2:isLow c=false):isUp c=true:=by
 unfold isLet at h
 rw[h2,Bool.false_or]at h
 exact h
def Stp.fits(tb:Sys):Stp->Prop
 | .none x=>isUp x=true/\x∈allL tb
 | .sign x a=>isUp x=true/\isLow a=true
 | .over x y=>isUp x=true/\isUp y=true/\x≠y/\∃u v r,tb=(x::u,y::v)::r\/tb=(y::u,x::v)::r
theorem JX{n:Nat}{l:List Nat}{tb:Sys}(R:Ro n l tb){s:Stp}(hs:s∈stepsOf tb):s.fits tb:=by
 cases tb with
 |nil=>cases hs
 |cons e r=>
  have hs':s∈(if (e::r).any against=true then [] else stepsA e):=hs
  by_cases ha:(e::r).any against=true
  ·rw[if_pos ha]at hs';cases hs'
  rw[if_neg ha]at hs'
  have hag:against e=false:=by
   rw[Bool.not_eq_true,List.any_cons,Bool.or_eq_false_iff]at ha
   exact ha.1
  have hle:∀c,c∈e.1\/c∈e.2->isLet c=true:=fun c hc=>R.lets c (mem_allL.mpr ⟨e,List.mem_cons_self ..,hc⟩)
  have hmm:∀c,c∈e.1\/c∈e.2->c∈allL (e::r):=fun c hc=>mem_allL.mpr ⟨e,List.mem_cons_self ..,hc⟩
  obtain⟨gne,gcp⟩:=R.good e (List.mem_cons_self ..)
  unfold against at hag
  unfold stepsA at hs'
  by_cases hneg:e.1=[]\/e.2=[]
  ·rw[if_pos hneg]at hag hs'
   have hne':e.1++e.2≠[]:=fun z=>gne (Prod.ext (List.append_eq_nil_iff.mp z).1 (List.append_eq_nil_iff.mp z).2)
   have hx:(e.1++e.2).headD 0∈e.1++e.2:=by
    cases h:e.1++e.2 with
    |nil=>exact absurd h hne'
    |cons a b=>exact List.mem_cons_self ..
   have hlow:isLow ((e.1++e.2).headD 0)=false:=by
    cases h:isLow ((e.1++e.2).headD 0) with
    |false=>rfl
    |true=>rw[List.any_eq_true.mpr ⟨_,hx,h⟩]at hag;cases hag
   rw[List.mem_singleton]at hs'
   subst hs'
   exact⟨YcV (hle _ (List.mem_append.mp hx)) hlow,hmm _ (List.mem_append.mp hx)⟩
  ·rw[if_neg hneg]at hag hs'
   obtain⟨a,b⟩:=e
   rw[not_or]at hneg
   dsimp only at *
   cases a with
   |nil=>exact absurd rfl hneg.1
   |cons p u=>
    cases b with
    |nil=>exact absurd rfl hneg.2
    |cons q v=>
     have mp:p∈p::u:=List.mem_cons_self ..
     have mq:q∈q::v:=List.mem_cons_self ..
     have hpq:p≠q:=fun z=>by rw[cp,if_pos z]at gcp;omega
     simp only[List.headD_cons]at hag hs'
     by_cases l1:isLow p=true
     ·simp only[l1,if_true]at hs'
      rw[l1,Bool.true_and]at hag
      have uq:=YcV (hle q (.inr mq)) hag
      simp only[List.mem_cons,List.not_mem_nil,or_false]at hs'
      rcases hs' with rfl|rfl
      ·exact⟨uq,hmm q (.inr mq)⟩
      ·exact⟨uq,l1⟩
     ·rw[Bool.not_eq_true]at l1
      simp only[l1,Bool.false_eq_true,if_false]at hs'
      have upp:=YcV (hle p (.inl mp)) l1
      by_cases l2:isLow q=true
      ·simp only[l2,if_true]at hs'
       simp only[List.mem_cons,List.not_mem_nil,or_false]at hs'
       rcases hs' with rfl|rfl
       ·exact⟨upp,hmm p (.inl mp)⟩
       ·exact⟨upp,l2⟩
      ·rw[Bool.not_eq_true]at l2
       simp only[l2,Bool.false_eq_true,if_false]at hs'
       have uq:=YcV (hle q (.inr mq)) l2
       simp only[List.mem_cons,List.not_mem_nil,or_false]at hs'
       rcases hs' with rfl|rfl|rfl|rfl
       ·exact⟨upp,hmm p (.inl mp)⟩
       ·exact⟨uq,hmm q (.inr mq)⟩
       ·exact⟨upp,uq,hpq,u,v,r,.inl rfl⟩
       ·exact⟨uq,upp,hpq.symm,u,v,r,.inr rfl⟩
theorem Stp.fits_x{tb:Sys}:∀{s:Stp},s.fits tb->isUp s.x=true/\s.put.length<=2/\∀c∈s.put,isLet c=true
 | .none x,h=>⟨h.1,Nat.zero_le _,fun c hc=>by cases hc⟩
 | .sign x a,h=>⟨h.1,Nat.le_refl _,fun c hc=>by
  unfold isLet
  simp only[Stp.put,List.mem_cons,List.not_mem_nil,or_false]at hc
  rcases hc with rfl|rfl
  ·rw[h.2];rfl
  ·rw[h.1,Bool.or_true]⟩
 | .over x y,h=>⟨h.1,Nat.le_refl _,fun c hc=>by
  unfold isLet
  simp only[Stp.put,List.mem_cons,List.not_mem_nil,or_false]at hc
  rcases hc with rfl|rfl
  ·rw[h.2.1,Bool.or_true]
  ·rw[h.1,Bool.or_true]⟩
theorem Yb2{tb:Sys}{c:Nat}(h:c∈allL (strip tb)):c∈allL tb:=by
 have h1:=List.count_pos_iff.mpr h
 have h2:=Zp c tb
 exact List.count_pos_iff.mp (by omega)
theorem Ro.step{n:Nat}{l:List Nat}{tb:Sys}(R:Ro n l tb){s:Stp}(hs:s.fits tb):Ro (n+1) (s.names l) (strip (fillB (putF s.x s.put) tb)):=by
 obtain⟨f1,f2,f3⟩:=Stp.fits_x hs
 refine⟨?_,?_,fun c hc=>?_,Ya9 _,fun c hc=>?_,?_⟩
 ·unfold strip fillB
  refine Nat.le_trans (List.length_filter_le ..) ?_
  rw[List.length_map,List.length_map]
  exact R.len
 ·have h1:=Vq (fillB (putF s.x s.put) tb)
  rw[Zo]at h1
  have h2:=Wz s.x s.put f2 (allL tb)
  have h3:=R.two _ f1
  have h4:=R.many
  omega
 ·have h1:=Yb2 hc
  rw[Zo,List.mem_flatMap]at h1
  obtain⟨d,hd,h2⟩:=h1
  unfold putF at h2
  by_cases h:d=s.x
  ·rw[if_pos h]at h2;exact f3 c h2
  ·rw[if_neg h,List.mem_singleton]at h2;rw[h2];exact R.lets d hd
 ·have h1:=Zp c (fillB (putF s.x s.put) tb)
  rw[Zo,Zr]at h1
  have h2:=R.two _ f1
  have h3:=R.two _ hc
  cases s with
  |none x=>
   have e0:(Stp.none x).put.count c=0:=rfl
   rw[e0,Nat.mul_zero]at h1
   by_cases hcx:c=(Stp.none x).x
   ·rw[if_pos hcx]at h1;omega
   ·rw[if_neg hcx]at h1;omega
  |sign x a=>
   have hca:(a == c)=false:=by
    simp only[beq_eq_false_iff_ne]
    rintro rfl
    have:=VM hc
    rw[hs.2]at this
    cases this
   have e0:(Stp.sign x a).put.count c=if c=x then 1 else 0:=by
    show [a,x].count c=_
    rw[List.count_cons,List.count_cons,List.count_nil,hca]
    by_cases h:c=x
    ·simp[h]
    ·have:(x == c)=false:=by simpa using fun z=>h z.symm
     simp[h,this]
   have e1:(Stp.sign x a).x=x:=rfl
   rw[e0,e1]at h1
   rw[e1]at h2
   by_cases hcx:c=x
   ·rw[if_pos hcx,if_pos hcx]at h1;rw[e1];omega
   ·rw[if_neg hcx,if_neg hcx]at h1;rw[e1];omega
  |over x y=>
   obtain⟨_,_,hxy,u,v,r,ht⟩:=hs
   have e1:(Stp.over x y).x=x:=rfl
   have e2:(Stp.over x y).put=[y,x]:=rfl
   rw[e1]at h2
   rw[e1,e2]at h1 ⊢
   by_cases hcy:c=y
   ·subst hcy
    rcases ht with rfl|rfl
    ·exact Yec hxy h2 h3
    ·exact YdW (Ne.symm hxy) h2 h3
   ·have hyc:(y == c)=false:=by simpa using fun z=>hcy z.symm
    have e0:[y,x].count c=if c=x then 1 else 0:=by
     rw[List.count_cons,List.count_cons,List.count_nil,hyc]
     by_cases h:c=x
     ·simp[h]
     ·have:(x == c)=false:=by simpa using fun z=>h z.symm
      simp[h,this]
    rw[e0]at h1
    by_cases hcx:c=x
    ·rw[if_pos hcx,if_pos hcx]at h1;omega
    ·rw[if_neg hcx,if_neg hcx]at h1;omega
 ·have h1:=R.nm
  cases s with
  |none x=>exact Nat.le_trans (List.length_filter_le ..) h1
  |sign x a=>exact h1
  |over x y=>exact h1
theorem YbC(x:Nat):∀l:List Nat,l.flatMap (putF x [])=l.filter fun c=>!decide (c=x)
 | []=>rfl
 |c::l=>by
  rw[List.flatMap_cons,YbC x l]
  unfold putF
  by_cases h:c=x
  ·rw[if_pos h,List.filter_cons_of_neg (by rw[decide_eq_true h];exact Bool.false_ne_true)];rfl
  ·rw[if_neg h,List.filter_cons_of_pos (by rw[decide_eq_false h];rfl)];rfl
theorem YaE{x:Nat}{n:List Nat}:∀{l:List Nat},x∉l->l.flatMap (putF x n)=l
 | [],_=>rfl
 |c::r,h=>by
  rw[List.flatMap_cons,YaE fun m=>h (List.mem_cons_of_mem _ m)]
  unfold putF
  rw[if_neg (fun e:c=x=>h (by rw[e];exact List.mem_cons_self ..))]
  rfl
theorem Ydp(x:Nat)(n:List Nat):∀parts:List Str,(∀p∈parts,x∉p.cps.toList)->(Str.join (sT n) parts).cps.toList=(Str.join ⟨#[x]⟩ parts).cps.toList.flatMap (putF x n)
 | [],_=>rfl
 | [p],h=>(YaE (h p (List.mem_singleton.mpr rfl))).symm
 |p::q::r,h=>by
  have ih:=Ydp x n (q::r) fun y hy=>h y (List.mem_cons_of_mem _ hy)
  show (p++sT n++Str.join (sT n) (q::r)).cps.toList=(p++⟨#[x]⟩++Str.join ⟨#[x]⟩ (q::r)).cps.toList.flatMap (putF x n)
  simp only[Str.cps_append,Array.toList_append]
  rw[List.flatMap_append,List.flatMap_append,ih,YaE (h p (List.mem_cons_self ..))]
  show _++(sT n).cps.toList++_=_++[x].flatMap (putF x n)++_
  rw[List.flatMap_cons,List.flatMap_nil,List.append_nil,show putF x n x=n from if_pos rfl]
  simp[sT]
theorem Ydm(l:List Nat)(x:Nat)(n:List Nat):Txt.replace (sT l) (sT [x]) (sT n)=sT (l.flatMap (putF x n)):=by
 refine Ye1 ?_
 have e:=StrLaws.replace_one (sT l) (sT n) x
 rw[show (sT [x])=⟨#[x]⟩ from rfl,e]
 have:=Ydp x n (Txt.split (sT l) ⟨#[x]⟩) (StrLaws.split_free (sT l) x)
 rw[this,StrLaws.join_split]
 simp[sT]
theorem JU{l n:List Nat}{x:Nat}{st:Stor}(hl:l.length<=1000)(hn:n.length<=2)(hne:[x]≠n):replaceP (tx l) [tx [x],tx n] st=some (tx (l.flatMap (putF x n)),st):=by
 show (if (sT l).length+((sT l).length+1) * (sT n).length<=cap/\sT [x]≠sT n then okP (.str (Txt.replace (sT l) (sT [x]) (sT n))) st else none)=_
 rw[if_pos,Ydm]
 ·rfl
 ·have e1:(sT l).length=l.length:=by simp[sT,Str.length]
  have e2:(sT n).length=n.length:=by simp[sT,Str.length]
  refine⟨?_,fun e=>hne (sT_inj.mp e)⟩
  rw[e1,e2]
  show _<=1000000
  have:(l.length+1) * n.length<=(l.length+1) * 2:=Nat.mul_le_mul_left _ hn
  omega
theorem Yct{k:Nat}{tb:Sys}{st:Stor}(hk:listAt st k=some (tb.map encEq))(h6:tb.length<=1000)(hl:∀e∈tb,e.1.length<=1000/\e.2.length<=1000):∃st',YC [.ref k] st=.ok (encSys (strip tb)) st'/\Grow st st':=by
 unfold YC WR
 simp only[s_e]
 walk_at "ev"
 rw[Yw hk]
 walk_at "ev"
 rw[List.length_map]
 rw[YU (me:=eCall 2 Yj (aCons (eVar 0) (aCons (eVar 1) aNil))) (g:=mgTup 2 (mgCons (mgName 0) (mgCons (mgName 1) mgNil))) tb encEq (fun e=>encEq (cut e)) rfl (fun i hi=>nxK hk) (by omega) (fun e he=>⟨[some (tx e.1),some (tx e.2)],rfl,by
  walk_at "ev"
  rw[Z5 (hl e he).1 (hl e he).2]
  rfl⟩)]
 walk_at "ev"
 generalize hS:st++[O.lst (tb.map fun e=>encEq (cut e))]=S
 have k1:listAt S st.length=some ((tb.map cut).map encEq):=by
  rw[<-hS,List.map_map]
  exact Yd Ye
 rw[Yw k1]
 walk_at "ev"
 rw[Zx (g:=mgName 0) (tb.map cut) encEq (fun e=>!decide (e=([],[]))) encEq (by simp) (fun i hi=>nxK k1) (by rw[List.length_map];omega) (fun e he=>⟨[some (encEq e)],rfl,by
  walk_at "ev"
  have:=Yfl (e:=e) (f:=([],[])) (st:=S)
  unfold encEq at this ⊢
  rw[this]
  rfl,fun _=>rfl⟩)]
 exact⟨S,rfl,by rw[<-hS];exact Grow.one⟩
theorem W6{l nm put:List Nat}{tb:Sys}{x:Nat}{v1:Option P}{st:Stor}(h6:tb.length<=6)(hl:∀e∈tb,e.1.length<=900/\e.2.length<=900)(hp:put.length<=2)(hne:[x]≠put)(hcl:∀e∈tb,e.1.count x<=50/\e.2.count x<=50):
 ∃st',retR ((sSeq (sSetL 5 (lComp (iVal (eBin ixP (eVar 0) (eC (.int 1)))) 2 [4,2] (mgTup 2 (mgCons (mgName 0) (mgCons (mgName 1) mgNil))) nTrue (eTup (aCons (eM isStr replaceP (eVar 0) (aCons (eVar 3) (aCons (eVar 2) aNil))) (aCons (eM isStr replaceP (eVar 1) (aCons (eVar 3) (aCons (eVar 2) aNil))) aNil)))))
 (sRet (eTup (aCons (eVar 3) (aCons (eCall 1 YC (aCons (eVar 5) aNil)) aNil))))) [some (.tup [tx l,encSys tb]),v1,some (tx [x]),some (tx nm),some (tx put),none] st)=.ok (.tup [tx nm,encSys (strip (fillB (putF x put) tb))]) st'/\Grow st st':=by
 have henc:encSys tb=.tup (tb.map encEq):=rfl
 rw[henc]
 walk_at "ev"
 rw[List.length_map]
 rw[YU (src:=srcL (tb.map encEq)) tb encEq (fun e=>encEq (e.1.flatMap (putF x put),e.2.flatMap (putF x put))) rfl (fun i hi=>nxL) (by omega) fun e he=>⟨[some (tx e.1),some (tx e.2),some (tx put),some (tx [x])],rfl,by
  have hb:=hl e he
  walk_at "ev"
  rw[JU (by omega) hp hne]
  walk_at "ev"
  rw[JU (by omega) hp hne]
  walk_at "ev"
  rfl⟩]
 walk_at "ev"
 have hm:tb.map (fun e=>encEq (e.1.flatMap (putF x put),e.2.flatMap (putF x put)))=(fillB (putF x put) tb).map encEq:=by
  unfold fillB
  rw[List.map_map]
  rfl
 rw[hm]
 obtain⟨s2,t2,g2⟩:=Yct (k:=st.length) (tb:=fillB (putF x put) tb) (st:=st++[.lst ((fillB (putF x put) tb).map encEq)]) (Yd Ye) (by unfold fillB;simp;omega) (fun e he=>by
  unfold fillB at he
  obtain⟨d,hd,rfl⟩:=List.mem_map.mp he
  have hb:=hl d hd
  have h1:=Wz x put hp d.1
  have h2:=Wz x put hp d.2
  have c1:=hcl d hd
  dsimp only
  omega)
 rw[t2]
 walk_at "ev"
 exact⟨s2,rfl,Grow.one.trans g2⟩
theorem Ydz{l:List Nat}{tb:Sys}{s:Stp}{st:Stor}(h6:tb.length<=6)(hl:∀e∈tb,e.1.length<=900/\e.2.length<=900)(hcl:∀e∈tb,e.1.count s.x<=50/\e.2.count s.x<=50)(hn:l.length<=1000):
 ∃st',YF [.tup [tx l,encSys tb],s.p] st=.ok (.tup [tx (s.names l),encSys (strip (fillB (putF s.x s.put) tb))]) st'/\Grow st st':=by
 unfold YF Z7
 generalize hR:(sSeq (sSetL 5 (lComp (iVal (eBin ixP (eVar 0) (eC (.int 1)))) 2 [4,2] (mgTup 2 (mgCons (mgName 0) (mgCons (mgName 1) mgNil))) nTrue (eTup (aCons (eM isStr replaceP (eVar 0) (aCons (eVar 3) (aCons (eVar 2) aNil))) (aCons (eM isStr replaceP (eVar 1) (aCons (eVar 3) (aCons (eVar 2) aNil))) aNil)))))
 (sRet (eTup (aCons (eVar 3) (aCons (eCall 1 YC (aCons (eVar 5) aNil)) aNil)))):MS)=REST
 simp only[s_e,Yck]
 cases s with
 |none x=>
  have hp:(Stp.none x).p=.tup [tx [110,111,110,101],tx [x]]:=rfl
  rw[hp]
  walk_at "ev"
  rw[JU hn (by simp) (by simp),YbC]
  walk_at "ev"
  rw[<-hR]
  exact W6 (x:=x) (put:=[]) h6 hl (by simp) (by simp) hcl
 |sign x a=>
  have hp:(Stp.sign x a).p=.tup [tx [115,105,103,110],tx [x],tx [a]]:=rfl
  rw[hp]
  walk_at "ev"
  rw[show decide (([115,105,103,110]:List Nat)=[110,111,110,101])=false from rfl]
  walk_at "ev"
  rw[<-hR]
  exact W6 (x:=x) (put:=[a,x]) h6 hl (by simp) (by simp) hcl
 |over x y=>
  have hp:(Stp.over x y).p=.tup [tx [111,118,101,114],tx [x],tx [y]]:=rfl
  rw[hp]
  walk_at "ev"
  rw[show decide (([111,118,101,114]:List Nat)=[110,111,110,101])=false from rfl]
  walk_at "ev"
  rw[<-hR]
  exact W6 (x:=x) (put:=[y,x]) h6 hl (by simp) (by simp) hcl
structure Ans(θ:Nat->List Nat)(tb:Sys):Prop where
 low:∀c,isLow c=true->θ c=[c]
 eq:∀e∈tb,e.1.flatMap θ=e.2.flatMap θ
def Wt(θ:Nat->List Nat)(tb:Sys):Nat:=((allL tb).flatMap θ).length
def nextS(s:Stp)(tb:Sys):Sys:=strip (fillB (putF s.x s.put) tb)
def upT(θ:Nat->List Nat)(x:Nat)(t:List Nat):Nat->List Nat:=fun c=>if c=x then t else θ c
theorem Yd4{θ:Nat->List Nat}(e:List Nat×List Nat):e.1.flatMap θ=(e.1.take (cp e.1 e.2)).flatMap θ++(cut e).1.flatMap θ/\e.2.flatMap θ=(e.1.take (cp e.1 e.2)).flatMap θ++(cut e).2.flatMap θ:=by
 refine⟨?_,?_⟩
 ·rw[<-List.flatMap_append];unfold cut;rw[List.take_append_drop]
 ·rw[Ye8,<-List.flatMap_append];unfold cut;rw[List.take_append_drop]
theorem Ans.strip{θ:Nat->List Nat}{tb:Sys}(A:Ans θ tb):Ans θ (strip tb):=⟨A.low,fun d hd=>by
 obtain⟨e,he,rfl⟩:=List.mem_map.mp (List.mem_filter.mp hd).1
 have h:=A.eq e he
 obtain⟨h1,h2⟩:=Yd4 (θ:=θ) e
 rw[h1,h2]at h
 exact List.append_cancel_left h⟩
theorem Ycm(θ:Nat->List Nat)(e:List Nat×List Nat)(tb:Sys):Wt θ (e::tb)=(e.1.flatMap θ).length+(e.2.flatMap θ).length+Wt θ tb:=by
 unfold Wt
 rw[YM,List.flatMap_append,List.flatMap_append,List.length_append,List.length_append]
theorem YbV(θ:Nat->List Nat)(e:List Nat×List Nat)(tb:Sys):Wt θ (strip (e::tb))=((cut e).1.flatMap θ).length+((cut e).2.flatMap θ).length+Wt θ (strip tb):=by
 rw[VR]
 by_cases h:cut e=([],[])
 ·rw[if_pos h,h];simp
 ·rw[if_neg h,List.singleton_append,Ycm]
theorem Yg7(θ:Nat->List Nat)(e:List Nat×List Nat):((cut e).1.flatMap θ).length+((cut e).2.flatMap θ).length+2 * ((e.1.take (cp e.1 e.2)).flatMap θ).length=(e.1.flatMap θ).length+(e.2.flatMap θ).length:=by
 obtain⟨h1,h2⟩:=Yd4 (θ:=θ) e
 rw[h1,h2,List.length_append,List.length_append]
 omega
theorem Ybd(θ:Nat->List Nat):∀tb:Sys,Wt θ (strip tb)<=Wt θ tb
 | []=>Nat.le_refl _
 |e::tb=>by
  have:=Ybd θ tb
  have:=Yg7 θ e
  rw[YbV,Ycm]
  omega
theorem YeX{θ:Nat->List Nat}{y:Nat}{u v:List Nat}{tb:Sys}(h:θ y≠[]):Wt θ (strip ((y::u,y::v)::tb))<Wt θ ((y::u,y::v)::tb):=by
 have h1:=Ybd θ tb
 have h2:=Yg7 θ (y::u,y::v)
 rw[YbV,Ycm]
 have h3:0<(((y::u:List Nat).take (cp (y::u) (y::v))).flatMap θ).length:=by
  rw[cp,if_pos rfl,List.take_succ_cons,List.flatMap_cons,List.length_append]
  have:=List.length_pos_iff.mpr h
  omega
 dsimp only at h2 ⊢
 omega
theorem Ybc{f θ θ':Nat->List Nat}(h:∀c,(f c).flatMap θ'=θ c)(a:List Nat):(a.flatMap f).flatMap θ'=a.flatMap θ:=by
 rw[List.flatMap_assoc]
 exact congrArg (fun g=>a.flatMap g) (funext h)
theorem Yfi{f θ θ':Nat->List Nat}{tb:Sys}(h:∀c,(f c).flatMap θ'=θ c)(A:Ans θ tb)(hl:∀c,isLow c=true->θ' c=[c]):Ans θ' (fillB f tb):=⟨hl,fun d hd=>by
 obtain⟨e,he,rfl⟩:=List.mem_map.mp hd
 dsimp only
 rw[Ybc h,Ybc h]
 exact A.eq e he⟩
theorem Yho{f θ θ':Nat->List Nat}{tb:Sys}(h:∀c,(f c).flatMap θ'=θ c):Wt θ' (fillB f tb)=Wt θ tb:=by
 unfold Wt
 rw[Zo,Ybc h]
theorem Yc4(x:Nat):∀l:List Nat,(l.flatMap (putF x [])).length+l.count x=l.length
 | []=>rfl
 |c::l=>by
  have:=Yc4 x l
  rw[List.flatMap_cons,List.length_append,List.count_cons,List.length_cons]
  by_cases h:c=x
  ·have e:putF x [] c=[]:=if_pos h
   rw[e,show (c == x)=true by simpa using h,if_pos rfl,List.length_nil];omega
  ·have e:putF x [] c=[c]:=if_neg h
   rw[e,show (c == x)=false by simpa using h,if_neg (by simp),List.length_singleton];omega
def Goes(θ:Nat->List Nat)(tb:Sys)(s:Stp):Prop:=∃θ',Ans θ' (nextS s tb)/\(Wt θ' (nextS s tb)<Wt θ tb\/(Wt θ' (nextS s tb)<=Wt θ tb/\(allL (nextS s tb)).length<(allL tb).length))
theorem Wp{θ:Nat->List Nat}{tb:Sys}{x:Nat}(A:Ans θ tb)(hx:θ x=[])(hm:x∈allL tb):Goes θ tb (.none x):=by
 have h:∀c,(putF x [] c).flatMap θ=θ c:=fun c=>by
  unfold putF
  by_cases e:c=x
  ·rw[if_pos e,e,hx];rfl
  ·rw[if_neg e];simp
 refine⟨θ,(Yfi h A A.low).strip,.inr ⟨?_,?_⟩⟩
 ·have:=Ybd θ (fillB (putF x []) tb)
  rw[Yho h]at this
  exact this
 ·have h1:=Vq (fillB (putF x []) tb)
  have h2:=Yc4 x (allL tb)
  have h3:=List.count_pos_iff.mpr hm
  rw[Zo]at h1
  show (allL (strip (fillB (putF x []) tb))).length<_
  omega
theorem V9{θ:Nat->List Nat}{x y:Nat}{t u v:List Nat}{e:List Nat×List Nat}{r:Sys}{s:Stp}(A:Ans θ (e::r))(hs:s.x=x)(hp:s.put=[y,x])(hx:θ x=θ y++t)(hy:θ y≠[])(ne:y≠x)(hl:isLow x=false)(he:e=(x::u,y::v)\/e=(y::u,x::v)):Goes θ (e::r) s:=by
 have h:∀c,(putF x [y,x] c).flatMap (upT θ x t)=θ c:=fun c=>by
  unfold putF upT
  by_cases q:c=x
  ·rw[if_pos q,q,hx];simp[ne]
  ·rw[if_neg q];simp[q]
 have hl':∀c,isLow c=true->upT θ x t c=[c]:=fun c hc=>by
  unfold upT
  rw[if_neg (fun z=>by rw[z,hl]at hc;cases hc)]
  exact A.low c hc
 refine⟨upT θ x t,?_,.inl ?_⟩
 ·unfold nextS;rw[hs,hp];exact (Yfi h A hl').strip
 ·unfold nextS
  rw[hs,hp,<-Yho (tb:=e::r) h]
  have hy':upT θ x t y≠[]:=by unfold upT;rw[if_neg ne];exact hy
  have py:putF x [y,x] y=[y]:=by unfold putF;rw[if_neg ne]
  have px:putF x [y,x] x=[y,x]:=by unfold putF;rw[if_pos rfl]
  rcases he with he|he
  ·subst he
   show Wt _ (strip ((_,_)::fillB _ r))<Wt _ ((_,_)::fillB _ r)
   dsimp only
   rw[List.flatMap_cons,List.flatMap_cons,px,py]
   exact YeX hy'
  ·subst he
   show Wt _ (strip ((_,_)::fillB _ r))<Wt _ ((_,_)::fillB _ r)
   dsimp only
   rw[List.flatMap_cons,List.flatMap_cons,px,py]
   exact YeX hy'
theorem Yc9{θ:Nat->List Nat}{tb:Sys}(A:Ans θ tb){a:List Nat}(h:a.any isLow=true):a.flatMap θ≠[]:=by
 obtain⟨c,hc,hl⟩:=List.any_eq_true.mp h
 obtain⟨u,v,rfl⟩:=List.append_of_mem hc
 rw[List.flatMap_append,List.flatMap_cons,A.low c hl]
 intro z
 have:=congrArg List.length z
 simp at this
theorem Yf4{θ:Nat->List Nat}{tb:Sys}(A:Ans θ tb)(good:∀e∈tb,e≠([],[])/\cp e.1 e.2=0):tb.any against=false:=by
 rw[<-Bool.not_eq_true,List.any_eq_true]
 rintro⟨e,he,h⟩
 have hh:=A.eq e he
 unfold against at h
 by_cases hn:e.1=[]\/e.2=[]
 ·rw[if_pos hn]at h
  rcases hn with z|z
  ·rw[z]at h hh
   exact Yc9 A h hh.symm
  ·rw[z,List.append_nil]at h
   rw[z]at hh
   exact Yc9 A h hh
 ·rw[if_neg hn,Bool.and_eq_true]at h
  rw[not_or]at hn
  obtain⟨a,b⟩:=e
  dsimp only at *
  cases a with
  |nil=>exact hn.1 rfl
  |cons p u=>
   cases b with
   |nil=>exact hn.2 rfl
   |cons q v=>
    simp only[List.headD_cons]at h
    rw[List.flatMap_cons,List.flatMap_cons,A.low p h.1,A.low q h.2]at hh
    have hpq:p=q:=by
     have:=congrArg List.head? hh
     simpa using this
    have:=(good _ he).2
    rw[cp,if_pos hpq]at this
    omega
theorem Yap{a b A B:List Nat}(h:a++A=b++B)(hl:b.length<=a.length):∃t,a=b++t:=by
 refine⟨a.drop b.length,?_⟩
 have:=congrArg (List.take b.length) h
 rw[List.take_append_of_le_length hl,List.take_left' rfl]at this
 exact (List.take_append_drop b.length a).symm.trans (congrArg (·++a.drop b.length) this)
theorem Yi7{n:Nat}{l:List Nat}{θ:Nat->List Nat}{tb:Sys}(R:Ro n l tb)(A:Ans θ tb)(hne:tb≠[]):∃s∈stepsOf tb,Goes θ tb s:=by
 cases tb with
 |nil=>exact absurd rfl hne
 |cons e r=>
  have hal:=Yf4 A R.good
  have hst:stepsOf (e::r)=stepsA e:=by
   show (if (e::r).any against=true then [] else stepsA e)=_
   rw[hal];rfl
  rw[hst]
  have hag:against e=false:=by
   rw[List.any_cons,Bool.or_eq_false_iff]at hal
   exact hal.1
  have he:e∈e::r:=List.mem_cons_self ..
  have hh:=A.eq e he
  obtain⟨gne,gcp⟩:=R.good e he
  have hin:∀c,c∈e.1\/c∈e.2->c∈allL (e::r):=fun c hc=>mem_allL.mpr ⟨e,he,hc⟩
  unfold against at hag
  unfold stepsA
  by_cases hn:e.1=[]\/e.2=[]
  ·rw[if_pos hn]at hag ⊢
   have key:∀a:List Nat,a≠[]->(∀c∈a,c∈e.1\/c∈e.2)->a.flatMap θ=[]->Goes θ (e::r) (.none (a.headD 0)):=fun a h1 h2 h4=>by
    cases a with
    |nil=>exact absurd rfl h1
    |cons x u=>
     rw[List.flatMap_cons]at h4
     exact Wp A (List.append_eq_nil_iff.mp h4).1 (hin x (h2 x (List.mem_cons_self ..)))
   refine⟨_,List.mem_singleton.mpr rfl,?_⟩
   rcases hn with z|z
   ·rw[z,List.nil_append]
    refine key e.2 (fun q=>gne (Prod.ext z q)) (fun c hc=>.inr hc) ?_
    rw[<-hh,z];rfl
   ·rw[z,List.append_nil]
    refine key e.1 (fun q=>gne (Prod.ext q z)) (fun c hc=>.inl hc) ?_
    rw[hh,z];rfl
  ·rw[if_neg hn]at hag ⊢
   rw[not_or]at hn
   obtain⟨a,b⟩:=e
   dsimp only at *
   cases a with
   |nil=>exact absurd rfl hn.1
   |cons p u=>
    cases b with
    |nil=>exact absurd rfl hn.2
    |cons q v=>
     simp only[List.headD_cons]at hag ⊢
     have mp:p∈allL ((p::u,q::v)::r):=hin p (.inl (List.mem_cons_self ..))
     have mq:q∈allL ((p::u,q::v)::r):=hin q (.inr (List.mem_cons_self ..))
     have hpq:p≠q:=fun z=>by rw[cp,if_pos z]at gcp;omega
     rw[List.flatMap_cons,List.flatMap_cons]at hh
     by_cases l1:isLow p=true
     ·rw[l1,Bool.true_and]at hag
      simp only[l1,if_true]
      by_cases wq:θ q=[]
      ·exact⟨.none q,by simp,Wp A wq mq⟩
      ·rw[A.low p l1]at hh
       obtain⟨t,ht⟩:=Yap (a:=θ q) (b:=[p]) hh.symm (List.length_pos_iff.mpr wq)
       exact⟨.sign q p,by simp,V9 A rfl rfl (by rw[A.low p l1];exact ht) (by rw[A.low p l1];simp) hpq hag (.inr rfl)⟩
     ·rw[Bool.not_eq_true]at l1
      simp only[l1,Bool.false_eq_true,if_false]
      by_cases l2:isLow q=true
      ·simp only[l2,if_true]
       by_cases wp:θ p=[]
       ·exact⟨.none p,by simp,Wp A wp mp⟩
       ·rw[A.low q l2]at hh
        obtain⟨t,ht⟩:=Yap (a:=θ p) (b:=[q]) hh (List.length_pos_iff.mpr wp)
        exact⟨.sign p q,by simp,V9 A rfl rfl (by rw[A.low q l2];exact ht) (by rw[A.low q l2];simp) (Ne.symm hpq) l1 (.inl rfl)⟩
      ·rw[Bool.not_eq_true]at l2
       simp only[l2,Bool.false_eq_true,if_false]
       by_cases wp:θ p=[]
       ·exact⟨.none p,by simp,Wp A wp mp⟩
       ·by_cases wq:θ q=[]
        ·exact⟨.none q,by simp,Wp A wq mq⟩
        ·rcases Nat.le_total (θ q).length (θ p).length with h|h
         ·obtain⟨t,ht⟩:=Yap hh h
          exact⟨.over p q,by simp,V9 A rfl rfl ht wq (Ne.symm hpq) l1 (.inl rfl)⟩
         ·obtain⟨t,ht⟩:=Yap hh.symm h
          exact⟨.over q p,by simp,V9 A rfl rfl ht wp hpq l2 (.inr rfl)⟩
theorem Yh8{rs:List (List Nat×Sys)}(hR:∀r∈rs,Ro 200 r.1 r.2)(hc:∀r∈rs,∀s∈stepsOf r.2,(s.names r.1,nextS s r.2)∈rs):∀(m:Nat)(θ:Nat->List Nat)(r:List Nat×Sys),r∈rs->Ans θ r.2->Wt θ r.2 * 1000+(allL r.2).length<m->∃q∈rs,q.2=[]:=by
 intro m
 induction m with
 |zero=>intro θ r hr A h;omega
 |succ m ih=>
  intro θ r hr A h
  by_cases hn:r.2=[]
  ·exact⟨r,hr,hn⟩
  ·obtain⟨s,hs,θ',A',hw⟩:=Yi7 (hR r hr) A hn
   have hr':=hc r hr s hs
   refine ih θ' _ hr' A' ?_
   have:=(hR _ hr').many
   dsimp only at this ⊢
   rcases hw with hw|hw <;> omega
abbrev Rom:=List Nat×Sys
def encR(r:Rom):P:=.tup [tx r.1,encSys r.2]
def dkT(l:List Nat):DK:=.key (.inr (sT l))
def dkR(r:Rom):DK:=.tup [dkT r.1,.tup (r.2.map fun e=>.tup [dkT e.1,dkT e.2])]
theorem YdP{α β γ:Type}{f:β->Option γ}{g:α->β}{h:α->γ}(e:∀x,f (g x)=some (h x)):∀xs:List α,mapO f (xs.map g)=some (xs.map h)
 | []=>rfl
 |x::xs=>by rw[List.map_cons,mapO,e x,YdP e xs];rfl
theorem Yci(r:Rom):tupK (encR r)=some (dkR r):=by
 have h:mapO (dkP 4) (r.2.map encEq)=some (r.2.map fun e=>DK.tup [dkT e.1,dkT e.2]):=YdP (f:=dkP 4) (g:=encEq) (h:=fun e=>DK.tup [dkT e.1,dkT e.2]) (fun e=>rfl) _
 have h2:dkP 5 (encSys r.2)=some (.tup (r.2.map fun e=>DK.tup [dkT e.1,dkT e.2])):=by
  show (mapO (dkP 4) (r.2.map encEq)).map DK.tup=_
  rw[h];rfl
 show (mapO (dkP 5) [tx r.1,encSys r.2]).map DK.tup=_
 rw[mapO,mapO,h2]
 rfl
theorem YdU:∀ks:List DK,psOf ks=ks.map pOf
 | []=>by rw[psOf];rfl
 |k::ks=>by rw[psOf,YdU ks];rfl
theorem Ylr(l:List Nat):pOf (dkT l)=tx l:=by unfold dkT;rw[pOf];rfl
theorem YgL(r:Rom):pOf (dkR r)=encR r:=by
 unfold dkR
 rw[pOf,psOf,psOf,psOf,Ylr,pOf,YdU,List.map_map]
 unfold encR encSys
 congr 4
theorem YgZ{r q:Rom}(h:encR r=encR q):r=q:=by
 unfold encR at h
 injection h with h
 injection h with h1 h2
 injection h2 with h2 _
 have e1:r.1=q.1:=by injection h1 with h1;exact sT_inj.mp h1
 unfold encSys at h2
 injection h2 with h2
 have inj:∀{a b:Sys},a.map encEq=b.map encEq->a=b:=by
  intro a
  induction a with
  |nil=>intro b h;cases b with
   |nil=>rfl
   |cons _ _=>cases h
  |cons x a ih=>intro b h;cases b with
   |nil=>cases h
   |cons y b=>
    rw[List.map_cons,List.map_cons]at h
    injection h with h1 h2
    unfold encEq at h1
    injection h1 with h1
    injection h1 with p1 p2
    injection p2 with p2 _
    injection p1 with p1
    injection p2 with p2
    rw[ih h2,Prod.ext (sT_inj.mp p1) (sT_inj.mp p2)]
 exact Prod.ext e1 (inj h2)
theorem Yi1{r q:Rom}(h:dkR r=dkR q):r=q:=YgZ (by rw[<-YgL,<-YgL,h])
def std(r:Rom):DK×P:=(dkR r,.bl true)
theorem Ye2{qs:List Rom}{r:Rom}:((qs.map std).any fun kv=>decide (kv.1=dkR r))=decide (r∈qs):=by
 induction qs with
 |nil=>rfl
 |cons q qs ih=>
  rw[List.map_cons,List.any_cons,ih]
  by_cases h:q=r
  ·subst h
   rw[decide_eq_true (show (std q).1=dkR q from rfl),decide_eq_true List.mem_cons_self];rfl
  ·rw[decide_eq_false (show ¬(std q).1=dkR r from fun z=>h (Yi1 z))]
   by_cases m:r∈qs
   ·rw[decide_eq_true m,decide_eq_true (List.mem_cons_of_mem _ m)];rfl
   ·rw[decide_eq_false m,decide_eq_false (fun z=>(List.mem_cons.mp z).elim (fun e=>h e.symm) m)];rfl
theorem YeU{qs:List Rom}{r:Rom}:(valP (qs.map std) (dkR r)).isSome=decide (r∈qs):=by
 unfold valP
 rw[Option.isSome_map,<-Ye2,List.isSome_find?]
theorem Yff{qs:List Rom}{r:Rom}:putP (qs.map std) (dkR r) (.bl true)=(if r∈qs then qs else qs++[r]).map std:=by
 unfold putP
 rw[Ye2]
 by_cases h:r∈qs
 ·rw[if_pos (decide_eq_true h),if_pos h,List.map_map]
  refine congrArg (fun f=>qs.map f) (funext fun q=>?_)
  show (if (std q).1=dkR r then ((std q).1,P.bl true) else std q)=std q
  split <;> rfl
 ·rw[if_neg (by rw[decide_eq_false h];exact Bool.false_ne_true),if_neg h,List.map_append];rfl
theorem Ydn:∀(rs qs:List Rom),∃ps:List Rom,(rs.map std).foldl (fun acc q=>putP acc q.1 q.2) (qs.map std)=ps.map std/\(∀r,r∈ps↔r∈qs\/r∈rs)/\ps.length<=qs.length+rs.length
 | [],qs=>⟨qs,rfl,fun r=>by simp,by simp⟩
 |r::rs,qs=>by
  obtain⟨ps,h1,h2,h3⟩:=Ydn rs (if r∈qs then qs else qs++[r])
  refine⟨ps,?_,fun q=>?_,?_⟩
  ·rw[List.map_cons,List.foldl_cons]
   show List.foldl _ (putP (qs.map std) (dkR r) (.bl true)) _=_
   rw[Yff,h1]
  ·rw[h2,List.mem_cons]
   by_cases h:r∈qs
   ·rw[if_pos h]
    exact⟨fun z=>z.elim .inl (fun z=>.inr (.inr z)),fun z=>z.elim .inl fun z=>z.elim (fun e=>.inl (e ▸ h)) .inr⟩
   ·rw[if_neg h,List.mem_append,List.mem_singleton]
    exact⟨fun z=>z.elim (fun z=>z.elim .inl fun e=>.inr (.inl e)) (fun z=>.inr (.inr z)),fun z=>z.elim (fun z=>.inl (.inl z)) fun z=>z.elim (fun e=>.inl (.inr e)) .inr⟩
  ·rw[List.length_cons]
   have:(if r∈qs then qs else qs++[r]).length<=qs.length+1:=by split <;> simp
   omega
theorem Yb9:∀rs:List Rom,pairsD (rs.map fun r=>.tup [encR r,.bl true])=some (rs.map std)
 | []=>rfl
 |r::rs=>by
  rw[List.map_cons,pairsD,Yb9 rs]
  show ((tupK (encR r)).map fun k=>(k,P.bl true)).bind _=_
  rw[Yci];rfl
theorem YjG{qs:List Rom}{r:Rom}{k:Nat}{st:Stor}(h:st[k]?=some (.fdd (qs.map std))):inDP (encR r) (.ref k) st=some (.bl (decide (r∈qs)),st):=by
 unfold inDP ddkAt
 simp only[h,Yci]
 rw[YeU];rfl
theorem YkU{n:Str}{ρ:Rho}{st:Stor}:eFnV n ρ st=.ok (.ref st.length) (st++[.fn n]):=rfl
theorem YgE{x:Str}{n:Nat}{mf:MF}{mc:ME}{mr:MA}{ρ:Rho}{st:Stor}{k:Nat}(hc:mc ρ st=.ok (.ref k) st)(h:st[k]?=some (.fn x)):eCallV x n mf mc mr ρ st=eCall n mf mr ρ st:=by
 unfold eCallV
 rw[hc]
 simp only[R.bind_ok,h,if_true]
theorem Ygg{m:MA}{ρ:Rho}{st st1:Stor}{rs:List Rom}(h:m ρ st=.ok (rs.map fun r=>.tup [encR r,.bl true]) st1):eDictLF m ρ st=.ok (.ref st1.length) (st1++[.fdd (putsD (rs.map std))]):=by
 unfold eDictLF
 rw[h]
 simp only[R.bind_ok,Yb9]
theorem Yhh{me:ME}{ρ:Rho}{st:Stor}{k:Nat}{kvs:List (DK×P)}(h:me ρ st=.ok (.ref k) st)(hk:st[k]?=some (.fdd kvs)):iKeysD me ρ st=.ok (srcKeysD kvs) st:=by
 unfold iKeysD
 rw[h]
 simp only[R.bind_ok,hk]
theorem nxD{qs:List Rom}{i:Nat}{s:Stor}:(srcKeysD (qs.map std)).nx i s=some (qs[i]?.map encR):=by
 show some (((qs.map std)[i]?).map fun p=>pOf p.1)=_
 rw[List.getElem?_map,Option.map_map]
 refine congrArg some (congrArg (fun f=>qs[i]?.map f) (funext fun r=>?_))
 exact YgL r
def nxt(r:Rom)(s:Stp):Rom:=(s.names r.1,nextS s r.2)
theorem behind{n:Nat}{r:Rom}{s:Stp}{st:Stor}(R:Ro n r.1 r.2)(hn:n<=200)(hs:s∈stepsOf r.2):∃st',YF [encR r,s.p] st=.ok (encR (nxt r s)) st'/\Grow st st':=by
 have hup:=(Stp.fits_x (JX R hs)).1
 exact Ydz (l:=r.1) (tb:=r.2) (s:=s) (st:=st) R.len (R.each hn) (fun e he=>by
  have h1:=R.two _ hup
  have h2:(e.1++e.2).count s.x<=(allL r.2).count s.x:=List.Sublist.count_le _ (List.sublist_flatten_of_mem (List.mem_map.mpr ⟨e,he,rfl⟩))
  rw[List.count_append]at h2
  omega) (by have:=R.nm;omega)
theorem Ve(tb:Sys):(stepsOf tb).length<=4:=by
 cases tb with
 |nil=>simp[stepsOf]
 |cons e r=>
  show (if (e::r).any against=true then [] else stepsA e).length<=4
  unfold stepsA
  split
  ·simp
  ·split
   ·simp
   ·split
    ·simp
    ·split <;> simp
def exitP(r:Rom)(s:Stp):P:=.tup [s.p,encR (nxt r s)]
theorem Yiy{n:Nat}{r:Rom}{st:Stor}(R:Ro n r.1 r.2)(hn:n<=200):∃k st',Y4 [encR r] st=.ok (.ref k) st'/\st'[k]?=some (.lst ((stepsOf r.2).map (exitP r)))/\Grow st st':=by
 have hl:=Ve r.2
 unfold Y4 VO
 have hst:Zm [encR r] st=.ok (.tup ((stepsOf r.2).map Stp.p)) st:=Yg9 (l:=r.1) (R.rm hn)
 walk_at "ev"
 rw[hst]
 walk_at "ev"
 rw[List.length_map]
 obtain⟨s1,e1,_,g1⟩:=JM (src:=srcL ((stepsOf r.2).map Stp.p)) (g:=mgName 0) (me:=eTup (aCons (eVar 0) (aCons (eCall 2 YF (aCons (eVar 1) (aCons (eVar 0) aNil))) aNil))) (ρ0:=[none,some (encR r)]) (N:=(stepsOf r.2).length) (st:=st)
  (stepsOf r.2) Stp.p (exitP r) (fun _=>True) rfl (fun i s hi _ _=>nxL) (by omega) trivial
  (fun s hs s0 _ _=>by
   obtain⟨s1,t1,g1⟩:=behind (st:=s0) R hn hs
   refine⟨[some s.p,some (encR r)],s1,rfl,?_,trivial,g1⟩
   walk_at "ev"
   rw[t1]
   walk_at "ev"
   rfl)
 rw[e1]
 walk_at "ev"
 exact⟨_,_,rfl,Ye,g1.trans Grow.one⟩
theorem Yco{n:Nat}{r:Rom}{qs:List Rom}{ks kf:Nat}{st:Stor}(R:Ro n r.1 r.2)(hn:n<=200)(hs:st[ks]?=some (.fdd (qs.map std)))(hf:st[kf]?=some (.fn "exits_of")):
 ∃st',YH [encR r,.ref ks,.ref kf] st=.ok (.bl (decide (r.2≠[]) && (stepsOf r.2).all fun s=>decide (nxt r s∈qs))) st'/\Grow st st':=by
 have hl:=Ve r.2
 unfold YH ZX
 generalize hE:(eCallV "exits_of" 1 Y4 (eVar 2) (aCons (eVar 0) aNil))=E
 have he:YV [encR r] st=.ok (.bl (((r.2.length:Nat):Int) == 0)) st:=Yds (l:=r.1)
 walk_at "ev"
 rw[he]
 walk_at "ev"
 by_cases hz:r.2=[]
 ·rw[hz]
  exact⟨st,rfl,Grow.refl⟩
 ·have h0:(((r.2.length:Nat):Int) == 0)=false:=by
   have:=List.length_pos_iff.mpr hz
   simp;omega
  rw[h0,decide_eq_true hz]
  walk_at "ev"
  obtain⟨k,s1,t1,q1,g1⟩:=Yiy (st:=st) R hn
  have hE':E [some (encR r),some (.ref ks),some (.ref kf)] st=.ok (.ref k) s1:=by
   rw[<-hE,YgE (k:=kf) rfl hf]
   walk_at "ev"
   rw[t1]
   rfl
  rw[hE']
  walk_at "ev"
  rw[Yw (Yd q1)]
  walk_at "ev"
  rw[List.length_map]
  obtain⟨s2,e2,_,g2⟩:=JM (src:=srcK k (stepsOf r.2).length) (g:=mgTup 2 (mgCons (mgName 0) (mgCons (mgName 1) mgNil))) (me:=eBin inDP (eVar 1) (eVar 2)) (ρ0:=[none,none,some (.ref ks)]) (N:=(stepsOf r.2).length) (st:=s1)
   (stepsOf r.2) (exitP r) (fun s=>.bl (decide (nxt r s∈qs))) (fun _=>True) rfl (fun i s hi _ g=>nxK (Yd (g.get q1))) (by omega) trivial
   (fun s hs' s0 _ g=>by
    refine⟨[some s.p,some (encR (nxt r s)),some (.ref ks)],s0,rfl,?_,trivial,Grow.refl⟩
    walk_at "ev"
    rw[YjG (g.get (g1.get hs))]
    rfl)
  rw[e2]
  walk_at "ev"
  rw[Yew (f:=fun s:Stp=>decide (nxt r s∈qs))]
  exact⟨s2,rfl,g1.trans g2⟩
theorem YfO{r0:Rom}{rs:List Rom}{kf:Nat}{st:Stor}(hR:∀r∈rs,Ro 200 r.1 r.2)(hm:rs.length<=1000)(hf:st[kf]?=some (.fn "exits_of")):
 ∃b st',Y6 [.tup [encR r0],.tup (rs.map encR),.ref kf] st=.ok (.bl b) st'/\Grow st st'/\(b=true->r0∈rs/\∀r∈rs,r.2≠[]/\∀s∈stepsOf r.2,nxt r s∈rs):=by
 obtain⟨ps,p1,p2,p3⟩:=Ydn rs []
 have p2':∀r,r∈ps↔r∈rs:=fun r=>by rw[p2];simp
 unfold Y6 WZ
 generalize hD:(eDictLF (lComp (iVal (eVar 1)) 1 [] (mgName 0) nTrue (eTup (aCons (eVar 0) (aCons (eC (.bl true)) aNil)))))=D
 generalize hI:iKeysD (eVar 3)=IK
 have hD':D [some (.tup [encR r0]),some (.tup (rs.map encR)),some (.ref kf),none] st=.ok (.ref st.length) (st++[.fdd (ps.map std)]):=by
  rw[<-hD,Ygg (rs:=rs) (st1:=st)]
  ·show R.ok _ (st++[O.fdd ((rs.map std).foldl (fun acc q=>putP acc q.1 q.2) (([]:List Rom).map std))])=_
   rw[p1]
  ·walk_at "ev"
   rw[List.length_map]
   exact YU (g:=mgName 0) rs encR (fun r=>.tup [encR r,.bl true]) rfl (fun i hi=>nxL) (by omega) (fun r hr=>⟨[some (encR r)],rfl,by walk_at "ev"⟩)
 walk_at "ev"
 rw[hD']
 walk_at "ev"
 generalize hS:st++[O.fdd (ps.map std)]=S
 have gS:Grow st S:=by rw[<-hS];exact Grow.one
 have kS:S[st.length]?=some (.fdd (ps.map std)):=by rw[<-hS];exact Ye
 have c0:=YU (src:=srcL [encR r0]) (g:=mgName 0) (me:=eBin inDP (eVar 0) (eVar 1)) (ρ0:=[none,some (.ref st.length)]) (N:=1) (st:=S) [r0] encR (fun r=>.bl (decide (r∈ps))) rfl (fun i hi=>nxL (xs:=[r0]) (enc:=encR)) (by simp) (fun r hr=>⟨[some (encR r),some (.ref st.length)],rfl,by
  walk_at "ev"
  rw[YjG kS]
  rfl⟩)
 rw[c0]
 walk_at "ev"
 have c1:allR [P.bl (decide (r0∈ps))] S=.ok (.bl (decide (r0∈ps))) S:=(Yew (f:=fun r:Rom=>decide (r∈ps)) (l:=[r0])).trans (by simp)
 rw[c1]
 walk_at "ev"
 by_cases h0:r0∈ps
 ·rw[decide_eq_true h0]
  walk_at "ev"
  have hI':IK [some (.tup [encR r0]),some (.tup (rs.map encR)),some (.ref kf),some (.ref st.length)] S=.ok (srcKeysD (ps.map std)) S:=by
   rw[<-hI];exact Yhh rfl kS
  rw[hI']
  walk_at "ev"
  obtain⟨s2,e2,_,g2⟩:=JM (src:=srcKeysD (ps.map std)) (g:=mgName 0) (me:=eCall 3 YH (aCons (eVar 0) (aCons (eVar 2) (aCons (eVar 1) aNil)))) (ρ0:=[none,some (.ref kf),some (.ref st.length)]) (N:=ps.length) (st:=S)
   ps encR (fun r=>.bl (decide (r.2≠[]) && (stepsOf r.2).all fun s=>decide (nxt r s∈ps))) (fun _=>True) rfl (fun i s hi _ _=>nxD) (by rw[List.length_nil]at p3;omega) trivial
   (fun r hr s0 _ g=>by
    obtain⟨s1,t1,g1⟩:=Yco (st:=s0) (qs:=ps) (hR r ((p2' r).mp hr)) (Nat.le_refl _) (g.get kS) (g.get (gS.get hf))
    refine⟨[some (encR r),some (.ref kf),some (.ref st.length)],s1,rfl,?_,trivial,g1⟩
    walk_at "ev"
    rw[t1]
    rfl)
  have hn:(srcKeysD (ps.map std)).n=ps.length:=by show (ps.map std).length=_;rw[List.length_map]
  rw[hn,e2]
  walk_at "ev"
  rw[Yew (f:=fun r:Rom=>decide (r.2≠[]) && (stepsOf r.2).all fun s=>decide (nxt r s∈ps))]
  refine⟨_,s2,rfl,gS.trans g2,fun hb=>⟨(p2' _).mp h0,fun r hr=>?_⟩⟩
  have:=List.all_eq_true.mp hb r ((p2' r).mpr hr)
  rw[Bool.and_eq_true,decide_eq_true_eq,List.all_eq_true]at this
  exact⟨this.1,fun s hs=>(p2' _).mp (of_decide_eq_true (this.2 s hs))⟩
 ·rw[decide_eq_false h0]
  walk_at "ev"
  exact⟨false,S,rfl,gS,fun z=>by cases z⟩
theorem YiG{tb:Sys}{θ:Nat->List Nat}{rs:List Rom}{st:Stor}(h:(allL tb).length<=1000)(h6:tb.length<=1000)(ha:∀c∈allL tb,isLet c=true)(hl:∀e∈tb,e.1.length<=1000/\e.2.length<=1000)(A:Ans θ tb)(hR:∀r∈rs,Ro 200 r.1 r.2)(hm:rs.length<=1000):
 ∃st',ZQ [encSys tb,.tup (rs.map encR)] st=.ok (.bl false) st'/\Grow st st':=by
 unfold ZQ JV
 obtain⟨s1,t1,g1⟩:=YeF (tb:=tb) (st:=st) h h6 ha hl
 walk_at "ev"
 rw[t1]
 walk_at "ev"
 rw[YkU]
 walk_at "ev"
 obtain⟨b,s2,t2,g2,q2⟩:=YfO (r0:=(nsOf tb,strip tb)) (rs:=rs) (kf:=s1.length) (st:=s1++[.fn "exits_of"]) hR hm Ye
 have t2':Y6 [.tup [.tup [tx (nsOf tb),encSys (strip tb)]],.tup (rs.map encR),.ref s1.length] (s1++[.fn "exits_of"])=.ok (.bl b) s2:=t2
 rw[t2']
 walk_at "ev"
 have hb:b=false:=by
  cases b with
  |false=>rfl
  |true=>
   obtain⟨q3,q4⟩:=q2 rfl
   obtain⟨q,hq,hz⟩:=Yh8 hR (fun r hr s hs=>(q4 r hr).2 s hs) _ θ _ q3 A.strip (Nat.lt_succ_self _)
   exact absurd hz (q4 q hq).1
 rw[hb]
 exact⟨s2,rfl,(g1.trans Grow.one).trans g2⟩
theorem Yb4(r:Rom):pureP 6 (encR r)=true:=by
 show ([tx r.1,encSys r.2]).all (pureP 5)=true
 rw[List.all_cons,List.all_cons]
 have:pureP 5 (encSys r.2)=true:=by
  show (r.2.map encEq).all (pureP 4)=true
  rw[List.all_map]
  exact List.all_eq_true.mpr fun _ _=>rfl
 rw[this];rfl
theorem YhL{rs:List Rom}{r:Rom}{k:Nat}{s:Stor}(h:s[k]?=some (.lst (rs.map encR))):∃b,notIn6P (encR r) (.ref k) s=some (.bl b,s):=by
 unfold notIn6P
 dsimp only
 rw[Yd h]
 dsimp only
 rw[ZI (Yb4 r),Jn (fun p hp=>ZI hp) (rs.map encR) (by rw[List.all_map];exact List.all_eq_true.mpr fun q _=>Yb4 q)]
 exact⟨_,rfl⟩
theorem Ygx{ss:List Stp}{st:Stor}:eqP (.tup (ss.map Stp.p)) (.tup []) st=some (.bl ss.isEmpty,st):=by
 obtain⟨b,h1,h2⟩:=Yby (st:=st) (p:=.tup (ss.map Stp.p)) (q:=.tup []) (by
  show (ss.map Stp.p).all (pureP 7)=true
  rw[List.all_map]
  exact List.all_eq_true.mpr fun s _=>s.pure) rfl
 rw[h1]
 cases ss with
 |nil=>rw[h2.mpr rfl];rfl
 |cons a r=>
  have:b=false:=by
   cases b with
   |false=>rfl
   |true=>have:=h2.mp rfl;cases this
  rw[this];rfl
theorem Yc3{n:Nat}{r:Rom}{s:Stp}{st:Stor}(R:Ro n r.1 r.2)(hn:n<=200)(hs:s∈stepsOf r.2):∃st',Yu [encR r,s.p] st=.ok (encR (nxt r s)) st'/\Grow st st':=by
 have hup:=(Stp.fits_x (JX R hs)).1
 exact Ydv (l:=r.1) (tb:=r.2) (s:=s) (st:=st) R.len (R.each hn) (fun e he=>by
  have h1:=R.two _ hup
  have h2:(e.1++e.2).count s.x<=(allL r.2).count s.x:=List.Sublist.count_le _ (List.sublist_flatten_of_mem (List.mem_map.mpr ⟨e,he,rfl⟩))
  rw[List.count_append]at h2
  omega) (by have:=R.nm;omega)
theorem Ro.next{n:Nat}{r:Rom}{s:Stp}(R:Ro n r.1 r.2)(hs:s∈stepsOf r.2):Ro (n+1) (nxt r s).1 (nxt r s).2:=R.step (JX R hs)
theorem Yix{tb:Sys}(h6:tb.length<=6)(hl:∀e∈tb,e.1.length<=40/\e.2.length<=40)(hlet:∀c∈allL tb,isLet c=true)(h2:∀c,isUp c=true->(allL tb).count c<=2):Ro 0 (nsOf tb) (strip tb):=by
 have hal:=Jm hl
 exact⟨by
  unfold strip
  refine Nat.le_trans (List.length_filter_le ..) ?_
  rw[List.length_map]
  exact h6,by have:=Vq tb;omega,fun c h=>hlet c (Yb2 h),Ya9 tb,fun c h=>Nat.le_trans (Zp c tb) (h2 c h),Nat.le_trans (List.length_filter_le ..) (by decide)⟩
theorem Yaw{tb:Sys}{rc:Nat}{cs:List Int}{st:Stor}(hc:st[rc]?=some (.lst (cs.map P.int)))(h60:cs.length<=60)(h6:tb.length<=6)(hl:∀e∈tb,e.1.length<=40/\e.2.length<=40)(hlet:∀c∈allL tb,isLet c=true)(h2:∀c,isUp c=true->(allL tb).count c<=2):
 ∃(rs:List Rom)(k:Nat)(st':Stor),YS [encSys tb,.ref rc] st=.ok (.ref k) st'/\st'[k]?=some (.lst (rs.map encR))/\rs.length<=61/\(∀r∈rs,Ro 60 r.1 r.2)/\Grow st st':=by
 have hal:=Jm hl
 have R0:=Yix h6 hl hlet h2
 unfold YS Wa
 walk_at "ev"
 rw[Ygh (by omega) (by omega)]
 walk_at "ev"
 obtain⟨s1,t1,g1⟩:=Ygm (tb:=tb) (st:=st) (by omega) (fun e he=>by have:=hl e he;omega)
 rw[t1]
 walk_at "ev"
 have hcn:rc≠s1.length:=by
  have:=(List.getElem?_eq_some_iff.mp (g1.get hc)).1
  omega
 have her:P.tup [tx (nsOf tb),encSys (strip tb)]=encR (nsOf tb,strip tb):=rfl
 rw[her]
 generalize hS:s1++[O.lst [encR (nsOf tb,strip tb)]]=S
 have gS:Grow st S:=by rw[<-hS];exact g1.trans Grow.one
 have kS:S[s1.length]?=some (.lst ([(nsOf tb,strip tb)].map encR)):=by rw[<-hS];exact Ye
 rw[Yw (xs:=cs.map P.int) (Yd (gS.get hc))]
 walk_at "ev"
 obtain⟨ρ',s',e1,rs,r,v5,v6,e2,e3,e4,e5,e6,e7⟩:=Zw (src:=srcK rc (cs.map P.int).length) (g:=mgName 5) (m:=ZV) (N:=(cs.map P.int).length) (ρ:=[some (encSys tb),some (.ref rc),some (encR (nsOf tb,strip tb)),some (.ref s1.length),some (encR (nsOf tb,strip tb)),none,none]) (st:=S) cs P.int
  (fun i ρ s=>∃(rs:List Rom)(r:Rom)(v5 v6:Option P),ρ=[some (encSys tb),some (.ref rc),some (encR (nsOf tb,strip tb)),some (.ref s1.length),some (encR r),v5,v6]/\s[s1.length]?=some (.lst (rs.map encR))/\Keep s1.length S s/\rs.length<=i+1/\Ro i r.1 r.2/\∀r∈rs,Ro i r.1 r.2)
  (by simp) (fun i ρ s hi ⟨rs,r,v5,v6,q1,q2,q3,q4,q5,q6⟩=>nxK (Yd (q3.get hcn (gS.get hc)))) ⟨[(nsOf tb,strip tb)],_,none,none,rfl,kS,Keep.refl,by simp,R0,fun r hr=>by rw[List.mem_singleton.mp hr];exact R0⟩
  (fun i hi ρ s ⟨rs,r,v5,v6,q1,q2,q3,q4,R,q6⟩=>by
   subst q1
   refine⟨_,rfl,?_⟩
   generalize cs[i]=x
   unfold ZV
   generalize hT:(sIf (eTst (eBin notIn6P (eVar 4) (eVar 3))) (sDrop (eM isLst appendP (eVar 3) (aCons (eVar 4) aNil))) sNil:MS)=TL
   walk_at "ev"
   obtain⟨s2,t2,g2⟩:=YbU (tb:=r.2) (l:=r.1) (st:=s) (R.rm (by omega))
   have t2':Yx [encR r] s=.ok (.tup ((stepsOf r.2).map Stp.p)) s2:=t2
   rw[t2']
   walk_at "ev"
   rw[Ygx]
   walk_at "ev"
   have key:∀(r':Rom)(v5 v6:Option P)(s3:Stor),Ro (i+1) r'.1 r'.2->Grow s s3->∃ρ' s',TL [some (encSys tb),some (.ref rc),some (encR (nsOf tb,strip tb)),some (.ref s1.length),some (encR r'),v5,v6] s3=.nx ρ' s'/\∃(rs:List Rom)(r:Rom)(v5 v6:Option P),ρ'=[some (encSys tb),some (.ref rc),some (encR (nsOf tb,strip tb)),some (.ref s1.length),some (encR r),v5,v6]/\s'[s1.length]?=some (.lst (rs.map encR))/\Keep s1.length S s'/\rs.length<=i+1+1/\Ro (i+1) r.1 r.2/\∀r∈rs,Ro (i+1) r.1 r.2:=fun r' v5 v6 s3 R' g3=>by
    obtain⟨b,hb⟩:=YhL (r:=r') (g3.get q2)
    rw[<-hT]
    walk_at "ev"
    rw[hb]
    walk_at "ev"
    cases b with
    |false=>
     walk_at "ev"
     exact⟨_,_,rfl,rs,r',_,_,rfl,g3.get q2,q3.trans (Keep.grow g3),by omega,R',fun r hr=>(q6 r hr).more (by omega)⟩
    |true=>
     walk_at "ev"
     rw[Wx (g3.get q2)]
     walk_at "ev"
     rw[Wg (g3.get q2) (by rw[List.length_map];omega)]
     walk_at "ev"
     refine⟨_,_,rfl,rs++[r'],r',_,_,rfl,?_,(q3.trans (Keep.grow g3)).trans Keep.set,by simp;omega,R',fun q hq=>?_⟩
     ·rw[List.getElem?_set_self (List.getElem?_eq_some_iff.mp (g3.get q2)).1,List.map_append];rfl
     ·rcases List.mem_append.mp hq with h|h
      ·exact (q6 q h).more (by omega)
      ·rw[List.mem_singleton.mp h];exact R'
   by_cases hn:stepsOf r.2=[]
   ·rw[hn]
    walk_at "ev"
    exact key _ _ _ s2 (R0.more (by omega)) g2
   ·rw[show (stepsOf r.2).isEmpty=false by cases h:stepsOf r.2 with|nil=>exact absurd h hn|cons a b=>rfl]
    have hpos:0<(stepsOf r.2).length:=List.length_pos_iff.mpr hn
    walk_at "ev"
    rw[List.length_map]
    have b0:0<=x * 16807 % 99971 % ((stepsOf r.2).length:Int)/\x * 16807 % 99971 % ((stepsOf r.2).length:Int)<(stepsOf r.2).length:=⟨Int.emod_nonneg _ (by omega),Int.emod_lt_of_pos _ (by omega)⟩
    obtain⟨z,hz1,hz2⟩:∃z:Nat,x * 16807 % 99971 % ((stepsOf r.2).length:Int)=(z:Int)/\z<(stepsOf r.2).length:=⟨(x * 16807 % 99971 % ((stepsOf r.2).length:Int)).toNat,by omega,by omega⟩
    rw[hz1,V8 (xs:=(stepsOf r.2).map Stp.p) (i:=(z:Int)) (p:=(stepsOf r.2)[z].p) (by omega) (by rw[Int.toNat_natCast,List.getElem?_map,List.getElem?_eq_getElem hz2];rfl)]
    walk_at "ev"
    obtain⟨s3,t3,g3⟩:=Yc3 (st:=s2) R (by omega) (List.getElem_mem hz2)
    rw[t3]
    walk_at "ev"
    exact key _ _ _ s3 (R.next (List.getElem_mem hz2)) (g2.trans g3))
 rw[e1,e2]
 walk_at "ev"
 exact⟨rs,s1.length,s',rfl,e3,by rw[List.length_map]at *;omega,fun r hr=>(e7 r hr).more h60,Keep.grows gS e4 g1.len⟩
theorem Yib{qs:List Rom}{r:Rom}{k:Nat}{st:Stor}(h:st[k]?=some (.ddk (qs.map std))):notInDP (encR r) (.ref k) st=some (.bl (!decide (r∈qs)),st):=by
 unfold notInDP ddkAt
 simp only[h,Yci]
 rw[YeU];rfl
theorem Yh7{mo mi me:ME}{ρ:Rho}{st:Stor}{k:Nat}{r:Rom}{qs:List Rom}(h1:me ρ st=.ok (.bl true) st)(h2:mo ρ st=.ok (.ref k) st)(h3:mi ρ st=.ok (encR r) st)(hk:st[k]?=some (.ddk (qs.map std)))(hl:qs.length<1000):
 sPutD mo mi me ρ st=.nx ρ (st.set k (.ddk ((if r∈qs then qs else qs++[r]).map std))):=by
 unfold sPutD
 rw[h1]
 simp only[RS.ofE_ok,h2,h3,hk,Yci]
 rw[if_pos (show (qs.map std).length<cap by rw[List.length_map];exact Nat.lt_of_lt_of_le hl (by decide)),Yff]
structure Fnd(st:Stor)(kf kk:Nat)(n m:Nat)(fs ps:List Rom)(s:Stor):Prop where
 grow:Grow st s
 lf:st.length<=kf
 lk:st.length<=kk
 ne:kf≠kk
 found:s[kf]?=some (.lst (fs.map encR))
 known:s[kk]?=some (.ddk (ps.map std))
 nf:fs.length<=n
 nk:ps.length<=m
 ro:∀r∈fs,Ro (61+fs.length) r.1 r.2
theorem Fnd.more{st:Stor}{kf kk n m:Nat}{fs ps:List Rom}{s s':Stor}(F:Fnd st kf kk n m fs ps s)(g:Grow s s'):Fnd st kf kk n m fs ps s':=⟨F.grow.trans g,F.lf,F.lk,F.ne,g.get F.found,g.get F.known,F.nf,F.nk,F.ro⟩
theorem Fnd.put{st:Stor}{kf kk n m:Nat}{fs ps:List Rom}{s:Stor}(F:Fnd st kf kk n m fs ps s)(r:Rom):Fnd st kf kk n (m+1) fs (if r∈ps then ps else ps++[r]) (s.set kk (.ddk ((if r∈ps then ps else ps++[r]).map std))):=by
 have hk:=(List.getElem?_eq_some_iff.mp F.known).1
 refine⟨Keep.grows F.grow Keep.set F.lk,F.lf,F.lk,F.ne,?_,?_,F.nf,?_,F.ro⟩
 ·rw[List.getElem?_set_ne (Ne.symm F.ne)];exact F.found
 ·rw[List.getElem?_set_self hk]
 ·have:=F.nk
  split
  ·omega
  ·rw[List.length_append,List.length_singleton];omega
theorem Fnd.add{st:Stor}{kf kk n m:Nat}{fs ps:List Rom}{s:Stor}(F:Fnd st kf kk n m fs ps s){r:Rom}(R:Ro (61+fs.length+1) r.1 r.2):Fnd st kf kk (n+1) m (fs++[r]) ps (s.set kf (.lst (fs.map encR++[encR r]))):=by
 have hk:=(List.getElem?_eq_some_iff.mp F.found).1
 refine⟨Keep.grows F.grow Keep.set F.lf,F.lf,F.lk,F.ne,?_,?_,?_,F.nk,fun q hq=>?_⟩
 ·rw[List.getElem?_set_self hk,List.map_append];rfl
 ·rw[List.getElem?_set_ne F.ne];exact F.known
 ·have:=F.nf;rw[List.length_append,List.length_singleton];omega
 ·rw[List.length_append,List.length_singleton]
  rcases List.mem_append.mp hq with h|h
  ·exact (F.ro q h).more (by omega)
  ·rw[List.mem_singleton.mp h];exact R
theorem Yi5{tb:Sys}{st:Stor}:∃b,neP (encSys tb) (.tup []) st=some (.bl b,st):=by
 obtain⟨b,h1,_⟩:=Vt (st:=st) (p:=encSys tb) (q:=.tup []) (by
  show (tb.map encEq).all (pureP 7)=true
  rw[List.all_map]
  exact List.all_eq_true.mpr fun _ _=>rfl) rfl
 exact⟨_,h1⟩
theorem Yfw{st:Stor}{kf kk at_ n m:Nat}{fs ps:List Rom}{s:Stor}{r:Rom}{z:Stp}{v0 v3 v6:Option P}(F:Fnd st kf kk n m fs ps s)(hat:fs[at_]?=some r)(hz:z∈stepsOf r.2)(hn:n<=110)(hm:m<=900):
 ∃r' s' fs' ps',ZF [v0,some (.ref kf),some (.ref kk),v3,some (.int (at_:Nat)),some z.p,v6] s=.nx [v0,some (.ref kf),some (.ref kk),v3,some (.int (at_:Nat)),some z.p,some (encR r')] s'/\Fnd st kf kk (n+1) (m+1) fs' ps' s'/\fs'[at_]?=some r:=by
 have hi:=(List.getElem?_eq_some_iff.mp hat).1
 have R:=F.ro r (List.mem_of_getElem? hat)
 have nf:=F.nf
 have nk:=F.nk
 have hix:∀s:Stor,s[kf]?=some (.lst (fs.map encR))->ixP (.ref kf) (.int (at_:Nat)) s=some (encR r,s):=fun s h=>WX h (by omega) (by rw[Int.toNat_natCast,List.getElem?_map,hat];rfl)
 unfold ZF
 generalize hT:(sSeq (sPutD (eVar 2) (eVar 6) (eC (.bl true))) (sDrop (eM isLst appendP (eVar 1) (aCons (eVar 6) aNil))):MS)=TL
 walk_at "ev"
 rw[hix s F.found]
 walk_at "ev"
 obtain⟨s1,t1,g1⟩:=Yc3 (st:=s) R (by omega) hz
 rw[t1]
 walk_at "ev"
 have F1:=F.more g1
 rw[Yib F1.known]
 walk_at "ev"
 by_cases hq:nxt r z∈ps
 ·rw[decide_eq_true hq]
  walk_at "ev"
  exact⟨_,_,fs,ps,rfl,⟨F1.grow,F1.lf,F1.lk,F1.ne,F1.found,F1.known,by omega,by omega,F1.ro⟩,hat⟩
 ·rw[decide_eq_false hq]
  walk_at "ev"
  have h1:ixP (encR (nxt r z)) (.int 1) s1=some (encSys (nxt r z).2,s1):=YdS
  rw[h1]
  walk_at "ev"
  obtain⟨b,hb⟩:=Yi5 (tb:=(nxt r z).2) (st:=s1)
  rw[hb]
  walk_at "ev"
  cases b with
  |false=>
   walk_at "ev"
   exact⟨_,_,fs,ps,rfl,⟨F1.grow,F1.lf,F1.lk,F1.ne,F1.found,F1.known,by omega,by omega,F1.ro⟩,hat⟩
  |true=>
   walk_at "ev"
   rw[<-hT]
   walk_at "ev"
   rw[Yh7 (r:=nxt r z) (qs:=ps) rfl rfl rfl F1.known (by omega)]
   have F2:=F1.put (nxt r z)
   walk_at "ev"
   rw[Wx F2.found]
   walk_at "ev"
   rw[Wg F2.found (by rw[List.length_map];omega)]
   walk_at "ev"
   exact⟨_,_,fs++[nxt r z],_,rfl,F2.add (R.next hz),by rw[List.getElem?_append_left hi];exact hat⟩
theorem Yfs{st:Stor}{kf kk at_ m:Nat}{fs ps:List Rom}{s:Stor}{v0 v3 v5 v6:Option P}(F:Fnd st kf kk 99 m fs ps s)(hat:at_<fs.length)(hm:m<=890):
 ∃v5' v6' s' fs' ps',Zg [v0,some (.ref kf),some (.ref kk),v3,some (.int (at_:Nat)),v5,v6] s=.nx [v0,some (.ref kf),some (.ref kk),v3,some (.int ((at_+1:Nat):Int)),v5',v6'] s'/\Fnd st kf kk 103 (m+4) fs' ps' s':=by
 have hr:fs[at_]?=some fs[at_]:=List.getElem?_eq_getElem hat
 generalize fs[at_]=r at hr
 have R:=F.ro r (List.mem_of_getElem? hr)
 have nf:=F.nf
 have hlen:=Ve r.2
 unfold Zg
 walk_at "ev"
 rw[WX F.found (by omega) (by rw[Int.toNat_natCast,List.getElem?_map,hr];rfl)]
 walk_at "ev"
 obtain⟨s1,t1,g1⟩:=YbU (tb:=r.2) (l:=r.1) (st:=s) (R.rm (by omega))
 have t1':Yx [encR r] s=.ok (.tup ((stepsOf r.2).map Stp.p)) s1:=t1
 rw[t1']
 walk_at "ev"
 rw[List.length_map]
 obtain⟨ρ',s',e1,w5,w6,fs',ps',e2,e3,e4⟩:=Zw (src:=srcL ((stepsOf r.2).map Stp.p)) (g:=mgName 5) (m:=ZF) (N:=(stepsOf r.2).length) (ρ:=[v0,some (.ref kf),some (.ref kk),v3,some (.int (at_:Nat)),v5,v6]) (st:=s1) (stepsOf r.2) Stp.p
  (fun i ρ s=>∃(w5 w6:Option P)(fs' ps':List Rom),ρ=[v0,some (.ref kf),some (.ref kk),v3,some (.int (at_:Nat)),w5,w6]/\Fnd st kf kk (99+i) (m+i) fs' ps' s/\fs'[at_]?=some r)
  rfl (fun i ρ s hi _=>nxL) ⟨v5,v6,fs,ps,rfl,F.more g1,hr⟩
  (fun i hi ρ s ⟨w5,w6,fs',ps',q1,q2,q3⟩=>by
   subst q1
   refine⟨_,rfl,?_⟩
   obtain⟨r',s2,f2,p2,a1,a2,a3⟩:=Yfw (v0:=v0) (v3:=v3) (v6:=w6) q2 q3 (List.getElem_mem hi) (by omega) (by omega)
   exact⟨_,s2,a1,_,_,f2,p2,rfl,a2,a3⟩)
 rw[e1,e2]
 walk_at "ev"
 exact⟨w5,w6,s',fs',ps',rfl,⟨e3.grow,e3.lf,e3.lk,e3.ne,e3.found,e3.known,by have:=e3.nf;omega,by have:=e3.nk;omega,e3.ro⟩⟩
theorem Yf5{kr:Nat}{rs:List Rom}{st:Stor}(hk:st[kr]?=some (.lst (rs.map encR)))(hl:rs.length<=61)(hR:∀r∈rs,Ro 60 r.1 r.2):
 ∃(fs:List Rom)(k:Nat)(st':Stor),Zb [.ref kr] st=.ok (.ref k) st'/\st'[k]?=some (.lst (fs.map encR))/\fs.length<=110/\(∀r∈fs,Ro 200 r.1 r.2)/\Grow st st':=by
 unfold Zb WJ
 generalize hW:(sWhile (eAndT (eTst (eBin ltP (eVar 4) (eB lenP (aCons (eVar 1) aNil)))) (eTst (eBin ltP (eB lenP (aCons (eVar 1) aNil)) (eC (.int 100))))) Zg:MS)=WH
 have hL:listDP [P.ref kr] st=some (.ref st.length,st++[O.lst (rs.map encR)]):=by
  unfold listDP
  simp only[hk]
  unfold listP
  dsimp only
  rw[YbM (Yd hk)]
  dsimp only
  unfold newL
  rw[if_pos (by rw[List.length_map];exact Nat.le_trans hl (by decide))]
 have hE:∀(ρ:Rho)(s:Stor),eDictD0 ρ s=.ok (.ref s.length) (s++[.ddk []]):=fun _ _=>rfl
 walk_at "ev"
 rw[hL]
 walk_at "ev"
 rw[hE]
 walk_at "ev"
 generalize hS:st++[O.lst (rs.map encR)]=S1
 have gS1:Grow st S1:=by rw[<-hS];exact Grow.one
 have kS1:S1[st.length]?=some (.lst (rs.map encR)):=by rw[<-hS];exact Ye
 have lS1:S1.length=st.length+1:=by rw[<-hS];simp
 have F0:Fnd st st.length S1.length rs.length 0 rs [] (S1++[O.ddk []]):=⟨gS1.trans Grow.one,Nat.le_refl _,by omega,by omega,Grow.one.get kS1,Ye,Nat.le_refl _,Nat.le_refl _,fun r hr=>(hR r hr).more (by omega)⟩
 generalize S1++[O.ddk []]=S at F0 ⊢
 generalize S1.length=kk at F0 ⊢
 generalize hkf:st.length=kf at F0 ⊢
 rw[Yw (Yd F0.found)]
 walk_at "ev"
 rw[List.length_map]
 obtain⟨ρ1,s1,e1,v3,ps,e2,F1⟩:=Zw (src:=srcK kf rs.length) (g:=mgName 3) (m:=Wc) (N:=rs.length) (ρ:=[some (.ref kr),some (.ref kf),some (.ref kk),none,none,none,none]) (st:=S) rs encR
  (fun i ρ s=>∃(v3:Option P)(ps:List Rom),ρ=[some (.ref kr),some (.ref kf),some (.ref kk),v3,none,none,none]/\Fnd st kf kk rs.length i rs ps s)
  rfl (fun i ρ s hi ⟨v3,ps,q1,q2⟩=>nxK (Yd q2.found)) ⟨none,[],rfl,F0⟩
  (fun i hi ρ s ⟨v3,ps,q1,q2⟩=>by
   subst q1
   refine⟨_,rfl,?_⟩
   unfold Wc
   rw[Yh7 (r:=rs[i]) (qs:=ps) rfl rfl rfl q2.known (by have:=q2.nk;omega)]
   exact⟨_,_,rfl,_,_,rfl,q2.put rs[i]⟩)
 rw[e1,e2]
 walk_at "ev"
 obtain⟨ρ2,s2,e3,at_,fs,ps2,w3,w5,w6,m,q1,F2⟩:=Ycc (nc:=eAndT (eTst (eBin ltP (eVar 4) (eB lenP (aCons (eVar 1) aNil)))) (eTst (eBin ltP (eB lenP (aCons (eVar 1) aNil)) (eC (.int 100))))) (m:=Zg) (K:=200)
  (fun k ρ s=>∃(at_:Nat)(fs ps:List Rom)(v3 v5 v6:Option P),ρ=[some (.ref kr),some (.ref kf),some (.ref kk),v3,some (.int (at_:Nat)),v5,v6]/\Fnd st kf kk 103 (61+4 * at_) fs ps s/\at_<=100/\k=200 - at_)
  (fun ρ s=>∃(at_:Nat)(fs ps:List Rom)(v3 v5 v6:Option P)(m:Nat),ρ=[some (.ref kr),some (.ref kf),some (.ref kk),v3,some (.int (at_:Nat)),v5,v6]/\Fnd st kf kk 103 m fs ps s)
  (ρ:=[some (.ref kr),some (.ref kf),some (.ref kk),v3,some (.int 0),none,none]) (st:=s1) (by decide) ⟨0,rs,ps,v3,none,none,rfl,⟨F1.grow,F1.lf,F1.lk,F1.ne,F1.found,F1.known,by omega,by have:=F1.nk;omega,F1.ro⟩,by omega,by omega⟩
  (fun k ρ s ⟨at_,fs,ps,v3,v5,v6,q1,F,q2,q3⟩=>by
   subst q1
   have hn:(eAndT (eTst (eBin ltP (eVar 4) (eB lenP (aCons (eVar 1) aNil)))) (eTst (eBin ltP (eB lenP (aCons (eVar 1) aNil)) (eC (.int 100))))) [some (.ref kr),some (.ref kf),some (.ref kk),v3,some (.int (at_:Nat)),v5,v6] s=.ok (decide (at_<fs.length/\fs.length<100)) s:=by
    walk_at "ev"
    rw[YO F.found]
    walk_at "ev"
    rw[List.length_map]
    by_cases h1:at_<fs.length
    ·rw[decide_eq_true (show ((at_:Nat):Int)<(fs.length:Nat) by omega)]
     walk_at "ev"
     rw[YO F.found]
     walk_at "ev"
     rw[List.length_map]
     congr 1
     exact decide_eq_decide.mpr ⟨fun h=>⟨h1,by omega⟩,fun h=>by omega⟩
    ·rw[decide_eq_false (show ¬((at_:Nat):Int)<(fs.length:Nat) by omega),decide_eq_false (fun z=>h1 z.1)]
     walk_at "ev"
   by_cases hc:at_<fs.length/\fs.length<100
   ·rw[decide_eq_true hc]at hn
    obtain⟨w5,w6,s',fs',ps',a1,a2⟩:=Yfs (v0:=some (.ref kr)) (v3:=v3) (v5:=v5) (v6:=v6) (m:=61+4 * at_) ⟨F.grow,F.lf,F.lk,F.ne,F.found,F.known,by omega,F.nk,F.ro⟩ hc.1 (by omega)
    exact .inr ⟨s,hn,_,s',200 - (at_+1),a1,by omega,at_+1,fs',ps',_,_,_,rfl,⟨a2.grow,a2.lf,a2.lk,a2.ne,a2.found,a2.known,a2.nf,by have:=a2.nk;omega,a2.ro⟩,by omega,rfl⟩
   ·rw[decide_eq_false hc]at hn
    exact .inl ⟨s,hn,at_,fs,ps,v3,v5,v6,_,rfl,F⟩)
 rw[hW]at e3
 rw[e3,q1]
 walk_at "ev"
 exact⟨fs,kf,s2,rfl,F2.found,by have:=F2.nf;omega,fun r hr=>(F2.ro r hr).more (by have:=F2.nf;omega),F2.grow⟩
theorem Yis{l:List Nat}{st:Stor}(h:l.length<=1000000):slP (tx l) none (some (-1)) st=some (tx l.dropLast,st):=by
 have e:Txt.slice (sT l) none (some (-1))=Txt.slice (sT l) none (some ((l.length - 1:Nat):Int)):=by
  rw[Zv,Zv]
  unfold StrLaws.sliceText
  have e:max (0:Int) (min (if (-1:Int)<0 then (-1:Int)+((sT l).length:Nat) else -1) ((sT l).length:Nat))=max 0 (min (if ((l.length - 1:Nat):Int)<0 then ((l.length - 1:Nat):Int)+((sT l).length:Nat) else ((l.length - 1:Nat):Int)) ((sT l).length:Nat)):=by
   rw[if_pos (by decide),if_neg (by omega),ZJ];omega
  have:Builtin.Str.strSliceIndices none (some (-1)) 1 (sT l).length=Builtin.Str.strSliceIndices none (some ((l.length - 1:Nat):Int)) 1 (sT l).length:=by
   unfold Builtin.Str.strSliceIndices
   simp only[show (1:Int) > 0 by decide,if_true]
   rw[e]
  rw[this]
 show (if (sT l).length<=cap then okP (.str (Txt.slice (sT l) none (some (-1)))) st else none)=_
 rw[if_pos (by rw[ZJ];exact h),e,Yhz,List.dropLast_eq_take]
 rfl
theorem Yjg{k:Nat}{xs:List P}{lo hi:Option Int}{st:Stor}(h:st[k]?=some (.ro xs))(hl:xs.length<=1000000):slP (.ref k) lo hi st=some (.ref st.length,st++[.lst (cutP xs lo hi)]):=by
 unfold slP
 simp only[h]
 unfold newL
 rw[if_pos]
 show _<=1000000
 unfold cutP
 rw[List.length_take,List.length_drop]
 omega
theorem YjD(tb:Sys):(allL (tb.map fun e=>(e.1.dropLast,e.2))).Sublist (allL tb):=by
 induction tb with
 |nil=>exact List.Sublist.refl _
 |cons e r ih=>
  rw[List.map_cons,YM,YM]
  exact ((List.dropLast_sublist e.1).append (List.Sublist.refl _)).append ih
theorem YfJ{tb:Sys}{st:Stor}:neP (encSys tb) (.tup []) st=some (.bl (!tb.isEmpty),st):=by
 cases tb with
 |nil=>exact YfX (p:=.tup []) rfl
 |cons a r=>
  obtain⟨b,h1,h2⟩:=Vt (st:=st) (p:=encSys (a::r)) (q:=.tup []) (by
   show ((a::r).map encEq).all (pureP 7)=true
   rw[List.all_map]
   exact List.all_eq_true.mpr fun _ _=>rfl) rfl
  rw[h1,YbE h2 (fun z=>by cases z)]
  rfl
def Pap(s:Stor)(k:Nat):Prop:=∃fs:List Rom,s[k]?=some (.lst (fs.map encR))/\fs.length<=1000/\∀r∈fs,Ro 200 r.1 r.2
theorem Pap.grow{s s':Stor}{k:Nat}(P:Pap s k)(g:Grow s s'):Pap s' k:=let ⟨fs,h1,h2⟩:=P;⟨fs,g.get h1,h2⟩
theorem otherE{tb:Sys}{st:Stor}{v0 v1 v2 v3 v5 v6 v7 v8 v9:Option P}(hl:∀e∈tb,e.1.length<=40/\e.2.length<=40)(h6:tb.length<=6):
 (eTupL (lComp (iVal (eVar 4)) 2 [] (mgTup 2 (mgCons (mgName 0) (mgCons (mgName 1) mgNil))) nTrue (eTup (aCons (eSl (eVar 0) oNone (oSome (eNeg (eC (.int 1))))) (aCons (eVar 1) aNil))))) [v0,v1,v2,v3,some (encSys tb),v5,v6,v7,v8,v9] st=.ok (encSys (tb.map fun e=>(e.1.dropLast,e.2))) st:=by
 have henc:encSys tb=.tup (tb.map encEq):=rfl
 rw[henc]
 walk_at "ev"
 rw[List.length_map,YU (g:=mgTup 2 (mgCons (mgName 0) (mgCons (mgName 1) mgNil))) tb encEq (fun e=>encEq (e.1.dropLast,e.2)) rfl (fun i hi=>nxL) (by omega) (fun e he=>⟨[some (tx e.1),some (tx e.2)],rfl,by
  have:=hl e he
  walk_at "ev"
  rw[Yis (by omega)]
  rfl⟩)]
 walk_at "ev"
 unfold encSys
 rw[List.map_map]
 rfl
theorem YjZ{k:Nat}{rs:List Rom}{s:Stor}(h:s[k]?=some (.lst (rs.map encR)))(hl:rs.length<=1000):sl3P (.ref k) none none (some (-1)) s=some (.ref s.length,s++[.lst (rs.reverse.map encR)]):=by
 unfold sl3P
 dsimp only
 rw[if_pos (by decide),Yd h]
 dsimp only
 rw[Ygq]
 unfold newL
 rw[if_pos (by rw[List.length_reverse,List.length_map];exact Nat.le_trans hl (by decide)),List.map_reverse]
theorem asked{tb:Sys}{θ:Nat->List Nat}{ks:List Nat}{kl:Nat}{s:Stor}{v0 v1 v2 v3 v5 v6 v7 v8 v9:Option P}(hall:(allL tb).length<=1000)(h6:tb.length<=1000)(hlet:∀c∈allL tb,isLet c=true)(hl:∀e∈tb,e.1.length<=1000/\e.2.length<=1000)(A:Ans θ tb)
 (hk:s[kl]?=some (.lst (ks.map P.ref))) (hp:∀k∈ks,Pap s k):∃v9' s',forN (srcK kl ks.length) (mgName 9) YaC ks.length 0 [v0,v1,v2,v3,some (encSys tb),v5,v6,v7,v8,v9] s=.nx [v0,v1,v2,v3,some (encSys tb),v5,v6,v7,v8,v9'] s':=by
 obtain⟨ρ',s',e1,v9',e2,e3⟩:=Zw (src:=srcK kl ks.length) (g:=mgName 9) (m:=YaC) (N:=ks.length) (ρ:=[v0,v1,v2,v3,some (encSys tb),v5,v6,v7,v8,v9]) (st:=s) ks P.ref
  (fun i ρ s'=>∃v9,ρ=[v0,v1,v2,v3,some (encSys tb),v5,v6,v7,v8,v9]/\Grow s s') rfl (fun i ρ s' hi ⟨v9,q1,q2⟩=>nxK (Yd (q2.get hk))) ⟨v9,rfl,Grow.refl⟩
  (fun i hi ρ s1 ⟨v9,q1,q2⟩=>by
   subst q1
   refine⟨_,rfl,?_⟩
   obtain⟨fs,f1,f2,f3⟩:=(hp _ (List.getElem_mem hi)).grow q2
   generalize ks[i]=k at f1
   unfold YaC
   walk_at "ev"
   rw[Vh (Yd f1)]
   walk_at "ev"
   obtain⟨s2,t2,g2⟩:=YiG (st:=s1) hall h6 hlet hl A f3 f2
   rw[t2]
   walk_at "ev"
   have hnb:isNotBP (.bl false) (.bl false) s2=some (.bl false,s2):=rfl
   rw[hnb]
   walk_at "ev"
   exact⟨_,_,rfl,_,rfl,q2.trans g2⟩)
 exact⟨v9',s',by rw[e1,e2]⟩
theorem holds:Law 63 Ydl:=fun ns hl=>by
 unfold Ydl YgV
 generalize hE1:(eTupL (lComp (iVal (eVar 4)) 2 [] (mgTup 2 (mgCons (mgName 0) (mgCons (mgName 1) mgNil))) nTrue (eTup (aCons (eSl (eVar 0) oNone (oSome (eNeg (eC (.int 1))))) (aCons (eVar 1) aNil)))))=E1
 generalize hst0:[O.ro (ns.map P.int)]=st0
 have k0:st0[0]?=some (.ro (ns.map P.int)):=by rw[<-hst0];rfl
 obtain⟨tb,names,S,w,kw,re,rw',rs,s1,t1,g1,q1,q2,q3,n1,n2,n3,htb,hS,hSl,hlow,W,M⟩:=Yh5 (a:=3) (b:=6) (c:=3) (d:=2) (st:=st0) k0 hl (by omega) (by omega) (by omega) (by omega)
 have t1':Y5 [.ref 0,.tup [.int 3,.int 6,.int 3,.int 2,.int 36]] st0=.ok (.tup [.ref re,.ref rw',.ref rs]) s1:=t1
 walk_at "ev"
 rw[t1']
 walk_at "ev"
 have k1:=g1.get k0
 have h6:=M.len
 have hlet:∀c∈allL tb,isLet c=true:=fun c hc=>by
  unfold isLet
  rcases M.lets c hc with h|h
  ·rw[h];rfl
  ·rw[W.up c h,Bool.or_true]
 have htwo:∀c,isUp c=true->(allL tb).count c<=2:=fun c hc=>by
  by_cases h:c∈names
  ·exact M.two c h
  ·have:c∉allL tb:=fun z=>by
    rcases M.lets c z with h2|h2
    ·rw[VM hc]at h2;cases h2
    ·exact h h2
   rw[List.count_eq_zero.mpr this]
   omega
 have A:Ans (fun c=>if c∈names then w c else [c]) tb:=⟨fun c hc=>if_neg fun z=>(by rw[VM (W.up c z)]at hc;cases hc),fun e he=>M.ans e he⟩
 have hall:=Jm M.each
 rw[Vh (Yd q1)]
 walk_at "ev"
 have henc:P.tup (tb.map encEq)=encSys tb:=rfl
 rw[henc]
 have hsl:∀s:Stor,s[0]?=some (.ro (ns.map P.int))->∀b:Nat,slP (.ref 0) none (some (b:Int)) s=some (.ref s.length,s++[.lst ((ns.take b).map P.int)]):=fun s hs b=>by
  rw[Yjg hs (by rw[List.length_map];omega),Yhy,List.map_take]
 have hs60:=hsl s1 k1 60
 rw[show ((60:Nat):Int)=60 from rfl]at hs60
 rw[hs60]
 walk_at "ev"
 obtain⟨r5,k5,s2,t2,q5,l5,R5,g2⟩:=Yaw (tb:=tb) (rc:=s1.length) (cs:=ns.take 60) (st:=s1++[.lst ((ns.take 60).map P.int)]) Ye (by rw[List.length_take];omega) h6 M.each hlet htwo
 rw[t2]
 walk_at "ev"
 have g02:Grow s1 s2:=Grow.one.trans g2
 rw[Yw (Yd q5)]
 walk_at "ev"
 rw[List.length_map]
 rw[Zx (g:=mgName 0) r5 encR (fun r=>!r.2.isEmpty) encR rfl (fun i hi=>nxK (Yd q5)) (by omega) (fun r hr=>⟨[some (encR r)],rfl,by
  have h1:ixP (encR r) (.int 1) s2=some (encSys r.2,s2):=YdS
  walk_at "ev"
  rw[h1]
  walk_at "ev"
  rw[YfJ]
  rfl,fun _=>rfl⟩)]
 walk_at "ev"
 generalize hs3:s2++[O.lst ((r5.filter fun r=>!r.2.isEmpty).map encR)]=s3
 have g3:Grow s2 s3:=by rw[<-hs3];exact Grow.one
 have q6:s3[s2.length]?=some (.lst ((r5.filter fun r=>!r.2.isEmpty).map encR)):=by rw[<-hs3];exact Ye
 have l6:=List.length_filter_le (fun r:Rom=>!r.2.isEmpty) r5
 have R6:∀r∈r5.filter (fun r=>!r.2.isEmpty),Ro 60 r.1 r.2:=fun r hr=>R5 r (List.mem_filter.mp hr).1
 obtain⟨r7,k7,s4,t4,q7,l7,R7,g4⟩:=Yf5 q6 (by omega) R6
 rw[t4]
 walk_at "ev"
 have a1:=fun {v0 v1 v2 v3 v5 v6 v7 v8 v9:Option P}=>otherE (st:=s4) (v0:=v0) (v1:=v1) (v2:=v2) (v3:=v3) (v5:=v5) (v6:=v6) (v7:=v7) (v8:=v8) (v9:=v9) M.each h6
 rw[hE1]at a1
 rw[a1]
 walk_at "ev"
 have k4:s4[0]?=some (.ro (ns.map P.int)):=g4.get (g3.get (g02.get k1))
 have hs20:=hsl s4 k4 20
 rw[show ((20:Nat):Int)=20 from rfl]at hs20
 rw[hs20]
 walk_at "ev"
 generalize htb':(tb.map fun e=>(e.1.dropLast,e.2))=tb'
 have sub:(allL tb').Sublist (allL tb):=by rw[<-htb'];exact YjD tb
 obtain⟨r8,k8,s5,t5,q8,l8,R8,g5⟩:=Yaw (tb:=tb') (rc:=s4.length) (cs:=ns.take 20) (st:=s4++[.lst ((ns.take 20).map P.int)]) Ye (by rw[List.length_take];omega) (by rw[<-htb',List.length_map];exact h6)
  (fun e he=>by
   rw[<-htb']at he
   obtain⟨d,hd,rfl⟩:=List.mem_map.mp he
   have:=M.each d hd
   rw[List.length_dropLast]
   dsimp only
   omega) (fun c hc=>hlet c (sub.subset hc)) (fun c hc=>Nat.le_trans (sub.count_le c) (htwo c hc))
 rw[t5]
 walk_at "ev"
 have g45:Grow s4 s5:=Grow.one.trans g5
 have q75:=g45.get q7
 rw[Wj q75 q8 (by rw[List.length_map,List.length_map];omega)]
 walk_at "ev"
 generalize hs6:s5++[O.lst (r7.map encR++r8.map encR)]=s6
 have g6:Grow s5 s6:=by rw[<-hs6];exact Grow.one
 have q9:s6[s5.length]?=some (.lst ((r7++r8).map encR)):=by rw[<-hs6,List.map_append];exact Ye
 rw[YjZ (g6.get q75) (by omega)]
 walk_at "ev"
 generalize hs7:s6++[O.lst (r7.reverse.map encR)]=s7
 have g7:Grow s6 s7:=by rw[<-hs7];exact Grow.one
 have q10:s7[s6.length]?=some (.lst (r7.reverse.map encR)):=by rw[<-hs7];exact Ye
 have hL:(s7++[O.lst [P.ref k5,P.ref s2.length,P.ref k7,P.ref s5.length,P.ref s6.length]])[s7.length]?=some (.lst ([k5,s2.length,k7,s5.length,s6.length].map P.ref)):=Ye
 rw[Yw (Yd hL)]
 walk_at "ev"
 have g8:Grow s7 (s7++[O.lst [P.ref k5,P.ref s2.length,P.ref k7,P.ref s5.length,P.ref s6.length]]):=Grow.one
 obtain⟨v9,s9,e9⟩:=asked (v0:=some (.ref 0)) (v1:=some (.ref re)) (v2:=some (.ref rw')) (v3:=some (.ref rs)) (v5:=some (.ref k5)) (v6:=some (.ref s2.length)) (v7:=some (.ref k7)) (v8:=some (encSys tb')) (v9:=none) (by omega) (by omega) hlet (fun e he=>by have:=M.each e he;omega) A hL (fun k hk=>by
  have m200:∀{n:Nat}{fs:List Rom},n<=200->(∀r∈fs,Ro n r.1 r.2)->∀r∈fs,Ro 200 r.1 r.2:=fun h f r hr=>(f r hr).more h
  simp only[List.mem_cons,List.not_mem_nil,or_false]at hk
  rcases hk with rfl|rfl|rfl|rfl|rfl
  ·exact⟨r5,g8.get (g7.get (g6.get (g45.get (g4.get (g3.get q5))))),by omega,m200 (by omega) R5⟩
  ·exact⟨_,g8.get (g7.get (g6.get (g45.get (g4.get q6)))),by omega,m200 (by omega) R6⟩
  ·exact⟨r7,g8.get (g7.get (g6.get q75)),by omega,R7⟩
  ·refine⟨_,g8.get (g7.get q9),by rw[List.length_append];omega,fun r hr=>?_⟩
   rcases List.mem_append.mp hr with h|h
   ·exact R7 r h
   ·exact (R8 r h).more (by omega)
  ·exact⟨_,g8.get q10,by rw[List.length_reverse];omega,fun r hr=>R7 r (List.mem_reverse.mp hr)⟩)
 have e9':forN (srcK s7.length 5) (mgName 9) YaC 5 0 [some (.ref 0),some (.ref re),some (.ref rw'),some (.ref rs),some (encSys tb),some (.ref k5),some (.ref s2.length),some (.ref k7),some (encSys tb'),none] (s7++[O.lst [P.ref k5,P.ref s2.length,P.ref k7,P.ref s5.length,P.ref s6.length]])=.nx _ s9:=e9
 rw[e9']
 walk_at "ev"
 exact⟨_,rfl⟩
end G
def PySem.W.Fast.tw8277472799367345827:Unit:=()
def PySem.W.Fast.tw4121042518502174558:Unit:=()
def PySem.W.Fast.tw18344699082977735612:Unit:=()
def PySem.W.Fast.tw16134609479129303238:Unit:=()
def PySem.W.Fast.tw2064251645039558361:Unit:=()
def PySem.W.Fast.tw12987380337192666702:Unit:=()
def PySem.W.Fast.tw3615085131910829764:Unit:=()
def PySem.W.Fast.tw5868504721393904313:Unit:=()
def PySem.W.Fast.tw18442692971198696890:Unit:=()
def PySem.W.Fast.tw2289949478212263505:Unit:=()
def PySem.W.Fast.tw9500217631700638252:Unit:=()
def PySem.W.Fast.tw15823343699896424442:Unit:=()
def PySem.W.Fast.tw3860909705122790271:Unit:=()
def PySem.W.Fast.tw9539121093071490150:Unit:=()
def PySem.W.Fast.tw14823823856042590635:Unit:=()
def PySem.W.Fast.tw15307331877559642707:Unit:=()
def PySem.W.Fast.tw2918303166272500633:Unit:=()
def PySem.W.Fast.tw4278690502415962670:Unit:=()
def PySem.W.Fast.tw8025535033426138479:Unit:=()
def PySem.W.Fast.tw11048960823574083196:Unit:=()
def PySem.W.Fast.tw14711542698777992240:Unit:=()
def PySem.W.Fast.tw4239036718017475182:Unit:=()
def PySem.W.Fast.tw1648851619939067459:Unit:=()
def PySem.W.Fast.tw10989557550432755315:Unit:=()
def PySem.W.Fast.tw13337348413631160078:Unit:=()
def PySem.W.Fast.tw17980660886474427591:Unit:=()
def PySem.W.Fast.tw7146726217979820906:Unit:=()
def PySem.W.Fast.tw2167048323855204468:Unit:=()
def PySem.W.Fast.tw4699899140337530912:Unit:=()
def PySem.W.Fast.tw2750578583649710601:Unit:=()
def PySem.W.Fast.tw14974133725818925780:Unit:=()
def PySem.W.Fast.tw3305345567882907775:Unit:=()
def PySem.W.Fast.tw3263343116745261292:Unit:=()
def PySem.W.Fast.tw11276701606811983001:Unit:=()
def PySem.W.Fast.tw5196525156505126652:Unit:=()
def PySem.W.Fast.tw16555195145783283307:Unit:=()
def PySem.W.Fast.tw17529212544812276325:Unit:=()
def PySem.W.Fast.tw9549073769105281977:Unit:=()
def PySem.W.Fast.tw4850911907289416533:Unit:=()
def PySem.W.Fast.tw9492121672779571870:Unit:=()
def PySem.W.Fast.tw14238770147444301439:Unit:=()
def PySem.W.Fast.tw7892741740187119706:Unit:=()
def PySem.W.Fast.tw15224396916457362234:Unit:=()
def PySem.W.Fast.tw13273075944191291311:Unit:=()
def PySem.W.Fast.tw4283353795764882085:Unit:=()
def PySem.W.Fast.tw7533126473625268851:Unit:=()
def PySem.W.Fast.tw1756411165320383768:Unit:=()
def PySem.W.Fast.tw12507283420088134771:Unit:=()
def PySem.W.Fast.tw444597368717055031:Unit:=()
def PySem.W.Fast.tw10019289130339213302:Unit:=()
def PySem.W.Fast.tw15206817765938657293:Unit:=()
def PySem.W.Fast.tw9292788634510167246:Unit:=()
def PySem.W.Fast.tw8938667577894006501:Unit:=()
def PySem.W.Fast.tw7436655526747726182:Unit:=()
def PySem.W.Fast.tw2170070382922975698:Unit:=()
def PySem.W.Fast.tw11863766820498496399:Unit:=()
open PySem PySem.W PyProof.Rows
set_option maxRecDepth 100000 in
set_option maxHeartbeats 0 in
theorem PySem.Challenge.cw_gapwords_k36_whole_no_paper_against_answ_holds : PySem.Challenge.rw_gapwords_k36_whole_no_paper_against_answ.Holds := by
 w_on; o_law; k_head; (case hw => w_witness2)
 k_fill
 refine G.walk rfl rfl (fun w h Y => PySem.W.kIn_of Y) (fun w => ?S) G.holds
 case S =>
  refine' ⟨(Mi.DefAt.of ?_ ?_ ?_ ?_), (Mi.DefAt.of ?_ ?_ ?_ ?_), (Mi.DefAt.of ?_ ?_ ?_ ?_), (Mi.DefAt.of ?_ ?_ ?_ ?_), (Mi.DefAt.of ?_ ?_ ?_ ?_), (Mi.DefAt.of ?_ ?_ ?_ ?_), (Mi.DefAt.of ?_ ?_ ?_ ?_), (Mi.DefAt.of ?_ ?_ ?_ ?_), (Mi.DefAt.of ?_ ?_ ?_ ?_), (Mi.DefAt.of ?_ ?_ ?_ ?_), (Mi.DefAt.of ?_ ?_ ?_ ?_), (Mi.DefAt.of ?_ ?_ ?_ ?_), (Mi.DefAt.of ?_ ?_ ?_ ?_), (Mi.DefAt.of ?_ ?_ ?_ ?_), (Mi.DefAt.of ?_ ?_ ?_ ?_), (Mi.DefAt.of ?_ ?_ ?_ ?_), (Mi.DefAt.of ?_ ?_ ?_ ?_), (Mi.DefAt.of ?_ ?_ ?_ ?_), (Mi.DefAt.of ?_ ?_ ?_ ?_), (Mi.DefAt.of ?_ ?_ ?_ ?_), (Mi.DefAt.of ?_ ?_ ?_ ?_), (Mi.DefAt.of ?_ ?_ ?_ ?_), (Mi.DefAt.of ?_ ?_ ?_ ?_), (Mi.DefAt.of ?_ ?_ ?_ ?_), (Mi.DefAt.of ?_ ?_ ?_ ?_), (Mi.DefAt.of ?_ ?_ ?_ ?_), (Mi.DefAt.of ?_ ?_ ?_ ?_), (Mi.DefAt.of ?_ ?_ ?_ ?_), (Mi.DefAt.of ?_ ?_ ?_ ?_), (Mi.DefAt.of ?_ ?_ ?_ ?_), (Mi.DefAt.of ?_ ?_ ?_ ?_), (Mi.DefAt.of ?_ ?_ ?_ ?_), (Mi.DefAt.of ?_ ?_ ?_ ?_), (Mi.DefAt.of ?_ ?_ ?_ ?_), ?_, ?_, ?_, ?_, ?_, ?_, ?_, ?_, ?_, ?_⟩
  any_goals (first | k_is | k_exc | kit_is)
  all_goals kernel_rfl
#print axioms PySem.Challenge.cw_gapwords_k36_whole_no_paper_against_answ_holds
