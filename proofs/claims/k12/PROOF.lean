import PyProof.Rows.All
import Wide.All
import OpenK.AllK
import Wide.FinOn
import Lean
import PyProof.EqAt
import PyProof.EqKinds
import PyProof.TupleCall
import PyProof.SeqI3
import KE.KTupSum
import KE.LcSums
import KE.KDictSum
import KE.KTryMore
import PyProof.ExcBaseAll.ValueError
import OpenK.KOwn
import KE.RegKTryMore
import KE.RegKIsAll
import PyProof.ListMulRoad
import PyProof.Draws
import PyProof.EnumStmt
import PyProof.EnumMake
import PyProof.StrLawsTight
import PyProof.StrLawsChain
import PyProof.Rows.StrNews
import PyProof.Rows.StrJoin2
import PyProof.Rows.EnumRows
import PyProof.FString
import PyProof.SetKind
import PyProof.Rows.SetFrom
import PySem.Challenge.RW_leaperwalk_k12_most_pairs
set_option Elab.async false
set_option linter.all false
set_option maxRecDepth 100000
section
open PySem PySem.Spec PySem.W PySem.Calls PyProof.Rows
abbrev Ka:=PySem.W.Frag
abbrev Kb:=@wpAny_bind
abbrev Kc:=@wpAny_pure
abbrev Kd:=@wpAny_mono
abbrev Ke:=@List.mem_cons_self
abbrev Kf:=@List.mem_cons_of_mem
abbrev Kg:=@Nat.le_refl
abbrev Kh:=@Nat.le_trans
abbrev Ki:=@Nat.ne_of_lt
abbrev Kj:=@Nat.lt_of_lt_of_le
abbrev Kk:=@Nat.ne_of_gt
abbrev Kl:=@Nat.le_succ
abbrev Km:=@Heap.lt_size
abbrev Kn:=@Heap.get?_push_of_some
abbrev Ko:=@Bool.false_ne_true
abbrev Kp:=@Option.some.inj
abbrev Kq:=@List.mem_append_right
abbrev Kr:=@List.mem_append_left
abbrev Kv:=@List.getElem_mem
abbrev Kw:=@List.filter_sublist
abbrev Kx:=@PySem.W.mg_of
abbrev Ky:=@PySem.W.mg_none_of
abbrev Kz:=@PassesOwn.never
abbrev KA:=@List.mem_of_getElem?
abbrev KC:=@List.length_filter_le
abbrev KG:=@absurd
abbrev KH:=@Nat.lt_succ_of_lt
abbrev KI:=@sizeLine_eq
abbrev KJ:=@PySem.boot_len
abbrev KKq:=@decide_eq_false
end
theorem jo1{a b:Type}{x:Option a}{f:a->Option b}{y:b}:x.bind f=some y↔∃z,x=some z/\f z=some y:=Option.bind_eq_some_iff
theorem jo2{a b:Type}{x:Option a}{f:a->b}{y:b}:x.map f=some y↔∃z,x=some z/\f z=y:=Option.map_eq_some_iff
namespace L2.DK
open PySem
section
variable {prog:Program} {w:World} {K:Type} [DecidableEq K] (knd:KeyKind prog w K)
inductive Items2 (h:Heap):List (List K)->List Value->Prop
 |nil:Items2 h [] []
 |cons {ks:List K} {b:Addr} {kss:List (List K)} {vs:List Value} (x:IsTupleKey knd h ks b) (t:Items2 h kss vs):Items2 h (ks::kss) (.ref b::vs)
noncomputable def IsTup2(h:Heap)(kss:List (List K))(a:Addr):Prop:=∃o items n,h.get? a=some o/\o.cls= .type "tuple"/\o.data= .seq items n/\Items2 knd h kss items.toList
variable {knd}
theorem Items2.inj{h:Heap}{x y:List (List K)}{vs:List Value}(hx:Items2 knd h x vs)(hy:Items2 knd h y vs):x=y:=by
 induction hx generalizing y with
 |nil=>cases hy;rfl
 |cons h1 _ ih=>cases hy with
  |cons h2 t2=>rw[h1.inj h2,ih t2]
theorem IsTup2.typeIs{s:Shared}{ks:List (List K)}{a:Addr}(x:IsTup2 knd s.heap ks a):s.TypeIs (.ref a) "tuple":=let ⟨o,_,_,ho,hc,_⟩:=x;⟨o,ho,hc⟩
theorem IsTup2.inj{h:Heap}{a:Addr}{x y:List (List K)}(hx:IsTup2 knd h x a)(hy:IsTup2 knd h y a):x=y:=by
 obtain⟨o,items,n,ho,_,hd,hi⟩:=hx;obtain⟨o',items',n',ho',_,hd',hi'⟩:=hy;obtain rfl:o=o':=Kp (ho.symm.trans ho');rw[hd] at hd';injection hd' with h1 _;subst h1;exact hi.inj hi'
theorem Items2.keeps{h h':Heap}{d:Addr}{o:Obj}{es ep}(ho:h.get? d=some o)(hd:o.data= .dict es ep)(hs:Heap.SameBut d h h'): ∀{ks:List (List K)} {vs:List Value},Items2 knd h ks vs->Items2 knd h' ks vs
 |_,_,.nil=>.nil
 |_,_,.cons x t=>.cons (x.keeps ho hd hs) (Items2.keeps ho hd hs t)
theorem IsTup2.keeps{h h':Heap}{ks:List (List K)}{a d:Addr}{o:Obj}{es ep}(x:IsTup2 knd h ks a)(ho:h.get? d=some o)(hd:o.data= .dict es ep)(hs:Heap.SameBut d h h'):IsTup2 knd h' ks a:=by
 obtain⟨o',items,n,ho',hc,hd',hi⟩:=x
 have hne:a≠d:=by
  rintro rfl;obtain rfl:o'=o:=Kp (ho'.symm.trans ho);rw[hd] at hd';exact nomatch hd'
 exact⟨o',items,n,(hs.2 a hne).trans ho',hc,hd',hi.keeps ho hd hs⟩
noncomputable def JB(knd:KeyKind prog w K)(kss:List (List K)):Int:=reduceHash (Builtin.Tuple.tupleHashOf (kss.map (tupleKeyHash knd)))
noncomputable def ja(kss:List (List K)):Nat:=(kss.map fun ks=>ks.length+1).sum
variable {A:Around} {E:Value->Shared->Prop} {s:Shared}
theorem zeB{kss:List (List K)}{a:Addr}{Q:Int->Shared->Prop}(hu:A.units+1<cLine)(hk:IsTup2 knd s.heap kss a)(h:Q (JB knd kss) { s with toks:=s.toks+(ja kss+1) }):
  wpAny (model prog w) A (pyHash (.ref a)) Q E s:=by
 have hT:=hk.typeIs;obtain⟨o,items,n,ho,_,hd,hi⟩:=hk;unfold pyHash
 first|unfold pyHashByItsType|skip
 first|refine Kb (wpAny_cRoomFor_or (.inr (by omega)) ?_)|skip
 refine Kb (wpAny_specialOf hT F.slot_tuple_hash.lookup ?_);show wpAny _ _ (if (some (Value.builtin "tuple.__hash__")==some Value.none)=true then _ else _) Q E s;rw[if_neg (by rw[beq_builtin_none];exact Ko)];refine Kb (wpAny_specialOf hT F.slot_tuple_hash.lookup ?_);show wpAny _ _ (callSpecialIfBoundUnlessNone? (.ref a) "__hash__" _ >>= _) Q E s;refine Kb (wpAny_callSpecialIfBoundUnlessNone?_slot hT F.slot_tuple_hash (wpAny_call_entry F.slot_tuple_hash hT F.entry_tuple_hash ?_ (F.args_tuple_hash_1 _)));show wpAny _ _ (Builtin.Tuple.tupleItemsOf (.ref a) >>= _) _ _ s;refine Kb (wpAny_tupleItemsOf ho hd ?_);refine Kb ?_;rw[<-Array.forIn_toList]
 refine wpAny_forIn_list _
  (fun zK (b:Array Int) s'=>∃done left,kss=done++left/\Items2 knd s.heap left zK/\b.toList=done.map (tupleKeyHash knd)/\s'={ s with toks:=s.toks+ja done })
  _ ?_ ?_ _ _ ⟨[],kss,rfl,hi,rfl,rfl⟩
 ·rintro x zK b s' ⟨done,left,rfl,hl,hb,rfl⟩
  cases hl with
  | @cons ks b' kss' _ h1 hl'=>
   have e:ja (done++[ks])=ja done+(ks.length+1):=by simp[ja]
   refine Kb (wpAny_pyHash_tuple (s:={ s with toks:=s.toks+ja done }) ?_ h1 ?_)
   ·exact hu
   ·first
    |exact Kc ⟨done++[ks],kss',by simp,hl',by simp[hb],by rw[e];simp[Nat.add_assoc]⟩
    |exact Kb (Kc (Kc ⟨done++[ks],kss',by simp,hl',by simp[hb],by rw[e];simp[Nat.add_assoc]⟩))
 ·rintro b s' ⟨done,left,rfl,hl,hb,rfl⟩
  cases hl;rw[List.append_nil] at h;show wpAny _ _ (retInt (Builtin.Tuple.tupleHashOf b.toList)) _ _ _;rw[hb];refine wpAny_ret_mkInt ?_;show wpAny _ _ (if (decide (-(2:Int) ^ 63<=Builtin.Tuple.tupleHashOf (done.map (tupleKeyHash knd)))&&decide (Builtin.Tuple.tupleHashOf (done.map (tupleKeyHash knd))<2 ^ 63))=true then _ else _) Q E _;unfold JB reduceHash at h;by_cases hr:(decide (-(2:Int) ^ 63<=Builtin.Tuple.tupleHashOf (done.map (tupleKeyHash knd)))&&decide (Builtin.Tuple.tupleHashOf (done.map (tupleKeyHash knd))<2 ^ 63))=true
  ·rw[if_pos hr]
   rw[if_pos hr] at h;exact Kc (by simpa [Nat.add_assoc] using h)
  ·rw[if_neg hr]
   rw[if_neg hr] at h;exact Kb (wpAny_rule (Kc (by simpa [Nat.add_assoc] using h)))
theorem zeC{x y:List (List K)}{a b:Addr}{P:Fin->Shared->Prop}(hu:A.units<cLine)(hx:IsTup2 knd s.heap x a)(hy:IsTup2 knd s.heap y b)(h:P (.done (.ret (.bool (decide (x=y))))) s):
  wpAny (model prog w) A (Builtin.«tuple.__eq__» ⟨[.ref a,.ref b],[]⟩) P E s:=by
 have hTb:=hy.typeIs;obtain⟨oa,xs,na,hoa,_,hda,hia⟩:=hx;obtain⟨ob,ys,nb,hob,_,hdb,hib⟩:=hy;show wpAny _ _ (isInstance (.ref b) (.type "tuple") >>= _) _ _ s;refine Kb (wpAny_isInstance hTb isSubtype_tuple_tuple ?_);simp only[Bool.not_true,Bool.false_eq_true,if_false];refine Kb (wpAny_tupleItemsOf hoa hda ?_);refine Kb (wpAny_tupleItemsOf hob hdb ?_);refine Kb ?_
 refine wpAny_forIn_list _
  (fun zK r s'=>r.1=none/\s'=s/\∃x' y' xs' ys',zK=List.zip xs' ys'/\Items2 knd s.heap x' xs'/\Items2 knd s.heap y' ys'/\decide (x'=y')=decide (x=y)/\(xs'.length==ys'.length)=(xs.size==ys.size))
  _ ?_ ?_ _ _ ⟨rfl,rfl,x,y,xs.toList,ys.toList,rfl,hia,hib,rfl,by simp⟩
 ·rintro⟨u,v⟩ zK r s' ⟨hr,rfl,x',y',xs',ys',hz,hx',hy',hdec,hlen⟩
  cases hx' with
  |nil=>simp at hz
  | @cons k1 u' x'' xs'' h1 hx''=>
   cases hy' with
   |nil=>simp at hz
   | @cons k2 v' y'' ys'' h2 hy''=>
    simp only[List.zip_cons_cons,List.cons.injEq,Prod.mk.injEq] at hz;obtain⟨⟨rfl,rfl⟩,rfl⟩:=hz;refine Kb (wpAny_eqBool_tuple (x:=k1) (y:=k2) hu h1 h2 ?_);by_cases hk:k1=k2
    ·subst hk
     rw[decide_eq_true rfl];simp only[Bool.not_true,Bool.false_eq_true,if_false];refine Kc ⟨rfl,rfl,x'',y'',xs'',ys'',rfl,hx'',hy'',?_,by simpa using hlen⟩;rw[<-hdec];by_cases hxy:x''=y''
     ·simp[hxy]
     ·simp[hxy]
    ·rw[KKq hk]
     simp only[Bool.not_false,if_true];have hf:decide (x=y)=false:=by rw[<-hdec];simp[hk]
     rw[hf] at h;exact Kb (Kc (Kc (Kc h)))
 ·rintro⟨r1,r2⟩ s' ⟨hr,rfl,x',y',xs',ys',hz,hx',hy',hdec,hlen⟩
  simp only at hr;subst hr;refine Kc ?_
  have hfin:(xs.size==ys.size)=decide (x=y):=by
   rw[<-hdec,<-hlen]
   cases hx' with
   |nil=>
    cases hy' with
    |nil=>simp
    |cons _ _=>simp
   |cons _ _=>
    cases hy' with
    |nil=>simp
    |cons _ _=>simp at hz
  show P (.done (.ret (.bool (xs.size==ys.size)))) s';rw[hfin];exact h
theorem zeD{x y:List (List K)}{a b:Addr}{Q:Bool->Shared->Prop}(hu:A.units+1<cLine)(hx:IsTup2 knd s.heap x a)(hy:IsTup2 knd s.heap y b)(h:Q (decide (x=y)) s):
  wpAny (model prog w) A (eqBool (.ref a) (.ref b)) Q E s:=by
 unfold eqBool
 try with_reducible refine wpAny_holding ?_
 show wpAny _ _ (if (Value.ref a==Value.ref b)=true then _ else _) Q E s;by_cases hab:(Value.ref a==Value.ref b)=true
 ·rw[if_pos hab]
  have e:a=b:=by have:=eq_of_beq hab;injection this
  subst e;obtain rfl:=hx.inj hy;exact Kb (wpAny_rule (Kc (by simpa using h)))
 ·rw[if_neg hab]
  exact Kb (wpAny_richCompare_same_room (op:=.Eq) hx.typeIs hy.typeIs F.slot_tuple_eq
   (wpAny_call_entry F.slot_tuple_eq hx.typeIs F.entry_tuple_eq (zeC hu hx hy ⟨_,rfl,(fun e=>nomatch e),wpAny_truthy_bool h⟩) (F.args_tuple_eq_2 _ _)) (by omega))
theorem zeE{n:Nat}{ks:List K}{a:Addr}{Q:Bool->Shared->Prop}(hk:IsTupleKey knd s.heap ks a)(h:Q true s):wpAny (model prog w) A (eqIsQuiet (n+1) (.ref a)) Q E s:=by
 have hT:=hk.typeIs;obtain⟨o,items,n',ho,_,hd,hi⟩:=hk;unfold eqIsQuiet;refine Kb (wpAny_specialOf hT F.slot_tuple_eq.lookup ?_);show wpAny _ _ (isInstance (.ref a) (.type "tuple") >>= _) _ _ s;refine Kb (wpAny_isInstance hT isSubtype_tuple_tuple ?_);simp only[Bool.not_true,Bool.false_eq_true,if_false];refine Kb (wpAny_seqItems ho hd ?_);refine Kb ?_;show wpAny _ _ (forIn items _ _) _ _ s;rw[<-Array.forIn_toList];refine wpAny_forIn_list _ (fun zK r s'=>r.1=none/\s'=s/\∀v∈zK,carriedByValue v=true) _ ?_ ?_ _ _ ⟨rfl,rfl,hi.byValue⟩
 ·rintro v zK r s' ⟨hr,rfl,hall⟩
  rw[eqIsQuiet_byValue _ (hall v Ke)];refine Kb (Kc ?_);simp only[Bool.not_true,Bool.false_eq_true,if_false];exact Kc ⟨rfl,rfl,fun u hu'=>hall u (Kf _ hu')⟩
 ·rintro⟨r1,r2⟩ s' ⟨hr,rfl,_⟩
  simp only at hr;subst hr;exact Kc h
theorem zeF{kss:List (List K)}{a:Addr}{Q:Bool->Shared->Prop}(hk:IsTup2 knd s.heap kss a)(h:Q true s):wpAny (model prog w) A (eqIsQuiet 8 (.ref a)) Q E s:=by
 have hT:=hk.typeIs;obtain⟨o,items,n',ho,_,hd,hi⟩:=hk;unfold eqIsQuiet;refine Kb (wpAny_specialOf hT F.slot_tuple_eq.lookup ?_);show wpAny _ _ (isInstance (.ref a) (.type "tuple") >>= _) _ _ s;refine Kb (wpAny_isInstance hT isSubtype_tuple_tuple ?_);simp only[Bool.not_true,Bool.false_eq_true,if_false];refine Kb (wpAny_seqItems ho hd ?_);refine Kb ?_;show wpAny _ _ (forIn items _ _) _ _ s;rw[<-Array.forIn_toList];refine wpAny_forIn_list _ (fun zK r s'=>r.1=none/\s'=s/\∃left,Items2 knd s.heap left zK) _ ?_ ?_ _ _ ⟨rfl,rfl,kss,hi⟩
 ·rintro v zK r s' ⟨hr,rfl,left,hl⟩
  cases hl with
  |cons h1 hl'=>
   refine Kb (zeE (n:=6) h1 ?_);simp only[Bool.not_true,Bool.false_eq_true,if_false];exact Kc ⟨rfl,rfl,_,hl'⟩
 ·rintro⟨r1,r2⟩ s' ⟨hr,rfl,_⟩
  simp only at hr;subst hr;exact Kc h
end
noncomputable def deepKind{prog:Program}{w:World}{K:Type}[DecidableEq K](knd:KeyKind prog w K):HeapKind prog w (List (List K)) where
 is:=IsTup2 knd
 hash:=JB knd
 draws:=fun kss=>ja kss+1
 room:=fun A=>A.units+1<cLine
 inj:=fun hx hy=>hx.inj hy
 keeps:=fun x ho hd hs=>x.keeps ho hd hs
 pyHash:=fun hu hk h=>zeB hu hk h
 eqBool:=fun hu hx hy h=>zeD hu hx hy h
 quiet:=fun hk h=>zeF hk h
end L2.DK
set_option Elab.async false
set_option maxRecDepth 100000
namespace L2
open PySem PySem.Spec PyProof.Rows
noncomputable abbrev zy:=Sum Int Str
noncomputable def jb:zy->Value->Bool
 | .inl k,v=>Value.isInt k v
 | .inr x,v=>Value.isStrOf x v
noncomputable def zeG(w:World):zy->Int
 | .inl k=>hashInt k
 | .inr x=>hashStr w x
theorem wR: ∀{k:zy} {v:Value},jb k v=true->(∃i t,k=Sum.inl i/\v=Value.int i t)\/(∃x t,k=Sum.inr x/\v=Value.str x t)
 | .inl i,v,h=>by
  obtain⟨t,e⟩:=Value.isInt_shape (k:=i) (v:=v) h;exact .inl ⟨i,t,rfl,e⟩
 | .inr x,v,h=>by
  obtain⟨t,e⟩:=Value.isStrOf_shape (x:=x) (v:=v) h;exact .inr ⟨x,t,rfl,e⟩
theorem zeH(i:Int)(t:Tok):jb (.inl i) (.int i t)=true:=by simp[jb,Value.isInt]
theorem zeI(x:Str)(t:Tok):jb (.inr x) (.str x t)=true:=by simp[jb,Value.isStrOf]
theorem zeJ(a b:Int):decide ((Sum.inl a:zy)=Sum.inl b)=(a==b):=by
 by_cases e:a=b
 ·subst e;simp
 ·have h: ¬(Sum.inl a:zy)=Sum.inl b:=fun q=>e (Sum.inl.inj q)
  rw[KKq h];exact (beq_eq_false_iff_ne.mpr e).symm
theorem zeK(a b:Str):decide ((Sum.inr a:zy)=Sum.inr b)=decide (a=b):=by
 by_cases e:a=b
 ·subst e;simp
 ·have h: ¬(Sum.inr a:zy)=Sum.inr b:=fun q=>e (Sum.inr.inj q)
  rw[KKq h,KKq e]
theorem zeL(a:Int)(b:Str):decide ((Sum.inl a:zy)=Sum.inr b)=false:=KKq (fun q=>nomatch q)
theorem zeM(a:Str)(b:Int):decide ((Sum.inr a:zy)=Sum.inl b)=false:=KKq (fun q=>nomatch q)
noncomputable def xg(prog:Program)(w:World):PySem.KeyKind prog w zy where
 is:=jb
 hash:=zeG w
 inj:=fun v a b ha hb=>by
  rcases wR ha with ⟨i,t,rfl,rfl⟩|⟨x,t,rfl,rfl⟩
  ·rcases wR hb with ⟨j,u,rfl,e⟩|⟨y,u,rfl,e⟩
   ·injection e with e1 _;rw[e1]
   ·exact nomatch e
  ·rcases wR hb with ⟨j,u,rfl,e⟩|⟨y,u,rfl,e⟩
   ·exact nomatch e
   ·injection e with e1 _;rw[e1]
 byValue:=fun k v h=>by
  rcases wR h with ⟨i,t,rfl,rfl⟩|⟨x,t,rfl,rfl⟩<;>rfl
 pyHash:=fun hv h=>by
  rcases wR hv with ⟨i,t,rfl,rfl⟩|⟨x,t,rfl,rfl⟩
  ·exact wpAny_pyHash_int h
  ·exact wpAny_pyHash_str h
 eqBool:=fun hu hv h=>by
  rcases wR hu with ⟨i,t,rfl,rfl⟩|⟨x,t,rfl,rfl⟩
  ·rcases wR hv with ⟨j,u,rfl,rfl⟩|⟨y,u,rfl,rfl⟩
   ·rw[zeJ] at h;exact wpAny_eqBool_int h
   ·rw[zeL] at h;exact SeqAt.EqAt.int_str i t y u _ _ _ _ h
  ·rcases wR hv with ⟨j,u,rfl,rfl⟩|⟨y,u,rfl,rfl⟩
   ·rw[zeM] at h;exact SeqAt.EqAt.str_int x t j u _ _ _ _ h
   ·rw[zeK] at h;exact wpAny_eqBool_str h
 «strs»:=fun k x t v h=>by
  rcases wR h with ⟨i,u,rfl,e⟩|⟨y,u,rfl,e⟩
  ·exact nomatch e
  ·injection e with e1 _
   subst e1;cases v<;>rfl
theorem zeN(prog:Program)(w:World)(i:Int)(t:Tok):(xg prog w).is (.inl i) (.int i t)=true:=zeH i t
theorem zeO(prog:Program)(w:World)(x:Str)(t:Tok):(xg prog w).is (.inr x) (.str x t)=true:=zeI x t
end L2
namespace L2
open PySem PySem.Spec PyProof.Rows
inductive V where
 |non|bl (b:Bool)|int (i:Int)|str (x:Str)|byt (b:Array UInt8)|flt (b:UInt64)|ref (a:Addr)|ty (n:String)
 deriving DecidableEq
noncomputable def RelV:V->Value->Prop
 | .non,u=>u=Value.none
 | .bl b,u=>u=Value.bool b
 | .int i,u=>∃t,u=Value.int i t
 | .str x,u=>∃t,u=Value.str x t
 | .byt b,u=>∃t,u=Value.bytes b t
 | .flt b,u=>∃t,u=Value.float b t
 | .ref a,u=>u=Value.ref a
 | .ty n,u=>u=Value.type n
noncomputable abbrev Vals:List V->List Value->Prop:=Paired RelV
theorem Vals.length{xs:List V}{us:List Value}(r:Vals xs us):xs.length=us.length:=Paired.length r
theorem Vals.get: ∀{xs:List V} {us:List Value} {i:Nat} {x:V},Vals xs us->xs[i]? =some x->∃u,us[i]? =some u/\RelV x u
 |_,_,_,_,.nil,e=>by simp at e
 |_,_,0,_,.cons r _,e=>by simp at e;subst e;exact⟨_,rfl,r⟩
 |_,_,i+1,x,.cons _ t,e=>by
  obtain⟨u,h1,h2⟩:=Vals.get (i:=i) (x:=x) t (by simpa using e);exact⟨u,by simpa using h1,h2⟩
theorem Vals.set{x:V}{u:Value}(r:RelV x u): ∀{xs:List V} {us:List Value} (i:Nat),Vals xs us->Vals (xs.set i x) (us.set i u)
 |_,_,_,.nil=>.nil
 |_,_,0,.cons _ t=>.cons r t
 |_,_,i+1,.cons q t=>.cons q (Vals.set r i t)
theorem Vals.append: ∀{xs ys:List V} {us ws:List Value},Vals xs us->Vals ys ws->Vals (xs++ys) (us++ws)
 |_,_,_,_,.nil,s=>s
 |_,_,_,_,.cons r t,s=>.cons r (Vals.append t s)
theorem Vals.take: ∀{xs:List V} {us:List Value} (n:Nat),Vals xs us->Vals (xs.take n) (us.take n)
 |_,_,0,_=>.nil
 |_,_,_+1,.nil=>.nil
 |_,_,n+1,.cons r t=>.cons r (Vals.take n t)
theorem Vals.drop: ∀{xs:List V} {us:List Value} (n:Nat),Vals xs us->Vals (xs.drop n) (us.drop n)
 |_,_,0,r=>r
 |_,_,_+1,.nil=>.nil
 |_,_,n+1,.cons _ t=>Vals.drop n t
noncomputable def RelO:Option V->Option Value->Prop
 |some v,some u=>RelV v u
 |none,none=>True
 |_,_=>False
noncomputable def KV{κ:Type}:List (κ×V)->List (κ×Value)->Prop:=Paired fun (p:κ×V) (q:κ×Value)=>p.1=q.1/\RelV p.2 q.2
noncomputable def kV:zy->V
 | .inl i=>.int i
 | .inr x=>.str x
inductive HO where
 |lst (xs:List V)
 |tup (xs:List V)
 |dK (kvs:List (zy×V))|dT (kvs:List (List zy×V))
 |dD (kvs:List (List (List Int)×V))
 |set (S:Int->Bool) (n:Nat)
 |ins (C dx:Addr) (fs:List (Str×V))
 |own (x:Addr)
 |xd (fs:List (Str×V))
 |met (f x:Addr)
 |rng (lo hi:Int)
 |frz (o:Obj) (u:HO)
 |tbl (ps:Array Value)
 |ext (φ:Heap->Prop)
noncomputable abbrev Hp:=Addr->Option HO
noncomputable def zL(H:Hp)(a:Addr)(o:HO):Hp:=fun b=>if b=a then some o else H b
theorem xI{H:Hp}{a:Addr}{o:HO}:zL H a o a=some o:=by unfold zL;rw[if_pos rfl]
theorem yp{H:Hp}{a b:Addr}{o:HO}(h:b≠a):zL H a o b=H b:=by unfold zL;rw[if_neg h]
theorem qu{H:Hp}{a b:Addr}{o u:HO}(h:H a=some o)(h':H b=some u)(d:o≠u):a≠b:=by
 intro e;subst e;rw[h] at h';exact d (Kp h')
theorem jD{H:Hp}{a b:Addr}{o:HO}(h:H a=some o)(h':H b=none):a≠b:=by
 intro e;subst e;rw[h] at h';cases h'
section
variable (P:Program) (w:World)
noncomputable def DKey(H:Hp)(kss:List (List Int))(b:Addr):Prop:=∃vs,H b=some (.tup vs)/\Paired (fun (ks:List Int) (v:V)=>∃c,v= .ref c/\H c=some (.tup (ks.map V.int))) kss vs
noncomputable def ObjOk(H:Hp)(h:Heap)(a:Addr):HO->Prop
 | .lst xs=>xs.length<=sizeLine/\∃(its:List Value) (n:Nat),Vals xs its/\h.get? a=some { cls:=.type "list",data:=.seq its.toArray n }
 | .tup xs=>xs.length<=sizeLine/\∃its:List Value,Vals xs its/\IsTup h a its.toArray
 | .dK kvs=>kvs.length<=sizeLine/\(a==sysModules)=false/\∃vs,KV kvs vs/\h.DictOf (xg P w) a vs
 | .dT kvs=>kvs.length<=sizeLine/\(a==sysModules)=false/\∃xs:List (List zy×Addr×Value),
   Paired (fun (p:List zy×V) (q:List zy×Addr×Value)=>p.1=q.1/\H q.2.1=some (.tup (p.1.map kV))/\RelV p.2 q.2.2) kvs xs/\
   ∃o es ep,h.get? a=some o/\o.ExactDict/\o.data= .dict es ep/\es.toList=xs.map (entryOfKey (tupleKind (xg P w)))/\(xs.map (·.1)).Nodup
 | .dD kvs=>kvs.length<=sizeLine/\(a==sysModules)=false/\∃xs:List (List (List Int)×Addr×Value),
   Paired (fun (p:List (List Int)×V) (q:List (List Int)×Addr×Value)=>p.1=q.1/\DKey H p.1 q.2.1/\RelV p.2 q.2.2) kvs xs/\
   ∃o es ep,h.get? a=some o/\o.ExactDict/\o.data= .dict es ep/\es.toList=xs.map (entryOfKey (L2.DK.deepKind (intKind P w)))/\(xs.map (·.1)).Nodup
 | .set S n=>h.SetOf (intKind P w) a S n
 | .ins C dx fs=>H dx=some (.own a)/\fs.length<=1000/\dx≠a/\h.get? a=some (PySem.W.instObj C dx)/\
   ∃mA,h.Ns1 dx mA/\(∀f,RelO (fs.lookup f) (mA f))/\PySem.Within mA (fs.map (·.1))
 | .own _=>∃o,h.get? a=some o
 | .xd fs=>∃mA,h.Ns1 a mA/\∀f,RelO (fs.lookup f) (mA f)
 | .rng lo hi=>∃t u v,h.get? a=some { cls:=.type "range",data:=.fields #[.int lo t,.int hi u,.int 1 v] }
 | .frz o u=>h.get? a=some o/\ObjOk H h a u
 | .tbl ps=>h.get? a=some { cls:=.none,data:=.fields ps }
 | .met f x=>h.get? a=some (PySem.W.methodObj (.ref f) (.ref x))
 | .ext φ=>φ h/\(∃o,h.get? a=some o)/\∀h1 h2:Heap,φ h1->(∀o,h1.get? a=some o->h2.get? a=some o)->φ h2
noncomputable def HOk(H:Hp)(h:Heap):Prop:=∀a o,H a=some o->ObjOk P w H h a o
end
section
variable {P:Program} {w:World} {H H':Hp} {h h':Heap} {a:Addr} {o:HO}
theorem ObjOk.lt(x:ObjOk P w H h a o):a<h.objs.size:=by
 cases o with
 |lst xs=>obtain⟨_,_,_,_,e⟩:=x;exact Km e
 |tup xs=>obtain⟨_,_,_,p⟩:=x;exact p.lt
 |dK kvs=>obtain⟨_,_,_,_,o,_,_,e,_⟩:=x;exact Km e
 |dT kvs=>obtain⟨_,_,_,_,o,_,_,e,_⟩:=x;exact Km e
 |dD kvs=>obtain⟨_,_,_,_,o,_,_,e,_⟩:=x;exact Km e
 |set S n=>obtain⟨o,_,_,_,e,_⟩:=x;exact Km e
 |ins C dx fs=>obtain⟨_,_,_,e,_⟩:=x;exact Km e
 |own y=>obtain⟨_,e⟩:=x;exact Km e
 |xd fs=>obtain⟨_,⟨_,_,_,e,_⟩,_⟩:=x;exact Km e
 |rng lo hi=>obtain⟨_,_,_,e⟩:=x;exact Km e
 |frz ob u=>obtain⟨e,_⟩:=x;exact Km e
 |tbl ps=>exact Km (show h.get? a=some _ from x)
 |met f y=>exact Km (show h.get? a=some _ from x)
 |ext φ=>obtain⟨_,⟨_,e⟩,_⟩:=x;exact Km e
theorem Paired.mapP{α β:Type}{F G:α->β->Prop}: ∀{l₁:List α} {l₂:List β},Paired F l₁ l₂->(∀a b,F a b->G a b)->Paired G l₁ l₂
 |_,_,.nil,_=>.nil
 |_,_,.cons r t,f=>.cons (f _ _ r) (Paired.mapP t f)
theorem Paired.imp'{α β:Type}{F G:α->β->Prop}(f: ∀a b,F a b->G a b){l₁:List α}{l₂:List β}(r:Paired F l₁ l₂):Paired G l₁ l₂:=Paired.mapP r f
theorem DKey.keeps{H H':Hp}{kss:List (List Int)}{b:Addr}(x:DKey H kss b)(ht: ∀b xs,H b=some (.tup xs)->H' b=some (.tup xs)):DKey H' kss b:=by
 obtain⟨vs,h1,h2⟩:=x;exact⟨vs,ht _ _ h1,Paired.mapP h2 fun _ _ z=>by obtain⟨c,e,h⟩:=z;exact⟨c,e,ht _ _ h⟩⟩
theorem ObjOk.stay(x:ObjOk P w H h a o)(k: ∀b u,(b=a\/H b=some (.own a))->h.get? b=some u->h'.get? b=some u)
  (ho: ∀b,H b=some (.own a)->H' b=some (.own a)) (ht: ∀b xs,H b=some (.tup xs)->H' b=some (.tup xs)):ObjOk P w H' h' a o:=by
 induction o with
 |lst xs=>obtain⟨z,its,n,r,e⟩:=x;exact⟨z,its,n,r,k _ _ (.inl rfl) e⟩
 |tup xs=>obtain⟨z,its,r,ob,e,c⟩:=x;exact⟨z,its,r,ob,k _ _ (.inl rfl) e,c⟩
 |dK kvs=>obtain⟨z,y,vs,r,ob,es,ep,e,c⟩:=x;exact⟨z,y,vs,r,ob,es,ep,k _ _ (.inl rfl) e,c⟩
 |dT kvs=>
  obtain⟨z,y,xs,r,ob,es,ep,e,c⟩:=x;exact⟨z,y,xs,Paired.mapP r fun p q z=>⟨z.1,ht _ _ z.2.1,z.2.2⟩,ob,es,ep,k _ _ (.inl rfl) e,c⟩
 |dD kvs=>
  obtain⟨z,y,xs,r,ob,es,ep,e,c⟩:=x;exact⟨z,y,xs,Paired.mapP r fun p q z=>⟨z.1,z.2.1.keeps ht,z.2.2⟩,ob,es,ep,k _ _ (.inl rfl) e,c⟩
 |set S n=>obtain⟨ob,es,ep,t,e,c⟩:=x;exact⟨ob,es,ep,t,k _ _ (.inl rfl) e,c⟩
 |ins C dx fs=>
  obtain⟨d,z,ne,e,mA,⟨od,es,ep,e2,c⟩,r⟩:=x;exact⟨ho _ d,z,ne,k _ _ (.inl rfl) e,mA,⟨od,es,ep,k _ _ (.inr d) e2,c⟩,r⟩
 |own y=>obtain⟨ob,e⟩:=x;exact⟨ob,k _ _ (.inl rfl) e⟩
 |xd fs=>obtain⟨mA,⟨od,es,ep,e,c⟩,r⟩:=x;exact⟨mA,⟨od,es,ep,k _ _ (.inl rfl) e,c⟩,r⟩
 |rng lo hi=>obtain⟨t,u,v,e⟩:=x;exact⟨t,u,v,k _ _ (.inl rfl) e⟩
 |frz ob u ih=>obtain⟨e,q⟩:=x;exact⟨k _ _ (.inl rfl) e,ih q⟩
 |tbl ps=>
  have e:h.get? a=some { cls:=.none,data:=.fields ps }:=x;show h'.get? a=some { cls:=.none,data:=.fields ps };exact k a _ (.inl rfl) e
 |met f y=>
  have e:h.get? a=some (PySem.W.methodObj (.ref f) (.ref y)):=x;show h'.get? a=some (PySem.W.methodObj (.ref f) (.ref y));exact k a _ (.inl rfl) e
 |ext φ=>obtain⟨p,⟨o,e⟩,st⟩:=x;exact⟨st _ _ p fun o q=>k _ _ (.inl rfl) q,⟨o,k _ _ (.inl rfl) e⟩,st⟩
theorem HOk.lt(x:HOk P w H h)(e:H a=some o):a<h.objs.size:=(x a o e).lt
theorem HOk.fresh(x:HOk P w H h)(e:h.objs.size<=a):H a=none:=by
 cases q:H a with
 |none=>rfl
 |some u=>exact KG (Kj (x.lt q) e) (Nat.lt_irrefl _)
theorem HOk.kept(x:HOk P w H h)(k: ∀b u,h.get? b=some u->h'.get? b=some u):HOk P w H h':=fun a o e=>
 (x a o e).stay (fun b u _ q=>k b u q) (fun _ q=>q) fun _ _ q=>q
theorem HOk.laid(x:HOk P w H h)(k: ∀b u,h.get? b=some u->h'.get? b=some u)(hp:h.objs.size<=a)(new:ObjOk P w (zL H a o) h' a o):HOk P w (zL H a o) h':=fun b u e=>by
 have hn:=x.fresh hp;by_cases hb:b=a
 ·subst hb;rw[xI] at e;cases e;exact new
 ·rw[yp hb] at e
  exact (x b u e).stay (fun c v _ q=>k c v q) (fun c q=>by rw[yp (jD q hn)];exact q) fun c xs q=>by rw[yp (jD q hn)];exact q
end
noncomputable def Rd(H:Hp)(a:Addr)(u:HO):Prop:=H a=some u\/∃o,H a=some (.frz o u)
theorem Rd.of{H:Hp}{a:Addr}{u:HO}(h:H a=some u):Rd H a u:=.inl h
theorem Rd.ok{P:Program}{w:World}{H:Hp}{h:Heap}{a:Addr}{u:HO}(r:Rd H a u)(x:HOk P w H h):ObjOk P w H h a u:=by
 rcases r with r|⟨o,r⟩
 ·exact x a u r
 ·obtain⟨_,q⟩:=x a _ r
  exact q
noncomputable def ZF:Option HO->Prop
 |some (.lst _)=>True
 |some (.dK _)=>True
 |some (.dT _)=>True
 |some (.dD _)=>True
 |some (.set _ _)=>True
 |some (.ins _ _ _)=>True
 |some (.ext _)=>True
 |_=>False
section
variable {P:Program} {w:World} {H:Hp} {h h':Heap} {x e:Addr} {o':HO}
theorem HOk.write(ok:HOk P w H h)(mu:ZF (H x))(he:e=x\/H e=some (.own x))(k: ∀b u,b≠e->h.get? b=some u->h'.get? b=some u)(heo: ∃u,h'.get? e=some u)
  (new:ObjOk P w (zL H x o') h' x o'):HOk P w (zL H x o') h':=fun b u q=>by
 have nown: ∀c y,H c=some (.own y)->c≠x:=fun c y r z=>by subst z;rw[r] at mu;exact mu
 have ntup: ∀c xs,H c=some (.tup xs)->c≠x:=fun c xs r z=>by subst z;rw[r] at mu;exact mu
 by_cases hb:b=x
 ·subst hb;rw[xI] at q;cases q;exact new
 ·rw[yp hb] at q
  by_cases hbe:b=e
  ·have q':H b=some (.own x):=by
    rcases he with z|z
    ·exact KG (hbe.trans z) hb
    ·rw[hbe];exact z
   rw[q] at q';cases q';obtain⟨v,hv⟩:=heo;exact⟨v,by rw[hbe];exact hv⟩
  ·refine (ok b u q).stay (fun c v hc r=>k c v ?_ r) (fun c r=>by rw[yp (nown c b r)];exact r) fun c xs r=>by rw[yp (ntup c xs r)];exact r
   rcases hc with rfl|hc
   ·exact hbe
   ·rintro rfl
    rcases he with z|z
    ·exact nown c b hc z
    ·rw[hc] at z;cases z;exact hb rfl
end
structure Un (fs ex:List Addr)(H H':Hp)(h h':Heap):Prop where
 keep: ∀b o,h.get? b=some o->H b=none->b∉fs->b∉ex->h'.get? b=some o
 slot: ∀b o,h.get? b=some o->H b=none->b∈fs->b∉ex->∃sl,h'.get? b=some { o with slots:=sl }
 free: ∀b o,h.get? b=some o->H b=none->b∉ex->H' b=none
 there: ∀b o,h.get? b=some o->b∉ex->∃o',h'.get? b=some o'
 tups: ∀b xs,H b=some (.tup xs)->H' b=some (.tup xs)
 frzs: ∀b o u,H b=some (.frz o u)->H' b=some (.frz o u)
 tbls: ∀b ps,H b=some (.tbl ps)->∃more,H' b=some (.tbl (ps++more))
section
variable {fs fs' ex ex':List Addr} {H H1 H2:Hp} {h h1 h2 h':Heap} {a x e:Addr} {o:HO}
theorem Un.any(u:Un fs ex H H1 h h1){b:Addr}{ob:Obj}(q:h.get? b=some ob)(n:H b=none)(hx:b∉ex): ∃sl,h1.get? b=some { ob with slots:=sl }:=by
 by_cases hb:b∈fs
 ·exact u.slot b ob q n hb hx
 ·exact⟨ob.slots,u.keep b ob q n hb hx⟩
theorem Un.trans(a:Un fs ex H H1 h h1)(b:Un fs ex H1 H2 h1 h2):Un fs ex H H2 h h2 where
 keep:=fun c ob q n hc hx=>b.keep c ob (a.keep c ob q n hc hx) (a.free c ob q n hx) hc hx
 slot:=fun c ob q n hc hx=>by
  obtain⟨sl,e1⟩:=a.slot c ob q n hc hx;obtain⟨sl',e2⟩:=b.slot c _ e1 (a.free c ob q n hx) hc hx;exact⟨sl',e2⟩
 free:=fun c ob q n hx=>by
  obtain⟨o',e1⟩:=a.there c ob q hx;exact b.free c o' e1 (a.free c ob q n hx) hx
 there:=fun c ob q hx=>by
  obtain⟨o',e1⟩:=a.there c ob q hx;exact b.there c o' e1 hx
 tups:=fun c xs q=>b.tups c xs (a.tups c xs q)
 frzs:=fun c ob xs q=>b.frzs c ob xs (a.frzs c ob xs q)
 tbls:=fun c ps q=>by
  obtain⟨m1,e1⟩:=a.tbls c ps q;obtain⟨m2,e2⟩:=b.tbls c _ e1;exact⟨m1++m2,by rw[e2,Array.append_assoc]⟩
theorem Un.kept(k: ∀b u,h.get? b=some u->h'.get? b=some u):Un fs ex H H h h':=
 ⟨fun b ob q _ _ _=>k b ob q,fun b ob q _ _ _=>⟨ob.slots,k b ob q⟩,fun _ _ _ n _=>n,fun b ob q _=>⟨ob,k b ob q⟩,fun _ _ q=>q,fun _ _ _ q=>q,fun _ ps q=>⟨#[],by rw[q];simp⟩⟩
theorem Un.refl:Un fs ex H H h h:=Un.kept fun _ _ q=>q
theorem Un.laid(k: ∀b u,h.get? b=some u->h'.get? b=some u)(hp:h.objs.size<=a)(hn:H a=none):Un fs ex H (zL H a o) h h' where
 keep:=fun b u q _ _ _=>k b u q
 slot:=fun b u q _ _ _=>⟨u.slots,k b u q⟩
 free:=fun b u q n _=>by rw[yp (Ki (Kj (Km q) hp))];exact n
 there:=fun b u q _=>⟨u,k b u q⟩
 tups:=fun b xs q=>by rw[yp (jD q hn)];exact q
 frzs:=fun b u xs q=>by rw[yp (jD q hn)];exact q
 tbls:=fun b ps q=>⟨#[],by rw[yp (jD q hn),q];simp⟩
theorem Un.write(mu:ZF (H x))(he:e=x\/H e=some (.own x))(k: ∀b u,b≠e->h.get? b=some u->h'.get? b=some u)(heo: ∃u,h'.get? e=some u):Un fs ex H (zL H x o) h h':=by
 have hx: ∀b,H b=none->b≠x:=fun b n z=>by subst z;rw[n] at mu;exact mu
 have hb: ∀b,H b=none->b≠e:=fun b n z=>by
  subst z;rcases he with r|r
  ·exact hx b n r
  ·rw[n] at r;cases r
 have hm: ∀b u,H b=some u->¬ZF (some u)->b≠x:=fun b u q nm z=>by subst z;rw[q] at mu;exact nm mu
 refine⟨fun b u q n _ _=>k b u (hb b n) q,fun b u q n _ _=>⟨u.slots,k b u (hb b n) q⟩,fun b u q n _=>by rw[yp (hx b n)];exact n,fun b u q _=>?_,
  fun b xs q=>by rw[yp (hm b _ q fun z=>z)];exact q,fun b u xs q=>by rw[yp (hm b _ q fun z=>z)];exact q,fun b ps q=>⟨#[],by rw[yp (hm b _ q fun z=>z),q];simp⟩⟩
 by_cases hbe:b=e
 ·subst hbe;exact heo
 ·exact⟨u,k b u hbe q⟩
theorem Un.mono(u:Un fs ex H H1 h h1)(hs: ∀b∈fs,b∈fs')(hx: ∀b∈ex,b∈ex'):Un fs' ex' H H1 h h1:=
 ⟨fun b ob q n hb he=>u.keep b ob q n (fun z=>hb (hs b z)) fun z=>he (hx b z),fun _ _ q n _ he=>u.any q n fun z=>he (hx _ z),fun b ob q n he=>u.free b ob q n fun z=>he (hx b z),fun b ob q he=>u.there b ob q fun z=>he (hx b z),u.tups,u.frzs,u.tbls⟩
end
noncomputable def Xn(h:Heap)(H:Hp):List Addr:=(List.range h.objs.size).filter fun a=>(H a).isSome
noncomputable def vp(h:Heap)(H:Hp):Heap:=PySem.W.hideAll h (Xn h H)
theorem zeP(h:Heap)(H:Hp):(vp h H).objs.size=h.objs.size:=PySem.W.hideAll_size _ _
theorem zeQ{h:Heap}{H:Hp}{b:Addr}{o:Obj}(e:h.get? b=some o)(n:H b=none):(vp h H).get? b=some o:=
 PySem.W.hideAll_get _ e fun hm=>by
  have q:(H b).isSome=true:=(List.mem_filter.mp hm).2;rw[n] at q;simp at q
theorem zeR{h:Heap}{H:Hp}{b:Addr}{o:Obj}(e:(vp h H).get? b=some o):h.get? b=some o/\H b=none:=by
 have e':h.get? b=some o:=PySem.W.of_hideAll (Xn h H) e;refine⟨e',?_⟩
 cases q:H b with
 |none=>rfl
 |some x=>
  have hm:b∈Xn h H:=List.mem_filter.mpr ⟨List.mem_range.mpr (Km e'),by simp[q]⟩;have z:(vp h H).get? b=none:=PySem.W.hideAll_none (Xn h H) hm;rw[z] at e;cases e
noncomputable def zeS(g h:Heap)(L:Addr):List (Addr×Obj):=(List.range h.objs.size).filterMap fun a=>if a=L\/(g.get? a).isSome=true then none else (h.get? a).map fun o=>(a,o)
noncomputable def zK(g h:Heap)(L d:Addr):List (Addr×Obj):=(zeS g h L).filter fun p=>decide (p.1≠d)
end L2
namespace L2
open PySem PySem.Spec PyProof.Rows
structure Mod (K:Ka)(mg:Str->Option Value)(base:Heap):Prop where
 kin:K.In base
 glob:base.Ns mainGlobals mg
 blt: ∃mb,base.Ns builtinsNs mb/\∀x:Str,x≠"__name__"->mb x=bootBuiltins x
 nolimit:base.NoLimit
structure Cx where
 prog:Program
 w:World
 K:Ka
 mg:Str->Option Value
 base:Heap
 A:Around
 N:List Str
 s₀:Shared
 H₀:Hp
 env:Env
 outer:List Env
 stack:List Env
 ex:List Addr
 fn:Str->Bool
 calm:Bool
 pn:List (Addr×Obj)
 xe:Value->Shared->Prop
noncomputable def wG(l:List Env):List Addr:=l.filterMap (·.frame)
noncomputable abbrev Cx.fs(X:Cx):List Addr:=wG X.outer
noncomputable def zq(sc:Scope)(x:Str):Prop:=sc.names.lookup x=some .local\/sc.names.lookup x=some .cell\/sc.names.lookup x=some .free
noncomputable def zQ(sc:Scope)(x:Str):Prop:=sc.names.lookup x=some .local\/sc.names.lookup x=some .cell
noncomputable def zeT(env:Env)(h:Heap)(m:Str->Option Value)(x:Str)(u:Value):Prop:=
 (env.kindOf x=some .local/\m x=some u)\/((env.kindOf x=some .cell\/env.kindOf x=some .free)/\∃c,env.cells.lookup x=some c/\h.IsCell c (some u))
structure Cx.Ok (X:Cx):Prop where
 mod:Mod X.K X.mg X.base
 kind:X.env.scope.kind= .function
 glob:X.env.globals=mainGlobals
 blt:X.env.builtins=builtinsNs
 above:X.s₀.heap.objs.size<=X.env.locals
 inj: ∀x y c,X.env.cells.lookup x=some c->X.env.cells.lookup y=some c->x=y
 has: ∀x,(X.env.kindOf x=some .cell\/X.env.kindOf x=some .free)->∃c,X.env.cells.lookup x=some c
 cab: ∀x c,X.fn x=true->X.env.cells.lookup x=some c->X.s₀.heap.objs.size<=c
 hd:X.calm=true->X.A.handled=none
 frames:X.A.frames=some X.stack
 stk:X.stack=X.outer\/(X.stack=X.env::X.outer/\X.env.frame=some X.env.locals)
 exf: ∀b∈X.ex,b≠X.env.locals/\∀x c,X.env.cells.lookup x=some c->c≠b
 bs: ∀b o,X.base.get? b=some o->X.s₀.heap.get? b=some o/\X.H₀ b=none
 bsz:X.base.objs.size<=X.s₀.heap.objs.size
 noex: ∀b o,X.base.get? b=some o->b∉X.ex
 exfs: ∀b∈X.ex,b∉X.fs
 funs:X.s₀.heap.FunFrames X.base X.outer
 frf: ∀b∈X.fs,X.H₀ b=none
structure Inv (X:Cx)(pins:List (Addr×Obj))(σ:List (Option V))(H:Hp)(s:Shared):Prop where
 ok:X.Ok
 os:s.os=X.s₀.os
 bare:AllBare s.gens
 base:Un X.fs X.ex X.H₀ H X.s₀.heap s.heap
 loc: ∃m,s.heap.Ns X.env.locals m/\∀(i:Nat) (x:Str) (v:V),X.N[i]? =some x->σ[i]? =some (some v)->zq X.env.scope x->∃u,RelV v u/\zeT X.env s.heap m x u
 cell: ∀x c,X.env.cells.lookup x=some c->∃v,s.heap.IsCell c v
 free:H X.env.locals=none
 freeC: ∀x c,X.env.cells.lookup x=some c->H c=none
 pin: ∀p∈X.pn++pins,s.heap.get? p.1=some p.2/\H p.1=none/\p.1≠X.env.locals/\p.1∉X.fs/\∀v,p.2.data≠ .cell v
 hok:HOk X.prog X.w H s.heap
 len:σ.length=X.N.length
section
variable {X:Cx} {pins:List (Addr×Obj)} {σ:List (Option V)} {H H':Hp} {s:Shared} {h':Heap}
theorem Cx.Ok.nofr(ok:X.Ok){b:Addr}{o:Obj}(e:X.base.get? b=some o):b∉X.fs:=fun hb=>by
 have:=(ok.funs.mem hb).1;rw[e] at this;cases this
theorem Inv.bs(I:Inv X pins σ H s): ∀b o,X.base.get? b=some o->s.heap.get? b=some o/\H b=none:=fun b o e=>
 ⟨I.base.keep b o (I.ok.bs b o e).1 (I.ok.bs b o e).2 (I.ok.nofr e) (I.ok.noex b o e),I.base.free b o (I.ok.bs b o e).1 (I.ok.bs b o e).2 (I.ok.noex b o e)⟩
theorem Inv.bk(I:Inv X pins σ H s): ∀b o,X.base.get? b=some o->s.heap.get? b=some o:=fun b o e=>(I.bs b o e).1
theorem Inv.mod(I:Inv X pins σ H s):Mod X.K X.mg X.base:=I.ok.mod
theorem Inv.kIn(I:Inv X pins σ H s):X.K.In s.heap:=I.ok.mod.kin.keeps I.bk
theorem Inv.nolimit(I:Inv X pins σ H s):s.heap.NoLimit:=I.ok.mod.nolimit.keeps I.bk
theorem Inv.fr(I:Inv X pins σ H s): ∃m,Fr X.base X.env.locals s.heap m:=
 let ⟨m,hn,_⟩:=I.loc
 ⟨m,hn,I.bk,Kh I.ok.bsz I.ok.above⟩
theorem Inv.lt(I:Inv X pins σ H s):X.env.locals<s.heap.objs.size:=let ⟨_,hn,_⟩:=I.loc;hn.lt
theorem Inv.sz(I:Inv X pins σ H s):X.s₀.heap.objs.size<=s.heap.objs.size:=Kh I.ok.above (Nat.le_of_lt I.lt)
theorem Inv.nofs(I:Inv X pins σ H s){a:Addr}(h:s.heap.objs.size<=a):a∉X.fs:=fun hb=>by
 obtain⟨_,o,ho,_⟩:=I.ok.funs.mem hb;exact KG (Kj (Km ho) (Kh I.sz h)) (Nat.lt_irrefl _)
theorem Inv.cne(I:Inv X pins σ H s): ∀x c,X.env.cells.lookup x=some c->c≠X.env.locals:=fun x c e z=>by
 obtain⟨v,o,ho,hd⟩:=I.cell x c e;obtain⟨m,⟨o',es,ep,ho',hd',_⟩,_⟩:=I.loc;rw[z,ho'] at ho;cases ho;rw[hd'] at hd;cases hd
theorem Inv.funs(I:Inv X pins σ H s):s.heap.FunFrames X.base X.outer:=by
 have all: ∀(l:List Env),(∀b∈wG l,b∈X.fs)->X.s₀.heap.FunFrames X.base l->s.heap.FunFrames X.base l:=by
  intro l
  induction l with
  |nil=>intro _ _;trivial
  |cons env r ih=>
   intro hs hl;obtain⟨hk,⟨L,o,hf,hn,ho,hd⟩,hr⟩:=hl;have hL:L∈X.fs:=hs L (by unfold wG;rw[List.filterMap_cons,hf];exact Ke);obtain⟨sl,e⟩:=I.base.slot L o ho (I.ok.frf L hL) hL fun z=>I.ok.exfs L z hL
   exact⟨hk,⟨L,_,hf,hn,e,hd⟩,ih (fun b hb=>hs b (by unfold wG;rw[List.filterMap_cons,hf];exact Kf _ hb)) hr⟩
 exact all X.outer (fun _ hb=>hb) I.ok.funs
theorem Inv.stack(I:Inv X pins σ H s):s.heap.FunFrames X.base X.stack:=by
 rcases I.ok.stk with e|⟨e,hf⟩
 ·rw[e];exact I.funs
 ·rw[e]
  obtain⟨m,hn,_⟩:=I.loc;refine .cons (by rw[I.ok.kind];decide) hf hn ?_ I.funs;exact Heap.get?_none_of_le (Kh I.ok.bsz I.ok.above)
theorem Inv.stkSub(I:Inv X pins σ H s): ∀b∈wG X.stack,b∈X.env.locals::X.fs:=fun b hb=>by
 rcases I.ok.stk with e|⟨e,hf⟩
 ·rw[e] at hb;exact Kf _ hb
 ·rw[e] at hb
  unfold wG at hb;rw[List.filterMap_cons,hf] at hb;exact hb
theorem Inv.stkFree(I:Inv X pins σ H s): ∀b∈wG X.stack,H b=none:=fun b hb=>by
 rcases List.mem_cons.mp (I.stkSub b hb) with e|hb
 ·rw[e];exact I.free
 ·obtain⟨_,o,ho,_⟩:=I.ok.funs.mem hb
  exact I.base.free b o ho (I.ok.frf b hb) fun z=>I.ok.exfs b z hb
theorem Inv.step{g':Array GenState}{t':Nat}{d':Drawn}{ch:List Addr}(I:Inv X pins σ H s)
  (hch: ∀b∈ch,(b∈X.ex\/X.s₀.heap.objs.size<=b)/\b≠X.env.locals/\(∀x c,X.env.cells.lookup x=some c->c≠b)/\∀p∈X.pn++pins,p.1≠b)
  (keep: ∀b o,b≠X.env.locals->b∉X.fs->b∉ch->s.heap.get? b=some o->H b=none->h'.get? b=some o)
  (slot: ∀b o,b≠X.env.locals->b∈X.fs->b∉ch->s.heap.get? b=some o->H b=none->∃sl,h'.get? b=some { o with slots:=sl }) (free: ∀b o,b∉ch->s.heap.get? b=some o->H b=none->H' b=none)
  (there: ∀b o,b∉ch->s.heap.get? b=some o->∃o',h'.get? b=some o')
  (tups: ∀b xs,H b=some (.tup xs)->H' b=some (.tup xs)) (frzs: ∀b o u,H b=some (.frz o u)->H' b=some (.frz o u)) (tbls: ∀b ps,H b=some (.tbl ps)->∃more,H' b=some (.tbl (ps++more)))
  (ns: ∀m,s.heap.Ns X.env.locals m->h'.Ns X.env.locals m) (hok:HOk X.prog X.w H' h') (hg:AllBare g'):
  Inv X pins σ H' { s with heap:=h',gens:=g',drawn:=d',toks:=t' }:=by
 have neL: ∀b o,X.s₀.heap.get? b=some o->b≠X.env.locals:=fun b o e=>Ki (Kj (Km e) I.ok.above)
 have neC: ∀b o,X.s₀.heap.get? b=some o->b∉X.ex->b∉ch:=fun b o e hx hb=>by
  rcases (hch b hb).1 with z|z
  ·exact hx z
  ·exact KG (Kj (Km e) z) (Nat.lt_irrefl _)
 have cellK: ∀x c,X.env.cells.lookup x=some c->∀v,s.heap.IsCell c v->h'.IsCell c v:=fun x c e v ⟨o,ho,hd⟩=>by
  have nch:c∉ch:=fun z=>(hch c z).2.2.1 x c e rfl
  by_cases hc:c∈X.fs
  ·obtain⟨sl,q⟩:=slot c o (I.cne x c e) hc nch ho (I.freeC x c e)
   exact⟨_,q,hd⟩
  ·exact⟨o,keep c o (I.cne x c e) hc nch ho (I.freeC x c e),hd⟩
 refine⟨I.ok,I.os,hg,⟨fun b o e n hb hx=>?_,fun b o e n hb hx=>?_,fun b o e n hx=>?_,fun b o e hx=>?_,fun b xs e=>tups b xs (I.base.tups b xs e),fun b o xs e=>frzs b o xs (I.base.frzs b o xs e),fun b ps e=>?_⟩,?_,fun x c e=>?_,?_,fun x c e=>?_,fun p hp=>?_,hok,I.len⟩
 ·exact keep b o (neL b o e) hb (neC b o e hx) (I.base.keep b o e n hb hx) (I.base.free b o e n hx)
 ·obtain⟨sl,e1⟩:=I.base.slot b o e n hb hx
  obtain⟨sl',e2⟩:=slot b _ (neL b o e) hb (neC b o e hx) e1 (I.base.free b o e n hx);exact⟨sl',e2⟩
 ·obtain⟨o',e1⟩:=I.base.there b o e hx
  exact free b o' (neC b o e hx) e1 (I.base.free b o e n hx)
 ·obtain⟨o',e1⟩:=I.base.there b o e hx
  exact there b o' (neC b o e hx) e1
 ·obtain⟨m1,e1⟩:=I.base.tbls b ps e
  obtain⟨m2,e2⟩:=tbls b _ e1;exact⟨m1++m2,by rw[e2,Array.append_assoc]⟩
 ·obtain⟨m,hn,hl⟩:=I.loc
  refine⟨m,ns m hn,fun i x v e1 e2 e3=>?_⟩;obtain⟨u,r,l⟩:=hl i x v e1 e2 e3;refine⟨u,r,?_⟩;rcases l with l|⟨k,c,e,z⟩
  ·exact .inl l
  ·exact .inr ⟨k,c,e,cellK x c e _ z⟩
 ·obtain⟨v,z⟩:=I.cell x c e
  exact⟨v,cellK x c e v z⟩
 ·obtain⟨m,⟨o,_,_,ho,_⟩,_⟩:=I.loc
  exact free _ o (fun z=>(hch _ z).2.1 rfl) ho I.free
 ·obtain⟨v,o,ho,hd⟩:=I.cell x c e
  exact free c o (fun z=>(hch c z).2.2.1 x c e rfl) ho (I.freeC x c e)
 ·obtain⟨e,n,ne,nf,d⟩:=I.pin p hp
  have nch:p.1∉ch:=fun z=>(hch p.1 z).2.2.2 p hp rfl
  exact⟨keep p.1 p.2 ne nf nch e n,free p.1 p.2 nch e n,ne,nf,d⟩
theorem Inv.un{t':Nat}(I:Inv X pins σ H s)(u:Un X.fs [] H H' s.heap h')(hok:HOk X.prog X.w H' h'):Inv X pins σ H' { s with heap:=h',toks:=t' }:=by
 obtain⟨m,⟨o,es,ep,ho,r⟩,_⟩:=id I.loc;obtain⟨sl,hL⟩:=u.any ho I.free (by simp)
 exact I.step (g':=s.gens) (d':=s.drawn) (ch:=[]) (fun _ z=>nomatch z) (fun b o _ hb _ e n=>u.keep b o e n hb (by simp)) (fun b o _ hb _ e n=>u.slot b o e n hb (by simp)) (fun b o _ e n=>u.free b o e n (by simp)) (fun b o _ e=>u.there b o e (by simp)) u.tups u.frzs u.tbls (fun m' hm=>by
  obtain⟨o',es',ep',ho',r'⟩:=hm;rw[ho] at ho';cases ho';exact⟨_,es',ep',hL,r'⟩) hok I.bare
theorem Inv.call{g':Array GenState}{t':Nat}{d':Drawn}{ch:List Addr}(I:Inv X pins σ H s)(u:Un (wG X.stack) ch H H' s.heap h')(hok:HOk X.prog X.w H' h')(hg:AllBare g')
  (hch: ∀b∈ch,(b∈X.ex\/X.s₀.heap.objs.size<=b)/\b≠X.env.locals/\(∀x c,X.env.cells.lookup x=some c->c≠b)/\∀p∈X.pn++pins,p.1≠b):
  Inv X pins σ H' { s with heap:=h',gens:=g',drawn:=d',toks:=t' }:=by
 obtain⟨m,⟨o,es,ep,ho,r⟩,_⟩:=id I.loc;obtain⟨sl,hL⟩:=u.any ho I.free fun z=>(hch _ z).2.1 rfl
 exact I.step (ch:=ch) hch (fun b o hL hb hc e n=>u.keep b o e n (fun z=>(List.mem_cons.mp (I.stkSub b z)).elim hL hb) hc) (fun b o _ _ hc e n=>u.any e n hc) (fun b o hc e n=>u.free b o e n hc) (fun b o hc e=>u.there b o e hc) u.tups u.frzs u.tbls (fun m' hm=>by
  obtain⟨o',es',ep',ho',r'⟩:=hm;rw[ho] at ho';cases ho';exact⟨_,es',ep',hL,r'⟩) hok hg
theorem Inv.turned{t':Nat}{it:Addr}(I:Inv X pins σ H s)(k: ∀b o,b≠it->s.heap.get? b=some o->h'.get? b=some o)(hn:H it=none)(hL:it≠X.env.locals)
  (h1:it∈X.ex\/X.s₀.heap.objs.size<=it) (h2: ∀x c,X.env.cells.lookup x=some c->c≠it) (h3: ∀p∈X.pn++pins,p.1≠it):Inv X pins σ H { s with heap:=h',toks:=t' }:=by
 have nit: ∀b u,H b=some u->b≠it:=fun b u e z=>by rw[z,hn] at e;cases e
 refine I.step (g':=s.gens) (d':=s.drawn) (ch:=[it]) (fun b hb=>?_) (fun b o _ _ hc e _=>k b o (fun z=>hc (by simp[z])) e) (fun b o _ _ hc e _=>⟨o.slots,k b o (fun z=>hc (by simp[z])) e⟩) (fun _ _ _ _ n=>n)
  (fun b o hc e=>⟨o,k b o (fun z=>hc (by simp[z])) e⟩) (fun _ _ e=>e) (fun _ _ _ e=>e) (fun b ps e=>⟨#[],by rw[e];simp⟩) (fun m hm=>?_) (fun b u e=>?_) I.bare
 ·have e:b=it:=by simpa using hb
  subst e;exact⟨h1,hL,h2,h3⟩
 ·obtain⟨o,es,ep,ho,r⟩:=hm
  exact⟨o,es,ep,k _ o (Ne.symm hL) ho,r⟩
 ·refine (I.hok b u e).stay (fun c v hc q=>k c v ?_ q) (fun _ q=>q) fun _ _ q=>q
  rcases hc with z|z
  ·rw[z];exact nit b u e
  ·exact nit c _ z
theorem Inv.tok(I:Inv X pins σ H s)(t:Nat):Inv X pins σ H { s with toks:=t }:=I.un (h':=s.heap) (t':=t) Un.refl I.hok
theorem Inv.kept{t':Nat}(I:Inv X pins σ H s)(k: ∀b u,s.heap.get? b=some u->h'.get? b=some u):Inv X pins σ H { s with heap:=h',toks:=t' }:=I.un (Un.kept k) (I.hok.kept k)
theorem Inv.laid{a:Addr}{o:HO}{t':Nat}(I:Inv X pins σ H s)(k: ∀b u,s.heap.get? b=some u->h'.get? b=some u)(hp:s.heap.objs.size<=a)(new:ObjOk X.prog X.w (zL H a o) h' a o):
  Inv X pins σ (zL H a o) { s with heap:=h',toks:=t' }:=I.un (Un.laid k hp (I.hok.fresh hp)) (I.hok.laid k hp new)
theorem Inv.write{x e:Addr}{o:HO}{t':Nat}(I:Inv X pins σ H s)(mu:ZF (H x))(he:e=x\/H e=some (.own x))(k: ∀b u,b≠e->s.heap.get? b=some u->h'.get? b=some u)(heo: ∃u,h'.get? e=some u)
  (new:ObjOk X.prog X.w (zL H x o) h' x o):Inv X pins σ (zL H x o) { s with heap:=h',toks:=t' }:=I.un (Un.write mu he k heo) (I.hok.write mu he k heo new)
theorem Inv.pins_of{pins':List (Addr×Obj)}(I:Inv X pins σ H s)(h: ∀p∈pins',s.heap.get? p.1=some p.2/\H p.1=none/\p.1≠X.env.locals/\p.1∉X.fs/\∀v,p.2.data≠ .cell v):Inv X pins' σ H s:=
 ⟨I.ok,I.os,I.bare,I.base,I.loc,I.cell,I.free,I.freeC,fun p hp=>(List.mem_append.mp hp).elim (fun z=>I.pin p (Kr _ z)) (h p),I.hok,I.len⟩
theorem qv{N:List Str}(hN:N.Nodup){i j:Nat}{x:Str}(a:N[i]? =some x)(b:N[j]? =some x):i=j:=by
 obtain⟨h1,e1⟩:=List.getElem?_eq_some_iff.mp a;obtain⟨h2,e2⟩:=List.getElem?_eq_some_iff.mp b;exact (List.getElem_inj hN).mp (e1.trans e2.symm)
theorem qw{M:Model}{A:Around}{E:Value->Shared->Prop}{i:Nat}{x:Str}{v:V}{u:Value}{Q:Unit->Shared->Prop}(I:Inv X pins σ H s)(hN:X.N.Nodup)(hi:X.N[i]? =some x)(hx:zQ X.env.scope x)(r:RelV v u)
  (h: ∀s',Inv X pins (σ.set i (some v)) H s'->(∃a,Heap.SameBut a s.heap s'.heap/\(a=X.env.locals\/X.env.cells.lookup x=some a))->Q () s') (hf:X.fn x=true\/X.env.scope.names.lookup x=some .local:=by first|exact .inl rfl|exact .inr rfl|assumption):wpAny M A (storeName X.env x u) Q E s:=by
 obtain⟨m,hn,hl⟩:=id I.loc;have hcls:(X.env.scope.kind== .class||(X.env.scope.kind== .module&&X.env.locals != X.env.globals))=false:=by rw[I.ok.kind];rfl
 have hiσ:i<σ.length:=by rw[I.len];exact (List.getElem?_eq_some_iff.mp hi).1
 have cne:=I.cne
 have tracked: ∀{a:Addr} {h':Heap},(∃o,s.heap.get? a=some o/\H a=none)->Heap.SameBut a s.heap h'->HOk X.prog X.w H h':=fun {a h'} ha hs b ob e=>by
  obtain⟨_,_,hfree⟩:=ha;refine (I.hok b ob e).stay (fun c w' hc q=>(hs.2 c ?_).trans q) (fun _ q=>q) fun _ _ q=>q
  rintro rfl;rcases hc with rfl|hc
  ·rw[hfree] at e;cases e
  ·rw[hfree] at hc;cases hc
 rcases hx with hk|hk
 ·refine wpAny_storeName_local hk hn (fun h' hn' hs=>?_) hcls
  obtain⟨oL,_,_,hoL,_⟩:=id hn;refine h _ ⟨I.ok,I.os,I.bare,⟨fun b o e n hb hx=>?_,fun b o e n hb hx=>?_,I.base.free,fun b o e hx=>?_,I.base.tups,I.base.frzs,I.base.tbls⟩,⟨_,hn',fun j y v' e1 e2 e3=>?_⟩,fun y c e=>?_,I.free,I.freeC,fun p hp=>?_,tracked ⟨oL,hoL,I.free⟩ hs,by simpa using I.len⟩ ⟨_,hs,.inl rfl⟩
  ·exact (hs.2 b (Ki (Kj (Km e) I.ok.above))).trans (I.base.keep b o e n hb hx)
  ·obtain⟨sl,e1⟩:=I.base.slot b o e n hb hx
   exact⟨sl,(hs.2 b (Ki (Kj (Km e) I.ok.above))).trans e1⟩
  ·obtain⟨o',e1⟩:=I.base.there b o e hx
   exact⟨o',(hs.2 b (Ki (Kj (Km e) I.ok.above))).trans e1⟩
  ·by_cases hj:j=i
   ·subst hj
    rw[hi] at e1;cases e1;rw[List.getElem?_set_self hiσ] at e2;cases e2;exact⟨u,r,.inl ⟨hk,by simp⟩⟩
   ·rw[List.getElem?_set_ne (Ne.symm hj)] at e2
    obtain⟨u',r',q⟩:=hl j y v' e1 e2 e3;refine⟨u',r',?_⟩;rcases q with ⟨k,e⟩|⟨k,c,e,z⟩
    ·refine .inl ⟨k,?_⟩
     have:y≠x:=fun e=>hj (qv hN e1 (e▸hi))
     simp[this,e]
    ·exact .inr ⟨k,c,e,z.sameBut hs (cne y c e)⟩
  ·obtain⟨w',z⟩:=I.cell y c e
   exact⟨w',z.sameBut hs (cne y c e)⟩
  ·obtain⟨e,n,ne,nf,d⟩:=I.pin p hp
   exact⟨(hs.2 p.1 ne).trans e,n,ne,nf,d⟩
 ·have hfn:X.fn x=true:=by
   rcases hf with z|z
   ·exact z
   ·rw[z] at hk;cases hk
  obtain⟨c,hc⟩:=I.ok.has x (.inl hk);obtain⟨w',z⟩:=I.cell x c hc;refine wpAny_storeName_cell I.ok.kind hk hc z (fun h' hc' hs=>?_);obtain⟨oc,hoc,hocd⟩:=id z;refine h { s with heap:=h' } ⟨I.ok,I.os,I.bare,⟨fun b o e n hb hx=>?_,fun b o e n hb hx=>?_,I.base.free,fun b o e hx=>?_,I.base.tups,I.base.frzs,I.base.tbls⟩,⟨m,hn.sameBut hs (Ne.symm (cne x c hc)),fun j y v' e1 e2 e3=>?_⟩,fun y c' e=>?_,I.free,I.freeC,fun p hp=>?_,tracked ⟨oc,hoc,I.freeC x c hc⟩ hs,by simpa using I.len⟩ ⟨c,hs,.inr hc⟩
  ·exact (hs.2 b (Ki (Kj (Km e) (I.ok.cab x c hfn hc)))).trans (I.base.keep b o e n hb hx)
  ·obtain⟨sl,e1⟩:=I.base.slot b o e n hb hx
   exact⟨sl,(hs.2 b (Ki (Kj (Km e) (I.ok.cab x c hfn hc)))).trans e1⟩
  ·obtain⟨o',e1⟩:=I.base.there b o e hx
   exact⟨o',(hs.2 b (Ki (Kj (Km e) (I.ok.cab x c hfn hc)))).trans e1⟩
  ·by_cases hj:j=i
   ·subst hj
    rw[hi] at e1;cases e1;rw[List.getElem?_set_self hiσ] at e2;cases e2;exact⟨u,r,.inr ⟨.inl hk,c,hc,hc'⟩⟩
   ·rw[List.getElem?_set_ne (Ne.symm hj)] at e2
    obtain⟨u',r',q⟩:=hl j y v' e1 e2 e3;refine⟨u',r',?_⟩;rcases q with q|⟨k,c',e,z'⟩
    ·exact .inl q
    ·refine .inr ⟨k,c',e,z'.sameBut hs ?_⟩
     rintro rfl;exact hj (qv hN e1 (I.ok.inj _ _ _ e hc▸hi))
  ·by_cases hcc:c'=c
   ·subst hcc;exact⟨_,hc'⟩
   ·obtain⟨w2,z2⟩:=I.cell y c' e
    exact⟨w2,z2.sameBut hs hcc⟩
  ·obtain⟨e,n,ne,nf,d⟩:=I.pin p hp
   refine⟨(hs.2 p.1 ?_).trans e,n,ne,nf,d⟩;intro q;rw[q,hoc] at e;have q':oc=p.2:=Kp e;exact d w' (by rw[<-q'];exact hocd)
theorem qx{M:Model}{A:Around}{E:Value->Shared->Prop}{i:Nat}{x:Str}{v:V}{u:Value}{Q:Unit->Shared->Prop}(I:Inv X pins σ H s)(hN:X.N.Nodup)(hi:X.N[i]? =some x)(hx:zQ X.env.scope x)(r:RelV v u)
  (h: ∀s',Inv X pins (σ.set i (some v)) H s'->Q () s') (hf:X.fn x=true\/X.env.scope.names.lookup x=some .local:=by first|exact .inl rfl|exact .inr rfl|assumption):wpAny M A (storeName X.env x u) Q E s:=
 qw I hN hi hx r (fun s' I' _=>h s' I') hf
theorem Inv.call'{s':Shared}{ch:List Addr}(I:Inv X pins σ H s)(ho:s'.os=s.os)(u:Un (wG X.stack) ch H H' s.heap s'.heap)(hok:HOk X.prog X.w H' s'.heap)(hg:AllBare s'.gens)
  (hch: ∀b∈ch,(b∈X.ex\/X.s₀.heap.objs.size<=b)/\b≠X.env.locals/\(∀x c,X.env.cells.lookup x=some c->c≠b)/\∀p∈X.pn++pins,p.1≠b):Inv X pins σ H' s':=by
 obtain⟨h',g',d',t',o'⟩:=s';have e:o'=s.os:=ho;subst e;exact I.call (g':=g') (t':=t') (d':=d') u hok hg hch
end
noncomputable abbrev XK:=Value->Option Addr->Hp->Prop
noncomputable abbrev St:=List (Option V)
noncomputable abbrev VK:=V->Hp->Prop
noncomputable abbrev TE:=St->Hp->VK->Prop
noncomputable abbrev TT:=St->Hp->(Bool->Hp->Prop)->Prop
noncomputable abbrev TA:=St->Hp->(List V->Hp->Prop)->Prop
structure Ends where
 nx:St->Hp->Prop
 rt:VK
 bk:St->Hp->Prop:=fun _ _=>False
 ct:St->Hp->Prop:=fun _ _=>False
noncomputable abbrev TS:=Ends->St->Hp->Prop
noncomputable def EP(X:Cx)(pins:List (Addr×Obj))(σ:St)(Q:VK)(u:Value)(s':Shared):Prop:=∃v H',Inv X pins σ H' s'/\RelV v u/\Q v H'
noncomputable def TP(X:Cx)(pins:List (Addr×Obj))(σ:St)(Q:Bool->Hp->Prop)(b:Bool)(s':Shared):Prop:=∃H',Inv X pins σ H' s'/\Q b H'
noncomputable def AP(X:Cx)(pins:List (Addr×Obj))(σ:St)(Q:List V->Hp->Prop)(us:List Value)(s':Shared):Prop:=∃vs H',Inv X pins σ H' s'/\Vals vs us/\Q vs H'
noncomputable def SP(X:Cx)(pins:List (Addr×Obj))(D:Ends)(f:Flow)(s':Shared):Prop:=
 match f with
 | .next=>∃σ' H',Inv X pins σ' H' s'/\D.nx σ' H'
 | .brk=>∃σ' H',Inv X pins σ' H' s'/\D.bk σ' H'
 | .cont=>∃σ' H',Inv X pins σ' H' s'/\D.ct σ' H'
 | .ret u=>∃v σ' H',Inv X pins σ' H' s'/\RelV v u/\D.rt v H'
noncomputable def PE(X:Cx)(e:Expr)(t:TE):Prop:=
 ∀(pins:List (Addr×Obj)) (s:Shared) (σ:St) (H:Hp) (Q:VK),Inv X pins σ H s->t σ H Q->wpAny (model X.prog X.w) X.A (eval e X.env) (EP X pins σ Q) X.xe s
noncomputable def PT(X:Cx)(e:Expr)(t:TT):Prop:=
 ∀(pins:List (Addr×Obj)) (s:Shared) (σ:St) (H:Hp) (Q:Bool->Hp->Prop),Inv X pins σ H s->t σ H Q->wpAny (model X.prog X.w) X.A (isTrue e X.env (eval e X.env)) (TP X pins σ Q) X.xe s
noncomputable def PW(X:Cx)(e:Expr)(t:TT):Prop:=
 ∀(whole:Sem Value) (pins:List (Addr×Obj)) (s:Shared) (σ:St) (H:Hp) (Q:Bool->Hp->Prop),Inv X pins σ H s->t σ H Q->wpAny (model X.prog X.w) X.A (isTrue e X.env whole) (TP X pins σ Q) X.xe s
theorem PW.pt{X:Cx}{e:Expr}{t:TT}(h:PW X e t):PT X e t:=h _
noncomputable def PA(X:Cx)(es:List Expr)(t:TA):Prop:=
 ∀(pos:Pos) (pins:List (Addr×Obj)) (s:Shared) (σ:St) (H:Hp) (Q:List V->Hp->Prop),Inv X pins σ H s->t σ H Q->wpAny (model X.prog X.w) X.A (spliced (backTo pos (starEach es X.env))) (AP X pins σ Q) X.xe s
noncomputable def PS(X:Cx)(st:Stmt)(t:TS):Prop:=
 ∀(pins:List (Addr×Obj)) (s:Shared) (σ:St) (H:Hp) (D:Ends),Inv X pins σ H s->t D σ H->wpAny (model X.prog X.w) X.A (exec st X.env) (SP X pins D) X.xe s
noncomputable def PSs(X:Cx)(st:List Stmt)(t:TS):Prop:=
 ∀(pins:List (Addr×Obj)) (s:Shared) (σ:St) (H:Hp) (D:Ends),Inv X pins σ H s->t D σ H->wpAny (model X.prog X.w) X.A (execs st X.env) (SP X pins D) X.xe s
theorem zF{α:Type}{t:Sem α}{Q Q':α->Shared->Prop}{M:Model}{A:Around}{E:Value->Shared->Prop}{s:Shared}(h:wpAny M A t Q E s)(hQ: ∀a s,Q a s->Q' a s):wpAny M A t Q' E s:=Kd h hQ fun _ _ x=>x
end L2
namespace L2
open PySem PySem.Spec PyProof.Rows
section
variable {X:Cx}
noncomputable def zeU(i:Nat):TE:=fun σ H Q=>∃v,σ[i]? =some (some v)/\Q v H
noncomputable def tC(v:V):TE:=fun _ H Q=>Q v H
theorem jc{i:Nat}{x:Str}{pos:Pos}(hN:X.N[i]? =some x)(hv:zq X.env.scope x)(hd:(x==("__debug__":Str))=false:=by decide)(hcd:(x==("__classdict__":Str))=false:=by decide):PE X (.Name x pos) (zeU i):=by
 intro pins s σ H Q I h;obtain⟨v,e,h⟩:=h;obtain⟨m,hn,hl⟩:=I.loc;obtain⟨u,r,l⟩:=hl i x v hN e hv;have fin:EP X pins σ Q u s:=⟨v,H,I,r,h⟩;rcases l with ⟨hk,hm⟩|⟨hk,c,hc,wS⟩
 ·exact wpAny_Name (wpAny_loadName_local I.ok.kind hk hn hm fin) hd
 ·rcases hk with hk|hk
  ·exact wpAny_Name (wpAny_loadName_cell I.ok.kind hk hc wS fin) hd
  ·exact wpAny_Name (wpAny_loadName_free I.ok.kind hk hc wS fin hcd) hd
theorem zeV{i j pos}:PE X (.Constant (.int i) j pos) (tC (.int i)):=fun _ _ _ H _ I h=>wpAny_Constant_int ⟨.int i,H,I.tok _,⟨_,rfl⟩,h⟩
theorem zeW{b j pos}:PE X (.Constant (.bool b) j pos) (tC (.bl b)):=fun _ _ _ H _ I h=>Constant_bool ⟨.bl b,H,I,rfl,h⟩
noncomputable def Gl(X:Cx)(x:Str):Prop:=X.env.kindOf x=some .globalImplicit
theorem qy{E:Value->Shared->Prop}{pins:List (Addr×Obj)}{s:Shared}{σ:St}{H:Hp}{x:Str}{u:Value}{pos:Pos}{Q:Value->Shared->Prop}(I:Inv X pins σ H s)(hg:Gl X x)(hm:X.mg x=some u)(h:Q u s)
  (hd:(x==("__debug__":Str))=false:=by decide):wpAny (model X.prog X.w) X.A (eval (.Name x pos) X.env) Q E s:=
 Calls.Name_function_global I.ok.kind hg (Calls.loadGlobal_global (by rw[I.ok.glob];exact I.mod.glob.keeps I.bk) hm h) hd
theorem ZG{E:Value->Shared->Prop}{pins:List (Addr×Obj)}{s:Shared}{σ:St}{H:Hp}{x:Str}{u:Value}{pos:Pos}{Q:Value->Shared->Prop}(I:Inv X pins σ H s)(hg:Gl X x)(hm:X.mg x=none)(hv:bootBuiltins x=some u)(h:Q u s)
  (hn:x≠"__name__":=by decide) (hd:(x==("__debug__":Str))=false:=by decide):wpAny (model X.prog X.w) X.A (eval (.Name x pos) X.env) Q E s:=by
 obtain⟨mb,h1,h2⟩:=I.mod.blt;exact Calls.Name_function_global I.ok.kind hg (Calls.loadGlobal_builtin (by rw[I.ok.glob];exact I.mod.glob.keeps I.bk) hm (by rw[I.ok.blt];exact h1.keeps I.bk) ((h2 x hn).trans hv) h) hd
theorem zeX{x:Str}{v:V}{u:Value}{pos:Pos}(hg:Gl X x)(hm:X.mg x=some u)(r:RelV v u)(hd:(x==("__debug__":Str))=false:=by decide):PE X (.Name x pos) (tC v):=
 fun _ _ _ H _ I h=>qy I hg hm ⟨v,H,I,r,h⟩ hd
theorem zeY{x:Str}{v:V}{u:Value}{pos:Pos}(hg:Gl X x)(hm:X.mg x=none)(hv:bootBuiltins x=some u)(r:RelV v u)(hn:x≠"__name__":=by decide)(hd:(x==("__debug__":Str))=false:=by decide):PE X (.Name x pos) (tC v):=
 fun _ _ _ H _ I h=>ZG I hg hm hv ⟨v,H,I,r,h⟩ hn hd
variable {a b:Expr} {ta tb:TE} {pos:Pos}
variable {tA tB':TT} {zK:List Expr}
noncomputable def zeZ(t u:TT):TT:=fun σ H Q=>t σ H fun c H1=>if c=true then u σ H1 Q else Q false H1
noncomputable def ze0(t u:TT):TT:=fun σ H Q=>t σ H fun c H1=>if c=true then Q true H1 else u σ H1 Q
noncomputable def ze1(t:TT):TT:=fun σ H Q=>t σ H fun c H1=>Q (!c) H1
theorem ze2(ha:PT X a tA):PW X (.BoolOp .And [a] pos) tA:=by
 intro wh pins s σ H Q I h;refine isTrue_and (zF (ha pins s σ H Q I h) fun c s1 e=>?_)
 cases c with
 |true=>exact isTrue_and_nil e
 |false=>exact e
theorem qz(ha:PT X a tA):PW X (.BoolOp .Or [a] pos) tA:=by
 intro wh pins s σ H Q I h;refine isTrue_or (zF (ha pins s σ H Q I h) fun c s1 e=>?_)
 cases c with
 |false=>exact isTrue_or_nil e
 |true=>exact e
theorem ze3(ha:PT X a tA)(hb:PW X (.BoolOp .And (b::zK) pos) tB'):PW X (.BoolOp .And (a::b::zK) pos) (zeZ tA tB'):=by
 intro wh pins s σ H Q I h;refine isTrue_and (zF (ha pins s σ H _ I h) fun c s1 ⟨H1,I1,q1⟩=>?_)
 cases c with
 |true=>exact hb wh pins s1 σ H1 Q I1 q1
 |false=>exact⟨H1,I1,q1⟩
theorem qA(ha:PT X a tA)(hb:PW X (.BoolOp .Or (b::zK) pos) tB'):PW X (.BoolOp .Or (a::b::zK) pos) (ze0 tA tB'):=by
 intro wh pins s σ H Q I h;refine isTrue_or (zF (ha pins s σ H _ I h) fun c s1 ⟨H1,I1,q1⟩=>?_)
 cases c with
 |true=>exact⟨H1,I1,q1⟩
 |false=>exact hb wh pins s1 σ H1 Q I1 q1
theorem ze4(ha:PT X a tA):PT X (.UnaryOp .Not a pos) (ze1 tA):=by
 intro pins s σ H Q I h;exact isTrue_not (ha pins s σ H (fun c H1=>Q (!c) H1) I h)
noncomputable def ze5(ta tb:TE):TE:=fun σ H Q=>ta σ H fun x H1=>∃c,x= .bl c/\if c=true then tb σ H1 Q else Q (.bl false) H1
noncomputable def ze6(ta tb:TE):TE:=fun σ H Q=>ta σ H fun x H1=>∃c,x= .bl c/\if c=true then Q (.bl true) H1 else tb σ H1 Q
theorem qB{op}{t:TE}(h:PE X a t):PE X (.BoolOp op [a] pos) t:=fun pins s σ H Q I hw=>BoolOp_one (h pins s σ H Q I hw)
theorem ze7(ha:PE X a ta)(hb:PE X (.BoolOp .And (b::zK) pos) tb):PE X (.BoolOp .And (a::b::zK) pos) (ze5 ta tb):=by
 intro pins s σ H Q I h;refine BoolOp_and (zF (ha pins s σ H _ I h) fun v s1 ⟨x,H1,I1,r1,q1⟩=>?_);obtain⟨c,rfl,q1⟩:=q1;cases r1;refine wpAny_truthy_bool ?_
 cases c with
 |true=>exact hb pins s1 σ H1 Q I1 q1
 |false=>exact⟨.bl false,H1,I1,rfl,q1⟩
theorem ze8(ha:PE X a ta)(hb:PE X (.BoolOp .Or (b::zK) pos) tb):PE X (.BoolOp .Or (a::b::zK) pos) (ze6 ta tb):=by
 intro pins s σ H Q I h;refine BoolOp_or (zF (ha pins s σ H _ I h) fun v s1 ⟨x,H1,I1,r1,q1⟩=>?_);obtain⟨c,rfl,q1⟩:=q1;cases r1;refine wpAny_truthy_bool ?_
 cases c with
 |false=>exact hb pins s1 σ H1 Q I1 q1
 |true=>exact⟨.bl true,H1,I1,rfl,q1⟩
end
end L2
namespace L2
open PySem PySem.Spec PyProof.Rows
noncomputable def SqL(K:Ka)(H:Hp)(a:Addr)(xs:List V):Prop:=
 Rd H a (.lst xs)\/
  ∃(o:Obj) (its:Array Value) (n:Nat),K.lookup a=some o/\o.cls= .type "list"/\o.dict=none/\o.data= .seq its n/\its.size<=sizeLine/\Vals xs its.toList
noncomputable def SqT(K:Ka)(H:Hp)(a:Addr)(xs:List V):Prop:=
 Rd H a (.tup xs)\/
  ∃(o:Obj) (its:Array Value) (n:Nat),K.lookup a=some o/\o.cls= .type "tuple"/\o.data= .seq its n/\its.size<=sizeLine/\Vals xs its.toList
noncomputable def ze9:Value->Option V
 | .none=>some .non
 | .bool b=>some (.bl b)
 | .int i _=>some (.int i)
 | .str x _=>some (.str x)
 | .bytes b _=>some (.byt b)
 | .float b _=>some (.flt b)
 | .ref a=>some (.ref a)
 | .type n=>some (.ty n)
 |_=>none
theorem RelV.abs{x:V}{u:Value}(r:RelV x u):ze9 u=some x:=by
 cases x with
 |non=>cases r;rfl
 |bl _=>cases r;rfl
 |int _=>obtain⟨t,rfl⟩:=r;rfl
 |str _=>obtain⟨t,rfl⟩:=r;rfl
 |byt _=>obtain⟨t,rfl⟩:=r;rfl
 |flt _=>obtain⟨t,rfl⟩:=r;rfl
 |ref _=>cases r;rfl
 |ty _=>cases r;rfl
theorem RelV.inj{x y:V}{u:Value}(r:RelV x u)(q:RelV y u):x=y:=Kp (r.abs.symm.trans q.abs)
theorem Vals.inj: ∀{xs ys:List V} {us:List Value},Vals xs us->Vals ys us->xs=ys
 |_,_,_,.nil,.nil=>rfl
 |_,_,_,.cons r t,.cons r' t'=>by rw[r.inj r',Vals.inj t t']
section
variable {X:Cx} {pins:List (Addr×Obj)} {σ:St} {H:Hp} {s:Shared} {a:Addr} {xs ys:List V}
theorem SqL.of{K:Ka}(h:H a=some (.lst xs)):SqL K H a xs:=.inl (.inl h)
theorem SqT.of{K:Ka}(h:H a=some (.tup xs)):SqT K H a xs:=.inl (.inl h)
theorem Inv.list(I:Inv X pins σ H s)(h:SqL X.K H a xs): ∃its:List Value,Vals xs its/\PlainL s.heap a its.toArray/\xs.length<=sizeLine:=by
 rcases h with h|⟨o,its,n,hk,hc,hd,hs,hz,r⟩
 ·obtain⟨z,its,n,r,e⟩:=h.ok I.hok
  exact⟨its,r,⟨_,n,e,rfl,rfl,rfl⟩,z⟩
 ·refine⟨its.toList,r,⟨o,n,I.kIn a o hk,hc,hd,by simpa using hs⟩,?_⟩
  have e:=r.length;simp only[Array.length_toList] at e;omega
theorem Inv.tuple(I:Inv X pins σ H s)(h:SqT X.K H a xs): ∃its:List Value,Vals xs its/\IsTup s.heap a its.toArray/\xs.length<=sizeLine:=by
 rcases h with h|⟨o,its,n,hk,hc,hs,hz,r⟩
 ·obtain⟨z,its,r,p⟩:=h.ok I.hok
  exact⟨its,r,p,z⟩
 ·refine⟨its.toList,r,⟨o,I.kIn a o hk,hc,n,by simpa using hs⟩,?_⟩
  have e:=r.length;simp only[Array.length_toList] at e;omega
theorem Inv.list_inj(I:Inv X pins σ H s)(h:SqL X.K H a xs)(h':SqL X.K H a ys):xs=ys:=by
 obtain⟨its,r,⟨o,n,e,_,_,d⟩,_⟩:=I.list h;obtain⟨its',r',⟨o',n',e',_,_,d'⟩,_⟩:=I.list h';rw[e] at e';cases e';rw[d] at d';injection d' with d1 _;have:its=its':=by simpa using congrArg Array.toList d1
 subst this;exact r.inj r'
theorem Inv.tuple_inj(I:Inv X pins σ H s)(h:SqT X.K H a xs)(h':SqT X.K H a ys):xs=ys:=by
 obtain⟨its,r,⟨o,e,_,n,d⟩,_⟩:=I.tuple h;obtain⟨its',r',⟨o',e',_,n',d'⟩,_⟩:=I.tuple h';rw[e] at e';cases e';rw[d] at d';injection d' with d1 _;have:its=its':=by simpa using congrArg Array.toList d1
 subst this;exact r.inj r'
end
noncomputable abbrev Cx.wish(X:Cx)(E:Value->Shared->Prop):Cx:={ X with xe:=E }
noncomputable abbrev Cx.nox(X:Cx):Cx:=X.wish fun _ _=>False
theorem Cx.Ok.wish{X:Cx}(ok:X.Ok)(E:Value->Shared->Prop):(X.wish E).Ok:=
 ⟨ok.mod,ok.kind,ok.glob,ok.blt,ok.above,ok.inj,ok.has,ok.cab,ok.hd,ok.frames,ok.stk,ok.exf,ok.bs,ok.bsz,ok.noex,ok.exfs,ok.funs,ok.frf⟩
theorem Cx.Ok.unwish{X:Cx}{E:Value->Shared->Prop}(ok:(X.wish E).Ok):X.Ok:=
 ⟨ok.mod,ok.kind,ok.glob,ok.blt,ok.above,ok.inj,ok.has,ok.cab,ok.hd,ok.frames,ok.stk,ok.exf,ok.bs,ok.bsz,ok.noex,ok.exfs,ok.funs,ok.frf⟩
section
variable {X:Cx} {pins:List (Addr×Obj)} {σ:St} {H:Hp} {s:Shared} {E:Value->Shared->Prop}
theorem Inv.wish(I:Inv X pins σ H s)(E:Value->Shared->Prop):Inv (X.wish E) pins σ H s:=⟨I.ok.wish E,I.os,I.bare,I.base,I.loc,I.cell,I.free,I.freeC,I.pin,I.hok,I.len⟩
theorem Inv.unwish(I:Inv (X.wish E) pins σ H s):Inv X pins σ H s:=⟨I.ok.unwish,I.os,I.bare,I.base,I.loc,I.cell,I.free,I.freeC,I.pin,I.hok,I.len⟩
theorem SP.unwish{D:Ends}{f:Flow}{s':Shared}(h:SP (X.wish E) pins D f s'):SP X pins D f s':=by
 cases f with
 |next=>obtain⟨σ',H',I,q⟩:=h;exact⟨σ',H',I.unwish,q⟩
 |brk=>obtain⟨σ',H',I,q⟩:=h;exact⟨σ',H',I.unwish,q⟩
 |cont=>obtain⟨σ',H',I,q⟩:=h;exact⟨σ',H',I.unwish,q⟩
 |ret u=>obtain⟨v,σ',H',I,r,q⟩:=h;exact⟨v,σ',H',I.unwish,r,q⟩
theorem PE.nox{e:Expr}{t:TE}(h:PE X.nox e t):PE X e t:=fun pins s σ H Q I hw=>
 Kd (h pins s σ H Q (I.wish _) hw) (fun _ _ ⟨v,H',I',r,q⟩=>⟨v,H',I'.unwish,r,q⟩) fun _ _ z=>False.elim z
theorem PT.nox{e:Expr}{t:TT}(h:PT X.nox e t):PT X e t:=fun pins s σ H Q I hw=>
 Kd (h pins s σ H Q (I.wish _) hw) (fun _ _ ⟨H',I',q⟩=>⟨H',I'.unwish,q⟩) fun _ _ z=>False.elim z
theorem PSs.nox{st:List Stmt}{t:TS}(h:PSs X.nox st t):PSs X st t:=fun pins s σ H D I hw=>
 Kd (h pins s σ H D (I.wish _) hw) (fun _ _ q=>q.unwish) fun _ _ z=>False.elim z
end
section
variable {X:Cx} {st:Stmt} {zK:List Stmt} {t u:TS} {e:Expr} {te:TE} {pos:Pos}
noncomputable def zfa:TS:=fun D σ H=>D.nx σ H
noncomputable def zfb(t u:TS):TS:=fun D σ H=>t { D with nx:=u D } σ H
theorem zfc:PSs X [] zfa:=fun _ _ σ H _ I h=>wpAny_execs_nil ⟨σ,H,I,h⟩
theorem zfd(h1:PS X st t)(h2:PSs X zK u):PSs X (st::zK) (zfb t u):=by
 intro pins s σ H D I h;refine wpAny_execs_cons (zF (h1 pins s σ H { D with nx:=u D } I h) fun f s1 q=>?_)
 cases f with
 |next=>
  obtain⟨σ',H',I',q⟩:=q;exact h2 pins s1 σ' H' D I' q
 |ret v=>exact q
 |brk=>exact q
 |cont=>exact q
theorem Inv.quiet{pins:List (Addr×Obj)}{σ:St}{H:Hp}{s:Shared}(I:Inv X pins σ H s):interactive X.env=false:=by simp[interactive,I.ok.kind]
noncomputable def zfe(te:TE):TS:=fun D σ H=>te σ H fun _ H1=>D.nx σ H1
theorem JC(he:PE X e te)(hs:swapsWith e none pos.line X.env=pure false:=by rfl):PS X (.Expr e pos) (zfe te):=by
 intro pins s σ H D I h;exact wpAny_Expr_any (zF (he pins s σ H _ I h) fun v s1 ⟨x,H1,I1,r1,q1⟩=>⟨σ,H1,I1,q1⟩) I.quiet hs
noncomputable def zff(te:TE):TS:=fun D σ H=>te σ H D.rt
theorem JD(he:PE X e te):PS X (.Return (some e) pos) (zff te):=by
 intro pins s σ H D I h;exact wpAny_Return_some (zF (he pins s σ H _ I h) fun v s1 ⟨x,H1,I1,r1,q1⟩=>⟨x,σ,H1,I1,r1,q1⟩)
noncomputable def zfg(c:TT)(t u:TS):TS:=fun D σ H=>c σ H fun b H1=>if b=true then t D σ H1 else u D σ H1
theorem qD{c:Expr}{a b:List Stmt}{tc:TT}(hc:PT X c tc)(ha:PSs X a t)(hb:PSs X b u):PS X (.If c a b pos) (zfg tc t u):=by
 intro pins s σ H D I h;refine wpAny_If (zF (hc pins s σ H _ I h) fun d s1 ⟨H1,I1,q1⟩=>?_)
 cases d with
 |true=>exact ha pins s1 σ H1 D I1 q1
 |false=>exact hb pins s1 σ H1 D I1 q1
noncomputable def zfh:TS:=fun _ _ _=>False
theorem zfi:PS X st zfh:=fun _ _ _ _ _ _ h=>h.elim
end
noncomputable abbrev TG:=V->St->Hp->(St->Hp->Prop)->Prop
noncomputable def PG(X:Cx)(target:Expr)(t:TG):Prop:=
 ∀(pins:List (Addr×Obj)) (s:Shared) (σ:St) (H:Hp) (v:V) (u:Value) (Q:St->Hp->Prop),Inv X pins σ H s->RelV v u->t v σ H Q->
  wpAny (model X.prog X.w) X.A (assign target X.env u) (fun _ s'=>∃σ' H',Inv X pins σ' H' s'/\Q σ' H') X.xe s
section
variable {X:Cx} {pos:Pos}
noncomputable def JE(i:Nat):TG:=fun v σ H Q=>Q (σ.set i (some v)) H
theorem JF{i:Nat}{x:Str}(hN:X.N.Nodup)(hi:X.N[i]? =some x)(hx:zQ X.env.scope x)(hf:X.fn x=true\/X.env.scope.names.lookup x=some .local:=by first|exact .inl rfl|exact .inr rfl|assumption):PG X (.Name x pos) (JE i):=by
 intro pins s σ H v u Q I r h;exact wpAny_assign_Name (qx I hN hi hx r (fun s' I'=>⟨_,H,I',h⟩) hf)
noncomputable def zfj(te:TE)(g:TG):TS:=fun D σ H=>te σ H fun x H1=>g x σ H1 D.nx
theorem JG{i:Nat}{x:Str}{e:Expr}{te:TE}{pos':Pos}(hN:X.N.Nodup)(hi:X.N[i]? =some x)(hx:zQ X.env.scope x)(he:PE X e te)(hs:swapsWith e (some (.Name x pos')) pos.line X.env=pure false:=by rfl)(hf:X.fn x=true\/X.env.scope.names.lookup x=some .local:=by first|exact .inl rfl|exact .inr rfl|assumption):
  PS X (.Assign [.Name x pos'] e pos) (zfj te (JE i)):=by
 intro pins s σ H D I h;refine wpAny_Assign_Name (zF (he pins s σ H _ I h) fun v s1 ⟨y,H1,I1,r1,q1⟩=>?_) hs;exact qx I1 hN hi hx r1 (fun s2 I2=>⟨_,H1,I2,q1⟩) hf
end
section
variable {X:Cx} {pos:Pos}
noncomputable def zfk(c:TT)(tb:TS):TS:=fun D σ H=>∃W:Nat->St->Hp->Prop,(∃m,W m σ H)/\∀m σ H,W m σ H->
 c σ H fun b H1=>if b=true then ∃N:St->Hp->Prop,(∀σ' H',N σ' H'->∃m',m'<m/\W m' σ' H')/\tb { D with nx:=N,ct:=N,bk:=D.nx } σ H1 else D.nx σ H1
theorem zfl{c:Expr}{body:List Stmt}{tc:TT}{tb:TS}(hp:PassesOwn (model X.prog X.w) X.A X.env X.xe)(hc:PT X c tc)(hb:PSs X body tb):PS X (.While c body [] pos) (zfk tc tb):=by
 intro pins s σ H D I h;obtain⟨W,⟨m0,w0⟩,turn⟩:=h;refine wpAny_While (codeAny_whileLoop (fun n s'=>∃σ' H',Inv X pins σ' H' s'/\W n σ' H') ?_ m0 ⟨σ,H,I,w0⟩);rintro n s1 ⟨σ1,H1,I1,w1⟩;refine wpAny_passesOwn hp (zF (hc pins s1 σ1 H1 _ I1 (turn n σ1 H1 w1)) fun b s2 ⟨H2,I2,q2⟩=>?_)
 cases b with
 |true=>
  obtain⟨N,hN,q2⟩:=q2;rw[if_pos rfl];refine wpAny_passesOwn hp (zF (hb pins s2 σ1 H2 _ I2 q2) fun f s3 q3=>?_)
  cases f with
  |next=>
   obtain⟨σ3,H3,I3,n3⟩:=q3;obtain⟨m',hm,w3⟩:=hN σ3 H3 n3;exact⟨m',hm,σ3,H3,I3,w3⟩
  |cont=>
   obtain⟨σ3,H3,I3,n3⟩:=q3;obtain⟨m',hm,w3⟩:=hN σ3 H3 n3;exact⟨m',hm,σ3,H3,I3,w3⟩
  |brk=>exact q3
  |ret v=>exact q3
 |false=>
  rw[if_neg Ko];exact wpAny_execs_nil ⟨σ1,H2,I2,q2⟩
end
structure It where
 go:Nat->Hp->Prop
 yld:Nat->Hp->V->Hp->Prop
 stop:Nat->Hp->Prop
noncomputable def wp(X:Cx)(pins:List (Addr×Obj))(H:Hp)(b:Addr):Prop:=
 H b=none/\b≠X.env.locals/\b∉X.fs/\(b∈X.ex\/X.s₀.heap.objs.size<=b)/\(∀x c,X.env.cells.lookup x=some c->c≠b)/\∀p∈X.pn++pins,p.1≠b
theorem Inv.fpOk{X:Cx}{pins:List (Addr×Obj)}{σ:St}{H H':Hp}{s:Shared}{b:Addr}(I:Inv X pins σ H s)(hb:s.heap.objs.size<=b)(hn:H' b=none):wp X pins H' b:=by
 refine⟨hn,Kk (Kj I.lt hb),I.nofs hb,.inr (Kh I.sz hb),fun x c e z=>?_,fun p hp z=>?_⟩
 ·obtain⟨v,q⟩:=I.cell x c e
  exact KG (Kj q.lt (by rw[z];exact hb)) (Nat.lt_irrefl _)
 ·exact KG (Kj (Km (I.pin p hp).1) (by rw[z];exact hb)) (Nat.lt_irrefl _)
structure Turn (P:Program)(w:World)(K:Ka)(tg:Expr)(J:It)(fp:List Addr)(it:Addr)(tn:Nat->Heap->Prop):Prop where
 mem:it∈fp
 obj: ∀i h,tn i h->∀b∈fp,∃o,h.get? b=some o/\∀v,o.data≠ .cell v
 keep: ∀i h h',tn i h->(∀b∈fp,∀o,h.get? b=some o->h'.get? b=some o)->tn i h'
 item: ∀(X:Cx),X.prog=P->X.w=w->X.K=K->X.calm=true->∀(i:Nat) (pins:List (Addr×Obj)) (s:Shared) (σ:St) (H:Hp) (E:Value->Shared->Prop),Inv X pins σ H s->(∀b∈fp,wp X pins H b)->tn i s.heap->J.go i H->
  wpAny (model P w) X.A (pyNext (.ref it)) (fun r s1=>∃u,r=some u/\
   wpAny (model P w) X.A (letOwnedTupleGo tg (.ref it) u) (fun _ s2=>∃x H',Inv X pins σ H' s2/\RelV x u/\J.yld i H x H'/\tn (i+1) s2.heap/\∀b∈fp,H' b=none) E s1) E s
 done: ∀(X:Cx),X.prog=P->X.w=w->X.K=K->X.calm=true->∀(i:Nat) (pins:List (Addr×Obj)) (s:Shared) (σ:St) (H:Hp) (E:Value->Shared->Prop),Inv X pins σ H s->(∀b∈fp,wp X pins H b)->tn i s.heap->J.stop i H->
  wpAny (model P w) X.A (pyNext (.ref it)) (fun r s1=>r=none/\Inv X pins σ H s1) E s
 self: ∀(A:Around) (i:Nat) (s:Shared) (Q:Value->Shared->Prop) (E:Value->Shared->Prop),tn i s.heap->Q (.ref it) s->wpAny (model P w) A (pyIter (.ref it)) Q E s
noncomputable abbrev TI:=St->Hp->(It->Hp->Prop)->Prop
noncomputable def qE(X:Cx)(pins:List (Addr×Obj))(σ:St)(tg:Expr)(R:It->Hp->Prop)(itv:Value)(s2:Shared):Prop:=
 ∃(it:Addr) (fp:List Addr) (tn:Nat->Heap->Prop) (J:It) (H':Hp),itv= .ref it/\Inv X pins σ H' s2/\Turn X.prog X.w X.K tg J fp it tn/\tn 0 s2.heap/\(∀b∈fp,wp X pins H' b)/\R J H'
noncomputable def PI(X:Cx)(tg iter:Expr)(wi:TI):Prop:=
 ∀(pins:List (Addr×Obj)) (s:Shared) (σ:St) (H:Hp) (R:It->Hp->Prop),Inv X pins σ H s->wi σ H R->
  wpAny (model X.prog X.w) X.A (eval iter X.env) (fun v s1=>wpAny (model X.prog X.w) X.A (pyIter v) (qE X pins σ tg R) X.xe s1) X.xe s
theorem JH {M : Model} {A : Around} {E : Value → Shared → Prop} {s : Shared} {tg : Expr} {it : Addr} {u : Value} {o : Obj} {n : String} {vs : Array Value} {Q : Unit → Shared → Prop} (ho : s.heap.get? it = some o) (hc : o.cls = .type n) (hd : o.data = .fields vs)
    (hn : ["enumerate", "zip", "dict_itemiterator", "dict_reverseitemiterator", "odict_iterator", "itertools.zip_longest", "itertools.pairwise"].contains n = false) (hQ : Q () s) : wpAny M A (letOwnedTupleGo tg (.ref it) u) Q E s := by
  unfold letOwnedTupleGo
  cases tg <;> first
    | exact Kc hQ
    | (cases u <;> first
        | exact Kc hQ
        | (refine Kb (wpAny_load ho ?_)
           rw [hc, hd];show wpAny M A (if (["enumerate", "zip", "dict_itemiterator", "dict_reverseitemiterator", "odict_iterator", "itertools.zip_longest", "itertools.pairwise"].contains n && vs[0]? == some (rawInt _)) = true then _ else _) Q E s;rw [if_neg (by intro h; rw [hn, Bool.false_and] at h; cases h)];exact Kc hQ))
noncomputable def ZH(K:Ka)(a:Addr):It:=
 ⟨fun i H=>∃xs x,SqL K H a xs/\xs[i]? =some x,fun i H x H'=>H'=H/\∀xs,SqL K H a xs->xs[i]? =some x,fun i H=>∃xs,SqL K H a xs/\xs.length<=i⟩
noncomputable def ZI(K:Ka)(a:Addr):It:=
 ⟨fun i H=>∃xs x,SqT K H a xs/\xs[i]? =some x,fun i H x H'=>H'=H/\∀xs,SqT K H a xs->xs[i]? =some x,fun i H=>∃xs,SqT K H a xs/\xs.length<=i⟩
noncomputable def jd(lo:Int)(n:Nat):It:=⟨fun i _=>i<n,fun i H x H'=>H'=H/\x= .int (lo+i),fun i _=>n<=i⟩
theorem zfm{P:Program}{w:World}{K:Ka}{tg:Expr}(a it:Addr):Turn P w K tg (ZH K a) [it] it (fun i h=>h.IsListIter it a i) where
 mem:=by simp
 obj:=fun i h st b hb=>by
  have e:b=it:=by simpa using hb
  subst e;obtain⟨o,e,c,d⟩:=st;exact⟨o,e,fun v z=>by rw[d] at z;cases z⟩
 keep:=fun i h h' st k=>st.at fun o e=>k it (by simp) o e
 item:=by
  intro X hP hw hK hc i pins s σ H E I hf st hg;subst hP hw hK;obtain⟨xs,x,hq,hx⟩:=hg;obtain⟨its,rv,p,hz⟩:=I.list hq;obtain⟨u,hu,ru⟩:=rv.get hx;obtain⟨f0,f1,f2,f3,f4,f5⟩:=hf it (by simp);refine wpAny_pyNext_list_item st p.isList (x:=u) (by simpa using hu) fun h' st' sb=>?_
  have I1:Inv X pins σ H { s with heap:=h' }:=I.turned (t':=s.toks) (fun b o hb e=>(sb.2 b hb).trans e) f0 f1 f3 f4 f5;obtain⟨o,e,c,d⟩:=id st';exact⟨u,rfl,JH (s:={ s with heap:=h' }) e c d (by decide) ⟨x,H,I1,ru,⟨rfl,fun ys hy=>by rw[I.list_inj hy hq];exact hx⟩,st',fun b hb=>(hf b hb).1⟩⟩
 done:=by
  intro X hP hw hK hc i pins s σ H E I hf st hg;subst hP hw hK;obtain⟨xs,hq,hx⟩:=hg;obtain⟨its,rv,p,hz⟩:=I.list hq;obtain⟨f0,f1,f2,f3,f4,f5⟩:=hf it (by simp);have hl:=rv.length;exact wpAny_pyNext_list_end (I.ok.hd hc) st p.isList (by simp;omega) fun h' eb=>⟨rfl,I.turned (t':=s.toks) (fun b o hb e=>eb b o hb e) f0 f1 f3 f4 f5⟩
 self:=fun _ _ _ _ _ st h=>wpAny_pyIter_listiter st h
theorem zfn{P:Program}{w:World}{K:Ka}{tg:Expr}(a it:Addr):Turn P w K tg (ZI K a) [it] it (fun i h=>h.IsTupleIter it a i) where
 mem:=by simp
 obj:=fun i h st b hb=>by
  have e:b=it:=by simpa using hb
  subst e;obtain⟨o,e,c,d⟩:=st;exact⟨o,e,fun v z=>by rw[d] at z;cases z⟩
 keep:=fun i h h' st k=>st.at fun o e=>k it (by simp) o e
 item:=by
  intro X hP hw hK hc i pins s σ H E I hf st hg;subst hP hw hK;obtain⟨xs,x,hq,hx⟩:=hg;obtain⟨its,rv,p,hz⟩:=I.tuple hq;obtain⟨u,hu,ru⟩:=rv.get hx;obtain⟨f0,f1,f2,f3,f4,f5⟩:=hf it (by simp);refine wpAny_pyNext_tuple_item st (show s.heap.IsTuple a its.toArray from p) (x:=u) (by simpa using hu) fun h' st' sb=>?_
  have I1:Inv X pins σ H { s with heap:=h' }:=I.turned (t':=s.toks) (fun b o hb e=>(sb.2 b hb).trans e) f0 f1 f3 f4 f5;obtain⟨o,e,c,d⟩:=id st';exact⟨u,rfl,JH (s:={ s with heap:=h' }) e c d (by decide) ⟨x,H,I1,ru,⟨rfl,fun ys hy=>by rw[I.tuple_inj hy hq];exact hx⟩,st',fun b hb=>(hf b hb).1⟩⟩
 done:=by
  intro X hP hw hK hc i pins s σ H E I hf st hg;subst hP hw hK;obtain⟨xs,hq,hx⟩:=hg;obtain⟨its,rv,p,hz⟩:=I.tuple hq;obtain⟨f0,f1,f2,f3,f4,f5⟩:=hf it (by simp);have hl:=rv.length;exact wpAny_pyNext_tuple_end (I.ok.hd hc) st (show s.heap.IsTuple a its.toArray from p) (by simp;omega) fun h' eb=>⟨rfl,I.turned (t':=s.toks) (fun b o hb e=>eb b o hb e) f0 f1 f3 f4 f5⟩
 self:=fun _ _ _ _ _ st h=>wpAny_pyIter_tupleiter st h
theorem zfo{P:Program}{w:World}{K:Ka}{tg:Expr}(it:Addr)(lo:Int)(n:Nat):Turn P w K tg (jd lo n) [it] it (fun i h=>IsRangeIter h it (lo+(i:Nat)*1) ((n:Int)-(i:Nat)) 1) where
 mem:=by simp
 obj:=fun i h st b hb=>by
  have e:b=it:=by simpa using hb
  subst e
  exact⟨_,st,fun v z=>by
   have z':Data.fields _=Data.cell v:=z;cases z'⟩
 keep:=fun i h h' st k=>k it (by simp) _ st
 item:=by
  intro X hP hw hK hc i pins s σ H E I hf st hg;subst hP hw hK;obtain⟨f0,f1,f2,f3,f4,f5⟩:=hf it (by simp);have W:=Walks.range (prog:=X.prog) (w:=X.w) (I.ok.hd hc) it lo 1 n;refine W.item i s _ _ hg st fun v h' tk hv st' kk=>?_
  obtain⟨t,rfl⟩:=hv;have I1:Inv X pins σ H { s with heap:=h',toks:=tk }:=I.turned (fun b o hb e=>kk b o (by simpa using hb) e) f0 f1 f3 f4 f5;refine⟨_,rfl,JH (s:={ s with heap:=h',toks:=tk }) (n:="range_iterator") st' rfl rfl (by decide) ⟨.int (lo+i),H,I1,⟨t,?_⟩,⟨rfl,rfl⟩,st',fun b hb=>(hf b hb).1⟩⟩;rw[Int.mul_one]
 done:=by
  intro X hP hw hK hc i pins s σ H E I hf st hg;subst hP hw hK;obtain⟨f0,f1,f2,f3,f4,f5⟩:=hf it (by simp);exact wpAny_pyNext_range_end (I.ok.hd hc) st (by have:n<=i:=hg;omega) fun h' eb=>⟨rfl,I.turned (t':=s.toks) (fun b o hb e=>eb b o hb e) f0 f1 f3 f4 f5⟩
 self:=fun _ _ _ _ _ st h=>wpAny_pyIter_rangeiter st h
end L2
namespace L2
open PySem PySem.Spec PyProof.Rows
section
variable {X:Cx} {tg:Expr}
theorem qF{pins:List (Addr×Obj)}{σ:St}{H:Hp}{s:Shared}{R:It->Hp->Prop}{E:Value->Shared->Prop}{lo hi:Int}{t u v:Tok}{tk:Nat}(I:Inv X pins σ H s)(h1: -(2 ^ 62)<=lo)(h2:lo<2 ^ 62)(h3: -(2 ^ 62)<=hi)(h4:hi<2 ^ 62)
  (q:R (jd lo (hi-lo).toNat) H):wpAny (model X.prog X.w) X.A (pyIter (.ref s.heap.objs.size)) (qE X pins σ tg R) E { s with heap:=s.heap.push { cls:=.type "range",data:=.fields #[.int lo t,.int hi u,.int 1 v] },toks:=tk }:=by
 refine wpAny_pyIter_range (IsRange.new ..) (small_one h1 h2 h3 h4) ?_;have I1:Inv X pins σ H { s with heap:=s.heap.push { cls:=.type "range",data:=.fields #[.int lo t,.int hi u,.int 1 v] },toks:=tk }:=I.kept fun b o e=>Kn _ e
 refine⟨(s.heap.push { cls:=.type "range",data:=.fields #[.int lo t,.int hi u,.int 1 v] }).objs.size,[(s.heap.push { cls:=.type "range",data:=.fields #[.int lo t,.int hi u,.int 1 v] }).objs.size],_,_,H,rfl,
  I1.kept (t':=tk) fun b o e=>Kn _ e,zfo _ lo (hi-lo).toNat,?_,fun b hb=>?_,q⟩
 ·have e1:lo+((0:Nat):Int)*1=lo:=by simp
  have e2:(((hi-lo).toNat:Nat):Int)-((0:Nat):Int)=Builtin.Range.rangeSize lo hi 1:=by rw[rangeSize_one];split<;>omega
  show IsRangeIter _ _ (lo+((0:Nat):Int)*1) ((((hi-lo).toNat:Nat):Int)-((0:Nat):Int)) 1;rw[e1,e2];exact Heap.get?_push_size _ rfl
 ·have e:b=(s.heap.push { cls:=.type "range",data:=.fields #[.int lo t,.int hi u,.int 1 v] }).objs.size:=by simpa using hb
  subst e;exact I1.fpOk (Kg _) (I1.hok.fresh (Kg _))
noncomputable def zfp(ta:TA):TI:=fun σ H R=>ta σ H fun vs H1=>∃j:Int,vs=[.int j]/\ -(2 ^ 62)<=j/\j<2 ^ 62/\R (jd 0 j.toNat) H1
noncomputable def zfq(ta:TA):TI:=fun σ H R=>ta σ H fun vs H1=>∃i j:Int,vs=[.int i,.int j]/\(-(2 ^ 62)<=i/\i<2 ^ 62/\ -(2 ^ 62)<=j/\j<2 ^ 62)/\R (jd i (j-i).toNat) H1
theorem zfr{a:Expr}{ta:TA}{p pos:Pos}(hg:Gl X "range")(hm:X.mg "range"=none)(ha:PA X [a] ta)(hs:starEach [a] X.env=[(false,eval a X.env)]:=by rfl):PI X tg (.Call (.Name "range" p) [a] [] pos) (zfp ta):=by
 intro pins s σ H R I h;refine Call_ (ZG I hg hm boot_range (PyProof.Rows.callWith_type1 (zF (ha pos pins s σ H _ I h) fun us s1 ⟨vs,H1,I1,r1,q1⟩=>?_) hs rfl));obtain⟨j,e,q1,q2,q⟩:=q1;subst e
 cases r1 with
 |cons r rr=>
  cases rr;obtain⟨t,rfl⟩:=r;exact call_range_1 (qF I1 (by omega) (by omega) q1 q2 (by simpa using q))
theorem zfs{a b:Expr}{ta:TA}{p pos:Pos}(hg:Gl X "range")(hm:X.mg "range"=none)(ha:PA X [a,b] ta)(hs:starEach [a,b] X.env=[(false,eval a X.env),(false,eval b X.env)]:=by rfl)(hs2:starEach [b] X.env=[(false,eval b X.env)]:=by rfl):
  PI X tg (.Call (.Name "range" p) [a,b] [] pos) (zfq ta):=by
 intro pins s σ H R I h;refine Call_ (ZG I hg hm boot_range (PyProof.Rows.callWith_type1 (zF (ha pos pins s σ H _ I h) fun us s1 ⟨vs,H1,I1,r1,q1⟩=>?_) (by rw[hs,hs2]) (by rw[hs2];rfl)));obtain⟨i,j,e,⟨q1,q2,q3,q4⟩,q⟩:=q1;subst e
 cases r1 with
 |cons r rr=>
  cases rr with
  |cons r' rr=>
   cases rr;obtain⟨t,rfl⟩:=r;obtain⟨t',rfl⟩:=r';exact call_range_2 (qF I1 q1 q2 q3 q4 q)
noncomputable def zft(wi:TI)(g:TG)(tb:TS):TS:=fun D σ H=>wi σ H fun J H1=>∃W:Nat->Nat->St->Hp->Prop,(∃m,W 0 m σ H1)/\∀i m σ H,W i m σ H->
 (J.stop i H/\D.nx σ H)\/(J.go i H/\∃N:St->Hp->Prop,(∀σ' H',N σ' H'->∃m',m'<m/\W (i+1) m' σ' H')/\∀x H',J.yld i H x H'->g x σ H' fun σ2 H2=>tb { D with nx:=N,ct:=N,bk:=D.nx } σ2 H2)
noncomputable def ZJ(fp:List Addr)(h:Heap):List (Addr×Obj):=fp.filterMap fun b=>(h.get? b).map fun o=>(b,o)
theorem Xo{fp:List Addr}{h:Heap}{b:Addr}{o:Obj}(hb:b∈fp)(e:h.get? b=some o):(b,o)∈ZJ fp h:=List.mem_filterMap.mpr ⟨b,hb,by rw[e];rfl⟩
theorem zfu{fp:List Addr}{h:Heap}{p:Addr×Obj}(hp:p∈ZJ fp h):p.1∈fp/\h.get? p.1=some p.2:=by
 obtain⟨b,hb,e⟩:=List.mem_filterMap.mp hp
 cases q:h.get? b with
 |none=>rw[q] at e;cases e
 |some o=>
  rw[q] at e;have e':(b,o)=p:=Kp e;subst e';exact⟨hb,q⟩
theorem Inv.pinned{pins:List (Addr×Obj)}{σ:St}{H:Hp}{s:Shared}{fp:List Addr}(I:Inv X pins σ H s)(hf: ∀b∈fp,wp X pins H b)(ho: ∀b∈fp,∃o,s.heap.get? b=some o/\∀v,o.data≠ .cell v):Inv X (pins++ZJ fp s.heap) σ H s:=
 I.pins_of fun p hp=>(List.mem_append.mp hp).elim (fun z=>I.pin p (Kq _ z)) fun z=>by
  obtain⟨hb,e⟩:=zfu z;obtain⟨f0,f1,f2,_⟩:=hf p.1 hb;obtain⟨o,e',d⟩:=ho p.1 hb;rw[e] at e';cases e';exact⟨e,f0,f1,f2,d⟩
theorem Inv.unpinned{pins pl:List (Addr×Obj)}{σ:St}{H:Hp}{s:Shared}(I:Inv X (pins++pl) σ H s):Inv X pins σ H s:=I.pins_of fun p hp=>I.pin p (Kq _ (Kr _ hp))
theorem qG{iter:Expr}{body:List Stmt}{wi:TI}{g:TG}{tb:TS}{pos:Pos}(hp:PassesOwn (model X.prog X.w) X.A X.env X.xe)(hc:X.calm=true)(hi:PI X tg iter wi)(hg:PG X tg g)(hb:PSs X body tb)
  (hs: ∀x,foldedSetIterable iter X.env x=pure x:=by intro _;rfl):PS X (.For tg iter body [] pos) (zft wi g tb):=by
 intro pins s σ H D I h;refine wpAny_For (zF (hi pins s σ H _ I h) fun v s1 h1=>zF h1 fun itv s2 h2=>?_) hs;obtain⟨it,fp,tn,J,H2,e,I2,T,st2,f2,W,⟨m0,w0⟩,turn⟩:=h2;subst e;have stat: ∀{H':Hp},(∀b∈fp,H' b=none)->∀b∈fp,wp X pins H' b:=fun hn b hb=>⟨hn b hb,(f2 b hb).2⟩
 refine codeAny_forLoop_any (fun n s'=>∃i σ' H',Inv X pins σ' H' s'/\tn i s'.heap/\(∀b∈fp,H' b=none)/\W i n σ' H') ?_ m0 ⟨0,σ,H2,I2,st2,fun b hb=>(f2 b hb).1,w0⟩;rintro n s3 ⟨i,σ3,H3,I3,st3,fr3,w3⟩;rcases turn i n σ3 H3 w3 with ⟨stop,qn⟩|⟨go,N,hN,step⟩
 ·refine wpAny_passesOwn hp (zF (T.done X rfl rfl rfl hc i pins s3 σ3 H3 X.xe I3 (stat fr3) st3 stop) fun r s4 ⟨hr,I4⟩=>?_)
  subst hr;exact wpAny_execs_nil ⟨σ3,H3,I4,qn⟩
 ·refine wpAny_passesOwn hp (zF (T.item X rfl rfl rfl hc i pins s3 σ3 H3 X.xe I3 (stat fr3) st3 go) fun r s4 ⟨u,hr,h4⟩=>?_)
  subst hr;refine wpAny_passesOwn hp (zF h4 fun _ s5 ⟨x,H5,I5,r5,y5,st5,fr5⟩=>?_);have I5':=I5.pinned (stat fr5) (T.obj _ _ st5);refine wpAny_passesOwn hp (zF (hg _ s5 σ3 H5 x u _ I5' r5 (step x H5 y5)) fun _ s6 ⟨σ6,H6,I6,q6⟩=>?_);refine wpAny_passesOwn hp (zF (hb _ s6 σ6 H6 _ I6 q6) fun f s7 q7=>?_)
  have again: ∀{σ7:St} {H7:Hp},Inv X (pins++ZJ fp s5.heap) σ7 H7 s7->N σ7 H7->∃m,m<n/\∃i σ' H',Inv X pins σ' H' s7/\tn i s7.heap/\(∀b∈fp,H' b=none)/\W i m σ' H':=fun {σ7 H7} I7 n7=>by
   obtain⟨m',hm,w7⟩:=hN σ7 H7 n7;refine⟨m',hm,i+1,σ7,H7,I7.unpinned,T.keep _ _ _ st5 fun b hb o e=>(I7.pin (b,o) (Kq _ (Kq _ (Xo hb e)))).1,fun b hb=>?_,w7⟩;obtain⟨o,e,d⟩:=T.obj _ _ st5 b hb;exact (I7.pin (b,o) (Kq _ (Kq _ (Xo hb e)))).2.1
  cases f with
  |next=>obtain⟨σ7,H7,I7,n7⟩:=q7;exact again I7 n7
  |cont=>obtain⟨σ7,H7,I7,n7⟩:=q7;exact again I7 n7
  |brk=>obtain⟨σ7,H7,I7,q7⟩:=q7;exact⟨σ7,H7,I7.unpinned,q7⟩
  |ret v=>obtain⟨x7,σ7,H7,I7,r7,q7⟩:=q7;exact⟨x7,σ7,H7,I7.unpinned,r7,q7⟩
end
end L2
namespace L2
open PySem PySem.Spec PyProof.Rows
noncomputable abbrev R2:=V->V->Hp->VK->Prop
noncomputable def OpR(X:Cx)(f:Value->Value->Sem Value)(r:R2):Prop:=
 ∀(pins:List (Addr×Obj)) (s:Shared) (σ:St) (H:Hp) (x y:V) (v u:Value) (Q:VK),Inv X pins σ H s->RelV x v->RelV y u->r x y H Q->
  wpAny (model X.prog X.w) X.A (f v u) (EP X pins σ Q) X.xe s
noncomputable def CallR(X:Cx)(f:Value)(r:List V->Hp->VK->Prop):Prop:=
 ∀(pins:List (Addr×Obj)) (s:Shared) (σ:St) (H:Hp) (xs:List V) (us:List Value) (Q:VK),Inv X pins σ H s->Vals xs us->r xs H Q->
  wpAny (model X.prog X.w) X.A (call f us) (EP X pins σ Q) X.xe s
noncomputable def zfv(X:Cx)(r:V->Hp->(Bool->Hp->Prop)->Prop):Prop:=
 ∀(pins:List (Addr×Obj)) (s:Shared) (σ:St) (H:Hp) (x:V) (v:Value) (Q:Bool->Hp->Prop),Inv X pins σ H s->RelV x v->r x H Q->
  wpAny (model X.prog X.w) X.A (truthy v) (TP X pins σ Q) X.xe s
noncomputable def ZK(r:R2)(ta tb:TE):TE:=fun σ H Q=>ta σ H fun x H1=>tb σ H1 fun y H2=>r x y H2 Q
noncomputable def rI(C:Int->Int->Prop)(g:Int->Int->V):R2:=fun x y H Q=>∃i j,x= .int i/\y= .int j/\C i j/\Q (g i j) H
noncomputable def vF(g:Int->Int->V):R2:=fun x y H Q=>∃i j,x= .int i/\y= .int j/\Q (g i j) H
section
variable {X:Cx} {a b c:Expr} {ta tb tc:TE} {pos:Pos}
theorem JI(ha:PE X a ta)(hb:PE X b tb){pins:List (Addr×Obj)}{s:Shared}{σ:St}{H:Hp}{R:V->V->Hp->Prop}(I:Inv X pins σ H s)
  (h:ta σ H fun x H1=>tb σ H1 fun y H2=>R x y H2) {Q:Value->Shared->Prop} {f:Value->Value->Sem Value}
  (hf: ∀v u s2 x y H2,Inv X pins σ H2 s2->RelV x v->RelV y u->R x y H2->wpAny (model X.prog X.w) X.A (f v u) Q X.xe s2):
  wpAny (model X.prog X.w) X.A (eval a X.env) (fun v s₁=>wpAny (model X.prog X.w) X.A (eval b X.env) (fun u s₂=>wpAny (model X.prog X.w) X.A (f v u) Q X.xe s₂) X.xe s₁) X.xe s:=by
 refine zF (ha pins s σ H _ I h) fun v s1 ⟨x,H1,I1,r1,q1⟩=>?_
 refine zF (hb pins s1 σ H1 _ I1 q1) fun u s2 ⟨y,H2,I2,r2,q2⟩=>?_
 exact hf v u s2 x y H2 I2 r1 r2 q2
theorem qH{op:Operator}{r:R2}(ho:OpR X (binaryOp op) r)(ha:PE X a ta)(hb:PE X b tb):PE X (.BinOp a op b pos) (ZK r ta tb):=by
 intro pins s σ H Q I h;exact wpAny_BinOp (JI ha hb I h fun v u s2 x y H2 I2 rx ry q=>ho pins s2 σ H2 x y v u Q I2 rx ry q)
theorem JJ{f:Value->Value->Sem Value}{C:Int->Int->Prop}{g:Int->Int->Int}
  (rule: ∀(i j:Int) (t u:Tok) (s:Shared) (Q:Value->Shared->Prop) (E:Value->Shared->Prop),C i j->Q (.int (g i j) s.toks) { s with toks:=s.toks+1 }->wpAny (model X.prog X.w) X.A (f (.int i t) (.int j u)) Q E s):
  OpR X f (rI C fun i j=>.int (g i j)):=by
 intro pins s σ H x y v u Q I rx ry h;obtain⟨i,j,rfl,rfl,hc,q⟩:=h;obtain⟨t,rfl⟩:=rx;obtain⟨t',rfl⟩:=ry;exact rule i j t t' s _ _ hc ⟨.int (g i j),H,I.tok _,⟨_,rfl⟩,q⟩
theorem qI{f:Value->Value->Sem Value}{g:Int->Int->Int}
  (rule: ∀(i j:Int) (t u:Tok) (s:Shared) (Q:Value->Shared->Prop) (E:Value->Shared->Prop),Q (.int (g i j) s.toks) { s with toks:=s.toks+1 }->wpAny (model X.prog X.w) X.A (f (.int i t) (.int j u)) Q E s):
  OpR X f (vF fun i j=>.int (g i j)):=by
 intro pins s σ H x y v u Q I rx ry h;obtain⟨i,j,rfl,rfl,q⟩:=h;obtain⟨t,rfl⟩:=rx;obtain⟨t',rfl⟩:=ry;exact rule i j t t' s _ _ ⟨.int (g i j),H,I.tok _,⟨_,rfl⟩,q⟩
theorem Xp{f:Value->Value->Sem Value}{g:Int->Int->Bool}
  (rule: ∀(i j:Int) (t u:Tok) (s:Shared) (Q:Value->Shared->Prop) (E:Value->Shared->Prop),Q (.bool (g i j)) s->wpAny (model X.prog X.w) X.A (f (.int i t) (.int j u)) Q E s):
  OpR X f (vF fun i j=>.bl (g i j)):=by
 intro pins s σ H x y v u Q I rx ry h;obtain⟨i,j,rfl,rfl,q⟩:=h;obtain⟨t,rfl⟩:=rx;obtain⟨t',rfl⟩:=ry;exact rule i j t t' s _ _ ⟨.bl (g i j),H,I,rfl,q⟩
noncomputable def zfw(i j:Int):Prop:=0<j/\j<1073741824
noncomputable def CMul(i j:Int):Prop:=(-(2 ^ 64)<i/\i<2 ^ 64)\/(-(2 ^ 64)<j/\j<2 ^ 64)
theorem CMul.ok{i j:Int}(h:CMul i j):IntMulOk i j:=by
 rcases h with ⟨h1,h2⟩|⟨h1,h2⟩
 ·exact .of_left (intBits_le_64 h1 h2)
 ·exact .of_right (intBits_le_64 h1 h2)
theorem zfx:OpR X (binaryOp .Add) (vF fun i j=>.int (i+j)):=qI fun _ _ _ _ _ _ _ q=>add_int q
theorem zfy:OpR X (binaryOp .Sub) (vF fun i j=>.int (i-j)):=qI fun _ _ _ _ _ _ _ q=>sub_int q
theorem zfz:OpR X (binaryOp .Mult) (rI CMul fun i j=>.int (i*j)):=JJ fun _ _ _ _ _ _ _ hc q=>mul_int q hc.ok
theorem zfA:OpR X (binaryOp .FloorDiv) (rI zfw fun i j=>.int (i/j)):=JJ fun i j _ _ _ _ _ hc q=>by
 have h1:(0:Int)<j:=hc.1;have h2:j<1073741824:=hc.2;exact floordiv_int (by omega) (by rw[Int.fdiv_eq_ediv_of_nonneg i (by omega)];exact q) (.inl (PyProof.noPylong_small (by omega)))
theorem zfB:OpR X (binaryOp .Mod) (rI (fun _ j=>0<j) fun i j=>.int (i%j)):=JJ fun i j _ _ _ _ _ hc q=>by
 have h1:(0:Int)<j:=hc;exact mod_int' (by omega) (by rw[Int.fmod_eq_emod_of_nonneg i (by omega)];exact q)
end
section
variable {X:Cx} {a b c:Expr} {ta tb tc:TE} {pos:Pos}
theorem zfC:OpR X (compareOp .Lt) (vF fun i j=>.bl (decide (i<j))):=Xp fun _ _ _ _ _ _ _ q=>lt_int q
theorem zfD:OpR X (compareOp .LtE) (vF fun i j=>.bl (decide (i<=j))):=Xp fun _ _ _ _ _ _ _ q=>le_int q
theorem zfE:OpR X (compareOp .Gt) (vF fun i j=>.bl (decide (j<i))):=Xp fun _ _ _ _ _ _ _ q=>gt_int q
theorem zfF:OpR X (compareOp .GtE) (vF fun i j=>.bl (decide (j<=i))):=Xp fun _ _ _ _ _ _ _ q=>ge_int q
theorem OpR.or{f:Value->Value->Sem Value}{r r':R2}(h:OpR X f r)(h':OpR X f r'):OpR X f (fun x y H Q=>r x y H Q\/r' x y H Q):=by
 intro pins s σ H x y v u Q I rx ry q;rcases q with q|q
 ·exact h pins s σ H x y v u Q I rx ry q
 ·exact h' pins s σ H x y v u Q I rx ry q
theorem yT(b:Expr){op:CmpOp}(h:op≠ .In:=by decide)(h2:op≠ .NotIn:=by decide):behindInMarks op b=false:=by
 have e1:(op==CmpOp.In)=false:=by cases op<;>first|rfl|exact KG rfl h
 have e2:(op==CmpOp.NotIn)=false:=by cases op<;>first|rfl|exact KG rfl h2
 cases b<;>simp[behindInMarks,e1,e2]
theorem qJ{op:CmpOp}{r:R2}(ho:OpR X (compareOp op) r)(ha:PE X a ta)(hb:PE X b tb)(hm:behindInMarks op b=false):PE X (.Compare a [op] [b] pos) (ZK r ta tb):=by
 intro pins s σ H Q I h;exact wpAny_Compare1 (JI ha hb I h fun v u s2 x y H2 I2 rx ry q=>ho pins s2 σ H2 x y v u Q I2 rx ry q) hm
noncomputable def qK(t:TE):TT:=fun σ H Q=>t σ H fun x H'=>∃k,x= .bl k/\Q k H'
theorem zfG{op:CmpOp}{r:R2}(ho:OpR X (compareOp op) r)(ha:PE X a ta)(hb:PE X b tb)(hm:behindInMarks op b=false):PT X (.Compare a [op] [b] pos) (qK (ZK r ta tb)):=by
 intro pins s σ H Q I h
 refine wpAny_isTrue_Compare1 (zF (ha pins s σ H _ I h) fun v s1 ⟨x,H1,I1,r1,q1⟩=>zF (hb pins s1 σ H1 _ I1 q1) fun u s2 ⟨y,H2,I2,r2,q2⟩=>
  zF (ho pins s2 σ H2 x y v u _ I2 r1 r2 q2) fun c s3 ⟨z,H3,I3,r3,k,e,q3⟩=>?_) hm
 subst e;cases r3;exact wpAny_truthy_bool ⟨H3,I3,q3⟩
noncomputable def qL(r r':R2)(ta tb tc:TE):TE:=fun σ H Q=>ta σ H fun x H1=>tb σ H1 fun y H2=>r x y H2 fun z H3=>∃k,z= .bl k/\
 (if k=true then tc σ H3 fun w' H4=>r' y w' H4 Q else Q (.bl false) H3)
theorem zfH{op op':CmpOp}{r r':R2}(ho:OpR X (compareOp op) r)(ho':OpR X (compareOp op') r')(ha:PE X a ta)(hb:PE X b tb)(hc:PE X c tc)
  (hm:lastMarks [op,op'] [b,c]=false:=by with_unfolding_all rfl):PE X (.Compare a [op,op'] [b,c] pos) (qL r r' ta tb tc):=by
 intro pins s σ H Q I h
 refine Compare_chain (zF (ha pins s σ H _ I h) fun v s1 ⟨x,H1,I1,r1,q1⟩=>chain_link (zF (hb pins s1 σ H1 _ I1 q1) fun u s2 ⟨y,H2,I2,r2,q2⟩=>
  zF (ho pins s2 σ H2 x y v u _ I2 r1 r2 q2) fun d s3 ⟨z,H3,I3,r3,k,e,q3⟩=>?_)) hm
 subst e;cases r3;refine wpAny_truthy_bool ?_
 cases k with
 |false=>exact ite_ff ⟨.bl false,H3,I3,rfl,q3⟩
 |true=>exact ite_tt (chain_last (zF (hc pins s3 σ H3 _ I3 q3) fun w' s4 ⟨z',H4,I4,r4,q4⟩=>ho' pins s4 σ H4 y z' u w' Q I4 r2 r4 q4))
theorem zfI{op op':CmpOp}{r r':R2}(ho:OpR X (compareOp op) r)(ho':OpR X (compareOp op') r')(ha:PE X a ta)(hb:PE X b tb)(hc:PE X c tc)
  (hm:lastMarks [op,op'] [b,c]=false:=by with_unfolding_all rfl):PT X (.Compare a [op,op'] [b,c] pos) (qK (qL r r' ta tb tc)):=by
 intro pins s σ H Q I h
 refine isTrue_chain (zF (ha pins s σ H _ I h) fun v s1 ⟨x,H1,I1,r1,q1⟩=>test_link (zF (hb pins s1 σ H1 _ I1 q1) fun u s2 ⟨y,H2,I2,r2,q2⟩=>
  zF (ho pins s2 σ H2 x y v u _ I2 r1 r2 q2) fun d s3 ⟨z,H3,I3,r3,k,e,q3⟩=>?_)) hm
 subst e;cases r3;refine wpAny_truthy_bool ?_
 cases k with
 |false=>
  obtain⟨k',e',q'⟩:=q3;cases e';exact ite_ff ⟨H3,I3,q'⟩
 |true=>
  refine ite_tt (test_last (zF (hc pins s3 σ H3 _ I3 q3) fun w' s4 ⟨z',H4,I4,r4,q4⟩=>zF (ho' pins s4 σ H4 y z' u w' _ I4 r2 r4 q4) fun d' s5 ⟨z2,H5,I5,r5,k2,e2,q5⟩=>?_));subst e2;cases r5;exact wpAny_truthy_bool ⟨H5,I5,q5⟩
noncomputable def JK(K:Ka)(x:V)(H:Hp)(k:Bool):Prop:=
 match x with
 | .non=>k=false
 | .bl b=>k=b
 | .int i=>k=(i != 0)
 | .str y=>y.length<=sizeLine/\k=((y.length:Int) != 0)
 | .byt y=>y.size<=sizeLine/\k=((y.size:Int) != 0)
 | .ref p=>(∃xs,SqL K H p xs/\k= !xs.isEmpty)\/(∃xs,SqT K H p xs/\k= !xs.isEmpty)\/∃kvs,H p=some (.dK kvs)/\k= !kvs.isEmpty
 |_=>False
theorem zfJ{κ:Type}{kvs:List (κ×V)}{vs:List (κ×Value)}(r:KV kvs vs):(!vs.isEmpty)= !kvs.isEmpty:=by
 cases r<;>rfl
theorem qM{xs:List V}{its:List Value}(r:Vals xs its):(!its.toArray.isEmpty)= !xs.isEmpty:=by
 cases r<;>simp
theorem Xq:(sizeLine:Nat)<2 ^ 63:=by rw[KI];decide
theorem zfK:zfv X (fun x H Q=>∃k,JK X.K x H k/\Q k H):=by
 intro pins s σ H x v Q I rx h;obtain⟨k,e,q⟩:=h;have hl:=Xq;have hs:sizeLine=16777216:=KI
 cases x with
 |non=>
  cases rx;have e':k=false:=e;subst e';exact truthy_none ⟨H,I,q⟩
 |bl b=>
  cases rx;have e':k=b:=e;subst e';exact wpAny_truthy_bool ⟨H,I,q⟩
 |int i=>
  obtain⟨t,rfl⟩:=rx;have e':k=(i != 0):=e;subst e';exact PySem.P.truthy_int ⟨H,I,q⟩
 |str y=>
  obtain⟨t,rfl⟩:=rx;obtain⟨hy,e'⟩:y.length<=sizeLine/\k=((y.length:Int) != 0):=e;subst e';exact PySem.P.truthy_str (by omega) ⟨H,I.tok _,q⟩
 |byt y=>
  obtain⟨t,rfl⟩:=rx;obtain⟨hy,e'⟩:y.size<=sizeLine/\k=((y.size:Int) != 0):=e;subst e';exact PySem.W.truthy_bytes (by omega) ⟨H,I.tok _,q⟩
 |ref p=>
  cases rx;have e':(∃xs,SqL X.K H p xs/\k= !xs.isEmpty)\/(∃xs,SqT X.K H p xs/\k= !xs.isEmpty)\/∃kvs,H p=some (.dK kvs)/\k= !kvs.isEmpty:=e;rcases e' with ⟨xs,hx,e'⟩|⟨xs,hx,e'⟩|⟨kvs,hx,e'⟩
  ·subst e'
   obtain⟨its,r,pl,hz⟩:=I.list hx;have hlen:=r.length;exact wpAny_truthy_list pl.isList (by simp only[List.size_toArray];omega) ⟨H,I.tok _,by rw[qM r];exact q⟩
  ·subst e'
   obtain⟨its,r,pl,hz⟩:=I.tuple hx;have hlen:=r.length;exact truthy_tuple pl (by simp only[List.size_toArray];omega) ⟨H,I.tok _,by rw[qM r];exact q⟩
  ·subst e'
   obtain⟨hz,hS,vs,r,m⟩:kvs.length<=sizeLine/\(p==sysModules)=false/\∃vs,KV kvs vs/\s.heap.DictOf (xg X.prog X.w) p vs:=I.hok p _ hx;have hlen:kvs.length=vs.length:=Paired.length r;exact wpAny_truthy_dict hS m (by omega) ⟨H,I.tok _,by rw[zfJ r];exact q⟩
 |_=>exact (show False from e).elim
theorem qN(ha:PE X a ta)(he: ∀whole,isTrue a X.env whole=(do let v <-whole;standAt a.pos;holding [v] (truthy v))):
  PT X a (fun σ H Q=>ta σ H fun x H'=>∃k,JK X.K x H' k/\Q k H'):=by
 intro pins s σ H Q I h;exact isTrue_plain (zF (ha pins s σ H _ I h) fun v s1 ⟨x,H1,I1,r1,q1⟩=>zfK pins s1 σ H1 x v Q I1 r1 q1) (he _)
theorem wT{x:V}{us:List Value}(r:Vals [x] us): ∃u,us=[u]/\RelV x u:=by
 cases r with
 |cons r1 r2=>cases r2;exact⟨_,rfl,r1⟩
theorem JL{x y:V}{us:List Value}(r:Vals [x,y] us): ∃u w',us=[u,w']/\RelV x u/\RelV y w':=by
 cases r with
 |cons r1 r2=>
  cases r2 with
  |cons r3 r4=>cases r4;exact⟨_,_,rfl,r1,r3⟩
theorem zfL:CallR X (.builtin "abs") (fun xs H Q=>∃i,xs=[.int i]/\Q (.int (if i<0 then -i else i)) H):=by
 intro pins s σ H xs us Q I r h;obtain⟨i,rfl,q⟩:=h;obtain⟨u,rfl,t,rfl⟩:=wT r;exact call_abs_int fun u tk=>⟨.int (if i<0 then -i else i),H,I.tok _,⟨_,rfl⟩,q⟩
theorem zfM(hc:X.calm=true):CallR X (.builtin "max") (fun xs H Q=>∃i j,xs=[.int i,.int j]/\Q (.int (if j>i then j else i)) H):=by
 intro pins s σ H xs us Q I r h;obtain⟨i,j,rfl,q⟩:=h;obtain⟨u,w',rfl,⟨t,rfl⟩,⟨t',rfl⟩⟩:=JL r;refine max_two_ints (I.ok.hd hc) fun h' tk k=>⟨_,H,I.kept k,?_,q⟩
 by_cases hj:j>i
 ·rw[if_pos hj,if_pos hj];exact⟨_,rfl⟩
 ·rw[if_neg hj,if_neg hj];exact⟨_,rfl⟩
theorem zfN(hc:X.calm=true):CallR X (.builtin "min") (fun xs H Q=>∃i j,xs=[.int i,.int j]/\Q (.int (if j<i then j else i)) H):=by
 intro pins s σ H xs us Q I r h;obtain⟨i,j,rfl,q⟩:=h;obtain⟨u,w',rfl,⟨t,rfl⟩,⟨t',rfl⟩⟩:=JL r;refine min_two_ints (I.ok.hd hc) fun h' tk k=>⟨_,H,I.kept k,?_,q⟩
 by_cases hj:j<i
 ·rw[if_pos hj,if_pos hj];exact⟨_,rfl⟩
 ·rw[if_neg hj,if_neg hj];exact⟨_,rfl⟩
end
end L2
namespace L2
open PySem PySem.Spec PyProof.Rows
structure ObjM (h:Heap)(x dx C:Addr)(mA:Str->Option Value):Prop where
 obj:h.get? x=some (PySem.W.instObj C dx)
 ns:h.Ns1 dx mA
 ne:dx≠x
theorem zfO{h:Heap}{dx:Addr}{mA:Str->Option Value}(n:h.Ns1 dx mA): ∃od,h.get? dx=some od/\∀name,PySem.W.lookIn name od=some (mA name):=by
 obtain⟨o,es,ep,ho,hd,hk,_,hm⟩:=n;refine⟨o,ho,fun name=>?_⟩;have e:=hm name;unfold nsFind findBy at e;rw[<-Array.find?_toList] at e;unfold PySem.W.lookIn;rw[hd];dsimp only;split
 ·rename_i y q
  rw[q] at e;exact congrArg some e
 ·rename_i q
  rw[q] at e
  have a:es.toList.any (·.refKey)=false:=by
   rw[List.any_eq_false];intro y hy;obtain⟨z,t,hkey⟩:=hk y (Array.mem_toList_iff.mp hy);simp[DictEntry.refKey,hkey]
  have a': ¬es.toList.any (·.refKey)=true:=by rw[a];exact Ko
  rw[if_neg a'];exact congrArg some e
theorem ObjM.look{h:Heap}{x dx C:Addr}{mA:Str->Option Value}(I:ObjM h x dx C mA): ∃od,PySem.W.InstAt h x (PySem.W.instObj C dx) C (some od)/\∀name,PySem.W.lookIn name od=some (mA name):=
 let ⟨od,ho,hl⟩:=zfO I.ns
 ⟨od,⟨I.obj,rfl,rfl,ho⟩,hl⟩
theorem RelO.some_of{v:V}{o:Option Value}(r:RelO (some v) o): ∃u,o=some u/\RelV v u:=by
 cases o with
 |none=>exact (show False from r).elim
 |some u=>exact⟨u,rfl,r⟩
section
variable {P:Program} {w:World} {H H':Hp} {h h':Heap} {a C dx:Addr} {fs fs':List (Str×V)}
theorem ins_get(hok:HOk P w H h)(e:H a=some (.ins C dx fs)): ∃mA,ObjM h a dx C mA/\(∀f,RelO (fs.lookup f) (mA f))/\PySem.Within mA (fs.map (·.1))/\fs.length<=1000/\H dx=some (.own a):=by
 obtain⟨d,z,ne,ob,mA,n,r,q⟩:=(show ObjOk P w H h a (.ins C dx fs) from hok a _ e);exact⟨mA,⟨ob,n,ne⟩,r,q,z,d⟩
end
structure Cls (K:Ka)(C:Addr):Prop where
 pg:PySem.W.plainGet K C Str.empty=true
 hd:PySem.W.hasDictIn K C=true
 po:PySem.W.plainOver K C=true
 sa:PySem.W.findIn K (.ref C) "__setattr__"=some (some (.builtin "object.__setattr__"))
theorem Cls.get{K:Ka}{C:Addr}(c:Cls K C)(f:Str):PySem.W.plainGet K C f=true:=c.pg
section
variable {X:Cx} {pins:List (Addr×Obj)} {σ:St} {H:Hp} {s:Shared} {a C dx:Addr} {fs:List (Str×V)} {f:Str} {v:V} {A:Around} {E:Value->Shared->Prop}
theorem Inv.made(I:Inv X pins σ H s):Inv X pins σ (zL (zL H s.heap.objs.size (.own (s.heap.objs.size+1))) (s.heap.objs.size+1) (.ins C s.heap.objs.size []))
  { s with heap:=(s.heap.push PySem.W.emptyDict).push (PySem.W.instObj C s.heap.objs.size) }:=by
 have e1:(s.heap.push PySem.W.emptyDict).get? s.heap.objs.size=some PySem.W.emptyDict:=Heap.get?_push_size s.heap rfl
 have e2:((s.heap.push PySem.W.emptyDict).push (PySem.W.instObj C s.heap.objs.size)).get? (s.heap.objs.size+1)=some (PySem.W.instObj C s.heap.objs.size):=by
  have:=Heap.get?_push_size (s.heap.push PySem.W.emptyDict) (o:=PySem.W.instObj C s.heap.objs.size) rfl
  rwa [Heap.size_push] at this
 have e3:(s.heap.push PySem.W.emptyDict).Ns s.heap.objs.size (fun _=>none):=⟨PySem.W.emptyDict, #[],_,e1,rfl,(fun e he=>KG he (by simp)),fun _=>rfl⟩;have I1:=I.laid (a:=s.heap.objs.size) (o:=.own (s.heap.objs.size+1)) (h':=s.heap.push PySem.W.emptyDict) (t':=s.toks) (fun b u q=>Kn _ q) (Kg _) ⟨_,e1⟩;refine I1.laid (a:=s.heap.objs.size+1) (o:=.ins C s.heap.objs.size []) (t':=s.toks) (fun b u q=>Kn _ q) (Nat.le_of_eq (Heap.size_push _ _)) ?_;have ne:s.heap.objs.size≠s.heap.objs.size+1:=Ki (Nat.lt_succ_self _);refine⟨by rw[yp ne,xI],Nat.zero_le _,ne,e2,fun _=>none,(Heap.Ns1.of_empty e3).at fun o q=>Kn _ q,fun _=>True.intro,fun y hy=>KG rfl hy⟩
end
end L2
namespace L2
open PySem PySem.Spec PyProof.Rows
structure Room (k:Nat)(A:Around):Prop where
 hd:A.handled=none
 dp:A.depth+3*k+5<recursionLimit
 un:A.units+16*k+200<cLine
theorem Room.mono{j k:Nat}{A:Around}(r:Room k A)(h:j<=k):Room j A:=⟨r.hd,by have:=r.dp;omega,by have:=r.un;omega⟩
theorem Room.deeper{k:Nat}{A:Around}(r:Room (k+1) A)(env:Env):Room k (A.deeper env):=
 ⟨r.hd,by have:=r.dp;show A.depth+1+3*k+5<_;omega,by have:=r.un;show A.units+3+16*k+200<_;omega⟩
theorem Room.in1{k:Nat}{A:Around}(r:Room (k+1) A):Room k A.in1:=
 ⟨r.hd,by have:=r.dp;show A.depth+3*k+5<_;omega,by have:=r.un;show A.units+1+16*k+200<_;omega⟩
theorem Room.depth{k:Nat}{A:Around}(r:Room k A):A.depth<recursionLimit:=by have:=r.dp;omega
theorem Room.units{k:Nat}{A:Around}(r:Room k A):A.units+64<cLine:=by have:=r.un;omega
noncomputable def zfP:TA:=fun _ H Q=>Q [] H
noncomputable def zfQ(ta:TE)(tr:TA):TA:=fun σ H Q=>ta σ H fun x H1=>tr σ H1 fun xs H2=>Q (x::xs) H2
section
variable {X:Cx} {e:Expr} {es:List Expr} {te:TE} {t:TA} {pos:Pos}
theorem vG:PA X [] zfP:=fun _ _ _ _ H Q I h=>Calls.spliced_nil ⟨[],H,I,.nil,h⟩
theorem xU(ha:PE X e te)(hr:PA X es t)(hs:starEach (e::es) X.env=(false,eval e X.env)::starEach es X.env:=by rfl):PA X (e::es) (zfQ te t):=by
 intro pos pins s σ H Q I h;rw[hs];show wpAny _ _ (spliced ((false,eval e X.env)::backTo pos (starEach es X.env))) _ _ s;refine Calls.spliced_cons (zF (ha pins s σ H _ I h) fun u s1 ⟨x,H1,I1,r1,q1⟩=>?_);exact zF (hr pos pins s1 σ H1 _ I1 q1) fun us s2 ⟨xs,H2,I2,r2,q2⟩=>⟨x::xs,H2,I2,.cons r1 r2,q2⟩
noncomputable def zfR(t:TA):TE:=fun σ H Q=>t σ H fun xs H1=>xs.length<=sizeLine/\∀p,H1 p=none->Q (.ref p) (zL H1 p (.tup xs))
noncomputable def zfS(t:TA):TE:=fun σ H Q=>t σ H fun xs H1=>xs.length<=sizeLine/\∀p,H1 p=none->Q (.ref p) (zL H1 p (.lst xs))
theorem zfT{x1}(h:PA X es t):PE X (.Tuple es x1 pos) (zfR t):=by
 intro pins s σ H Q I hq;refine wpAny_Tuple_spliced (zF (h pos pins s σ H _ I hq) fun us s1 ⟨xs,H1,I1,r,z,q⟩=>⟨by rw[<-r.length];exact z,?_⟩);have hf:H1 s1.heap.objs.size=none:=I1.hok.fresh (Kg _);refine⟨.ref s1.heap.objs.size,zL H1 s1.heap.objs.size (.tup xs),I1.laid (t':=s1.toks) (fun b u e=>Kn _ e) (Kg _) ?_,rfl,q _ hf⟩;exact⟨z,us,r,⟨_,Heap.get?_push_size _ rfl,rfl,_,rfl⟩⟩
theorem zfU(h:PA X es t):PE X (.List es pos) (zfS t):=by
 intro pins s σ H Q I hq;refine wpAny_List_spliced (zF (h pos pins s σ H _ I hq) fun us s1 ⟨xs,H1,I1,r,z,q⟩=>⟨by rw[<-r.length];exact z,?_⟩);have hf:H1 s1.heap.objs.size=none:=I1.hok.fresh (Kg _);refine⟨.ref s1.heap.objs.size,zL H1 s1.heap.objs.size (.lst xs),I1.laid (t':=s1.toks) (fun b u e=>Kn _ e) (Kg _) ?_,rfl,q _ hf⟩;exact⟨z,us,0,r,Heap.get?_push_size _ rfl⟩
end
noncomputable abbrev Sp:=List V->Hp->VK->XK->Prop
noncomputable abbrev xV:=List Env->Hp->Shared->XK->Value->Shared->Prop
structure Env0 (P:Program)(w:World)(K:Ka)(mg:Str->Option Value)(base:Heap)(A:Around)(outer:List Env)(s:Shared)(H:Hp):Prop where
 frames:A.frames=some outer
 mod:Mod K mg base
 bs: ∀b o,base.get? b=some o->s.heap.get? b=some o/\H b=none
 bsz:base.objs.size<=s.heap.objs.size
 funs:s.heap.FunFrames base outer
 frf: ∀b∈wG outer,H b=none
 hok:HOk P w H s.heap
 bare:AllBare s.gens
noncomputable def CE(outer:List Env)(P:Program)(w:World)(H:Hp)(s:Shared)(Q:VK)(u:Value)(s':Shared):Prop:=
 ∃v H',s'.os=s.os/\AllBare s'.gens/\Un (wG outer) [] H H' s.heap s'.heap/\HOk P w H' s'.heap/\RelV v u/\Q v H'
noncomputable def CR(CX:xV)(outer:List Env)(P:Program)(w:World)(H:Hp)(s:Shared)(Q:VK)(E:XK)(r:Result)(s':Shared):Prop:=
 match r with
 | .ok (.ret u)=>CE outer P w H s Q u s'
 | .ok _=>False
 | .error e=>CX outer H s E e s'
structure FnOk (P:Program)(w:World)(K:Ka)(mg:Str->Option Value)(base:Heap)(CX:xV)(k:Nat)(f:Addr)(fd:FuncData)(ps:List Str)(sp:Sp):Prop where
 len: ∀vs H Q E,sp vs H Q E->vs.length=ps.length
 run: ∀(A:Around) (outer:List Env) (s:Shared) (H:Hp) (args:Args) (us:List Value) (vs:List V) (Q:VK) (E:XK),Room k A->Env0 P w K mg base A outer s H->BindsTo s fd args (ps.zip us)->Vals vs us->sp vs H Q E->
  codeAny (model P w) A (.call (.ref f) args) (CR CX outer P w H s Q E) s
theorem FnOk.mono{P:Program}{w:World}{K:Ka}{mg:Str->Option Value}{base:Heap}{CX:xV}{j k:Nat}{f:Addr}{fd:FuncData}{ps:List Str}{sp:Sp}(F:FnOk P w K mg base CX j f fd ps sp)(h:j<=k):
  FnOk P w K mg base CX k f fd ps sp:=⟨F.len,fun A outer s H args us vs Q E hr=>F.run A outer s H args us vs Q E (hr.mono h)⟩
theorem FnOk.imp{P:Program}{w:World}{K:Ka}{mg:Str->Option Value}{base:Heap}{CX:xV}{k:Nat}{f:Addr}{fd:FuncData}{ps:List Str}{sp sp':Sp}(F:FnOk P w K mg base CX k f fd ps sp)
  (h: ∀vs H Q E,sp' vs H Q E->sp vs H Q E):FnOk P w K mg base CX k f fd ps sp':=
 ⟨fun vs H Q E q=>F.len vs H Q E (h _ _ _ _ q),fun A outer s H args us vs Q E hr he hb hv hs=>F.run A outer s H args us vs Q E hr he hb hv (h _ _ _ _ hs)⟩
theorem Env0.in1{P:Program}{w:World}{K:Ka}{mg:Str->Option Value}{base:Heap}{A:Around}{outer:List Env}{s:Shared}{H:Hp}(e:Env0 P w K mg base A outer s H):
  Env0 P w K mg base A.in1 outer s H:=⟨e.frames,e.mod,e.bs,e.bsz,e.funs,e.frf,e.hok,e.bare⟩
section
variable {X:Cx} {pins:List (Addr×Obj)} {σ:St} {H:Hp} {s s':Shared}
theorem Inv.env0(I:Inv X pins σ H s):Env0 X.prog X.w X.K X.mg X.base X.A X.stack s H:=
 ⟨I.ok.frames,I.ok.mod,I.bs,Kh I.ok.bsz I.sz,I.stack,I.stkFree,I.hok,I.bare⟩
theorem Inv.after{Q:VK}{u:Value}(I:Inv X pins σ H s)(h:CE X.stack X.prog X.w H s Q u s'):EP X pins σ Q u s':=by
 obtain⟨v,H',os,bare,un,hok,r,q⟩:=h;obtain⟨hh,g,d,t,os'⟩:=s';obtain rfl:os'=s.os:=os;exact⟨v,H',I.call (h':=hh) (g':=g) (d':=d) (t':=t) (ch:=[]) un hok bare (fun b z=>KG z (by simp)),r,q⟩
end
noncomputable def zfV(sp:Sp)(dvs:List V)(E:XK)(t:TA):TE:=fun σ H Q=>t σ H fun vs H1=>sp (vs++dvs) H1 Q E
noncomputable def Binds(K:Ka)(fd:FuncData)(ps:List Str)(ds:List Value):Prop:=
 ∀(s:Shared) (us:List Value),K.In s.heap->(us++ds).length=ps.length->BindsTo s fd ⟨us,[]⟩ (ps.zip (us++ds))
theorem Binds.all{K:Ka}{fd:FuncData}{ps:List Str}(h: ∀us:List Value,us.length=ps.length->bindArgs fd ⟨us,[]⟩=pure (ps.zip us)):Binds K fd ps []:=fun s us _ hl=>by
 rw[List.append_nil] at hl⊢;exact .of_eq (h us hl)
noncomputable def JM(CX:xV)(X:Cx)(E:XK):Prop:=∀(pins:List (Addr×Obj)) (σ:St) (H:Hp) (s:Shared) (e:Value) (s':Shared),Inv X pins σ H s->CX X.stack H s E e s'->X.xe e s'
section
variable {X:Cx} {CX:xV} {k:Nat} {f C:Addr} {fd:FuncData} {ps:List Str} {sp:Sp} {dvs:List V} {ds:List Value} {E:XK} {x m:Str} {p pos apos:Pos} {e o:Expr} {es:List Expr} {ta:TE} {t:TA}
theorem zfW{pins:List (Addr×Obj)}{σ:St}{H:Hp}{s:Shared}{Q:VK}{us:List Value}{vs:List V}(F:FnOk X.prog X.w X.K X.mg X.base CX k f fd ps sp)(hr:Room k X.A)(hb:Binds X.K fd ps ds)(hd:Vals dvs ds)(hx:JM CX X E)
  (I:Inv X pins σ H s) (r:Vals vs us) (h:sp (vs++dvs) H Q E):wpAny (model X.prog X.w) X.A (call (.ref f) us) (EP X pins σ Q) X.xe s:=by
 have r2:Vals (vs++dvs) (us++ds):=r.append hd;have hl:(us++ds).length=ps.length:=by rw[<-r2.length];exact F.len _ _ _ _ h
 refine wpAny_call (codeAny_mono (F.run X.A X.stack s H ⟨us,[]⟩ (us++ds) (vs++dvs) Q E hr I.env0 (hb s us I.kIn hl) r2 h) fun r s' hq=>?_)
 cases r with
 |error e=>exact hx pins σ H s e s' I hq
 |ok fl=>
  cases fl with
  |ret u=>exact I.after hq
  |next=>exact False.elim hq
  |brk=>exact False.elim hq
  |cont=>exact False.elim hq
theorem qO(F:FnOk X.prog X.w X.K X.mg X.base CX k f fd ps sp)(hr:Room k X.A)(hg:Gl X x)(hm:X.mg x=some (.ref f))(hk:PySem.W.keepIn X.K (.ref f)=true)(hb:Binds X.K fd ps ds)(hd:Vals dvs ds)(hx:JM CX X E)
  (ha:PA X (e::es) t) (hdb:(x==("__debug__":Str))=false:=by decide) (he:starEach (e::es) X.env=(false,eval e X.env)::starEach es X.env:=by rfl) (hpl:(backTo pos (starEach es X.env)).any (·.1)=false:=by rfl):
  PE X (.Call (.Name x p) (e::es) [] pos) (zfV sp dvs E t):=by
 intro pins s σ H Q I h;refine wpAny_Call_Name_kw (qy I hg hm ?_ hdb);refine PySem.W.callWith_K (h₀:=X.base) I.ok.mod.kin hk (zF (ha pos pins s σ H _ I h) fun us s1 ⟨vs,H1,I1,r,q⟩=>⟨I1.kIn,?_⟩) he hpl;exact zfW F hr hb hd hx I1 r q
end
structure FnScope (N P:List Str)(sc:Scope):Prop where
 kind:sc.kind= .function
 co:sc.isCoroutine=false
 gen:sc.isGenerator=false
 nd:N.Nodup
 pre:N.take P.length=P
 par: ∀x∈P,sc.names.lookup x=some .local\/sc.names.lookup x=some .cell
 nofree: ∀y∈sc.names,y.2≠ .free
theorem qP{kindOf:Str->Option NameKind}{x:Str}: ∀{binds:List (Str×Value)} {m:Str->Option Value},(∀v,(x,v)∉binds)->bindL kindOf binds m x=m x
 |[],_,_=>rfl
 |(n,v)::r,m,h=>by
  unfold bindL;rw[qP fun w hw=>h w (Kf _ hw)];split
  ·have:x≠n:=by rintro rfl;exact h v Ke
   simp[this]
  ·rfl
theorem qQ{kindOf:Str->Option NameKind}{x:Str}: ∀{binds:List (Str×Value)} {m:Str->Option Value},(∀v,(x,v)∉binds)->bindC kindOf binds m x=m x
 |[],_,_=>rfl
 |(n,v)::r,m,h=>by
  unfold bindC;rw[qQ fun w hw=>h w (Kf _ hw)];split
  ·rfl
  ·have:x≠n:=by rintro rfl;exact h v Ke
   simp[this]
theorem qR{kindOf:Str->Option NameKind}{x:Str}{v:Value}: ∀{P:List Str} {vs:List Value} {i:Nat} {m:Str->Option Value},P.Nodup->P[i]? =some x->vs[i]? =some v->kindOf x=some .local->
  bindL kindOf (P.zip vs) m x=some v
 |[],_,_,_,_,h,_,_=>by simp at h
 |_::_,[],_,_,_,_,h,_=>by simp at h
 |p::P,w::vs,0,m,nd,h1,h2,hk=>by
  simp at h1 h2;subst h1;subst h2;show bindL kindOf ((p,w)::P.zip vs) m p=_;unfold bindL;rw[qP fun v hv=>(List.nodup_cons.mp nd).1 (List.of_mem_zip hv).1,if_pos hk];simp
 |p::P,w::vs,i+1,m,nd,h1,h2,hk=>by
  show bindL kindOf ((p,w)::P.zip vs) m x=_;unfold bindL;exact qR (i:=i) (List.nodup_cons.mp nd).2 (by simpa using h1) (by simpa using h2) hk
theorem qS{kindOf:Str->Option NameKind}{x:Str}{v:Value}: ∀{P:List Str} {vs:List Value} {i:Nat} {m:Str->Option Value},P.Nodup->P[i]? =some x->vs[i]? =some v->kindOf x≠some .local->
  bindC kindOf (P.zip vs) m x=some v
 |[],_,_,_,_,h,_,_=>by simp at h
 |_::_,[],_,_,_,_,h,_=>by simp at h
 |p::P,w::vs,0,m,nd,h1,h2,hk=>by
  simp at h1 h2;subst h1;subst h2;show bindC kindOf ((p,w)::P.zip vs) m p=_;unfold bindC;rw[qQ fun v hv=>(List.nodup_cons.mp nd).1 (List.of_mem_zip hv).1,if_neg hk];simp
 |p::P,w::vs,i+1,m,nd,h1,h2,hk=>by
  show bindC kindOf ((p,w)::P.zip vs) m x=_;unfold bindC;exact qS (i:=i) (List.nodup_cons.mp nd).2 (by simpa using h1) (by simpa using h2) hk
noncomputable def xW(N:List Str)(vs:List V):St:=vs.map some++List.replicate (N.length-vs.length) none
noncomputable def yb(CX:xV)(P:Program)(w:World)(K:Ka)(mg:Str->Option Value)(base:Heap)(N:List Str)(qual:Str)(scope:Scope)(f:Addr)(cd:Value)(A:Around)(outer:List Env)(s:Shared)(H:Hp)(E:XK):Cx where
 prog:=P
 w:=w
 K:=K
 mg:=mg
 base:=base
 A:=A.deeper (envOfC qual scope s.heap.objs.size f cd)
 N:=N
 s₀:=s
 H₀:=H
 env:=envOfC qual scope s.heap.objs.size f cd
 outer:=outer
 stack:=envOfC qual scope s.heap.objs.size f cd::outer
 ex:=[]
 calm:=true
 fn:=fun _=>true
 pn:=[]
 xe:=fun e s'=>wpAny (model P w) (A.deeper (envOfC qual scope s.heap.objs.size f cd)) (leaving (envOfC qual scope s.heap.objs.size f cd) e) (fun _ s''=>CX outer H s E e s'') (fun e' s''=>CX outer H s E e' s'') s'
theorem qT{sc:Scope}{n:Nat}{x:Str}(h:sc.names.lookup x=some .cell): ∃c,(cellsFrom n sc.names []).lookup x=some c:=by
 have q:=PySem.W.cellsFrom_some sc.names n [] (.inl h);exact Option.isSome_iff_exists.mp q
theorem zfX{CX:xV}{P:Program}{w:World}{K:Ka}{mg:Str->Option Value}{base:Heap}{N ps:List Str}{qual:Str}{scope:Scope}{f:Addr}{cd:Value}{A:Around}{outer:List Env}{s s1:Shared}{H:Hp}{E:XK}{us:List Value}{vs:List V}
  (S:FnScope N ps scope) (hd:A.handled=none) (e0:Env0 P w K mg base A outer s H) (hl:vs.length=ps.length) (r:Vals vs us)
  (x:InCallC s s.heap.objs.size (bindL (envOfC qual scope s.heap.objs.size f cd).kindOf (ps.zip us) fun _=>none) (cellsFrom (s.heap.objs.size+1) scope.names []) (bindC (envOfC qual scope s.heap.objs.size f cd).kindOf (ps.zip us) fun _=>none) s1):
  Inv (yb CX P w K mg base N qual scope f cd A outer s H E) [] (xW N vs) H s1:=by
 have hpl:ps.length<=N.length:=by have:=congrArg List.length S.pre;rw[List.length_take] at this;omega
 obtain⟨h1,tk,rfl,hk⟩:=x.done;have noA: ∀b:Addr,b∉(yb CX P w K mg base N qual scope f cd A outer s H E).ex:=fun b z=>KG (show b∈([]:List Addr) from z) (by simp)
 refine⟨⟨e0.mod,S.kind,rfl,rfl,Kg _,fun y z c h1 h2=>?_,fun y hy=>?_,fun y c _ h=>?_,fun _=>hd,Around.frames_deeper e0.frames,.inr ⟨rfl,rfl⟩,fun b z=>KG z (noA b),e0.bs,e0.bsz,fun b _ _=>noA b,fun b z=>KG z (noA b),e0.funs,e0.frf⟩,
  rfl,e0.bare,Un.kept hk,⟨_,x.toInCall.ns,fun i y v h1 h2 h3=>?_⟩,fun y c h=>⟨_,x.cell y c h⟩,e0.hok.fresh (Kg _),fun y c h=>?_,fun p hp=>KG (show p∈([]:List (Addr×Obj)) from hp) (by simp),e0.hok.kept hk,?_⟩
 ·exact name_of_addr x.apart (PySem.mem_of_lookup h1) (PySem.mem_of_lookup h2)
 ·have hy:scope.names.lookup y=some .cell\/scope.names.lookup y=some .free:=hy
  rcases hy with hy|hy
  ·exact qT hy
  ·exact KG rfl (S.nofree _ (PySem.mem_of_lookup hy))
 ·exact Nat.le_of_lt (x.above y c (PySem.mem_of_lookup h))
 ·have hi:i<vs.length:=by
   unfold xW at h2;by_cases hi:i<vs.length
   ·exact hi
   ·rw[List.getElem?_append_right (by simpa using hi)] at h2
    rw[List.getElem?_replicate] at h2;split at h2<;>cases h2
  have ha:vs[i]? =some v:=by
   unfold xW at h2;rw[List.getElem?_append_left (by simpa using hi),List.getElem?_map] at h2
   cases e:vs[i]? with
   |none=>rw[e] at h2;cases h2
   |some a=>rw[e] at h2;cases h2;rfl
  obtain⟨u,hu,rv⟩:=r.get ha
  have hp:ps[i]? =some y:=by
   rw[<-S.pre,List.getElem?_take_of_lt (by omega)];exact h1
  have ndP:ps.Nodup:=by rw[<-S.pre];exact S.nd.sublist (List.take_sublist _ _)
  refine⟨u,rv,?_⟩;rcases S.par y (KA hp) with k|k
  ·exact .inl ⟨k,qR ndP hp hu k⟩
  ·obtain⟨c,e⟩:=qT (n:=s.heap.objs.size+1) k
   refine .inr ⟨.inl k,c,e,?_⟩;have q:=x.cell y c e;rw[qS ndP hp hu (by show scope.names.lookup y≠_;rw[k];decide)] at q;exact q
 ·exact e0.hok.fresh (Nat.le_of_lt (x.above y c (PySem.mem_of_lookup h)))
 ·unfold xW
  show _=N.length;rw[List.length_append,List.length_map,List.length_replicate];omega
theorem zfY{CX:xV}{P:Program}{w:World}{K:Ka}{mg:Str->Option Value}{base:Heap}{k:Nat}{f:Addr}{name qual:Str}{params:Arguments}{body:List Stmt}{scope:Scope}{dV kV doc pm cdv ct oc:Value}{an od:Option Addr}
  {osl:Array (Option Value)} {N ps:List Str} {sp:Sp} (lk:K.lookup f=some ⟨oc,od,.func (PySem.W.fnOf name qual params body scope dV kV doc pm an cdv ct),osl⟩) (hcd:PySem.W.codeIn K cdv qual=true) (S:FnScope N ps scope)
  (len: ∀vs H Q E,sp vs H Q E->vs.length=ps.length)
  (hbody: ∀(A:Around) (outer:List Env) (s:Shared) (H:Hp) (vs:List V) (Q:VK) (E:XK),Room k (A.deeper (envOfC qual scope s.heap.objs.size f cdv))->sp vs H Q E->
   ∃t,PSs (yb CX P w K mg base N qual scope f cdv A outer s H E) body t/\t { nx:=fun _ H'=>Q .non H',rt:=Q } (xW N vs) H):
  FnOk P w K mg base CX (k+1) f (PySem.W.fnOf name qual params body scope dV kV doc pm an cdv ct) ps sp:=by
 refine⟨len,fun A outer s H args us vs Q E hr e0 hb r hsp=>?_⟩;have hl:=len _ _ _ _ hsp;have KX:K.In s.heap:=e0.mod.kin.keeps fun b o e=>(e0.bs b o e).1
 have lim:s.heap.NoLimit:=e0.mod.nolimit.keeps fun b o e=>(e0.bs b o e).1
 have hkind: ∀y∈ps.zip us,scope.names.lookup y.1=some .local\/(scope.names.lookup y.1=some .cell/\((cellsFrom (s.heap.objs.size+1) scope.names []).lookup y.1).isSome=true):=fun ⟨n,v⟩ hy=>by
  rcases S.par n (List.of_mem_zip hy).1 with q|q
  ·exact .inl q
  ·exact .inr ⟨q,PySem.W.cellsFrom_some _ _ _ (.inl q)⟩
 refine codeAny_call_function hr.depth (KX _ _ lk) rfl S.co S.gen rfl (PySem.W.codeRec_of KX hcd) (hb _ _ _ _ ?_);refine wpAny_newFunctionEnv_cells S.kind hkind fun env he s1 x=>?_
 subst he;refine⟨lim.keeps x.toInCall.keep,codeAny_func ?_⟩;obtain⟨t,ht,hq⟩:=hbody A outer s H vs Q E (hr.deeper _) hsp;have I:Inv (yb CX P w K mg base N qual scope f cdv A outer s H E) [] (xW N vs) H s1:=zfX S hr.hd e0 hl r x;refine Kd (ht [] s1 (xW N vs) H _ I hq) (fun fl s' hs=>?_) fun e s' hs=>hs
 have fin: ∀{σ':St} {H':Hp} {v:V} {u:Value},Inv (yb CX P w K mg base N qual scope f cdv A outer s H E) [] σ' H' s'->RelV v u->Q v H'->CE outer P w H s Q u s':=
  fun {σ' H' v u} J rv q=>⟨v,H',J.os,J.bare,J.base,J.hok,rv,q⟩
 cases fl with
 |ret u=>
  obtain⟨v,σ',H',J,rv,q⟩:=hs;exact fin J rv q
 |next=>
  obtain⟨σ',H',J,q⟩:=hs;exact fin (v:=V.non) (u:=Value.none) J rfl q
 |brk=>
  obtain⟨_,_,_,q⟩:=hs;exact False.elim q
 |cont=>
  obtain⟨_,_,_,q⟩:=hs;exact False.elim q
end L2
namespace L2
open PySem PySem.Spec PyProof.Rows
section
variable {X:Cx} {x:Str} {p pos:Pos} {e:Expr} {es:List Expr} {t:TA} {id T:String} {r:List V->Hp->VK->Prop}
noncomputable def JN(r:List V->Hp->VK->Prop)(t:TA):TE:=fun σ H Q=>t σ H fun vs H1=>r vs H1 Q
theorem Xr(hc:CallR X (.builtin id) r)(hg:Gl X x)(hm:X.mg x=none)(hv:bootBuiltins x=some (.builtin id))(ha:PA X (e::es) t)(hn:x≠"__name__":=by decide)(hdb:(x==("__debug__":Str))=false:=by decide)
  (he:starEach (e::es) X.env=(false,eval e X.env)::starEach es X.env:=by rfl) (hpl:(backTo pos (starEach es X.env)).any (·.1)=false:=by rfl):PE X (.Call (.Name x p) (e::es) [] pos) (JN r t):=by
 intro pins s σ H Q I h;refine wpAny_Call_Name_kw (ZG I hg hm hv ?_ hn hdb);exact PyProof.Rows.callWith_builtin1 (zF (ha pos pins s σ H _ I h) fun us s1 ⟨vs,H1,I1,r1,q1⟩=>hc pins s1 σ H1 vs us Q I1 r1 q1) he hpl
theorem qU(hc:CallR X (.type T) r)(hg:Gl X x)(hm:X.mg x=none)(hv:bootBuiltins x=some (.type T))(ha:PA X (e::es) t)(hn:x≠"__name__":=by decide)(hdb:(x==("__debug__":Str))=false:=by decide)
  (he:starEach (e::es) X.env=(false,eval e X.env)::starEach es X.env:=by rfl) (hpl:(backTo pos (starEach es X.env)).any (·.1)=false:=by rfl):PE X (.Call (.Name x p) (e::es) [] pos) (JN r t):=by
 intro pins s σ H Q I h;refine wpAny_Call_Name_kw (ZG I hg hm hv ?_ hn hdb);exact PyProof.Rows.callWith_type1 (zF (ha pos pins s σ H _ I h) fun us s1 ⟨vs,H1,I1,r1,q1⟩=>hc pins s1 σ H1 vs us Q I1 r1 q1) he hpl
end
end L2
namespace HT
open PySem PyProof.Rows
noncomputable def lexLt:List Int->List Int->Bool
 |[],[]=>false
 |[],_::_=>true
 |_::_,[]=>false
 |x::xs,y::ys=>if x=y then lexLt xs ys else decide (x<y)
theorem lexLt_cons(x y:Int)(xs ys:List Int):lexLt (x::xs) (y::ys)=if x=y then lexLt xs ys else decide (x<y):=rfl
theorem qV:lexLt [] []=false:=rfl
theorem qW(y:Int)(ys:List Int):lexLt [] (y::ys)=true:=rfl
theorem qX(x:Int)(xs:List Int):lexLt (x::xs) []=false:=rfl
theorem qY(A:Around)(s:Shared)(a:Int)(t:Tok)(c:Int)(u:Tok): ∃e,SeqAt.EqAt A s (.int a t) (.int c u) e/\(e=true↔a=c):=
 ⟨(a==c),SeqAt.EqAt.int_int a t c u,by simp⟩
theorem zfZ(A:Around)(s:Shared)(a:Int)(t:Tok)(c:Int)(u:Tok)(prog:Program)(w:World)(E:Value->Shared->Prop)(Q:Value->Shared->Prop)(h:Q (.bool (decide (a<c))) s):
  wpAny (model prog w) A (richCompare .Lt (.int a t) (.int c u)) Q E s:=
 (PyProof.Rows.lt_int h:wpAny (model prog w) A (compareOp .Lt (.int a t) (.int c u)) Q E s)
section
open PySem.SeqAt
open PySem.AutoSeq1 (wpAny_loadPart')
open PySem.MeetsSeq PySem.MeetsSeq2 PySem.MeetsSeq3
theorem zf0(l b:Addr)(items items2:Array Value)(n n2:Nat)(dd dd2:Option Addr)(sl sl2:Array (Option Value))(ns ms:List Int)(hi:IntsAre items.toList ns)(hj:IntsAre items2.toList ms):
  Meets (Builtin.«tuple.__lt__» ⟨[.ref l,.ref b],[]⟩)
   (fun _ R s=>s.heap.get? l=some { cls:=.type "tuple",dict:=dd,data:=.seq items n,slots:=sl }/\s.heap.get? b=some { cls:=.type "tuple",dict:=dd2,data:=.seq items2 n2,slots:=sl2 }/\
    R (.ok (.ret (.bool (lexLt ns ms)))) s):=
 .of_wp fun prog w A R s h=>by
  obtain⟨hp,g,d,tk,os⟩:=s;obtain⟨hl,hb,h⟩:=h;have f2:=AutoSeq1.sub_tuple_tuple;have z1:items.size=ns.length:=by rw[<-hi.length];simp
  have z2:items2.size=ms.length:=by rw[<-hj.length];simp
  wp_walk using wpAny_loadPart' hl,wpAny_loadPart' hb,wpAny_forIn_list _ (fun zK b s'=>b.1=none/\s'=⟨hp,g,d,tk,os⟩/\∃(vs ws:List Value) (ns' ms':List Int),zK=vs.zip ws/\
   IntsAre vs ns'/\IntsAre ws ms'/\ns'.length+items2.size=ms'.length+items.size/\R (.ok (.ret (.bool (lexLt ns' ms')))) ⟨hp,g,d,tk,os⟩) _
  case turn=>
   rintro⟨y,x⟩ zK b s' ⟨hb',rfl,vs,ws,ns',ms',hz,hvi,hwi,hlen,hR⟩
   cases hvi with
   |nil=>rw[List.zip_nil_left] at hz;cases hz
   |cons a t hvi'=>
    cases hwi with
    |nil=>rw[List.zip_nil_right] at hz;cases hz
    |cons c u hwi'=>
     rw[List.zip_cons_cons] at hz;injection hz with hyx hrest;injection hyx with hy hx;subst hy hx;rw[lexLt_cons] at hR;simp only[List.length_cons] at hlen;obtain⟨e,he,hiff⟩:=qY A.in1 ⟨hp,g,d,tk,os⟩ a t c u;refine Kb (he prog w _ _ ?_)
     cases e with
     |true=>
      rw[if_pos (hiff.mp rfl)] at hR
      wp_walk
      exact⟨rfl,rfl,_,_,_,_,hrest,hvi',hwi',by omega,hR⟩
     |false=>
      rw[if_neg (fun q=>KG (hiff.mpr q) Ko)] at hR;have hri:=zfZ A.in1 ⟨hp,g,d,tk,os⟩ a t c u prog w
      wp_walk using hri
      exact⟨_,rfl,by simpa using hR⟩
  case fin=>
   rintro⟨b1,b2⟩ s' ⟨hb',rfl,vs,ws,ns',ms',hz,hvi,hwi,hlen,hR⟩;simp only at hb';subst hb'
   have hv:lexLt ns' ms'=decide (items.size<items2.size):=by
    cases hvi with
    |nil=>
     cases hwi with
     |nil=>
      simp only[List.length_nil] at hlen;rw[qV];exact (KKq (by omega)).symm
     |cons c u hw=>
      simp only[List.length_nil,List.length_cons] at hlen;rw[qW];exact (decide_eq_true (by omega)).symm
    |cons a t hv=>
     cases hwi with
     |nil=>
      simp only[List.length_nil,List.length_cons] at hlen;rw[qX];exact (KKq (by omega)).symm
     |cons c u hw=>
      rw[List.zip_cons_cons] at hz;cases hz
   rw[hv] at hR
   wp_walk
   exact⟨_,rfl,by simpa [Builtin.Tuple.tupleCompareSizes] using hR⟩
  case h=>
   exact⟨rfl,rfl,items.toList,items2.toList,ns,ms,rfl,hi,hj,by omega,h⟩
end
section
variable {prog:Program} {w:World} {A:Around} {E:Value->Shared->Prop} {s:Shared}
theorem lt_tupInts{l b:Addr}{items items2:Array Value}{ns ms:List Int}{Q:Value->Shared->Prop}(hl:IsTup s.heap l items)(hb:IsTup s.heap b items2)(hi:IntsAre items.toList ns)(hj:IntsAre items2.toList ms)
  (hu:A.units<cLine) (h:Q (.bool (lexLt ns ms)) s):wpAny (model prog w) A (compareOp .Lt (.ref l) (.ref b)) Q E s:=by
 obtain⟨⟨cls,dd,data,sl⟩,ho,hc,n,hd⟩:=id hl;obtain⟨⟨cls2,dd2,data2,sl2⟩,ho2,hc2,n2,hd2⟩:=id hb;simp only at hc hd hc2 hd2;subst hc hd hc2 hd2
 exact richCompare_meets_room (op:=.Lt) ⟨_,ho,rfl⟩ ⟨_,ho2,rfl⟩ PySem.F.slot_tuple_lt PySem.F.entry_tuple_lt (PySem.F.args_tuple_lt_2 _ _) (zf0 l b items items2 n n2 dd dd2 sl sl2 ns ms hi hj)
  ⟨ho,ho2,show Value.bool (lexLt ns ms)≠Value.notImplemented/\Q (.bool (lexLt ns ms)) s from ⟨(fun x=>nomatch x),h⟩⟩ hu
noncomputable def sIx(n d:Nat):Option Int->Nat
 |none=>d
 |some v=>if v<0 then (v+(n:Int)).toNat else min v.toNat n
theorem sIx_none(n d:Nat):sIx n d none=d:=rfl
theorem sIx_nat(n d k:Nat):sIx n d (some (k:Int))=min k n:=by
 show (if (k:Int)<0 then ((k:Int)+(n:Int)).toNat else min (k:Int).toNat n)=min k n;rw[if_neg (by omega),Int.toNat_natCast]
theorem zf1(n d:Nat)(hd:d<=n)(o:Option Int):sIx n d o<=n:=by
 cases o with
 |none=>exact hd
 |some v=>
  show (if v<0 then (v+(n:Int)).toNat else min v.toNat n)<=n;by_cases hv:v<0
  ·rw[if_pos hv];omega
  ·rw[if_neg hv];exact Nat.min_le_right _ _
theorem qZ(v:Int)(n d:Nat):(if v<0 then max (v+(n:Int)) 0 else min v (n:Int))=((sIx n d (some v):Nat):Int):=by
 show (if v<0 then max (v+(n:Int)) 0 else min v (n:Int))=(((if v<0 then (v+(n:Int)).toNat else min v.toNat n):Nat):Int);by_cases hv:v<0
 ·simp only[if_pos hv];omega
 ·simp only[if_neg hv];omega
theorem zf2(lo hi:Option Int)(n:Nat):Builtin.Slice.sliceAdjust lo hi 1 (n:Int)=(((sIx n 0 lo:Nat):Int),((sIx n n hi:Nat):Int)):=by
 have h1: ¬((1:Int)<0):=by omega
 unfold Builtin.Slice.sliceAdjust;simp only[h1,if_false];refine Prod.ext ?_ ?_
 ·cases lo with
  |none=>rfl
  |some v=>exact qZ v n 0
 ·cases hi with
  |none=>rfl
  |some v=>exact qZ v n n
theorem zf3(i j:Nat):Builtin.Slice.slicePlaces (i:Int) (j:Int) 1=j-i:=by
 unfold Builtin.Slice.slicePlaces;have h1:(1:Int)>0:=by omega
 simp only[h1,if_true,Int.ediv_one];split<;>omega
theorem ga{v:Value}{o:Option Int}{Q:Option Int->Shared->Prop}(p:IsPart v o)(h:Q o s):wpAny (model prog w) A (Builtin.Slice.slicePartIndex v) Q E s:=by
 cases p with
 |none=>exact slicePart_none h
 |int i t=>exact slicePart_int h
theorem zf4{sl:Addr}{vl vu:Value}{lo hi:Option Int}{n:Nat}{Q:Int×Int×Nat->Shared->Prop}(hs:s.heap.IsSliceOf sl vl vu .none)(pl:IsPart vl lo)(pu:IsPart vu hi)
  (h:Q (((sIx n 0 lo:Nat):Int),1,sIx n n hi-sIx n 0 lo) s):wpAny (model prog w) A (Builtin.Slice.sliceApplied (.ref sl) (pure (n:Int))) Q E s:=by
 obtain⟨os,hos,hcs,hds⟩:=id hs;unfold Builtin.Slice.sliceApplied Builtin.Slice.sliceFields;refine Kb (Kb (wpAny_field hos hds (x:=vl) rfl (Kb (wpAny_field hos hds (x:=vu) rfl (Kb (wpAny_field hos hds (x:=.none) rfl (Kc ?_)))))));refine Kb (slicePart_none ?_);show wpAny _ _ (if ((1:Int)==0)=true then _ else _) _ _ s;rw[if_neg (by decide)];refine Kb (ga pl (Kb (ga pu (Kb (Kc ?_)))));show wpAny _ _ (match Builtin.Slice.sliceAdjust lo hi 1 (n:Int) with|(lo,hi)=>pure (lo,(1:Int),Builtin.Slice.slicePlaces lo hi 1)) _ _ s;rw[zf2 lo hi n];show wpAny _ _ (pure (((sIx n 0 lo:Nat):Int),(1:Int),Builtin.Slice.slicePlaces ((sIx n 0 lo:Nat):Int) ((sIx n n hi:Nat):Int) 1)) _ _ s;rw[zf3];exact Kc h
theorem zf5(xs:Array Value)(i k:Nat):((List.range k).filterMap fun (m:Nat)=>xs[((i:Int)+(m:Int)*1).toNat]?).toArray=((xs.toList.drop i).take k).toArray:=by
 have e:(fun (m:Nat)=>xs[((i:Int)+(m:Int)*1).toNat]?)=fun m=>xs[i+m]? :=by
  funext m
  have:((i:Int)+(m:Int)*1).toNat=i+m:=by omega
  rw[this]
 rw[e];have:=pick_run xs i k;rw[List.filterMap_map] at this;have e2:((fun x=>xs[x]?)∘fun x=>i+x)=fun m=>xs[i+m]? :=rfl
 rw[e2] at this;rw[this]
theorem getItem_tuple_cut{t sl:Addr}{items:Array Value}{vl vu:Value}{lo hi:Option Int}{Q:Value->Shared->Prop}(ht:IsTup s.heap t items)(hs:s.heap.IsSliceOf sl vl vu .none)(pl:IsPart vl lo)(pu:IsPart vu hi)
  (hw: ¬(sIx items.size 0 lo=0/\sIx items.size items.size hi=items.size))
  (h:Q (.ref s.heap.objs.size) { s with heap:=s.heap.push { cls:=.type "tuple",data:=.seq ((items.toList.drop (sIx items.size 0 lo)).take (sIx items.size items.size hi-sIx items.size 0 lo)).toArray } })
  (hsz:items.size<=sizeLine):wpAny (model prog w) A (getItem (.ref t) (.ref sl)) Q E s:=by
 have htake:sizeOk (.seq ((items.toList.drop (sIx items.size 0 lo)).take (sIx items.size items.size hi-sIx items.size 0 lo)).toArray):=by
  show ((items.toList.drop (sIx items.size 0 lo)).take (sIx items.size items.size hi-sIx items.size 0 lo)).toArray.size<=sizeLine;rw[List.size_toArray,List.length_take,List.length_drop,Array.length_toList];omega
 have hj:sIx items.size items.size hi<=items.size:=zf1 _ _ (Kg _) hi;obtain⟨os,hos,hcs,hds⟩:=id hs;have hTs:s.TypeIs (.ref sl) "slice":=⟨os,hos,hcs⟩;unfold getItem
 try with_reducible refine wpAny_holding ?_
 first|refine Kb (Kc ?_)|skip
 refine Kb (wpAny_sequenceKey ht.typeIs (by decide) ?_)
 refine Kb (wpAny_callSpecial?_slot (name:=Str.ofString "__getitem__") ht.typeIs PyProof.Rows.slot_tuple_getitem
  (wpAny_call_entry PyProof.Rows.slot_tuple_getitem ht.typeIs entry_tuple_getitem ?_ (args_tuple_getitem _ _)))
 show wpAny _ _ (Builtin.Tuple.tupleItemsOf (.ref t) >>= _) _ _ s;refine Kb (tupleItemsOf_ ht ?_);refine Kb (wpAny_typeOf hTs ?_);rw[if_pos (by decide)];refine Kb (zf4 hs pl pu ?_)
 have hno: ¬((((sIx items.size 0 lo:Nat):Int)==0&&(1:Int)==1&&(sIx items.size items.size hi-sIx items.size 0 lo)==items.size)=true):=by
  intro q;rw[Bool.and_eq_true,Bool.and_eq_true] at q;have q1:((sIx items.size 0 lo:Nat):Int)=0:=eq_of_beq q.1.1;have q2:sIx items.size items.size hi-sIx items.size 0 lo=items.size:=eq_of_beq q.2;exact hw ⟨by omega,by omega⟩
 show wpAny _ _ (if (((sIx items.size 0 lo:Nat):Int)==0&&(1:Int)==1&&(sIx items.size items.size hi-sIx items.size 0 lo)==items.size)=true then _ else _) _ _ s;rw[if_neg hno,zf5]
 first
  |exact Kb (m:=Builtin.Tuple.tupleExact _) (wpAny_newObj_type (Kc ⟨_,rfl,Kc h⟩) htake)
  |exact Kb (m:=Builtin.Tuple.tupleExact _) (wpAny_newObj_type (Kb (Kc (Kc ⟨_,rfl,Kc h⟩))) htake)
  |exact Kb (Kb (m:=Builtin.Tuple.tupleExact _) (wpAny_newObj_type (Kc (Kc ⟨_,rfl,Kc h⟩)) htake))
  |exact Kb (Kb (m:=Builtin.Tuple.tupleExact _) (wpAny_newObj_type (Kc ⟨_,rfl,Kc h⟩) htake))
end
end HT
namespace L2
open PySem PySem.Spec PyProof.Rows
noncomputable abbrev TO:=St->Hp->(Option Int->Hp->Prop)->Prop
noncomputable def PO(X:Cx)(e:Option Expr)(t:TO):Prop:=
 ∀(pins:List (Addr×Obj)) (s:Shared) (σ:St) (H:Hp) (Q:Option Int->Hp->Prop),Inv X pins σ H s->t σ H Q->
  wpAny (model X.prog X.w) X.A (evalPart e X.env) (fun u s'=>∃o H',Inv X pins σ H' s'/\IsPart u o/\Q o H') X.xe s
noncomputable def zf6:TO:=fun _ H Q=>Q none H
noncomputable def zf7(t:TE):TO:=fun σ H Q=>t σ H fun x H1=>∃i,x= .int i/\Q (some i) H1
theorem je{ns:List Int}: ∀{us:List Value},Vals (ns.map V.int) us->IntsAre us ns:=by
 induction ns with
 |nil=>intro us r;rw[List.map_nil] at r;cases r;exact .nil
 |cons n ns ih=>
  intro us r;rw[List.map_cons] at r
  cases r with
  |cons r1 r2=>
   obtain⟨t,e⟩:=r1;subst e;exact .cons n t (ih r2)
section
variable {X:Cx} {e:Expr} {te:TE} {lo hi:Option Expr} {tl th:TO} {pos p2:Pos}
theorem gb:PO X none zf6:=by
 intro pins s σ H Q I h;rw[evalPart_none];exact Kc ⟨none,H,I,.none,h⟩
theorem gc(h:PE X e te):PO X (some e) (zf7 te):=by
 intro pins s σ H Q I hw;rw[evalPart_some];refine zF (h pins s σ H _ I hw) fun u s1 ⟨x,H1,I1,r1,q1⟩=>?_
 obtain⟨i,rfl,q⟩:=q1;obtain⟨t,rfl⟩:=r1;exact⟨some i,H1,I1,.int i t,q⟩
noncomputable def SlR(X:Cx)(r:V->Option Int->Option Int->Hp->VK->Prop):Prop:=
 ∀(pins:List (Addr×Obj)) (s:Shared) (σ:St) (H:Hp) (x:V) (v vl vu:Value) (lo hi:Option Int) (sl:Addr) (Q:VK),Inv X pins σ H s->RelV x v->s.heap.IsSliceOf sl vl vu .none->IsPart vl lo->IsPart vu hi->r x lo hi H Q->
  ∃T id,typeLookup (.type T) "__getitem__"=pure (some (.builtin id))/\s.TypeIs v T/\wpAny (model X.prog X.w) X.A (getItem v (.ref sl)) (EP X pins σ Q) X.xe s
theorem SlR.or{r r':V->Option Int->Option Int->Hp->VK->Prop}(h:SlR X r)(h':SlR X r'):SlR X (fun x lo hi H Q=>r x lo hi H Q\/r' x lo hi H Q):=by
 intro pins s σ H x v vl vu lo hi sl Q I rx hs pl pu q;rcases q with q|q
 ·exact h pins s σ H x v vl vu lo hi sl Q I rx hs pl pu q
 ·exact h' pins s σ H x v vl vu lo hi sl Q I rx hs pl pu q
noncomputable def zf8(r:V->Option Int->Option Int->Hp->VK->Prop)(te:TE)(tl th:TO):TE:=fun σ H Q=>te σ H fun x H1=>tl σ H1 fun l H2=>th σ H2 fun u H3=>r x l u H3 Q
theorem gd{r:V->Option Int->Option Int->Hp->VK->Prop}(hr:SlR X r)(he:PE X e te)(hl:PO X lo tl)(hu:PO X hi th):PE X (.Subscript e (.Slice lo hi none p2) pos) (zf8 r te tl th):=by
 intro pins s σ H Q I h;refine Subscript_ (zF (he pins s σ H _ I h) fun v s1 ⟨x,H1,I1,r1,q1⟩=>?_);refine wpAny_Slice (zF (hl pins s1 σ H1 _ I1 q1) fun vl s2 ⟨l,H2,I2,pl,q2⟩=>zF (hu pins s2 σ H2 _ I2 q2) fun vu s3 ⟨u,H3,I3,pu,q3⟩=>?_);rw[evalPart_none];refine Kc ?_;have I4:Inv X pins σ H3 { s3 with heap:=s3.heap.push { cls:=.type "slice",data:=.fields #[vl,vu,.none] } }:=I3.kept (t':=s3.toks) fun b ob q=>Kn _ q
 obtain⟨T,id,hT,ht,hg⟩:=hr pins { s3 with heap:=s3.heap.push { cls:=.type "slice",data:=.fields #[vl,vu,.none] } } σ H3 x v vl vu l u s3.heap.objs.size Q I4 r1 (Heap.IsSliceOf.new ..) pl pu q3;show wpAny (model X.prog X.w) X.A (subscriptTail e (.Slice lo hi none p2) v (.ref s3.heap.objs.size)) (EP X pins σ Q) X.xe { s3 with heap:=s3.heap.push { cls:=.type "slice",data:=.fields #[vl,vu,.none] } };exact tail_any (ops:=[.ref s3.heap.objs.size,v]) ht hT hg (by with_unfolding_all rfl)
noncomputable def wU(xs:List V)(lo hi:Option Int):List V:=(xs.drop (HT.sIx xs.length 0 lo)).take (HT.sIx xs.length xs.length hi-HT.sIx xs.length 0 lo)
theorem gf(xs:List V)(lo hi:Option Int):(wU xs lo hi).length<=xs.length:=by
 unfold wU;rw[List.length_take,List.length_drop];omega
noncomputable def zf9(K:Ka):V->Option Int->Option Int->Hp->VK->Prop:=fun x lo hi H Q=>∃a xs,x= .ref a/\SqT K H a xs/\
 ¬(HT.sIx xs.length 0 lo=0/\HT.sIx xs.length xs.length hi=xs.length)/\∀p,H p=none->Q (.ref p) (zL H p (.tup (wU xs lo hi)))
theorem zga:SlR X (zf9 X.K):=by
 intro pins s σ H x v vl vu lo hi sl Q I rx hs pl pu h;obtain⟨a,xs,rfl,hx,hw,q⟩:=h;cases rx;obtain⟨its,r,ht,hz⟩:=I.tuple hx;have hlen:its.toArray.size=xs.length:=by rw[List.size_toArray];exact r.length.symm
 refine⟨"tuple",_,PyProof.Rows.slot_tuple_getitem.lookup,ht.typeIs,?_⟩;refine HT.getItem_tuple_cut ht hs pl pu (by rw[hlen];exact hw) ?_ (by rw[hlen];exact hz);rw[hlen];refine⟨.ref s.heap.objs.size,_,I.laid (t':=s.toks) (o:=.tup (wU xs lo hi)) (fun b ob q=>Kn _ q) (Kg _) ?_,rfl,q _ (I.hok.fresh (Kg _))⟩;exact⟨Kh (gf xs lo hi) hz,_,(r.drop (HT.sIx xs.length 0 lo)).take (HT.sIx xs.length xs.length hi-HT.sIx xs.length 0 lo),IsTup.new _ _⟩
noncomputable def zgb(K:Ka):R2:=fun x y H Q=>∃a b ns ms,x= .ref a/\y= .ref b/\SqT K H a (ns.map V.int)/\SqT K H b (ms.map V.int)/\Q (.bl (HT.lexLt ns ms)) H
theorem zgc(hu:X.A.units<cLine):OpR X (compareOp .Lt) (zgb X.K):=by
 intro pins s σ H x y v u Q I rx ry h;obtain⟨a,b,ns,ms,rfl,rfl,ha,hb,q⟩:=h;cases rx;cases ry;obtain⟨its,r1,p1,_⟩:=I.tuple ha;obtain⟨its2,r2,p2,_⟩:=I.tuple hb;have i1:IntsAre its.toArray.toList ns:=je r1;have i2:IntsAre its2.toArray.toList ms:=je r2;exact HT.lt_tupInts p1 p2 i1 i2 hu ⟨.bl (HT.lexLt ns ms),H,I,rfl,q⟩
end
end L2
namespace L2
open PySem PySem.Spec PyProof.Rows
noncomputable def ixN(n:Nat)(i:Int):Option Nat:=if 0<=i then (if i<n then some i.toNat else none) else if -(n:Int)<=i then some (i+n).toNat else none
noncomputable def atI{α:Type}(xs:List α)(i:Int):Option α:=(ixN xs.length i).bind fun j=>xs[j]?
theorem zgd{n:Nat}{i:Int}{j:Nat}(h:ixN n i=some j):seqIndex? i n=some j/\j<n/\ -(n:Int)<=i/\i<n:=by
 unfold ixN at h;by_cases h0:0<=i
 ·rw[if_pos h0] at h
  by_cases h1:i<n
  ·rw[if_pos h1] at h
   have e:i.toNat=j:=Kp h;exact⟨by rw[seqIndex_of h0 h1,e],by omega,by omega,h1⟩
  ·rw[if_neg h1] at h;cases h
 ·rw[if_neg h0] at h
  by_cases h1: -(n:Int)<=i
  ·rw[if_pos h1] at h
   have e:(i+n).toNat=j:=Kp h;exact⟨by rw[seqIndex_neg (by omega) h1,e],by omega,h1,by omega⟩
  ·rw[if_neg h1] at h;cases h
theorem gg{α:Type}{xs:List α}{i:Int}{v:α}(h:atI xs i=some v): ∃j,seqIndex? i xs.length=some j/\xs[j]? =some v/\j<xs.length/\ -(xs.length:Int)<=i/\i<xs.length:=by
 unfold atI at h
 cases e:ixN xs.length i with
 |none=>rw[e] at h;cases h
 |some j=>
  rw[e] at h;obtain⟨h1,h2,h3,h4⟩:=zgd e;exact⟨j,h1,h,h2,h3,h4⟩
theorem atI_nat{α:Type}{xs:List α}{j:Nat}{v:α}(h:xs[j]? =some v):atI xs (j:Int)=some v:=by
 have hj:j<xs.length:=(List.getElem?_eq_some_iff.mp h).1
 have e:ixN xs.length (j:Int)=some j:=by
  unfold ixN;rw[if_pos (by omega),if_pos (by omega)];simp
 unfold atI;rw[e];exact h
noncomputable def gh(b:Expr):Prop:=∀o i,subscripted b false o i=operate [o,i] (getItem o i)
noncomputable def IxR(X:Cx)(r:R2):Prop:=
 ∀(value slice:Expr) (pins:List (Addr×Obj)) (s:Shared) (σ:St) (H:Hp) (x y:V) (v u:Value) (Q:VK),Inv X pins σ H s->RelV x v->RelV y u->r x y H Q->
  subscripted slice false v u=operate [v,u] (getItem v u)->wpAny (model X.prog X.w) X.A (subscriptTail value slice v u) (EP X pins σ Q) X.xe s
noncomputable def MtR(X:Cx)(id:String)(r:V->List V->Hp->VK->Prop):Prop:=
 ∀(pins:List (Addr×Obj)) (s:Shared) (σ:St) (H:Hp) (x:V) (xs:List V) (v:Value) (us:List Value) (Q:VK),Inv X pins σ H s->RelV x v->Vals xs us->r x xs H Q->
  wpAny (model X.prog X.w) X.A (call (.builtin id) (v::us)) (EP X pins σ Q) X.xe s
section
variable {X:Cx} {a b:Expr} {ta tb:TE} {pos:Pos}
theorem IxR.or{r r':R2}(h:IxR X r)(h':IxR X r'):IxR X (fun x y H Q=>r x y H Q\/r' x y H Q):=by
 intro value slice pins s σ H x y v u Q I rx ry q hs;rcases q with q|q
 ·exact h value slice pins s σ H x y v u Q I rx ry q hs
 ·exact h' value slice pins s σ H x y v u Q I rx ry q hs
theorem MtR.or{id:String}{r r':V->List V->Hp->VK->Prop}(h:MtR X id r)(h':MtR X id r'):MtR X id (fun x xs H Q=>r x xs H Q\/r' x xs H Q):=by
 intro pins s σ H x xs v us Q I rx rs q;rcases q with q|q
 ·exact h pins s σ H x xs v us Q I rx rs q
 ·exact h' pins s σ H x xs v us Q I rx rs q
theorem zge{r:R2}(hr:IxR X r)(ha:PE X a ta)(hb:PE X b tb)(hs:gh b):PE X (.Subscript a b pos) (ZK r ta tb):=by
 intro pins s σ H Q I h;exact Subscript_ (JI ha hb I h fun v u s2 x y H2 I2 rx ry q=>hr a b pins s2 σ H2 x y v u Q I2 rx ry q (hs _ _))
noncomputable def zgf(K:Ka):R2:=fun x y H Q=>∃p xs i v,x= .ref p/\y= .int i/\SqL K H p xs/\atI xs i=some v/\Q v H
noncomputable def zgg(K:Ka):R2:=fun x y H Q=>∃p xs i v,x= .ref p/\y= .int i/\SqT K H p xs/\atI xs i=some v/\Q v H
theorem zgh:IxR X (zgf X.K):=by
 intro value slice pins s σ H x y v u Q I rx ry h hs;obtain⟨p,xs,i,z,rfl,rfl,hq,he,q⟩:=h;cases rx;obtain⟨t,rfl⟩:=ry;obtain⟨its,r,pl,hz⟩:=I.list hq;obtain⟨j,h1,h2,h3,h4,h5⟩:=gg he;obtain⟨w,ew,rw'⟩:=r.get h2;have hl:=r.length;have hn:=Xq;have fin:EP X pins σ Q w s:=⟨z,H,I,rw',q⟩;by_cases h0:0<=i
 ·have hj:i.toNat=j:=by
   rw[seqIndex_of h0 h5] at h1;exact Kp h1
  exact item_listR pl.isList h0 (by omega) (by rw[hj];simpa using ew) fin hs
 ·have hj:(i+(its.toArray.size:Int)).toNat=j:=by
   rw[seqIndex_neg (by omega) h4] at h1;rw[List.size_toArray,<-hl];exact Kp h1
  exact subscriptTail_builtinR (x:=w) pl.isList.typeIs slot_list_getitem.lookup
   (wpAny_getItem_list_neg (Q:=fun r s'=>r=w/\EP X pins σ Q r s') pl.isList (by omega) (by rw[List.size_toArray]<;>omega) (by omega) (by rw[hj];simpa using ew) ⟨rfl,fin⟩) hs
theorem zgi:IxR X (zgg X.K):=by
 intro value slice pins s σ H x y v u Q I rx ry h hs;obtain⟨p,xs,i,z,rfl,rfl,hq,he,q⟩:=h;cases rx;obtain⟨t,rfl⟩:=ry;obtain⟨its,r,pl,hz⟩:=I.tuple hq;obtain⟨j,h1,h2,h3,h4,h5⟩:=gg he;obtain⟨w,ew,rw'⟩:=r.get h2;have hl:=r.length;have hn:=Xq;have fin:EP X pins σ Q w s:=⟨z,H,I,rw',q⟩
 exact subscriptTail_builtinR (x:=w) pl.typeIs slot_tuple_getitem.lookup
  (getItem_tuple (j:=j) (Q:=fun r s'=>r=w/\EP X pins σ Q r s') pl (by omega) (by omega) (by rw[List.size_toArray,<-hl];exact h1) (by simpa using ew) ⟨rfl,fin⟩) hs
theorem Inv.lst{pins:List (Addr×Obj)}{σ:St}{H:Hp}{s:Shared}{p:Addr}{xs:List V}(I:Inv X pins σ H s)(h:H p=some (.lst xs)):
  ∃(its:List Value) (n:Nat),Vals xs its/\s.heap.get? p=some { cls:=.type "list",data:=.seq its.toArray n }/\xs.length<=sizeLine:=by
 obtain⟨z,its,n,r,e⟩:=I.hok p _ h;exact⟨its,n,r,e,z⟩
theorem zgj(lo hi:Option Int)(n:Nat):(sliceBounds lo hi none n).1=((HT.sIx n 0 lo:Nat):Int)/\(sliceBounds lo hi none n).2.1=((HT.sIx n n hi:Nat):Int)/\(sliceBounds lo hi none n).2.2=1:=by
 refine⟨?_,?_,rfl⟩
 ·cases lo with
  |none=>simp[sliceBounds,HT.sIx]
  |some i=>
   simp only[sliceBounds,HT.sIx,Option.getD_none,show (1:Int)>0 by decide,if_true];by_cases h:i<0
   ·simp only[h,if_true]<;>omega
   ·simp only[h,if_false]<;>omega
 ·cases hi with
  |none=>simp[sliceBounds,HT.sIx]
  |some i=>
   simp only[sliceBounds,HT.sIx,Option.getD_none,show (1:Int)>0 by decide,if_true];by_cases h:i<0
   ·simp only[h,if_true]<;>omega
   ·simp only[h,if_false]<;>omega
theorem zgk(its:List Value)(lo hi:Option Int):slicePick its.toArray lo hi none=((its.drop (HT.sIx its.length 0 lo)).take (HT.sIx its.length its.length hi-HT.sIx its.length 0 lo)).toArray:=by
 obtain⟨h1,h2,h3⟩:=zgj lo hi its.toArray.size;unfold slicePick;rw[h1,h2,h3];simp only[sliceRange_one,pick_run,List.size_toArray]<;>rfl
noncomputable def zgl(K:Ka):V->Option Int->Option Int->Hp->VK->Prop:=fun x lo hi H Q=>∃a xs,x= .ref a/\SqL K H a xs/\∀p,H p=none->Q (.ref p) (zL H p (.lst (wU xs lo hi)))
theorem zgm:SlR X (zgl X.K):=by
 intro pins s σ H x v vl vu lo hi sl Q I rx hs pl pu h;obtain⟨a,xs,rfl,hx,q⟩:=h;cases rx;obtain⟨its,r,ht,hz⟩:=I.list hx;have hlen:=r.length;refine⟨"list",_,slot_list_getitem.lookup,ht.isList.typeIs,?_⟩;refine wpAny_getItem_list_slice ht.isList hs pl pu .none (by simp) ?_ (by rw[List.size_toArray]<;>omega);rw[zgk,<-hlen];refine⟨.ref s.heap.objs.size,_,I.laid (t':=s.toks) (o:=.lst (wU xs lo hi)) (fun b ob q=>Kn _ q) (Kg _) ?_,rfl,q _ (I.hok.fresh (Kg _))⟩;exact⟨Kh (gf xs lo hi) hz,_,0,(r.drop (HT.sIx xs.length 0 lo)).take (HT.sIx xs.length xs.length hi-HT.sIx xs.length 0 lo),Heap.get?_push_size _ rfl⟩
theorem gk:CallR X (.builtin "len") (fun xs H Q=>∃p ys,xs=[.ref p]/\(SqL X.K H p ys\/SqT X.K H p ys)/\Q (.int ys.length) H):=by
 intro pins s σ H xs us Q I r h;obtain⟨p,ys,rfl,hq,q⟩:=h;obtain⟨u,rfl,rx⟩:=wT r;cases rx;have hn:=Xq;rcases hq with hq|hq
 ·obtain⟨its,r',pl,hz⟩:=I.list hq
  have hlen:=r'.length;exact Calls.call_len_list pl.isList (by simp only[List.size_toArray]<;>omega) ⟨.int ys.length,H,I.tok _,⟨s.toks+1,by rw[List.size_toArray,hlen]⟩,q⟩
 ·obtain⟨its,r',pl,hz⟩:=I.tuple hq
  have hlen:=r'.length;exact len_tuple pl (by simp only[List.size_toArray]<;>omega) ⟨.int ys.length,H,I.tok _,⟨s.toks+1,by rw[List.size_toArray,hlen]⟩,q⟩
theorem CallR.or{f:Value}{r r':List V->Hp->VK->Prop}(h:CallR X f r)(h':CallR X f r'):CallR X f (fun xs H Q=>r xs H Q\/r' xs H Q):=by
 intro pins s σ H xs us Q I rs q;rcases q with q|q
 ·exact h pins s σ H xs us Q I rs q
 ·exact h' pins s σ H xs us Q I rs q
theorem gm:CallR X (.type "list") (fun xs H Q=>∃p ys,xs=[.ref p]/\(SqL X.K H p ys\/SqT X.K H p ys)/\∀l,H l=none->Q (.ref l) (zL H l (.lst ys))):=by
 intro pins s σ H xs us Q I r h;obtain⟨p,ys,rfl,hq,q⟩:=h;obtain⟨u,rfl,rx⟩:=wT r;cases rx
 have fin: ∀(its:List Value),Vals ys its->ys.length<=sizeLine->∀(h':Heap) (c':Nat),(∀b o',s.heap.get? b=some o'->h'.get? b=some o')->
   h'.get? s.heap.objs.size=some { cls:=.type "list",dict:=none,data:=.seq its.toArray c',slots:= #[] }->EP X pins σ Q (.ref s.heap.objs.size) { s with heap:=h' }:=fun its r' hz h' c' kp e=>
  ⟨.ref s.heap.objs.size,_,I.laid (t':=s.toks) kp (Kg _) (show ObjOk X.prog X.w _ h' _ (.lst ys) from ⟨hz,its,c',r',e⟩),rfl,q _ (I.hok.fresh (Kg _))⟩
 rcases hq with hq|hq
 ·obtain⟨its,r',pl,hz⟩:=I.list hq
  have hlen:=r'.length;obtain⟨o,ho,hc,n,hd⟩:=pl.isList;exact call_list_seq p (.inl rfl) ho hc hd (fun h' c' kp e=>fin its r' hz h' c' kp e) (by simp only[List.size_toArray]<;>omega)
 ·obtain⟨its,r',pl,hz⟩:=I.tuple hq
  have hlen:=r'.length;obtain⟨o,ho,hc,n,hd⟩:=pl;exact call_list_seq p (.inr rfl) ho hc hd (fun h' c' kp e=>fin its r' hz h' c' kp e) (by simp only[List.size_toArray]<;>omega)
theorem gp:CallR X (.type "tuple") (fun xs H Q=>∃p ys,xs=[.ref p]/\((SqL X.K H p ys/\∀l,H l=none->Q (.ref l) (zL H l (.tup ys)))\/(SqT X.K H p ys/\Q (.ref p) H))):=by
 intro pins s σ H xs us Q I r h;obtain⟨p,ys,rfl,h⟩:=h;obtain⟨u,rfl,rx⟩:=wT r;cases rx;rcases h with ⟨hq,q⟩|⟨hq,q⟩
 ·obtain⟨its,r',pl,hz⟩:=I.list hq
  have hlen:=r'.length;refine call_tuple_list pl.isList (fun h' kp=>?_) (by simp only[List.size_toArray]<;>omega);have I1:Inv X pins σ H { s with heap:=h' }:=I.kept (t':=s.toks) kp
  have I2:Inv X pins σ (zL H h'.objs.size (.tup ys)) { s with heap:=h'.push { cls:=.type "tuple",data:=.seq its.toArray } }:=
   I1.laid (t':=s.toks) (fun b o e=>Kn _ e) (Kg _) (show ObjOk X.prog X.w _ _ _ (.tup ys) from ⟨hz,its,r',IsTup.new _ _⟩)
  exact⟨.ref h'.objs.size,_,I2,rfl,q _ (I1.hok.fresh (Kg _))⟩
 ·obtain⟨its,r',pl,hz⟩:=I.tuple hq
  exact call_tuple_same pl ⟨.ref p,H,I,rfl,q⟩
noncomputable def gq(K:Ka)(T:String)(x:V)(H:Hp):Prop:=match x with
 | .str _=>T="str"
 | .int _=>T="int"
 | .ref p=>(T="list"/\∃xs,SqL K H p xs)\/(T="tuple"/\∃o,K.lookup p=some o/\o.cls= .type "tuple"/\o.dict=none)\/
   (T="dict"/\((∃kvs,H p=some (.dK kvs))\/∃kvs,H p=some (.dT kvs)))\/(T="set"/\∃S n,H p=some (.set S n))
 |_=>False
theorem zgn{pins:List (Addr×Obj)}{σ:St}{H:Hp}{s:Shared}{T:String}{x:V}{v:Value}(I:Inv X pins σ H s)(r:RelV x v)(ty:gq X.K T x H):
  s.TypeIs v T/\∀a,v= .ref a->∃ob,s.heap.get? a=some ob/\ob.dict=none:=by
 cases x with
 |str z=>
  obtain⟨t,rfl⟩:=r;cases (show T="str" from ty);exact⟨typeIs_str s z t,fun _ e=>nomatch e⟩
 |int i=>
  obtain⟨t,rfl⟩:=r;cases (show T="int" from ty);exact⟨typeIs_int s i t,fun _ e=>nomatch e⟩
 |ref p=>
  cases r;rcases ty with ⟨rfl,xs,hq⟩|⟨rfl,o,hk,hc,hd⟩|⟨rfl,hk⟩|⟨rfl,S,n,hk⟩
  ·obtain⟨its,_,pl,_⟩:=I.list hq
   refine⟨pl.isList.typeIs,fun a e=>?_⟩;cases e;obtain⟨o,n,e,c,hd,_⟩:=pl;exact⟨o,e,hd⟩
  ·refine⟨⟨o,I.kIn p o hk,hc⟩,fun a e=>?_⟩
   cases e;exact⟨o,I.kIn _ o hk,hd⟩
  ·have z: ∃o,s.heap.get? p=some o/\o.ExactDict:=by
    rcases hk with ⟨kvs,hk⟩|⟨kvs,hk⟩
    ·obtain⟨_,_,_,_,o,_,_,e,ex,_⟩:=I.hok p _ hk
     exact⟨o,e,ex⟩
    ·obtain⟨_,_,_,_,o,_,_,e,ex,_⟩:=I.hok p _ hk
     exact⟨o,e,ex⟩
   obtain⟨o,e,ex⟩:=z;refine⟨⟨o,e,ex.1⟩,fun a e2=>?_⟩;cases e2;exact⟨o,e,ex.2.1⟩
  ·obtain⟨o,_,_,_,e,ex,_⟩:=I.hok p _ hk
   refine⟨⟨o,e,ex.1⟩,fun a e2=>?_⟩;cases e2;exact⟨o,e,ex.2.1⟩
 |_=>exact False.elim ty
noncomputable def zgo(K:Ka)(T:String)(r:V->List V->Hp->VK->Prop)(to:TE)(t:TA):TE:=fun σ H Q=>to σ H fun x H1=>gq K T x H1/\t σ H1 fun xs H2=>r x xs H2 Q
variable {o e:Expr} {es:List Expr} {to:TE} {t:TA} {name:Str} {apos cpos:Pos} {T id:String} {r:V->List V->Hp->VK->Prop}
theorem gr(pa:PlainAttrs T)(slot:Slot T name id)(hty:typeOf (.builtin id)=pure (.type "method_descriptor"))(hm:MtR X id r)(ho:PE X o to)(ha:PA X (e::es) t)
  (hbase:attributeBase o name X.env (eval o X.env)=eval o X.env:=by rfl)
  (hfew:((backTo cpos (starEach (e::es) X.env)).all (fun x=> !x.1)&&(backToKw cpos (keywordEach [] X.env)).all (fun x=>x.1.isSome)
   &&decide ((e::es).length+([]:List Keyword).length+(if ([]:List Keyword).isEmpty then 0 else 1)<30))=true:=by rfl)
  (hline:(apos.endLine==cpos.line)=true:=by rfl) (hs:starEach (e::es) X.env=(false,eval e X.env)::starEach es X.env:=by rfl) (hplain:(backTo cpos (starEach es X.env)).any (·.1)=false:=by rfl):
  PE X (.Call (.Attribute o name apos) (e::es) [] cpos) (zgo X.K T r to t):=by
 intro pins s σ H Q I h;refine wpAny_Call_method_late hbase hfew hline rfl (zF (ho pins s σ H _ I h) fun v s1 ⟨x,H1,I1,r1,ty,q1⟩=>?_);obtain⟨h1,h2⟩:=zgn I1 r1 ty;refine⟨T,id,pa,slot,hty,h1,h2,?_⟩;have hA:=ha cpos pins s1 σ H1 _ I1 q1;rw[hs] at hA⊢;refine Calls.callWith_builtin (by show (false||(backTo cpos (starEach es X.env)).any (·.1))=false;rw[hplain]<;>rfl) (Calls.evalArgs_plain ?_);exact zF hA fun us s2 ⟨vs,H2,I2,r2,q2⟩=>hm pins s2 σ H2 x vs v us Q I2 r1 r2 q2
end
end L2
namespace L2
open PySem PySem.Spec PyProof.Rows
noncomputable def zgp(X:Cx)(id:String)(r:V->List V->Hp->VK->Prop):Prop:=
 ∀(pins:List (Addr×Obj)) (s:Shared) (σ:St) (H:Hp) (x:V) (xs:List V) (v:Value) (us:List Value) (Q:VK),Inv X pins σ H s->RelV x v->Vals xs us->r x xs H Q->
  wpAny (model X.prog X.w) X.A (call (.builtin id) (v::us)) (EP X pins σ Q) X.xe s
theorem Vals.one: ∀{x:V} {us:List Value},Vals [x] us->∃u,us=[u]/\RelV x u
 |_,_,.cons r .nil=>⟨_,rfl,r⟩
theorem Vals.two: ∀{x y:V} {us:List Value},Vals [x,y] us->∃u v,us=[u,v]/\RelV x u/\RelV y v
 |_,_,_,.cons r (.cons q .nil)=>⟨_,_,rfl,r,q⟩
theorem Vals.zero: ∀{us:List Value},Vals [] us->us=[]
 |_,.nil=>rfl
theorem Vals.rep{xs:List V}{us:List Value}(h:Vals xs us): ∀k:Nat,Vals (List.replicate k xs).flatten (List.replicate k us).flatten
 |0=>.nil
 |k+1=>by
  rw[List.replicate_succ,List.replicate_succ,List.flatten_cons,List.flatten_cons];exact Vals.append h (Vals.rep h k)
section
variable {X:Cx} {pins:List (Addr×Obj)} {σ:St} {H:Hp} {s:Shared} {l b:Addr} {xs ys zs:List V}
theorem Inv.lset{its its':List Value}{n:Nat}{f:Array Value->Array Value}{t':Nat}(I:Inv X pins σ H s)(hH:H l=some (.lst xs))
  (e:s.heap.get? l=some { cls:=.type "list",data:=.seq its.toArray n }) (hf:f its.toArray=its'.toArray) (hv:Vals ys its') (hz:ys.length<=sizeLine):
  Inv X pins σ (zL H l (.lst ys)) { s with heap:=s.heap.update l (Obj.mapSeq f),toks:=t' }:=by
 have q:=PySem.IsL.update e f;rw[hf] at q;refine I.write (x:=l) (e:=l) (by rw[hH];exact trivial) (.inl rfl) (fun b' u hb hu=>(Heap.get?_update_other s.heap (Obj.mapSeq f) (Ne.symm hb)).trans hu) ⟨_,q⟩ ?_;exact⟨hz,its',_,hv,q⟩
theorem Inv.lnew{its:List Value}{t':Nat}(I:Inv X pins σ H s)(hv:Vals ys its)(hz:ys.length<=sizeLine):
  Inv X pins σ (zL H s.heap.objs.size (.lst ys)) { s with heap:=s.heap.push { cls:=.type "list",data:=.seq its.toArray },toks:=t' }:=
 I.laid (fun _ _ q=>Kn _ q) (Kg _) ⟨hz,its,0,hv,Heap.get?_push_size _ rfl⟩
theorem Inv.fresh(I:Inv X pins σ H s):H s.heap.objs.size=none:=I.hok.fresh (Kg _)
theorem Inv.lstM(I:Inv X pins σ H s)(hH:H l=some (.lst xs)):xs.length<=sizeLine/\∃(its:List Value) (n:Nat),Vals xs its/\xs.length=its.length/\s.heap.get? l=some { cls:=.type "list",data:=.seq its.toArray n }:=by
 obtain⟨z,its,n,r,e⟩:=I.hok l _ hH;exact⟨z,its,n,r,r.length,e⟩
end
section
variable {X:Cx}
noncomputable def zgq:V->List V->Hp->VK->Prop:=fun x vs H Q=>∃l xs y,x= .ref l/\vs=[y]/\H l=some (.lst xs)/\xs.length<sizeLine/\Q .non (zL H l (.lst (xs++[y])))
theorem gs:zgp X "list.append" zgq:=by
 intro pins s σ H x vs v us Q I rx rv h;obtain⟨l,xs,y,rfl,rfl,hH,hz,q⟩:=h;cases rx;obtain⟨u,rfl,ru⟩:=rv.one;obtain⟨z,its,n,r,hl,e⟩:=I.lstM hH;refine call_meets F.slot_list_append ⟨_,e,rfl⟩ F.entry_list_append (F.args_list_append_2 _ _) (PySem.list_append l its.toArray n u (by rw[List.size_toArray];omega)) ⟨e,?_⟩;refine⟨.non,_,I.lset (its':=its++[u]) hH e (by simp) (r.append (.cons ru .nil)) ?_,rfl,q⟩;rw[List.length_append,List.length_singleton];omega
end
end L2
namespace L2
open PySem PySem.Spec PyProof.Rows
section
variable {κ:Type} [DecidableEq κ]
noncomputable def yt(kvs:List (κ×V))(k:κ):Option V:=(kvs.find? fun kv=>decide (kv.1=k)).map (·.2)
noncomputable def yv(kvs:List (κ×V))(k:κ)(v:V):List (κ×V):=
 if (kvs.any fun kv=>decide (kv.1=k))=true then kvs.map (fun kv=>if kv.1=k then (kv.1,v) else kv) else kvs++[(k,v)]
noncomputable def gu(kvs:List (κ×V))(k:κ):List (κ×V):=kvs.filter fun kv=>decide (kv.1≠k)
theorem jf{p:κ×V}{r:List (κ×V)}{k:κ}(e:p.1=k):yt (p::r) k=some p.2:=by simp[yt,List.find?_cons,e]
theorem jg{p:κ×V}{r:List (κ×V)}{k:κ}(e: ¬p.1=k):yt (p::r) k=yt r k:=by simp[yt,List.find?_cons,e]
theorem jE(k:κ): ∀kvs:List (κ×V),(kvs.any fun kv=>decide (kv.1=k))=(yt kvs k).isSome
 |[]=>rfl
 |p::r=>by
  rw[List.any_cons];by_cases e:p.1=k
  ·simp only[jf e,decide_eq_true e,Bool.true_or,Option.isSome_some]
  ·rw[jg e,KKq e,Bool.false_or];exact jE k r
theorem JO(kvs:List (κ×V))(k:κ)(v:V):(yv kvs k v).length<=kvs.length+1:=by
 unfold yv;split
 ·rw[List.length_map];omega
 ·rw[List.length_append,List.length_cons,List.length_nil];omega
theorem RelO.isSome_eq{o:Option V}{u:Option Value}(r:RelO o u):o.isSome=u.isSome:=by
 cases o with
 |none=>cases u with
  |none=>rfl
  |some _=>exact (show False from r).elim
 |some _=>cases u with
  |none=>exact (show False from r).elim
  |some _=>rfl
theorem RelO.getD{o:Option V}{u:Option Value}{d:V}{d':Value}(r:RelO o u)(rd:RelV d d'):RelV (o.getD d) (u.getD d'):=by
 cases o with
 |none=>cases u with
  |none=>exact rd
  |some _=>exact (show False from r).elim
 |some _=>cases u with
  |none=>exact (show False from r).elim
  |some _=>exact r
theorem KV.val{kvs:List (κ×V)}{vs:List (κ×Value)}(r:KV kvs vs)(k:κ):RelO (yt kvs k) (valueAt vs k):=by
 unfold KV at r
 induction r with
 |nil=>exact True.intro
 | @cons p q ps qs h t ih=>
  obtain⟨h1,h2⟩:=h;by_cases e:p.1=k
  ·have e':q.1=k:=h1.symm.trans e
   have b:valueAt (q::qs) k=some q.2:=by simp[valueAt,List.find?_cons,e']
   rw[jf e,b];exact h2
  ·have e': ¬q.1=k:=fun z=>e (h1.trans z)
   have b:valueAt (q::qs) k=valueAt qs k:=by simp[valueAt,List.find?_cons,e']
   rw[jg e,b];exact ih
theorem KV.any{kvs:List (κ×V)}{vs:List (κ×Value)}(r:KV kvs vs)(k:κ):(kvs.any fun kv=>decide (kv.1=k))=vs.any fun kv=>decide (kv.1=k):=by
 unfold KV at r
 induction r with
 |nil=>rfl
 |cons h t ih=>rw[List.any_cons,List.any_cons,ih,h.1]
theorem KV.repl{kvs:List (κ×V)}{vs:List (κ×Value)}(r:KV kvs vs)(k:κ){y:V}{u:Value}(ry:RelV y u):
  KV (kvs.map fun kv=>if kv.1=k then (kv.1,y) else kv) (vs.map fun kv=>if kv.1=k then (kv.1,u) else kv):=by
 unfold KV at r⊢
 induction r with
 |nil=>exact .nil
 | @cons p q ps qs h t ih=>
  rw[List.map_cons,List.map_cons];refine .cons ?_ ih;obtain⟨h1,h2⟩:=h;by_cases e:p.1=k
  ·rw[if_pos e,if_pos (h1.symm.trans e)];exact⟨h1,ry⟩
  ·rw[if_neg e,if_neg (fun z=>e (h1.trans z))];exact⟨h1,h2⟩
theorem KV.put{kvs:List (κ×V)}{vs:List (κ×Value)}(r:KV kvs vs)(k:κ){y:V}{u:Value}(ry:RelV y u):KV (yv kvs k y) (stored vs k u):=by
 unfold yv stored;rw[r.any k];by_cases e:(vs.any fun kv=>decide (kv.1=k))=true
 ·rw[if_pos e,if_pos e];exact r.repl k ry
 ·rw[if_neg e,if_neg e];exact Paired.snoc r ⟨rfl,ry⟩
theorem KV.drop{kvs:List (κ×V)}{vs:List (κ×Value)}(r:KV kvs vs)(k:κ):KV (gu kvs k) (without vs k):=by
 unfold KV at r⊢;unfold gu without
 induction r with
 |nil=>exact .nil
 | @cons p q ps qs h t ih=>
  obtain⟨h1,h2⟩:=h;rw[List.filter_cons,List.filter_cons];by_cases e:p.1=k
  ·have a: ¬decide (p.1≠k)=true:=by simp[e]
   have b: ¬decide (q.1≠k)=true:=by simp[h1.symm.trans e]
   rw[if_neg a,if_neg b];exact ih
  ·have e': ¬q.1=k:=fun z=>e (h1.trans z)
   have a:decide (p.1≠k)=true:=by simp[e]
   have b:decide (q.1≠k)=true:=by simp[e']
   rw[if_pos a,if_pos b];exact .cons ⟨h1,h2⟩ ih
theorem KV.keys{kvs:List (κ×V)}{vs:List (κ×Value)}(r:KV kvs vs):kvs.map (·.1)=vs.map (·.1):=by
 unfold KV at r
 induction r with
 |nil=>rfl
 |cons h t ih=>rw[List.map_cons,List.map_cons,ih,h.1]
theorem KV.length{kvs:List (κ×V)}{vs:List (κ×Value)}(r:KV kvs vs):kvs.length=vs.length:=Paired.length r
end
theorem ZL{P:Program}{w:World}{k:zy}{u:Value}(r:RelV (kV k) u):(xg P w).is k u=true:=by
 cases k with
 |inl i=>obtain⟨t,e⟩:=(show ∃t,u=Value.int i t from r);subst e;exact zeN P w i t
 |inr x=>obtain⟨t,e⟩:=(show ∃t,u=Value.str x t from r);subst e;exact zeO P w x t
theorem gv{P:Program}{w:World}: ∀{ks:List zy} {us:List Value},Vals (ks.map kV) us->ItemsAre (xg P w) ks us
 |[],_,r=>by rw[List.map_nil] at r;cases r;exact .nil
 |k::ks,_,r=>by
  rw[List.map_cons] at r
  cases r with
  |cons h t=>exact .cons (ZL h) (gv t)
noncomputable abbrev KT(H:Hp):List (List zy×V)->List (List zy×Addr×Value)->Prop:=Paired fun p q=>p.1=q.1/\H q.2.1=some (.tup (p.1.map kV))/\RelV p.2 q.2.2
theorem KT.val{H:Hp}{kvs:List (List zy×V)}{xs:List (List zy×Addr×Value)}(r:KT H kvs xs)(k:List zy):RelO (yt kvs k) ((atKey xs k).map (·.2)):=by
 induction r with
 |nil=>exact True.intro
 | @cons p q ps qs h t ih=>
  obtain⟨h1,_,h2⟩:=h;by_cases e:p.1=k
  ·have e':q.1=k:=h1.symm.trans e
   have b:atKey (q::qs) k=some q.2:=by simp[atKey,List.find?_cons,e']
   rw[jf e,b];exact h2
  ·have e': ¬q.1=k:=fun z=>e (h1.trans z)
   have b:atKey (q::qs) k=atKey qs k:=by simp[atKey,List.find?_cons,e']
   rw[jg e,b];exact ih
theorem KT.repl{H:Hp}{kvs:List (List zy×V)}{xs:List (List zy×Addr×Value)}(r:KT H kvs xs)(k:List zy){y:V}{u:Value}(ry:RelV y u):
  KT H (kvs.map fun kv=>if kv.1=k then (kv.1,y) else kv) (xs.map (putAt k u)):=by
 induction r with
 |nil=>exact .nil
 | @cons p q ps qs h t ih=>
  rw[List.map_cons,List.map_cons];refine .cons ?_ ih;obtain⟨h1,h2,h3⟩:=h;unfold putAt;by_cases e:p.1=k
  ·rw[if_pos e,if_pos (h1.symm.trans e)];exact⟨h1,h2,ry⟩
  ·rw[if_neg e,if_neg (fun z=>e (h1.trans z))];exact⟨h1,h2,h3⟩
theorem KT.put{H:Hp}{kvs:List (List zy×V)}{xs:List (List zy×Addr×Value)}(r:KT H kvs xs)(k:List zy){b:Addr}{y:V}{u:Value}(hb:H b=some (.tup (k.map kV)))(ry:RelV y u):
  KT H (yv kvs k y) (storedH xs k b u):=by
 have e:(kvs.any fun kv=>decide (kv.1=k))=(atKey xs k).isSome:=by
  rw[jE,(r.val k).isSome_eq,Option.isSome_map]
 unfold yv storedH;rw[e];by_cases q:(atKey xs k).isSome=true
 ·rw[if_pos q,if_pos q];exact r.repl k ry
 ·rw[if_neg q,if_neg q];exact Paired.snoc r ⟨rfl,hb,ry⟩
theorem KT.keeps{H H':Hp}{kvs:List (List zy×V)}{xs:List (List zy×Addr×Value)}(r:KT H kvs xs)(ht: ∀b ys,H b=some (.tup ys)->H' b=some (.tup ys)):KT H' kvs xs:=
 Paired.mapP r fun _ _ z=>⟨z.1,ht _ _ z.2.1,z.2.2⟩
section
variable {P:Program} {w:World} {H:Hp} {h:Heap} {a:Addr}
theorem gw{u:HO}(ok:HOk P w H h)(e:Rd H a u):ObjOk P w H h a u:=e.ok ok
theorem jF{kvs:List (zy×V)}(ok:HOk P w H h)(e:Rd H a (.dK kvs)):kvs.length<=sizeLine/\(a==sysModules)=false/\∃vs,KV kvs vs/\h.DictOf (xg P w) a vs:=
 show ObjOk P w H h a (.dK kvs) from gw ok e
theorem zgr{kvs:List (zy×V)}(ok:HOk P w H h)(e:H a=some (.dK kvs)):kvs.length<=sizeLine/\(a==sysModules)=false/\∃vs,KV kvs vs/\h.DictOf (xg P w) a vs:=jF ok (.inl e)
theorem jG{ks:List zy}(ok:HOk P w H h)(e:H a=some (.tup (ks.map kV))):(tupleKind (xg P w)).is h ks a:=by
 obtain⟨_,its,r,o,h1,h2,n,h3⟩:=(show ObjOk P w H h a (.tup (ks.map kV)) from ok a _ e);exact⟨o,its.toArray,n,h1,h2,h3,by simpa using gv r⟩
theorem jH{kvs:List (List zy×V)}(ok:HOk P w H h)(e:Rd H a (.dT kvs)):kvs.length<=sizeLine/\(a==sysModules)=false/\
  ∃xs,KT H kvs xs/\h.DictOfH (tupleKind (xg P w)) a xs:=by
 obtain⟨z,y,xs,r,o,es,ep,h1,h2,h3,h4,h5⟩:=(show ObjOk P w H h a (.dT kvs) from gw ok e);refine⟨z,y,xs,r,o,es,ep,h1,h2,h3,h4,fun x hx=>?_,h5⟩
 have all: ∀{l:List (List zy×V)} {m:List (List zy×Addr×Value)},KT H l m->∀x∈m,(tupleKind (xg P w)).is h x.1 x.2.1:=by
  intro l m q
  induction q with
  |nil=>intro x hx;exact nomatch hx
  | @cons p q ps qs hq t ih=>
   intro x hx;rcases List.mem_cons.mp hx with e|hx
   ·subst e
    exact jG ok (by rw[<-hq.1];exact hq.2.1)
   ·exact ih x hx
 exact all r x hx
theorem zgs{kvs:List (List zy×V)}(ok:HOk P w H h)(e:H a=some (.dT kvs)):kvs.length<=sizeLine/\(a==sysModules)=false/\
  ∃xs,KT H kvs xs/\h.DictOfH (tupleKind (xg P w)) a xs:=jH ok (.inl e)
end
noncomputable abbrev KD(H:Hp):List (List (List Int)×V)->List (List (List Int)×Addr×Value)->Prop:=Paired fun p q=>p.1=q.1/\DKey H p.1 q.2.1/\RelV p.2 q.2.2
theorem KD.val{H:Hp}{kvs:List (List (List Int)×V)}{xs:List (List (List Int)×Addr×Value)}(r:KD H kvs xs)(k:List (List Int)):RelO (yt kvs k) ((atKey xs k).map (·.2)):=by
 induction r with
 |nil=>exact True.intro
 | @cons p q ps qs h t ih=>
  obtain⟨h1,_,h2⟩:=h;by_cases e:p.1=k
  ·have e':q.1=k:=h1.symm.trans e
   have b:atKey (q::qs) k=some q.2:=by simp[atKey,List.find?_cons,e']
   rw[jf e,b];exact h2
  ·have e': ¬q.1=k:=fun z=>e (h1.trans z)
   have b:atKey (q::qs) k=atKey qs k:=by simp[atKey,List.find?_cons,e']
   rw[jg e,b];exact ih
theorem KD.put{H:Hp}{kvs:List (List (List Int)×V)}{xs:List (List (List Int)×Addr×Value)}(r:KD H kvs xs)(k:List (List Int)){b:Addr}{y:V}{u:Value}(hb:DKey H k b)(ry:RelV y u):
  KD H (yv kvs k y) (storedH xs k b u):=by
 have e:(kvs.any fun kv=>decide (kv.1=k))=(atKey xs k).isSome:=by
  rw[jE,(r.val k).isSome_eq,Option.isSome_map]
 unfold yv storedH;rw[e];by_cases q:(atKey xs k).isSome=true
 ·rw[if_pos q,if_pos q]
  clear q e
  induction r with
  |nil=>exact .nil
  | @cons p q ps qs h t ih=>
   refine .cons ?_ ih;obtain⟨h1,h2,h3⟩:=h;unfold putAt;show (if p.1=k then (p.1,y) else p).1=_/\DKey H (if p.1=k then (p.1,y) else p).1 _/\RelV (if p.1=k then (p.1,y) else p).2 _;by_cases e:p.1=k
   ·rw[if_pos e,if_pos (h1.symm.trans e)];exact⟨h1,h2,ry⟩
   ·rw[if_neg e,if_neg (fun z=>e (h1.trans z))];exact⟨h1,h2,h3⟩
 ·rw[if_neg q,if_neg q];exact Paired.snoc r ⟨rfl,hb,ry⟩
section
variable {P:Program} {w:World} {H:Hp} {h:Heap} {a:Addr}
theorem ints_are: ∀{ks:List Int} {us:List Value},Vals (ks.map V.int) us->ItemsAre (intKind P w) ks us
 |[],_,r=>by rw[List.map_nil] at r;cases r;exact .nil
 |k::ks,_,r=>by
  rw[List.map_cons] at r
  cases r with
  |cons h t=>
   obtain⟨t',rfl⟩:=h;exact .cons (by simp[intKind,Value.isInt]) (ints_are t)
theorem zgt{ks:List Int}(ok:HOk P w H h)(e:H a=some (.tup (ks.map V.int))):IsTupleKey (intKind P w) h ks a:=by
 obtain⟨_,its,r,o,h1,h2,n,h3⟩:=(show ObjOk P w H h a (.tup (ks.map V.int)) from ok a _ e);exact⟨o,its.toArray,n,h1,h2,h3,by simpa using ints_are r⟩
theorem Xs{kss:List (List Int)}(ok:HOk P w H h)(e:DKey H kss a):(L2.DK.deepKind (intKind P w)).is h kss a:=by
 obtain⟨vs,e,r⟩:=e;obtain⟨hz,its,rv,o,h1,h2,n,h3⟩:=(show ObjOk P w H h a (.tup vs) from ok a _ e);refine⟨o,its.toArray,n,h1,h2,h3,?_⟩;show L2.DK.Items2 (intKind P w) h kss its.toArray.toList;rw[List.toList_toArray];clear e h1 h2 h3 hz
 induction r generalizing its with
 |nil=>cases rv;exact .nil
 |cons hh t ih=>
  obtain⟨c,rfl,hc⟩:=hh
  cases rv with
  |cons rc rt=>
   cases rc;exact .cons (zgt ok hc) (ih _ rt)
theorem ZM{kvs:List (List (List Int)×V)}(ok:HOk P w H h)(e:H a=some (.dD kvs)):kvs.length<=sizeLine/\(a==sysModules)=false/\
  ∃xs,KD H kvs xs/\h.DictOfH (L2.DK.deepKind (intKind P w)) a xs:=by
 obtain⟨z,y,xs,r,o,es,ep,h1,h2,h3,h4,h5⟩:=(show ObjOk P w H h a (.dD kvs) from ok a _ e);refine⟨z,y,xs,r,o,es,ep,h1,h2,h3,h4,fun x hx=>?_,h5⟩
 have all: ∀{l:List (List (List Int)×V)} {m:List (List (List Int)×Addr×Value)},KD H l m->∀x∈m,(L2.DK.deepKind (intKind P w)).is h x.1 x.2.1:=by
  intro l m q
  induction q with
  |nil=>intro x hx;exact nomatch hx
  | @cons p q ps qs hq t ih=>
   intro x hx;rcases List.mem_cons.mp hx with e|hx
   ·subst e
    exact Xs ok (by rw[<-hq.1];exact hq.2.1)
   ·exact ih x hx
 exact all r x hx
theorem zgu{H:Hp}(h:Heap)(hb:sysModules<h.objs.size):ObjOk P w H (h.push { cls:=.type "dict",data:=.dict #[] }) h.objs.size (.dD []):=
 ⟨Nat.zero_le _,beq_eq_false_iff_ne.mpr (Kk hb),[],.nil,by
  obtain⟨o,es,ep,h1,h2,h3,h4,_,h5⟩:=Heap.DictOfH.new (knd:=L2.DK.deepKind (intKind P w)) h;exact⟨o,es,ep,h1,h2,h3,h4,h5⟩⟩
end
noncomputable def DGet(H:Hp)(a:Addr)(y:V)(r:Option V):Prop:=
 (∃kvs k,Rd H a (.dK kvs)/\y=kV k/\r=yt kvs k)\/∃kvs k b,Rd H a (.dT kvs)/\y= .ref b/\H b=some (.tup (k.map kV))/\r=yt kvs k
noncomputable def DPut(H:Hp)(a:Addr)(y v:V)(H':Hp):Prop:=
 (∃kvs k,H a=some (.dK kvs)/\y=kV k/\kvs.length<sizeLine/\H'=zL H a (.dK (yv kvs k v)))\/
 (∃kvs k b,H a=some (.dT kvs)/\y= .ref b/\H b=some (.tup (k.map kV))/\kvs.length<sizeLine/\H'=zL H a (.dT (yv kvs k v)))\/
 ∃kvs k b,H a=some (.dD kvs)/\y= .ref b/\DKey H k b/\kvs.length<sizeLine/\H'=zL H a (.dD (yv kvs k v))
theorem DGet.k{H:Hp}{a:Addr}{kvs:List (zy×V)}{k:zy}(e:H a=some (.dK kvs)):DGet H a (kV k) (yt kvs k):=.inl ⟨kvs,k,.inl e,rfl,rfl⟩
theorem DGet.t{H:Hp}{a b:Addr}{kvs:List (List zy×V)}{k:List zy}(e:H a=some (.dT kvs))(eb:H b=some (.tup (k.map kV))):DGet H a (.ref b) (yt kvs k):=.inr ⟨kvs,k,b,.inl e,rfl,eb,rfl⟩
theorem DPut.k{H:Hp}{a:Addr}{kvs:List (zy×V)}{k:zy}{v:V}(e:H a=some (.dK kvs))(hl:kvs.length<sizeLine):DPut H a (kV k) v (zL H a (.dK (yv kvs k v))):=.inl ⟨kvs,k,e,rfl,hl,rfl⟩
theorem DPut.t{H:Hp}{a b:Addr}{kvs:List (List zy×V)}{k:List zy}{v:V}(e:H a=some (.dT kvs))(eb:H b=some (.tup (k.map kV)))(hl:kvs.length<sizeLine):
  DPut H a (.ref b) v (zL H a (.dT (yv kvs k v))):=.inr (.inl ⟨kvs,k,b,e,rfl,eb,hl,rfl⟩)
theorem DPut.d{H:Hp}{a b:Addr}{kvs:List (List (List Int)×V)}{k:List (List Int)}{v:V}(e:H a=some (.dD kvs))(eb:DKey H k b)(hl:kvs.length<sizeLine):
  DPut H a (.ref b) v (zL H a (.dD (yv kvs k v))):=.inr (.inr ⟨kvs,k,b,e,rfl,eb,hl,rfl⟩)
section
variable {X:Cx} {pins:List (Addr×Obj)} {σ:St} {H:Hp} {s:Shared} {a:Addr} {y v:V} {u r:Value} {o:Option V} {A:Around} {E:Value->Shared->Prop}
theorem Inv.big(I:Inv X pins σ H s):sysModules<s.heap.objs.size:=by
 have h:mainGlobals<s.heap.objs.size:=(I.mod.glob.keeps I.bk).lt;exact Nat.lt_trans (by decide) h
theorem zgv{Q:Value->Shared->Prop}(hu:A.units+1<cLine)(I:Inv X pins σ H s)(g:DGet H a y (some v))(ry:RelV y u)(h: ∀w' s',Inv X pins σ H s'->RelV v w'->Q w' s'):
  wpAny (model X.prog X.w) A (getItem (.ref a) u) Q E s:=by
 rcases g with ⟨kvs,k,e,ey,l⟩|⟨kvs,k,b,e,ey,eb,l⟩
 ·subst ey
  obtain⟨z,hd,vs,rel,dd⟩:=jF I.hok e;obtain⟨w',hw,rw'⟩:=RelO.some_of (v:=v) (o:=valueAt vs k) (by rw[l];exact rel.val k);exact wpAny_getItem_of (ZL ry) dd.mapOf hw (h w' _ (I.tok _) rw')
 ·subst ey
  cases (show u=Value.ref b from ry);obtain⟨z,hd,xs,rel,dd⟩:=jH I.hok e;obtain⟨w',hw,rw'⟩:=RelO.some_of (v:=v) (o:=(atKey xs k).map (·.2)) (by rw[l];exact rel.val k);obtain⟨p,hp,hp2⟩:=jo2.mp hw;refine wpAny_getItem_heap (tupleKind_room_in1 hu) (jG I.hok eb) dd hp ?_;rw[hp2];exact h w' _ (I.tok _) rw'
theorem gx{Q:Value->Shared->Prop}(hu:A.units+1<cLine)(I:Inv X pins σ H s)(g:DGet H a y o)(ry:RelV y u)(h: ∀s',Inv X pins σ H s'->Q (.bool o.isSome) s'):
  wpAny (model X.prog X.w) A (compareOp .In u (.ref a)) Q E s:=by
 rcases g with ⟨kvs,k,e,ey,l⟩|⟨kvs,k,b,e,ey,eb,l⟩
 ·subst ey
  obtain⟨z,hd,vs,rel,dd⟩:=jF I.hok e;refine wpAny_in_of (ZL ry) hd dd.mapOf ?_;rw[<-(rel.val k).isSome_eq,<-l];exact h _ (I.tok _)
 ·subst ey
  cases (show u=Value.ref b from ry);obtain⟨z,hd,xs,rel,dd⟩:=jH I.hok e;refine wpAny_in_heap (tupleKind_room_in1 hu) (jG I.hok eb) hd dd ?_;have q:=(rel.val k).isSome_eq;rw[Option.isSome_map] at q;rw[<-q,<-l];exact h _ (I.tok _)
theorem gy{Q:Value->Shared->Prop}(hu:A.units+1<cLine)(I:Inv X pins σ H s)(g:DGet H a y o)(ry:RelV y u)(h: ∀s',Inv X pins σ H s'->Q (.bool (!o.isSome)) s'):
  wpAny (model X.prog X.w) A (compareOp .NotIn u (.ref a)) Q E s:=by
 rcases g with ⟨kvs,k,e,ey,l⟩|⟨kvs,k,b,e,ey,eb,l⟩
 ·subst ey
  obtain⟨z,hd,vs,rel,dd⟩:=jF I.hok e;refine wpAny_notIn_of (ZL ry) hd dd.mapOf ?_;rw[<-(rel.val k).isSome_eq,<-l];exact h _ (I.tok _)
 ·subst ey
  cases (show u=Value.ref b from ry);obtain⟨z,hd,xs,rel,dd⟩:=jH I.hok e;refine wpAny_notIn_heap (tupleKind_room_in1 hu) (jG I.hok eb) hd dd ?_;have q:=(rel.val k).isSome_eq;rw[Option.isSome_map] at q;rw[<-q,<-l];exact h _ (I.tok _)
theorem JP{h':Heap}{t':Nat}{ob:HO}(I:Inv X pins σ H s)(mu:ZF (H a))(hs:Heap.SameBut a s.heap h')(he: ∃q,h'.get? a=some q)(new:ObjOk X.prog X.w (zL H a ob) h' a ob):
  Inv X pins σ (zL H a ob) { s with heap:=h',toks:=t' }:=
 I.write (x:=a) (e:=a) mu (.inl rfl) (fun b q hb z=>(hs.2 b hb).trans z) he new
theorem zgw{P:Program}{w:World}{H':Hp}{h':Heap}{kvs:List (zy×V)}{vs:List (zy×Value)}(z:kvs.length<=sizeLine)(hd:(a==sysModules)=false)(rel:KV kvs vs)(dd:h'.DictOf (xg P w) a vs):
  ObjOk P w H' h' a (.dK kvs):=⟨z,hd,vs,rel,dd⟩
theorem zgx{H':Hp}{Q:Unit->Shared->Prop}(hu:A.units+2<cLine)(I:Inv X pins σ H s)(g:DPut H a y v H')(ry:RelV y u)(rv:RelV v r)(h: ∀s',Inv X pins σ H' s'->Q () s'):
  wpAny (model X.prog X.w) A (setItem (.ref a) u r) Q E s:=by
 rcases g with ⟨kvs,k,e,ey,l,eH⟩|⟨kvs,k,b,e,ey,eb,l,eH⟩|⟨kvs,k,b,e,ey,eb,l,eH⟩
 ·subst ey eH
  obtain⟨z,hd,vs,rel,dd⟩:=zgr I.hok e;have hz:vs.length<=sizeLine:=by rw[<-rel.length];exact z
  have hl:(yv kvs k v).length<=sizeLine:=by have:=JO kvs k v;omega
  refine wpAny_setItem_pairs (hsz:=hz) (ZL ry) dd fun h' dd' hs=>h _ ?_
  have he: ∃q,h'.get? a=some q:=let ⟨q,_,_,hq,_⟩:=dd';⟨q,hq⟩;exact JP I (by rw[e];exact True.intro) hs he (zgw hl hd (rel.put k rv) dd')
 ·subst ey eH
  cases (show u=Value.ref b from ry);obtain⟨z,hd,xs,rel,dd⟩:=zgs I.hok e;have hz:xs.length<=sizeLine:=by rw[<-Paired.length rel];exact z
  have hl:(yv kvs k v).length<=sizeLine:=by have:=JO kvs k v;omega
  refine wpAny_setItem_heap (hsz:=hz) (tupleKind_room_in1 (by omega)) (jG I.hok eb) dd fun h' dd' hs=>h _ ?_
  obtain⟨q,es,ep,hq,h2,h3,h4,_,h5⟩:=dd';refine JP I (by rw[e];exact True.intro) hs ⟨q,hq⟩ ⟨hl,hd,_,(rel.put k eb rv).keeps fun c ys ec=>?_,q,es,ep,hq,h2,h3,h4,h5⟩;rw[yp (qu ec e (fun z=>nomatch z))];exact ec
 ·subst ey eH
  cases (show u=Value.ref b from ry);obtain⟨z,hd,xs,rel,dd⟩:=ZM I.hok e;have hz:xs.length<=sizeLine:=by rw[<-Paired.length rel];exact z
  have hl:(yv kvs k v).length<=sizeLine:=by have:=JO kvs k v;omega
  refine wpAny_setItem_heap (hsz:=hz) (show A.in1.units+1<cLine from hu) (Xs I.hok eb) dd fun h' dd' hs=>h _ ?_
  obtain⟨q,es,ep,hq,h2,h3,h4,_,h5⟩:=dd';refine JP I (by rw[e];exact True.intro) hs ⟨q,hq⟩ ⟨hl,hd,_,Paired.mapP (rel.put k eb rv) fun _ _ z=>⟨z.1,z.2.1.keeps fun c ys ec=>?_,z.2.2⟩,q,es,ep,hq,h2,h3,h4,h5⟩;rw[yp (qu ec e (fun z=>nomatch z))];exact ec
end
theorem zgy{X:Cx}{pins:List (Addr×Obj)}{σ:St}{H:Hp}{s:Shared}{a:Addr}{y:V}{o:Option V}(I:Inv X pins σ H s)(g:DGet H a y o):s.TypeIs (.ref a) "dict":=by
 rcases g with ⟨kvs,k,e,_,_⟩|⟨kvs,k,b,e,_,_,_⟩
 ·obtain⟨_,_,vs,_,dd⟩:=jF I.hok e
  exact dd.typeIs
 ·obtain⟨_,_,xs,_,dd⟩:=jH I.hok e
  exact dd.typeIs
noncomputable def zgz(td ty tv:TE):TS:=fun D σ H=>tv σ H fun v H1=>td σ H1 fun x H2=>ty σ H2 fun y H3=>∃a H4,x= .ref a/\DPut H3 a y v H4/\D.nx σ H4
section
variable {X:Cx} {o i e value:Expr} {pos pos' tpos:Pos} {td ty tv:TE}
theorem zgA(hu:X.A.units+2<cLine)(ho:PE X o td)(hi:PE X i ty)(hv:PE X value tv)(hs:swapsWith value (some (.Subscript o i pos')) pos.line X.env=pure false):
  PS X (.Assign [.Subscript o i pos'] value pos) (zgz td ty tv):=by
 intro pins s σ H D I h;refine wpAny_Assign_Subscript (zF (hv pins s σ H _ I h) fun r s1 ⟨v,H1,I1,rv,q1⟩=>zF (ho pins s1 σ H1 _ I1 q1) fun u s2 ⟨x,H2,I2,rx,q2⟩=>zF (hi pins s2 σ H2 _ I2 q2) fun iv s3 ⟨y,H3,I3,ry,a,H4,ex,g,q3⟩=>?_) hs;subst ex;obtain rfl:u=Value.ref a:=rx;exact zgx hu I3 g ry rv fun s4 I4=>⟨σ,H4,I4,q3⟩
end
theorem zgB{P:Program}{w:World}{H:Hp}(h:Heap)(hb:sysModules<h.objs.size):ObjOk P w H (h.push { cls:=.type "dict",data:=.dict #[] }) h.objs.size (.dK []):=
 ⟨Nat.zero_le _,beq_eq_false_iff_ne.mpr (Ne.symm (Ki hb)),[],.nil,Heap.DictOf.new h⟩
theorem zgC{P:Program}{w:World}{H:Hp}(h:Heap)(hb:sysModules<h.objs.size):ObjOk P w H (h.push { cls:=.type "dict",data:=.dict #[] }) h.objs.size (.dT []):=
 ⟨Nat.zero_le _,beq_eq_false_iff_ne.mpr (Ne.symm (Ki hb)),[],.nil,_, #[],0,Heap.get?_push_size _ rfl,⟨rfl,rfl,rfl⟩,rfl,rfl,List.nodup_nil⟩
noncomputable def zgD:TE:=fun _ H Q=>∀p,H p=none->Q (.ref p) (zL H p (.dK []))
noncomputable def zgE:TE:=fun _ H Q=>∀p,H p=none->Q (.ref p) (zL H p (.dT []))
section
variable {X:Cx} {pos:Pos}
theorem gz:PE X (.Dict [] [] pos) zgD:=fun pins s σ H Q I h=>
 wpAny_Dict_empty ⟨.ref s.heap.objs.size,_,I.laid (a:=s.heap.objs.size) (o:=.dK []) (t':=s.toks) (fun _ _ q=>Kn _ q) (Kg _) (zgB s.heap I.big),rfl,h _ (I.hok.fresh (Kg _))⟩
theorem gA:PE X (.Dict [] [] pos) zgE:=fun pins s σ H Q I h=>
 wpAny_Dict_empty ⟨.ref s.heap.objs.size,_,I.laid (a:=s.heap.objs.size) (o:=.dT []) (t':=s.toks) (fun _ _ q=>Kn _ q) (Kg _) (zgC s.heap I.big),rfl,h _ (I.hok.fresh (Kg _))⟩
end
noncomputable def zgF(kvs more:List (zy×V)):List (zy×V):=more.foldl (fun acc kv=>yv acc kv.1 kv.2) kvs
theorem KV.merge: ∀{more:List (zy×V)} {rs:List (zy×Value)} {kvs:List (zy×V)} {vs:List (zy×Value)},KV more rs->KV kvs vs->KV (zgF kvs more) (merged vs rs):=by
 intro more rs kvs vs r;unfold KV at r
 induction r generalizing kvs vs with
 |nil=>intro q;exact q
 | @cons p q ps qs h t ih=>
  intro r0
  have e:KV (yv kvs p.1 p.2) (stored vs q.1 q.2):=by
   have:=r0.put p.1 h.2;rw[<-h.1];exact this
  exact ih e
end L2
namespace Att
open PySem PySem.W PySem.Calls PyProof.Rows
theorem zgG{P:Params}{h:Heap}: ∀(ns:List Int) (vs:List Value),WellAll P h vs (ns.map WData.int)->IntsAre vs ns:=by
 intro ns
 induction ns with
 |nil=>
  intro vs w;rw[List.map_nil] at w;cases w;exact .nil
 |cons n ns ih=>
  intro vs w;rw[List.map_cons] at w
  cases w with
  |cons a b=>
   cases a;exact .cons _ _ (ih _ b)
theorem zgH{l:OpenLaw}{n:Nat}(hn:l.most=some n){P:Params}{h:Heap}{args:List WData}{vals:List Value}
  (hpre:l.row.toRowW.claim.pre args=true) (hwl:WellAll P h vals args):
  ∃a vs ns,vals=[Value.ref a]/\args=[WData.list (ns.map WData.int)]/\h.get? a=some { cls:=.type "list",data:=.seq vs.toArray }/\IntsAre vs ns/\ns.length<=n:=by
 have hsh:WShape.hasAll [] args [.list .int]=true:=(pre_splitW hpre).1;have hc:l.pre.holds [] { args:=args }=true:=(pre_splitW hpre).2;obtain⟨d,r,rfl,h1,h2⟩:=hasAllW_cons hsh;obtain rfl:=hasAllW_nil h2;obtain⟨xs,rfl,h3⟩:=hasW_list h1;obtain⟨ns,rfl⟩:=items_int h3
 have hlen:ns.length<=n:=by
  unfold OpenLaw.pre at hc
  have h4:(WTm.not (.lt (.lit (.int (n:Int))) (.len (.arg 0)))).holds [] { args:=[.list (ns.map .int)] }=true:=by
   have h4:=(holds_andW hc).1;rw[hn] at h4;exact h4
  have h5:=condW_of h4 (w_not (w_lt w_lit (w_len_list (w_arg rfl))));rw[List.length_map] at h5;refine Nat.le_of_not_lt fun q=>?_
  have q':(n:Int)<((ns.length:Nat):Int):=by omega
  first
   |(rw[decide_eq_true q'] at h5;exact KG h5 (by decide))
   |(simp at h5;omega)
 cases hwl with
 |cons w1 w2=>
  cases w2
  cases w1 with
  |list ho hall=>exact⟨_,_,ns,rfl,rfl,ho,zgG ns _ hall,hlen⟩
theorem zgI(l:OpenLaw)(args:List WData):l.row.toRowW.claim.post args (.bool true) args=true:=
 postW_of (r:=l.row.toRowW) (X:=(true==true))
  (show WShape.has [] (.bool true) .bool=true by first|rfl|decide|simp[WShape.has,WShape.arms,WShape.armsAll])
  (show (WTm.eq .res (.lit (.bool true))).value [] { args:=args,res:=some (.bool true),after:=args }=some (.bool (true==true)) from w_eq_bool (w_res rfl) w_lit) rfl
theorem attach_call{l:OpenLaw}{n:Nat}{q:Program}{loose:List Str}{XP:(Str->Option Value)->Heap->Prop}{YP:World->Heap->Prop}{d:DefRec}
  (hn:l.most=some n) (hdf:d.params.defaults=[])
  (call: ∀(w:World) (s₀ s₁:Shared) (mg mb:Str->Option Value) (fa:Addr) (o:Obj) (pm cd doc:Value) (a:Addr) (vs:List Value) (ns:List Int),
   Ground q loose [] XP w s₀ mg mb s₁.heap->YP w s₁.heap->
   s₁.heap.get? fa=some o->o.data= .func (docDef d.name d.params d.body d.scope pm cd doc)->s₁.heap.CodeRec cd d.name->mg d.name=some (.ref fa)->
   s₁.heap.get? a=some { cls:=.type "list",data:=.seq vs.toArray }->IntsAre vs ns->ns.length<=n->s₁.gens= #[]->
   codeAny (model l.prog w) callerA (.call (.ref fa) ⟨[.ref a],[]⟩) (fun r s'=>r= .ok (.ret (.bool true))/\OldK s₁.heap s'.heap/\s'.os=s₁.os/\AllBare s'.gens) s₁):
  WalkO q loose XP YP l.row.toRowW d [] (fun f vs=>PySem.call f vs):=by
 intro w s₀ s₁ mg mb G Y fa o pm cd doc dV kV ho hd hcd hD hmg hg args vals as hpre hlay hrd hwl hlo;obtain rfl:dV= .none:=Dflts.none hD hdf;obtain rfl:kV= .none:=Dflts.noKw hD;obtain⟨a,vs,ns,rfl,rfl,hobj,hints,hlen⟩:=zgH hn hpre hwl;refine enter_call (codeAny_mono (call w s₀ s₁ mg mb fa o pm cd doc a vs ns G Y ho (fd_plain hd) hcd hmg hobj hints hlen hg) fun r s' hq=>?_);obtain⟨rfl,h2,h3,h4⟩:=hq;exact⟨.inl ⟨.bool true,.bool true,[],rfl,fun _=>rfl,.bool true,zgI l _,fun _=>⟨List.Pairwise.nil,fun _ hm=>(nomatch hm)⟩⟩,h2,h3,h4⟩
section
variable {prog:Program} {w:World} {A:Around} {E:Value->Shared->Prop} {s:Shared} {K:Frag}
noncomputable def zoD(h:Heap)(L d:Addr):List (Addr×Obj):=(List.range h.objs.size).filterMap fun a=>if a=L\/a=d then none else (h.get? a).map fun o=>(a,o)
end
end Att
namespace L2
open PySem PySem.Spec PyProof.Rows
theorem JQ: ∀{vs:List Value} {ns:List Int},IntsAre vs ns->Vals (ns.map V.int) vs
 |_,_,.nil=>.nil
 |_,_,.cons n t h=>.cons ⟨t,rfl⟩ (JQ h)
noncomputable def Xt(H:Hp):Prop:=∀b,H b=none\/∃o xs,H b=some (.frz o (.lst xs))
theorem zgJ{P:Program}{w:World}{K:Ka}{mg mb:Str->Option Value}{CX:xV}{k:Nat}{fa a:Addr}{fd:FuncData}{x:Str}{sp:Sp}{s₁:Shared}{vs:List Value}{ns:List Int}
  (KX:K.In s₁.heap) (hns:s₁.heap.Ns mainGlobals mg) (hb:s₁.heap.Ns builtinsNs mb) (hbb: ∀x:Str,x≠"__name__"->mb x=bootBuiltins x) (hlim:s₁.heap.NoLimit) (hg:s₁.gens= #[])
  (ha:s₁.heap.get? a=some { cls:=.type "list",data:=.seq vs.toArray }) (hi:IntsAre vs ns) (hl:ns.length<=sizeLine) (hr:Room k callerA)
  (F: ∀base:Heap,K.In base->base.Ns mainGlobals mg->FnOk P w K mg base CX k fa fd [x] sp) (hbind: ∀(s:Shared) (u:Value),BindsTo s fd ⟨[u],[]⟩ [(x,u)])
  (hsp: ∀H:Hp,Xt H->SqL K H a (ns.map V.int)->sp [.ref a] H (fun v _=>v= .bl true) fun _ _ _=>False)
  (hCX: ∀H e s',CX [] H s₁ (fun _ _ _=>False) e s'->False):
  codeAny (model P w) callerA (.call (.ref fa) ⟨[.ref a],[]⟩) (fun r s'=>r= .ok (.ret (.bool true))/\OldK s₁.heap s'.heap/\s'.os=s₁.os/\AllBare s'.gens) s₁:=by
 have rv:=JQ hi;have lenV:=hi.length
 have core: ∀H:Hp,Xt H->SqL K H a (ns.map V.int)->HOk P w H s₁.heap->(∀b,H b≠none->b=a)->(H a≠none->K.lookup a=none)->
   codeAny (model P w) callerA (.call (.ref fa) ⟨[.ref a],[]⟩) (fun r s'=>r= .ok (.ret (.bool true))/\OldK s₁.heap s'.heap/\s'.os=s₁.os/\AllBare s'.gens) s₁:=by
  intro H hO hS hok hA hK;have base_of: ∀{b:Addr} {o:Obj},s₁.heap.get? b=some o->H b=none->(vp s₁.heap H).get? b=some o:=fun e n=>zeQ e n
  have noA: ∀{b:Addr} {o:Obj} {es:Array DictEntry} {ep:Nat},s₁.heap.get? b=some o->o.data= .dict es ep->H b=none:=fun {b o es ep} e d=>by
   cases q:H b with
   |none=>rfl
   |some u=>
    have e':b=a:=hA b (by rw[q];simp);subst e';rw[ha] at e;cases e;have d':Data.seq vs.toArray _=Data.dict es ep:=d;cases d'
  have nsK: ∀{b:Addr} {m:Str->Option Value},s₁.heap.Ns b m->(vp s₁.heap H).Ns b m:=fun {b m} ⟨o,es,ep,e,d,r⟩=>⟨o,es,ep,base_of e (noA e d),d,r⟩
  have hKb:K.In (vp s₁.heap H):=fun b o e=>base_of (KX b o e) (by
   cases q:H b with
   |none=>rfl
   |some u=>
    have e':b=a:=hA b (by rw[q];simp);subst e';rw[hK (by rw[q];simp)] at e;cases e)
  have hM:Mod K mg (vp s₁.heap H):=⟨hKb,nsK hns,⟨mb,nsK hb,hbb⟩,let ⟨mc,h1,h2⟩:=hlim;⟨mc,nsK h1,h2⟩⟩;have e0:Env0 P w K mg (vp s₁.heap H) callerA [] s₁ H:=⟨rfl,hM,fun b o e=>zeR e,Nat.le_of_eq (zeP _ _),trivial,fun b hb=>KG (show b∈([]:List Addr) from hb) (by simp),hok,.of_eq hg⟩;refine codeAny_mono ((F _ hKb (nsK hns)).run callerA [] s₁ H ⟨[.ref a],[]⟩ [.ref a] [.ref a] _ _ hr e0 (hbind s₁ (.ref a)) (.cons rfl .nil) (hsp H hO hS)) fun r s' h=>?_
  cases r with
  |error e=>exact (hCX H e s' h).elim
  |ok fl=>
   cases fl with
   |next=>exact False.elim h
   |brk=>exact False.elim h
   |cont=>exact False.elim h
   |ret u=>
    obtain⟨v,H',os,bare,un,hok',r',q⟩:=h;have q':v= .bl true:=q;subst q';obtain rfl:u=Value.bool true:=r';refine⟨rfl,OldK.of_keep fun b o e=>?_,os,bare⟩
    cases q:H b with
    |none=>exact un.keep b o e q (by intro z;exact KG (show b∈([]:List Addr) from z) (by simp)) (by simp)
    |some u=>
     rcases hO b with z|⟨ob,xs,z⟩
     ·rw[q] at z;cases z
     ·have z2:=un.frzs b ob _ z
      obtain⟨e1,_⟩:=hok b _ z;obtain⟨e2,_⟩:=hok' b _ z2;rw[e] at e1;cases e1;exact e2
 cases hk:K.lookup a with
 |some o=>
  have e:=KX a o hk;rw[ha] at e;cases e;refine core (fun _=>none) (fun _=>.inl rfl) (.inr ⟨_,vs.toArray,_,hk,rfl,rfl,rfl,by rw[List.size_toArray,lenV];exact hl,by simpa using rv⟩) (fun b u z=>by have z':(none:Option HO)=some u:=z;cases z') (fun b z=>KG rfl z) fun z=>KG rfl z
 |none=>
  refine core (fun b=>if b=a then some (.frz { cls:=.type "list",data:=.seq vs.toArray } (.lst (ns.map V.int))) else none) (fun b=>?_) (.inl (.inr ⟨{ cls:=.type "list",data:=.seq vs.toArray },if_pos rfl⟩)) (fun b u z=>?_) (fun b z=>?_) fun _=>hk
  ·by_cases hb:b=a
   ·exact .inr ⟨_,_,if_pos hb⟩
   ·exact .inl (if_neg hb)
  ·by_cases hb:b=a
   ·have z':=(if_pos hb).symm.trans z
    cases z';subst hb;exact⟨ha,by rw[List.length_map];exact hl,vs,_,rv,ha⟩
   ·have z':=(if_neg hb).symm.trans z
    cases z'
  ·by_cases hb:b=a
   ·exact hb
   ·exact KG (if_neg hb) z
end L2
namespace L2
open PySem PySem.Spec PyProof.Rows
noncomputable abbrev zoE{K:Ka}{h:Heap}(_:K.In h):Ka:=K
theorem zgK{l:PySem.W.OpenLaw}{n k:Nat}{q:Program}{loose:List Str}{XP:(Str->Option Value)->Heap->Prop}{YP:World->Heap->Prop}{d:DefRec}{K:Params->Ka}{CX:World->xV}{sp:World->Sp}{x:Str}
  (hn:l.most=some n) (hn2:n<=sizeLine) (hdf:d.params.defaults=[]) (hr:Room k callerA)
  (hY: ∀(w:World) (h:Heap),YP w h->(K w.params).In h)
  (F: ∀(w:World) (mg:Str->Option Value) (fa:Addr) (h:Heap),(K w.params).In h->h.Ns mainGlobals mg->mg d.name=some (.ref fa)->
   ∃fd:FuncData,(∀(s:Shared) (u:Value),BindsTo s fd ⟨[u],[]⟩ [(x,u)])/\
    ∀base:Heap,(K w.params).In base->base.Ns mainGlobals mg->FnOk l.prog w (K w.params) mg base (CX w) k fa fd [x] (sp w))
  (hsp: ∀(w:World) (H:Hp) (a:Addr) (ns:List Int),ns.length<=n->Xt H->SqL (K w.params) H a (ns.map V.int)->sp w [.ref a] H (fun v _=>v= .bl true) fun _ _ _=>False)
  (hCX: ∀(w:World) (H:Hp) (s:Shared) (e:Value) (s':Shared),CX w [] H s (fun _ _ _=>False) e s'->False):
  PySem.W.WalkO q loose XP YP l.row.toRowW d [] (fun f vs=>PySem.call f vs):=by
 refine Att.attach_call hn hdf fun w s₀ s₁ mg mb fa o pm cd doc a vs ns G Y ho hd hcd hmg hobj hints hlen hg=>?_
 have KX:=hY w _ Y;obtain⟨fd,hb,hF⟩:=F w mg fa _ KX G.T.g hmg;exact zgJ KX G.T.g G.T.b G.T.builtins G.T.nolimit hg hobj hints (Kh hlen hn2) hr hF hb (fun H hO hS=>hsp w H a ns hlen hO hS) fun H e s'=>hCX w H s₁ e s'
theorem zgL{l:PySem.W.OpenLaw}{n k:Nat}{q:Program}{loose:List Str}{XP:(Str->Option Value)->Heap->Prop}{YP:World->Heap->Prop}{d:DefRec}{K:Params->Ka}{CX:xV}{sp:Ka->Sp}{x:Str}
  (hn:l.most=some n) (hn2:n<=sizeLine) (hdf:d.params.defaults=[]) (hr:Room k callerA)
  (hY: ∀(w:World) (h:Heap),YP w h->(K w.params).In h)
  (F: ∀(w:World) (mg:Str->Option Value) (fa:Addr) (h:Heap),(K w.params).In h->h.Ns mainGlobals mg->mg d.name=some (.ref fa)->
   ∃fd:FuncData,(∀(s:Shared) (u:Value),BindsTo s fd ⟨[u],[]⟩ [(x,u)])/\
    ∀base:Heap,(K w.params).In base->base.Ns mainGlobals mg->FnOk l.prog w (K w.params) mg base CX k fa fd [x] (sp (K w.params)))
  (hsp: ∀(K:Ka) (H:Hp) (a:Addr) (ns:List Int),ns.length<=n->Xt H->SqL K H a (ns.map V.int)->sp K [.ref a] H (fun v _=>v= .bl true) fun _ _ _=>False)
  (hCX: ∀(H:Hp) (s:Shared) (e:Value) (s':Shared),CX [] H s (fun _ _ _=>False) e s'->False):
  PySem.W.WalkO q loose XP YP l.row.toRowW d [] (fun f vs=>PySem.call f vs):=
 zgK (K:=K) (CX:=fun _=>CX) (sp:=fun w=>sp (K w.params)) hn hn2 hdf hr hY F (fun w H a ns h1 h2 h3=>hsp (K w.params) H a ns h1 h2 h3) fun _ H s e s'=>hCX H s e s'
end L2
namespace L2
open PySem PySem.Spec PyProof.Rows
noncomputable def zD(s:Stmt):Arguments:=match s with
 | .FunctionDef _ a _ _ _ _ _ _ _ _=>a
 |_=>{ posonlyargs:=[],args:=[],vararg:=none,kwonlyargs:=[],kw_defaults:=[],kwarg:=none,defaults:=[] }
noncomputable def zt(s:Stmt):List Stmt:=match s with
 | .FunctionDef _ _ b _ _ _ _ _ _ _=>b
 |_=>[]
noncomputable def zd(s:Stmt):Scope:=match s with
 | .FunctionDef _ _ _ _ _ _ sc _ _ _=>sc
 |_=>{ kind:=.function,names:=[],isGenerator:=false,isCoroutine:=false }
noncomputable abbrev zA:xV:=fun _ _ _ _ _ _=>False
noncomputable abbrev E0:XK:=fun _ _ _=>False
theorem gB{X:Cx}:JM zA X E0:=fun _ _ _ _ _ _ _ h=>h.elim
structure Fun (K:Ka)(x qual:Str)(st:Stmt)(f:Addr)(fd:FuncData):Prop where
 ex: ∃(oc:Value) (od:Option Addr) (kV doc pm:Value) (an:Option Addr) (cdv ct:Value) (osl:Array (Option Value)),
  fd=PySem.W.fnOf x qual (zD st) (zt st) (zd st) .none kV doc pm an cdv ct/\K.lookup f=some ⟨oc,od,.func fd,osl⟩/\PySem.W.codeIn K cdv qual=true
 kp:PySem.W.keepIn K (.ref f)=true
section
variable {P:Program} {w:World} {K:Ka} {mg:Str->Option Value} {base:Heap}
theorem Fun.ok{x qual:Str}{st:Stmt}{f:Addr}{fd:FuncData}{N ps:List Str}{k:Nat}{sp:Sp}(F:Fun K x qual st f fd)(S:FnScope N ps (zd st))(len: ∀vs H Q E,sp vs H Q E->vs.length=ps.length)
  (hbody: ∀(cdv:Value) (A:Around) (outer:List Env) (s:Shared) (H:Hp) (vs:List V) (Q:VK) (E:XK),Room k (A.deeper (envOfC qual (zd st) s.heap.objs.size f cdv))->sp vs H Q E->
   ∃t,PSs (yb zA P w K mg base N qual (zd st) f cdv A outer s H E).nox (zt st) t/\t { nx:=fun _ H'=>Q .non H',rt:=Q } (xW N vs) H):FnOk P w K mg base zA (k+1) f fd ps sp:=by
 obtain⟨oc,od,kV,doc,pm,an,cdv,ct,osl,rfl,lk,hcd⟩:=F.ex;refine zfY lk hcd S len fun A outer s H vs Q E hr hsp=>?_
 obtain⟨t,h,q⟩:=hbody cdv A outer s H vs Q E hr hsp;exact⟨t,h.nox,q⟩
theorem Fun.binds{x qual:Str}{st:Stmt}{f:Addr}{fd:FuncData}{ps:List Str}(F:Fun K x qual st f fd)
  (h: ∀(kV doc pm:Value) (an:Option Addr) (cdv ct:Value) (us:List Value),us.length=ps.length->bindArgs (PySem.W.fnOf x qual (zD st) (zt st) (zd st) .none kV doc pm an cdv ct) ⟨us,[]⟩=pure (ps.zip us)):Binds K fd ps []:=by
 obtain⟨oc,od,kV,doc,pm,an,cdv,ct,osl,rfl,lk,hcd⟩:=F.ex;exact .all (h kV doc pm an cdv ct)
theorem zH{x qual:Str}{st:Stmt}{f:Addr}{oc:Value}{od an:Option Addr}{osl:Array (Option Value)}{kV doc pm cdv ct:Value}(l:K.lookup f=some ⟨oc,od,.func (PySem.W.fnOf x qual (zD st) (zt st) (zd st) .none kV doc pm an cdv ct),osl⟩)
  (c:PySem.W.codeIn K cdv qual=true) (k:PySem.W.keepIn K (.ref f)=true):Fun K x qual st f (PySem.W.fnOf x qual (zD st) (zt st) (zd st) .none kV doc pm an cdv ct):=⟨⟨oc,od,kV,doc,pm,an,cdv,ct,osl,rfl,l,c⟩,k⟩
end
theorem ZN{n:Nat}(h:n<=1000):n<sizeLine:=Nat.lt_of_le_of_lt h (by decide)
theorem JR{A B:Prop}(h:B):if false=true then A else B:=by
 rw[if_neg Ko];exact h
theorem Xu{A B:Prop}(h:A):if true=true then A else B:=by
 rw[if_pos rfl];exact h
noncomputable def Same(H H':Hp):Prop:=∀b o,H b=some o->H' b=some o
theorem Same.refl(H:Hp):Same H H:=fun _ _ h=>h
theorem Same.trans{H H1 H2:Hp}(a:Same H H1)(b:Same H1 H2):Same H H2:=fun c o h=>b c o (a c o h)
theorem Same.free{H H':Hp}(e:Same H H'){l:Addr}(h:H' l=Option.none):H l=Option.none:=by
 cases q:H l with
 |none=>rfl
 |some o=>
  rw[e l o q] at h;cases h
theorem Same.seq{K:Ka}{H H':Hp}{a:Addr}{xs:List V}(e:Same H H')(h:SqL K H a xs):SqL K H' a xs:=by
 rcases h with (h|⟨o,h⟩)|h
 ·exact .inl (.inl (e _ _ h))
 ·exact .inl (.inr ⟨o,e _ _ h⟩)
 ·exact .inr h
end L2
namespace L2.LW
open PySem
set_option genSizeOf false
inductive D where
 |int (i:Int)|bl (b:Bool)|non|str (x:Str)|tup (l:List D)|lst (l:List D)
 |dct (t:Bool) (ks vs:List D)
 |dcd (kvs:List (List (List Int)×Int))
mutual
noncomputable def zO:D->D->Bool
 | .int a,.int b=>a==b
 | .bl a,.bl b=>a==b
 | .int a,.bl b=>a==(if b then 1 else 0)
 | .bl a,.int b=>(if a then 1 else 0)==b
 | .non,.non=>true
 | .str a,.str b=>a==b
 | .tup xs,.tup ys=>yP xs ys
 | .lst xs,.lst ys=>yP xs ys
 |_,_=>false
noncomputable def yP:List D->List D->Bool
 |[],[]=>true
 |x::xs,y::ys=>zO x y&&yP xs ys
 |_,_=>false
end
mutual
noncomputable def plain:D->Bool
 | .lst _=>false
 | .dct _ _ _=>false
 | .dcd _=>false
 | .tup l=>yU l
 |_=>true
noncomputable def yU:List D->Bool
 |[]=>true
 |x::xs=>plain x&&yU xs
end
inductive SV where
 |val (d:D)|obj (o:Bool) (d:D)|io (d:D)
noncomputable abbrev SV.lis(o:Bool)(ds:List D):SV:=.obj o (.lst ds)
noncomputable def toD:SV->Option D
 | .val d=>some d
 | .obj true d=>some d
 |_=>none
noncomputable def zI:SV->D
 | .val d=>d
 | .obj _ d=>d
 | .io d=>d
noncomputable def SV.lent:SV->Bool
 | .val _=>false
 | .obj true _=>false
 |_=>true
noncomputable def xC:D->Bool
 | .lst ds=>yU ds
 | .dct _ _ vs=>yU vs
 | .dcd _=>true
 |d=>plain d
noncomputable def SV.plain:SV->Bool
 | .val d=>LW.plain d
 | .obj _ d=>xC d
 | .io _=>false
noncomputable abbrev Env:=List (Option SV)
inductive Ty where
 |bool|int|str|list|tuple
 deriving DecidableEq
inductive Prim where
 |add|sub|mul|fdiv|mod|eq|ne|lt|le|gt|ge|inn|nin|idx|len|abs|min2|max2|sorted|sortP|nset|count|cutF|toList|toTup|all|inst (t:Ty)|cutTo|maxL
set_option genInjectivity false
mutual
inductive E where
 |int (i:Int)|bl (b:Bool)|non|str (x:Str)
 |var (i:Nat)
 |prim (p:Prim) (es:Es)
 |tup (es:Es)|lst (es:Es)
 |and (a b:E)|or (a b:E)|not (a:E)
 |chain (p q:Prim) (a b c:E)
 |ite (c a b:E)
 |call (f:Nat) (es:Es)
 |comp (rng:Bool) (src:Es) (cond elt:E)
 |dnew (t:Bool)|done (t:Bool) (k v:E)
inductive Es where
 |nil|cons (e:E) (es:Es)
end
set_option genInjectivity true
noncomputable def wb:Ty->D->Bool
 | .bool,.bl _=>true
 | .int,.int _=>true
 | .int,.bl _=>true
 | .str,.str _=>true
 | .list,.lst _=>true
 | .tuple,.tup _=>true
 |_,_=>false
noncomputable def ints? :List D->Option (List Int)
 |[]=>some []
 | .int i::r=>(ints? r).map (i:: ·)
 |_=>none
noncomputable def lexLt:List Int->List Int->Bool
 |_,[]=>false
 |[],_::_=>true
 |x::xs,y::ys=>if x=y then lexLt xs ys else decide (x<y)
noncomputable def ixN(n:Nat)(i:Int):Option Nat:=if 0<=i then (if i<n then some i.toNat else none) else if -(n:Int)<=i then some (i+n).toNat else none
noncomputable def atI{α:Type}(xs:List α)(i:Int):Option α:=(ixN xs.length i).bind fun j=>xs[j]?
noncomputable def bools? :List D->Option (List Bool)
 |[]=>some []
 | .bl i::r=>(bools? r).map (i:: ·)
 |_=>none
noncomputable def line:Nat:=16777216
noncomputable def wV:D->Option (List D)
 | .tup l=>some l
 | .lst l=>some l
 |_=>none
noncomputable def tups? :List D->Option (List (List Int))
 |[]=>some []
 | .tup l::r=>(ints? l).bind fun x=>(tups? r).map (x:: ·)
 |_=>none
noncomputable def jh(x:List Int):List (List Int)->List (List Int)
 |[]=>[x]
 |y::r=>if lexLt x y then x::y::r else y::jh x r
noncomputable def wW:List (List Int)->List (List Int)
 |[]=>[]
 |x::r=>jh x (wW r)
noncomputable def vq(l:List Int):List Int:=l.mergeSort (fun a b=>decide (a<=b))
noncomputable def zG:Nat->D->Bool
 |_,.int _=>true
 |_,.bl _=>true
 |_,.non=>true
 |_,.str _=>false
 |0,_=>false
 |n+1,.tup l=>l.all (zG n)
 |n+1,.lst l=>l.all (zG n)
 |_+1,.dct _ _ _=>false
 |_+1,.dcd _=>false
noncomputable def tup2? :D->Option (List (List Int))
 | .tup l=>tups? l
 |_=>none
noncomputable def xx(kvs:List (List (List Int)×Int))(k:List (List Int)):Option Int:=(kvs.find? fun p=>decide (p.1=k)).map (·.2)
noncomputable def vr(kvs:List (List (List Int)×Int))(k:List (List Int))(i:Int):List (List (List Int)×Int):=
 if (xx kvs k).isSome then kvs.map (fun p=>if p.1=k then (p.1,i) else p) else kvs++[(k,i)]
noncomputable def jI(kvs:List (List (List Int)×Int)):D->D->Option D
 |a,.int i=>(tup2? a).bind fun k=>if kvs.length<line then some (.dcd (vr kvs k i)) else none
 |_,_=>none
noncomputable def yK:Bool->D->Bool
 |false,.int _=>true
 |true,.tup l=>(ints? l).isSome
 |_,_=>false
noncomputable def xi(ks:List D)(k:D):Option Nat:=ks.findIdx? fun x=>zO x k
noncomputable def ji(ks vs:List D)(k:D):Option D:=(xi ks k).bind fun i=>vs[i]?
noncomputable def xX(t:Bool)(ks vs:List D)(k v:D):D:=if (xi ks k).isSome then .dct t ks (List.zipWith (fun k' v'=>if zO k' k then v else v') ks vs) else .dct t (ks++[k]) (vs++[v])
noncomputable def xk(r:Int):Option SV:=some (.val (.int r))
noncomputable def yw(r:Bool):Option SV:=some (.val (.bl r))
noncomputable def Xv:List D->Option SV
 |[.int a,.int b]=>xk (a+b)
 |[.lst a,.lst b]=>if a.length+b.length<=line then some (SV.obj true (.lst (a++b))) else none
 |_=>none
noncomputable def JS:List D->Option SV
 |[.int a,.int b]=>xk (a-b)
 |_=>none
noncomputable def Xw:List D->Option SV
 |[.int a,.int b]=>if (-(2 ^ 64)<a/\a<2 ^ 64)\/(-(2 ^ 64)<b/\b<2 ^ 64) then xk (a*b) else none
 |_=>none
noncomputable def Xx:List D->Option SV
 |[.int a,.int b]=>if 0<b/\b<1073741824 then xk (a/b) else none
 |_=>none
noncomputable def Xy:List D->Option SV
 |[.int a,.int b]=>if 0<b then xk (a%b) else none
 |_=>none
noncomputable def ZO:List D->Option SV
 |[a,b]=>if zG 8 a&&zG 8 b then yw (zO a b) else none
 |_=>none
noncomputable def ZP:List D->Option SV
 |[a,b]=>if zG 8 a&&zG 8 b then yw (!zO a b) else none
 |_=>none
noncomputable def ZQ:List D->Option SV
 |[.int a,.int b]=>yw (decide (a<b))
 |[.tup a,.tup b]=>(ints? a).bind fun x=>(ints? b).bind fun y=>yw (lexLt x y)
 |_=>none
noncomputable def Xz:List D->Option SV
 |[.int a,.int b]=>yw (decide (a<=b))
 |_=>none
noncomputable def XA:List D->Option SV
 |[.int a,.int b]=>yw (decide (b<a))
 |_=>none
noncomputable def XB:List D->Option SV
 |[.int a,.int b]=>yw (decide (b<=a))
 |[.tup a,.tup b]=>(ints? a).bind fun x=>(ints? b).bind fun y=>yw (!lexLt x y)
 |_=>none
noncomputable def XC:D->Bool
 | .non=>true
 |_=>false
noncomputable def jJ:List D->Option SV
 |[x,.dct t ks _]=>if yK t x then yw (xi ks x).isSome else none
 |[x,.tup l]=>if zG 8 x&&l.all (zG 8) then yw (l.any fun y=>zO y x) else none
 |[x,.lst l]=>if zG 8 x&&l.all (zG 8) then yw (l.any fun y=>zO y x) else none
 |_=>none
noncomputable def wH:List D->Option SV
 |[x,.dct t ks _]=>if yK t x then yw (!(xi ks x).isSome) else none
 |[x,.dcd kvs]=>(tup2? x).bind fun k=>yw (!(xx kvs k).isSome)
 |[x,.tup l]=>if zG 8 x&&l.all (zG 8) then yw (!l.any fun y=>zO y x) else none
 |[x,.lst l]=>if zG 8 x&&l.all (zG 8) then yw (!l.any fun y=>zO y x) else none
 |_=>none
noncomputable def XD:List D->Option SV
 |[.dct t ks vs,k]=>if yK t k then (ji ks vs k).map .val else none
 |[.dcd kvs,x]=>(tup2? x).bind fun k=>(xx kvs k).map fun i=>.val (.int i)
 |[.tup l,.int i]=>(atI l i).map .val
 |[.lst l,.int i]=>(atI l i).map .val
 |_=>none
noncomputable def JT:List D->Option SV
 |[.tup l]=>xk l.length
 |[.lst l]=>xk l.length
 |_=>none
noncomputable def JU:List D->Option SV
 |[.int i]=>xk (if i<0 then -i else i)
 |_=>none
noncomputable def JV:List D->Option SV
 |[.int i,.int j]=>xk (if j<i then j else i)
 |_=>none
noncomputable def JW:List D->Option SV
 |[.int i,.int j]=>xk (if j>i then j else i)
 |_=>none
noncomputable def JX(l:List D):Option SV:=match ints? l with
 |some ns=>if ns.length<64 then some (.obj true (.lst ((vq ns).map .int))) else none
 |none=>(tups? l).bind fun ks=>if ks.length<64/\ks.Nodup/\ks.all (fun k=> !k.isEmpty)=true then some (.obj true (.lst ((wW ks).map fun k=>.tup (k.map .int)))) else none
noncomputable def XE:List D->Option SV
 |[.lst l]=>JX l
 |_=>none
noncomputable def JY:List D->Option SV
 |[.tup l,.int k]=>if 0<k/\0<l.length then some (.val (.tup (l.drop k.toNat))) else none
 |_=>none
noncomputable def JZ:List D->Option SV
 |[.tup l]=>some (SV.obj true (.lst l))
 |[.lst l]=>some (SV.obj true (.lst l))
 |_=>none
noncomputable def Qa:List D->Option SV
 |[.tup l]=>some (.val (.tup l))
 |[.lst l]=>some (.val (.tup l))
 |_=>none
noncomputable def XF:List D->Option SV
 |[.lst l]=>(bools? l).bind fun bs=>yw (bs.all id)
 |_=>none
noncomputable def gC(t:Ty):List D->Option SV
 |[d]=>yw (wb t d)
 |_=>none
noncomputable def XG:List D->Option SV
 |[.lst l,.int k]=>if 0<=k then some (SV.obj true (.lst (l.take k.toNat))) else none
 |_=>none
noncomputable def XH:List D->Option SV
 |[.lst l]=>(ints? l).bind fun ns=>match ns with
  |[]=>none
  |n::r=>xk (r.foldl max n)
 |_=>none
noncomputable def prs? :List D->Option (List (List Int))
 |[]=>some []
 | .tup [.tup [.int a,.int b],.tup [.int c,.int d]]::r=>(prs? r).map ([a,b,c,d]:: ·)
 |_::_=>none
noncomputable def jK:List Int->D
 |[a,b,c,d]=>.tup [.tup [.int a,.int b],.tup [.int c,.int d]]
 |_=>.non
noncomputable def ZR:List D->Option SV
 |[.lst l]=>(prs? l).bind fun ks=>if ks.length<64/\ks.Nodup then some (.obj true (.lst ((wW ks).map jK))) else none
 |_=>none
noncomputable def Qb:D->Option (Int×Int)
 | .tup [.int a,.int b]=>if 0<=a/\a<=7/\0<=b/\b<=7 then some (a,b) else none
 |_=>none
noncomputable def jL:List D->Option (List (Int×Int))
 |[]=>some []
 |d::r=>(Qb d).bind fun c=>(jL r).map (c:: ·)
noncomputable def yV{α:Type}[DecidableEq α]:List α->List α
 |[]=>[]
 |c::r=>if c∈r then yV r else c::yV r
noncomputable def XI:List D->Option (List Int)
 |[]=>some []
 | .int i::r=>(XI r).map (i:: ·)
 |_::_=>none
noncomputable def jM:List D->Option SV
 |[.lst l,.tup x]=>(tups? l).bind fun ks=>(ints? x).bind fun k=>xk ((ks.countP fun y=>decide (y=k):Nat):Int)
 |_=>none
noncomputable def ZS:List D->Option SV
 |[.lst ds]=>match jL ds with
  |some cs=>some (.val (.int (yV cs).length))
  |none=>(XI ds).bind fun is=>if is.length<=1000 then some (.val (.int (yV is).length)) else none
 |_=>none
noncomputable def zh:Prim->List D->Option SV
 | .add=>Xv| .sub=>JS| .mul=>Xw| .fdiv=>Xx| .mod=>Xy| .eq=>ZO| .ne=>ZP| .lt=>ZQ| .le=>Xz| .gt=>XA| .ge=>XB
 | .inn=>jJ| .nin=>wH| .idx=>XD| .len=>JT| .abs=>JU| .min2=>JV| .max2=>JW
 | .sorted=>XE| .sortP=>ZR| .nset=>ZS| .count=>jM| .cutF=>JY| .toList=>JZ| .toTup=>Qa| .all=>XF| .inst t=>gC t| .cutTo=>XG| .maxL=>XH
noncomputable def ye:SV->Option Bool
 | .val (.bl b)=>some b
 | .val (.int i)=>some (i != 0)
 | .val .non=>some false
 | .val (.tup l)=>some (!l.isEmpty)
 | .val (.lst l)=>some (!l.isEmpty)
 | .obj _ (.lst l)=>some (!l.isEmpty)
 |_=>none
noncomputable def look(ρ:Env)(i:Nat):Option SV:=match ρ[i]? with
 |some (some (.val d))=>some (.val d)
 |some (some (.obj _ d))=>some (.obj false d)
 |some (some (.io d))=>some (.obj false d)
 |_=>none
noncomputable def free(ρ:Env)(i:Nat):Bool:=match ρ[i]? with
 |some (some (.io _))=>false
 |_=>true
noncomputable def SV.cell:SV->Option D
 | .obj true d=>some d
 | .io d=>some d
 |_=>none
noncomputable def SV.put:SV->D->SV
 | .io _,d=>.io d
 |_,d=>.obj true d
noncomputable def wX(j:Int):Prop:= -(2 ^ 62)<=j/\j<2 ^ 62
noncomputable instance (j:Int):Decidable (wX j):=by unfold wX;exact inferInstance
noncomputable def yf:Bool->List SV->Option (List D)
 |false,[r]=>wV (zI r)
 |true,[.val (.int n)]=>if wX n then some ((List.range n.toNat).map fun (k:Nat)=>D.int (0+(k:Int))) else none
 |true,[.val (.int a),.val (.int b)]=>if wX a/\wX b then some ((List.range (b-a).toNat).map fun (k:Nat)=>D.int (a+(k:Int))) else none
 |_,_=>none
noncomputable def xy(test:D->Option Bool)(elt:D->Option SV):List D->Option (List D)
 |[]=>some []
 |d::r=>(test d).bind fun b=>match b with
  |true=>(elt d).bind fun x=>(toD x).bind fun y=>(xy test elt r).map (y:: ·)
  |false=>xy test elt r
noncomputable def wc(rs:List SV)(r:Option SV):Option SV:=r.bind fun x=>if rs.any SV.lent&& !x.plain then none else some x
noncomputable def xD:List SV->Option (List D)
 |[]=>some []
 |r::rs=>(toD r).bind fun d=>(xD rs).map (d:: ·)
mutual
noncomputable def zi(fn:Nat->List D->Option SV):E->Env->Option SV
 | .int i,_=>some (.val (.int i))
 | .bl b,_=>some (.val (.bl b))
 | .non,_=>some (.val .non)
 | .str x,_=>some (.val (.str x))
 | .var i,ρ=>look ρ i
 | .prim p es,ρ=>(zZ fn es ρ).bind fun rs=>zh p (rs.map zI)
 | .tup es,ρ=>(zZ fn es ρ).bind fun rs=>(xD rs).map fun ds=>.val (.tup ds)
 | .lst es,ρ=>(zZ fn es ρ).bind fun rs=>(xD rs).map fun ds=>SV.obj true (.lst ds)
 | .and a b,ρ=>(zi fn a ρ).bind fun r=>match r with
  | .val (.bl true)=>zi fn b ρ
  | .val (.bl false)=>some (.val (.bl false))
  |_=>none
 | .or a b,ρ=>(zi fn a ρ).bind fun r=>match r with
  | .val (.bl true)=>some (.val (.bl true))
  | .val (.bl false)=>zi fn b ρ
  |_=>none
 | .not a,ρ=>(zi fn a ρ).bind fun r=>match r with
  | .val (.bl b)=>some (.val (.bl (!b)))
  |_=>none
 | .chain p q a b c,ρ=>(zi fn a ρ).bind fun x=>(zi fn b ρ).bind fun y=>(zh p [zI x,zI y]).bind fun z=>match z with
  | .val (.bl true)=>(zi fn c ρ).bind fun w=>zh q [zI y,zI w]
  | .val (.bl false)=>some (.val (.bl false))
  |_=>none
 | .ite c a b,ρ=>(zE fn c ρ).bind fun k=>if k then zi fn a ρ else zi fn b ρ
 | .call f es,ρ=>(zZ fn es ρ).bind fun rs=>wc rs (fn f (rs.map zI))
 | .dnew t,_=>some (.obj true (.dct t [] []))
 | .done t k v,ρ=>(zi fn k ρ).bind fun x=>(zi fn v ρ).bind fun y=>(toD x).bind fun a=>(toD y).bind fun b=>if yK t a then some (.obj true (.dct t [a] [b])) else none
 | .comp rng src cond elt,ρ=>(zZ fn src ρ).bind fun rs=>(yf rng rs).bind fun ds=>
  if ds.length<=line then (xy (fun d=>zE fn cond (some (.val d)::ρ)) (fun d=>zi fn elt (some (.val d)::ρ)) ds).map fun l=>SV.obj true (.lst l) else none
noncomputable def zZ(fn:Nat->List D->Option SV):Es->Env->Option (List SV)
 | .nil,_=>some []
 | .cons e es,ρ=>(zi fn e ρ).bind fun r=>(zZ fn es ρ).map (r:: ·)
noncomputable def zE(fn:Nat->List D->Option SV):E->Env->Option Bool
 | .and a b,ρ=>(zE fn a ρ).bind fun k=>if k then zE fn b ρ else some false
 | .or a b,ρ=>(zE fn a ρ).bind fun k=>if k then some true else zE fn b ρ
 | .not a,ρ=>(zE fn a ρ).map (!·)
 | .int i,_=>some (i != 0)
 | .bl b,_=>some b
 | .non,_=>some false
 | .str _,_=>none
 | .var i,ρ=>(look ρ i).bind ye
 | .prim p es,ρ=>(zZ fn es ρ).bind fun rs=>(zh p (rs.map zI)).bind ye
 | .tup _,_=>none
 | .lst _,_=>none
 | .chain p q a b c,ρ=>(zi fn a ρ).bind fun x=>(zi fn b ρ).bind fun y=>(zh p [zI x,zI y]).bind fun z=>match z with
  | .val (.bl true)=>(zi fn c ρ).bind fun w=>(zh q [zI y,zI w]).bind ye
  | .val (.bl false)=>some false
  |_=>none
 | .ite _ _ _,_=>none
 | .call f es,ρ=>(zZ fn es ρ).bind fun rs=>(wc rs (fn f (rs.map zI))).bind ye
 | .comp rng src cond elt,ρ=>(zZ fn src ρ).bind fun rs=>(yf rng rs).bind fun ds=>
  if ds.length<=line then (xy (fun d=>zE fn cond (some (.val d)::ρ)) (fun d=>zi fn elt (some (.val d)::ρ)) ds).map fun l=> !l.isEmpty else none
 | .dnew _,_=>none
 | .done _ _ _,_=>none
end
inductive Ans where
 |ok (r:SV) (outs:List D)
 |ex (c:Nat)
noncomputable def zC(fa:Nat->List D->Option Ans)(f:Nat)(ds:List D):Option SV:=match fa f ds with
 |some (.ok r [])=>some r
 |_=>none
set_option genInjectivity false
inductive MA where
 |nil|e (c:E) (r:MA)|s (i:Nat) (r:MA)|n (t:Option Bool) (r:MA)
inductive AV where
 |e (d:D)|l (ds:List D)|s (i:Nat) (d:D)|n (t:Option Bool)
noncomputable def Qc:Option Bool->D
 |none=>.dcd []
 |some t=>.dct t [] []
inductive M where
 |call (f:Nat) (ma:MA)
 |op (p:Prim) (a:E) (m:M)
set_option genInjectivity true
noncomputable def wI:D->Bool
 | .dct _ _ vs=>yU vs
 | .dcd _=>true
 |_=>false
noncomputable def SV.fine:SV->Bool
 | .val d=>LW.plain d
 | .obj true d=>xC d
 |_=>false
noncomputable def xY:SV->Option AV
 | .val (.lst ds)=>if yU ds then some (.l ds) else none
 | .val d=>if plain d then some (.e d) else none
 | .obj _ (.lst ds)=>if yU ds then some (.l ds) else none
 |_=>none
noncomputable def jj(ρ:Env)(i:Nat):Option D:=match ρ[i]? with
 |some (some x)=>x.cell
 |_=>none
noncomputable def yW(fn:Nat->List D->Option SV):MA->Env->Option (List AV)
 | .nil,_=>some []
 | .e c r,ρ=>(zi fn c ρ).bind fun x=>(xY x).bind fun a=>(yW fn r ρ).map (a:: ·)
 | .s i r,ρ=>(jj ρ i).bind fun d=>if wI d then (yW fn r ρ).map (.s i d:: ·) else none
 | .n t r,ρ=>(yW fn r ρ).map (.n t:: ·)
noncomputable def vt:AV->D
 | .e d=>d
 | .l ds=>.lst ds
 | .s _ d=>d
 | .n t=>Qc t
noncomputable def jN(ρ:Env)(i:Nat)(d:D):Env:=match ρ[i]? with
 |some (some x)=>ρ.set i (some (x.put d))
 |_=>ρ
noncomputable def yG(ρ:Env):List AV->List D->Option Env
 |[],[]=>some ρ
 | .s i _::r,d::ds=>yG (jN ρ i d) r ds
 | .n _::r,_::ds=>yG ρ r ds
 | .e _::r,ds=>yG ρ r ds
 | .l _::r,ds=>yG ρ r ds
 |_,_=>none
noncomputable def yX(fa:Nat->List D->Option Ans):M->Env->Option (SV×Env)
 | .call f ma,ρ=>(yW (zC fa) ma ρ).bind fun xs=>(fa f (xs.map vt)).bind fun a=>match a with
  | .ok r outs=>if r.fine&&outs.all xC then (yG ρ xs outs).map fun ρ'=>(r,ρ') else none
  | .ex _=>none
 | .op p a m,ρ=>(zi (zC fa) a ρ).bind fun x=>match x with
  | .val d=>if plain d then (yX fa m ρ).bind fun y=>(zh p [d,zI y.1]).map fun z=>(z,y.2) else none
  |_=>none
set_option genInjectivity false
mutual
inductive S where
 |expr (e:E)|asg (i:Nat) (e:E)|mov (i j:Nat)|app (i:Nat) (e:E)|dset (i:Nat) (k v:E)|dupd (i j:Nat)|exprM (m:M)|asgM (i:Nat) (m:M)|ifO (c:E) (m:M) (a b:Ss)|ret (e:E)|retV (i:Nat)|retO (c:E) (m:M)
 |ifs (c:E) (a b:Ss)|for_ (i:Nat) (rng:Bool) (src:Es) (body:Ss)|forV (i j:Nat) (body:Ss)|while_ (c:E) (body:Ss)|frz (js:List Nat) (s:S)|stop
inductive Ss where
 |nil|cons (s:S) (ss:Ss)
end
set_option genInjectivity true
inductive Fl where
 |nx|br|ct|rt (r:SV)
noncomputable def yx(i:Nat)(body:Env->Option (Fl×Env)):List D->Env->Option (Fl×Env)
 |[],ρ=>some (.nx,ρ)
 |d::r,ρ=>(body (ρ.set i (some (.val d)))).bind fun x=>match x.1 with
  | .nx=>yx i body r x.2
  | .ct=>yx i body r x.2
  | .br=>some (.nx,x.2)
  | .rt v=>some (.rt v,x.2)
noncomputable def zgM:D->Bool
 | .tup [.int a,.int b]=>decide (0<=a/\a<=7/\0<=b/\b<=7)
 |_=>false
noncomputable def Qd(ks vs:List D):List D->List D->List D×List D
 |k::ks2,v::vs2=>match xX true ks vs k v with
  | .dct _ a b=>Qd a b ks2 vs2
  |_=>(ks,vs)
 |_,_=>(ks,vs)
noncomputable def zgN(ρ:Env)(i:Nat)(x:SV):Option D->Option D->Option (Fl×Env)
 |some (.dct true ks vs),some (.dct true ks2 vs2)=>if ks2.all zgM&&decide (ks.length+ks2.length<line) then some (.nx,ρ.set i (some (x.put (.dct true (Qd ks vs ks2 vs2).1 (Qd ks vs ks2 vs2).2)))) else none
 |_,_=>none
noncomputable def gD(ρ:Env)(i j:Nat):Option (Fl×Env):=if i=j then none else match ρ[i]? with
 |some (some x)=>zgN ρ i x x.cell (jj ρ j)
 |_=>none
noncomputable def wq(test:Env->Option Bool)(body:Env->Option (Fl×Env)):Nat->Env->Option (Fl×Env)
 |0,_=>none
 |n+1,ρ=>(test ρ).bind fun b=>if b then (body ρ).bind fun x=>(match x.1 with
  | .nx=>wq test body n x.2
  | .ct=>wq test body n x.2
  | .br=>some (.nx,x.2)
  | .rt v=>some (.rt v,x.2)) else some (.nx,ρ)
noncomputable def vH(ρ:Env)(j:Nat):Option (List D×Env):=match ρ[j]? with
 |some (some (.val d))=>(wV d).map fun l=>(l,ρ)
 |some (some (.obj _ (.lst ds)))=>some (ds,ρ.set j (some (.val (.lst ds))))
 |_=>none
noncomputable def vI(ρ:Env)(j:Nat):Env:=match ρ[j]? with
 |some (some (.obj true d))=>ρ.set j (some (.val d))
 |_=>ρ
mutual
noncomputable def zJ(fa:Nat->List D->Option Ans)(fuel:Nat):S->Env->Option (Fl×Env)
 | .expr e,ρ=>(zi (zC fa) e ρ).map fun _=>(.nx,ρ)
 | .asg i e,ρ=>(zi (zC fa) e ρ).bind fun r=>if r.lent|| !free ρ i then none else some (.nx,ρ.set i (some r))
 | .mov i j,ρ=>if free ρ i then (match ρ[j]? with
  |some (some (.val d))=>some (.nx,ρ.set i (some (.val d)))
  |some (some (.obj _ d))=>some (.nx,(ρ.set j (some (.val d))).set i (some (.val d)))
  |_=>none) else none
 | .app i e,ρ=>match ρ[i]? with
  |some (some x)=>(match x.cell with
   |some (.lst ds)=>(zi (zC fa) e ρ).bind fun r=>(toD r).bind fun d=>if ds.length<line then some (.nx,ρ.set i (some (x.put (.lst (ds++[d]))))) else none
   |_=>none)
  |_=>none
 | .dupd i j,ρ=>gD ρ i j
 | .dset i k v,ρ=>match ρ[i]? with
  |some (some x)=>(match x.cell with
   |some (.dct t ks vs)=>(zi (zC fa) v ρ).bind fun r=>(toD r).bind fun d=>(zi (zC fa) k ρ).bind fun r=>(toD r).bind fun a=>if yK t a&&decide (ks.length<line) then some (.nx,ρ.set i (some (x.put (xX t ks vs a d)))) else none
   |some (.dcd kvs)=>(zi (zC fa) v ρ).bind fun r=>(toD r).bind fun d=>(zi (zC fa) k ρ).bind fun r=>(toD r).bind fun a=>(jI kvs a d).map fun z=>(.nx,ρ.set i (some (x.put z)))
   |_=>none)
  |_=>none
 | .exprM m,ρ=>(yX fa m ρ).map fun x=>(.nx,x.2)
 | .asgM i m,ρ=>(yX fa m ρ).bind fun x=>if x.1.lent|| !free x.2 i then none else some (.nx,x.2.set i (some (.val (zI x.1))))
 | .ifO c m a b,ρ=>(zE (zC fa) c ρ).bind fun k=>if k then zp fa fuel a ρ else (yX fa m ρ).bind fun x=>(ye x.1).bind fun k=>if k then zp fa fuel a x.2 else zp fa fuel b x.2
 | .ret e,ρ=>(zi (zC fa) e ρ).bind fun r=>if r.lent then none else some (.rt r,ρ)
 | .retV i,ρ=>match ρ[i]? with
  |some (some (.val d))=>some (.rt (.val d),ρ)
  |some (some (.obj _ d))=>some (.rt (.obj true d),ρ.set i none)
  |_=>none
 | .retO c m,ρ=>(zi (zC fa) c ρ).bind fun r=>match r with
  | .val (.bl true)=>some (.rt (.val (.bl true)),ρ)
  | .val (.bl false)=>(yX fa m ρ).bind fun x=>match x.1 with
   | .val d=>if plain d then some (.rt (.val d),x.2) else none
   |_=>none
  |_=>none
 | .ifs c a b,ρ=>(zE (zC fa) c ρ).bind fun k=>if k then zp fa fuel a ρ else zp fa fuel b ρ
 | .for_ i rng src body,ρ=>(zZ (zC fa) src ρ).bind fun rs=>if rs.any SV.lent|| !free ρ i then none else (yf rng rs).bind fun ds=>yx i (zp fa fuel body) ds ρ
 | .forV i j body,ρ=>if free ρ i then (vH ρ j).bind fun x=>yx i (zp fa fuel body) x.1 x.2 else none
 | .while_ c body,ρ=>wq (zE (zC fa) c) (zp fa fuel body) fuel ρ
 | .frz js s,ρ=>zJ fa fuel s (js.foldl vI ρ)
 | .stop,_=>none
noncomputable def zp(fa:Nat->List D->Option Ans)(fuel:Nat):Ss->Env->Option (Fl×Env)
 | .nil,ρ=>some (.nx,ρ)
 | .cons s ss,ρ=>(zJ fa fuel s ρ).bind fun x=>match x.1 with
  | .nx=>zp fa fuel ss x.2
  |_=>some x
end
abbrev Ts:=Empty
inductive FlX where
 |fl (f:Fl)|ex (c:Nat)
def Qf(fa:Nat->List D->Option Ans)(fuel:Nat)(t:Ts)(_:Env):Option (FlX×Env):=nomatch t
structure Fn where
 np:Nat
 nl:Nat
 body:Ss
 io:List Nat:=[]
 xb:Option Ts:=none
noncomputable def XJ:Option (FlX×Env)->Option Ans
 |some (.fl (.rt r),_)=>some (.ok r [])
 |some (.fl .nx,_)=>some (.ok (.val .non) [])
 |some (.ex c,_)=>some (.ex c)
 |_=>none
noncomputable def wd(ρ:Env):List Nat->Option (List D)
 |[]=>some []
 |i::r=>match ρ[i]? with
  |some (some (.io d))=>(wd ρ r).map (d:: ·)
  |_=>none
noncomputable def wt(io:List Nat):Option (Fl×Env)->Option Ans
 |some (.rt r,ρ)=>(wd ρ io).map (Ans.ok r)
 |some (.nx,ρ)=>(wd ρ io).map (Ans.ok (.val .non))
 |_=>none
noncomputable def xQ(io:List Nat):Nat->List D->Env
 |_,[]=>[]
 |k,d::r=>some (if io.contains k then .io d else .val d)::xQ io (k+1) r
noncomputable def zn(P:Nat->Option Fn)(fuel:Nat):Nat->Nat->List D->Option Ans
 |0,_,_=>none
 |n+1,f,ds=>(P f).bind fun F=>if ds.length=F.np then (match F.xb with
  |none=>wt F.io (zp (zn P fuel n) fuel F.body (xQ F.io 0 ds++List.replicate (F.nl-F.np) none))
  |some t=>XJ (Qf (zn P fuel n) fuel t (xQ [] 0 ds++List.replicate (F.nl-F.np) none))) else none
noncomputable def zS(P:Nat->Option Fn)(fuel n:Nat):Nat->List D->Option SV:=zC (zn P fuel n)
theorem gE{fn i ρ}:zi fn (E.int i) ρ=(some (.val (.int i))):=id rfl
theorem zgO{fn b ρ}:zi fn (E.bl b) ρ=(some (.val (.bl b))):=id rfl
theorem zgP{fn i ρ}:zi fn (E.var i) ρ=(look ρ i):=id rfl
theorem wY{fn p es ρ}:zi fn (E.prim p es) ρ=((zZ fn es ρ).bind fun rs=>zh p (rs.map zI)):=id rfl
theorem zgQ{fn es ρ}:zi fn (E.tup es) ρ=((zZ fn es ρ).bind fun rs=>(xD rs).map fun ds=>.val (.tup ds)):=id rfl
theorem zgR{fn es ρ}:zi fn (E.lst es) ρ=((zZ fn es ρ).bind fun rs=>(xD rs).map fun ds=>SV.obj true (.lst ds)):=id rfl
theorem zgS{fn a b ρ}:zi fn (E.and a b) ρ=((zi fn a ρ).bind fun r=>match r with
  | .val (.bl true)=>zi fn b ρ
  | .val (.bl false)=>some (.val (.bl false))
  |_=>none):=id rfl
theorem zgT{fn p q a b c ρ}:zi fn (E.chain p q a b c) ρ=((zi fn a ρ).bind fun x=>(zi fn b ρ).bind fun y=>(zh p [zI x,zI y]).bind fun z=>match z with
  | .val (.bl true)=>(zi fn c ρ).bind fun w=>zh q [zI y,zI w]
  | .val (.bl false)=>some (.val (.bl false))
  |_=>none):=id rfl
theorem gF{fn f es ρ}:zi fn (E.call f es) ρ=((zZ fn es ρ).bind fun rs=>wc rs (fn f (rs.map zI))):=id rfl
theorem gG{fn t ρ}:zi fn (E.dnew t) ρ=(some (.obj true (.dct t [] []))):=id rfl
theorem XM{fn rng src cond elt ρ}:zi fn (E.comp rng src cond elt) ρ=((zZ fn src ρ).bind fun rs=>(yf rng rs).bind fun ds=>
  if ds.length<=line then (xy (fun d=>zE fn cond (some (.val d)::ρ)) (fun d=>zi fn elt (some (.val d)::ρ)) ds).map fun l=>SV.obj true (.lst l) else none):=id rfl
theorem wJ{fn ρ}:zZ fn (Es.nil) ρ=(some []):=id rfl
theorem wK{fn e es ρ}:zZ fn (Es.cons e es) ρ=((zi fn e ρ).bind fun r=>(zZ fn es ρ).map (r:: ·)):=id rfl
theorem zgU{fn a b ρ}:zE fn (E.and a b) ρ=((zE fn a ρ).bind fun k=>if k then zE fn b ρ else some false):=id rfl
theorem zgV{fn a b ρ}:zE fn (E.or a b) ρ=((zE fn a ρ).bind fun k=>if k then some true else zE fn b ρ):=id rfl
theorem zgW{fn a ρ}:zE fn (E.not a) ρ=((zE fn a ρ).map (!·)):=id rfl
theorem zgX{fn b ρ}:zE fn (E.bl b) ρ=(some b):=id rfl
theorem gH{fn p es ρ}:zE fn (E.prim p es) ρ=((zZ fn es ρ).bind fun rs=>(zh p (rs.map zI)).bind ye):=id rfl
theorem zgY{fn p q a b c ρ}:zE fn (E.chain p q a b c) ρ=((zi fn a ρ).bind fun x=>(zi fn b ρ).bind fun y=>(zh p [zI x,zI y]).bind fun z=>match z with
  | .val (.bl true)=>(zi fn c ρ).bind fun w=>(zh q [zI y,zI w]).bind ye
  | .val (.bl false)=>some false
  |_=>none):=id rfl
theorem zgZ{fn f es ρ}:zE fn (E.call f es) ρ=((zZ fn es ρ).bind fun rs=>(wc rs (fn f (rs.map zI))).bind ye):=id rfl
theorem gI{fn rng src cond elt ρ}:zE fn (E.comp rng src cond elt) ρ=((zZ fn src ρ).bind fun rs=>(yf rng rs).bind fun ds=>
  if ds.length<=line then (xy (fun d=>zE fn cond (some (.val d)::ρ)) (fun d=>zi fn elt (some (.val d)::ρ)) ds).map fun l=> !l.isEmpty else none):=id rfl
theorem gJ{fn ρ}:yW fn (MA.nil) ρ=(some []):=id rfl
theorem gK{fn c r ρ}:yW fn (MA.e c r) ρ=((zi fn c ρ).bind fun x=>(xY x).bind fun a=>(yW fn r ρ).map (a:: ·)):=id rfl
theorem gL{fn i r ρ}:yW fn (MA.s i r) ρ=((jj ρ i).bind fun d=>if wI d then (yW fn r ρ).map (.s i d:: ·) else none):=id rfl
theorem XN{fn t r ρ}:yW fn (MA.n t r) ρ=((yW fn r ρ).map (.n t:: ·)):=id rfl
theorem zg0{fa f ma ρ}:yX fa (M.call f ma) ρ=((yW (zC fa) ma ρ).bind fun xs=>(fa f (xs.map vt)).bind fun a=>match a with
  | .ok r outs=>if r.fine&&outs.all xC then (yG ρ xs outs).map fun ρ'=>(r,ρ') else none
  | .ex _=>none):=id rfl
theorem Qg{fa p a m ρ}:yX fa (M.op p a m) ρ=((zi (zC fa) a ρ).bind fun x=>match x with
  | .val d=>if plain d then (yX fa m ρ).bind fun y=>(zh p [d,zI y.1]).map fun z=>(z,y.2) else none
  |_=>none):=id rfl
theorem zg1{fa fuel e ρ}:zJ fa fuel (S.expr e) ρ=((zi (zC fa) e ρ).map fun _=>(.nx,ρ)):=id rfl
theorem gM{fa fuel i e ρ}:zJ fa fuel (S.asg i e) ρ=((zi (zC fa) e ρ).bind fun r=>if r.lent|| !free ρ i then none else some (.nx,ρ.set i (some r))):=id rfl
theorem gN{fa fuel i j ρ}:zJ fa fuel (S.mov i j) ρ=(if free ρ i then (match ρ[j]? with
  |some (some (.val d))=>some (.nx,ρ.set i (some (.val d)))
  |some (some (.obj _ d))=>some (.nx,(ρ.set j (some (.val d))).set i (some (.val d)))
  |_=>none) else none):=id rfl
theorem gO{fa fuel i e ρ}:zJ fa fuel (S.app i e) ρ=(match ρ[i]? with
  |some (some x)=>(match x.cell with
   |some (.lst ds)=>(zi (zC fa) e ρ).bind fun r=>(toD r).bind fun d=>if ds.length<line then some (.nx,ρ.set i (some (x.put (.lst (ds++[d]))))) else none
   |_=>none)
  |_=>none):=id rfl
theorem gP{fa fuel i k v ρ}:zJ fa fuel (S.dset i k v) ρ=(match ρ[i]? with
  |some (some x)=>(match x.cell with
   |some (.dct t ks vs)=>(zi (zC fa) v ρ).bind fun r=>(toD r).bind fun d=>(zi (zC fa) k ρ).bind fun r=>(toD r).bind fun a=>if yK t a&&decide (ks.length<line) then some (.nx,ρ.set i (some (x.put (xX t ks vs a d)))) else none
   |some (.dcd kvs)=>(zi (zC fa) v ρ).bind fun r=>(toD r).bind fun d=>(zi (zC fa) k ρ).bind fun r=>(toD r).bind fun a=>(jI kvs a d).map fun z=>(.nx,ρ.set i (some (x.put z)))
   |_=>none)
  |_=>none):=id rfl
theorem zg2{fa fuel m ρ}:zJ fa fuel (S.exprM m) ρ=((yX fa m ρ).map fun x=>(.nx,x.2)):=id rfl
theorem zg3{fa fuel i m ρ}:zJ fa fuel (S.asgM i m) ρ=((yX fa m ρ).bind fun x=>if x.1.lent|| !free x.2 i then none else some (.nx,x.2.set i (some (.val (zI x.1))))):=id rfl
theorem zg4{fa fuel c m a b ρ}:zJ fa fuel (S.ifO c m a b) ρ=((zE (zC fa) c ρ).bind fun k=>if k then zp fa fuel a ρ else (yX fa m ρ).bind fun x=>(ye x.1).bind fun k=>if k then zp fa fuel a x.2 else zp fa fuel b x.2):=id rfl
theorem zg5{fa fuel e ρ}:zJ fa fuel (S.ret e) ρ=((zi (zC fa) e ρ).bind fun r=>if r.lent then none else some (.rt r,ρ)):=id rfl
theorem gQ{fa fuel i ρ}:zJ fa fuel (S.retV i) ρ=(match ρ[i]? with
  |some (some (.val d))=>some (.rt (.val d),ρ)
  |some (some (.obj _ d))=>some (.rt (.obj true d),ρ.set i none)
  |_=>none):=id rfl
theorem gR{fa fuel c m ρ}:zJ fa fuel (S.retO c m) ρ=((zi (zC fa) c ρ).bind fun r=>match r with
  | .val (.bl true)=>some (.rt (.val (.bl true)),ρ)
  | .val (.bl false)=>(yX fa m ρ).bind fun x=>match x.1 with
   | .val d=>if plain d then some (.rt (.val d),x.2) else none
   |_=>none
  |_=>none):=id rfl
theorem zg6{fa fuel c a b ρ}:zJ fa fuel (S.ifs c a b) ρ=((zE (zC fa) c ρ).bind fun k=>if k then zp fa fuel a ρ else zp fa fuel b ρ):=id rfl
theorem zg7{fa fuel i rng src body ρ}:zJ fa fuel (S.for_ i rng src body) ρ=((zZ (zC fa) src ρ).bind fun rs=>if rs.any SV.lent|| !free ρ i then none else (yf rng rs).bind fun ds=>yx i (zp fa fuel body) ds ρ):=id rfl
theorem zg8{fa fuel i j body ρ}:zJ fa fuel (S.forV i j body) ρ=(if free ρ i then (vH ρ j).bind fun x=>yx i (zp fa fuel body) x.1 x.2 else none):=id rfl
theorem zg9{fa fuel c body ρ}:zJ fa fuel (S.while_ c body) ρ=(wq (zE (zC fa) c) (zp fa fuel body) fuel ρ):=id rfl
theorem zha{fa fuel js s ρ}:zJ fa fuel (S.frz js s) ρ=(zJ fa fuel s (js.foldl vI ρ)):=id rfl
theorem zhb{fa fuel ρ}:zJ fa fuel (S.stop) ρ=(none):=id rfl
theorem zhc{fa fuel ρ}:zp fa fuel (Ss.nil) ρ=(some (.nx,ρ)):=id rfl
theorem zhd{fa fuel s ss ρ}:zp fa fuel (Ss.cons s ss) ρ=((zJ fa fuel s ρ).bind fun x=>match x.1 with
  | .nx=>zp fa fuel ss x.2
  |_=>some x):=id rfl
theorem wL{α:Type}{P:List α->Prop}(h: ∀a0,P [a0])(us:List α)(hl:us.length=1):P us:=by
 cases us with
 |nil=>cases hl
 |cons a0 r0=>
  cases r0 with
  |nil=>exact h a0
  |cons _ _=>simp at hl
theorem jk{α:Type}{P:List α->Prop}(h: ∀a0 a1,P [a0,a1])(us:List α)(hl:us.length=2):P us:=by
 cases us with
 |nil=>cases hl
 |cons a0 r0=>
  cases r0 with
  |nil=>cases hl
  |cons a1 r1=>
   cases r1 with
   |nil=>exact h a0 a1
   |cons _ _=>simp at hl
theorem wZ{α:Type}{P:List α->Prop}(h: ∀a0 a1 a2,P [a0,a1,a2])(us:List α)(hl:us.length=3):P us:=by
 cases us with
 |nil=>cases hl
 |cons a0 r0=>
  cases r0 with
  |nil=>cases hl
  |cons a1 r1=>
   cases r1 with
   |nil=>cases hl
   |cons a2 r2=>
    cases r2 with
    |nil=>exact h a0 a1 a2
    |cons _ _=>simp at hl
theorem gT{α:Type}{P:List α->Prop}(h: ∀a0 a1 a2 a3,P [a0,a1,a2,a3])(us:List α)(hl:us.length=4):P us:=by
 cases us with
 |nil=>cases hl
 |cons a0 r0=>
  cases r0 with
  |nil=>cases hl
  |cons a1 r1=>
   cases r1 with
   |nil=>cases hl
   |cons a2 r2=>
    cases r2 with
    |nil=>cases hl
    |cons a3 r3=>
     cases r3 with
     |nil=>exact h a0 a1 a2 a3
     |cons _ _=>simp at hl
theorem zhe{α:Type}{P:List α->Prop}(h: ∀a0 a1 a2 a3 a4,P [a0,a1,a2,a3,a4])(us:List α)(hl:us.length=5):P us:=by
 cases us with
 |nil=>cases hl
 |cons a0 r0=>
  cases r0 with
  |nil=>cases hl
  |cons a1 r1=>
   cases r1 with
   |nil=>cases hl
   |cons a2 r2=>
    cases r2 with
    |nil=>cases hl
    |cons a3 r3=>
     cases r3 with
     |nil=>cases hl
     |cons a4 r4=>
      cases r4 with
      |nil=>exact h a0 a1 a2 a3 a4
      |cons _ _=>simp at hl
end L2.LW
set_option maxHeartbeats 4000000
namespace L2.LW
open PySem PySem.Spec PyProof.Rows
noncomputable def Qh(K:Ka)(a:Addr)(xs:List V):Prop:=
 ∃(o:Obj) (its:Array Value) (n:Nat),K.lookup a=some o/\o.cls= .type "list"/\o.dict=Option.none/\o.data= .seq its n/\its.size<=sizeLine/\Vals xs its.toList
noncomputable def xE(ns:List Int)(ys:List V):List (zy×V):=(ns.map Sum.inl).zip ys
noncomputable def xF(ns:List (List Int))(ys:List V):List (List zy×V):=(ns.map fun l=>l.map Sum.inl).zip ys
noncomputable def kT(l:List Int):D:=.tup (l.map D.int)
noncomputable def wu(kvs:List (List (List Int)×Int)):List (List (List Int)×V):=kvs.map fun p=>(p.1,V.int p.2)
mutual
inductive Rep (K:Ka)(W:Addr->Prop)(H:Hp):D->V->Prop where
 |int (i:Int):Rep K W H (.int i) (.int i)
 |bl (b:Bool):Rep K W H (.bl b) (.bl b)
 |non:Rep K W H .non .non
 |str (x:Str):Rep K W H (.str x) (.str x)
 |tup {a:Addr} {xs:List V} {ds:List D} (h:H a=some (.tup xs)) (r:Reps K W H ds xs):Rep K W H (.tup ds) (.ref a)
 |lst {a:Addr} {xs:List V} {ds:List D} (h:(¬W a/\Rd H a (.lst xs))\/Qh K a xs) (r:Reps K W H ds xs):Rep K W H (.lst ds) (.ref a)
 |dK {a:Addr} {ns:List Int} {ys:List V} {vs:List D} (n: ¬W a) (h:H a=some (.dK (xE ns ys))) (l:ns.length=ys.length) (r:Reps K W H vs ys):Rep K W H (.dct false (ns.map D.int) vs) (.ref a)
 |dT {a:Addr} {ns:List (List Int)} {ys:List V} {vs:List D} (n: ¬W a) (h:H a=some (.dT (xF ns ys))) (l:ns.length=ys.length) (r:Reps K W H vs ys):Rep K W H (.dct true (ns.map kT) vs) (.ref a)
 |dD {a:Addr} {kvs:List (List (List Int)×Int)} (n: ¬W a) (h:H a=some (.dD (wu kvs))):Rep K W H (.dcd kvs) (.ref a)
inductive Reps (K:Ka)(W:Addr->Prop)(H:Hp):List D->List V->Prop where
 |nil:Reps K W H [] []
 |cons {d:D} {v:V} {ds:List D} {vs:List V} (h:Rep K W H d v) (t:Reps K W H ds vs):Reps K W H (d::ds) (v::vs)
end
inductive ORep (K:Ka)(W:Addr->Prop)(H:Hp):D->HO->Prop where
 |lst {xs:List V} {ds:List D} (r:Reps K W H ds xs):ORep K W H (.lst ds) (.lst xs)
 |dK {ns:List Int} {ys:List V} {vs:List D} (l:ns.length=ys.length) (r:Reps K W H vs ys):ORep K W H (.dct false (ns.map D.int) vs) (.dK (xE ns ys))
 |dT {ns:List (List Int)} {ys:List V} {vs:List D} (l:ns.length=ys.length) (r:Reps K W H vs ys):ORep K W H (.dct true (ns.map kT) vs) (.dT (xF ns ys))
 |dD {kvs:List (List (List Int)×Int)}:ORep K W H (.dcd kvs) (.dD (wu kvs))
structure Ext (W:Addr->Prop)(H:Hp)(W':Addr->Prop)(H':Hp):Prop where
 keep: ∀a o,H a=some o->¬W a->H' a=some o
 tup: ∀a xs,H a=some (.tup xs)->H' a=some (.tup xs)
 frz: ∀a o u,H a=some (.frz o u)->H' a=some (.frz o u)
 win: ∀a,W' a->W a\/H a=Option.none
theorem Ext.refl(W:Addr->Prop)(H:Hp):Ext W H W H:=⟨fun _ _ h _=>h,fun _ _ h=>h,fun _ _ _ h=>h,fun _ h=>.inl h⟩
theorem Ext.out{W W':Addr->Prop}{H H':Hp}(x:Ext W H W' H'){a:Addr}{o:HO}(h:H a=some o)(n: ¬W a): ¬W' a:=fun w=>by
 rcases x.win a w with q|q
 ·exact n q
 ·rw[h] at q;cases q
theorem Ext.trans{W W1 W2:Addr->Prop}{H H1 H2:Hp}(x:Ext W H W1 H1)(y:Ext W1 H1 W2 H2):Ext W H W2 H2:=by
 refine⟨fun a o h n=>y.keep a o (x.keep a o h n) (x.out h n),fun a xs h=>y.tup a xs (x.tup a xs h),fun a o u h=>y.frz a o u (x.frz a o u h),fun a w=>?_⟩;rcases y.win a w with q|q
 ·exact x.win a q
 ·cases e:H a with
  |none=>exact .inr rfl
  |some o=>
   by_cases hw:W a
   ·exact .inl hw
   ·rw[x.keep a o e hw] at q;cases q
theorem Ext.same{W:Addr->Prop}{H H':Hp}(s:Same H H'):Ext W H W H':=⟨fun a o h _=>s a o h,fun a xs h=>s a _ h,fun a o u h=>s a _ h,fun _ w=>.inl w⟩
section
variable {K:Ka} {W W':Addr->Prop} {H H':Hp}
mutual
theorem Rep.ext(x:Ext W H W' H'): ∀{d:D} {v:V},Rep K W H d v->Rep K W' H' d v
 |_,_,.int i=>.int i
 |_,_,.bl b=>.bl b
 |_,_,.non=>.non
 |_,_,.str s=>.str s
 |_,_,.dK n h l r=>.dK (x.out h n) (x.keep _ _ h n) l (Reps.ext x r)
 |_,_,.dT n h l r=>.dT (x.out h n) (x.keep _ _ h n) l (Reps.ext x r)
 |_,_,.dD n h=>.dD (x.out h n) (x.keep _ _ h n)
 |_,_,.tup h r=>.tup (x.tup _ _ h) (Reps.ext x r)
 |_,_,.lst h r=>.lst (by
   rcases h with ⟨n,h|⟨o,h⟩⟩|h
   ·exact .inl ⟨x.out h n,.inl (x.keep _ _ h n)⟩
   ·exact .inl ⟨x.out h n,.inr ⟨o,x.keep _ _ h n⟩⟩
   ·exact .inr h) (Reps.ext x r)
theorem Reps.ext(x:Ext W H W' H'): ∀{ds:List D} {vs:List V},Reps K W H ds vs->Reps K W' H' ds vs
 |_,_,.nil=>.nil
 |_,_,.cons h t=>.cons (Rep.ext x h) (Reps.ext x t)
end
mutual
theorem Rep.less(x: ∀a,W' a->W a): ∀{d:D} {v:V},Rep K W H d v->Rep K W' H d v
 |_,_,.int i=>.int i
 |_,_,.bl b=>.bl b
 |_,_,.non=>.non
 |_,_,.str s=>.str s
 |_,_,.dK n h l r=>.dK (fun w=>n (x _ w)) h l (Reps.less x r)
 |_,_,.dT n h l r=>.dT (fun w=>n (x _ w)) h l (Reps.less x r)
 |_,_,.dD n h=>.dD (fun w=>n (x _ w)) h
 |_,_,.tup h r=>.tup h (Reps.less x r)
 |_,_,.lst h r=>.lst (by
   rcases h with ⟨n,h⟩|h
   ·exact .inl ⟨fun w=>n (x _ w),h⟩
   ·exact .inr h) (Reps.less x r)
theorem Reps.less(x: ∀a,W' a->W a): ∀{ds:List D} {vs:List V},Reps K W H ds vs->Reps K W' H ds vs
 |_,_,.nil=>.nil
 |_,_,.cons h t=>.cons (Rep.less x h) (Reps.less x t)
end
mutual
theorem Rep.plain: ∀{d:D} {v:V},Rep K W H d v->LW.plain d=true->Rep K W' H d v
 |_,_,.int i,_=>.int i
 |_,_,.bl b,_=>.bl b
 |_,_,.non,_=>.non
 |_,_,.str s,_=>.str s
 |_,_,.tup h r,p=>.tup h (Reps.plain r (by simpa [LW.plain] using p))
 |_,_,.lst h r,p=>by simp[LW.plain] at p
 |_,_,.dK _ _ _ _,p=>by simp[LW.plain] at p
 |_,_,.dT _ _ _ _,p=>by simp[LW.plain] at p
 |_,_,.dD _ _,p=>by simp[LW.plain] at p
theorem Reps.plain: ∀{ds:List D} {vs:List V},Reps K W H ds vs->yU ds=true->Reps K W' H ds vs
 |_,_,.nil,_=>.nil
 |_,_,.cons h t,p=>by
  simp only[yU,Bool.and_eq_true] at p;exact .cons (Rep.plain h p.1) (Reps.plain t p.2)
end
theorem Reps.length: ∀{ds:List D} {vs:List V},Reps K W H ds vs->ds.length=vs.length
 |_,_,.nil=>rfl
 |_,_,.cons _ t=>by simp[Reps.length t]
theorem Reps.get: ∀{ds:List D} {vs:List V} {i:Nat} {d:D},Reps K W H ds vs->ds[i]? =some d->∃v,vs[i]? =some v/\Rep K W H d v
 |_,_,_,_,.nil,e=>by simp at e
 |_,_,0,_,.cons h _,e=>by simp at e;subst e;exact⟨_,rfl,h⟩
 |_,_,i+1,d,.cons _ t,e=>by
  obtain⟨v,h1,h2⟩:=Reps.get (i:=i) (d:=d) t (by simpa using e);exact⟨v,by simpa using h1,h2⟩
theorem Reps.append: ∀{ds es:List D} {vs us:List V},Reps K W H ds vs->Reps K W H es us->Reps K W H (ds++es) (vs++us)
 |_,_,_,_,.nil,s=>s
 |_,_,_,_,.cons h t,s=>.cons h (Reps.append t s)
theorem Reps.take: ∀{ds:List D} {vs:List V} (n:Nat),Reps K W H ds vs->Reps K W H (ds.take n) (vs.take n)
 |_,_,0,_=>.nil
 |_,_,_+1,.nil=>.nil
 |_,_,n+1,.cons h t=>.cons h (Reps.take n t)
theorem Reps.drop: ∀{ds:List D} {vs:List V} (n:Nat),Reps K W H ds vs->Reps K W H (ds.drop n) (vs.drop n)
 |_,_,0,r=>r
 |_,_,_+1,.nil=>.nil
 |_,_,n+1,.cons _ t=>Reps.drop n t
theorem Reps.ints: ∀(ns:List Int),Reps K W H (ns.map D.int) (ns.map V.int)
 |[]=>.nil
 |i::r=>.cons (.int i) (Reps.ints r)
theorem Reps.ofInts: ∀{ds:List D} {vs:List V} {ns:List Int},Reps K W H ds vs->ints? ds=some ns->vs=ns.map V.int
 |_,_,ns,.nil,e=>by simp[ints?] at e;subst e;rfl
 |_,_,ns,.cons (d:=d) h t,e=>by
  cases h with
  |int i=>
   simp only[ints?,jo2] at e;obtain⟨ms,e1,rfl⟩:=e;rw[Reps.ofInts t e1];rfl
  |_=>simp[ints?] at e
theorem ORep.ext{d:D}{o:HO}(h:ORep K W H d o)(x:Ext W H W' H'):ORep K W' H' d o:=by
 cases h with
 |lst r=>exact .lst (r.ext x)
 |dK l r=>exact .dK l (r.ext x)
 |dT l r=>exact .dT l (r.ext x)
 |dD=>exact .dD
theorem ORep.less{d:D}{o:HO}(h:ORep K W H d o)(x: ∀a,W' a->W a):ORep K W' H d o:=by
 cases h with
 |lst r=>exact .lst (r.less x)
 |dK l r=>exact .dK l (r.less x)
 |dT l r=>exact .dT l (r.less x)
 |dD=>exact .dD
theorem ORep.plain{d:D}{o:HO}(h:ORep K W H d o)(p:xC d=true):ORep K W' H d o:=by
 cases h with
 |lst r=>exact .lst (r.plain p)
 |dK l r=>exact .dK l (r.plain p)
 |dT l r=>exact .dT l (r.plain p)
 |dD=>exact .dD
theorem ORep.rep{d:D}{o:HO}{a:Addr}(h:ORep K W H d o)(n: ¬W a)(e:H a=some o):Rep K W H d (.ref a):=by
 cases h with
 |lst r=>exact .lst (.inl ⟨n,.inl e⟩) r
 |dK l r=>exact .dK n e l r
 |dT l r=>exact .dT n e l r
 |dD=>exact .dD n e
theorem ORep.kind{d:D}{o:HO}(h:ORep K W H d o):(∀xs,o≠ .tup xs)/\(∀b u,o≠ .frz b u):=by
 cases h<;>exact⟨fun _ z=>(nomatch z),fun _ _ z=>(nomatch z)⟩
noncomputable def add(W:Addr->Prop)(a:Addr):Addr->Prop:=fun b=>W b\/b=a
inductive Frz (K:Ka)(W:Addr->Prop)(H:Hp):SV->V->Prop where
 |val {d:D} {v:V} (h:Rep K W H d v):Frz K W H (.val d) v
 |lis {d:D} {a:Addr} {o:HO} (h: ¬W a) (e:H a=some o) (r:ORep K W H d o):Frz K W H (.obj true d) (.ref a)
 |see {d:D} {a:Addr} {o:HO} (h:W a) (e:H a=some o) (r:ORep K W H d o):Frz K W H (.obj false d) (.ref a)
inductive Res (K:Ka)(W:Addr->Prop)(H H':Hp):SV->V->Prop where
 |val {d:D} {v:V} (h:Rep K W H' d v):Res K W H H' (.val d) v
 |new {d:D} {a:Addr} {o:HO} (h:H a=Option.none) (e:H' a=some o) (r:ORep K (add W a) H' d o):Res K W H H' (.obj true d) (.ref a)
 |see {d:D} {a:Addr} {o:HO} (h:W a) (e:H' a=some o) (r:ORep K W H' d o):Res K W H H' (.obj false d) (.ref a)
noncomputable def Wf(W:Addr->Prop)(H:Hp):Prop:=∀a,W a->H a≠Option.none
theorem Res.frz{r:SV}{v:V}(h:Res K W H H' r v)(wf:Wf W H):Frz K W H' r v:=by
 cases h with
 |val h=>exact .val h
 |new h e r=>exact .lis (fun w=>wf _ w h) e (r.less fun b w=>.inl w)
 |see h e r=>exact .see h e r
theorem Frz.same{r:SV}{v:V}(h:Frz K W H r v)(s:Same H H'):Frz K W H' r v:=by
 cases h with
 |val h=>exact .val (h.ext (.same s))
 |lis h e r=>exact .lis h (s _ _ e) (r.ext (.same s))
 |see h e r=>exact .see h (s _ _ e) (r.ext (.same s))
noncomputable def Sees(K:Ka)(W:Addr->Prop)(H:Hp)(d:D)(v:V):Prop:=
 Rep K W H d v\/∃a o,v= .ref a/\H a=some o/\ORep K W H d o
theorem Frz.sees{r:SV}{v:V}(h:Frz K W H r v):Sees K W H (zI r) v:=by
 cases h with
 |val h=>exact .inl h
 |lis h e r=>exact .inr ⟨_,_,rfl,e,r⟩
 |see h e r=>exact .inr ⟨_,_,rfl,e,r⟩
theorem Sees.lst{ds:List D}{v:V}(h:Sees K W H (.lst ds) v): ∃a xs,v= .ref a/\SqL K H a xs/\Reps K W H ds xs:=by
 rcases h with h|⟨a,o,rfl,e,r⟩
 ·cases h with
  |lst h r=>
   rcases h with ⟨_,h⟩|h
   ·exact⟨_,_,rfl,.inl h,r⟩
   ·exact⟨_,_,rfl,.inr h,r⟩
 ·cases r with
  |lst r=>exact⟨_,_,rfl,.of e,r⟩
theorem Sees.tupH{ds:List D}{v:V}(h:Sees K W H (.tup ds) v): ∃a xs,v= .ref a/\H a=some (.tup xs)/\Reps K W H ds xs:=by
 rcases h with h|⟨a,o,rfl,e,r⟩
 ·cases h with
  |tup h r=>exact⟨_,_,rfl,h,r⟩
 ·cases r
theorem Sees.tup{ds:List D}{v:V}(h:Sees K W H (.tup ds) v): ∃a xs,v= .ref a/\SqT K H a xs/\Reps K W H ds xs:=by
 obtain⟨a,xs,e,h,r⟩:=h.tupH;exact⟨a,xs,e,.of h,r⟩
theorem Sees.dK{ks vs:List D}{v:V}(h:Sees K W H (.dct false ks vs) v): ∃a ns ys,v= .ref a/\ks=ns.map D.int/\H a=some (.dK (xE ns ys))/\ns.length=ys.length/\Reps K W H vs ys:=by
 rcases h with h|⟨a,o,rfl,e,r⟩
 ·cases h with
  |dK n h l r=>exact⟨_,_,_,rfl,rfl,h,l,r⟩
 ·cases r with
  |dK l r=>exact⟨_,_,_,rfl,rfl,e,l,r⟩
theorem Sees.dT{ks vs:List D}{v:V}(h:Sees K W H (.dct true ks vs) v): ∃a ns ys,v= .ref a/\ks=ns.map kT/\H a=some (.dT (xF ns ys))/\ns.length=ys.length/\Reps K W H vs ys:=by
 rcases h with h|⟨a,o,rfl,e,r⟩
 ·cases h with
  |dT n h l r=>exact⟨_,_,_,rfl,rfl,h,l,r⟩
 ·cases r with
  |dT l r=>exact⟨_,_,_,rfl,rfl,e,l,r⟩
theorem Sees.dD{kvs:List (List (List Int)×Int)}{v:V}(h:Sees K W H (.dcd kvs) v): ∃a,v= .ref a/\H a=some (.dD (wu kvs)):=by
 rcases h with h|⟨a,o,rfl,e,r⟩
 ·cases h with
  |dD n h=>exact⟨_,rfl,h⟩
 ·cases r
  exact⟨_,rfl,e⟩
theorem Sees.int{i:Int}{v:V}(h:Sees K W H (.int i) v):v= .int i:=by
 rcases h with h|⟨a,o,rfl,e,r⟩
 ·cases h;rfl
 ·cases r
theorem Sees.bl{i:Bool}{v:V}(h:Sees K W H (.bl i) v):v= .bl i:=by
 rcases h with h|⟨a,o,rfl,e,r⟩
 ·cases h;rfl
 ·cases r
theorem Sees.str{i:Str}{v:V}(h:Sees K W H (.str i) v):v= .str i:=by
 rcases h with h|⟨a,o,rfl,e,r⟩
 ·cases h;rfl
 ·cases r
theorem Sees.non{v:V}(h:Sees K W H .non v):v= .non:=by
 rcases h with h|⟨a,o,rfl,e,r⟩
 ·cases h;rfl
 ·cases r
theorem Frz.toD{r:SV}{v:V}{d:D}(h:Frz K W H r v)(e:LW.toD r=some d):Rep K W H d v:=by
 cases h with
 |val h=>simp[LW.toD] at e;subst e;exact h
 |lis h e' r=>simp[LW.toD] at e;subst e;exact r.rep h e'
 |see h e' r=>simp[LW.toD] at e
noncomputable def xG(ρ:LW.Env)(σ:St)(a:Addr):Prop:=∃(i:Nat) (x:SV) (d:D),ρ[i]? =some (some x)/\x.cell=some d/\σ[i]? =some (some (.ref a))
structure R (K:Ka)(W:Addr->Prop)(ρ:LW.Env)(σ:St)(H:Hp):Prop where
 val: ∀(i:Nat) (d:D),ρ[i]? =some (some (.val d))->∃v,σ[i]? =some (some v)/\Rep K W H d v
 nol: ∀(i:Nat) (d:D),ρ[i]? ≠some (some (.obj false d))
 own: ∀(i:Nat) (x:SV) (d:D),ρ[i]? =some (some x)->x.cell=some d->∃a o,σ[i]? =some (some (.ref a))/\W a/\H a=some o/\ORep K W H d o
 inj: ∀(i j:Nat) (x y:SV) (d e:D) (a:Addr),ρ[i]? =some (some x)->ρ[j]? =some (some y)->x.cell=some d->y.cell=some e->σ[i]? =some (some (.ref a))->σ[j]? =some (some (.ref a))->i=j
 wf:Wf W H
 len:ρ.length=σ.length
theorem R.ownW{ρ:LW.Env}{σ:St}(r:R K W ρ σ H){a:Addr}(o:xG ρ σ a):W a/\∃o d,H a=some o/\ORep K W H d o:=by
 obtain⟨i,x,d,h1,h2,h3⟩:=o;obtain⟨b,o,e,w,q,z⟩:=r.own i x d h1 h2;rw[h3] at e;cases e;exact⟨w,o,d,q,z⟩
theorem R.same{ρ:LW.Env}{σ:St}(r:R K W ρ σ H)(s:Same H H'):R K W ρ σ H':=by
 refine⟨fun i d h=>?_,r.nol,fun i x d h h'=>?_,r.inj,fun a w=>?_,r.len⟩
 ·obtain⟨v,h1,h2⟩:=r.val i d h
  exact⟨v,h1,h2.ext (.same s)⟩
 ·obtain⟨a,o,h1,h2,h3,h4⟩:=r.own i x d h h'
  exact⟨a,o,h1,h2,s _ _ h3,h4.ext (.same s)⟩
 ·cases e:H a with
  |none=>exact KG e (r.wf a w)
  |some o=>rw[s a o e];exact fun z=>nomatch z
theorem R.look{ρ:LW.Env}{σ:St}(r:R K W ρ σ H){i:Nat}{x:SV}(h:look ρ i=some x): ∃v,σ[i]? =some (some v)/\Frz K W H x v/\Res K W H H x v:=by
 unfold LW.look at h;split at h
 ·rename_i d e
  cases h;obtain⟨v,h1,h2⟩:=r.val i d e;exact⟨v,h1,.val h2,.val h2⟩
 ·rename_i o d e
  cases h
  cases o with
  |false=>exact KG e (r.nol i d)
  |true=>
   obtain⟨a,o,h1,h2,h3,h4⟩:=r.own i _ d e rfl;exact⟨_,h1,.see h2 h3 h4,.see h2 h3 h4⟩
 ·rename_i d e
  cases h;obtain⟨a,o,h1,h2,h3,h4⟩:=r.own i _ d e rfl;exact⟨_,h1,.see h2 h3 h4,.see h2 h3 h4⟩
 ·cases h
noncomputable def xz(ρ:LW.Env)(i:Nat):Prop:=∃d,ρ[i]? =some (some (.io d))
theorem vv{ρ:LW.Env}{i:Nat}(h:LW.free ρ i=true): ¬xz ρ i:=fun zz0=>by
 obtain⟨d,e⟩:=zz0;unfold LW.free at h;rw[e] at h;cases h
structure SPost (K:Ka)(W:Addr->Prop)(ρ:LW.Env)(σ:St)(H:Hp)(W':Addr->Prop)(ρ':LW.Env)(σ':St)(H':Hp):Prop where
 r:R K W' ρ' σ' H'
 keep: ∀a o,H a=some o->¬xG ρ σ a->H' a=some o
 win: ∀a,W' a->W a\/H a=Option.none
 wout: ∀a,W a->¬xG ρ σ a->W' a/\¬xG ρ' σ' a
 io: ∀i,(xz ρ' i↔xz ρ i)/\(xz ρ i->σ'[i]? =σ[i]?)
theorem SPost.trans{W1 W2:Addr->Prop}{ρ ρ1 ρ2:LW.Env}{σ σ1 σ2:St}{H1 H2:Hp}(x:SPost K W ρ σ H W1 ρ1 σ1 H1)(y:SPost K W1 ρ1 σ1 H1 W2 ρ2 σ2 H2)(r0:R K W ρ σ H):SPost K W ρ σ H W2 ρ2 σ2 H2:=by
 have no1: ∀a o,H a=some o->¬xG ρ σ a->¬xG ρ1 σ1 a:=fun a o h n z=>by
  rcases x.win a (x.r.ownW z).1 with w|w
  ·exact (x.wout a w n).2 z
  ·rw[h] at w;cases w
 refine⟨y.r,fun a o h n=>y.keep a o (x.keep a o h n) (no1 a o h n),fun a w=>?_,fun a w n=>?_,fun i=>⟨(y.io i).1.trans (x.io i).1,fun z=>((y.io i).2 ((x.io i).1.mpr z)).trans ((x.io i).2 z)⟩⟩
 ·rcases y.win a w with q|q
  ·exact x.win a q
  ·cases e:H a with
   |none=>exact .inr rfl
   |some o=>
    by_cases n:xG ρ σ a
    ·exact .inl (r0.ownW n).1
    ·rw[x.keep a o e n] at q;cases q
 ·obtain⟨w1,n1⟩:=x.wout a w n
  exact y.wout a w1 n1
theorem SPost.ext{W1:Addr->Prop}{ρ ρ1:LW.Env}{σ σ1:St}{H1:Hp}(x:SPost K W ρ σ H W1 ρ1 σ1 H1)(r0:R K W ρ σ H):Ext W H W1 H1:=by
 refine⟨fun a o h n=>x.keep a o h fun z=>n (r0.ownW z).1,fun a xs h=>x.keep a _ h fun z=>?_,fun a o u h=>x.keep a _ h fun z=>?_,x.win⟩
 ·obtain⟨_,o,d,e,q⟩:=r0.ownW z
  rw[h] at e;cases e;exact q.kind.1 xs rfl
 ·obtain⟨_,o,d,e,q⟩:=r0.ownW z
  rw[h] at e;cases e;exact q.kind.2 _ _ rfl
theorem SPost.same{ρ:LW.Env}{σ:St}(r0:R K W ρ σ H)(s:Same H H'):SPost K W ρ σ H W ρ σ H':=
 ⟨r0.same s,fun a o h _=>s a o h,fun a w=>.inl w,fun a w n=>⟨w,n⟩,fun _=>⟨.rfl,fun _=>rfl⟩⟩
end
noncomputable def zhf(ρ:LW.Env)(σ:St)(a:Addr):Prop:=∃i,xz ρ i/\σ[i]? =some (some (.ref a))
inductive Ret (K:Ka)(W:Addr->Prop)(ρ:LW.Env)(σ:St)(W':Addr->Prop)(H':Hp):SV->V->Prop where
 |val {d:D} {v:V} (h:Rep K W' H' d v):Ret K W ρ σ W' H' (.val d) v
 |new {d:D} {a:Addr} {o:HO} (h:W' a) (n: ¬(W a/\¬xG ρ σ a)) (n': ¬zhf ρ σ a) (e:H' a=some o) (r:ORep K W' H' d o):Ret K W ρ σ W' H' (.obj true d) (.ref a)
noncomputable def tE(K:Ka)(fn:Nat->List D->Option SV)(c:E):TE:=fun σ H Q=>∃W ρ r,R K W ρ σ H/\zi fn c ρ=some r/\∀v H',Same H H'->Res K W H H' r v->Q v H'
noncomputable def tV(K:Ka)(fn:Nat->List D->Option SV)(c:E):TE:=fun σ H Q=>∃W ρ r,R K W ρ σ H/\zi fn c ρ=some r/\∀v H',Same H H'->Frz K W H' r v->Q v H'
noncomputable def gU(K:Ka)(fn:Nat->List D->Option SV)(cs:Es):TA:=fun σ H Q=>∃W ρ rs,R K W ρ σ H/\zZ fn cs ρ=some rs/\∀vs H',Same H H'->Paired (Frz K W H') rs vs->Q vs H'
noncomputable def tT(K:Ka)(fn:Nat->List D->Option SV)(c:E):TT:=fun σ H Q=>∃W ρ b,R K W ρ σ H/\zE fn c ρ=some b/\∀H',Same H H'->Q b H'
noncomputable def FlOk(K:Ka)(W:Addr->Prop)(ρ:LW.Env)(σ:St)(W':Addr->Prop)(ρ':LW.Env)(σ':St)(H':Hp)(D:Ends):Fl->Prop
 | .nx=>D.nx σ' H'
 | .br=>D.bk σ' H'
 | .ct=>D.ct σ' H'
 | .rt r=>∀v,Ret K W ρ σ W' H' r v->D.rt v H'
noncomputable def ZT(K:Ka)(ex:LW.Env->Option (Fl×LW.Env)):TS:=fun D σ H=>∃W ρ x,R K W ρ σ H/\ex ρ=some x/\∀W' σ' H',SPost K W ρ σ H W' x.2 σ' H'->FlOk K W ρ σ W' x.2 σ' H' D x.1
theorem _root_.L2.PE.imp{X:Cx}{e:Expr}{t t':TE}(h:PE X e t)(i: ∀σ H Q,t' σ H Q->t σ H Q):PE X e t':=fun pins s σ H Q I q=>h pins s σ H Q I (i σ H Q q)
theorem _root_.L2.PT.imp{X:Cx}{e:Expr}{t t':TT}(h:PT X e t)(i: ∀σ H Q,t' σ H Q->t σ H Q):PT X e t':=fun pins s σ H Q I q=>h pins s σ H Q I (i σ H Q q)
theorem _root_.L2.PW.imp{X:Cx}{e:Expr}{t t':TT}(h:PW X e t)(i: ∀σ H Q,t' σ H Q->t σ H Q):PW X e t':=fun wh pins s σ H Q I q=>h wh pins s σ H Q I (i σ H Q q)
theorem _root_.L2.PA.imp{X:Cx}{e:List Expr}{t t':TA}(h:PA X e t)(i: ∀σ H Q,t' σ H Q->t σ H Q):PA X e t':=fun pos pins s σ H Q I q=>h pos pins s σ H Q I (i σ H Q q)
theorem _root_.L2.PS.imp{X:Cx}{e:Stmt}{t t':TS}(h:PS X e t)(i: ∀D σ H,t' D σ H->t D σ H):PS X e t':=fun pins s σ H D I q=>h pins s σ H D I (i D σ H q)
theorem _root_.L2.PSs.imp{X:Cx}{e:List Stmt}{t t':TS}(h:PSs X e t)(i: ∀D σ H,t' D σ H->t D σ H):PSs X e t':=fun pins s σ H D I q=>h pins s σ H D I (i D σ H q)
end L2.LW
set_option maxHeartbeats 4000000
namespace HT
open PySem PyProof.Rows
theorem zhg:Slot "tuple" (cmpInfo .GtE).2.1 "tuple.__ge__":=
 .of (owner:="tuple") (n:="__ge__") (by rw[typeLookup_type,builtinLookup_eq_fast];kernel_rfl) (by decide+kernel) (by decide+kernel) (by decide+kernel)
  (by first|exact .inl (by decide+kernel)|exact .inr (by decide+kernel)) (by rw[isSubtype_type];kernel_rfl)
theorem zhh:entryFor table "tuple.__ge__"=some Builtin.«tuple.__ge__»:=entryFor_of_tree (by kernel_rfl)
theorem zhi(a b:Value):argsOk "tuple.__ge__" ⟨[a,b],[]⟩:=by
 unfold argsOk;rw[signature?_of (id:="tuple.__ge__") (n:=['_','_','e','g','_','_']) (o:=['e','l','p','u','t']) (by kernel_rfl) PySem.F.owner_tuple];kernel_rfl
theorem zhj(A:Around)(s:Shared)(a:Int)(t:Tok)(c:Int)(u:Tok)(prog:Program)(w:World)(E:Value->Shared->Prop)(Q:Value->Shared->Prop)(h:Q (.bool (decide (c<=a))) s):
  wpAny (model prog w) A (richCompare .GtE (.int a t) (.int c u)) Q E s:=
 (PyProof.Rows.ge_int h:wpAny (model prog w) A (compareOp .GtE (.int a t) (.int c u)) Q E s)
section
open PySem.SeqAt
open PySem.AutoSeq1 (wpAny_loadPart')
open PySem.MeetsSeq PySem.MeetsSeq2 PySem.MeetsSeq3
theorem zhk(l b:Addr)(items items2:Array Value)(n n2:Nat)(dd dd2:Option Addr)(sl sl2:Array (Option Value))(ns ms:List Int)(hi:IntsAre items.toList ns)(hj:IntsAre items2.toList ms):
  Meets (Builtin.«tuple.__ge__» ⟨[.ref l,.ref b],[]⟩)
   (fun _ R s=>s.heap.get? l=some { cls:=.type "tuple",dict:=dd,data:=.seq items n,slots:=sl }/\s.heap.get? b=some { cls:=.type "tuple",dict:=dd2,data:=.seq items2 n2,slots:=sl2 }/\
    R (.ok (.ret (.bool (!lexLt ns ms)))) s):=
 .of_wp fun prog w A R s h=>by
  obtain⟨hp,g,d,tk,os⟩:=s;obtain⟨hl,hb,h⟩:=h;have f2:=AutoSeq1.sub_tuple_tuple;have z1:items.size=ns.length:=by rw[<-hi.length];simp
  have z2:items2.size=ms.length:=by rw[<-hj.length];simp
  wp_walk using wpAny_loadPart' hl,wpAny_loadPart' hb,wpAny_forIn_list _ (fun zK b s'=>b.1=none/\s'=⟨hp,g,d,tk,os⟩/\∃(vs ws:List Value) (ns' ms':List Int),zK=vs.zip ws/\
   IntsAre vs ns'/\IntsAre ws ms'/\ns'.length+items2.size=ms'.length+items.size/\R (.ok (.ret (.bool (!lexLt ns' ms')))) ⟨hp,g,d,tk,os⟩) _
  case turn=>
   rintro⟨y,x⟩ zK b s' ⟨hb',rfl,vs,ws,ns',ms',hz,hvi,hwi,hlen,hR⟩
   cases hvi with
   |nil=>rw[List.zip_nil_left] at hz;cases hz
   |cons a t hvi'=>
    cases hwi with
    |nil=>rw[List.zip_nil_right] at hz;cases hz
    |cons c u hwi'=>
     rw[List.zip_cons_cons] at hz;injection hz with hyx hrest;injection hyx with hy hx;subst hy hx;rw[lexLt_cons] at hR;simp only[List.length_cons] at hlen;obtain⟨e,he,hiff⟩:=qY A.in1 ⟨hp,g,d,tk,os⟩ a t c u;refine Kb (he prog w _ _ ?_)
     cases e with
     |true=>
      rw[if_pos (hiff.mp rfl)] at hR
      wp_walk
      exact⟨rfl,rfl,_,_,_,_,hrest,hvi',hwi',by omega,hR⟩
     |false=>
      rw[if_neg (fun q=>KG (hiff.mpr q) Ko)] at hR
      have e2:(!decide (a<c))=decide (c<=a):=by
       by_cases q:a<c
       ·rw[decide_eq_true q,KKq (by omega)];rfl
       ·rw[KKq q,decide_eq_true (by omega)];rfl
      rw[e2] at hR;have hri:=zhj A.in1 ⟨hp,g,d,tk,os⟩ a t c u prog w
      wp_walk using hri
      exact⟨_,rfl,by simpa using hR⟩
  case fin=>
   rintro⟨b1,b2⟩ s' ⟨hb',rfl,vs,ws,ns',ms',hz,hvi,hwi,hlen,hR⟩;simp only at hb';subst hb'
   have hv:(!lexLt ns' ms')=decide (items.size>=items2.size):=by
    cases hvi with
    |nil=>
     cases hwi with
     |nil=>
      simp only[List.length_nil] at hlen;rw[qV];exact (decide_eq_true (by omega)).symm
     |cons c u hw=>
      simp only[List.length_nil,List.length_cons] at hlen;rw[qW];exact (KKq (by omega)).symm
    |cons a t hv=>
     cases hwi with
     |nil=>
      simp only[List.length_nil,List.length_cons] at hlen;rw[qX];exact (decide_eq_true (by omega)).symm
     |cons c u hw=>
      rw[List.zip_cons_cons] at hz;cases hz
   rw[hv] at hR
   wp_walk
   exact⟨_,rfl,by simpa [Builtin.Tuple.tupleCompareSizes] using hR⟩
  case h=>
   exact⟨rfl,rfl,items.toList,items2.toList,ns,ms,rfl,hi,hj,by omega,h⟩
end
section
variable {prog:Program} {w:World} {A:Around} {E:Value->Shared->Prop} {s:Shared}
theorem ge_tupInts{l b:Addr}{items items2:Array Value}{ns ms:List Int}{Q:Value->Shared->Prop}(hl:IsTup s.heap l items)(hb:IsTup s.heap b items2)(hi:IntsAre items.toList ns)(hj:IntsAre items2.toList ms)
  (hu:A.units<cLine) (h:Q (.bool (!lexLt ns ms)) s):wpAny (model prog w) A (compareOp .GtE (.ref l) (.ref b)) Q E s:=by
 obtain⟨⟨cls,dd,data,sl⟩,ho,hc,n,hd⟩:=id hl;obtain⟨⟨cls2,dd2,data2,sl2⟩,ho2,hc2,n2,hd2⟩:=id hb;simp only at hc hd hc2 hd2;subst hc hd hc2 hd2
 exact richCompare_meets_room (op:=.GtE) ⟨_,ho,rfl⟩ ⟨_,ho2,rfl⟩ zhg zhh (zhi _ _) (zhk l b items items2 n n2 dd dd2 sl sl2 ns ms hi hj)
  ⟨ho,ho2,show Value.bool (!lexLt ns ms)≠Value.notImplemented/\Q (.bool (!lexLt ns ms)) s from ⟨(fun x=>nomatch x),h⟩⟩ hu
end
end HT
set_option maxHeartbeats 4000000
namespace L2.LW
open PySem PySem.Spec PyProof.Rows
noncomputable def VR(K:Ka)(f:List D->Option SV)(vs:List V)(H:Hp)(Q:VK):Prop:=
 ∃W ds r,Wf W H/\Paired (Sees K W H) ds vs/\f ds=some r/\∀v H',Same H H'->Res K W H H' r v->Q v H'
noncomputable def yL(K:Ka)(f:List D->Option SV):R2:=fun x y H Q=>VR K f [x,y] H Q
theorem Qi{α β:Type}{F:α->β->Prop}{ds:List α}{x:β}(h:Paired F ds [x]): ∃d,ds=[d]/\F d x:=by
 cases h with
 |cons h t=>cases t;exact⟨_,rfl,h⟩
theorem xR{α β:Type}{F:α->β->Prop}{ds:List α}{x y:β}(h:Paired F ds [x,y]): ∃d e,ds=[d,e]/\F d x/\F e y:=by
 cases h with
 |cons h t=>
  obtain⟨e,rfl,h2⟩:=Qi t;exact⟨_,e,rfl,h,h2⟩
mutual
noncomputable def zU:D->PyData
 | .int i=>.int i
 | .bl b=>.bool b
 | .non=>.none
 | .str x=>.str x
 | .tup l=>.tuple (xl l)
 | .lst l=>.list (xl l)
 | .dct _ _ _=>.dict []
 | .dcd _=>.dict []
noncomputable def xl:List D->List PyData
 |[]=>[]
 |x::xs=>zU x::xl xs
end
mutual
theorem XO: ∀d e:D,PyData.eqv (zU d) (zU e)=zO d e
 | .int a,e=>by cases e<;>simp[zU,PyData.eqv,zO]
 | .bl a,e=>by cases e<;>simp[zU,PyData.eqv,zO]
 | .non,e=>by cases e<;>simp[zU,PyData.eqv,zO]
 | .str a,e=>by cases e<;>simp[zU,PyData.eqv,zO]
 | .tup l,e=>by
  cases e with
  |tup m=>simp only[zU,PyData.eqv,zO];exact Qj l m
  |_=>simp[zU,PyData.eqv,zO]
 | .lst l,e=>by
  cases e with
  |lst m=>simp only[zU,PyData.eqv,zO];exact Qj l m
  |_=>simp[zU,PyData.eqv,zO]
 | .dct t a b,e=>by cases e<;>simp[zU,PyData.eqv,zO]
 | .dcd a,e=>by cases e<;>simp[zU,PyData.eqv,zO]
theorem Qj: ∀ds es:List D,PyData.eqvAll (xl ds) (xl es)=yP ds es
 |[],[]=>by simp[xl,PyData.eqvAll,yP]
 |[],_::_=>by simp[xl,PyData.eqvAll,yP]
 |_::_,[]=>by simp[xl,PyData.eqvAll,yP]
 |x::xs,y::ys=>by simp only[xl,PyData.eqvAll,yP];rw[XO x y,Qj xs ys]
end
theorem jl{n:Nat}(ih: ∀d,zG n d=true->(zU d).canLay0=true/\(zU d).depth<=n): ∀l:List D,l.all (zG n)=true->PyData.canLayAll0 (xl l)=true/\PyData.depthAll (xl l)<=n
 |[],_=>by simp[xl,PyData.canLayAll0,PyData.depthAll]
 |x::xs,h=>by
  simp only[List.all_cons,Bool.and_eq_true] at h;obtain⟨h1,h2⟩:=ih x h.1;obtain⟨h3,h4⟩:=jl ih xs h.2;refine⟨by simp[xl,PyData.canLayAll0,h1,h3],?_⟩;simp only[xl,PyData.depthAll];omega
theorem xJ: ∀(n:Nat) (d:D),zG n d=true->(zU d).canLay0=true/\(zU d).depth<=n
 |_,.int _,_=>by simp[zU,PyData.canLay0,PyData.depth]
 |_,.bl _,_=>by simp[zU,PyData.canLay0,PyData.depth]
 |_,.non,_=>by simp[zU,PyData.canLay0,PyData.depth]
 |_,.str _,h=>by simp[zG] at h
 |0,.dct _ _ _,h=>by simp[zG] at h
 |_+1,.dct _ _ _,h=>by simp[zG] at h
 |0,.dcd _,h=>by simp[zG] at h
 |_+1,.dcd _,h=>by simp[zG] at h
 |0,.tup _,h=>by simp[zG] at h
 |0,.lst _,h=>by simp[zG] at h
 |n+1,.tup l,h=>by
  obtain⟨h1,h2⟩:=jl (xJ n) l (by simpa [zG] using h);exact⟨by simpa [zU,PyData.canLay0] using h1,by simp only[zU,PyData.depth];omega⟩
 |n+1,.lst l,h=>by
  obtain⟨h1,h2⟩:=jl (xJ n) l (by simpa [zG] using h);exact⟨by simpa [zU,PyData.canLay0] using h1,by simp only[zU,PyData.depth];omega⟩
theorem ZU(d:D): ∀l:List D,((xl l).any fun y=>PyData.eqv y (zU d))=l.any fun y=>zO y d
 |[]=>by simp[xl]
 |x::xs=>by simp only[xl,List.any_cons];rw[XO x d,ZU d xs]
section
variable {X:Cx} {pins:List (Addr×Obj)} {σ:St} {H:Hp} {s:Shared} {W:Addr->Prop}
mutual
theorem Rep.reads(I:Inv X pins σ H s): ∀{n:Nat} {d:D} {x:V} {v:Value},zG n d=true->Rep X.K W H d x->RelV x v->∃as,Reads s.heap v (zU d) as
 |_,_,_,_,_,.int i,r=>by obtain⟨t,rfl⟩:=r;exact⟨_,.int _ _⟩
 |_,_,_,_,_,.bl b,r=>by cases r;exact⟨_,.bool _⟩
 |_,_,_,_,_,.non,r=>by cases r;exact⟨_,.none⟩
 |_,_,_,_,_,.str x,r=>by obtain⟨t,rfl⟩:=r;exact⟨_,.str _ _⟩
 |0,_,_,_,n,.tup h rs,r=>by simp[zG] at n
 |0,_,_,_,n,.lst h rs,r=>by simp[zG] at n
 |_+1,_,_,_,n,.tup h rs,r=>by
  cases r;obtain⟨its,rv,⟨o,ho,hc,m,hd⟩,hz⟩:=I.tuple (.of h);obtain⟨as,q⟩:=Reps.reads I (by simpa [zG] using n) rs rv;exact⟨as,by simp only[zU];exact .tuple ho hc hd (by simpa using q)⟩
 |_+1,_,_,_,n,.lst h rs,r=>by
  cases r;obtain⟨its,rv,⟨o,m,ho,hc,_,hd⟩,hz⟩:=I.list (show SqL X.K H _ _ from h.elim (fun z=>.inl z.2) fun z=>.inr z);obtain⟨as,q⟩:=Reps.reads I (by simpa [zG] using n) rs rv;exact⟨_,by simp only[zU];exact .list ho hc hd (by simpa using q)⟩
 |0,_,_,_,n,.dK _ _ _ _,r=>by simp[zG] at n
 |0,_,_,_,n,.dT _ _ _ _,r=>by simp[zG] at n
 |_+1,_,_,_,n,.dK _ _ _ _,r=>by simp[zG] at n
 |_+1,_,_,_,n,.dT _ _ _ _,r=>by simp[zG] at n
 |0,_,_,_,n,.dD _ _,r=>by simp[zG] at n
 |_+1,_,_,_,n,.dD _ _,r=>by simp[zG] at n
theorem Reps.reads(I:Inv X pins σ H s): ∀{n:Nat} {ds:List D} {xs:List V} {vs:List Value},ds.all (zG n)=true->Reps X.K W H ds xs->Vals xs vs->∃as,ReadsAll s.heap vs (xl ds) as
 |_,_,_,_,_,.nil,r=>by cases r;exact⟨_,by simp only[xl];exact .nil⟩
 |_,_,_,_,n,.cons h t,r=>by
  cases r with
  |cons r1 r2=>
   simp only[List.all_cons,Bool.and_eq_true] at n;obtain⟨as,q1⟩:=Rep.reads I n.1 h r1;obtain⟨bs,q2⟩:=Reps.reads I n.2 t r2;exact⟨_,by simp only[xl];exact .cons q1 q2⟩
end
theorem Sees.reads(I:Inv X pins σ H s){n:Nat}{d:D}{x:V}{v:Value}(hn:zG n d=true)(h:Sees X.K W H d x)(r:RelV x v): ∃as,Reads s.heap v (zU d) as:=by
 rcases h with h|⟨a,o,rfl,e,rs⟩
 ·exact h.reads I hn r
 ·cases r
  cases rs with
  |lst rs=>
   obtain⟨its,rv,⟨o,m,ho,hc,_,hd⟩,hz⟩:=I.list (show SqL X.K H _ _ from .of e)
   cases n with
   |zero=>simp[zG] at hn
   |succ n=>
    obtain⟨as,q⟩:=rs.reads I (n:=n) (by simpa [zG] using hn) rv;exact⟨_,by simp only[zU];exact .list ho hc hd (by simpa using q)⟩
  |dK l r=>cases n<;>simp[zG] at hn
  |dT l r=>cases n<;>simp[zG] at hn
  |dD=>cases n<;>simp[zG] at hn
theorem Sees.readsL(I:Inv X pins σ H s){n:Nat}{l:List D}{x:V}{v:Value}(hn:l.all (zG n)=true)(h:Sees X.K W H (.lst l) x)(r:RelV x v): ∃as,Reads s.heap v (zU (.lst l)) as:=
 h.reads I (n:=n+1) (by simpa [zG] using hn) r
theorem Sees.readsT(I:Inv X pins σ H s){n:Nat}{l:List D}{x:V}{v:Value}(hn:l.all (zG n)=true)(h:Sees X.K W H (.tup l) x)(r:RelV x v): ∃as,Reads s.heap v (zU (.tup l)) as:=
 h.reads I (n:=n+1) (by simpa [zG] using hn) r
end
theorem yQ{H:Hp}{p:Addr}(h:H p=Option.none)(o:HO):Same H (zL H p o):=fun b u q=>by rw[yp (jD q h)];exact q
theorem vJ{K:Ka}{W:Addr->Prop}{H:Hp}{p:Addr}{ds:List D}{xs:List V}(hp:H p=Option.none)(r:Reps K W H ds xs):Res K W H (zL H p (.lst xs)) (.lis true ds) (.ref p):=by
 refine .new hp xI (.lst (r.ext ⟨fun a o h _=>yQ hp _ a o h,fun a xs h=>yQ hp _ a _ h,fun a o u h=>yQ hp _ a _ h,fun a w=>?_⟩));rcases w with w|rfl
 ·exact .inl w
 ·exact .inr hp
theorem Qk{K:Ka}{W:Addr->Prop}{H:Hp}{p:Addr}{ds:List D}{xs:List V}(hp:H p=Option.none)(r:Reps K W H ds xs):Res K W H (zL H p (.tup xs)) (.val (.tup ds)) (.ref p):=
 .val (.tup xI (r.ext (.same (yQ hp _))))
section
variable {X:Cx}
theorem ZV:line=sizeLine:=by rw[KI];rfl
theorem jO: ∀{l:List D} {ns:List Int},ints? l=some ns->l=ns.map D.int
 |[],ns,e=>by simp[ints?] at e;subst e;rfl
 |d::r,ns,e=>by
  cases d with
  |int i=>
   simp only[ints?,jo2] at e;obtain⟨ms,e1,rfl⟩:=e;rw[jO e1];rfl
  |_=>simp[ints?] at e
theorem XQ(ns:List Int):(ns.map Sum.inl).map kV=ns.map V.int:=by
 rw[List.map_map];rfl
theorem XR: ∀(a b:List Int),yP (a.map D.int) (b.map D.int)=decide (a=b)
 |[],[]=>by simp[yP]
 |[],_::_=>by simp[yP]
 |_::_,[]=>by simp[yP]
 |x::xs,y::ys=>by
  rw[Bool.eq_iff_iff];simp[yP,zO,XR xs ys]
theorem gW{a b:List Int}(h:(a.map Sum.inl:List zy)=b.map Sum.inl):a=b:=(List.map_inj_right (fun _ _ z=>Sum.inl.inj z)).mp h
theorem gX(k d:D)(ks:List D):xi (d::ks) k=if zO d k then some 0 else (xi ks k).map (· +1):=by
 unfold xi;rw[List.findIdx?_cons]
theorem Ql: ∀{ns:List Int} {ys:List V},ns.length=ys.length->∀i:Int,yt (xE ns ys) (.inl i)=(xi (ns.map D.int) (.int i)).bind fun j=>ys[j]?
 |[],[],_,i=>rfl
 |n::ns,y::ys,h,i=>by
  have ih:=Ql (ns:=ns) (ys:=ys) (by simpa using h) i;show yt ((Sum.inl n,y)::xE ns ys) (.inl i)=_;rw[List.map_cons,gX];by_cases e:n=i
  ·rw[jf (by simp[e])];simp[zO,e]
  ·rw[jg (by simp[e]),ih]
   have:zO (.int n) (.int i)=false:=by simp[zO,e]
   rw[this];cases xi (ns.map D.int) (.int i)<;>simp
theorem Qm: ∀{ns:List (List Int)} {ys:List V},ns.length=ys.length->∀i:List Int,yt (xF ns ys) (i.map Sum.inl)=(xi (ns.map kT) (kT i)).bind fun j=>ys[j]?
 |[],[],_,i=>rfl
 |n::ns,y::ys,h,i=>by
  have ih:=Qm (ns:=ns) (ys:=ys) (by simpa using h) i;show yt ((n.map Sum.inl,y)::xF ns ys) (i.map Sum.inl)=_;rw[List.map_cons,gX];by_cases e:n=i
  ·rw[jf (by simp[e])]
   have:zO (kT n) (kT i)=true:=by simp[kT,zO,XR,e]
   rw[this];rfl
  ·rw[jg (fun z=>e (gW z)),ih]
   have:zO (kT n) (kT i)=false:=by simp[kT,zO,XR,e]
   rw[this];cases xi (ns.map kT) (kT i)<;>simp
theorem gY{ks:List D}{k:D}{j:Nat}(h:xi ks k=some j):j<ks.length:=by
 unfold xi at h;obtain⟨h1,_⟩:=List.findIdx?_eq_some_iff_getElem.mp h;exact h1
theorem Qn{ns:List Int}{ys:List V}(h:ns.length=ys.length){i:Int}:(yt (xE ns ys) (.inl i)).isSome=(xi (ns.map D.int) (.int i)).isSome:=by
 rw[Ql h]
 cases e:xi (ns.map D.int) (.int i) with
 |none=>rfl
 |some j=>have:=gY e;simp at this;simp;omega
theorem Qo{ns:List (List Int)}{ys:List V}(h:ns.length=ys.length){i:List Int}:(yt (xF ns ys) (i.map Sum.inl)).isSome=(xi (ns.map kT) (kT i)).isSome:=by
 rw[Qm h]
 cases e:xi (ns.map kT) (kT i) with
 |none=>rfl
 |some j=>have:=gY e;simp at this;simp;omega
theorem zhl{K:Ka}{W:Addr->Prop}{H:Hp}{ns:List Int}{ys:List V}{vs:List D}{i:Int}{d:D}(h:ns.length=ys.length)(r:Reps K W H vs ys)(e:ji (ns.map D.int) vs (.int i)=some d): ∃y,yt (xE ns ys) (.inl i)=some y/\Rep K W H d y:=by
 unfold ji at e;rw[jo1] at e;obtain⟨j,e1,e2⟩:=e;obtain⟨y,e3,e4⟩:=r.get e2;exact⟨y,by rw[Ql h,e1];exact e3,e4⟩
theorem zhm{K:Ka}{W:Addr->Prop}{H:Hp}{ns:List (List Int)}{ys:List V}{vs:List D}{i:List Int}{d:D}(h:ns.length=ys.length)(r:Reps K W H vs ys)(e:ji (ns.map kT) vs (kT i)=some d): ∃y,yt (xF ns ys) (i.map Sum.inl)=some y/\Rep K W H d y:=by
 unfold ji at e;rw[jo1] at e;obtain⟨j,e1,e2⟩:=e;obtain⟨y,e3,e4⟩:=r.get e2;exact⟨y,by rw[Qm h,e1];exact e3,e4⟩
theorem xp:OpR X (binaryOp .Add) (yL X.K (zh .add)):=by
 rintro pins s σ H x y v u Q I rx ry ⟨W,ds,r,wf,hs,hf,q⟩;obtain⟨d,e,rfl,h1,h2⟩:=xR hs;replace hf:Xv [d,e]=some r:=hf;unfold Xv at hf;split at hf
 ·rename_i a b z;cases z;cases hf
  cases h1.int;cases h2.int;exact zfx pins s σ H _ _ v u Q I rx ry ⟨_,_,rfl,rfl,q _ H (.refl H) (.val (.int _))⟩
 ·rename_i a b z;cases z
  split at hf
  ·rename_i hl
   cases hf;obtain⟨p,xs,rfl,hp,rp⟩:=h1.lst;obtain⟨p2,xs2,rfl,hp2,rp2⟩:=h2.lst;cases rx;cases ry;obtain⟨its,rv,⟨⟨c1,d1,da1,sl1⟩,n,ho,hc,hdd,hd⟩,hz⟩:=I.list hp;obtain⟨its2,rv2,⟨⟨c2,d2,da2,sl2⟩,n2,ho2,hc2,hdd2,hd2⟩,hz2⟩:=I.list hp2;simp only at hc hd hdd hc2 hd2 hdd2;subst hc hd hdd hc2 hd2 hdd2;have l1:=rv.length;have l2:=rv2.length;have l3:=rp.length;have l4:=rp2.length;have le:=ZV;refine concat_meets ⟨_,ho,rfl⟩ ⟨_,ho2,rfl⟩ noFill_list_add seq_list_add PySem.F.slot_list_add PySem.F.entry_list_add (PySem.F.args_list_add_2 _ _) (list_addW p p2 its.toArray its2.toArray n n2 Option.none Option.none sl1 sl2 (by simp;omega)) ⟨ho,ho2,?_⟩;have e:its.toArray++its2.toArray=(its++its2).toArray:=by simp
   rw[e];exact⟨.ref _,_,I.lnew (t':=s.toks) (rv.append rv2) (by rw[List.length_append];omega),rfl,q _ _ (yQ I.fresh _) (vJ I.fresh (rp.append rp2))⟩
  ·cases hf
 ·cases hf
theorem vK:OpR X (binaryOp .Sub) (yL X.K (zh .sub)):=by
 rintro pins s σ H x y v u Q I rx ry ⟨W,ds,r,wf,hs,hf,q⟩;obtain⟨d,e,rfl,h1,h2⟩:=xR hs;replace hf:JS [d,e]=some r:=hf;unfold JS at hf;split at hf
 ·rename_i a b z;cases z;cases hf
  cases h1.int;cases h2.int;exact zfy pins s σ H _ _ v u Q I rx ry ⟨_,_,rfl,rfl,q _ H (.refl H) (.val (.int _))⟩
 ·cases hf
theorem jP:OpR X (binaryOp .Mult) (yL X.K (zh .mul)):=by
 rintro pins s σ H x y v u Q I rx ry ⟨W,ds,r,wf,hs,hf,q⟩;obtain⟨d,e,rfl,h1,h2⟩:=xR hs;replace hf:Xw [d,e]=some r:=hf;unfold Xw at hf;split at hf
 ·rename_i a b z;cases z
  split at hf
  ·rename_i hc
   cases hf;cases h1.int;cases h2.int;exact zfz pins s σ H _ _ v u Q I rx ry ⟨_,_,rfl,rfl,hc,q _ H (.refl H) (.val (.int _))⟩
  ·cases hf
 ·cases hf
theorem XS:OpR X (binaryOp .FloorDiv) (yL X.K (zh .fdiv)):=by
 rintro pins s σ H x y v u Q I rx ry ⟨W,ds,r,wf,hs,hf,q⟩;obtain⟨d,e,rfl,h1,h2⟩:=xR hs;replace hf:Xx [d,e]=some r:=hf;unfold Xx at hf;split at hf
 ·rename_i a b z;cases z
  split at hf
  ·rename_i hc
   cases hf;cases h1.int;cases h2.int;exact zfA pins s σ H _ _ v u Q I rx ry ⟨_,_,rfl,rfl,hc,q _ H (.refl H) (.val (.int _))⟩
  ·cases hf
 ·cases hf
theorem va:OpR X (binaryOp .Mod) (yL X.K (zh .mod)):=by
 rintro pins s σ H x y v u Q I rx ry ⟨W,ds,r,wf,hs,hf,q⟩;obtain⟨d,e,rfl,h1,h2⟩:=xR hs;replace hf:Xy [d,e]=some r:=hf;unfold Xy at hf;split at hf
 ·rename_i a b z;cases z
  split at hf
  ·rename_i hc
   cases hf;cases h1.int;cases h2.int;exact zfB pins s σ H _ _ v u Q I rx ry ⟨_,_,rfl,rfl,hc,q _ H (.refl H) (.val (.int _))⟩
  ·cases hf
 ·cases hf
theorem gZ{A:Around}(hu:A.units+64<cLine){d e:D}(h:zG 8 d=true):A.units+min (zU d).depth (zU e).depth<cLine:=by
 have h1:=(xJ 8 d h).2;have h2:min (zU d).depth (zU e).depth<=(zU d).depth:=Nat.min_le_left _ _;omega
theorem wM(hu:X.A.units+64<cLine):OpR X (compareOp .Eq) (yL X.K (zh .eq)):=by
 rintro pins s σ H x y v u Q I rx ry ⟨W,ds,r,wf,hs,hf,q⟩;obtain⟨d,e,rfl,h1,h2⟩:=xR hs;replace hf:ZO [d,e]=some r:=hf;simp only[ZO] at hf;split at hf
 ·rename_i hc
  rw[Bool.and_eq_true] at hc;cases hf;obtain⟨as,ra⟩:=h1.reads I hc.1 rx;obtain⟨bs,rb⟩:=h2.reads I hc.2 ry;refine SeqAt.compareEq_reads ra rb (xJ 8 d hc.1).1 (xJ 8 e hc.2).1 (gZ hu hc.1) ?_;rw[XO];exact⟨.bl _,H,I,rfl,q _ H (.refl H) (.val (.bl _))⟩
 ·cases hf
theorem XT(hu:X.A.units+64<cLine):OpR X (compareOp .NotEq) (yL X.K (zh .ne)):=by
 rintro pins s σ H x y v u Q I rx ry ⟨W,ds,r,wf,hs,hf,q⟩;obtain⟨d,e,rfl,h1,h2⟩:=xR hs;replace hf:ZP [d,e]=some r:=hf;simp only[ZP] at hf;split at hf
 ·rename_i hc
  rw[Bool.and_eq_true] at hc;cases hf;obtain⟨as,ra⟩:=h1.reads I hc.1 rx;obtain⟨bs,rb⟩:=h2.reads I hc.2 ry;refine SeqAt.compareNe_reads ra rb (xJ 8 d hc.1).1 (xJ 8 e hc.2).1 (gZ hu hc.1) ?_;rw[XO];exact⟨.bl _,H,I,rfl,q _ H (.refl H) (.val (.bl _))⟩
 ·cases hf
theorem XU{A:Around}(hu:A.units+64<cLine){d:D}{l:List PyData}(h:zG 8 d=true):A.units+1+min (PyData.depthAll l) (zU d).depth<cLine:=by
 have h1:=(xJ 8 d h).2;have h2:min (PyData.depthAll l) (zU d).depth<=(zU d).depth:=Nat.min_le_right _ _;omega
theorem zaa(hu:X.A.units+64<cLine):OpR X (compareOp .In) (yL X.K (zh .inn)):=by
 rintro pins s σ H x y v u Q I rx ry ⟨W,ds,r,wf,hs,hf,q⟩;obtain⟨d,e,rfl,h1,h2⟩:=xR hs;replace hf:jJ [d,e]=some r:=hf;unfold jJ at hf;split at hf
 ·rename_i x t ks vs z;cases z
  split at hf
  ·rename_i hk
   cases hf
   cases t with
   |false=>
    cases d with
    |int i=>
     cases h1.int;obtain⟨a,ns,ys,rfl,rfl,hH,hl,_⟩:=h2.dK;cases ry;exact gx (by omega) I (DGet.k (k:=.inl i) hH) rx fun s' I'=>⟨.bl _,H,I',rfl,q _ H (.refl H) (.val (by rw[Qn hl];exact .bl _))⟩
    |_=>simp[yK] at hk
   |true=>
    cases d with
    |tup l=>
     obtain⟨ms,hms⟩: ∃ms,ints? l=some ms:=by simp only[yK,Option.isSome_iff_exists] at hk;exact hk
     obtain⟨b,xs,rfl,hb,rp⟩:=h1.tupH;obtain⟨a,ns,ys,rfl,rfl,hH,hl,_⟩:=h2.dT;cases ry;have e1:=rp.ofInts hms;have e2:=jO hms;subst e1 e2;exact gx (by omega) I (DGet.t (k:=ms.map Sum.inl) hH (by rw[hb,XQ])) rx fun s' I'=>⟨.bl _,H,I',rfl,q _ H (.refl H) (.val (by rw[Qo hl];exact .bl _))⟩
    |_=>simp[yK] at hk
  ·cases hf
 ·rename_i d l z;cases z
  split at hf
  ·rename_i hc
   rw[Bool.and_eq_true] at hc;cases hf;obtain⟨as,ra⟩:=h1.reads I hc.1 rx;obtain⟨bs,rb⟩:=h2.readsT I hc.2 ry;simp only[zU] at rb;refine SeqAt.in_tuple_reads rb ra (jl (xJ 8) l hc.2).1 (xJ 8 d hc.1).1 (XU hu hc.1) ?_;rw[ZU];exact⟨.bl _,H,I,rfl,q _ H (.refl H) (.val (.bl _))⟩
  ·cases hf
 ·rename_i d l z;cases z
  split at hf
  ·rename_i hc
   rw[Bool.and_eq_true] at hc;cases hf;obtain⟨as,ra⟩:=h1.reads I hc.1 rx;obtain⟨bs,rb⟩:=h2.readsL I hc.2 ry;simp only[zU] at rb;refine SeqAt.in_list_reads rb ra (jl (xJ 8) l hc.2).1 (xJ 8 d hc.1).1 (XU hu hc.1) ?_;rw[ZU];exact⟨.bl _,H,I,rfl,q _ H (.refl H) (.val (.bl _))⟩
  ·cases hf
 ·cases hf
theorem XV(k:List (List Int)): ∀kvs:List (List (List Int)×Int),yt (wu kvs) k=(xx kvs k).map V.int
 |[]=>rfl
 |p::r=>by
  have ih:=XV k r;by_cases e:p.1=k
  ·have:yt (wu (p::r)) k=some (V.int p.2):=jf e
   rw[this];simp[xx,List.find?_cons,e]
  ·have:yt (wu (p::r)) k=yt (wu r) k:=jg e
   rw[this,ih];simp[xx,List.find?_cons,e]
theorem Qp{K:Ka}{W:Addr->Prop}{H:Hp}: ∀{ds:List D} {xs:List V} {kss:List (List Int)},Reps K W H ds xs->tups? ds=some kss->Paired (fun (ks:List Int) (v:V)=>∃c,v= .ref c/\H c=some (.tup (ks.map V.int))) kss xs
 |_,_,kss,.nil,e=>by simp[tups?] at e;subst e;exact .nil
 |_,_,kss,.cons (d:=d) h t,e=>by
  cases h with
  |tup hb r=>
   simp only[tups?,jo1,jo2] at e;obtain⟨x,e1,y,e2,rfl⟩:=e;have z:=r.ofInts e1;subst z;exact .cons ⟨_,rfl,hb⟩ (Qp t e2)
  |_=>simp[tups?] at e
theorem Sees.key2{K:Ka}{W:Addr->Prop}{H:Hp}{d:D}{v:V}{k:List (List Int)}(h:Sees K W H d v)(e:tup2? d=some k): ∃b,v= .ref b/\DKey H k b:=by
 unfold tup2? at e;split at e
 ·obtain⟨b,xs,rfl,hb,rp⟩:=h.tupH
  exact⟨b,rfl,xs,hb,Qp rp e⟩
 ·cases e
theorem zhn{pins:List (Addr×Obj)}{σ:St}{H:Hp}{s:Shared}{a b:Addr}{A:Around}{E:Value->Shared->Prop}{kvs:List (List (List Int)×V)}{k:List (List Int)}{Q:Value->Shared->Prop}(hu:A.units+2<cLine)(I:Inv X pins σ H s)(e:H a=some (.dD kvs))(eb:DKey H k b)
  (h: ∀s',Inv X pins σ H s'->Q (.bool (!(yt kvs k).isSome)) s'):wpAny (model X.prog X.w) A (compareOp .NotIn (.ref b) (.ref a)) Q E s:=by
 obtain⟨z,hd,xs,rel,dd⟩:=ZM I.hok e;refine wpAny_notIn_heap (show A.in1.units+1<cLine from hu) (Xs I.hok eb) hd dd ?_;have q:=(rel.val k).isSome_eq;rw[Option.isSome_map] at q;rw[<-q];exact h _ (I.tok _)
theorem zho{pins:List (Addr×Obj)}{σ:St}{H:Hp}{s:Shared}{a b:Addr}{v:V}{A:Around}{E:Value->Shared->Prop}{kvs:List (List (List Int)×V)}{k:List (List Int)}{Q:Value->Shared->Prop}(hu:A.units+2<cLine)(I:Inv X pins σ H s)(e:H a=some (.dD kvs))(eb:DKey H k b)(l:yt kvs k=some v)
  (h: ∀w' s',Inv X pins σ H s'->RelV v w'->Q w' s'):wpAny (model X.prog X.w) A (getItem (.ref a) (.ref b)) Q E s:=by
 obtain⟨z,hd,xs,rel,dd⟩:=ZM I.hok e;obtain⟨w',hw,rw'⟩:=RelO.some_of (v:=v) (o:=(atKey xs k).map (·.2)) (by rw[<-l];exact rel.val k);obtain⟨p,hp,hp2⟩:=jo2.mp hw;refine wpAny_getItem_heap (show A.in1.units+1<cLine from hu) (Xs I.hok eb) dd hp ?_;rw[hp2];exact h w' _ (I.tok _) rw'
theorem vL(hu:X.A.units+64<cLine):OpR X (compareOp .NotIn) (yL X.K (zh .nin)):=by
 rintro pins s σ H x y v u Q I rx ry ⟨W,ds,r,wf,hs,hf,q⟩;obtain⟨d,e,rfl,h1,h2⟩:=xR hs;replace hf:wH [d,e]=some r:=hf;unfold wH at hf;split at hf
 ·rename_i x t ks vs z;cases z
  split at hf
  ·rename_i hk
   cases hf
   cases t with
   |false=>
    cases d with
    |int i=>
     cases h1.int;obtain⟨a,ns,ys,rfl,rfl,hH,hl,_⟩:=h2.dK;cases ry;exact gy (by omega) I (DGet.k (k:=.inl i) hH) rx fun s' I'=>⟨.bl _,H,I',rfl,q _ H (.refl H) (.val (by rw[Qn hl];exact .bl _))⟩
    |_=>simp[yK] at hk
   |true=>
    cases d with
    |tup l=>
     obtain⟨ms,hms⟩: ∃ms,ints? l=some ms:=by simp only[yK,Option.isSome_iff_exists] at hk;exact hk
     obtain⟨b,xs,rfl,hb,rp⟩:=h1.tupH;obtain⟨a,ns,ys,rfl,rfl,hH,hl,_⟩:=h2.dT;cases ry;have e1:=rp.ofInts hms;have e2:=jO hms;subst e1 e2;exact gy (by omega) I (DGet.t (k:=ms.map Sum.inl) hH (by rw[hb,XQ])) rx fun s' I'=>⟨.bl _,H,I',rfl,q _ H (.refl H) (.val (by rw[Qo hl];exact .bl _))⟩
    |_=>simp[yK] at hk
  ·cases hf
 ·rename_i y kvs z;cases z
  rw[jo1] at hf;obtain⟨k,ek,hf⟩:=hf;cases hf;obtain⟨b,rfl,hb⟩:=h1.key2 ek;obtain⟨a,rfl,hH⟩:=h2.dD;cases rx;cases ry;exact zhn (by omega) I hH hb fun s' I'=>⟨.bl _,H,I',rfl,q _ H (.refl H) (.val (by rw[XV,Option.isSome_map];exact .bl _))⟩
 ·rename_i d l z;cases z
  split at hf
  ·rename_i hc
   rw[Bool.and_eq_true] at hc;cases hf;obtain⟨as,ra⟩:=h1.reads I hc.1 rx;obtain⟨bs,rb⟩:=h2.readsT I hc.2 ry;simp only[zU] at rb;refine SeqAt.notIn_tuple_reads rb ra (jl (xJ 8) l hc.2).1 (xJ 8 d hc.1).1 (XU hu hc.1) ?_;rw[ZU];exact⟨.bl _,H,I,rfl,q _ H (.refl H) (.val (.bl _))⟩
  ·cases hf
 ·rename_i d l z;cases z
  split at hf
  ·rename_i hc
   rw[Bool.and_eq_true] at hc;cases hf;obtain⟨as,ra⟩:=h1.reads I hc.1 rx;obtain⟨bs,rb⟩:=h2.readsL I hc.2 ry;simp only[zU] at rb;refine SeqAt.notIn_list_reads rb ra (jl (xJ 8) l hc.2).1 (xJ 8 d hc.1).1 (XU hu hc.1) ?_;rw[ZU];exact⟨.bl _,H,I,rfl,q _ H (.refl H) (.val (.bl _))⟩
  ·cases hf
 ·cases hf
theorem XW: ∀x y:List Int,LW.lexLt x y=HT.lexLt x y
 |[],[]=>rfl
 |[],_::_=>rfl
 |_::_,[]=>rfl
 |a::x,b::y=>by rw[HT.lexLt_cons,LW.lexLt,XW x y]
theorem XX(hu:X.A.units+64<cLine):OpR X (compareOp .Lt) (yL X.K (zh .lt)):=by
 rintro pins s σ H x y v u Q I rx ry ⟨W,ds,r,wf,hs,hf,q⟩;obtain⟨d,e,rfl,h1,h2⟩:=xR hs;replace hf:ZQ [d,e]=some r:=hf;unfold ZQ at hf;split at hf
 ·rename_i a b z;cases z;cases hf
  cases h1.int;cases h2.int;exact zfC pins s σ H _ _ v u Q I rx ry ⟨_,_,rfl,rfl,q _ H (.refl H) (.val (.bl _))⟩
 ·rename_i a b z;cases z
  simp only[jo1] at hf;obtain⟨ns,e1,ms,e2,hf⟩:=hf;cases hf;obtain⟨p,xs,rfl,hp,rp⟩:=h1.tup;obtain⟨p2,xs2,rfl,hp2,rp2⟩:=h2.tup;rw[rp.ofInts e1] at hp;rw[rp2.ofInts e2] at hp2;refine zgc (by omega) pins s σ H _ _ v u Q I rx ry ⟨_,_,ns,ms,rfl,rfl,hp,hp2,?_⟩;rw[<-XW];exact q _ H (.refl H) (.val (.bl _))
 ·cases hf
theorem XY:OpR X (compareOp .LtE) (yL X.K (zh .le)):=by
 rintro pins s σ H x y v u Q I rx ry ⟨W,ds,r,wf,hs,hf,q⟩;obtain⟨d,e,rfl,h1,h2⟩:=xR hs;replace hf:Xz [d,e]=some r:=hf;unfold Xz at hf;split at hf
 ·rename_i a b z;cases z;cases hf
  cases h1.int;cases h2.int;exact zfD pins s σ H _ _ v u Q I rx ry ⟨_,_,rfl,rfl,q _ H (.refl H) (.val (.bl _))⟩
 ·cases hf
theorem Qq:OpR X (compareOp .Gt) (yL X.K (zh .gt)):=by
 rintro pins s σ H x y v u Q I rx ry ⟨W,ds,r,wf,hs,hf,q⟩;obtain⟨d,e,rfl,h1,h2⟩:=xR hs;replace hf:XA [d,e]=some r:=hf;unfold XA at hf;split at hf
 ·rename_i a b z;cases z;cases hf
  cases h1.int;cases h2.int;exact zfE pins s σ H _ _ v u Q I rx ry ⟨_,_,rfl,rfl,q _ H (.refl H) (.val (.bl _))⟩
 ·cases hf
theorem zhp(hu:X.A.units<cLine){pins:List (Addr×Obj)}{s:Shared}{σ:St}{H:Hp}{a b:Addr}{ns ms:List Int}{Q:VK}(I:Inv X pins σ H s)(ha:SqT X.K H a (ns.map V.int))(hb:SqT X.K H b (ms.map V.int))(q:Q (.bl (!HT.lexLt ns ms)) H):
  wpAny (model X.prog X.w) X.A (compareOp .GtE (.ref a) (.ref b)) (EP X pins σ Q) X.xe s:=by
 obtain⟨its,r1,p1,_⟩:=I.tuple ha;obtain⟨its2,r2,p2,_⟩:=I.tuple hb;have i1:IntsAre its.toArray.toList ns:=je r1;have i2:IntsAre its2.toArray.toList ms:=je r2;exact HT.ge_tupInts p1 p2 i1 i2 hu ⟨.bl (!HT.lexLt ns ms),H,I,rfl,q⟩
theorem zhq(hu:X.A.units+64<cLine):OpR X (compareOp .GtE) (yL X.K (zh .ge)):=by
 rintro pins s σ H x y v u Q I rx ry ⟨W,ds,r,wf,hs,hf,q⟩;obtain⟨d,e,rfl,h1,h2⟩:=xR hs;replace hf:XB [d,e]=some r:=hf;unfold XB at hf;split at hf
 ·rename_i a b z;cases z;cases hf
  cases h1.int;cases h2.int;exact zfF pins s σ H _ _ v u Q I rx ry ⟨_,_,rfl,rfl,q _ H (.refl H) (.val (.bl _))⟩
 ·rename_i a b z;cases z
  simp only[jo1] at hf;obtain⟨ns,e1,ms,e2,hf⟩:=hf;cases hf;obtain⟨p,xs,rfl,hp,rp⟩:=h1.tup;obtain⟨p2,xs2,rfl,hp2,rp2⟩:=h2.tup;rw[rp.ofInts e1] at hp;rw[rp2.ofInts e2] at hp2;cases rx;cases ry;refine zhp (by omega) I hp hp2 ?_;rw[<-XW];exact q _ H (.refl H) (.val (.bl _))
 ·cases hf
theorem zab{K:Ka}{W:Addr->Prop}{H:Hp}{ds:List D}{xs:List V}{i:Int}{d:D}(r:Reps K W H ds xs)(h:LW.atI ds i=some d): ∃x,L2.atI xs i=some x/\Rep K W H d x:=by
 unfold LW.atI at h;unfold L2.atI;rw[jo1] at h;obtain⟨j,h1,h2⟩:=h;obtain⟨x,e,q⟩:=r.get h2;refine⟨x,?_,q⟩;rw[<-r.length];rw[jo1];exact⟨j,h1,e⟩
theorem zac{value slice:Expr}{pins:List (Addr×Obj)}{s:Shared}{σ:St}{H:Hp}{a:Addr}{y v:V}{u:Value}{Q:VK}(hu:X.A.units+64<cLine)(I:Inv X pins σ H s)(g:DGet H a y (some v))(ry:RelV y u)(q:Q v H)
  (hs:subscripted slice false (.ref a) u=operate [.ref a,u] (getItem (.ref a) u)):wpAny (model X.prog X.w) X.A (subscriptTail value slice (.ref a) u) (EP X pins σ Q) X.xe s:=by
 have hT:=zgy I g;unfold subscriptTail;refine Kb ?_;rw[getitemInPython_of_ne hT.not_modules];refine Kb (wpAny_specialOf hT PySem.F.slot_dict_getitem.lookup ?_)
 have fin:wpAny (model X.prog X.w) X.A (subscripted slice false (.ref a) u) (fun r s₃=>wpAny (model X.prog X.w) X.A (letTemporaryGo value (.ref a) r >>= fun _=>pure r) (EP X pins σ Q) X.xe s₃) X.xe s:=by
  rw[hs];refine wpAny_operating (Kd (zgv (Q:=EP X pins σ Q) (by omega) I g ry fun w' s' I' rv=>⟨v,H,I',rv,q⟩) (fun r s₃ h₃=>Kb (wpAny_letTemporaryGo (Kc h₃))) fun _ _ x=>x)
 first
  |exact Kc (Kb fin)
  |exact Kb (Kc (Kb fin))
  |exact Kc (Kb (Kc (Kb fin)))
  |exact Kb (Kb (Kc fin))
theorem zhr{value slice:Expr}{pins:List (Addr×Obj)}{s:Shared}{σ:St}{H:Hp}{a b:Addr}{v:V}{kvs:List (List (List Int)×V)}{k:List (List Int)}{Q:VK}(hu:X.A.units+64<cLine)(I:Inv X pins σ H s)(e:H a=some (.dD kvs))(eb:DKey H k b)(l:yt kvs k=some v)(q:Q v H)
  (hs:subscripted slice false (.ref a) (.ref b)=operate [.ref a,.ref b] (getItem (.ref a) (.ref b))):wpAny (model X.prog X.w) X.A (subscriptTail value slice (.ref a) (.ref b)) (EP X pins σ Q) X.xe s:=by
 have hT:s.TypeIs (.ref a) "dict":=by
  obtain⟨_,_,xs,_,dd⟩:=ZM I.hok e;exact dd.typeIs
 unfold subscriptTail;refine Kb ?_;rw[getitemInPython_of_ne hT.not_modules];refine Kb (wpAny_specialOf hT PySem.F.slot_dict_getitem.lookup ?_)
 have fin:wpAny (model X.prog X.w) X.A (subscripted slice false (.ref a) (.ref b)) (fun r s₃=>wpAny (model X.prog X.w) X.A (letTemporaryGo value (.ref a) r >>= fun _=>pure r) (EP X pins σ Q) X.xe s₃) X.xe s:=by
  rw[hs];refine wpAny_operating (Kd (zho (Q:=EP X pins σ Q) (by omega) I e eb l fun w' s' I' rv=>⟨v,H,I',rv,q⟩) (fun r s₃ h₃=>Kb (wpAny_letTemporaryGo (Kc h₃))) fun _ _ x=>x)
 first
  |exact Kc (Kb fin)
  |exact Kb (Kc (Kb fin))
  |exact Kc (Kb (Kc (Kb fin)))
  |exact Kb (Kb (Kc fin))
theorem zhs(hu:X.A.units+64<cLine):IxR X (yL X.K (zh .idx)):=by
 rintro value slice pins s σ H x y v u Q I rx ry ⟨W,ds,r,wf,hs,hf,q⟩ hsub;obtain⟨d,e,rfl,h1,h2⟩:=xR hs;replace hf:XD [d,e]=some r:=hf;unfold XD at hf;split at hf
 ·rename_i t ks vs k z;cases z
  split at hf
  ·rename_i hk
   rw[jo2] at hf;obtain⟨d',e1,rfl⟩:=hf
   cases t with
   |false=>
    cases e with
    |int i=>
     cases h2.int;obtain⟨a,ns,ys,rfl,rfl,hH,hl,rp⟩:=h1.dK;cases rx;obtain⟨y,e2,ry'⟩:=zhl hl rp e1;exact zac hu I (by rw[<-e2];exact DGet.k (k:=.inl i) hH) ry (q _ H (.refl H) (.val ry')) hsub
    |_=>simp[yK] at hk
   |true=>
    cases e with
    |tup l=>
     obtain⟨ms,hms⟩: ∃ms,ints? l=some ms:=by simp only[yK,Option.isSome_iff_exists] at hk;exact hk
     obtain⟨b,xs,rfl,hb,rpb⟩:=h2.tupH;obtain⟨a,ns,ys,rfl,rfl,hH,hl,rp⟩:=h1.dT;cases rx;have z1:=rpb.ofInts hms;have z2:=jO hms;subst z1 z2;obtain⟨y,e2,ry'⟩:=zhm hl rp e1;exact zac hu I (by rw[<-e2];exact DGet.t (k:=ms.map Sum.inl) hH (by rw[hb,XQ])) ry (q _ H (.refl H) (.val ry')) hsub
    |_=>simp[yK] at hk
  ·cases hf
 ·rename_i kvs x z;cases z
  rw[jo1] at hf;obtain⟨k,ek,hf⟩:=hf;rw[jo2] at hf;obtain⟨i,e1,rfl⟩:=hf;obtain⟨b,rfl,hb⟩:=h2.key2 ek;obtain⟨a,rfl,hH⟩:=h1.dD;cases rx;cases ry;exact zhr hu I hH hb (by rw[XV,e1];rfl) (q _ H (.refl H) (.val (.int i))) hsub
 ·rename_i l i z;cases z
  rw[jo2] at hf;obtain⟨d,e1,rfl⟩:=hf;obtain⟨p,xs,rfl,hp,rp⟩:=h1.tup;cases h2.int;obtain⟨z,e2,rz⟩:=zab rp e1;exact zgi value slice pins s σ H _ _ v u Q I rx ry ⟨p,xs,i,z,rfl,rfl,hp,e2,q _ H (.refl H) (.val rz)⟩ hsub
 ·rename_i l i z;cases z
  rw[jo2] at hf;obtain⟨d,e1,rfl⟩:=hf;obtain⟨p,xs,rfl,hp,rp⟩:=h1.lst;cases h2.int;obtain⟨z,e2,rz⟩:=zab rp e1;exact zgh value slice pins s σ H _ _ v u Q I rx ry ⟨p,xs,i,z,rfl,rfl,hp,e2,q _ H (.refl H) (.val rz)⟩ hsub
 ·cases hf
theorem vw:CallR X (.builtin "len") (VR X.K (zh .len)):=by
 rintro pins s σ H xs us Q I rv ⟨W,ds,r,wf,hs,hf,q⟩;replace hf:JT ds=some r:=hf;unfold JT at hf;split at hf
 ·cases hf
  cases hs with
  |cons h1 t=>
   cases t;obtain⟨p,ys,rfl,hp,rp⟩:=h1.tup;refine gk pins s σ H _ us Q I rv ⟨p,ys,rfl,.inr hp,?_⟩;rw[<-rp.length];exact q _ H (.refl H) (.val (.int _))
 ·cases hf
  cases hs with
  |cons h1 t=>
   cases t;obtain⟨p,ys,rfl,hp,rp⟩:=h1.lst;refine gk pins s σ H _ us Q I rv ⟨p,ys,rfl,.inl hp,?_⟩;rw[<-rp.length];exact q _ H (.refl H) (.val (.int _))
 ·cases hf
theorem jQ:CallR X (.builtin "abs") (VR X.K (zh .abs)):=by
 rintro pins s σ H xs us Q I rv ⟨W,ds,r,wf,hs,hf,q⟩;replace hf:JU ds=some r:=hf;unfold JU at hf;split at hf
 ·cases hf
  cases hs with
  |cons h1 t=>
   cases t;cases h1.int;exact zfL pins s σ H _ us Q I rv ⟨_,rfl,q _ H (.refl H) (.val (.int _))⟩
 ·cases hf
theorem zht(hc:X.calm=true):CallR X (.builtin "min") (VR X.K (zh .min2)):=by
 rintro pins s σ H xs us Q I rv ⟨W,ds,r,wf,hs,hf,q⟩;replace hf:JV ds=some r:=hf;unfold JV at hf;split at hf
 ·cases hf
  cases hs with
  |cons h1 t=>
   cases t with
   |cons h2 t=>
    cases t;cases h1.int;cases h2.int;exact zfN hc pins s σ H _ us Q I rv ⟨_,_,rfl,q _ H (.refl H) (.val (.int _))⟩
 ·cases hf
theorem zad(hc:X.calm=true):CallR X (.builtin "max") (VR X.K (zh .max2)):=by
 rintro pins s σ H xs us Q I rv ⟨W,ds,r,wf,hs,hf,q⟩;replace hf:JW ds=some r:=hf;unfold JW at hf;split at hf
 ·cases hf
  cases hs with
  |cons h1 t=>
   cases t with
   |cons h2 t=>
    cases t;cases h1.int;cases h2.int;exact zfM hc pins s σ H _ us Q I rv ⟨_,_,rfl,q _ H (.refl H) (.val (.int _))⟩
 ·cases hf
theorem zae:CallR X (.type "list") (VR X.K (zh .toList)):=by
 rintro pins s σ H xs us Q I rv ⟨W,ds,r,wf,hs,hf,q⟩;replace hf:JZ ds=some r:=hf;unfold JZ at hf;split at hf
 ·cases hf
  cases hs with
  |cons h1 t=>
   cases t;obtain⟨p,ys,rfl,hp,rp⟩:=h1.tup;exact gm pins s σ H _ us Q I rv ⟨p,ys,rfl,.inr hp,fun l hl=>q _ _ (yQ hl _) (vJ hl rp)⟩
 ·cases hf
  cases hs with
  |cons h1 t=>
   cases t;obtain⟨p,ys,rfl,hp,rp⟩:=h1.lst;exact gm pins s σ H _ us Q I rv ⟨p,ys,rfl,.inl hp,fun l hl=>q _ _ (yQ hl _) (vJ hl rp)⟩
 ·cases hf
theorem zaf:CallR X (.type "tuple") (VR X.K (zh .toTup)):=by
 rintro pins s σ H xs us Q I rv ⟨W,ds,r,wf,hs,hf,q⟩;replace hf:Qa ds=some r:=hf;unfold Qa at hf;split at hf
 ·cases hf
  cases hs with
  |cons h1 t=>
   cases t;obtain⟨p,ys,rfl,hp,rp⟩:=h1.tupH;exact gp pins s σ H _ us Q I rv ⟨p,ys,rfl,.inr ⟨.of hp,q _ H (.refl H) (.val (.tup hp rp))⟩⟩
 ·cases hf
  cases hs with
  |cons h1 t=>
   cases t;obtain⟨p,ys,rfl,hp,rp⟩:=h1.lst;exact gp pins s σ H _ us Q I rv ⟨p,ys,rfl,.inl ⟨hp,fun l hl=>q _ _ (yQ hl _) (Qk hl rp)⟩⟩
 ·cases hf
end
end L2.LW
set_option maxHeartbeats 4000000
namespace L2.LW
open PySem PySem.Spec PyProof.Rows
structure IE (X:Cx)(fn:Nat->List D->Option SV)(e:Expr)(c:E):Prop where
 h:PE X e (tE X.K fn c)
structure IA (X:Cx)(fn:Nat->List D->Option SV)(es:List Expr)(cs:Es):Prop where
 h:PA X es (gU X.K fn cs)
structure IT (X:Cx)(fn:Nat->List D->Option SV)(e:Expr)(c:E):Prop where
 h:PT X e (tT X.K fn c)
structure IW (X:Cx)(fn:Nat->List D->Option SV)(e:Expr)(c:E):Prop where
 h:PW X e (tT X.K fn c)
theorem Res.back{K:Ka}{W:Addr->Prop}{H H1 H2:Hp}{r:SV}{v:V}(h:Res K W H1 H2 r v)(s:Same H H1):Res K W H H2 r v:=by
 cases h with
 |val h=>exact .val h
 |new h e r=>exact .new (s.free h) e r
 |see h e r=>exact .see h e r
theorem R.wf'{K:Ka}{W:Addr->Prop}{ρ:LW.Env}{σ:St}{H H':Hp}(r:R K W ρ σ H)(s:Same H H'):Wf W H':=(r.same s).wf
theorem Qr{K:Ka}{W:Addr->Prop}{H:Hp}: ∀{rs:List SV} {vs:List V},Paired (Frz K W H) rs vs->Paired (Sees K W H) (rs.map zI) vs
 |_,_,.nil=>.nil
 |_,_,.cons h t=>.cons h.sees (Qr t)
theorem Qs{K:Ka}{W:Addr->Prop}{H:Hp}: ∀{rs:List SV} {vs:List V} {ds:List D},Paired (Frz K W H) rs vs->xD rs=some ds->Reps K W H ds vs
 |_,_,_,.nil,e=>by simp[xD] at e;subst e;exact .nil
 |_,_,_,.cons h t,e=>by
  simp only[xD,jo1,jo2] at e;obtain⟨d,e1,ds,e2,rfl⟩:=e;exact .cons (h.toD e1) (Qs t e2)
section
variable {es:List Expr} {env:PySem.Env}
theorem zf{a b}:starEach (.Name a b::es) env=(false,eval (.Name a b) env)::starEach es env:=rfl
theorem zv{a b c}:starEach (.Constant a b c::es) env=(false,eval (.Constant a b c) env)::starEach es env:=rfl
theorem yH{a b c d}:starEach (.BinOp a b c d::es) env=(false,eval (.BinOp a b c d) env)::starEach es env:=rfl
theorem yI{a b c d}:starEach (.Call a b c d::es) env=(false,eval (.Call a b c d) env)::starEach es env:=rfl
theorem yn{a b c}:starEach (.Subscript a b c::es) env=(false,eval (.Subscript a b c) env)::starEach es env:=rfl
theorem xj{a b c}:starEach (.Tuple a b c::es) env=(false,eval (.Tuple a b c) env)::starEach es env:=rfl
theorem zag{a b c}:starEach (.Dict a b c::es) env=(false,eval (.Dict a b c) env)::starEach es env:=rfl
theorem zah{a b}:starEach (.List a b::es) env=(false,eval (.List a b) env)::starEach es env:=rfl
theorem vM{a b c d}:starEach (.ListComp a b c d::es) env=(false,eval (.ListComp a b c d) env)::starEach es env:=rfl
theorem zu{pos:Pos}:(backTo pos (starEach [] env)).any (·.1)=false:=rfl
theorem zw{pos:Pos}{e:Expr}(h:starEach (e::es) env=(false,eval e env)::starEach es env)(t:(backTo pos (starEach es env)).any (·.1)=false):(backTo pos (starEach (e::es) env)).any (·.1)=false:=by
 rw[h];simpa [backTo] using t
theorem zai{a b}: ∀whole,isTrue (.Name a b) env whole=(do let v <-whole;standAt (Expr.Name a b).pos;holding [v] (truthy v)):=fun _=>rfl
theorem we{a b c d}: ∀whole,isTrue (.Call a b c d) env whole=(do let v <-whole;standAt (Expr.Call a b c d).pos;holding [v] (truthy v)):=fun _=>rfl
end
section
variable {X:Cx} {fn:Nat->List D->Option SV} {a b c e:Expr} {ca cb cc ce:E} {es:List Expr} {cs:Es} {pos p:Pos} {x:Str}
theorem IE.v(h:IE X fn e ce):PE X e (tV X.K fn ce):=h.h.imp fun σ H Q ⟨W,ρ,r,hR,he,q⟩=>⟨W,ρ,r,hR,he,fun v H' s x=>q v H' s (x.frz hR.wf)⟩
theorem zj{i:Int}{j:Nat}:IE X fn (.Constant (.int i) j pos) (.int i):=.mk <| zeV.imp fun σ H Q zz3=>by
 obtain⟨W,ρ,r,hR,he,q⟩:=zz3;simp only[gE] at he;cases he;exact q _ H (.refl H) (.val (.int i))
theorem wv{i:Bool}{j:Nat}:IE X fn (.Constant (.bool i) j pos) (.bl i):=.mk <| zeW.imp fun σ H Q zz3=>by
 obtain⟨W,ρ,r,hR,he,q⟩:=zz3;simp only[zgO] at he;cases he;exact q _ H (.refl H) (.val (.bl i))
theorem ze(i:Nat)(hN:X.N[i]? =some x)(hv:zq X.env.scope x)(hd:(x==("__debug__":Str))=false:=by decide)(hcd:(x==("__classdict__":Str))=false:=by decide):IE X fn (.Name x pos) (.var i):=
 .mk <| (jc hN hv hd hcd).imp fun σ H Q zz3=>by
  obtain⟨W,ρ,r,hR,he,q⟩:=zz3;simp only[zgP] at he;obtain⟨v,h1,_,h3⟩:=hR.look he;exact⟨v,h1,q v H (.refl H) h3⟩
theorem XZ{i:Int}{t:Tok}(hg:Gl X x)(hm:X.mg x=some (.int i t))(hd:(x==("__debug__":Str))=false:=by decide):IE X fn (.Name x pos) (.int i):=
 .mk <| (zeX hg hm (v:=.int i) ⟨t,rfl⟩ hd).imp fun σ H Q zz3=>by
  obtain⟨W,ρ,r,hR,he,q⟩:=zz3;simp only[gE] at he;cases he;exact q _ H (.refl H) (.val (.int i))
theorem zo:IA X fn [] .nil:=.mk <| vG.imp fun σ H Q zz3=>by
 obtain⟨W,ρ,rs,hR,he,q⟩:=zz3;simp only[wJ] at he;cases he;exact q _ H (.refl H) .nil
theorem zg(ha:IE X fn e ce)(hr:IA X fn es cs)(hs:starEach (e::es) X.env=(false,eval e X.env)::starEach es X.env:=by rfl):IA X fn (e::es) (.cons ce cs):=
 .mk <| (xU ha.v hr.h hs).imp fun σ H Q zz3=>by
  obtain⟨W,ρ,rs,hR,he,q⟩:=zz3;simp only[wK,jo1,jo2] at he;obtain⟨r,e1,rs',e2,rfl⟩:=he;exact⟨W,ρ,r,hR,e1,fun v H1 s1 f1=>⟨W,ρ,rs',hR.same s1,e2,fun vs H2 s2 f2=>q _ H2 (s1.trans s2) (.cons (f1.same s2) f2)⟩⟩
theorem Va{K:Ka}{p:Prim}{W:Addr->Prop}{ρ:LW.Env}{σ:St}{H H1:Hp}{Q:VK}{rs:List SV}{vs:List V}{r:SV}(hR:R K W ρ σ H)(s1:Same H H1)(f:Paired (Frz K W H1) rs vs)
  (e:zh p (rs.map zI)=some r) (q: ∀v H',Same H H'->Res K W H H' r v->Q v H'):VR K (zh p) vs H1 Q:=
 ⟨W,rs.map zI,r,hR.wf' s1,Qr f,e,fun v H' s2 h=>q v H' (s1.trans s2) (h.back s1)⟩
theorem Vb{K:Ka}{p:Prim}{ρ:LW.Env}{σ:St}{H:Hp}{Q:VK}{W:Addr->Prop}{r:SV}(hR:R K W ρ σ H)(he:zi fn (.prim p (.cons ca (.cons cb .nil))) ρ=some r)(q: ∀v H',Same H H'->Res K W H H' r v->Q v H'):
  ZK (yL K (zh p)) (tV K fn ca) (tV K fn cb) σ H Q:=by
 simp only[wY,wJ,wK,jo1,jo2] at he;obtain⟨rs,⟨r1,e1,rs',⟨r2,e2,rs'',e3,rfl⟩,rfl⟩,e4⟩:=he;cases e3;exact⟨W,ρ,r1,hR,e1,fun v1 H1 s1 f1=>⟨W,ρ,r2,hR.same s1,e2,fun v2 H2 s2 f2=>Va hR (s1.trans s2) (.cons (f1.same s2) (.cons f2 .nil)) e4 q⟩⟩
theorem zR{op:Operator}{pr:Prim}(ho:OpR X (binaryOp op) (yL X.K (zh pr)))(ha:IE X fn a ca)(hb:IE X fn b cb):IE X fn (.BinOp a op b pos) (.prim pr (.cons ca (.cons cb .nil))):=
 .mk <| (qH ho ha.v hb.v).imp fun σ H Q ⟨W,ρ,r,hR,he,q⟩=>Vb hR he q
theorem vN{op:CmpOp}{pr:Prim}(ho:OpR X (compareOp op) (yL X.K (zh pr)))(ha:IE X fn a ca)(hb:IE X fn b cb)(hm:behindInMarks op b=false):IE X fn (.Compare a [op] [b] pos) (.prim pr (.cons ca (.cons cb .nil))):=
 .mk <| (qJ ho ha.v hb.v hm).imp fun σ H Q ⟨W,ρ,r,hR,he,q⟩=>Vb hR he q
theorem yc(hu:X.A.units+64<cLine)(ha:IE X fn a ca)(hb:IE X fn b cb)(hs:gh b):IE X fn (.Subscript a b pos) (.prim .idx (.cons ca (.cons cb .nil))):=
 .mk <| (zge (zhs hu) ha.v hb.v hs).imp fun σ H Q ⟨W,ρ,r,hR,he,q⟩=>Vb hR he q
theorem zaj{K:Ka}{pr:Prim}{ρ:LW.Env}{σ:St}{H:Hp}{Q:VK}{W:Addr->Prop}{r:SV}(hR:R K W ρ σ H)(he:zi fn (.prim pr cs) ρ=some r)(q: ∀v H',Same H H'->Res K W H H' r v->Q v H'):
  JN (VR K (zh pr)) (gU K fn cs) σ H Q:=by
 simp only[wY,jo1] at he;obtain⟨rs,e1,e2⟩:=he;exact⟨W,ρ,rs,hR,e1,fun vs H1 s1 f=>Va hR s1 f e2 q⟩
theorem yY{id:String}{pr:Prim}(hc:CallR X (.builtin id) (VR X.K (zh pr)))(hg:Gl X x)(hm:X.mg x=none)(hv:bootBuiltins x=some (.builtin id))(ha:IA X fn (e::es) cs)(hn:x≠"__name__":=by decide)(hdb:(x==("__debug__":Str))=false:=by decide)
  (he:starEach (e::es) X.env=(false,eval e X.env)::starEach es X.env:=by rfl) (hpl:(backTo pos (starEach es X.env)).any (·.1)=false:=by rfl):IE X fn (.Call (.Name x p) (e::es) [] pos) (.prim pr cs):=
 .mk <| (Xr hc hg hm hv ha.h hn hdb he hpl).imp fun σ H Q ⟨W,ρ,r,hR,h,q⟩=>zaj hR h q
theorem Vc{T:String}{pr:Prim}(hc:CallR X (.type T) (VR X.K (zh pr)))(hg:Gl X x)(hm:X.mg x=none)(hv:bootBuiltins x=some (.type T))(ha:IA X fn (e::es) cs)(hn:x≠"__name__":=by decide)(hdb:(x==("__debug__":Str))=false:=by decide)
  (he:starEach (e::es) X.env=(false,eval e X.env)::starEach es X.env:=by rfl) (hpl:(backTo pos (starEach es X.env)).any (·.1)=false:=by rfl):IE X fn (.Call (.Name x p) (e::es) [] pos) (.prim pr cs):=
 .mk <| (qU hc hg hm hv ha.h hn hdb he hpl).imp fun σ H Q ⟨W,ρ,r,hR,h,q⟩=>zaj hR h q
theorem Qt{K:Ka}{W:Addr->Prop}{H:Hp}: ∀{rs:List SV} {ds:List D},xD rs=some ds->ds.length=rs.length
 |[],_,e=>by simp[xD] at e;subst e;rfl
 |r::rs,_,e=>by
  simp only[xD,jo1,jo2] at e;obtain⟨d,e1,ds,e2,rfl⟩:=e;simp[Qt (K:=K) (W:=W) (H:=H) e2]
noncomputable def ZW:Es->Nat
 | .nil=>0
 | .cons _ r=>ZW r+1
theorem Qu: ∀{cs:Es} {ρ:LW.Env} {rs:List SV},zZ fn cs ρ=some rs->rs.length=ZW cs
 | .nil,_,_,e=>by simp only[wJ] at e;cases e;rfl
 | .cons c cs,_,_,e=>by
  simp only[wK,jo1,jo2] at e;obtain⟨r,e1,rs',e2,rfl⟩:=e;simp[ZW,Qu e2]
theorem yM{k:Nat}(h:IA X fn es cs)(hl:ZW cs<=1000:=by decide):IE X fn (.Tuple es k pos) (.tup cs):=
 .mk <| (zfT h.h).imp fun σ H Q zz3=>by
  obtain⟨W,ρ,r,hR,he,q⟩:=zz3;simp only[zgQ,jo1,jo2] at he;obtain⟨rs,e1,ds,e2,rfl⟩:=he;refine⟨W,ρ,rs,hR,e1,fun vs H1 s1 f=>?_⟩;have r1:=Qs f e2;have l1:=r1.length;have l2:=Qt (K:=X.K) (W:=W) (H:=H) e2;have l3:=Qu e1;exact⟨Nat.le_of_lt (ZN (by omega)),fun p hp=>q _ _ (s1.trans (yQ hp _)) ((Qk hp r1).back s1)⟩
theorem vb(h:IA X fn es cs)(hl:ZW cs<=1000:=by decide):IE X fn (.List es pos) (.lst cs):=
 .mk <| (zfU h.h).imp fun σ H Q zz3=>by
  obtain⟨W,ρ,r,hR,he,q⟩:=zz3;simp only[zgR,jo1,jo2] at he;obtain⟨rs,e1,ds,e2,rfl⟩:=he;refine⟨W,ρ,rs,hR,e1,fun vs H1 s1 f=>?_⟩;have r1:=Qs f e2;have l1:=r1.length;have l2:=Qt (K:=X.K) (W:=W) (H:=H) e2;have l3:=Qu e1;exact⟨Nat.le_of_lt (ZN (by omega)),fun p hp=>q _ _ (s1.trans (yQ hp _)) ((vJ hp r1).back s1)⟩
theorem Vd{op:BoolOp}(h:IE X fn a ca):IE X fn (.BoolOp op [a] pos) ca:=.mk (qB h.h)
theorem jR{zK:List Expr}(ha:IE X fn a ca)(hb:IE X fn (.BoolOp .And (b::zK) pos) cb):IE X fn (.BoolOp .And (a::b::zK) pos) (.and ca cb):=
 .mk <| (ze7 ha.h hb.h).imp fun σ H Q zz3=>by
  obtain⟨W,ρ,r,hR,he,q⟩:=zz3;simp only[zgS,jo1] at he;obtain⟨r1,e1,e2⟩:=he;refine⟨W,ρ,r1,hR,e1,fun v H1 s1 f=>?_⟩;split at e2
  ·cases f with
   |val h=>
    cases h;exact⟨true,rfl,by rw[if_pos rfl];exact⟨W,ρ,r,hR.same s1,e2,fun v H2 s2 h=>q v H2 (s1.trans s2) (h.back s1)⟩⟩
  ·cases f with
   |val h=>
    cases h;cases e2;exact⟨false,rfl,by rw[if_neg Ko];exact q _ H1 s1 (.val (.bl false))⟩
  ·cases e2
theorem zhu{op op':CmpOp}{p q:Prim}(ho:OpR X (compareOp op) (yL X.K (zh p)))(ho':OpR X (compareOp op') (yL X.K (zh q)))(ha:IE X fn a ca)(hb:IE X fn b cb)(hc:IE X fn c cc)
  (hm:lastMarks [op,op'] [b,c]=false:=by with_unfolding_all rfl):IE X fn (.Compare a [op,op'] [b,c] pos) (.chain p q ca cb cc):=
 .mk <| (zfH ho ho' ha.v hb.v hc.v hm).imp fun σ H Q zz3=>by
  obtain⟨W,ρ,r,hR,he,hq⟩:=zz3;simp only[zgT,jo1] at he;obtain⟨r1,e1,r2,e2,z,e3,e4⟩:=he;refine⟨W,ρ,r1,hR,e1,fun v1 H1 s1 f1=>⟨W,ρ,r2,hR.same s1,e2,fun v2 H2 s2 f2=>?_⟩⟩;refine⟨W,_,z,hR.wf' (s1.trans s2),.cons (f1.same s2).sees (.cons f2.sees .nil),e3,fun v H3 s3 h3=>?_⟩;split at e4
  ·cases h3 with
   |val h3=>
    cases h3;simp only[jo1] at e4;obtain⟨r3,e5,e6⟩:=e4;refine⟨true,rfl,?_⟩;rw[if_pos rfl];have s13:=(s1.trans s2).trans s3;refine⟨W,ρ,r3,hR.same s13,e5,fun v4 H4 s4 f4=>?_⟩;exact⟨W,_,r,hR.wf' (s13.trans s4),.cons ((f2.same s3).same s4).sees (.cons f4.sees .nil),e6,fun v5 H5 s5 h5=>hq v5 H5 (s13.trans (s4.trans s5)) (h5.back (s13.trans s4))⟩
  ·cases h3 with
   |val h3=>
    cases h3;cases e4;exact⟨false,rfl,by rw[if_neg Ko];exact hq _ H3 ((s1.trans s2).trans s3) (.val (.bl false))⟩
  ·cases e4
theorem IW.t(h:IW X fn e ce):IT X fn e ce:=.mk (PW.pt h.h)
theorem zak(h:IT X fn a ca):IW X fn (.BoolOp .And [a] pos) ca:=.mk (ze2 h.h)
theorem jS(h:IT X fn a ca):IW X fn (.BoolOp .Or [a] pos) ca:=.mk (qz h.h)
theorem zal{zK:List Expr}(ha:IT X fn a ca)(hb:IW X fn (.BoolOp .And (b::zK) pos) cb):IW X fn (.BoolOp .And (a::b::zK) pos) (.and ca cb):=
 .mk <| (ze3 ha.h hb.h).imp fun σ H Q zz3=>by
  obtain⟨W,ρ,k,hR,he,q⟩:=zz3;simp only[zgU,jo1] at he;obtain⟨k1,e1,e2⟩:=he;refine⟨W,ρ,k1,hR,e1,fun H1 s1=>?_⟩
  cases k1 with
  |true=>rw[if_pos rfl] at e2⊢;exact⟨W,ρ,k,hR.same s1,e2,fun H2 s2=>q H2 (s1.trans s2)⟩
  |false=>rw[if_neg Ko] at e2⊢;cases e2;exact q H1 s1
theorem jo{zK:List Expr}(ha:IT X fn a ca)(hb:IW X fn (.BoolOp .Or (b::zK) pos) cb):IW X fn (.BoolOp .Or (a::b::zK) pos) (.or ca cb):=
 .mk <| (qA ha.h hb.h).imp fun σ H Q zz3=>by
  obtain⟨W,ρ,k,hR,he,q⟩:=zz3;simp only[zgV,jo1] at he;obtain⟨k1,e1,e2⟩:=he;refine⟨W,ρ,k1,hR,e1,fun H1 s1=>?_⟩
  cases k1 with
  |true=>rw[if_pos rfl] at e2⊢;cases e2;exact q H1 s1
  |false=>rw[if_neg Ko] at e2⊢;exact⟨W,ρ,k,hR.same s1,e2,fun H2 s2=>q H2 (s1.trans s2)⟩
theorem vc(ha:IT X fn a ca):IT X fn (.UnaryOp .Not a pos) (.not ca):=
 .mk <| (ze4 ha.h).imp fun σ H Q zz3=>by
  obtain⟨W,ρ,k,hR,he,q⟩:=zz3;simp only[zgW,jo2] at he;obtain⟨k1,e1,rfl⟩:=he;exact⟨W,ρ,k1,hR,e1,fun H1 s1=>q H1 s1⟩
noncomputable def Ve:Prim->Bool
 | .eq=>true| .ne=>true| .lt=>true| .le=>true| .gt=>true| .ge=>true| .inn=>true| .nin=>true
 |_=>false
theorem Vf{b:Bool}{r:SV}(h:yw b=some r):r= .val (.bl b):=by cases h;rfl
theorem zam{p:Prim}(hp:Ve p=true){ds:List D}{r:SV}(h:zh p ds=some r): ∃b,r= .val (.bl b):=by
 cases p<;>first|cases hp|skip
 all_goals
  simp only[zh] at h
  first|unfold ZO at h|unfold ZP at h|unfold ZQ at h|unfold Xz at h|unfold XA at h|unfold XB at h|unfold jJ at h|unfold wH at h
  split at h
  all_goals first
   |exact⟨_,Vf h⟩
   |cases h
   |(split at h<;>first|exact⟨_,Vf h⟩|cases h)
   |(simp only[jo1] at h;obtain⟨_,_,h⟩:=h;exact⟨_,Vf h⟩)
   |(simp only[jo1] at h;obtain⟨_,_,_,_,h⟩:=h;exact⟨_,Vf h⟩)
theorem yN{op:CmpOp}{pr:Prim}(hp:Ve pr=true)(ho:OpR X (compareOp op) (yL X.K (zh pr)))(ha:IE X fn a ca)(hb:IE X fn b cb)(hm:behindInMarks op b=false):IT X fn (.Compare a [op] [b] pos) (.prim pr (.cons ca (.cons cb .nil))):=
 .mk <| (zfG ho ha.v hb.v hm).imp fun σ H Q zz3=>by
  obtain⟨W,ρ,k,hR,he,q⟩:=zz3
  have he':(zi fn (.prim pr (.cons ca (.cons cb .nil))) ρ).bind ye=some k:=by
   rw[gH] at he;rw[wY];simp only[jo1] at he⊢;obtain⟨rs,e1,r,e2,e3⟩:=he;exact⟨r,⟨rs,e1,e2⟩,e3⟩
  rw[jo1] at he';obtain⟨r,e1,e2⟩:=he';have e1':=e1;rw[wY] at e1';simp only[jo1] at e1';obtain⟨rs,_,e3⟩:=e1';obtain⟨b,rfl⟩:=zam hp e3;simp only[ye] at e2;cases e2
  exact Vb hR e1 fun v H' s h=>by
   cases h with
   |val h=>cases h;exact⟨_,rfl,q H' s⟩
theorem zhv{op op':CmpOp}{p q:Prim}(hp:Ve p=true)(hq':Ve q=true)(ho:OpR X (compareOp op) (yL X.K (zh p)))(ho':OpR X (compareOp op') (yL X.K (zh q)))(ha:IE X fn a ca)(hb:IE X fn b cb)(hc:IE X fn c cc)
  (hm:lastMarks [op,op'] [b,c]=false:=by with_unfolding_all rfl):IT X fn (.Compare a [op,op'] [b,c] pos) (.chain p q ca cb cc):=
 .mk <| (zfI ho ho' ha.v hb.v hc.v hm).imp fun σ H Q zz3=>by
  obtain⟨W,ρ,k,hR,he,hq⟩:=zz3;simp only[zgY,jo1] at he;obtain⟨r1,e1,r2,e2,z,e3,e4⟩:=he;refine⟨W,ρ,r1,hR,e1,fun v1 H1 s1 f1=>⟨W,ρ,r2,hR.same s1,e2,fun v2 H2 s2 f2=>?_⟩⟩;refine⟨W,_,z,hR.wf' (s1.trans s2),.cons (f1.same s2).sees (.cons f2.sees .nil),e3,fun v H3 s3 h3=>?_⟩;split at e4
  ·cases h3 with
   |val h3=>
    cases h3;simp only[jo1] at e4;obtain⟨r3,e5,r4,e6,e7⟩:=e4;refine⟨true,rfl,?_⟩;rw[if_pos rfl];have s13:=(s1.trans s2).trans s3;refine⟨W,ρ,r3,hR.same s13,e5,fun v4 H4 s4 f4=>?_⟩;refine⟨W,_,r4,hR.wf' (s13.trans s4),.cons ((f2.same s3).same s4).sees (.cons f4.sees .nil),e6,fun v5 H5 s5 h5=>?_⟩;obtain⟨b5,rfl⟩:=zam hq' e6;simp only[ye] at e7;cases e7
    cases h5 with
    |val h5=>cases h5;exact⟨_,rfl,hq H5 (s13.trans (s4.trans s5))⟩
  ·cases h3 with
   |val h3=>
    cases h3;cases e4;exact⟨false,rfl,by rw[if_neg Ko];exact⟨false,rfl,hq H3 ((s1.trans s2).trans s3)⟩⟩
  ·cases e4
theorem zan{K:Ka}{W:Addr->Prop}{H:Hp}{r:SV}{v:V}{k:Bool}(f:Frz K W H r v)(h:ye r=some k):JK K v H k:=by
 unfold ye at h;split at h
 ·cases h;cases f with|val f=>cases f;rfl
 ·cases h;cases f with|val f=>cases f;rfl
 ·cases h;cases f with|val f=>cases f;rfl
 ·rename_i l
  cases h;obtain⟨a,xs,rfl,hq,rp⟩:=Frz.sees f |>.tup;refine .inr (.inl ⟨xs,hq,?_⟩);cases rp<;>rfl
 ·cases h
  obtain⟨a,xs,rfl,hq,rp⟩:=Frz.sees f |>.lst;refine .inl ⟨xs,hq,?_⟩;cases rp<;>rfl
 ·cases h
  obtain⟨a,xs,rfl,hq,rp⟩:=Frz.sees f |>.lst;refine .inl ⟨xs,hq,?_⟩;cases rp<;>rfl
 ·cases h
theorem xK(hE:IE X fn e ce)(hev: ∀ρ,zE fn ce ρ=(zi fn ce ρ).bind ye)(he: ∀whole,isTrue e X.env whole=(do let v <-whole;standAt e.pos;holding [v] (truthy v)):=by intro _;rfl):IT X fn e ce:=
 .mk <| (qN hE.v he).imp fun σ H Q zz3=>by
  obtain⟨W,ρ,k,hR,ht,q⟩:=zz3;rw[hev,jo1] at ht;obtain⟨r,e1,e2⟩:=ht;exact⟨W,ρ,r,hR,e1,fun v H1 s1 f=>⟨k,zan f e2,q H1 s1⟩⟩
theorem zao(i:Nat): ∀ρ,zE fn (.var i) ρ=(zi fn (.var i) ρ).bind ye:=fun ρ=>id rfl
theorem ZX(p:Prim)(cs:Es): ∀ρ,zE fn (.prim p cs) ρ=(zi fn (.prim p cs) ρ).bind ye:=fun ρ=>by rw[gH,wY,Option.bind_assoc]
theorem jp(f:Nat)(cs:Es): ∀ρ,zE fn (.call f cs) ρ=(zi fn (.call f cs) ρ).bind ye:=fun ρ=>by rw[zgZ,gF,Option.bind_assoc]
end
end L2.LW
set_option maxHeartbeats 4000000
namespace L2.LW
open PySem PySem.Spec PyProof.Rows
noncomputable def Qv(K:Ka)(fn:Nat->List D->Option SV)(i:Nat):Sp:=fun vs H Q _=>∃W ds r,Wf W H/\Reps K W H ds vs/\fn i ds=some r/\∀v H',Same H H'->Res K W H H' r v->Q v H'
structure ARep (K:Ka)(W:Addr->Prop)(H:Hp)(io:List Nat)(ds:List D)(vs:List V):Prop where
 len:ds.length=vs.length
 val: ∀(k:Nat) (d:D),ds[k]? =some d->k∉io->∃v,vs[k]? =some v/\Rep K W H d v
 obj: ∀(k:Nat) (d:D),ds[k]? =some d->k∈io->∃a o,vs[k]? =some (.ref a)/\W a/\H a=some o/\ORep K W H d o
 inj: ∀(j k:Nat) (a:Addr),j∈io->k∈io->vs[j]? =some (.ref a)->vs[k]? =some (.ref a)->j=k
noncomputable def ZY(io:List Nat)(vs:List V)(a:Addr):Prop:=∃k∈io,vs[k]? =some (.ref a)
noncomputable def Vg(K:Ka)(W:Addr->Prop)(H:Hp)(io:List Nat)(vs:List V)(outs:List D):Prop:=
 Paired (fun k d=>∃a o,vs[k]? =some (.ref a)/\H a=some o/\ORep K W H d o) io outs
noncomputable def zW(K:Ka)(fa:Nat->List D->Option Ans)(i:Nat)(io:List Nat):Sp:=fun vs H Q _=>∃W ds r outs,Wf W H/\ARep K W H io ds vs/\fa i ds=some (.ok r outs)/\
 ∀v H',(∀a o,H a=some o->¬ZY io vs a->H' a=some o)->Vg K W H' io vs outs->Res K W H H' r v->Q v H'
theorem Reps.get'{K:Ka}{W:Addr->Prop}{H:Hp}{ds:List D}{vs:List V}(r:Reps K W H ds vs):ARep K W H [] ds vs:=
 ⟨r.length,fun k d h _=>r.get h,fun k d _ h=>(by cases h),fun j k a h=>(by cases h)⟩
theorem zap{fa:Nat->List D->Option Ans}{i:Nat}{ds:List D}{r:SV}(h:zC fa i ds=some r):fa i ds=some (.ok r []):=by
 unfold zC at h;split at h
 ·rename_i r' e;cases h;exact e
 ·cases h
theorem zM{Pg:Program}{w:World}{K:Ka}{mg:Str->Option Value}{base:Heap}{k:Nat}{f:Addr}{fd:FuncData}{ps:List Str}{fa:Nat->List D->Option Ans}{i:Nat}{io:List Nat}
  (F:FnOk Pg w K mg base zA k f fd ps (zW K fa i io)) (h:io=[]):FnOk Pg w K mg base zA k f fd ps (Qv K (zC fa) i):=by
 subst h;exact F.imp fun vs H Q E ⟨W,ds,r,wf,rp,e,q⟩=>⟨W,ds,r,[],wf,rp.get',zap e,fun v H' k _ res=>q v H' (fun a o h=>k a o h fun ⟨_,z,_⟩=>by cases z) res⟩
theorem zaq{K:Ka}{W:Addr->Prop}{H:Hp}: ∀{rs:List SV} {vs:List V},Paired (Frz K W H) rs vs->rs.any SV.lent=false->Reps K W H (rs.map zI) vs
 |_,_,.nil,_=>.nil
 |_,_,.cons h t,e=>by
  simp only[List.any_cons,Bool.or_eq_false_iff] at e;refine .cons ?_ (zaq t e.2)
  cases h with
  |val h=>exact h
  |lis h e' r=>exact r.rep h e'
  |see h e' r=>simp[SV.lent] at e
theorem zar{K:Ka}{W:Addr->Prop}{H:Hp}: ∀{rs:List SV} {vs:List V},Paired (Frz K W H) rs vs->Reps K (fun _=>False) H (rs.map zI) vs
 |_,_,.nil=>.nil
 |_,_,.cons h t=>by
  refine .cons ?_ (zar t)
  cases h with
  |val h=>exact h.less fun _ z=>z.elim
  |lis h e' r=>exact (r.less fun _ z=>z.elim).rep (fun z=>z) e'
  |see h e' r=>exact (r.less fun _ z=>z.elim).rep (fun z=>z) e'
theorem Res.plain{K:Ka}{W W':Addr->Prop}{H H':Hp}{r:SV}{v:V}(h:Res K W' H H' r v)(wf: ∀a,W' a->W a)(p:r.plain=true):Res K W H H' r v:=by
 cases h with
 |val h=>exact .val (h.plain p)
 |new h e r=>exact .new h e (r.plain p)
 |see h e r=>exact .see (wf _ h) e (r.plain p)
section
variable {X:Cx} {fn:Nat->List D->Option SV} {fuel:Nat} {a b c e:Expr} {ca cb cc ce:E} {es:List Expr} {cs:Es} {pos p:Pos} {x:Str}
theorem zN{k:Nat}{f:Addr}{fd:FuncData}{ps:List Str}{i:Nat}(F:FnOk X.prog X.w X.K X.mg X.base zA k f fd ps (Qv X.K fn i))(hr:Room k X.A)(hg:Gl X x)(hm:X.mg x=some (.ref f))(hk:PySem.W.keepIn X.K (.ref f)=true)
  (hb:Binds X.K fd ps []) (ha:IA X fn (e::es) cs) (hdb:(x==("__debug__":Str))=false:=by decide) (he:starEach (e::es) X.env=(false,eval e X.env)::starEach es X.env:=by rfl)
  (hpl:(backTo pos (starEach es X.env)).any (·.1)=false:=by rfl):IE X fn (.Call (.Name x p) (e::es) [] pos) (.call i cs):=
 .mk <| (qO F hr hg hm hk hb .nil gB ha.h hdb he hpl).imp fun σ H Q zz3=>by
  obtain⟨W,ρ,r,hR,h,q⟩:=zz3;simp only[gF,jo1,wc] at h;obtain⟨rs,e1,r',e2,e3⟩:=h;split at e3
  ·cases e3
  ·rename_i hc
   cases e3;refine⟨W,ρ,rs,hR,e1,fun vs H1 s1 f=>?_⟩;show Qv X.K fn i (vs++[]) H1 Q E0;rw[List.append_nil]
   cases hl:rs.any SV.lent with
   |false=>exact⟨W,_,r,hR.wf' s1,zaq f hl,e2,fun v H' s2 h=>q v H' (s1.trans s2) (h.back s1)⟩
   |true=>
    have hp:r.plain=true:=by
     cases hp:r.plain with
     |true=>rfl
     |false=>exact KG (by rw[hl,hp];rfl) hc
    exact⟨fun _=>False,_,r,fun _ z=>z.elim,zar f,e2,fun v H' s2 h=>q v H' (s1.trans s2) ((h.plain (fun _ z=>z.elim) hp).back s1)⟩
section
variable {K:Ka} {W:Addr->Prop} {ρ:LW.Env} {σ:St} {H H':Hp} {i j:Nat} {d:D} {v:V}
theorem yJ{α:Type}{l:List α}{i j:Nat}{x y:α}(h:(l.set i x)[j]? =some y):(i=j/\y=x/\j<l.length)\/(i≠j/\l[j]? =some y):=by
 rw[List.getElem?_set] at h;split at h
 ·rename_i e
  subst e;split at h
  ·cases h;exact .inl ⟨rfl,rfl,by assumption⟩
  ·cases h
 ·exact .inr ⟨by assumption,h⟩
theorem vO{α:Type}{l:List α}{i:Nat}{x:α}(h:i<l.length):(l.set i x)[i]? =some x:=by simp[h]
theorem xn{α:Type}{l:List α}{i j:Nat}{x:α}(h:i≠j):(l.set i x)[j]? =l[j]? :=List.getElem?_set_ne h
theorem R.set_val(r:R K W ρ σ H)(h:Rep K W H d v):R K W (ρ.set i (some (.val d))) (σ.set i (some v)) H:=by
 refine⟨fun j e hj=>?_,fun j e hj=>?_,fun j x e hj hc=>?_,fun j k x y e1 e2 a h1 h2 c1 c2 h3 h4=>?_,r.wf,by simpa using r.len⟩
 ·rcases yJ hj with ⟨rfl,z,hl⟩|⟨n,z⟩
  ·cases z
   exact⟨v,vO (by rw[<-r.len];exact hl),h⟩
  ·obtain⟨u,h1,h2⟩:=r.val j e z
   exact⟨u,by rw[xn n];exact h1,h2⟩
 ·rcases yJ hj with ⟨rfl,z,hl⟩|⟨n,z⟩
  ·cases z
  ·exact r.nol j e z
 ·rcases yJ hj with ⟨rfl,z,hl⟩|⟨n,z⟩
  ·cases z;cases hc
  ·obtain⟨a,o,h1,h2⟩:=r.own j x e z hc
   exact⟨a,o,by rw[xn n];exact h1,h2⟩
 ·rcases yJ h1 with ⟨rfl,z,hl⟩|⟨n,z⟩
  ·cases z;cases c1
  ·rcases yJ h2 with ⟨rfl,z',hl⟩|⟨n',z'⟩
   ·cases z';cases c2
   ·rw[xn n] at h3
    rw[xn n'] at h4;exact r.inj j k x y e1 e2 a z z' c1 c2 h3 h4
theorem zhw{a:Addr}(h:xG (ρ.set i (some (.val d))) (σ.set i (some v)) a):xG ρ σ a:=by
 obtain⟨j,x,e,h1,hc,h2⟩:=h;rcases yJ h1 with ⟨rfl,z,hl⟩|⟨n,z⟩
 ·cases z;cases hc
 ·rw[xn n] at h2
  exact⟨j,x,e,z,hc,h2⟩
theorem ZZ{x:SV}(hx: ∀d,x≠ .io d)(hf: ¬xz ρ i)(j:Nat):(xz (ρ.set i (some x)) j↔xz ρ j)/\(xz ρ j->i≠j):=by
 refine⟨⟨fun ⟨d,h⟩=>?_,fun ⟨d,h⟩=>?_⟩,fun h e=>hf (by rw[e];exact h)⟩
 ·rcases yJ h with ⟨rfl,z,hl⟩|⟨n,z⟩
  ·cases z;exact KG rfl (hx d)
  ·exact⟨d,z⟩
 ·exact⟨d,by rw[xn (fun e=>hf (by rw[e];exact⟨d,h⟩))];exact h⟩
theorem jT(r:R K W ρ σ H)(s:Same H H')(h:Rep K W H' d v)(hf: ¬xz ρ i):SPost K W ρ σ H W (ρ.set i (some (.val d))) (σ.set i (some v)) H':=
 ⟨(r.same s).set_val h,fun a o q _=>s a o q,fun a w=>.inl w,fun a w n=>⟨w,fun z=>n (zhw z)⟩,fun j=>⟨(ZZ (x:=.val d) (fun _ z=>(nomatch z)) hf j).1,fun z=>xn ((ZZ (x:=.val d) (fun _ z=>(nomatch z)) hf j).2 z)⟩⟩
theorem zhx{a:Addr}(wf:Wf W H)(s:Same H H'){o:HO}(e:H' a=some o):Wf (add W a) H':=fun b w=>by
 rcases w with w|rfl
 ·cases q:H b with
  |none=>exact KG q (wf b w)
  |some u=>rw[s b u q];exact fun z=>nomatch z
 ·rw[e];exact fun z=>nomatch z
theorem Vh{a:Addr}(s:Same H H')(h:H a=Option.none):Ext W H (add W a) H':=
 ⟨fun b o q _=>s b o q,fun b xs q=>s b _ q,fun b o u q=>s b _ q,fun b w=>by
  rcases w with w|rfl
  ·exact .inl w
  ·exact .inr h⟩
theorem R.add{a:Addr}{o:HO}(r:R K W ρ σ H)(s:Same H H')(h:H a=Option.none)(e:H' a=some o):R K (LW.add W a) ρ σ H':=by
 refine⟨fun j d hj=>?_,r.nol,fun j x d hj hc=>?_,r.inj,zhx r.wf s e,r.len⟩
 ·obtain⟨u,h1,h2⟩:=r.val j d hj
  exact⟨u,h1,h2.ext (Vh s h)⟩
 ·obtain⟨b,o,h1,h2,h3,h4⟩:=r.own j x d hj hc
  exact⟨b,o,h1,.inl h2,s _ _ h3,h4.ext (Vh s h)⟩
theorem R.noOwn{a:Addr}(r:R K W ρ σ H)(h:H a=Option.none): ¬xG ρ σ a:=fun z=>by
 obtain⟨_,o,d,e,_⟩:=r.ownW z;rw[h] at e;cases e
theorem zas{a:Addr}{o:HO}(r:R K W ρ σ H)(s:Same H H')(h:H a=Option.none)(e:H' a=some o)(rp:ORep K (LW.add W a) H' d o)(hf: ¬xz ρ i):
  SPost K W ρ σ H (LW.add W a) (ρ.set i (some (.obj true d))) (σ.set i (some (.ref a))) H':=by
 have ra:=r.add s h e
 refine⟨⟨fun j d hj=>?_,fun j d hj=>?_,fun j x es hj hc=>?_,fun j k x y e1 e2 b h1 h2 c1 c2 h3 h4=>?_,ra.wf,by simpa using r.len⟩,fun b o q _=>s b o q,(Vh (W:=W) s h).win,fun b w n=>⟨.inl w,fun z=>?_⟩,
  fun j=>⟨(ZZ (x:=.obj true d) (fun _ z=>(nomatch z)) hf j).1,fun z=>xn ((ZZ (x:=.obj true d) (fun _ z=>(nomatch z)) hf j).2 z)⟩⟩
 ·rcases yJ hj with ⟨rfl,z,hl⟩|⟨n,z⟩
  ·cases z
  ·obtain⟨u,h1,h2⟩:=ra.val j d z
   exact⟨u,by rw[xn n];exact h1,h2⟩
 ·rcases yJ hj with ⟨rfl,z,hl⟩|⟨n,z⟩
  ·cases z
  ·exact r.nol j d z
 ·rcases yJ hj with ⟨rfl,z,hl⟩|⟨n,z⟩
  ·cases z;cases hc
   exact⟨a,o,vO (by rw[<-r.len];exact hl),.inr rfl,e,rp⟩
  ·obtain⟨b,ys,h1,h2⟩:=ra.own j x es z hc
   exact⟨b,ys,by rw[xn n];exact h1,h2⟩
 ·have other: ∀{k:Nat} {x:SV} {e:D},ρ[k]? =some (some x)->x.cell=some e->σ[k]? =some (some (.ref a))->False:=fun {k x e} q1 q3 q2=>r.noOwn h ⟨k,x,e,q1,q3,q2⟩
  rcases yJ h1 with ⟨rfl,z,hl⟩|⟨n,z⟩
  ·rcases yJ h2 with ⟨rfl,_,_⟩|⟨n',z'⟩
   ·rfl
   ·rw[vO (by rw[<-r.len];exact hl)] at h3
    cases h3;rw[xn n'] at h4;exact (other z' c2 h4).elim
  ·rcases yJ h2 with ⟨rfl,z',hl⟩|⟨n',z'⟩
   ·rw[vO (by rw[<-r.len];exact hl)] at h4
    cases h4;rw[xn n] at h3;exact (other z c1 h3).elim
   ·rw[xn n] at h3
    rw[xn n'] at h4;exact r.inj j k x y e1 e2 b z z' c1 c2 h3 h4
 ·obtain⟨j,x,es,h1,hc,h2⟩:=z
  rcases yJ h1 with ⟨rfl,_,hl⟩|⟨n',z'⟩
  ·rw[vO (by rw[<-r.len];exact hl)] at h2
   cases h2;exact r.wf _ w h
  ·rw[xn n'] at h2
   exact n ⟨j,x,es,z',hc,h2⟩
noncomputable def Vi(W:Addr->Prop)(a:Addr):Addr->Prop:=fun b=>W b/\b≠a
theorem Qw{a:Addr}: ∀b,Vi W a b->W b:=fun _ h=>h.1
theorem Qx{a:Addr}{o:Bool}(r:R K W ρ σ H)(h:ρ[j]? =some (some (.obj o d)))(h':σ[j]? =some (some (.ref a))):
  SPost K W ρ σ H (Vi W a) (ρ.set j (some (.val d))) σ H/\Rep K (Vi W a) H d (.ref a):=by
 cases o with
 |false=>exact KG h (r.nol j d)
 |true=>
 obtain⟨a',o,e1,e2,e3,e4⟩:=r.own j _ d h rfl;rw[h'] at e1;cases e1;have rp:Rep K (Vi W a) H d (.ref a):=(e4.less Qw).rep (fun z=>z.2 rfl) e3;have nio: ¬xz ρ j:=fun ⟨d',z⟩=>by rw[h] at z;cases z
 refine⟨⟨⟨fun k d' hk=>?_,fun k d' hk=>?_,fun k x es hk hc=>?_,fun k l x y e1 e2 b h1 h2 c1 c2 h3 h4=>?_,fun b w=>r.wf b w.1,by simpa using r.len⟩,fun b o q _=>q,fun b w=>.inl w.1,fun b w n=>⟨⟨w,fun z=>?_⟩,fun z=>?_⟩,
  fun k=>⟨(ZZ (x:=.val d) (fun _ z=>(nomatch z)) nio k).1,fun _=>rfl⟩⟩,rp⟩
 ·rcases yJ hk with ⟨rfl,z,hl⟩|⟨n,z⟩
  ·cases z;exact⟨_,h',rp⟩
  ·obtain⟨u,h1,h2⟩:=r.val k d' z
   exact⟨u,h1,h2.less Qw⟩
 ·rcases yJ hk with ⟨rfl,z,hl⟩|⟨n,z⟩
  ·cases z
  ·exact r.nol k d' z
 ·rcases yJ hk with ⟨rfl,z,hl⟩|⟨n,z⟩
  ·cases z;cases hc
  ·obtain⟨b,ys,h1,h2,h3,h4⟩:=r.own k x es z hc
   refine⟨b,ys,h1,⟨h2,fun z'=>?_⟩,h3,h4.less Qw⟩;subst z';exact n (r.inj j k _ x d es b h z rfl hc h' h1)
 ·rcases yJ h1 with ⟨rfl,z,hl⟩|⟨n,z⟩
  ·cases z;cases c1
  ·rcases yJ h2 with ⟨rfl,z',hl⟩|⟨n',z'⟩
   ·cases z';cases c2
   ·exact r.inj k l x y e1 e2 b z z' c1 c2 h3 h4
 ·subst z
  exact n ⟨j,_,d,h,rfl,h'⟩
 ·obtain⟨k,x,es,h1,hc,h2⟩:=z
  rcases yJ h1 with ⟨rfl,z,hl⟩|⟨n',z⟩
  ·cases z;cases hc
  ·exact n ⟨k,x,es,z,hc,h2⟩
theorem zat(x:SV)(d:D):(x.put d).cell=some d:=by cases x<;>rfl
theorem zau(x:SV)(d d':D):x.put d≠ .val d':=by cases x<;>exact fun z=>nomatch z
theorem zav(x:SV)(d d':D):x.put d≠ .obj false d':=by
 cases x<;>intro z<;>first|cases z|(simp[SV.put] at z)
theorem Vj{x:SV}{d:D}:(∃d',x.put d= .io d')↔∃d',x= .io d':=by
 cases x with
 |io y=>exact⟨fun _=>⟨_,rfl⟩,fun _=>⟨_,rfl⟩⟩
 |_=>exact⟨fun ⟨_,z⟩=>(nomatch z),fun ⟨_,z⟩=>(nomatch z)⟩
theorem Vk{a:Addr}{x:SV}{d0 d':D}{o o':HO}(r:R K W ρ σ H)(h:ρ[i]? =some (some x))(hc:x.cell=some d0)(h':σ[i]? =some (some (.ref a)))(s:Same H H')(e:H' a=some o)(hk:(∀xs,o≠ .tup xs)/\(∀b u,o≠ .frz b u))
  (rp:ORep K W H' d' o'):SPost K W ρ σ H W (ρ.set i (some (x.put d'))) σ (zL H' a o'):=by
 have r':=r.same s;have hO:xG ρ σ a:=⟨i,x,d0,h,hc,h'⟩;have hW:W a:=(r.ownW hO).1
 have ext:Ext W H' W (zL H' a o'):=by
  refine⟨fun b o q n=>?_,fun b ys q=>?_,fun b o u q=>?_,fun b w=>.inl w⟩
  ·rw[yp (fun z=>n (by rw[z];exact hW))];exact q
  ·rw[yp (fun z=>by rw[z,e] at q;cases q;exact hk.1 _ rfl)];exact q
  ·rw[yp (fun z=>by rw[z,e] at q;cases q;exact hk.2 _ _ rfl)];exact q
 have old: ∀{k:Nat} {y:SV} {es:D},(ρ.set i (some (x.put d')))[k]? =some (some y)->y.cell=some es->∃y' es',ρ[k]? =some (some y')/\y'.cell=some es':=fun {k y es} q c=>by
  rcases yJ q with ⟨rfl,_,_⟩|⟨_,z⟩
  ·exact⟨_,_,h,hc⟩
  ·exact⟨_,_,z,c⟩
 refine⟨⟨fun k d' hk=>?_,fun k d' hk=>?_,fun k y es hk hc'=>?_,fun k l x y e1 e2 b h1 h2 c1 c2 h3 h4=>?_,fun b w=>?_,by simpa using r.len⟩,fun b o q n=>?_,fun b w=>.inl w,fun b w n=>⟨w,fun z=>?_⟩,fun j=>⟨?_,fun _=>rfl⟩⟩
 ·rcases yJ hk with ⟨rfl,z,hl⟩|⟨n,z⟩
  ·exact KG (Kp z).symm (zau _ _ _)
  ·obtain⟨u,h1,h2⟩:=r'.val k d' z
   exact⟨u,h1,h2.ext ext⟩
 ·rcases yJ hk with ⟨rfl,z,hl⟩|⟨n,z⟩
  ·exact KG (Kp z).symm (zav _ _ _)
  ·exact r.nol k d' z
 ·rcases yJ hk with ⟨rfl,z,hl⟩|⟨n,z⟩
  ·cases z
   rw[zat] at hc';cases hc';exact⟨a,_,h',hW,xI,rp.ext ext⟩
  ·obtain⟨b,ys,h1,h2,h3,h4⟩:=r'.own k y es z hc'
   refine⟨b,ys,h1,h2,?_,h4.ext ext⟩;rw[yp (fun z'=>by subst z';exact n (r.inj i k x y d0 es b h z hc hc' h' h1))];exact h3
 ·obtain⟨_,_,z1,w1⟩:=old h1 c1
  obtain⟨_,_,z2,w2⟩:=old h2 c2;exact r.inj k l _ _ _ _ b z1 z2 w1 w2 h3 h4
 ·by_cases z:b=a
  ·subst z;rw[xI];exact fun z=>nomatch z
  ·rw[yp z];exact r'.wf b w
 ·rw[yp (fun z=>n (by rw[z];exact hO))]
  exact s b o q
 ·obtain⟨k,y,es,h1,hc',h2⟩:=z
  obtain⟨_,_,z,w⟩:=old h1 hc';exact n ⟨k,_,_,z,w,h2⟩
 ·by_cases e:i=j
  ·subst e
   have hl:i<ρ.length:=by
    obtain⟨z,_⟩:=List.getElem?_eq_some_iff.mp h;exact z
   constructor
   ·rintro⟨d',z⟩
    rw[vO hl] at z;have z:=Kp (Kp z);obtain⟨d2,w⟩:=Vj.mp ⟨d',z⟩;exact⟨d2,by rw[h,w]⟩
   ·rintro⟨d2,z⟩
    rw[h] at z;obtain⟨d3,w⟩:=Vj (d:=d').mpr ⟨d2,Kp (Kp z)⟩;exact⟨d3,by rw[vO hl,w]⟩
  ·unfold xz;rw[xn e]
end
theorem Ret.back{K:Ka}{W W1 W2:Addr->Prop}{ρ ρ1:LW.Env}{σ σ1:St}{H H1 H2:Hp}{r:SV}{v:V}(p:SPost K W ρ σ H W1 ρ1 σ1 H1)(h:Ret K W1 ρ1 σ1 W2 H2 r v):Ret K W ρ σ W2 H2 r v:=by
 cases h with
 |val h=>exact .val h
 |new h n n' e r=>exact .new h (fun ⟨w,z⟩=>n (p.wout _ w z)) (fun ⟨i,z1,z2⟩=>n' ⟨i,(p.io i).1.mpr z1,by rw[(p.io i).2 z1];exact z2⟩) e r
theorem FlOk.back{K:Ka}{W W1 W2:Addr->Prop}{ρ ρ1 ρ2:LW.Env}{σ σ1 σ2:St}{H H1 H2:Hp}{D:Ends}{fl:Fl}(p:SPost K W ρ σ H W1 ρ1 σ1 H1)(h:FlOk K W ρ σ W2 ρ2 σ2 H2 D fl):FlOk K W1 ρ1 σ1 W2 ρ2 σ2 H2 D fl:=by
 cases fl with
 |rt r=>exact fun v q=>h v (q.back p)
 |_=>exact h
structure IS (X:Cx)(ex:LW.Env->Option (Fl×LW.Env))(st:Stmt):Prop where
 h:PS X st (ZT X.K ex)
structure ISs (X:Cx)(ex:LW.Env->Option (Fl×LW.Env))(st:List Stmt):Prop where
 h:PSs X st (ZT X.K ex)
variable {fa:Nat->List D->Option Ans} {st:Stmt} {sts:List Stmt} {s:S} {ss s1 s2:Ss}
theorem zx:ISs X (zp fa fuel .nil) []:=.mk <| zfc.imp fun D σ H zz3=>by
 obtain⟨W,ρ,x,hR,hx,q⟩:=zz3;simp only[zhc] at hx;cases hx;exact q W σ H (.same hR (.refl H))
theorem zl(h1:IS X (zJ fa fuel s) st)(h2:ISs X (zp fa fuel ss) sts):ISs X (zp fa fuel (.cons s ss)) (st::sts):=
 .mk <| (zfd h1.h h2.h).imp fun D σ H zz3=>by
  obtain⟨W,ρ,x,hR,hx,q⟩:=zz3;simp only[zhd,jo1] at hx;obtain⟨⟨fl,ρ1⟩,e1,e2⟩:=hx;refine⟨W,ρ,(fl,ρ1),hR,e1,fun W1 σ1 H1 p1=>?_⟩
  cases fl with
  |nx=>exact⟨W1,ρ1,x,p1.r,e2,fun W2 σ2 H2 p2=>FlOk.back p1 (q W2 σ2 H2 (p1.trans p2 hR))⟩
  |br=>cases e2;exact q W1 σ1 H1 p1
  |ct=>cases e2;exact q W1 σ1 H1 p1
  |rt r=>cases e2;exact q W1 σ1 H1 p1
theorem Vl(he:IE X (zC fa) e ce)(hs:swapsWith e Option.none pos.line X.env=pure false:=by rfl):IS X (zJ fa fuel (.expr ce)) (.Expr e pos):=
 .mk <| (JC he.h hs).imp fun D σ H zz3=>by
  obtain⟨W,ρ,x,hR,hx,q⟩:=zz3;simp only[zg1,jo2] at hx;obtain⟨r,e1,rfl⟩:=hx;exact⟨W,ρ,r,hR,e1,fun v H1 s1 _=>q W σ H1 (.same hR s1)⟩
theorem yy(i:Nat){pos':Pos}(hN:X.N.Nodup)(hi:X.N[i]? =some x)(hx:zQ X.env.scope x)(he:IE X (zC fa) e ce)(hs:swapsWith e (some (.Name x pos')) pos.line X.env=pure false:=by rfl)
  (hf:X.fn x=true\/X.env.scope.names.lookup x=some .local:=by first|exact .inl rfl|exact .inr rfl|assumption):IS X (zJ fa fuel (.asg i ce)) (.Assign [.Name x pos'] e pos):=
 .mk <| (JG hN hi hx he.h hs hf).imp fun D σ H zz3=>by
  obtain⟨W,ρ,y,hR,hy,q⟩:=zz3;simp only[gM,jo1] at hy;obtain⟨r,e1,e2⟩:=hy;split at e2
  ·cases e2
  ·rename_i hl
   cases e2;simp only[Bool.not_eq_true,Bool.or_eq_false_iff,Bool.not_eq_false'] at hl;refine⟨W,ρ,r,hR,e1,fun v H1 s1 h=>?_⟩
   cases h with
   |val h=>exact q W _ H1 (jT hR s1 h (vv hl.2))
   |new h e r=>exact q _ _ H1 (zas hR s1 h e r (vv hl.2))
   |see h e r=>simp[SV.lent] at hl
theorem zaw(i j:Nat){y:Str}{pos':Pos}(hN:X.N.Nodup)(hi:X.N[i]? =some x)(hx:zQ X.env.scope x)(hj:X.N[j]? =some y)(hv:zq X.env.scope y)(hs:swapsWith (.Name y p) (some (.Name x pos')) pos.line X.env=pure false:=by rfl)
  (hf:X.fn x=true\/X.env.scope.names.lookup x=some .local:=by first|exact .inl rfl|exact .inr rfl|assumption) (hd:(y==("__debug__":Str))=false:=by decide) (hcd:(y==("__classdict__":Str))=false:=by decide):
  IS X (zJ fa fuel (.mov i j)) (.Assign [.Name x pos'] (.Name y p) pos):=
 .mk <| (JG hN hi hx (jc hj hv hd hcd) hs hf).imp fun D σ H zz3=>by
  obtain⟨W,ρ,z,hR,hz,q⟩:=zz3;simp only[gN] at hz;split at hz
  ·rename_i hfr
   split at hz
   ·rename_i d h
    cases hz;obtain⟨v,h1,h2⟩:=hR.val j d h;exact⟨v,h1,q W _ H (jT hR (.refl H) h2 (vv hfr))⟩
   ·rename_i o ds h
    cases hz
    cases o with
    |false=>exact KG h (hR.nol j ds)
    |true=>
    obtain⟨a,xs,h1,_⟩:=hR.own j _ ds h rfl;obtain⟨p1,rp⟩:=Qx hR h h1;exact⟨_,h1,q _ _ H (p1.trans (jT p1.r (.refl H) rp fun z=>vv hfr ((p1.io _).1.mp z)) hR)⟩
   ·cases hz
  ·cases hz
theorem ya(he:IE X (zC fa) e ce):IS X (zJ fa fuel (.ret ce)) (.Return (some e) pos):=
 .mk <| (JD he.h).imp fun D σ H zz3=>by
  obtain⟨W,ρ,y,hR,hy,q⟩:=zz3;simp only[zg5,jo1] at hy;obtain⟨r,e1,e2⟩:=hy;split at e2
  ·cases e2
  ·rename_i hl
   cases e2;refine⟨W,ρ,r,hR,e1,fun v H1 s1 h=>?_⟩
   cases h with
   |val h=>exact q W σ H1 (.same hR s1) v (.val h)
   |new h e r=>
    refine q _ σ H1 ⟨hR.add s1 h e,fun b o q _=>s1 b o q,(Vh (W:=W) s1 h).win,fun b w n=>⟨.inl w,n⟩,fun _=>⟨.rfl,fun _=>rfl⟩⟩ _ (.new (.inr rfl) (fun z=>hR.wf _ z.1 h) (fun ⟨i,⟨d,z1⟩,z2⟩=>hR.noOwn h ⟨i,_,d,z1,rfl,z2⟩) e r)
   |see h e r=>simp[SV.lent] at hl
theorem Qy(i:Nat)(hN:X.N[i]? =some x)(hv:zq X.env.scope x)(hd:(x==("__debug__":Str))=false:=by decide)(hcd:(x==("__classdict__":Str))=false:=by decide):IS X (zJ fa fuel (.retV i)) (.Return (some (.Name x p)) pos):=
 .mk <| (JD (jc hN hv hd hcd)).imp fun D σ H zz3=>by
  obtain⟨W,ρ,y,hR,hy,q⟩:=zz3;simp only[gQ] at hy;split at hy
  ·rename_i d h
   cases hy;obtain⟨v,h1,h2⟩:=hR.val i d h;exact⟨v,h1,q W σ H (.same hR (.refl H)) v (.val h2)⟩
  ·rename_i o ds h
   cases hy
   cases o with
   |false=>exact KG h (hR.nol i ds)
   |true=>
   obtain⟨a,xs,h1,h2,h3,h4⟩:=hR.own i _ ds h rfl
   refine⟨_,h1,q W σ H ?_ _ (.new h2 (fun z=>z.2 ⟨i,_,ds,h,rfl,h1⟩) (fun zz0=>by
    obtain⟨j,⟨d',z1⟩,z2⟩:=zz0;have:=hR.inj i j _ _ ds d' a h z1 rfl rfl h1 z2;subst this;rw[h] at z1;cases z1) h3 h4)⟩
   have old: ∀{k:Nat} {z:SV},(ρ.set i Option.none)[k]? =some (some z)->ρ[k]? =some (some z):=fun {k z} q=>by
    rcases yJ q with ⟨_,w,_⟩|⟨_,w⟩
    ·cases w
    ·exact w
   exact⟨⟨fun k d hk=>hR.val k d (old hk),fun k d hk=>hR.nol k d (old hk),fun k o es hk=>hR.own k o es (old hk),fun k l x y e1 e2 b z1 z2=>hR.inj k l x y e1 e2 b (old z1) (old z2),hR.wf,by simpa using hR.len⟩,fun b o q _=>q,fun b w=>.inl w,fun b w n=>⟨w,fun ⟨k,x,es,z1,c,z2⟩=>n ⟨k,x,es,old z1,c,z2⟩⟩,
    fun k=>⟨⟨fun ⟨d',z⟩=>⟨d',old z⟩,fun ⟨d',z⟩=>⟨d',by rw[xn (fun e=>by subst e;rw[h] at z;cases z)];exact z⟩⟩,fun _=>rfl⟩⟩
  ·cases hy
theorem zax:IS X (zJ fa fuel .stop) st:=.mk <| zfi.imp fun D σ H zz3=>by
 obtain⟨W,ρ,y,hR,hy,q⟩:=zz3;simp only[zhb] at hy;cases hy
theorem xq(hc:IT X (zC fa) c cc)(h1:ISs X (zp fa fuel s1) sts)(h2:ISs X (zp fa fuel s2) sts'):IS X (zJ fa fuel (.ifs cc s1 s2)) (.If c sts sts' pos):=
 .mk <| (qD hc.h h1.h h2.h).imp fun D σ H zz3=>by
  obtain⟨W,ρ,y,hR,hy,q⟩:=zz3;simp only[zg6,jo1] at hy;obtain⟨k,e1,e2⟩:=hy;refine⟨W,ρ,k,hR,e1,fun H1 w1=>?_⟩;have p1:=SPost.same hR w1;show if k=true then ZT X.K (zp fa fuel s1) D σ H1 else ZT X.K (zp fa fuel s2) D σ H1
  cases k with
  |true=>rw[if_pos rfl] at e2⊢;exact⟨W,ρ,y,p1.r,e2,fun W2 σ2 H2 p2=>FlOk.back p1 (q W2 σ2 H2 (p1.trans p2 hR))⟩
  |false=>rw[if_neg Ko] at e2⊢;exact⟨W,ρ,y,p1.r,e2,fun W2 σ2 H2 p2=>FlOk.back p1 (q W2 σ2 H2 (p1.trans p2 hR))⟩
theorem Qz(i:Nat){apos cpos:Pos}(hN:X.N[i]? =some x)(hv:zq X.env.scope x)(he:IE X (zC fa) e ce)(hst:starEach [e] X.env=(false,eval e X.env)::starEach [] X.env)(hd:(x==("__debug__":Str))=false)(hcd:(x==("__classdict__":Str))=false)
  (hs:swapsWith (.Call (.Attribute (.Name x p) "append" apos) [e] [] cpos) Option.none pos.line X.env=pure false:=by rfl)
  (hbase:attributeBase (.Name x p) "append" X.env (eval (.Name x p) X.env)=eval (.Name x p) X.env:=by rfl)
  (hline:(apos.endLine==cpos.line)=true:=by rfl):
  IS X (zJ fa fuel (.app i ce)) (.Expr (.Call (.Attribute (.Name x p) "append" apos) [e] [] cpos) pos):=
 .mk <| (JC (gr PySem.F.plainAttrs_list PySem.F.slot_list_append PySem.F.type_list_append gs (jc hN hv hd hcd) (xU he.v vG hst) hbase (by rw[hst];rfl) hline hst zu) hs).imp fun D σ H zz3=>by
  obtain⟨W,ρ,y,hR,hy,q⟩:=zz3;simp only[gO] at hy;split at hy
  ·rename_i x h
   split at hy
   ·rename_i ds hc
    simp only[jo1] at hy;obtain⟨r,e1,d,e2,e3⟩:=hy;split at e3
    ·rename_i hl
     cases e3;obtain⟨a,o,h1,h2,h3,h4⟩:=hR.own i _ _ h hc
     cases h4 with
     |lst h4=>
     rename_i xs;refine⟨_,h1,.inl ⟨rfl,xs,.of h3⟩,?_⟩;refine⟨W,ρ,r,hR,e1,fun v H1 w1 f=>?_⟩;refine⟨a,xs,v,rfl,rfl,w1 _ _ h3,?_,?_⟩
     ·rw[<-h4.length,<-ZV];exact hl
     ·exact q W σ _ (Vk hR h hc h1 w1 (w1 _ _ h3) ⟨fun _ z=>(nomatch z),fun _ _ z=>(nomatch z)⟩ (.lst ((h4.ext (.same w1)).append (.cons (f.toD e2) .nil))))
    ·cases e3
   ·cases hy
  ·cases hy
end
end L2.LW
set_option maxHeartbeats 4000000
namespace L2.LW
open PySem PySem.Spec PyProof.Rows
noncomputable def Yl(K:Ka)(J:It)(W:Addr->Prop)(H:Hp)(ds:List D):Prop:=
 ∀W' H',Ext W H W' H'->∀k:Nat,(k=ds.length->J.stop k H')/\∀d,ds[k]? =some d->J.go k H'/\∀x H'',J.yld k H' x H''->H''=H'/\Rep K W' H' d x
noncomputable def Ys(K:Ka)(J:It)(W:Addr->Prop)(H:Hp)(ds:List D):Prop:=
 ∀W' H',Same H H'->(∀a,W' a->W a\/H a=Option.none)->∀k:Nat,(k=ds.length->J.stop k H')/\∀d,ds[k]? =some d->J.go k H'/\∀x H'',J.yld k H' x H''->H''=H'/\Rep K W' H' d x
theorem Ext.sameW{W W':Addr->Prop}{H H':Hp}(s:Same H H')(w: ∀a,W' a->W a\/H a=Option.none):Ext W H W' H':=⟨fun a o h _=>s a o h,fun a xs h=>s a _ h,fun a o u h=>s a _ h,w⟩
section
variable {K:Ka} {W:Addr->Prop} {H:Hp} {a:Addr} {xs:List V} {ds:List D}
theorem Ya{H':Hp}{W':Addr->Prop}(hq:SqL K H' a xs)(rp:Reps K W' H' ds xs)(k:Nat):
  (k=ds.length->(ZH K a).stop k H')/\∀d,ds[k]? =some d->(ZH K a).go k H'/\∀x H'',(ZH K a).yld k H' x H''->H''=H'/\Rep K W' H' d x:=by
 refine⟨fun e=>⟨xs,hq,by rw[<-rp.length,e];exact Kg _⟩,fun d e=>?_⟩;obtain⟨v,e1,e2⟩:=rp.get e;refine⟨⟨xs,v,hq,e1⟩,fun x H'' ⟨z,y⟩=>⟨z,?_⟩⟩;have:=y xs hq;rw[e1] at this;cases this;exact e2
theorem QA{H':Hp}{W':Addr->Prop}(hq:SqT K H' a xs)(rp:Reps K W' H' ds xs)(k:Nat):
  (k=ds.length->(ZI K a).stop k H')/\∀d,ds[k]? =some d->(ZI K a).go k H'/\∀x H'',(ZI K a).yld k H' x H''->H''=H'/\Rep K W' H' d x:=by
 refine⟨fun e=>⟨xs,hq,by rw[<-rp.length,e];exact Kg _⟩,fun d e=>?_⟩;obtain⟨v,e1,e2⟩:=rp.get e;refine⟨⟨xs,v,hq,e1⟩,fun x H'' ⟨z,y⟩=>⟨z,?_⟩⟩;have:=y xs hq;rw[e1] at this;cases this;exact e2
theorem Vm{H':Hp}{W':Addr->Prop}{lo:Int}{n:Nat}(k:Nat):
  (k=((List.range n).map fun (k:Nat)=>D.int (lo+(k:Int))).length->(jd lo n).stop k H')/\
   ∀d,((List.range n).map fun (k:Nat)=>D.int (lo+(k:Int)))[k]? =some d->(jd lo n).go k H'/\∀x H'',(jd lo n).yld k H' x H''->H''=H'/\Rep K W' H' d x:=by
 refine⟨fun e=>?_,fun d e=>?_⟩
 ·rw[List.length_map,List.length_range] at e
  exact Nat.le_of_eq e.symm
 ·rw[List.getElem?_map,jo2] at e
  obtain⟨j,e1,rfl⟩:=e;obtain⟨h1,h2⟩:=List.getElem?_eq_some_iff.mp e1;rw[List.length_range] at h1;rw[List.getElem_range] at h2;subst h2;exact⟨h1,fun x H'' ⟨z,y⟩=>⟨z,by rw[y];exact .int _⟩⟩
theorem QB{W':Addr->Prop}{H':Hp}(h:(¬W a/\Rd H a (.lst xs))\/Qh K a xs)(x:Ext W H W' H'):SqL K H' a xs:=by
 rcases h with ⟨n,h|⟨o,h⟩⟩|h
 ·exact .inl (.inl (x.keep _ _ h n))
 ·exact .inl (.inr ⟨o,x.keep _ _ h n⟩)
 ·exact .inr h
end
noncomputable def zhy(K:Ka)(tl:TE):TI:=fun σ H R=>tl σ H fun x H1=>∃a,x= .ref a/\(((∃xs,SqL K H1 a xs)/\R (ZH K a) H1)\/((∃xs,SqT K H1 a xs)/\R (ZI K a) H1))
section
variable {X:Cx} {tg l:Expr}
theorem zay{tl:TE}(hl:PE X l tl):PI X tg l (zhy X.K tl):=by
 intro pins s σ H R I h;refine zF (hl pins s σ H _ I h) fun v s1 ⟨x,H1,I1,r1,q1⟩=>?_
 obtain⟨a,e,q⟩:=q1;subst e;cases r1;rcases q with ⟨⟨xs,hq⟩,q⟩|⟨⟨xs,hq⟩,q⟩
 ·obtain⟨its,rv,p,hz⟩:=I1.list hq
  refine wpAny_pyIter_list p.isList ?_;refine⟨s1.heap.objs.size,[s1.heap.objs.size],_,_,H1,rfl,I1.kept (t':=s1.toks) fun b o e=>Kn _ e,zfm a _,⟨_,Heap.get?_push_size _ rfl,rfl,rfl⟩,fun b hb=>?_,q⟩;have e:b=s1.heap.objs.size:=by simpa using hb
  subst e;exact I1.fpOk (Kg _) (I1.hok.fresh (Kg _))
 ·obtain⟨its,rv,p,hz⟩:=I1.tuple hq
  refine wpAny_pyIter_tuple (show s1.heap.IsTuple a its.toArray from p) ?_;refine⟨s1.heap.objs.size,[s1.heap.objs.size],_,_,H1,rfl,I1.kept (t':=s1.toks) fun b o e=>Kn _ e,zfn a _,⟨_,Heap.get?_push_size _ rfl,rfl,rfl⟩,fun b hb=>?_,q⟩;have e:b=s1.heap.objs.size:=by simpa using hb
  subst e;exact I1.fpOk (Kg _) (I1.hok.fresh (Kg _))
end
noncomputable def tI(K:Ka)(fn:Nat->List D->Option SV)(rng:Bool)(src:Es):TI:=fun σ H R0=>∃W ρ rs ds,R K W ρ σ H/\zZ fn src ρ=some rs/\yf rng rs=some ds/\
 ∀J H',Same H H'->Ys K J W H' ds->(rs.any SV.lent=false->Yl K J W H' ds)->R0 J H'
structure Src (X:Cx)(fn:Nat->List D->Option SV)(tg e:Expr)(rng:Bool)(src:Es):Prop where
 h:PI X tg e (tI X.K fn rng src)
theorem _root_.L2.PI.imp{X:Cx}{tg l:Expr}{t t':TI}(h:PI X tg l t)(i: ∀σ H Q,t' σ H Q->t σ H Q):PI X tg l t':=fun pins s σ H Q I q=>h pins s σ H Q I (i σ H Q q)
section
variable {X:Cx} {fn:Nat->List D->Option SV} {fuel:Nat} {a b c e tg:Expr} {ca cb cc ce:E} {es:List Expr} {cs:Es} {pos p:Pos} {x:Str}
theorem xL(he:IE X fn e ce):Src X fn tg e false (.cons ce .nil):=
 .mk <| (zay he.v).imp fun σ H R0 zz3=>by
  obtain⟨W,ρ,rs,ds,hR,h1,h2,q⟩:=zz3;simp only[wJ,wK,jo1,jo2] at h1;obtain⟨r,e1,rs',e3,rfl⟩:=h1;cases e3;simp only[yf] at h2;refine⟨W,ρ,r,hR,e1,fun v H1 s1 f=>?_⟩;unfold wV at h2;split at h2
  ·rename_i l hd
   cases h2;have hs:=f.sees;rw[hd] at hs;obtain⟨a,xs,rfl,hq,rp⟩:=hs.tupH;refine⟨a,rfl,.inr ⟨⟨xs,.of hq⟩,q _ H1 s1 (fun W' H' s w k=>QA (.of (s _ _ hq)) (rp.ext (.sameW s w)) k) fun _ W' H' x k=>QA (.of (x.tup _ _ hq)) (rp.ext x) k⟩⟩
  ·rename_i l hd
   cases h2;have hs:=f.sees;rw[hd] at hs;obtain⟨a,xs,rfl,hq,rp⟩:=hs.lst;refine⟨a,rfl,.inl ⟨⟨xs,hq⟩,q _ H1 s1 (fun W' H' s w k=>Ya (s.seq hq) (rp.ext (.sameW s w)) k) fun hl W' H' x k=>?_⟩⟩;have hl':r.lent=false:=by simpa using hl
   cases f with
   |val h=>
    change _=D.lst _ at hd;subst hd
    cases h with
    |lst h r'=>exact Ya (QB h x) (r'.ext x) k
   |lis h e r'=>
    change _=D.lst _ at hd;subst hd
    cases r' with
    |lst r'=>exact Ya (.of (x.keep _ _ e h)) (r'.ext x) k
   |see h e r'=>simp[SV.lent] at hl'
  ·cases h2
theorem zaz(hg:Gl X "range")(hm:X.mg "range"=Option.none)(ha:IA X fn [a] (.cons ca .nil))(hs:starEach [a] X.env=(false,eval a X.env)::starEach [] X.env):Src X fn tg (.Call (.Name "range" p) [a] [] pos) true (.cons ca .nil):=
 .mk <| (zfr hg hm ha.h hs).imp fun σ H R0 zz3=>by
  obtain⟨W,ρ,rs,ds,hR,h1,h2,q⟩:=zz3;refine⟨W,ρ,rs,hR,h1,fun vs H1 s1 f=>?_⟩;simp only[wJ,wK,jo1,jo2] at h1;obtain⟨r,e1,rs',e3,rfl⟩:=h1;cases e3
  obtain⟨v,rfl,g⟩: ∃v,vs=[v]/\Frz X.K W H1 r v:=by
   cases f with
   |cons f t=>cases t;exact⟨_,rfl,f⟩
  clear f
  cases g with
  |val g=>
   cases g with
   |int n=>
    simp only[yf] at h2;split at h2
    ·rename_i hn
     cases h2;exact⟨n,rfl,hn.1,hn.2,q _ H1 s1 (fun W' H' s w k=>Vm k) fun _ W' H' x k=>Vm k⟩
    ·cases h2
   |_=>simp[yf] at h2
  |_=>simp[yf] at h2
theorem zaA(hg:Gl X "range")(hm:X.mg "range"=Option.none)(ha:IA X fn [a,b] (.cons ca (.cons cb .nil)))(hs:starEach [a,b] X.env=(false,eval a X.env)::starEach [b] X.env)(hs2:starEach [b] X.env=(false,eval b X.env)::starEach [] X.env):
  Src X fn tg (.Call (.Name "range" p) [a,b] [] pos) true (.cons ca (.cons cb .nil)):=
 .mk <| (zfs hg hm ha.h (by rw[hs,hs2];rfl) hs2).imp fun σ H R0 zz3=>by
  obtain⟨W,ρ,rs,ds,hR,h1,h2,q⟩:=zz3;refine⟨W,ρ,rs,hR,h1,fun vs H1 s1 f=>?_⟩;simp only[wJ,wK,jo1,jo2] at h1;obtain⟨r,e1,rs',⟨r2,e2,rs'',e3,rfl⟩,rfl⟩:=h1;cases e3
  obtain⟨v,v2,rfl,g,f2⟩: ∃v v2,vs=[v,v2]/\Frz X.K W H1 r v/\Frz X.K W H1 r2 v2:=by
   cases f with
   |cons f t=>cases t with
    |cons f' t=>cases t;exact⟨_,_,rfl,f,f'⟩
  clear f
  cases g with
  |val g=>
   cases f2 with
   |val f2=>
    cases g with
    |int n=>
     cases f2 with
     |int m=>
      simp only[yf] at h2;split at h2
      ·rename_i hn
       cases h2;exact⟨n,m,rfl,⟨hn.1.1,hn.1.2,hn.2.1,hn.2.2⟩,q _ H1 s1 (fun W' H' s w k=>Vm k) fun _ W' H' x k=>Vm k⟩
      ·cases h2
     |_=>simp[yf] at h2
    |_=>simp[yf] at h2
   |_=>simp[yf] at h2
  |_=>simp[yf] at h2
theorem zaB{α:Type}{l:List α}{k:Nat}{d:α}(h:l[k]? =some d):l.drop k=d::l.drop (k+1):=by
 obtain⟨h1,h2⟩:=List.getElem?_eq_some_iff.mp h;rw[List.drop_eq_getElem_cons h1,h2]
theorem Vn{K:Ka}{J:It}{ds:List D}{i:Nat}{ex:LW.Env->Option (Fl×LW.Env)}{W:Addr->Prop}{ρ:LW.Env}{σ:St}{H:Hp}{x:Fl×LW.Env}{D0:Ends}(hR:R K W ρ σ H)(hfr: ¬xz ρ i)(hy:Yl K J W H ds)
  (hx:yx i ex ds ρ=some x) (q: ∀W' σ' H',SPost K W ρ σ H W' x.2 σ' H'->FlOk K W ρ σ W' x.2 σ' H' D0 x.1):
  ∃Wv:Nat->Nat->St->Hp->Prop,(∃m,Wv 0 m σ H)/\∀k m σ' H',Wv k m σ' H'->
   (J.stop k H'/\D0.nx σ' H')\/(J.go k H'/\∃N:St->Hp->Prop,(∀σ2 H2,N σ2 H2->∃m',m'<m/\Wv (k+1) m' σ2 H2)/\∀v H2,J.yld k H' v H2->JE i v σ' H2 fun σ2 H2=>ZT K ex { D0 with nx:=N,ct:=N,bk:=D0.nx } σ2 H2):=by
 refine⟨fun k m σ' H'=>m=ds.length-k/\k<=ds.length/\∃W' ρ',SPost K W ρ σ H W' ρ' σ' H'/\yx i ex (ds.drop k) ρ'=some x,⟨_,rfl,Nat.zero_le _,W,ρ,.same hR (.refl H),hx⟩,?_⟩;rintro k m σ' H' ⟨rfl,hk,W',ρ',p,hf⟩;obtain⟨hstop,hgo⟩:=hy W' H' (p.ext hR) k;by_cases hlt:k<ds.length
 ·have hd:ds[k]? =some ds[k]:=by simp[hlt]
  obtain⟨g1,g2⟩:=hgo _ hd;rw[zaB hd,yx,jo1] at hf;obtain⟨⟨fl,ρ2⟩,e1,e2⟩:=hf;refine .inr ⟨g1,fun σ2 H2=>(ds.length-(k+1))=ds.length-(k+1)/\k+1<=ds.length/\∃W' ρ',SPost K W ρ σ H W' ρ' σ2 H2/\yx i ex (ds.drop (k+1)) ρ'=some x,fun σ2 H2 h=>⟨_,by omega,h⟩,fun v H2 y=>?_⟩;obtain⟨rfl,rv⟩:=g2 v H2 y;have p1:=jT (i:=i) p.r (.refl H2) rv fun z=>hfr ((p.io i).1.mp z)
  have p01:=p.trans p1 hR;refine⟨W',_,(fl,ρ2),p1.r,e1,fun W3 σ3 H3 p3=>?_⟩;have p03:=p01.trans p3 hR
  cases fl with
  |nx=>exact⟨rfl,hlt,W3,ρ2,p03,e2⟩
  |ct=>exact⟨rfl,hlt,W3,ρ2,p03,e2⟩
  |br=>cases e2;exact q W3 σ3 H3 p03
  |rt r=>cases e2;exact fun v hv=>q W3 σ3 H3 p03 v (hv.back p01)
 ·have e:k=ds.length:=by omega
  rw[List.drop_of_length_le (by omega),yx] at hf;cases hf;exact .inl ⟨hstop e,q W' σ' H' p⟩
variable {fa:Nat->List D->Option Ans} {sts:List Stmt} {ss:Ss}
theorem jq(i:Nat){rng:Bool}{src:Es}{px:Pos}(hp:PassesOwn (model X.prog X.w) X.A X.env X.xe)(hc:X.calm=true)(hN:X.N.Nodup)(hi:X.N[i]? =some x)(hx:zQ X.env.scope x)(hs:Src X (zC fa) (.Name x px) e rng src)(hb:ISs X (zp fa fuel ss) sts)
  (hf:X.fn x=true\/X.env.scope.names.lookup x=some .local:=by first|exact .inl rfl|exact .inr rfl|assumption) (hfo: ∀x,foldedSetIterable e X.env x=pure x:=by intro _;rfl):IS X (zJ fa fuel (.for_ i rng src ss)) (.For (.Name x px) e sts [] pos):=
 .mk <| (qG hp hc hs.h (JF hN hi hx hf) hb.h hfo).imp fun D0 σ H zz3=>by
  obtain⟨W,ρ,y,hR,hy,q⟩:=zz3;simp only[zg7,jo1] at hy;obtain⟨rs,e1,e2⟩:=hy;split at e2
  ·cases e2
  ·rename_i hl
   simp only[Bool.not_eq_true,Bool.or_eq_false_iff,Bool.not_eq_false'] at hl;rw[jo1] at e2;obtain⟨ds,e3,e4⟩:=e2;refine⟨W,ρ,rs,ds,hR,e1,e3,fun J H1 s1 _ hyl=>?_⟩;have p1:=SPost.same hR s1;exact Vn p1.r (vv hl.2) (hyl hl.1) e4 fun W' σ' H' p=>FlOk.back p1 (q W' σ' H' (p1.trans p hR))
theorem zaC(i j:Nat){y:Str}{px:Pos}(hp:PassesOwn (model X.prog X.w) X.A X.env X.xe)(hc:X.calm=true)(hN:X.N.Nodup)(hi:X.N[i]? =some x)(hx:zQ X.env.scope x)(hj:X.N[j]? =some y)(hv:zq X.env.scope y)(hb:ISs X (zp fa fuel ss) sts)
  (hf:X.fn x=true\/X.env.scope.names.lookup x=some .local:=by first|exact .inl rfl|exact .inr rfl|assumption) (hd:(y==("__debug__":Str))=false:=by decide) (hcd:(y==("__classdict__":Str))=false:=by decide)
  (hfo: ∀x,foldedSetIterable (.Name y p) X.env x=pure x:=by intro _;rfl):IS X (zJ fa fuel (.forV i j ss)) (.For (.Name x px) (.Name y p) sts [] pos):=
 .mk <| (qG hp hc (zay (jc hj hv hd hcd)) (JF hN hi hx hf) hb.h hfo).imp fun D0 σ H zz3=>by
  obtain⟨W,ρ,z,hR,hz,q⟩:=zz3;simp only[zg8] at hz;split at hz
  case isFalse=>cases hz
  rename_i hfr;have hfr:=vv hfr;simp only[jo1,vH] at hz;obtain⟨⟨ds,ρ1⟩,e1,e2⟩:=hz;split at e1
  ·rename_i d h
   rw[jo2] at e1;obtain⟨l,e3,e4⟩:=e1;cases e4;obtain⟨v,h1,h2⟩:=hR.val j d h;refine⟨v,h1,?_⟩;unfold wV at e3;split at e3
   ·cases e3
    cases h2 with
    |tup hq rp=>exact⟨_,rfl,.inr ⟨⟨_,.of hq⟩,Vn hR hfr (fun W' H' x k=>QA (.of (x.tup _ _ hq)) (rp.ext x) k) e2 q⟩⟩
   ·cases e3
    cases h2 with
    |lst hq rp=>exact⟨_,rfl,.inl ⟨⟨_,hq.elim (fun z=>.inl z.2) fun z=>.inr z⟩,Vn hR hfr (fun W' H' x k=>Ya (QB hq x) (rp.ext x) k) e2 q⟩⟩
   ·cases e3
  ·rename_i o es h
   cases e1
   cases o with
   |false=>exact KG h (hR.nol j _)
   |true=>
   obtain⟨a,xs,h1,h2,h3,h4⟩:=hR.own j _ _ h rfl
   cases h4 with
   |lst h4=>
   obtain⟨p1,rp⟩:=Qx hR h h1;refine⟨_,h1,a,rfl,.inl ⟨⟨_,.of h3⟩,?_⟩⟩;refine Vn p1.r (fun z=>hfr ((p1.io i).1.mp z)) (fun W' H' x k=>?_) e2 fun W' σ' H' p=>FlOk.back p1 (q W' σ' H' (p1.trans p hR))
   cases rp with
   |lst hq rp=>exact Ya (QB hq x) (rp.ext x) k
  ·cases e1
theorem zhz(hp:PassesOwn (model X.prog X.w) X.A X.env X.xe)(hc:IT X (zC fa) c cc)(hb:ISs X (zp fa fuel ss) sts):IS X (zJ fa fuel (.while_ cc ss)) (.While c sts [] pos):=
 .mk <| (zfl hp hc.h hb.h).imp fun D0 σ H zz3=>by
  obtain⟨W,ρ,y,hR,hy,q⟩:=zz3;simp only[zg9] at hy;refine⟨fun m σ' H'=>∃W' ρ',SPost X.K W ρ σ H W' ρ' σ' H'/\wq (zE (zC fa) cc) (zp fa fuel ss) m ρ'=some y,⟨fuel,W,ρ,.same hR (.refl H),hy⟩,?_⟩;rintro m σ' H' ⟨W',ρ',p,hw⟩
  cases m with
  |zero=>simp[wq] at hw
  |succ m=>
   rw[wq,jo1] at hw;obtain⟨k,e1,e2⟩:=hw;refine⟨W',ρ',k,p.r,e1,fun H1 s1=>?_⟩;have p1:=SPost.same p.r s1;have p01:=p.trans p1 hR
   cases k with
   |false=>
    rw[if_neg Ko] at e2;cases e2;exact JR (q W' σ' H1 p01)
   |true=>
    rw[if_pos rfl] at e2;rw[jo1] at e2;obtain⟨⟨fl,ρ2⟩,e3,e4⟩:=e2;refine Xu ⟨fun σ2 H2=>∃W' ρ',SPost X.K W ρ σ H W' ρ' σ2 H2/\wq (zE (zC fa) cc) (zp fa fuel ss) m ρ'=some y,fun σ2 H2 h=>⟨m,Nat.lt_succ_self m,h⟩,?_⟩;refine⟨W',ρ',(fl,ρ2),p1.r,e3,fun W3 σ3 H3 p3=>?_⟩;have p03:=p01.trans p3 hR
    cases fl with
    |nx=>exact⟨W3,ρ2,p03,e4⟩
    |ct=>exact⟨W3,ρ2,p03,e4⟩
    |br=>cases e4;exact q W3 σ3 H3 p03
    |rt r=>cases e4;exact fun v hv=>q W3 σ3 H3 p03 v (hv.back p01)
end
theorem zaD(io:List Nat): ∀(ds:List D) (k i:Nat),(xQ io k ds)[i]? =(ds[i]?).map fun d=>some (if io.contains (k+i) then SV.io d else .val d)
 |[],k,i=>by simp[xQ]
 |d::r,k,0=>by simp[xQ]
 |d::r,k,i+1=>by
  rw[xQ,List.getElem?_cons_succ,zaD io r (k+1) i,List.getElem?_cons_succ];have:k+1+i=k+(i+1):=by omega
  rw[this]
theorem Vo(io:List Nat): ∀(ds:List D) (k:Nat),(xQ io k ds).length=ds.length
 |[],k=>rfl
 |d::r,k=>by simp[xQ,Vo io r (k+1)]
theorem zhA{io:List Nat}{ds:List D}{n:Nat}{i:Nat}{x:SV}(h:(xQ io 0 ds++List.replicate n Option.none)[i]? =some (some x)):
  ∃d,ds[i]? =some d/\x=if io.contains i then SV.io d else .val d:=by
 by_cases hi:i<ds.length
 ·rw[List.getElem?_append_left (by rw[Vo];exact hi),zaD,jo2] at h
  obtain⟨d,e1,e2⟩:=h;rw[Nat.zero_add] at e2;exact⟨d,e1,(Kp e2).symm⟩
 ·rw[List.getElem?_append_right (by rw[Vo];omega)] at h
  rw[List.getElem?_replicate] at h;split at h<;>cases h
theorem jU{N:List Str}{vs:List V}{i:Nat}{v:V}(h:vs[i]? =some v):(xW N vs)[i]? =some (some v):=by
 have hi:i<vs.length:=(List.getElem?_eq_some_iff.mp h).1;unfold xW;rw[List.getElem?_append_left (by simpa using hi),List.getElem?_map,h];rfl
theorem QC{K:Ka}{W W':Addr->Prop}{H':Hp}{ρ':LW.Env}{σ':St}{vs:List V}(hR:R K W' ρ' σ' H')(sub: ∀b,W b->W' b): ∀{io:List Nat} {outs:List D},wd ρ' io=some outs->(∀k∈io,xz ρ' k->∃a,σ'[k]? =some (some (.ref a))/\vs[k]? =some (.ref a))->Vg K W H' io vs outs
 |[],outs,e,_=>by simp only[wd] at e;cases e;exact .nil
 |k::r,outs,e,hs=>by
  simp only[wd] at e;split at e
  ·rename_i d h
   rw[jo2] at e;obtain⟨l,e1,rfl⟩:=e;obtain⟨a,h1,h2⟩:=hs k Ke ⟨d,h⟩;obtain⟨a',o,h3,_,h5,h6⟩:=hR.own k _ d h rfl;rw[h1] at h3;cases h3;exact .cons ⟨a,o,h2,h5,h6.less sub⟩ (QC hR sub e1 fun j hj=>hs j (Kf _ hj))
  ·cases e
theorem ym{Pg:Program}{w:World}{K:Ka}{mg:Str->Option Value}{base:Heap}{x qual:Str}{st:Stmt}{f:Addr}{fd:FuncData}{N ps:List Str}{k n i:Nat}{P:Nat->Option Fn}{fuel:Nat}{F0:Fn}{io:List Nat}
  (F:Fun K x qual st f fd) (S:FnScope N ps (zd st)) (hP:P i=some F0) (hnp:F0.np=ps.length) (hnl:F0.nl=N.length) (hio:F0.io=io) (hiop:io.all (fun k=>decide (k<F0.np))=true) (hxb:F0.xb=Option.none)
  (hbody: ∀(cdv:Value) (A:Around) (outer:List PySem.Env) (s:Shared) (H:Hp) (E:XK),Room k (A.deeper (envOfC qual (zd st) s.heap.objs.size f cdv))->
   ISs (yb zA Pg w K mg base N qual (zd st) f cdv A outer s H E).nox (zp (zn P fuel n) fuel F0.body) (zt st)):
  FnOk Pg w K mg base zA (k+1) f fd ps (zW K (zn P fuel (n+1)) i io):=by
 subst hio
 have dec: ∀{ds:List D} {r:Ans},zn P fuel (n+1) i ds=some r->ds.length=F0.np/\wt F0.io (zp (zn P fuel n) fuel F0.body (xQ F0.io 0 ds++List.replicate (F0.nl-F0.np) Option.none))=some r:=fun {ds r} h=>by
  rw[zn,hP] at h;simp only[Option.bind_some,hxb] at h;split at h
  ·exact⟨by assumption,h⟩
  ·cases h
 refine F.ok S (fun vs H Q E h=>?_) (fun cdv A outer s H vs Q E hr h=>⟨_,(hbody cdv A outer s H E hr).h,?_⟩)
 ·obtain⟨W,ds,r,outs,wf,rp,e,_⟩:=h
  rw[<-rp.len,(dec e).1,hnp]
 ·obtain⟨W,ds,r,outs,wf,rp,e,q⟩:=h
  obtain⟨hl,he⟩:=dec e;have hlv:=rp.len;have hplN:ps.length<=N.length:=by have:=congrArg List.length S.pre;rw[List.length_take] at this;omega
  generalize hρ:xQ F0.io 0 ds++List.replicate (F0.nl-F0.np) Option.none=ρ at he;have at_: ∀{j:Nat} {x:SV},ρ[j]? =some (some x)->∃d,ds[j]? =some d/\x=if F0.io.contains j then SV.io d else .val d:=fun {j x} h=>by rw[<-hρ] at h;exact zhA h
  have own_io: ∀a,xG ρ (xW N vs) a->ZY F0.io vs a:=fun a zz1=>by
   obtain⟨j,x,d,h1,hc,h2⟩:=zz1;obtain⟨d',e1,e2⟩:=at_ h1;split at e2
   ·rename_i hj
    have hj:j∈F0.io:=by simpa using hj
    obtain⟨b,o,h3,_⟩:=rp.obj j d' e1 hj;rw[jU h3] at h2;cases h2;exact⟨j,hj,h3⟩
   ·subst e2;cases hc
  have hR:R K W ρ (xW N vs) H:=by
   refine⟨fun j d h=>?_,fun j d h=>?_,fun j x d h hc=>?_,fun j k x y d e a h1 h2 c1 c2 h3 h4=>?_,wf,?_⟩
   ·obtain⟨d',e1,e2⟩:=at_ h
    split at e2
    ·cases e2
    ·rename_i hj
     cases e2;obtain⟨v,h1,h2⟩:=rp.val j d e1 (by simpa using hj);exact⟨v,jU h1,h2⟩
   ·obtain⟨d',e1,e2⟩:=at_ h
    split at e2<;>cases e2
   ·obtain⟨d',e1,e2⟩:=at_ h
    split at e2
    ·rename_i hj
     subst e2;cases hc;obtain⟨b,o,h3,h4,h5,h6⟩:=rp.obj j d e1 (by simpa using hj);exact⟨b,o,jU h3,h4,h5,h6⟩
    ·subst e2;cases hc
   ·obtain⟨d1,e1,e2⟩:=at_ h1
    obtain⟨d2,e3,e4⟩:=at_ h2;split at e2
    ·rename_i hj
     split at e4
     ·rename_i hk
      have hj:j∈F0.io:=by simpa using hj
      have hk:k∈F0.io:=by simpa using hk
      obtain⟨b,o,z1,_⟩:=rp.obj j d1 e1 hj;obtain⟨b',o',z2,_⟩:=rp.obj k d2 e3 hk;rw[jU z1] at h3;cases h3;rw[jU z2] at h4;cases h4;exact rp.inj j k _ hj hk z1 z2
     ·subst e4;cases c2
    ·subst e2;cases c1
   ·rw[<-hρ]
    unfold xW;rw[List.length_append,List.length_append,Vo,List.length_map,List.length_replicate,List.length_replicate];omega
  cases hx:zp (zn P fuel n) fuel F0.body ρ with
  |none=>rw[hx] at he;cases he
  |some y=>
   rw[hx] at he;obtain⟨fl,ρ'⟩:=y;refine⟨W,ρ,(fl,ρ'),hR,hx,fun W' σ' H' p=>?_⟩;have kp: ∀a o,H a=some o->¬ZY F0.io vs a->H' a=some o:=fun b o h n=>p.keep b o h fun z=>n (own_io b z)
   have io_at: ∀k∈F0.io,xz ρ' k->∃a,σ'[k]? =some (some (.ref a))/\vs[k]? =some (.ref a):=fun j hj z=>by
    have z0:=(p.io j).1.mp z;obtain⟨d0,z1⟩:=z0;obtain⟨d',e1,e2⟩:=at_ z1;obtain⟨b,o,h3,_⟩:=rp.obj j d' e1 hj;exact⟨b,by rw[(p.io j).2 ⟨d0,z1⟩,jU h3],h3⟩
   have sub: ∀b,W b->W' b:=fun b w=>by
    by_cases hb:xG ρ (xW N vs) b
    ·obtain⟨j,x,d,h1,hc,h2⟩:=hb
     obtain⟨d',e1,e2⟩:=at_ h1;split at e2
     ·subst e2
      obtain⟨d2,z⟩:=(p.io j).1.mpr ⟨d',h1⟩;obtain⟨a',o,h3,h4,_⟩:=p.r.own j _ d2 z rfl;rw[(p.io j).2 ⟨d',h1⟩,h2] at h3;cases h3;exact h4
     ·subst e2;cases hc
    ·exact (p.wout b w hb).1
   cases fl with
   |br=>cases he
   |ct=>cases he
   |nx=>
    simp only[wt,jo2] at he;obtain⟨l,e1,e2⟩:=he;cases e2;exact q _ H' kp (QC p.r sub e1 io_at) (.val .non)
   |rt r'=>
    simp only[wt,jo2] at he;obtain⟨l,e1,e2⟩:=he;cases e2;intro v hv;have ho:=QC p.r sub e1 io_at
    cases hv with
    |val h=>exact q v H' kp ho (.val (h.less sub))
    |new h nn n' eL rr=>
     have ha:=(p.win _ h).resolve_left fun w=>nn ⟨w,fun zz0=>by
      obtain⟨j,x,d,h1,hc,h2⟩:=zz0;obtain⟨d',e1,e2⟩:=at_ h1;split at e2
      ·subst e2;exact n' ⟨j,⟨d',h1⟩,h2⟩
      ·subst e2;cases hc⟩
     refine q _ H' kp ho (.new ha eL (rr.less fun b w=>?_));rcases w with w|rfl
     ·exact sub b w
     ·exact h
end L2.LW
set_option maxHeartbeats 4000000
namespace L2.LW
open PySem PySem.Spec PyProof.Rows
noncomputable def xM(env:PySem.Env):List (Str×NameKind)->List (Str×Addr)->List (Str×Addr)
 |[],acc=>acc
 |(n,k)::r,acc=>if k== .free then xM env r ((n,(env.cells.lookup n).getD 0)::acc) else xM env r acc
theorem zaE(env:PySem.Env): ∀(names:List (Str×NameKind)) (acc:List (Str×Addr)),(∀y∈names,y.2= .free->(env.cells.lookup y.1).isSome=true)->
  (forIn names acc fun (x:Str×NameKind) (cs:List (Str×Addr))=>(if (x.2==NameKind.free)=true then (do let c <-cellOf env x.1;pure (ForInStep.yield ((x.1,c)::cs)):Sem (ForInStep (List (Str×Addr)))) else pure (ForInStep.yield cs)))=(pure (xM env names acc):Sem (List (Str×Addr)))
 |[],acc,_=>rfl
 |(n,k)::r,acc,h=>by
  have ih:=fun acc=>zaE env r acc fun y hy=>h y (Kf _ hy)
  rw[List.forIn_cons];by_cases hk:(k==NameKind.free)=true
  ·have hs:=h (n,k) Ke (by simpa using hk)
   obtain⟨c,hc⟩:=Option.isSome_iff_exists.mp hs;have hc:env.cells.lookup n=some c:=hc;simp only[hk,if_true,cellOf,hc,xM,Option.getD_some];show (forIn r ((n,c)::acc) _:Sem _)=_;exact ih _
  ·simp only[hk,if_false,xM]
   show (forIn r acc _:Sem _)=_;exact ih _
theorem zhB{scope:Scope}{env:PySem.Env}(h: ∀y∈scope.names,y.2= .free->(env.cells.lookup y.1).isSome=true):closureFor scope env=pure (xM env scope.names []):=by
 have key:closureFor scope env=((forIn scope.names ([]:List (Str×Addr)) fun (x:Str×NameKind) (cs:List (Str×Addr))=>
  (if (x.2==NameKind.free)=true then (do let c <-cellOf env x.1;pure (ForInStep.yield ((x.1,c)::cs)):Sem (ForInStep (List (Str×Addr)))) else pure (ForInStep.yield cs))) >>= fun cs=>pure cs):=rfl
 rw[key,zaE env scope.names [] h];rfl
theorem Vp{env:PySem.Env}{y:Str}{c:Addr}: ∀{names:List (Str×NameKind)} {acc:List (Str×Addr)},(∀z∈names,z.2= .free->(env.cells.lookup z.1).isSome=true)->(xM env names acc).lookup y=some c->
  acc.lookup y=some c\/env.cells.lookup y=some c
 |[],_,_,e=>.inl e
 |(n,k)::r,acc,h,e=>by
  unfold xM at e;split at e
  ·rename_i hk
   rcases Vp (fun z hz=>h z (Kf _ hz)) e with q|q
   ·rw[List.lookup_cons] at q
    split at q
    ·rename_i hy
     have hy:y=n:=by simpa using hy
     subst hy;obtain⟨c',hc⟩:=Option.isSome_iff_exists.mp (h (y,k) Ke (by simpa using hk));have hc:env.cells.lookup y=some c':=hc;rw[hc] at q;cases q;exact .inr hc
    ·exact .inl q
   ·exact .inr q
  ·exact Vp (fun z hz=>h z (Kf _ hz)) e
theorem QD{env:PySem.Env}{y:Str}: ∀{names:List (Str×NameKind)} {acc:List (Str×Addr)},((acc.lookup y).isSome=true\/(y,NameKind.free)∈names)->((xM env names acc).lookup y).isSome=true
 |[],acc,h=>by
  rcases h with h|h
  ·exact h
  ·cases h
 |(n,k)::r,acc,h=>by
  unfold xM;split
  ·rename_i hk
   refine QD ?_;by_cases e:y=n
   ·subst e;exact .inl (by simp)
   ·have hb:(y==n)=false:=by simpa using e
    rcases h with h|h
    ·exact .inl (by rw[List.lookup_cons,hb];exact h)
    ·rcases List.mem_cons.mp h with z|z
     ·cases z;exact KG rfl e
     ·exact .inr z
  ·rename_i hk
   refine QD ?_;rcases h with h|h
   ·exact .inl h
   ·rcases List.mem_cons.mp h with z|z
    ·cases z;exact KG rfl hk
    ·exact .inr z
noncomputable def vP(x:Str)(N:List Str):List Str:=N.map fun y=>if y=x then ("":Str) else y
noncomputable def vd(scope:Scope)(x:Str)(c:Addr)(cl:List (Str×Addr)):List (Str×Addr):=if scope.names.lookup x=some .cell then (x,c)::cl else cl
noncomputable def yu(X:Cx)(scope:Scope)(x:Str)(s₃:Shared)(H₃:Hp)(fp:List Addr)(pins:List (Addr×Obj)):Cx:=
 { X with N:=x::vP x X.N,s₀:=s₃,H₀:=H₃,env:=compEnvC scope (vd scope x (s₃.heap.objs.size+1) (xM X.env scope.names [])) s₃.heap.objs.size X.env,outer:=X.stack,stack:=X.stack,ex:=fp,fn:=fun y=>decide (y=x)&&decide (scope.names.lookup x=some .cell),pn:=X.pn++pins,xe:=fun _ _=>False }
structure CompSc (X:Cx)(scope:Scope)(x:Str):Prop where
 kind:scope.kind= .function
 loc:scope.names.lookup x=some .local\/scope.names.lookup x=some .cell
 names: ∀y∈scope.names,y.2= .local->scope.names.lookup y.1=some .local
 cell1:scope.names.filter (fun y=>y.2== .cell)=if scope.names.lookup x=some .cell then [(x,.cell)] else []
 free: ∀y∈scope.names,y.2= .free->X.env.scope.names.lookup y.1=some .cell\/X.env.scope.names.lookup y.1=some .free
 own: ∀y∈X.N,scope.names.lookup y=some .local->y=x
 none:scope.names.lookup ("":Str)=Option.none
 nd:(x::vP x X.N).Nodup
theorem Vq{y:Str}{k:NameKind}: ∀{l:List (Str×NameKind)},l.lookup y=some k->(y,k)∈l
 |[],h=>by cases h
 |(n,j)::r,h=>by
  rw[List.lookup_cons] at h;split at h
  ·rename_i e
   have e:y=n:=by simpa using e
   cases h;subst e;exact Ke
  ·exact Kf _ (Vq h)
theorem jV{env:PySem.Env}{y:Str}{k:NameKind}: ∀{names:List (Str×NameKind)},
  (names.map fun (z:Str×NameKind)=>match z with|(n,k)=>if (k==NameKind.free&&env.scope.kind== .function&&env.kindOf n==some .cell)=true then (n,NameKind.cell) else (n,k)).lookup y=some k->
  names.lookup y=some k\/(k= .cell/\names.lookup y=some .free)
 |[],h=>by cases h
 |(n,j)::r,h=>by
  rw[List.map_cons,List.lookup_cons] at h;rw[List.lookup_cons];by_cases hc:(j==NameKind.free&&env.scope.kind== .function&&env.kindOf n==some .cell)=true
  ·simp only[hc,if_true] at h
   cases e:y==n with
   |true=>
    rw[e] at h;cases h
    have hj:j= .free:=by
     simp only[Bool.and_eq_true] at hc;simpa using hc.1.1
    exact .inr ⟨rfl,by rw[hj]⟩
   |false=>rw[e] at h;exact jV h
  ·simp only[hc,Bool.false_eq_true,if_false] at h
   cases e:y==n with
   |true=>rw[e] at h;exact .inl h
   |false=>rw[e] at h;exact jV h
section
variable {X:Cx} {scope:Scope} {x:Str} {s₃:Shared} {H₃:Hp} {fp:List Addr} {pins:List (Addr×Obj)} {σ:St}
theorem CompSc.onlyC(S:CompSc X scope x){y:Str}(h:scope.names.lookup y=some .cell):y=x/\scope.names.lookup x=some .cell:=by
 have hm:(y,NameKind.cell)∈scope.names.filter (fun y=>y.2== .cell):=List.mem_filter.mpr ⟨Vq h,rfl⟩;rw[S.cell1] at hm;split at hm
 ·simp at hm;subst hm;exact⟨rfl,h⟩
 ·cases hm
theorem zaF{x:Str}: ∀(names:List (Str×NameKind)) (a:Nat) (acc:List (Str×Addr)) (h:Heap),names.filter (fun y=>y.2== .cell)=[(x,.cell)]->cellsFrom a names acc=(x,a)::acc/\pushCells h names=h.push { cls:=.type "cell",data:=.cell Option.none }
 |[],_,_,_,e=>by cases e
 |(n,k)::r,a,acc,h,e=>by
  have none_: ∀(names:List (Str×NameKind)) (a:Nat) (acc:List (Str×Addr)) (h:Heap),names.filter (fun y=>y.2== .cell)=[]->cellsFrom a names acc=acc/\pushCells h names=h:=by
   intro names
   induction names with
   |nil=>intro a acc h _;exact⟨rfl,rfl⟩
   |cons y r ih=>
    intro a acc h e;obtain⟨n,k⟩:=y;rw[List.filter_cons] at e;split at e
    ·cases e
    ·rename_i hk
     have hk:(k==NameKind.cell)=false:=by simpa using hk
     unfold cellsFrom pushCells;rw[hk];exact ih a acc h e
  rw[List.filter_cons] at e;split at e
  ·rename_i hk
   injection e with e1 e2;cases e1;unfold cellsFrom pushCells;simp only[beq_self_eq_true,if_true];exact none_ r _ _ _ e2
  ·rename_i hk
   have hk:(k==NameKind.cell)=false:=by simpa using hk
   unfold cellsFrom pushCells;rw[hk];exact zaF r a acc h e
theorem zaG: ∀(names:List (Str×NameKind)) (a:Nat) (acc:List (Str×Addr)) (h:Heap),names.filter (fun y=>y.2== .cell)=[]->cellsFrom a names acc=acc/\pushCells h names=h
 |[],_,_,_,_=>⟨rfl,rfl⟩
 |(n,k)::r,a,acc,h,e=>by
  rw[List.filter_cons] at e;split at e
  ·cases e
  ·rename_i hk
   have hk:(k==NameKind.cell)=false:=by simpa using hk
   unfold cellsFrom pushCells;rw[hk];exact zaG r a acc h e
theorem zhC{M:Model}{A:Around}{E:Value->Shared->Prop}{s:Shared}{globals:Addr}{cl:List (Str×Addr)}{qual:Str}{env:PySem.Env}{Q:PySem.Env->Shared->Prop}(S:CompSc X scope x)
  (h: ∀h₁,h₁.Ns s.heap.objs.size (fun _=>Option.none)->(∀b o,s.heap.get? b=some o->h₁.get? b=some o)->(scope.names.lookup x=some .cell->h₁.IsCell (s.heap.objs.size+1) Option.none)->
   Q (newEnv scope s.heap.objs.size globals (vd scope x (s.heap.objs.size+1) cl) qual Option.none .none (some env) builtinsNs) { s with heap:=h₁ }):
  wpAny M A (newFunctionEnv scope globals cl [] qual Option.none .none (some env)) Q E s:=by
 simp only[newFunctionEnv,Option.isSome_some,if_true];refine Kb (wpAny_alloc ?_);refine Kb (wpAny_layCells _ (fun name kind cells=>by cases hkc:kind==NameKind.cell<;>simp[hkc]) _ _ _ _ ?_);rw[List.forIn_nil];refine Kb (Kc (Kc ?_));rw[show ({ s with heap:=s.heap.push { cls:=.type "dict",data:=.dict #[] } }:Shared).heap.objs.size=s.heap.objs.size+1 from Heap.size_push ..];have hc:=S.cell1;by_cases hx:scope.names.lookup x=some .cell
 ·rw[if_pos hx] at hc
  obtain⟨e1,e2⟩:=zaF (x:=x) scope.names (s.heap.objs.size+1) cl (s.heap.push { cls:=.type "dict",data:=.dict #[] }) hc
  have h':=h (pushCells (s.heap.push { cls:=.type "dict",data:=.dict #[] }) scope.names) ((Heap.Ns.new s.heap (.type "dict")).keeps (pushCells_keeps _ _)) (fun b o e=>pushCells_keeps _ _ b o (Kn _ e)) (fun _=>by
   rw[e2];have:(s.heap.push { cls:=.type "dict",data:=.dict #[] }).objs.size=s.heap.objs.size+1:=Heap.size_push ..;rw[<-this];exact⟨_,Heap.get?_push_size _ rfl,rfl⟩)
  rw[e1];unfold vd at h';rw[if_pos hx] at h';exact h'
 ·rw[if_neg hx] at hc
  obtain⟨e1,e2⟩:=zaG scope.names (s.heap.objs.size+1) cl (s.heap.push { cls:=.type "dict",data:=.dict #[] }) hc;have h':=h (pushCells (s.heap.push { cls:=.type "dict",data:=.dict #[] }) scope.names) ((Heap.Ns.new s.heap (.type "dict")).keeps (pushCells_keeps _ _)) (fun b o e=>pushCells_keeps _ _ b o (Kn _ e)) (fun z=>KG z hx);rw[e1];unfold vd at h';rw[if_neg hx] at h';exact h'
theorem CompSc.cells(S:CompSc X scope x)(ok:X.Ok): ∀y∈scope.names,y.2= .free->(X.env.cells.lookup y.1).isSome=true:=fun y hy hk=>by
 obtain⟨c,hc⟩:=ok.has y.1 (S.free y hy hk);rw[hc];rfl
theorem CompSc.look(S:CompSc X scope x)(ok:X.Ok){y:Str}{c:Addr}(h:(yu X scope x s₃ H₃ fp pins).env.cells.lookup y=some c):
  (y=x/\scope.names.lookup x=some .cell/\c=s₃.heap.objs.size+1)\/((y≠x\/scope.names.lookup x≠some .cell)/\X.env.cells.lookup y=some c):=by
 have h:(vd scope x (s₃.heap.objs.size+1) (xM X.env scope.names [])).lookup y=some c:=h
 have old:(xM X.env scope.names []).lookup y=some c->X.env.cells.lookup y=some c:=fun h=>by
  rcases Vp (S.cells ok) h with q|q
  ·cases q
  ·exact q
 unfold vd at h;split at h
 ·rename_i hc
  rw[List.lookup_cons] at h;split at h
  ·rename_i e
   cases h;exact .inl ⟨by simpa using e,hc,rfl⟩
  ·rename_i e
   exact .inr ⟨.inl (by simpa using e),old h⟩
 ·rename_i hc
  exact .inr ⟨.inr hc,old h⟩
theorem CompSc.kindOf(S:CompSc X scope x){y:Str}(h:(yu X scope x s₃ H₃ fp pins).env.kindOf y=some .cell\/(yu X scope x s₃ H₃ fp pins).env.kindOf y=some .free):scope.names.lookup y=some .free\/(y=x/\scope.names.lookup x=some .cell):=by
 rcases h with h|h
 ·rcases jV (show _=_ from h) with q|⟨_,q⟩
  ·exact .inr (S.onlyC q)
  ·exact .inl q
 ·rcases jV (show _=_ from h) with q|⟨z,q⟩
  ·exact .inl q
  ·cases z
theorem CompSc.has(S:CompSc X scope x){y:Str}(h:scope.names.lookup y=some .free): ∃c,(yu X scope x s₃ H₃ fp pins).env.cells.lookup y=some c/\(xM X.env scope.names []).lookup y=some c:=by
 obtain⟨c,hc⟩:=Option.isSome_iff_exists.mp (QD (env:=X.env) (names:=scope.names) (acc:=[]) (y:=y) (.inr (Vq h)));refine⟨c,?_,hc⟩;show (vd scope x (s₃.heap.objs.size+1) (xM X.env scope.names [])).lookup y=some c;unfold vd;split
 ·rename_i hx
  have:(y==x)=false:=by
   cases e:y==x with
   |false=>rfl
   |true=>
    have e:y=x:=by simpa using e
    subst e;rw[h] at hx;cases hx
  rw[List.lookup_cons,this];exact hc
 ·exact hc
theorem QE{env:PySem.Env}{y:Str}: ∀{names:List (Str×NameKind)},names.lookup y=some .cell->
  (names.map fun (z:Str×NameKind)=>match z with|(n,k)=>if (k==NameKind.free&&env.scope.kind== .function&&env.kindOf n==some .cell)=true then (n,NameKind.cell) else (n,k)).lookup y=some .cell
 |[],h=>by cases h
 |(n,j)::r,h=>by
  rw[List.lookup_cons] at h;rw[List.map_cons,List.lookup_cons];by_cases hc:(j==NameKind.free&&env.scope.kind== .function&&env.kindOf n==some .cell)=true
  ·simp only[hc,if_true]
   cases e:y==n with
   |true=>rfl
   |false=>rw[e] at h;exact QE h
  ·simp only[hc,Bool.false_eq_true,if_false]
   cases e:y==n with
   |true=>rw[e] at h;exact h
   |false=>rw[e] at h;exact QE h
theorem CompSc.locX(S:CompSc X scope x):zQ (yu X scope x s₃ H₃ fp pins).env.scope x:=by
 rcases S.loc with h|h
 ·exact .inl (lookup_relabel_local h)
 ·exact .inr (QE h)
theorem CompSc.fnX(S:CompSc X scope x):(yu X scope x s₃ H₃ fp pins).fn x=true\/(yu X scope x s₃ H₃ fp pins).env.scope.names.lookup x=some .local:=by
 rcases S.loc with h|h
 ·exact .inr (lookup_relabel_local h)
 ·left
  show (decide (x=x)&&decide (scope.names.lookup x=some .cell))=true;simp[h]
theorem zaH(S:CompSc X scope x)(I:Inv X pins σ H₃ s₃)(hf: ∀b∈fp,wp X pins H₃ b)(hlt: ∀b∈fp,b<s₃.heap.objs.size):(yu X scope x s₃ H₃ fp pins).Ok where
 mod:=I.ok.mod
 kind:=S.kind
 glob:=I.ok.glob
 blt:=I.ok.blt
 above:=Kg _
 inj:=fun y z c h1 h2=>by
  have old: ∀{y:Str} {c:Addr},X.env.cells.lookup y=some c->c<s₃.heap.objs.size:=fun {y c} h=>by
   obtain⟨v,o,ho,_⟩:=I.cell y c h;exact Km ho
  rcases S.look I.ok h1 with ⟨e1,_,e2⟩|⟨_,q1⟩
  ·rcases S.look I.ok h2 with ⟨e3,_,e4⟩|⟨_,q2⟩
   ·rw[e1,e3]
   ·have:=old q2;rw[e2] at this;exact KG this (Nat.not_lt.mpr (Kl _))
  ·rcases S.look I.ok h2 with ⟨e3,_,e4⟩|⟨_,q2⟩
   ·have:=old q1;rw[e4] at this;exact KG this (Nat.not_lt.mpr (Kl _))
   ·exact I.ok.inj y z c q1 q2
 has:=fun y h=>by
  rcases S.kindOf h with q|⟨q1,q2⟩
  ·obtain⟨c,hc,_⟩:=S.has (s₃:=s₃) (H₃:=H₃) (fp:=fp) (pins:=pins) q
   exact⟨c,hc⟩
  ·refine⟨s₃.heap.objs.size+1,?_⟩
   show (vd scope x (s₃.heap.objs.size+1) (xM X.env scope.names [])).lookup y=_;unfold vd;rw[if_pos q2,q1,List.lookup_cons,beq_self_eq_true]
 cab:=fun y c h hc=>by
  have h:(decide (y=x)&&decide (scope.names.lookup x=some .cell))=true:=h;rw[Bool.and_eq_true,decide_eq_true_iff,decide_eq_true_iff] at h;rcases S.look I.ok hc with ⟨_,_,e⟩|⟨q,_⟩
  ·rw[e];exact Kl _
  ·exact KG h (fun z=>q.elim (fun w=>w z.1) fun w=>w z.2)
 hd:=I.ok.hd
 frames:=I.ok.frames
 stk:=.inl rfl
 exf:=fun b hb=>⟨Ki (hlt b hb),fun y c h=>by
  rcases S.look I.ok h with ⟨_,_,e⟩|⟨_,q⟩
  ·rw[e];exact fun z=>KG (z▸hlt b hb) (Nat.not_lt.mpr (Kl _))
  ·exact (hf b hb).2.2.2.2.1 y c q⟩
 bs:=I.bs
 bsz:=Kh I.ok.bsz I.sz
 noex:=fun b o e hb=>by
  obtain⟨_,_,_,h,_⟩:=hf b hb;rcases h with h|h
  ·exact I.ok.noex b o e h
  ·exact KG (Kj (Km e) (Kh I.ok.bsz h)) (Nat.lt_irrefl _)
 exfs:=fun b hb hz=>by
  obtain⟨_,h1,h2,_⟩:=hf b hb;rcases List.mem_cons.mp (I.stkSub b hz) with e|e
  ·exact h1 e
  ·exact h2 e
 funs:=I.stack
 frf:=I.stkFree
theorem zhD{N:List Str}{i:Nat}{y:Str}(h:(vP x N)[i]? =some y): ∃z,N[i]? =some z/\((z=x/\y="")\/(z≠x/\y=z)):=by
 unfold vP at h;rw[List.getElem?_map,jo2] at h;obtain⟨z,e1,e2⟩:=h;refine⟨z,e1,?_⟩;split at e2
 ·exact .inl ⟨by assumption,e2.symm⟩
 ·exact .inr ⟨by assumption,e2.symm⟩
theorem zhE{h₁:Heap}{tk:Nat}(S:CompSc X scope x)(I:Inv X pins σ H₃ s₃)(hf: ∀b∈fp,wp X pins H₃ b)(hlt: ∀b∈fp,b<s₃.heap.objs.size)(hns:h₁.Ns s₃.heap.objs.size fun _=>Option.none)
  (hk: ∀b o,s₃.heap.get? b=some o->h₁.get? b=some o) (wS:scope.names.lookup x=some .cell->h₁.IsCell (s₃.heap.objs.size+1) Option.none):Inv (yu X scope x s₃ H₃ fp pins) [] (Option.none::σ) H₃ { s₃ with heap:=h₁,toks:=tk }:=by
 refine⟨zaH S I hf hlt,rfl,I.bare,Un.kept hk,⟨_,hns,fun i y v h1 h2 h3=>?_⟩,fun y c h=>?_,I.hok.fresh (Kg _),fun y c h=>?_,fun p hp=>?_,I.hok.kept hk,?_⟩
 ·cases i with
  |zero=>cases h2
  |succ i=>
   have h1:(vP x X.N)[i]? =some y:=h1;have h2:σ[i]? =some (some v):=h2;obtain⟨z,e1,e2⟩:=zhD h1
   have vis:scope.names.lookup y=some .local\/scope.names.lookup y=some .free:=by
    rcases h3 with q|q
    ·rcases jV (show _=_ from q) with q|⟨z,q⟩
     ·exact .inl q
     ·cases z
    ·rcases S.kindOf q with q|⟨q,_⟩
     ·exact .inr q
     ·exfalso
      rcases e2 with ⟨_,z⟩|⟨ne,z⟩
      ·have hx:x="":=q.symm.trans z
       have hn:=S.none;rw[<-hx] at hn;rcases S.loc with w|w<;>rw[hn] at w<;>cases w
      ·exact ne (z.symm.trans q)
   rcases e2 with ⟨rfl,rfl⟩|⟨ne,rfl⟩
   ·rw[S.none] at vis
    rcases vis with q|q<;>cases q
   ·rcases vis with q|q
    ·exact KG (S.own y (KA e1) q) ne
    ·have kx:=S.free _ (Vq q) rfl
     obtain⟨m,_,hl⟩:=I.loc;obtain⟨u,ru,l⟩:=hl i y v e1 h2 (.inr kx);refine⟨u,ru,.inr ⟨?_,?_⟩⟩
     ·rcases h3 with q'|q'
      ·rcases jV (show _=_ from q') with q'|⟨z,_⟩
       ·rw[q] at q';cases q'
       ·cases z
      ·exact q'
     ·rcases l with ⟨k,_⟩|⟨_,c,hc,hcell'⟩
      ·have k:X.env.scope.names.lookup y=some .local:=k
       rcases kx with z|z
       ·have z:X.env.scope.names.lookup y=some .cell:=z
        rw[z] at k;cases k
       ·have z:X.env.scope.names.lookup y=some .free:=z
        rw[z] at k;cases k
      ·obtain⟨c',hc',hc2⟩:=S.has (s₃:=s₃) (H₃:=H₃) (fp:=fp) (pins:=pins) q
       have e:X.env.cells.lookup y=some c':=by
        rcases Vp (S.cells I.ok) hc2 with q|q
        ·cases q
        ·exact q
       rw[hc] at e;cases e;obtain⟨o,ho,hd⟩:=hcell';exact⟨c,hc',o,hk _ _ ho,hd⟩
 ·rcases S.look I.ok h with ⟨_,q,e⟩|⟨_,q⟩
  ·rw[e];exact⟨Option.none,wS q⟩
  ·obtain⟨v,o,ho,hd⟩:=I.cell y c q
   exact⟨v,o,hk _ _ ho,hd⟩
 ·rcases S.look I.ok h with ⟨_,q,e⟩|⟨_,q⟩
  ·rw[e];exact I.hok.fresh (Kl _)
  ·exact I.freeC y c q
 ·have hp:p∈X.pn++pins:=by simpa [yu] using hp
  obtain⟨e,n,ne,nf,d⟩:=I.pin p hp;refine⟨hk _ _ e,n,Ki (Km e),fun z=>?_,d⟩;rcases List.mem_cons.mp (I.stkSub _ z) with q|q
  ·exact ne q
  ·exact nf q
 ·show σ.length+1=(x::vP x X.N).length
  unfold vP;rw[List.length_cons,List.length_map,I.len]
theorem zhF{s':Shared}{h':Heap}{H':Hp}{σ':St}{ps:List (Addr×Obj)}(I:Inv X pins σ H₃ s₃)(hf: ∀b∈fp,wp X pins H₃ b)(J:Inv (yu X scope x s₃ H₃ fp pins) ps σ' H' s')(hs:Heap.SameBut s₃.heap.objs.size s'.heap h'):
  Inv X pins σ H' { s' with heap:=h' }:=by
 have ne: ∀b o,s₃.heap.get? b=some o->b≠s₃.heap.objs.size:=fun b o e=>Ki (Km e)
 have fr:H' s₃.heap.objs.size=Option.none:=J.free;have same: ∀b,b≠s₃.heap.objs.size->h'.get? b=s'.heap.get? b:=fun b hb=>hs.2 b hb
 refine I.call' (s':={ s' with heap:=h' }) (ch:=fp) J.os ⟨fun b o e n hb hx=>?_,fun b o e n hb hx=>?_,fun b o e n hx=>J.base.free b o e n hx,fun b o e hx=>?_,J.base.tups,J.base.frzs,J.base.tbls⟩ (fun b o e=>?_) J.bare fun b hb=>?_
 ·exact (same b (ne b o e)).trans (J.base.keep b o e n hb hx)
 ·obtain⟨sl,q⟩:=J.base.slot b o e n hb hx
  exact⟨sl,(same b (ne b o e)).trans q⟩
 ·obtain⟨o',q⟩:=J.base.there b o e hx
  exact⟨o',(same b (ne b o e)).trans q⟩
 ·refine (J.hok b o e).stay (fun c v hc q=>(same c ?_).trans q) (fun _ q=>q) fun _ _ q=>q
  intro z;rcases hc with w|w
  ·rw[<-w,z,fr] at e;cases e
  ·rw[z,fr] at w;cases w
 ·obtain⟨_,h1,_,h3,h4,h5⟩:=hf b hb
  exact⟨h3,h1,h4,h5⟩
end
theorem zhG{prog:Program}{w:World}{A:Around}{E:Result->Shared->Prop}{s:Shared}{elt target iter:Expr}{ifs:List Expr}{scope:Scope}{pos:Pos}{it acc:Value}{env:PySem.Env}(J:Nat->Shared->Prop)
  (turn: ∀n s,J n s->wpAny (model prog w) A (pyNext it) (fun r s1=>match r with
   |Option.none=>E (.ok .next) s1
   |some v=>wpAny (model prog w) A (letOwnedTupleGo target it v) (fun _ s2=>wpAny (model prog w) A (assign target env v) (fun _ s3=>
     wpAny (model prog w) A (forIn ifs true fun c r=>if r=true then do let ok <-isTrue c env (eval c env);pure (ForInStep.yield ok) else pure (ForInStep.yield r)) (fun ok s4=>
      if ok=true then wpAny (model prog w) A (eval elt env) (fun y s5=>wpAny (model prog w) A (call (.builtin "list.append") [acc,y]) (fun _ s6=>∃m,m<n/\J m s6) (fun _ _=>False) s5) (fun _ _=>False) s4
      else ∃m,m<n/\J m s4) (fun _ _=>False) s3) (fun _ _=>False) s2) (fun _ _=>False) s1) (fun _ _=>False) s)
  (n:Nat) (h:J n s):codeAny (model prog w) A (.compLoop (.ListComp elt [⟨target,iter,ifs,0⟩] scope pos) 0 it acc env) E s:=by
 refine codeAny_loop rfl J (fun n s hJ=>?_) n h;show wpAny _ _ ((compTurn (.ListComp elt [⟨target,iter,ifs,0⟩] scope pos) 0 it acc env).onRaise _) _ _ s;refine wpAny_noted ?_;rw[compTurn_list];have no: ∀(e:Value) (s':Shared),False->notedBy (model prog w) A env (fun e s'=>E (.error e) s') e s':=fun _ _ z=>z.elim
 refine Kb (wpAny_standAt (Kb (Kd (turn n s hJ) (fun r s1 h1=>?_) no)))
 cases r with
 |none=>exact Kc h1
 |some v=>
  refine Kb (Kd h1 (fun _ s2 h2=>?_) no);refine Kb (Kd h2 (fun _ s3 h3=>Kb (Kd h3 (fun ok s4 h4=>?_) no)) no)
  cases ok with
  |false=>exact Kc ⟨rfl,h4⟩
  |true=>exact Kb (Kb (Kd h4 (fun y s5 h5=>Kb (Kd h5 (fun _ s6 h6=>Kc (Kc ⟨rfl,h6⟩)) no)) no))
theorem R.cons{K:Ka}{W:Addr->Prop}{ρ:LW.Env}{σ:St}{H:Hp}{d:D}{v:V}(r:R K W ρ σ H)(h:Rep K W H d v):R K W (some (.val d)::ρ) (some v::σ) H:=by
 refine⟨fun i e hi=>?_,fun i e hi=>?_,fun i x e hi hc=>?_,fun i j x y d e a h1 h2 c1 c2 h3 h4=>?_,r.wf,by simpa using r.len⟩
 ·cases i with
  |zero=>cases hi;exact⟨v,rfl,h⟩
  |succ i=>exact r.val i e hi
 ·cases i with
  |zero=>cases hi
  |succ i=>exact r.nol i e hi
 ·cases i with
  |zero=>cases hi;cases hc
  |succ i=>exact r.own i x e hi hc
 ·cases i with
  |zero=>cases h1;cases c1
  |succ i=>
   cases j with
   |zero=>cases h2;cases c2
   |succ j=>rw[r.inj i j x y d e a h1 h2 c1 c2 h3 h4]
noncomputable def Vr(X:Cx)(fn:Nat->List D->Option SV)(scope:Scope)(x:Str)(ifs:List Expr)(cond:E):Prop:=
 (ifs=[]/\cond= .bl true)\/∃c,ifs=[c]/\∀s₃ H₃ fp pins,IT (yu X scope x s₃ H₃ fp pins) fn c cond
section
variable {X:Cx} {fn:Nat->List D->Option SV}
theorem zhH{scope:Scope}{x:Str}{ifs:List Expr}{cond:E}{s₃:Shared}{H₃:Hp}{fp:List Addr}{pins ps:List (Addr×Obj)}{σ:St}{H:Hp}{s:Shared}{W:Addr->Prop}{ρ:LW.Env}{k:Bool}{Q:Bool->Hp->Prop}
  (hc:Vr X fn scope x ifs cond) (I:Inv (yu X scope x s₃ H₃ fp pins) ps σ H s) (hR:R X.K W ρ σ H) (he:zE fn cond ρ=some k) (q: ∀H',Same H H'->Q k H'):
  wpAny (model X.prog X.w) X.A (forIn ifs true fun c r=>if r=true then do let ok <-isTrue c (yu X scope x s₃ H₃ fp pins).env (eval c (yu X scope x s₃ H₃ fp pins).env);pure (ForInStep.yield ok) else pure (ForInStep.yield r))
   (TP (yu X scope x s₃ H₃ fp pins) ps σ Q) (fun _ _=>False) s:=by
 rcases hc with ⟨rfl,rfl⟩|⟨c,rfl,hc⟩
 ·simp only[zgX] at he
  cases he;exact wpAny_tests_nil ⟨H,I,q H (.refl H)⟩
 ·exact wpAny_tests_one ((hc s₃ H₃ fp pins).h ps s σ H Q I ⟨W,ρ,k,hR,he,q⟩)
theorem QF{test:D->Option Bool}{elt:D->Option SV}: ∀{ds out:List D},xy test elt ds=some out->out.length<=ds.length
 |[],_,h=>by simp only[xy] at h;cases h;exact Kg _
 |d::r,out,h=>by
  simp only[xy,jo1] at h;obtain⟨b,e1,e2⟩:=h
  cases b with
  |true=>
   simp only[jo1,jo2] at e2;obtain⟨_,_,_,_,l,e3,rfl⟩:=e2;have:=QF e3;simp;omega
  |false=>have:=QF e2;simp;omega
theorem zhI{scope:Scope}{x:Str}{s₃:Shared}{H₃ H':Hp}{fp:List Addr}{pins:List (Addr×Obj)}{σ:St}(S:CompSc X scope x)(I:Inv X pins σ H₃ s₃)(hf: ∀b∈fp,wp X pins H₃ b)(hlt: ∀b∈fp,b<s₃.heap.objs.size)
  (hn: ∀b∈fp,H' b=Option.none): ∀b∈fp,wp (yu X scope x s₃ H₃ fp pins) [] H' b:=fun b hb=>by
 have ok:=zaH S I hf hlt;refine⟨hn b hb,(ok.exf b hb).1,ok.exfs b hb,.inl hb,(ok.exf b hb).2,fun p hp=>?_⟩;have hp:p∈X.pn++pins:=by simpa [yu] using hp
 exact (hf b hb).2.2.2.2.2 p hp
structure CSt (X:Cx)(scope:Scope)(x:Str)(s₃:Shared)(H₃:Hp)(fp:List Addr)(pins:List (Addr×Obj))(σ:St)(tn:Nat->Heap->Prop)(H2:Hp)(W:Addr->Prop)(L:Addr)(test:D->Option Bool)(elt:D->Option SV)(ds out:List D)
  (n k:Nat) (y:Option V) (H':Hp) (ys:List V) (out1 zK:List D) (s':Shared):Prop where
 inv:Inv (yu X scope x s₃ H₃ fp pins) [] (y::σ) H' s'
 htn:tn k s'.heap
 hfp: ∀b∈fp,H' b=Option.none
 hn:n=ds.length+1-k
 hk:k<=ds.length
 same:Same H2 H'
 lst:H' L=some (.lst ys)
 reps:Reps X.K (add W L) H' out1 ys
 hrest:xy test elt (ds.drop k)=some zK
 hout:out=out1++zK
theorem zaI{iter elt:Expr}{x:Str}{px pos pos2:Pos}{ifs:List Expr}{scope:Scope}{rng:Bool}{src:Es}{cond ce:E}{pins:List (Addr×Obj)}{s:Shared}{σ:St}{H:Hp}{W:Addr->Prop}{ρ:LW.Env}{rs:List SV}{ds out:List D}{use:Option (Value->Sem Unit)}{Qe:Value->Shared->Prop}
  (hcalm:X.calm=true) (S:CompSc X scope x) (hsrc:Src X fn (.Name x px) iter rng src)
  (hcond:Vr X fn scope x ifs cond) (helt: ∀s₃ H₃ fp pins,IE (yu X scope x s₃ H₃ fp pins) fn elt ce) (hfo: ∀y,foldedSetIterable iter X.env y=pure y) (I:Inv X pins σ H s) (hR:R X.K W ρ σ H)
  (e1:zZ fn src ρ=some rs) (e2:yf rng rs=some ds) (hline:ds.length<=line) (e3:xy (fun d=>zE fn cond (some (.val d)::ρ)) (fun d=>zi fn ce (some (.val d)::ρ)) ds=some out)
  (fin: ∀(s4:Shared) (fl:Flow) (m:Str->Option Value) (C L:Addr) (H':Hp),s4.heap.Ns C m->(∀h',Heap.SameBut C s4.heap h'->Inv X pins σ H' { s4 with heap:=h' })->(X.s₀.heap.objs.size<=C/\C≠X.env.locals/\(∀y c,X.env.cells.lookup y=some c->c≠C)/\(∀p∈X.pn++pins,p.1≠C)/\H' C=Option.none)->Same H H'->
   Res X.K W H H' (.obj true (.lst out)) (.ref L)->compPost (model X.prog X.w) X.A X.xe use Qe (.ref L) C (.ok fl) s4):
  wpAny (model X.prog X.w) X.A (comprehension (.ListComp elt [⟨.Name x px,iter,ifs,0⟩] scope pos) scope X.env pos2 (newList []) false (eval iter X.env) use) Qe X.xe s:=by
 have hclos:=zhB (scope:=scope) (env:=X.env) (S.cells I.ok);refine wpAny_comprehension_free (use:=use) rfl hfo hclos S.kind S.names ?_;refine zF (hsrc.h pins s σ H (fun J H2=>Same H H2/\Ys X.K J W H2 ds) I ⟨W,ρ,rs,ds,hR,e1,e2,fun J H' s1 y _=>⟨s1,y⟩⟩) fun v s1 h1=>zF h1 fun itv s2 h2=>?_
 obtain⟨it,fp,tn,J,H2,rfl,I2,T,st2,f2,sm,hy⟩:=h2;refine wpAny_newObj_type (zhC S fun h₁ hns₁ hk₁ hc₁=>?_);have I3:=I2.lnew (t':=s2.toks) (ys:=[]) (its:=[]) .nil (Nat.zero_le _);have hD:H2 s2.heap.objs.size=Option.none:=I2.fresh;generalize hL:s2.heap.objs.size=L at hD;generalize hs3:({ s2 with heap:=s2.heap.push { cls:=.type "list",data:=.seq ([]:List Value).toArray },toks:=s2.toks }:Shared)=s₃ at I3;have hs3h:s₃.heap=s2.heap.push { cls:=.type "list",data:=.seq ([]:List Value).toArray }:=by rw[<-hs3]
 rw[hL] at I3;generalize hH3:zL H2 L (.lst [])=H₃ at I3
 have blt: ∀b∈fp,b<s2.heap.objs.size:=fun b hb=>by
  obtain⟨o,e,_⟩:=T.obj _ _ st2 b hb;exact Km e
 have hlt: ∀b∈fp,b<s₃.heap.objs.size:=fun b hb=>by rw[hs3h,Heap.size_push];exact KH (blt b hb)
 have hf: ∀b∈fp,wp X pins H₃ b:=fun b hb=>by
  refine⟨?_,(f2 b hb).2⟩;rw[<-hH3,yp (by rw[<-hL];exact Ki (blt b hb))];exact (f2 b hb).1
 have keep1: ∀b o,s₃.heap.get? b=some o->h₁.get? b=some o:=fun b o e=>by
  rw[hs3h] at e;exact hk₁ b o e
 have ns1:h₁.Ns s₃.heap.objs.size fun _=>Option.none:=by rw[hs3h];exact hns₁
 have Ic:=zhE (tk:=s2.toks) S I3 hf hlt ns1 keep1 (by rw[hs3h];exact hc₁);have fpc:=fun {H':Hp} hn=>zhI (H':=H') S I3 hf hlt hn
 have win: ∀b,add W L b->W b\/H2 b=Option.none:=fun b w=>by
  rcases w with w|rfl
  ·exact .inl w
  ·exact .inr hD
 have hRL: ∀{H':Hp} {ys:List V},Same H2 H'->H' L=some (.lst ys)->R X.K (add W L) ρ σ H':=fun {H' ys} sm' e=>(hR.same sm).add sm' hD e
 have jr:out.length<=ds.length:=QF e3
 have loop: ∀s':Shared,s'={ s₃ with heap:=h₁,toks:=s2.toks }->codeAny (model X.prog X.w) X.A (.compLoop (.ListComp elt [⟨.Name x px,iter,ifs,0⟩] scope pos) 0 (.ref it) (.ref L) (yu X scope x s₃ H₃ fp pins).env)
   (compPost (model X.prog X.w) X.A X.xe use Qe (.ref L) s₃.heap.objs.size) s':=by
  rintro s' rfl
  refine zhG (fun n s'=>∃k y H' ys out1 zK,CSt X scope x s₃ H₃ fp pins σ tn H2 W L (fun d=>zE fn cond (some (.val d)::ρ)) (fun d=>zi fn ce (some (.val d)::ρ)) ds out n k y H' ys out1 zK s') ?_ (ds.length+1)
   ⟨0,Option.none,H₃,[],[],out,Ic,T.keep _ _ _ st2 (fun b hb o e=>keep1 b o (by rw[hs3h];exact Kn _ e)),fun b hb=>(hf b hb).1,rfl,Nat.zero_le _,by rw[<-hH3];exact yQ hD _,by rw[<-hH3];exact xI,.nil,e3,rfl⟩
  rintro n s' ⟨k,y,H',ys,out1,zK,c⟩;obtain⟨hstop,hgo⟩:=hy (add W L) H' c.same win k;by_cases hk:k<ds.length
  ·have hd:ds[k]? =some ds[k]:=by simp[hk]
   obtain⟨g1,g2⟩:=hgo _ hd;have crest:=c.hrest;rw[zaB hd] at crest;simp only[xy,jo1] at crest;obtain⟨b,t1,t2⟩:=crest;refine zF (T.item (yu X scope x s₃ H₃ fp pins) rfl rfl rfl hcalm k [] s' (y::σ) H' _ c.inv (fpc c.hfp) c.htn g1) fun r s4 ⟨u,hr,h4⟩=>?_
   subst hr;refine zF h4 fun _ s5 ⟨xv,H5,I5,r5,y5,st5,fr5⟩=>?_
   obtain⟨rfl,rv⟩:=g2 xv H5 y5;have I5':=I5.pinned (fpc fr5) (T.obj _ _ st5);refine zF (JF (X:=yu X scope x s₃ H₃ fp pins) (i:=0) S.nd rfl S.locX S.fnX _ s5 (y::σ) H5 xv u (fun σ' H'=>σ'=some xv::σ/\H'=H5) I5' r5 ⟨rfl,rfl⟩) fun _ s6 ⟨σ6,H6,I6,q6,q7⟩=>?_
   subst q6 q7;have hRc:=(hRL c.same c.lst).cons rv;refine zF (zhH (Q:=fun b' H7=>b'=b/\Same H6 H7) hcond I6 hRc t1 fun H7 s7=>⟨rfl,s7⟩) fun ok s7 ⟨H7,I7,q7,m7⟩=>?_
   subst q7
   have back: ∀{s':Shared} {H':Hp},Inv (yu X scope x s₃ H₃ fp pins) ([]++ZJ fp s5.heap) (some xv::σ) H' s'->tn (k+1) s'.heap/\∀b∈fp,H' b=Option.none:=fun {s' H'} J=>by
    refine⟨T.keep _ _ _ st5 fun b hb o e=>(J.pin (b,o) (Kq _ (Kq _ (Xo hb e)))).1,fun b hb=>?_⟩;obtain⟨o,e,d⟩:=T.obj _ _ st5 b hb;exact (J.pin (b,o) (Kq _ (Kq _ (Xo hb e)))).2.1
   cases ok with
   |false=>
    rw[if_neg Ko];have bk:=back I7;exact⟨_,by have:=c.hn;omega,k+1,some xv,H7,ys,out1,zK,I7.unpinned,bk.1,bk.2,rfl,hk,c.same.trans m7,m7 _ _ c.lst,c.reps.ext (.same m7),t2,c.hout⟩
   |true=>
    rw[if_pos rfl];simp only[jo1,jo2] at t2;obtain⟨r8,t3,d8,t4,rest',t5,rfl⟩:=t2;have hR7:=hRc.same m7;refine zF ((helt s₃ H₃ fp pins).h _ s7 _ H7 (fun v H8=>Same H7 H8/\Rep X.K (add W L) H8 d8 v) I7 ⟨add W L,_,r8,hR7,t3,fun v8 H8 m8 res=>⟨m8,(res.frz hR7.wf).toD t4⟩⟩) fun u8 s8 ⟨v8,H8,I8,rl8,m8,rp8⟩=>?_
    have lst8:=m8 _ _ (m7 _ _ c.lst);have lenY:=c.reps.length;have lenT:=congrArg List.length c.hout;rw[List.length_append,List.length_cons] at lenT;have le:=ZV;refine zF (gs (X:=yu X scope x s₃ H₃ fp pins) _ s8 _ H8 (.ref L) [v8] (.ref L) [u8] (fun _ H9=>H9=zL H8 L (.lst (ys++[v8]))) I8 rfl (.cons rl8 .nil) ⟨L,ys,v8,rfl,rfl,lst8,by omega,rfl⟩) fun _ s9 ⟨_,H9,I9,_,q9⟩=>?_
    subst q9;have bk:=back I9
    have ext:Ext (add W L) H8 (add W L) (zL H8 L (.lst (ys++[v8]))):=by
     refine⟨fun b o q n=>?_,fun b zs q=>?_,fun b o u q=>?_,fun b w=>.inl w⟩
     ·rw[yp (fun z=>n (.inr z))];exact q
     ·rw[yp (fun z=>by rw[z,lst8] at q;cases q)];exact q
     ·rw[yp (fun z=>by rw[z,lst8] at q;cases q)];exact q
    have smL:Same H2 (zL H8 L (.lst (ys++[v8]))):=fun b o q=>by
     rw[yp (fun z=>by rw[z,hD] at q;cases q)];exact m8 _ _ (m7 _ _ (c.same _ _ q))
    exact⟨_,by have:=c.hn;omega,k+1,some xv,_,ys++[v8],out1++[d8],rest',I9.unpinned,bk.1,bk.2,rfl,hk,smL,xI,((c.reps.ext (.same (m7.trans m8))).ext ext).append (.cons (rp8.ext ext) .nil),t5,by rw[c.hout];simp⟩
  ·have ek:k=ds.length:=by have:=c.hk;omega
   refine zF (T.done (yu X scope x s₃ H₃ fp pins) rfl rfl rfl hcalm k [] s' (y::σ) H' _ c.inv (fpc c.hfp) c.htn (hstop ek)) fun r s4 ⟨hr,I4⟩=>?_
   subst hr;obtain⟨m,hn,_⟩:=I4.loc;have er:=c.hrest;rw[List.drop_of_length_le (by omega),xy] at er;cases er;have eo:=c.hout;rw[List.append_nil] at eo;refine fin s4 _ m _ L H' hn (fun h' hs=>zhF I3 hf I4 hs) ⟨I3.sz,(Ki I3.lt).symm,fun y cc hc=>?_,fun p hp=>?_,I4.free⟩ (sm.trans c.same) (by rw[eo];exact .new (sm.free hD) c.lst (.lst c.reps))
   ·obtain⟨v,o,ho,_⟩:=I3.cell y cc hc
    exact Ki (Km ho)
   ·exact Ki (Km (I3.pin p hp).1)
 have st0:tn 0 h₁:=T.keep _ _ _ st2 (fun b hb o e=>keep1 b o (by rw[hs3h];exact Kn _ e));subst hs3 hL;exact codeAny_compStart_list (loop _ rfl) (T.self X.A 0 _ _ _ st0 (loop _ rfl))
theorem ww{iter elt:Expr}{x:Str}{px pos:Pos}{ifs:List Expr}{scope:Scope}{rng:Bool}{src:Es}{cond ce:E}(hcalm:X.calm=true)(S:CompSc X scope x)(hsrc:Src X fn (.Name x px) iter rng src)
  (hcond:Vr X fn scope x ifs cond) (helt: ∀s₃ H₃ fp pins,IE (yu X scope x s₃ H₃ fp pins) fn elt ce) (hfo: ∀y,foldedSetIterable iter X.env y=pure y:=by intro _;rfl):
  IE X fn (.ListComp elt [⟨.Name x px,iter,ifs,0⟩] scope pos) (.comp rng src cond ce):=by
 refine .mk ?_;rintro pins s σ H Q I ⟨W,ρ,r,hR,he,q⟩;simp only[XM,jo1] at he;obtain⟨rs,e1,ds,e2,e3⟩:=he;split at e3
 case isFalse=>cases e3
 rename_i hline;rw[jo2] at e3;obtain⟨out,e3,rfl⟩:=e3;rw[eval_ListComp];refine zaI (use:=Option.none) hcalm S hsrc hcond helt hfo I hR e1 e2 hline e3 fun s4 fl m C L H' hn back _ sm res=>?_
 exact⟨m,hn,fun h' hs=>⟨.ref L,H',back h' hs,rfl,q _ H' sm res⟩⟩
theorem zhJ(i:Nat){fa:Nat->List D->Option Ans}{fuel:Nat}{iter elt:Expr}{x y:Str}{px py pos spos:Pos}{ifs:List Expr}{scope:Scope}{rng:Bool}{src:Es}{cond ce:E}(hcalm:X.calm=true)(hN:X.N.Nodup)(hi:X.N[i]? =some y)(hy:X.env.scope.names.lookup y=some .local)(S:CompSc X scope x)(hsrc:Src X (zC fa) (.Name x px) iter rng src)
  (hcond:Vr X (zC fa) scope x ifs cond) (helt: ∀s₃ H₃ fp pins,IE (yu X scope x s₃ H₃ fp pins) (zC fa) elt ce)
  (hsw:swapsWith (.ListComp elt [⟨.Name x px,iter,ifs,0⟩] scope pos) (some (.Name y py)) spos.line X.env=pure true:=by rfl) (hfo: ∀y,foldedSetIterable iter X.env y=pure y:=by intro _;rfl):
  IS X (zJ fa fuel (.asg i (.comp rng src cond ce))) (.Assign [.Name y py] (.ListComp elt [⟨.Name x px,iter,ifs,0⟩] scope pos) spos):=by
 refine .mk ?_;rintro pins s σ H D0 I ⟨W,ρ,z,hR,hz,q⟩;simp only[gM,jo1] at hz;obtain⟨r,he,hz⟩:=hz;split at hz
 case isTrue=>cases hz
 rename_i hl;cases hz;simp only[Bool.not_eq_true,Bool.or_eq_false_iff,Bool.not_eq_false'] at hl;simp only[XM,jo1] at he;obtain⟨rs,e1,ds,e2,e3⟩:=he;split at e3
 case isFalse=>cases e3
 rename_i hline;rw[jo2] at e3;obtain⟨out,e3,rfl⟩:=e3;rw[exec_Assign_Name_used _ _ _ _ hsw];refine Kb (wpAny_standAt (Kb ?_));show wpAny _ X.A (do let _ <-comprehension (.ListComp elt [⟨.Name x px,iter,ifs,0⟩] scope pos) scope X.env _ (newList []) false (eval iter X.env) (some (assign (.Name y py) X.env))) _ _ s;refine Kb (Kd (zaI (use:=some (assign (.Name y py) X.env)) (Qe:=fun _ s'=>SP X pins D0 .next s') hcalm S hsrc hcond helt hfo I hR e1 e2 hline e3 fun s4 fl m C L H' hn back cf sm res=>?_) (fun _ s' hq=>Kc (Kc hq)) fun _ _ e=>e);have I4:Inv X pins σ H' s4:=back s4.heap ⟨rfl,fun _ _=>rfl⟩;refine wpAny_assign_Name (qw I4 hN hi (.inl hy) (v:=.ref L) rfl (fun s5 I5 ⟨a,hs5,ha⟩=>?_) (.inr hy))
 have haC:a≠C:=by
  rcases ha with rfl|ha
  ·exact fun z=>cf.2.1 z.symm
  ·exact cf.2.2.1 _ _ ha
 have hnC:s5.heap.Ns C m:=by
  obtain⟨o,es,ep,ho,hrest⟩:=hn;exact⟨o,es,ep,(hs5.2 C (Ne.symm haC)).trans ho,hrest⟩
 refine⟨m,hnC,fun h' hs=>?_⟩
 have I6:Inv X pins (σ.set i (some (.ref L))) H' { s5 with heap:=h' }:=by
  refine I5.call' (s':={ s5 with heap:=h' }) (ch:=[C]) rfl ⟨fun b o e n hb hx=>?_,fun b o e n hb hx=>?_,fun b o e n hx=>n,fun b o e hx=>?_,fun _ _ q=>q,fun _ _ _ q=>q,fun _ ps q=>⟨#[],by simpa using q⟩⟩ ?_ I5.bare fun b hb=>?_
  ·exact (hs.2 b (by simpa using hx)).trans e
  ·exact⟨o.slots,(hs.2 b (by simpa using hx)).trans e⟩
  ·exact⟨o,(hs.2 b (by simpa using hx)).trans e⟩
  ·intro b o e
   refine (I5.hok b o e).stay (fun c v hc q=>(hs.2 c ?_).trans q) (fun _ q=>q) fun _ _ q=>q
   intro z;rcases hc with w|w
   ·rw[<-w,z,cf.2.2.2.2] at e;cases e
   ·rw[z,cf.2.2.2.2] at w;cases w
  ·have e:b=C:=by simpa using hb
   subst e;exact⟨.inr cf.1,cf.2.1,cf.2.2.1,cf.2.2.2.1⟩
 cases res with
 |new h e r=>exact⟨_,H',I6,q _ _ H' (zas hR sm h e r (vv hl.2))⟩
end
end L2.LW
set_option maxHeartbeats 4000000
namespace L2.LW
open PySem PySem.Spec PyProof.Rows
noncomputable def Yb:Ty->String
 | .bool=>"bool"| .int=>"int"| .str=>"str"| .list=>"list"| .tuple=>"tuple"
noncomputable def zhK:D->String
 | .int _=>"int"| .bl _=>"bool"| .non=>"NoneType"| .str _=>"str"| .tup _=>"tuple"| .lst _=>"list"| .dct _ _ _=>"dict"| .dcd _=>"dict"
theorem zhL(K:Ka)(d:D)(t:Ty):PySem.W.kitOne K (.type (zhK d)) (.type (Yb t))=some (wb t d):=by
 cases d<;>cases t<;>rfl
section
variable {X:Cx} {fn:Nat->List D->Option SV}
theorem zhM{pins:List (Addr×Obj)}{σ:St}{H:Hp}{s:Shared}{W:Addr->Prop}{A:Around}{E Q:Value->Shared->Prop}{d:D}{x:V}{u:Value}{t:Ty}(I:Inv X pins σ H s)(h:Sees X.K W H d x)(r:RelV x u)
  (q: ∀tk,Q (.bool (wb t d)) { s with toks:=tk }):wpAny (model X.prog X.w) A (call (.builtin "isinstance") [u,.type (Yb t)]) Q E s:=by
 have e:=zhL X.K d t
 cases d with
 |int i=>cases h.int;obtain⟨tk,rfl⟩:=r;exact PySem.W.kia_one PySem.W.kitx_int I.kIn True.intro e (fun z=>nomatch z) q
 |bl b=>cases h.bl;cases r;exact PySem.W.kia_one PySem.W.kitx_bool I.kIn True.intro e (fun z=>nomatch z) q
 |non=>cases h.non;cases r;exact PySem.W.kia_one PySem.W.kitx_none I.kIn True.intro e (fun z=>nomatch z) q
 |str y=>cases h.str;obtain⟨tk,rfl⟩:=r;exact PySem.W.kia_one PySem.W.kitx_str I.kIn True.intro e (fun z=>nomatch z) q
 |tup l=>
  obtain⟨a,xs,rfl,hq,_⟩:=h.tup;cases r;obtain⟨its,rv,⟨o,ho,hc,n,hd⟩,hz⟩:=I.tuple hq;exact PySem.W.kia_one PySem.W.kitx_tuple I.kIn ⟨o,ho,hc⟩ e (fun z=>nomatch z) q
 |lst l=>
  obtain⟨a,xs,rfl,hq,_⟩:=h.lst;cases r;obtain⟨its,rv,⟨o,n,ho,hc,_,hd⟩,hz⟩:=I.list hq;exact PySem.W.kia_one PySem.W.kitx_list I.kIn ⟨o,ho,hc⟩ e (fun z=>nomatch z) q
 |dct b ks vs=>
  cases b with
  |false=>
   obtain⟨a,ns,ys,rfl,_,hH,_⟩:=h.dK;cases r;obtain⟨_,_,vs,_,ob,_,_,h1,h2,_⟩:=jF I.hok (.inl hH);exact PySem.W.kia_one PySem.W.kitx_dict I.kIn ⟨ob,h1,h2.1⟩ e (fun z=>nomatch z) q
  |true=>
   obtain⟨a,ns,ys,rfl,_,hH,_⟩:=h.dT;cases r;obtain⟨_,_,xs,_,ob,_,_,h1,h2,_⟩:=jH I.hok (.inl hH);exact PySem.W.kia_one PySem.W.kitx_dict I.kIn ⟨ob,h1,h2.1⟩ e (fun z=>nomatch z) q
 |dcd kvs=>
  obtain⟨a,rfl,hH⟩:=h.dD;cases r;obtain⟨_,_,xs,_,ob,_,_,h1,h2,_⟩:=ZM I.hok hH;exact PySem.W.kia_one PySem.W.kitx_dict I.kIn ⟨ob,h1,h2.1⟩ e (fun z=>nomatch z) q
theorem zhN(t:Ty):CallR X (.builtin "isinstance") (fun xs H Q=>∃x,xs=[x,.ty (Yb t)]/\VR X.K (zh (.inst t)) [x] H Q):=by
 rintro pins s σ H xs us Q I rv ⟨x,rfl,W,ds,r,wf,hs,hf,q⟩;obtain⟨d,rfl,h1⟩:=Qi hs;replace hf:gC t [d]=some r:=hf;cases hf;obtain⟨u,w',rfl,r1,r2⟩:=JL rv;cases r2;exact zhM I h1 r1 fun tk=>⟨.bl _,H,I.tok tk,rfl,q _ H (.refl H) (.val (.bl _))⟩
theorem jW{a:Expr}{ca:E}{t:Ty}{y:Str}{p p2 pos:Pos}(hg:Gl X "isinstance")(hm:X.mg "isinstance"=Option.none)(hg2:Gl X y)(hm2:X.mg y=Option.none)(hv:bootBuiltins y=some (.type (Yb t)))(ha:IE X fn a ca)
  (hn:y≠"__name__":=by decide) (hdb:(y==("__debug__":Str))=false:=by decide)
  (h1:starEach [a,.Name y p2] X.env=(false,eval a X.env)::starEach [.Name y p2] X.env:=by rfl) (h2:starEach [.Name y p2] X.env=(false,eval (.Name y p2) X.env)::starEach [] X.env:=by rfl)
  (hpl:(backTo pos (starEach [.Name y p2] X.env)).any (·.1)=false:=by rfl):
  IE X fn (.Call (.Name "isinstance" p) [a,.Name y p2] [] pos) (.prim (.inst t) (.cons ca .nil)):=
 .mk <| (Xr (zhN t) hg hm PyProof.Rows.boot_isinstance (xU ha.v (xU (zeY hg2 hm2 hv (v:=.ty (Yb t)) rfl hn hdb) vG h2) h1) (by decide) (by decide) h1 hpl).imp fun σ H Q zz3=>by
  obtain⟨W,ρ,r,hR,he,q⟩:=zz3;simp only[wY,wJ,wK,jo1,jo2] at he;obtain⟨rs,⟨r1,e1,rs',e3,rfl⟩,e4⟩:=he;cases e3;exact⟨W,ρ,r1,hR,e1,fun v1 H1 s1 f1=>⟨v1,rfl,Va hR s1 (.cons f1 .nil) e4 q⟩⟩
theorem zaJ(l:List Int):(vq l).Perm l:=List.mergeSort_perm _ _
theorem zhO(l:List Int):(vq l).Pairwise (· <= ·):=by
 have h:=List.pairwise_mergeSort (le:=fun (a b:Int)=>decide (a<=b)) (fun a b c h1 h2=>by simp at*;omega) (fun a b=>by simp;omega) l;exact h.imp fun h=>by simpa using h
theorem zhP{ds:List D}{ns:List Int}{pins:List (Addr×Obj)}{s:Shared}{σ:St}{H:Hp}{xs:List V}{us:List Value}{Q:VK}(I:Inv X pins σ H s)(rv:Vals xs us)
  {W:Addr->Prop} {l:List D} (hs:Paired (Sees X.K W H) [.lst l] xs) (e1:ints? l=some ns) (h64:ns.length<64) (q: ∀v H',Same H H'->Res X.K W H H' (.obj true (.lst ((vq ns).map .int))) v->Q v H'):
  wpAny (model X.prog X.w) X.A (call (.builtin "sorted") us) (EP X pins σ Q) X.xe s:=by
 cases hs with
 |cons h1 t=>
  cases t;obtain⟨p,ys,rfl,hp,rp⟩:=h1.lst;have ey:=rp.ofInts e1;subst ey;obtain⟨u,rfl,ru⟩:=wT rv;cases ru;obtain⟨its,rv',pl,hz⟩:=I.list hp;have hi:=je rv';have hlen:=rv'.length;rw[List.length_map] at hlen;refine sorted_ints pl.isList hi (by omega) fun out ns' a1 a2 a3=>?_
  have en:ns'=vq ns:=PySem.W.ksm_same (a2.trans (zaJ ns).symm) a3 (zhO ns);subst en;obtain⟨e,he⟩:=sortedAll_at s.heap its out;have hl2:=(zaJ ns).length_eq;have fr:H (s.heap.objs.size+1)=Option.none:=I.hok.fresh (Kl _);refine⟨.ref (s.heap.objs.size+1),zL H (s.heap.objs.size+1) (.lst ((vq ns).map V.int)),I.laid (t':=s.toks) (fun _ _=>sortedAll_old) (Kl _) ⟨?_,out.toList,e,JQ a1,?_⟩,rfl,q _ _ (yQ fr _) (vJ fr (.ints _))⟩
  ·rw[List.length_map];exact Nat.le_of_lt (ZN (by omega))
  ·simpa [seqObj] using he
theorem zaK{K:Ka}{W:Addr->Prop}{H:Hp}: ∀{ds:List D} {xs:List V} {bs:List Bool},Reps K W H ds xs->bools? ds=some bs->xs=bs.map V.bl
 |_,_,bs,.nil,e=>by simp[bools?] at e;subst e;rfl
 |_,_,bs,.cons h t,e=>by
  cases h with
  |bl i=>
   simp only[bools?,jo2] at e;obtain⟨ms,e1,rfl⟩:=e;rw[zaK t e1];rfl
  |_=>simp[bools?] at e
theorem zaL: ∀{bs:List Bool} {us:List Value},Vals (bs.map V.bl) us->us=bs.map Value.bool
 |[],us,r=>by cases r;rfl
 |b::bs,us,r=>by
  cases r with
  |cons h t=>cases h;rw[zaL t];rfl
theorem zhQ(bs:List Bool):((List.range bs.length).all fun i=>bs.getD i true)=bs.all id:=by
 induction bs with
 |nil=>rfl
 |cons b r ih=>
  rw[List.length_cons,List.range_succ_eq_map,List.all_cons,List.all_map,List.all_cons];simp only[Function.comp_def,List.getD_cons_succ,List.getD_cons_zero];rw[ih];rfl
theorem zaM(hc:X.calm=true):CallR X (.builtin "all") (VR X.K (zh .all)):=by
 rintro pins s σ H xs us Q I rv ⟨W,ds,r,wf,hs,hf,q⟩;replace hf:XF ds=some r:=hf;unfold XF at hf;split at hf
 ·rename_i l
  rw[jo1] at hf;obtain⟨bs,e1,hf⟩:=hf;cases hf
  cases hs with
  |cons h1 t=>
   cases t;obtain⟨p,ys,rfl,hp,rp⟩:=h1.lst;have ey:=zaK rp e1;subst ey;obtain⟨u,rfl,ru⟩:=wT rv;cases ru;obtain⟨its,rv',pl,hz⟩:=I.list hp;have ei:=zaL rv';subst ei;obtain⟨o,n,ho,hcl,hdi,hda⟩:=id pl;have hne:p≠s.heap.objs.size:=Ki (Km ho);refine call_all_walk (wpAny_pyIter_list pl.isList ?_);refine⟨s.heap.objs.size,_,_,_,_,_,fun i=>bs.getD i true,rfl,Walks.list (A:=X.A.in1) (I.ok.hd hc) s.heap.objs.size p hne (bs.map Value.bool).toArray,⟨⟨_,Heap.get?_push_size _ rfl,rfl,rfl⟩,⟨o,Kn _ ho,hcl,n,hda⟩⟩,?_,fun h' tk hk=>?_⟩
   ·intro i v s' Q' E' hv hQ
    have hv:(bs.map Value.bool).toArray[i]? =some v:=hv;rw[List.getElem?_toArray,List.getElem?_map,jo2] at hv;obtain⟨b,e2,rfl⟩:=hv;have e3:bs.getD i true=b:=by rw[List.getD_eq_getElem?_getD,e2];rfl
    have hQ:Q' (bs.getD i true) s':=hQ;rw[e3] at hQ;exact wpAny_truthy_bool hQ
   ·rw[List.size_toArray,List.length_map,zhQ]
    refine⟨.bl _,H,I.kept (t':=tk) (fun b o' e=>?_),rfl,q _ H (.refl H) (.val (.bl _))⟩;exact hk b o' (by simpa using Ki (Km e)) (Kn _ e)
 ·cases hf
theorem zhR(xs:List V)(k:Int)(hk:0<=k):wU xs Option.none (some k)=xs.take k.toNat:=by
 obtain⟨n,rfl⟩:=Int.eq_ofNat_of_zero_le hk;unfold wU;rw[HT.sIx_none,HT.sIx_nat,List.drop_zero,Nat.sub_zero,Int.toNat_natCast];rcases Nat.le_total n xs.length with h|h
 ·rw[Nat.min_eq_left h]
 ·rw[Nat.min_eq_right h,List.take_of_length_le (Kg _),List.take_of_length_le h]
theorem zhS{a b:Expr}{ca cb:E}{p pos:Pos}(ha:IE X fn a ca)(hb:IE X fn b cb):IE X fn (.Subscript a (.Slice Option.none (some b) Option.none p) pos) (.prim .cutTo (.cons ca (.cons cb .nil))):=
 .mk <| (gd zgm ha.v gb (gc hb.v)).imp fun σ H Q zz3=>by
  obtain⟨W,ρ,r,hR,he,q⟩:=zz3;simp only[wY,wJ,wK,jo1,jo2] at he;obtain⟨rs,⟨r1,e1,rs',⟨r2,e2,rs'',e3,rfl⟩,rfl⟩,e4⟩:=he;cases e3;refine⟨W,ρ,r1,hR,e1,fun v1 H1 s1 f1=>⟨W,ρ,r2,hR.same s1,e2,fun v2 H2 s2 f2=>?_⟩⟩;replace e4:XG [zI r1,zI r2]=some r:=e4;unfold XG at e4;split at e4
  ·rename_i l k z
   have h1:=(f1.same s2).sees;have h2:=f2.sees;injection z with z1 z2;injection z2 with z2 _;rw[z1] at h1;rw[z2] at h2;split at e4
   ·rename_i hk
    cases e4;obtain⟨p,xs,rfl,hp,rp⟩:=h1.lst;cases h2.int;refine⟨k,rfl,p,xs,rfl,hp,fun p' hp'=>?_⟩;rw[zhR xs k hk];have s12:=s1.trans s2;exact q _ _ (s12.trans (yQ hp' _)) ((vJ hp' (rp.take _)).back s12)
   ·cases e4
  ·cases e4
theorem yR{scope:Scope}{env:PySem.Env}{y:Str}(h:scope.names.lookup y=some .free):zq (relabel scope env) y:=by
 unfold zq relabel
 have key: ∀(names:List (Str×NameKind)),names.lookup y=some .free->
   (names.map fun (z:Str×NameKind)=>match z with|(n,k)=>if (k==NameKind.free&&env.scope.kind== .function&&env.kindOf n==some .cell)=true then (n,NameKind.cell) else (n,k)).lookup y=some .cell\/
   (names.map fun (z:Str×NameKind)=>match z with|(n,k)=>if (k==NameKind.free&&env.scope.kind== .function&&env.kindOf n==some .cell)=true then (n,NameKind.cell) else (n,k)).lookup y=some .free:=by
  intro names
  induction names with
  |nil=>intro h;cases h
  |cons z r ih=>
   obtain⟨n,j⟩:=z;intro h;rw[List.lookup_cons] at h;rw[List.map_cons,List.lookup_cons];by_cases hc:(j==NameKind.free&&env.scope.kind== .function&&env.kindOf n==some .cell)=true
   ·simp only[hc,if_true]
    cases e:y==n with
    |true=>exact .inl rfl
    |false=>rw[e] at h;exact ih h
   ·simp only[hc,Bool.false_eq_true,if_false]
    cases e:y==n with
    |true=>rw[e] at h;exact .inr h
    |false=>rw[e] at h;exact ih h
 exact .inr (key scope.names h)
theorem yq{scope:Scope}{env:PySem.Env}{y:Str}(h:scope.names.lookup y=some .local):zq (relabel scope env) y:=.inl (lookup_relabel_local h)
theorem jX{scope:Scope}{env:PySem.Env}{y:Str}(h:scope.names.lookup y=some .globalImplicit):(relabel scope env).names.lookup y=some .globalImplicit:=by
 unfold relabel
 have key: ∀(names:List (Str×NameKind)),names.lookup y=some .globalImplicit->
   (names.map fun (z:Str×NameKind)=>match z with|(n,k)=>if (k==NameKind.free&&env.scope.kind== .function&&env.kindOf n==some .cell)=true then (n,NameKind.cell) else (n,k)).lookup y=some .globalImplicit:=by
  intro names
  induction names with
  |nil=>intro h;cases h
  |cons z r ih=>
   obtain⟨n,j⟩:=z;intro h;rw[List.lookup_cons] at h;rw[List.map_cons,List.lookup_cons];by_cases hc:(j==NameKind.free&&env.scope.kind== .function&&env.kindOf n==some .cell)=true
   ·simp only[hc,if_true]
    cases e:y==n with
    |true=>
     rw[e] at h;have h:j= .globalImplicit:=Kp h;rw[h] at hc;simp at hc
    |false=>rw[e] at h;exact ih h
   ·simp only[hc,Bool.false_eq_true,if_false]
    cases e:y==n with
    |true=>rw[e] at h;exact h
    |false=>rw[e] at h;exact ih h
 exact key scope.names h
noncomputable def zaN(sc:Scope)(N:List Str)(scope:Scope)(x:Str):Bool:=
 decide (scope.kind= .function)&&(decide (scope.names.lookup x=some .local)||decide (scope.names.lookup x=some .cell))&&scope.names.all (fun y=> !decide (y.2= .local)||decide (scope.names.lookup y.1=some .local))&&
 decide (scope.names.filter (fun y=>y.2== .cell)=if scope.names.lookup x=some .cell then [(x,.cell)] else [])&&
 scope.names.all (fun y=> !decide (y.2= .free)||(decide (sc.names.lookup y.1=some .cell)||decide (sc.names.lookup y.1=some .free)))&&N.all (fun y=> !decide (scope.names.lookup y=some .local)||decide (y=x))&&
 decide (scope.names.lookup ("":Str)=Option.none)&&decide ((x::vP x N).Nodup)
theorem wg{scope sc:Scope}{N:List Str}{x:Str}(hs:X.env.scope=sc)(hN:X.N=N)(h:zaN sc N scope x=true):CompSc X scope x:=by
 subst hs hN;simp only[zaN,Bool.and_eq_true,decide_eq_true_eq,List.all_eq_true,Bool.or_eq_true,Bool.not_eq_true',decide_eq_false_iff_not] at h;obtain⟨⟨⟨⟨⟨⟨⟨h1,h2⟩,h3⟩,h4⟩,h5⟩,h6⟩,h7⟩,h8⟩:=h;exact⟨h1,h2,fun y hy e=>(h3 y hy).resolve_left fun z=>z e,h4,fun y hy e=>(h5 y hy).resolve_left fun z=>z e,fun y hy e=>(h6 y hy).resolve_left fun z=>z e,h7,h8⟩
end
end L2.LW
set_option maxHeartbeats 4000000
namespace L2.LW
open PySem PySem.Spec PyProof.Rows
section
variable {Pg:Program} {w:World} {K:Ka} {mg:Str->Option Value} {base:Heap} {f:Addr} {fd:FuncData} {ps:List Str} {P:Nat->Option Fn} {fuel i n k:Nat}
theorem zaO{io:List Nat}(h: ∀ds,zn P fuel n i ds=Option.none):FnOk Pg w K mg base zA k f fd ps (zW K (zn P fuel n) i io):=by
 have no: ∀vs H Q E,¬zW K (zn P fuel n) i io vs H Q E:=fun vs H Q E zz4=>by
  obtain⟨W,ds,r,outs,_,_,e,_⟩:=zz4;rw[h ds] at e;cases e
 exact⟨fun vs H Q E z=>KG z (no vs H Q E),fun A outer s H args us vs Q E _ _ _ _ z=>KG z (no vs H Q E)⟩
theorem zhT{io:List Nat}:FnOk Pg w K mg base zA k f fd ps (zW K (zn P fuel 0) i io):=zaO fun _=>rfl
theorem yZ{io:List Nat}(h:P i=Option.none):FnOk Pg w K mg base zA k f fd ps (zW K (zn P fuel (n+1)) i io):=zaO fun ds=>by rw[zn,h];rfl
theorem zhU{H:Hp}{a:Addr}{ns:List Int}{E:XK}(h:zS P fuel n i [.lst (ns.map D.int)]=some (.val (.bl true)))(hS:SqL K H a (ns.map V.int)):zW K (zn P fuel n) i [] [.ref a] H (fun v _=>v= .bl true) E:=by
 refine⟨fun _=>False,[.lst (ns.map D.int)],.val (.bl true),[],fun _ z=>z.elim,(Reps.cons (.lst ?_ (.ints ns)) .nil).get',zap h,fun v H' _ _ r=>?_⟩
 ·rcases hS with hS|hS
  ·exact .inl ⟨fun z=>z,hS⟩
  ·exact .inr hS
 ·cases r with
  |val r=>cases r;rfl
end
end L2.LW
set_option maxHeartbeats 4000000
namespace L2.LW
open PySem PySem.Spec PyProof.Rows
section
variable {X:Cx} {fn:Nat->List D->Option SV} {fa:Nat->List D->Option Ans} {fuel:Nat} {a b c e:Expr} {ca cb cc ce:E} {es:List Expr} {cs:Es} {pos p:Pos} {x:Str} {st:Stmt} {sts:List Stmt} {s:S} {ss s1 s2:Ss}
theorem zhV(t:Bool):IE X fn (.Dict [] [] pos) (.dnew t):=by
 cases t with
 |false=>
  refine .mk (gz.imp fun σ H Q ⟨W,ρ,r,hR,he,q⟩=>?_);simp only[gG] at he;cases he;exact fun p hp=>q _ _ (yQ hp _) (.new hp xI (.dK (ns:=[]) (ys:=[]) rfl .nil))
 |true=>
  refine .mk (gA.imp fun σ H Q ⟨W,ρ,r,hR,he,q⟩=>?_);simp only[gG] at he;cases he;exact fun p hp=>q _ _ (yQ hp _) (.new hp xI (.dT (ns:=[]) (ys:=[]) rfl .nil))
theorem zaP(i:Int)(v:V): ∀{ns:List Int} {ys:List V},ns.length=ys.length->(xE ns ys).map (fun kv=>if kv.1=Sum.inl i then (kv.1,v) else kv)=xE ns (List.zipWith (fun n y=>if n=i then v else y) ns ys)
 |[],[],_=>rfl
 |n::ns,y::ys,h=>by
  have ih:=zaP i v (ns:=ns) (ys:=ys) (by simpa using h);show (if (Sum.inl n:zy)=Sum.inl i then ((Sum.inl n:zy),v) else (Sum.inl n,y))::(xE ns ys).map _=(Sum.inl n,if n=i then v else y)::xE ns _;rw[ih];by_cases e:n=i<;>simp[e]
theorem zaQ(i:List Int)(v:V): ∀{ns:List (List Int)} {ys:List V},ns.length=ys.length->(xF ns ys).map (fun kv=>if kv.1=i.map Sum.inl then (kv.1,v) else kv)=xF ns (List.zipWith (fun n y=>if n=i then v else y) ns ys)
 |[],[],_=>rfl
 |n::ns,y::ys,h=>by
  have ih:=zaQ i v (ns:=ns) (ys:=ys) (by simpa using h);show (if (n.map Sum.inl:List zy)=i.map Sum.inl then ((n.map Sum.inl:List zy),v) else (n.map Sum.inl,y))::(xF ns ys).map _=(n.map Sum.inl,if n=i then v else y)::xF ns _;rw[ih];by_cases e:n=i
  ·simp[e]
  ·have: ¬((n.map Sum.inl:List zy)=i.map Sum.inl):=fun z=>e (gW z)
   simp[e,this]
theorem zaR{K:Ka}{W:Addr->Prop}{H:Hp}{d:D}{v:V}(rv:Rep K W H d v)(i:Int): ∀{ns:List Int} {vs:List D} {ys:List V},Reps K W H vs ys->Reps K W H (List.zipWith (fun k' v'=>if zO k' (.int i) then d else v') (ns.map D.int) vs) (List.zipWith (fun n y=>if n=i then v else y) ns ys)
 |[],_,_,_=>by simp;exact .nil
 |n::ns,_,_,.nil=>by simp;exact .nil
 |n::ns,_,_,.cons h t=>by
  have ih:=zaR rv i (ns:=ns) t;simp only[List.map_cons,List.zipWith_cons_cons];refine .cons ?_ ih;by_cases e:n=i
  ·simp[e,zO];exact rv
  ·simp[e,zO];exact h
theorem zaS{K:Ka}{W:Addr->Prop}{H:Hp}{d:D}{v:V}(rv:Rep K W H d v)(i:List Int): ∀{ns:List (List Int)} {vs:List D} {ys:List V},Reps K W H vs ys->Reps K W H (List.zipWith (fun k' v'=>if zO k' (kT i) then d else v') (ns.map kT) vs) (List.zipWith (fun n y=>if n=i then v else y) ns ys)
 |[],_,_,_=>by simp;exact .nil
 |n::ns,_,_,.nil=>by simp;exact .nil
 |n::ns,_,_,.cons h t=>by
  have ih:=zaS rv i (ns:=ns) t;simp only[List.map_cons,List.zipWith_cons_cons];refine .cons ?_ ih;have:zO (kT n) (kT i)=decide (n=i):=by simp[kT,zO,XR]
  rw[this];by_cases e:n=i
  ·simp[e];exact rv
  ·simp[e];exact h
theorem zhW{K:Ka}{W:Addr->Prop}{H:Hp}{ns:List Int}{ys:List V}{vs:List D}{d:D}{v:V}(h:ns.length=ys.length)(r:Reps K W H vs ys)(i:Int)(rv:Rep K W H d v):
  ORep K W H (xX false (ns.map D.int) vs (.int i) d) (.dK (yv (xE ns ys) (.inl i) v)):=by
 unfold yv xX;rw[jE,Qn h];split
 ·rw[zaP i v h]
  exact .dK (by simp[h]) (zaR rv i r)
 ·have e:xE ns ys++[(Sum.inl i,v)]=xE (ns++[i]) (ys++[v]):=by
   unfold xE;rw[List.map_append,List.zip_append (by simpa using h)];rfl
  rw[e];have:=ORep.dK (K:=K) (W:=W) (H:=H) (ns:=ns++[i]) (ys:=ys++[v]) (by simp[h]) (r.append (.cons rv .nil));rw[List.map_append] at this;exact this
theorem zhX{K:Ka}{W:Addr->Prop}{H:Hp}{ns:List (List Int)}{ys:List V}{vs:List D}{d:D}{v:V}(h:ns.length=ys.length)(r:Reps K W H vs ys)(i:List Int)(rv:Rep K W H d v):
  ORep K W H (xX true (ns.map kT) vs (kT i) d) (.dT (yv (xF ns ys) (i.map Sum.inl) v)):=by
 unfold yv xX;rw[jE,Qo h];split
 ·rw[zaQ i v h]
  exact .dT (by simp[h]) (zaS rv i r)
 ·have e:xF ns ys++[(i.map Sum.inl,v)]=xF (ns++[i]) (ys++[v]):=by
   unfold xF;rw[List.map_append,List.zip_append (by simpa using h)];rfl
  rw[e];have:=ORep.dT (K:=K) (W:=W) (H:=H) (ns:=ns++[i]) (ys:=ys++[v]) (by simp[h]) (r.append (.cons rv .nil));rw[List.map_append] at this;exact this
theorem zhY{ns:List Int}{ys:List V}(h:ns.length=ys.length):(xE ns ys).length=ns.length:=by simp[xE,h]
theorem zhZ{ns:List (List Int)}{ys:List V}(h:ns.length=ys.length):(xF ns ys).length=ns.length:=by simp[xF,h]
theorem zh0(k:List (List Int))(i:Int)(kvs:List (List (List Int)×Int)):wu (vr kvs k i)=yv (wu kvs) k (V.int i):=by
 unfold yv vr;rw[jE,XV,Option.isSome_map];split
 ·unfold wu
  rw[List.map_map,List.map_map];apply List.map_congr_left;intro p _;show (fun q:List (List Int)×Int=>(q.1,V.int q.2)) (if p.1=k then (p.1,i) else p)=if p.1=k then (p.1,V.int i) else (p.1,V.int p.2)
  by_cases e:p.1=k
  ·rw[if_pos e,if_pos e]
  ·rw[if_neg e,if_neg e]
 ·unfold wu
  rw[List.map_append];rfl
theorem Rep.key2{K:Ka}{W:Addr->Prop}{H:Hp}{d:D}{v:V}{k:List (List Int)}(h:Rep K W H d v)(e:tup2? d=some k): ∃b,v= .ref b/\DKey H k b:=Sees.key2 (K:=K) (W:=W) (.inl h) e
theorem Vs(i:Nat){pos':Pos}(hu:X.A.units+64<cLine)(hN:X.N[i]? =some x)(hv:zq X.env.scope x)(ha:IE X (zC fa) a ca)(hb:IE X (zC fa) b cb)(hd:(x==("__debug__":Str))=false)(hcd:(x==("__classdict__":Str))=false)
  (hs:swapsWith b (some (.Subscript (.Name x p) a pos')) pos.line X.env=pure false:=by rfl):IS X (zJ fa fuel (.dset i ca cb)) (.Assign [.Subscript (.Name x p) a pos'] b pos):=
 .mk <| (zgA (by omega) (jc hN hv hd hcd) ha.v hb.v hs).imp fun D0 σ H zz3=>by
  obtain⟨W,ρ,y,hR,hy,q⟩:=zz3;simp only[gP] at hy;split at hy
  ·rename_i x h
   split at hy
   ·rename_i t ks vs hc
    simp only[jo1] at hy;obtain⟨r,e1,d,e2,r',e3,d',e4,e5⟩:=hy;split at e5
    ·rename_i hk
     cases e5;rw[Bool.and_eq_true,decide_eq_true_iff] at hk;refine⟨W,ρ,r,hR,e1,fun v H1 s1 f1=>?_⟩;have hR1:=hR.same s1;obtain⟨a,o,h1,h2,h3,h4⟩:=hR1.own i _ _ h hc;refine⟨_,h1,W,ρ,r',hR1,e3,fun v2 H2 s2 f2=>?_⟩;have rv:=(f1.same s2).toD e2;have rk:=f2.toD e4;have le:=ZV
     cases h4 with
     |dK l rp=>
      rename_i ns ys
      cases d' with
      |int n=>
       cases rk;refine⟨a,_,rfl,DPut.k (k:=.inl n) (s2 _ _ h3) (by rw[zhY l];simp at hk;omega),q W σ _ (Vk hR h hc h1 (s1.trans s2) (s2 _ _ h3) ⟨fun _ z=>(nomatch z),fun _ _ z=>(nomatch z)⟩ (zhW l (rp.ext (.same s2)) n rv))⟩
      |_=>simp[yK] at hk
     |dT l rp=>
      rename_i ns ys
      cases d' with
      |tup kl=>
       obtain⟨ms,hms⟩: ∃ms,ints? kl=some ms:=by have:=hk.1;simp only[yK,Option.isSome_iff_exists] at this;exact this
       cases rk with
       |tup hb rpb=>
       have z1:=rpb.ofInts hms;have z2:=jO hms;subst z1 z2;refine⟨a,_,rfl,DPut.t (k:=ms.map Sum.inl) (s2 _ _ h3) (by rw[hb,XQ]) (by rw[zhZ l];simp at hk;omega),q W σ _ (Vk hR h hc h1 (s1.trans s2) (s2 _ _ h3) ⟨fun _ z=>(nomatch z),fun _ _ z=>(nomatch z)⟩ (zhX l (rp.ext (.same s2)) ms rv))⟩
      |_=>simp[yK] at hk
    ·cases e5
   ·rename_i kvs hc
    simp only[jo1,jo2] at hy;obtain⟨r,e1,d,e2,r',e3,d',e4,z,e5,e6⟩:=hy;cases e6;unfold jI at e5;split at e5
    ·rename_i n
     rw[jo1] at e5;obtain⟨k,ek,e5⟩:=e5;split at e5
     ·rename_i hlen
      cases e5;refine⟨W,ρ,r,hR,e1,fun v H1 s1 f1=>?_⟩;have hR1:=hR.same s1;obtain⟨a,o,h1,h2,h3,h4⟩:=hR1.own i _ _ h hc;refine⟨_,h1,W,ρ,r',hR1,e3,fun v2 H2 s2 f2=>?_⟩;have rv:=(f1.same s2).toD e2;have rk:=f2.toD e4;have le:=ZV;cases h4;obtain⟨b,rfl,hb⟩:=rk.key2 ek;cases rv;refine⟨a,_,rfl,DPut.d (k:=k) (s2 _ _ h3) hb (by unfold wu;rw[List.length_map];omega),q W σ _ (Vk hR h hc h1 (s1.trans s2) (s2 _ _ h3) ⟨fun _ z=>(nomatch z),fun _ _ z=>(nomatch z)⟩ (by rw[<-zh0];exact .dD))⟩
     ·cases e5
    ·cases e5
   ·cases hy
  ·cases hy
end
end L2.LW
set_option maxHeartbeats 4000000
namespace L2.LW
open PySem PySem.Spec PyProof.Rows
inductive ArgOk (K:Ka)(ρ:LW.Env)(σ:St)(H H':Hp):AV->V->Prop where
 |e {d:D} {v:V} (h: ∀W,Rep K W H' d v):ArgOk K ρ σ H H' (.e d) v
 |l {ds:List D} {a:Addr} {xs:List V} (e:SqL K H' a xs/\Rd H' a (.lst xs)\/Qh K a xs) (r: ∀W,Reps K W H' ds xs):ArgOk K ρ σ H H' (.l ds) (.ref a)
 |s {i:Nat} {x:SV} {d:D} {a:Addr} (h:ρ[i]? =some (some x)) (c:x.cell=some d) (k:wI d=true) (e:σ[i]? =some (some (.ref a))):ArgOk K ρ σ H H' (.s i d) (.ref a)
 |n {t:Option Bool} {a:Addr} {o:HO} (h:H a=Option.none) (e:H' a=some o) (r: ∀W,ORep K W H' (Qc t) o):ArgOk K ρ σ H H' (.n t) (.ref a)
noncomputable def zh1(K:Ka)(fn:Nat->List D->Option SV)(ma:MA):TA:=fun σ H Q=>∃W ρ xs,R K W ρ σ H/\yW fn ma ρ=some xs/\∀vs H',Same H H'->Paired (ArgOk K ρ σ H H') xs vs->Q vs H'
structure IMA (X:Cx)(fn:Nat->List D->Option SV)(es:List Expr)(ma:MA):Prop where
 h:PA X es (zh1 X.K fn ma)
noncomputable def tM(K:Ka)(fa:Nat->List D->Option Ans)(m:M):TE:=fun σ H Q=>∃W ρ r ρ',R K W ρ σ H/\yX fa m ρ=some (r,ρ')/\∀v H',SPost K W ρ σ H W ρ' σ H'->Res K W H H' r v->Q v H'
structure IM (X:Cx)(fa:Nat->List D->Option Ans)(e:Expr)(m:M):Prop where
 h:PE X e (tM X.K fa m)
theorem ArgOk.same{K:Ka}{ρ:LW.Env}{σ:St}{H H' H'':Hp}{x:AV}{v:V}(h:ArgOk K ρ σ H H' x v)(s:Same H' H''):ArgOk K ρ σ H H'' x v:=by
 cases h with
 |e h=>exact .e fun W=>(h W).ext (.same s)
 |l e r=>
  refine .l ?_ fun W=>(r W).ext (.same s)
  rcases e with ⟨e1,e2⟩|e
  ·refine .inl ⟨s.seq e1,?_⟩
   rcases e2 with e2|⟨o,e2⟩
   ·exact .inl (s _ _ e2)
   ·exact .inr ⟨o,s _ _ e2⟩
  ·exact .inr e
 |s h c k e=>exact .s h c k e
 |n h e r=>exact .n h (s _ _ e) fun W=>(r W).ext (.same s)
theorem ArgOk.back{K:Ka}{ρ:LW.Env}{σ:St}{H H' H'':Hp}{x:AV}{v:V}(h:ArgOk K ρ σ H' H'' x v)(s:Same H H'):ArgOk K ρ σ H H'' x v:=by
 cases h with
 |e h=>exact .e h
 |l e r=>exact .l e r
 |s h c k e=>exact .s h c k e
 |n h e r=>exact .n (s.free h) e r
theorem Yc{K:Ka}{ρ:LW.Env}{σ:St}{H H' H'':Hp}: ∀{xs:List AV} {vs:List V},Paired (ArgOk K ρ σ H' H'') xs vs->Same H H'->Paired (ArgOk K ρ σ H H'') xs vs
 |_,_,.nil,_=>.nil
 |_,_,.cons h t,s=>.cons (h.back s) (Yc t s)
section
variable {X:Cx} {fn:Nat->List D->Option SV} {fa:Nat->List D->Option Ans} {fuel:Nat} {a b c e:Expr} {ca cb cc ce:E} {es:List Expr} {cs:Es} {ma:MA} {m:M} {pos p:Pos} {x:Str} {st:Stmt} {sts sts':List Stmt} {s:S} {ss s1 s2:Ss}
theorem Yd:IMA X fn [] .nil:=.mk <| vG.imp fun σ H Q zz3=>by
 obtain⟨W,ρ,rs,hR,he,q⟩:=zz3;simp only[gJ] at he;cases he;exact q _ H (.refl H) .nil
theorem wx(he:IE X fn e ce)(h:IMA X fn es ma)(hs:starEach (e::es) X.env=(false,eval e X.env)::starEach es X.env:=by rfl):IMA X fn (e::es) (.e ce ma):=
 .mk <| (xU he.v h.h hs).imp fun σ H Q zz3=>by
  obtain⟨W,ρ,rs,hR,hx,q⟩:=zz3;simp only[gK,jo1,jo2] at hx;obtain⟨r,e1,av,e2,xs,e3,rfl⟩:=hx;refine⟨W,ρ,r,hR,e1,fun v H1 s1 f=>⟨W,ρ,xs,hR.same s1,e3,fun vs H2 s2 fs=>q _ H2 (s1.trans s2) (.cons ?_ (Yc fs s1))⟩⟩;unfold xY at e2;split at e2
  ·rename_i ds
   split at e2
   ·rename_i hp
    cases e2
    cases f with
    |val f=>
     cases f with
     |lst h r=>
      refine .l ?_ fun W'=>(r.plain hp).ext (.same s2)
      rcases h with ⟨_,h⟩|h
      ·refine .inl ⟨s2.seq (.inl h),?_⟩
       rcases h with h|⟨o,h⟩
       ·exact .inl (s2 _ _ h)
       ·exact .inr ⟨o,s2 _ _ h⟩
      ·exact .inr h
   ·cases e2
  ·rename_i d _
   split at e2
   ·rename_i hp
    cases e2
    cases f with
    |val f=>exact .e fun W'=>(f.plain hp).ext (.same s2)
   ·cases e2
  ·rename_i o ds
   split at e2
   ·rename_i hp
    cases e2
    cases f with
    |lis h e r=>
     cases r with
     |lst r=>exact .l (.inl ⟨.of (s2 _ _ e),.inl (s2 _ _ e)⟩) fun W'=>(r.plain hp).ext (.same s2)
    |see h e r=>
     cases r with
     |lst r=>exact .l (.inl ⟨.of (s2 _ _ e),.inl (s2 _ _ e)⟩) fun W'=>(r.plain hp).ext (.same s2)
   ·cases e2
  ·cases e2
theorem Ye(i:Nat)(hN:X.N[i]? =some x)(hv:zq X.env.scope x)(h:IMA X fn es ma)(hd:(x==("__debug__":Str))=false)(hcd:(x==("__classdict__":Str))=false):IMA X fn (.Name x p::es) (.s i ma):=
 .mk <| (xU (jc hN hv hd hcd) h.h rfl).imp fun σ H Q zz3=>by
  obtain⟨W,ρ,rs,hR,hx,q⟩:=zz3;simp only[gL,jo1] at hx;obtain⟨d,e1,e2⟩:=hx;split at e2
  ·rename_i hk
   rw[jo2] at e2;obtain⟨xs,e3,rfl⟩:=e2;unfold jj at e1;split at e1
   ·rename_i y h1
    obtain⟨a,o,h2,_⟩:=hR.own i y d h1 e1;exact⟨_,h2,W,ρ,xs,hR,e3,fun vs H2 s2 fs=>q _ H2 s2 (.cons (.s h1 e1 hk h2) fs)⟩
   ·cases e1
  ·cases e2
noncomputable def zh2:TE:=fun _ H Q=>∀p,H p=Option.none->Q (.ref p) (zL H p (.dD []))
theorem zh3:PE X (.Dict [] [] pos) zh2:=fun pins s σ H Q I h=>
 wpAny_Dict_empty ⟨.ref s.heap.objs.size,_,I.laid (a:=s.heap.objs.size) (o:=.dD []) (t':=s.toks) (fun _ _ q=>Kn _ q) (Kg _) (zgu s.heap I.big),rfl,h _ (I.hok.fresh (Kg _))⟩
theorem zaT(t:Option Bool)(h:IMA X fn es ma):IMA X fn (.Dict [] [] p::es) (.n t ma):=by
 refine .mk ?_;rcases t with _|_|_
 ·refine (xU zh3 h.h rfl).imp fun σ H Q ⟨W,ρ,rs,hR,hx,q⟩=>?_
  simp only[XN,jo2] at hx;obtain⟨xs,e3,rfl⟩:=hx;intro p hp;have s1:=yQ hp (.dD []);exact⟨W,ρ,xs,hR.same s1,e3,fun vs H2 s2 fs=>q _ H2 (s1.trans s2) (.cons (.n hp (s2 _ _ xI) fun W=>ORep.dD (kvs:=[])) (Yc fs s1))⟩
 ·refine (xU gz h.h rfl).imp fun σ H Q ⟨W,ρ,rs,hR,hx,q⟩=>?_
  simp only[XN,jo2] at hx;obtain⟨xs,e3,rfl⟩:=hx;intro p hp;have s1:=yQ hp (.dK []);exact⟨W,ρ,xs,hR.same s1,e3,fun vs H2 s2 fs=>q _ H2 (s1.trans s2) (.cons (.n hp (s2 _ _ xI) fun W=>.dK (ns:=[]) (ys:=[]) rfl .nil) (Yc fs s1))⟩
 ·refine (xU gA h.h rfl).imp fun σ H Q ⟨W,ρ,rs,hR,hx,q⟩=>?_
  simp only[XN,jo2] at hx;obtain⟨xs,e3,rfl⟩:=hx;intro p hp;have s1:=yQ hp (.dT []);exact⟨W,ρ,xs,hR.same s1,e3,fun vs H2 s2 fs=>q _ H2 (s1.trans s2) (.cons (.n hp (s2 _ _ xI) fun W=>.dT (ns:=[]) (ys:=[]) rfl .nil) (Yc fs s1))⟩
end
noncomputable def jt:MA->Nat->List Nat
 | .nil,_=>[]
 | .e _ r,k=>jt r (k+1)
 | .s _ r,k=>k::jt r (k+1)
 | .n _ r,k=>k::jt r (k+1)
noncomputable def jY:MA->List Nat
 | .nil=>[]
 | .e _ r=>jY r
 | .s i r=>i::jY r
 | .n _ r=>jY r
noncomputable def jZ:MA->Nat
 | .nil=>0
 | .e _ r=>jZ r
 | .s _ r=>jZ r
 | .n _ r=>jZ r+1
noncomputable def yO:List AV->Nat->List Nat
 |[],_=>[]
 | .e _::r,k=>yO r (k+1)
 | .l _::r,k=>yO r (k+1)
 | .s _ _::r,k=>k::yO r (k+1)
 | .n _::r,k=>k::yO r (k+1)
noncomputable def yE:List AV->List Nat
 |[]=>[]
 | .s i _::r=>i::yE r
 |_::r=>yE r
noncomputable def wy:List AV->Nat
 |[]=>0
 | .n _::r=>wy r+1
 |_::r=>wy r
theorem Vt{fn:Nat->List D->Option SV}{ρ:LW.Env}: ∀{ma:MA} {xs:List AV},yW fn ma ρ=some xs->(∀k,yO xs k=jt ma k)/\yE xs=jY ma/\wy xs=jZ ma
 | .nil,xs,h=>by simp only[gJ] at h;cases h;exact⟨fun _=>rfl,rfl,rfl⟩
 | .e c r,xs,h=>by
  simp only[gK,jo1,jo2] at h;obtain⟨x,_,av,e2,ys,e3,rfl⟩:=h;obtain⟨h1,h2,h3⟩:=Vt e3;unfold xY at e2;split at e2
  ·split at e2
   ·cases e2;exact⟨fun k=>h1 (k+1),h2,h3⟩
   ·cases e2
  ·split at e2
   ·cases e2;exact⟨fun k=>h1 (k+1),h2,h3⟩
   ·cases e2
  ·split at e2
   ·cases e2;exact⟨fun k=>h1 (k+1),h2,h3⟩
   ·cases e2
  ·cases e2
 | .s i r,xs,h=>by
  simp only[gL,jo1] at h;obtain⟨d,_,e2⟩:=h;split at e2
  ·rw[jo2] at e2
   obtain⟨ys,e3,rfl⟩:=e2;obtain⟨h1,h2,h3⟩:=Vt e3;exact⟨fun k=>by simp only[yO,jt,h1],by simp only[yE,jY,h2],h3⟩
  ·cases e2
 | .n t r,xs,h=>by
  simp only[XN,jo2] at h;obtain⟨ys,e3,rfl⟩:=h;obtain⟨h1,h2,h3⟩:=Vt e3;exact⟨fun k=>by simp only[yO,jt,h1],h2,by simp only[wy,jZ,h3]⟩
noncomputable def Za:AV->Bool
 | .s _ _=>true
 | .n _=>true
 |_=>false
theorem Yf: ∀{xs:List AV} {j k:Nat},k∈yO xs j↔j<=k/\∃x,xs[k-j]? =some x/\Za x=true
 |[],j,k=>by simp[yO]
 |x::r,j,k=>by
  have ih:=Yf (xs:=r) (j:=j+1) (k:=k)
  have key:k∈yO r (j+1)↔j<=k/\k≠j/\∃y,(x::r)[k-j]? =some y/\Za y=true:=by
   rw[ih];constructor
   ·rintro⟨h1,y,h2,h3⟩
    refine⟨by omega,by omega,y,?_,h3⟩;have e:k-j=(k-(j+1))+1:=by omega
    rw[e,List.getElem?_cons_succ];exact h2
   ·rintro⟨h1,h0,y,h2,h3⟩
    have e:k-j=(k-(j+1))+1:=by omega
    rw[e,List.getElem?_cons_succ] at h2;exact⟨by omega,y,h2,h3⟩
  have no:Za x=false->(k∈yO r (j+1)↔j<=k/\∃y,(x::r)[k-j]? =some y/\Za y=true):=fun hx=>by
   rw[key];constructor
   ·rintro⟨h1,_,h2⟩;exact⟨h1,h2⟩
   ·rintro⟨h1,y,h2,h3⟩
    refine⟨h1,fun e=>?_,y,h2,h3⟩;subst e;rw[Nat.sub_self] at h2;cases h2;rw[hx] at h3;cases h3
  have yes:Za x=true->(k=j\/k∈yO r (j+1)↔j<=k/\∃y,(x::r)[k-j]? =some y/\Za y=true):=fun hx=>by
   rw[key];constructor
   ·rintro (rfl|⟨h1,_,h2⟩)
    ·exact⟨Kg _,x,by rw[Nat.sub_self];rfl,hx⟩
    ·exact⟨h1,h2⟩
   ·rintro⟨h1,h2⟩
    by_cases e:k=j
    ·exact .inl e
    ·exact .inr ⟨h1,e,h2⟩
  cases x with
  |e d=>exact no rfl
  |l d=>exact no rfl
  |s i d=>rw[yO,List.mem_cons];exact yes rfl
  |n t=>rw[yO,List.mem_cons];exact yes rfl
theorem Vu{α β:Type}{F:α->β->Prop}: ∀{xs:List α} {vs:List β} {k:Nat} {x:α},Paired F xs vs->xs[k]? =some x->∃v,vs[k]? =some v/\F x v
 |_,_,_,_,.nil,e=>by simp at e
 |_,_,0,_,.cons h _,e=>by simp at e;subst e;exact⟨_,rfl,h⟩
 |_,_,k+1,x,.cons _ t,e=>by
  obtain⟨v,h1,h2⟩:=Vu (k:=k) (x:=x) t (by simpa using e);exact⟨v,by simpa using h1,h2⟩
theorem Vv: ∀{xs:List AV} {i:Nat},i∈yE xs↔∃(k:Nat) (d:D),xs[k]? =some (AV.s i d)
 |[],i=>by simp[yE]
 |x::r,i=>by
  have ih:=Vv (xs:=r) (i:=i);have up:(∃(k:Nat) (d:D),r[k]? =some (AV.s i d))->∃(k:Nat) (d:D),(x::r)[k]? =some (AV.s i d):=fun ⟨k,d,h⟩=>⟨k+1,d,by simpa using h⟩
  have dn:(∀d,x≠ .s i d)->(∃(k:Nat) (d:D),(x::r)[k]? =some (AV.s i d))->∃(k:Nat) (d:D),r[k]? =some (AV.s i d):=fun hx zz1=>by
   obtain⟨k,d,h⟩:=zz1
   cases k with
   |zero=>cases h;exact KG rfl (hx d)
   |succ k=>exact⟨k,d,by simpa using h⟩
  cases x with
  |s j d0=>
   rw[yE,List.mem_cons,ih];constructor
   ·rintro (rfl|h)
    ·exact⟨0,d0,rfl⟩
    ·exact up h
   ·intro h
    by_cases e:i=j
    ·exact .inl e
    ·exact .inr (dn (fun d z=>by cases z;exact e rfl) h)
  |e d=>show i∈yE r↔_;rw[ih];exact⟨up,dn fun _ z=>nomatch z⟩
  |l d=>show i∈yE r↔_;rw[ih];exact⟨up,dn fun _ z=>nomatch z⟩
  |n d=>show i∈yE r↔_;rw[ih];exact⟨up,dn fun _ z=>nomatch z⟩
theorem zaU: ∀{xs:List AV} {j k i:Nat} {d e:D},(yE xs).Nodup->xs[j]? =some (.s i d)->xs[k]? =some (.s i e)->j=k
 |[],_,_,_,_,_,_,h,_=>by simp at h
 |x::r,j,k,i,d,e,hn,h1,h2=>by
  have hr:(yE r).Nodup:=by
   cases x with
   |s i d=>rw[yE,List.nodup_cons] at hn;exact hn.2
   |_=>exact hn
  cases j with
  |zero=>
   cases k with
   |zero=>rfl
   |succ k=>
    cases h1;rw[yE,List.nodup_cons] at hn;exact KG (Vv.mpr ⟨k,e,by simpa using h2⟩) hn.1
  |succ j=>
   cases k with
   |zero=>
    cases h2;rw[yE,List.nodup_cons] at hn;exact KG (Vv.mpr ⟨j,d,by simpa using h1⟩) hn.1
   |succ k=>rw[zaU (j:=j) (k:=k) hr (by simpa using h1) (by simpa using h2)]
theorem zaV: ∀{xs:List AV} {j k:Nat} {t u:Option Bool},wy xs<=1->xs[j]? =some (.n t)->xs[k]? =some (.n u)->j=k
 |[],_,_,_,_,_,h,_=>by simp at h
 |x::r,j,k,t,u,hn,h1,h2=>by
  have pos: ∀{r:List AV} {k:Nat} {u:Option Bool},r[k]? =some (AV.n u)->0<wy r:=by
   intro r
   induction r with
   |nil=>intro k u h;simp at h
   |cons y r ih=>
    intro k u h
    cases k with
    |zero=>cases h;simp[wy]
    |succ k=>
     have:=ih (k:=k) (u:=u) (by simpa using h);cases y<;>simp[wy]<;>omega
  cases j with
  |zero=>
   cases k with
   |zero=>rfl
   |succ k=>
    cases h1;have:=pos (k:=k) (u:=u) (r:=r) (by simpa using h2);simp[wy] at hn;omega
  |succ j=>
   cases k with
   |zero=>
    cases h2;have:=pos (k:=j) (u:=t) (r:=r) (by simpa using h1);simp[wy] at hn;omega
   |succ k=>
    have hr:wy r<=1:=by cases x<;>simp[wy] at hn<;>omega
    rw[zaV (j:=j) (k:=k) hr (by simpa using h1) (by simpa using h2)]
inductive OutsX (K:Ka)(W:Addr->Prop)(H:Hp):List AV->List V->List D->Prop where
 |nil:OutsX K W H [] [] []
 |e {d:D} {v:V} {xs:List AV} {vs:List V} {os:List D} (t:OutsX K W H xs vs os):OutsX K W H (.e d::xs) (v::vs) os
 |l {d:List D} {v:V} {xs:List AV} {vs:List V} {os:List D} (t:OutsX K W H xs vs os):OutsX K W H (.l d::xs) (v::vs) os
 |s {i:Nat} {d:D} {a:Addr} {o:HO} {d':D} {xs:List AV} {vs:List V} {os:List D} (e:H a=some o) (r:ORep K W H d' o) (t:OutsX K W H xs vs os):OutsX K W H (.s i d::xs) (.ref a::vs) (d'::os)
 |n {b:Option Bool} {v:V} {d':D} {xs:List AV} {vs:List V} {os:List D} (t:OutsX K W H xs vs os):OutsX K W H (.n b::xs) (v::vs) (d'::os)
theorem zaW{K:Ka}{W:Addr->Prop}{H:Hp}{F:AV->V->Prop}: ∀{xs:List AV} {vs pre:List V} {os:List D},Paired F xs vs->Vg K W H (yO xs pre.length) (pre++vs) os->OutsX K W H xs vs os
 |_,_,pre,os,.nil,h=>by
  simp only[yO] at h;cases h;exact .nil
 |_,_,pre,os,.cons (a:=x) (b:=v) (l₁:=xs) (l₂:=vs) _ t,h=>by
  have step: ∀{os:List D},Vg K W H (yO xs (pre.length+1)) (pre++v::vs) os->OutsX K W H xs vs os:=fun {os} h=>
   zaW (pre:=pre++[v]) t (by simpa using h)
  cases x with
  |e d=>exact .e (step h)
  |l d=>exact .l (step h)
  |s i d=>
   simp only[yO] at h
   cases h with
   |cons h r=>
    obtain⟨a,o,e1,e2,e3⟩:=h;simp at e1;subst e1;exact .s e2 e3 (step r)
  |n b=>
   simp only[yO] at h
   cases h with
   |cons h r=>exact .n (step r)
structure Upd (K:Ka)(W:Addr->Prop)(ρ:LW.Env)(σ:St)(H:Hp)(ρ':LW.Env)(sl:List Nat):Prop where
 len:ρ'.length=ρ.length
 other: ∀i,i∉sl->ρ'[i]? =ρ[i]?
 at_: ∀i∈sl,∃x d a o,ρ[i]? =some (some x)/\x.cell.isSome=true/\ρ'[i]? =some (some (x.put d))/\σ[i]? =some (some (.ref a))/\H a=some o/\ORep K W H d o
theorem Yg{K:Ka}{W:Addr->Prop}{ρ0:LW.Env}{σ:St}{H0 H1 H':Hp}: ∀{xs:List AV} {vs:List V} {os:List D} {ρ ρ':LW.Env},Paired (ArgOk K ρ0 σ H0 H1) xs vs->(yE xs).Nodup->(∀i∈yE xs,ρ[i]? =ρ0[i]?)->OutsX K W H' xs vs os->yG ρ xs os=some ρ'->Upd K W ρ σ H' ρ' (yE xs)
 |_,_,_,ρ,ρ',.nil,_,_,h,e=>by
  cases h;simp only[yG] at e;cases e;exact⟨rfl,fun _ _=>rfl,fun i h=>(by cases h)⟩
 |_,_,_,ρ,ρ',.cons (a:=x) (b:=v) (l₁:=xs) (l₂:=vs) hx t,hn,hs,h,e=>by
  cases h with
  |e h=>simp only[yG] at e;show Upd K W ρ σ H' ρ' (yE xs);exact Yg (xs:=xs) t hn hs h e
  |l h=>simp only[yG] at e;show Upd K W ρ σ H' ρ' (yE xs);exact Yg (xs:=xs) t hn hs h e
  |n h=>simp only[yG] at e;show Upd K W ρ σ H' ρ' (yE xs);exact Yg (xs:=xs) t hn hs h e
  |s e1 r h=>
   rename_i i d a o d' os;simp only[yG] at e;rw[yE,List.nodup_cons] at hn
   cases hx with
   |s h1 c k e2=>
    rename_i y;have h1':ρ[i]? =some (some y):=by rw[hs i (by simp[yE])];exact h1
    have ep:jN ρ i d'=ρ.set i (some (y.put d')):=by unfold jN;rw[h1']
    rw[ep] at e;have hl:i<ρ.length:=(List.getElem?_eq_some_iff.mp h1').1
    obtain⟨l,ot,at_⟩:=Yg t hn.2 (fun j hj=>by
     rw[xn (fun z=>hn.1 (by rw[z];exact hj))];exact hs j (by rw[yE];exact Kf _ hj)) h e
    refine⟨by simpa using l,fun j hj=>?_,fun j hj=>?_⟩
    ·rw[yE,List.mem_cons] at hj
     rw[ot j (fun z=>hj (.inr z)),xn (fun z=>hj (.inl z.symm))]
    ·rw[yE,List.mem_cons] at hj
     by_cases ej:j=i
     ·subst ej
      refine⟨y,d',a,o,h1',by rw[c];rfl,?_,e2,e1,r⟩;rw[ot j hn.1,vO hl]
     ·obtain⟨x,d,a,o,z1,z2⟩:=at_ j (hj.resolve_left ej)
      rw[xn (fun z=>ej z.symm)] at z1;exact⟨x,d,a,o,z1,z2⟩
theorem zh4{K:Ka}{W:Addr->Prop}{ρ ρ':LW.Env}{σ:St}{H H':Hp}{sl:List Nat}(r:R K W ρ σ H)(u:Upd K W ρ σ H' ρ' sl)(keep: ∀a o,H a=some o->(∀i∈sl,σ[i]? ≠some (some (.ref a)))->H' a=some o):SPost K W ρ σ H W ρ' σ H':=by
 have cellOf: ∀{x:SV},x.cell.isSome=true->∃d,x.cell=some d:=fun {x} h=>Option.isSome_iff_exists.mp h
 have ownSl: ∀{i:Nat} {a:Addr},i∈sl->σ[i]? =some (some (.ref a))->xG ρ σ a:=fun {i a} hi e=>by
  obtain⟨x,d,a',o,h1,h2,_⟩:=u.at_ i hi;obtain⟨d0,hc⟩:=cellOf h2;exact⟨i,x,d0,h1,hc,e⟩
 have kp: ∀a o,H a=some o->¬xG ρ σ a->H' a=some o:=fun a o h n=>keep a o h fun i hi e=>n (ownSl hi e)
 have ext:Ext W H W H':=by
  refine⟨fun a o h n=>kp a o h fun z=>n (r.ownW z).1,fun a xs h=>kp a _ h fun z=>?_,fun a o w h=>kp a _ h fun z=>?_,fun a w=>.inl w⟩
  ·obtain⟨_,o,d,e,q⟩:=r.ownW z
   rw[h] at e;cases e;exact q.kind.1 xs rfl
  ·obtain⟨_,o,d,e,q⟩:=r.ownW z
   rw[h] at e;cases e;exact q.kind.2 _ _ rfl
 have old: ∀{k:Nat} {y:SV} {es:D},ρ'[k]? =some (some y)->y.cell=some es->∃y' es',ρ[k]? =some (some y')/\y'.cell=some es':=fun {k y es} q c=>by
  by_cases hk:k∈sl
  ·obtain⟨x,d,a',o,h1,h2,_⟩:=u.at_ k hk
   obtain⟨d0,hc⟩:=cellOf h2;exact⟨x,d0,h1,hc⟩
  ·rw[u.other k hk] at q;exact⟨y,es,q,c⟩
 refine⟨⟨fun k d hk=>?_,fun k d hk=>?_,fun k y es hk hc=>?_,fun k l x y e1 e2 b h1 h2 c1 c2 h3 h4=>?_,fun b w=>?_,by rw[u.len];exact r.len⟩,kp,fun b w=>.inl w,fun b w n=>⟨w,fun ⟨k,y,es,z1,c,z2⟩=>?_⟩,fun j=>⟨?_,fun _=>rfl⟩⟩
 ·by_cases hs:k∈sl
  ·obtain⟨x,d',a',o,h1,h2,h3,_⟩:=u.at_ k hs
   rw[h3] at hk;exact KG (Kp (Kp hk)) (zau _ _ _)
  ·rw[u.other k hs] at hk
   obtain⟨v,h1,h2⟩:=r.val k d hk;exact⟨v,h1,h2.ext ext⟩
 ·by_cases hs:k∈sl
  ·obtain⟨x,d',a',o,h1,h2,h3,_⟩:=u.at_ k hs
   rw[h3] at hk;exact KG (Kp (Kp hk)) (zav _ _ _)
  ·rw[u.other k hs] at hk
   exact r.nol k d hk
 ·by_cases hs:k∈sl
  ·obtain⟨x,d',a',o,h1,h2,h3,h4,h5,h6⟩:=u.at_ k hs
   rw[h3] at hk;cases hk;rw[zat] at hc;cases hc;obtain⟨d0,hc0⟩:=cellOf h2;exact⟨a',o,h4,(r.ownW ⟨k,x,d0,h1,hc0,h4⟩).1,h5,h6⟩
  ·rw[u.other k hs] at hk
   obtain⟨b,ys,h1,h2,h3,h4⟩:=r.own k y es hk hc;refine⟨b,ys,h1,h2,keep b ys h3 fun i hi e=>hs ?_,h4.ext ext⟩;obtain⟨x,d',a',o,g1,g2,_⟩:=u.at_ i hi;obtain⟨d0,hc0⟩:=cellOf g2;rw[r.inj k i y x es d0 b hk g1 hc hc0 h1 e];exact hi
 ·obtain⟨_,_,z1,w1⟩:=old h1 c1
  obtain⟨_,_,z2,w2⟩:=old h2 c2;exact r.inj k l _ _ _ _ b z1 z2 w1 w2 h3 h4
 ·cases e:H b with
  |none=>exact KG e (r.wf b w)
  |some o=>
   by_cases hz: ∃i∈sl,σ[i]? =some (some (.ref b))
   ·obtain⟨i,hi,e'⟩:=hz
    obtain⟨x,d',a',o,g1,g2,g3,g4,g5,_⟩:=u.at_ i hi;rw[e'] at g4;cases g4;rw[g5];exact fun z=>nomatch z
   ·rw[keep b o e fun i hi e'=>hz ⟨i,hi,e'⟩];exact fun z=>nomatch z
 ·obtain⟨_,_,z,w'⟩:=old z1 c
  exact n ⟨k,_,_,z,w',z2⟩
 ·by_cases hs:j∈sl
  ·obtain⟨x,d',a',o,h1,h2,h3,_⟩:=u.at_ j hs
   unfold xz;rw[h1,h3];constructor
   ·rintro⟨d2,z⟩
    obtain⟨d3,w⟩:=Vj.mp ⟨d2,Kp (Kp z)⟩;exact⟨d3,by rw[w]⟩
   ·rintro⟨d2,z⟩
    obtain⟨d3,w⟩:=Vj (d:=d') |>.mpr ⟨d2,Kp (Kp z)⟩;exact⟨d3,by rw[w]⟩
  ·unfold xz;rw[u.other j hs]
section
variable {X:Cx} {fn:Nat->List D->Option SV} {fa:Nat->List D->Option Ans} {fuel:Nat} {a b c e:Expr} {ca cb cc ce:E} {es:List Expr} {cs:Es} {ma:MA} {m:M} {pos p:Pos} {x:Str} {st:Stmt} {sts sts':List Stmt} {s:S} {ss s1 s2:Ss}
theorem zaX{K:Ka}{W:Addr->Prop}{H:Hp}{d:D}{o:HO}(h:ORep K W H d o)(k:wI d=true): ∀xs,o≠ .lst xs:=by
 cases h with
 |lst r=>cases k
 |dK l r=>exact fun _ z=>nomatch z
 |dT l r=>exact fun _ z=>nomatch z
 |dD=>exact fun _ z=>nomatch z
theorem zh5{d:D}(k:wI d=true):xC d=true:=by
 cases d with
 |dct t ks vs=>exact k
 |dcd kvs=>rfl
 |_=>cases k
theorem OutsX.plain{K:Ka}{W W':Addr->Prop}{H:Hp}{xs:List AV}{vs:List V}{os:List D}(h:OutsX K W H xs vs os)(p:os.all xC=true):OutsX K W' H xs vs os:=by
 induction h with
 |nil=>exact .nil
 |e _ ih=>exact .e (ih p)
 |l _ ih=>exact .l (ih p)
 |s e r _ ih=>
  simp only[List.all_cons,Bool.and_eq_true] at p;exact .s e (r.plain p.1) (ih p.2)
 |n _ ih=>
  simp only[List.all_cons,Bool.and_eq_true] at p;exact .n (ih p.2)
theorem Res.fine{K:Ka}{W W':Addr->Prop}{H H':Hp}{r:SV}{v:V}(h:Res K W' H H' r v)(p:r.fine=true):Res K W H H' r v:=by
 cases h with
 |val h=>exact .val (h.plain p)
 |new h e r=>exact .new h e (r.plain p)
 |see h e r=>cases p
theorem Yh{k:Nat}{f:Addr}{fd:FuncData}{ps:List Str}{i:Nat}{io:List Nat}(F:FnOk X.prog X.w X.K X.mg X.base zA k f fd ps (zW X.K fa i io))(hio:io=jt ma 0)(hnd:(jY ma).Nodup)(hnw:jZ ma<=1)
  (hr:Room k X.A) (hg:Gl X x) (hm:X.mg x=some (.ref f)) (hk:PySem.W.keepIn X.K (.ref f)=true)
  (hb:Binds X.K fd ps []) (ha:IMA X (zC fa) (e::es) ma) (hdb:(x==("__debug__":Str))=false:=by decide) (he:starEach (e::es) X.env=(false,eval e X.env)::starEach es X.env:=by rfl)
  (hpl:(backTo pos (starEach es X.env)).any (·.1)=false:=by rfl):IM X fa (.Call (.Name x p) (e::es) [] pos) (.call i ma):=
 .mk <| (qO F hr hg hm hk hb .nil gB ha.h hdb he hpl).imp fun σ H Q zz3=>by
  obtain⟨W,ρ,r,ρ',hR,h,q⟩:=zz3;simp only[zg0,jo1] at h;obtain⟨xs,e1,an,e2,e3⟩:=h
  obtain⟨r',outs,rfl⟩: ∃r' outs,an=Ans.ok r' outs:=by
   cases an with
   |ok r o=>exact⟨r,o,rfl⟩
   |ex c=>cases e3
  simp only at e3;split at e3
  case isFalse=>cases e3
  rename_i hp;rw[Bool.and_eq_true] at hp;rw[jo2] at e3;obtain⟨ρ2,e3,e4⟩:=e3;cases e4;refine⟨W,ρ,xs,hR,e1,fun vs H1 s1 f=>?_⟩;show zW X.K fa i io (vs++[]) H1 Q E0;rw[List.append_nil];obtain⟨t1,t2,t3⟩:=Vt e1;have hio':io=yO xs 0:=by rw[hio,t1]
  subst hio';rw[<-t2] at hnd;rw[<-t3] at hnw
  have at_: ∀{k:Nat} {a:Addr},k∈yO xs 0->vs[k]? =some (.ref a)->(∃i d y,xs[k]? =some (.s i d)/\ρ[i]? =some (some y)/\y.cell=some d/\wI d=true/\σ[i]? =some (some (.ref a)))\/(∃t,xs[k]? =some (.n t)/\H a=Option.none/\∃o,H1 a=some o/\∀W,ORep X.K W H1 (Qc t) o):=fun {k a} hk hv=>by
   obtain⟨_,x,hx,hi⟩:=Yf.mp hk;rw[Nat.sub_zero] at hx;obtain⟨v,h1,h2⟩:=Vu f hx;rw[hv] at h1;cases h1
   cases h2 with
   |e _=>cases hi
   |l _ _=>cases hi
   |s g1 g2 g3 g4=>exact .inl ⟨_,_,_,hx,g1,g2,g3,g4⟩
   |n g1 g2 g3=>exact .inr ⟨_,hx,g1,_,g2,g3⟩
  have hR1:=hR.same s1
  have ioD: ∀a,ZY (yO xs 0) vs a->∃o,H1 a=some o/\∀zs,o≠ .lst zs:=fun a zz1=>by
   obtain⟨k,hk,hv⟩:=zz1;rcases at_ hk hv with ⟨i,d,y,_,g1,g2,g3,g4⟩|⟨t,_,_,o,g2,g3⟩
   ·obtain⟨b,o,z1,z2,z3,z4⟩:=hR1.own i y d g1 g2
    rw[g4] at z1;cases z1;exact⟨o,z3,zaX z4 g3⟩
   ·exact⟨o,g2,zaX (g3 W) (by rcases t with _|_<;>rfl)⟩
  have ar:ARep X.K (ZY (yO xs 0) vs) H1 (yO xs 0) (xs.map vt) vs:=by
   refine⟨by rw[List.length_map];exact Paired.length f,fun k d hd hk=>?_,fun k d hd hk=>?_,fun j k a hj hk h1 h2=>?_⟩
   ·rw[List.getElem?_map,jo2] at hd
    obtain⟨x,hx,rfl⟩:=hd;obtain⟨v,h1,h2⟩:=Vu f hx;refine⟨v,h1,?_⟩
    cases h2 with
    |e g=>exact g _
    |l g1 g2=>
     refine .lst ?_ (g2 _);rcases g1 with ⟨_,g1⟩|g1
     ·refine .inl ⟨fun z=>?_,g1⟩
      obtain⟨o,z1,z2⟩:=ioD _ z;rcases g1 with g1|⟨ob,g1⟩
      ·rw[g1] at z1;cases z1;exact z2 _ rfl
      ·rw[g1] at z1;cases z1
       obtain⟨k',hk',hv'⟩:=z;rcases at_ hk' hv' with ⟨i,d,y,_,c1,c2,c3,c4⟩|⟨t,_,_,o,c2,c3⟩
       ·obtain⟨b,o,y1,y2,y3,y4⟩:=hR1.own i y d c1 c2
        rw[c4] at y1;cases y1;rw[g1] at y3;cases y3;exact y4.kind.2 _ _ rfl
       ·rw[g1] at c2;cases c2
        exact (c3 W).kind.2 _ _ rfl
     ·exact .inr g1
    |s _ _ _ _=>exact KG (Yf.mpr ⟨Nat.zero_le _,_,by rw[Nat.sub_zero];exact hx,rfl⟩) hk
    |n _ _ _=>exact KG (Yf.mpr ⟨Nat.zero_le _,_,by rw[Nat.sub_zero];exact hx,rfl⟩) hk
   ·rw[List.getElem?_map,jo2] at hd
    obtain⟨x,hx,rfl⟩:=hd;obtain⟨v,h1,h2⟩:=Vu f hx;have hio:=Yf.mp hk;obtain⟨_,x',hx',hi'⟩:=hio;rw[Nat.sub_zero,hx] at hx';cases hx'
    cases h2 with
    |e _=>cases hi'
    |l _ _=>cases hi'
    |s g1 g2 g3 g4=>
     obtain⟨b,o,z1,z2,z3,z4⟩:=hR1.own _ _ _ g1 g2;rw[g4] at z1;cases z1;exact⟨_,o,h1,⟨k,hk,h1⟩,z3,z4.plain (zh5 g3)⟩
    |n g1 g2 g3=>exact⟨_,_,h1,⟨k,hk,h1⟩,g2,g3 _⟩
   ·rcases at_ hj h1 with ⟨i,d,y,w0,c1,c2,c3,c4⟩|⟨t,w0,c1,_⟩
    ·rcases at_ hk h2 with ⟨i',d',y',w0',c1',c2',c3',c4'⟩|⟨t',w0',c1',_⟩
     ·have:=hR.inj i i' y y' d d' a c1 c1' c2 c2' c4 c4'
      subst this;exact zaU hnd w0 w0'
     ·exact KG c1' (hR.wf _ (hR.ownW ⟨i,y,d,c1,c2,c4⟩).1)
    ·rcases at_ hk h2 with ⟨i',d',y',w0',c1',c2',c3',c4'⟩|⟨t',w0',c1',_⟩
     ·exact KG c1 (hR.wf _ (hR.ownW ⟨i',y',d',c1',c2',c4'⟩).1)
     ·exact zaV hnw w0 w0'
  refine⟨_,_,r,outs,fun a ha=>?_,ar,e2,fun v H' kp ho res=>?_⟩
  ·obtain⟨o,z,_⟩:=ioD a ha
   rw[z];exact fun z=>nomatch z
  ·refine q v H' (zh4 hR (Yg f hnd (fun _ _=>rfl) ((zaW (pre:=[]) f ho).plain hp.2) e3) fun a o h n=>kp a o (s1 _ _ h) fun ⟨k,hk,hv⟩=>?_) ((res.fine hp.1).back s1)
   rcases at_ hk hv with ⟨i,d,y,w0,c1,c2,c3,c4⟩|⟨t,w0,c1,_⟩
   ·exact n i (Vv.mpr ⟨k,d,w0⟩) c4
   ·rw[h] at c1;cases c1
theorem QG{K:Ka}{pr:Prim}{W:Addr->Prop}{H1:Hp}{d:D}{y:SV}{z:SV}{v1 v2:V}{Q:VK}(wf:Wf W H1)(h1:Rep K W H1 d v1)(f:Frz K W H1 y v2)(h:zh pr [d,zI y]=some z)(q: ∀v H',Same H1 H'->Res K W H1 H' z v->Q v H'):VR K (zh pr) [v1,v2] H1 Q:=
 ⟨W,_,z,wf,.cons (.inl h1) (.cons f.sees .nil),h,q⟩
theorem SPost.wf'{K:Ka}{W W':Addr->Prop}{ρ ρ':LW.Env}{σ σ':St}{H H':Hp}(p:SPost K W ρ σ H W' ρ' σ' H'):Wf W' H':=p.r.wf
theorem Res.backP{K:Ka}{W:Addr->Prop}{ρ ρ':LW.Env}{σ:St}{H H1 H2:Hp}{r:SV}{v:V}(h:Res K W H1 H2 r v)(p:SPost K W ρ σ H W ρ' σ H1)(hR:R K W ρ σ H):Res K W H H2 r v:=by
 cases h with
 |val h=>exact .val h
 | @new d a o h e r=>
  refine .new ?_ e r
  cases z:H a with
  |none=>rfl
  |some o=>
   by_cases hO:xG ρ σ a
   ·obtain⟨i,x,d,g1,g2,g3⟩:=hO
    exact KG h (p.r.wf _ (hR.ownW ⟨i,x,d,g1,g2,g3⟩).1)
   ·rw[p.keep _ _ z hO] at h;cases h
 |see h e r=>exact .see h e r
theorem zh6{op:Operator}{pr:Prim}(ho:OpR X (binaryOp op) (yL X.K (zh pr)))(ha:IE X (zC fa) a ca)(hb:IM X fa b m):IM X fa (.BinOp a op b pos) (.op pr ca m):=
 .mk <| (qH ho ha.v hb.h).imp fun σ H Q zz3=>by
  obtain⟨W,ρ,r,ρ',hR,h,q⟩:=zz3;simp only[Qg,jo1] at h;obtain⟨x,e1,e2⟩:=h;split at e2
  ·rename_i d
   split at e2
   ·rename_i hp
    simp only[jo1,jo2] at e2;obtain⟨⟨y,ρ2⟩,e3,z,e4,e5⟩:=e2;cases e5;refine⟨W,ρ,_,hR,e1,fun v1 H1 s1 f1=>⟨W,ρ,y,_,hR.same s1,e3,fun v2 H2 p2 r2=>?_⟩⟩;have p0:=(SPost.same hR s1).trans p2 hR
    cases f1 with
    |val f1=>
    refine QG p0.wf' (((f1.plain (W':=W) hp)).ext (p2.ext (hR.same s1))) (r2.frz (hR.same s1).wf) e4 fun v H3 s3 r3=>?_
    exact q v H3 (p0.trans (SPost.same p0.r s3) hR) (r3.backP p0 hR)
   ·cases e2
  ·cases e2
theorem zh7{id:String}{pr:Prim}(hc:CallR X (.builtin id) (VR X.K (zh pr)))(hg:Gl X x)(hm:X.mg x=Option.none)(hv:bootBuiltins x=some (.builtin id))(ha:IE X (zC fa) a ca)(hb:IM X fa b m)(hn:x≠"__name__":=by decide)(hdb:(x==("__debug__":Str))=false:=by decide)
  (h1:starEach [a,b] X.env=(false,eval a X.env)::starEach [b] X.env) (h2:starEach [b] X.env=(false,eval b X.env)::starEach [] X.env):IM X fa (.Call (.Name x p) [a,b] [] pos) (.op pr ca m):=
 .mk <| (Xr hc hg hm hv (xU ha.v (xU hb.h vG h2) h1) hn hdb h1 (zw h2 zu)).imp fun σ H Q zz3=>by
  obtain⟨W,ρ,r,ρ',hR,h,q⟩:=zz3;simp only[Qg,jo1] at h;obtain⟨x,e1,e2⟩:=h;split at e2
  ·rename_i d
   split at e2
   ·rename_i hp
    simp only[jo1,jo2] at e2;obtain⟨⟨y,ρ2⟩,e3,z,e4,e5⟩:=e2;cases e5;refine⟨W,ρ,_,hR,e1,fun v1 H1 s1 f1=>⟨W,ρ,y,_,hR.same s1,e3,fun v2 H2 p2 r2=>?_⟩⟩;have p0:=(SPost.same hR s1).trans p2 hR
    cases f1 with
    |val f1=>
    refine QG p0.wf' (((f1.plain (W':=W) hp)).ext (p2.ext (hR.same s1))) (r2.frz (hR.same s1).wf) e4 fun v H3 s3 r3=>?_
    exact q v H3 (p0.trans (SPost.same p0.r s3) hR) (r3.backP p0 hR)
   ·cases e2
  ·cases e2
theorem zh8(he:IM X fa e m)(hs:swapsWith e Option.none pos.line X.env=pure false:=by rfl):IS X (zJ fa fuel (.exprM m)) (.Expr e pos):=
 .mk <| (JC he.h hs).imp fun D σ H zz3=>by
  obtain⟨W,ρ,x,hR,hx,q⟩:=zz3;simp only[zg2,jo2] at hx;obtain⟨⟨r,ρ'⟩,e1,rfl⟩:=hx;exact⟨W,ρ,r,ρ',hR,e1,fun v H1 p1 _=>q W σ H1 p1⟩
theorem zaY(i:Nat){pos':Pos}(hN:X.N.Nodup)(hi:X.N[i]? =some x)(hx:zQ X.env.scope x)(he:IM X fa e m)(hs:swapsWith e (some (.Name x pos')) pos.line X.env=pure false:=by rfl)
  (hf:X.fn x=true\/X.env.scope.names.lookup x=some .local:=by first|exact .inl rfl|exact .inr rfl|assumption):IS X (zJ fa fuel (.asgM i m)) (.Assign [.Name x pos'] e pos):=
 .mk <| (JG hN hi hx he.h hs hf).imp fun D σ H zz3=>by
  obtain⟨W,ρ,y,hR,hy,q⟩:=zz3;simp only[zg3,jo1] at hy;obtain⟨⟨r,ρ'⟩,e1,e2⟩:=hy;split at e2
  ·cases e2
  ·rename_i hl
   cases e2;simp only[Bool.not_eq_true,Bool.or_eq_false_iff,Bool.not_eq_false'] at hl;refine⟨W,ρ,r,ρ',hR,e1,fun v H1 p1 h=>?_⟩
   cases h with
   |val h=>exact q W _ H1 (p1.trans (jT p1.r (.refl _) h (vv hl.2)) hR)
   |new h e r=>
    exact q W _ H1 (p1.trans (jT p1.r (.refl _) ((r.less fun b w=>.inl w).rep (fun w=>hR.wf _ w h) e) (vv hl.2)) hR)
   |see h e r=>simp[SV.lent] at hl
theorem zh9(hE:IM X fa e m)(he: ∀whole,isTrue e X.env whole=(do let v <-whole;standAt e.pos;holding [v] (truthy v))):PT X e fun σ H Q=>∃W ρ r ρ' k,R X.K W ρ σ H/\yX fa m ρ=some (r,ρ')/\ye r=some k/\∀H',SPost X.K W ρ σ H W ρ' σ H'->Q k H':=
 (qN hE.h he).imp fun σ H Q ⟨W,ρ,r,ρ',k,hR,e1,e2,q⟩=>⟨W,ρ,r,ρ',hR,e1,fun v H1 p1 f=>⟨k,zan (f.frz hR.wf) e2,q H1 p1⟩⟩
theorem zia(hc:IT X (zC fa) c cc)(hm:IM X fa b m)(hb: ∀whole,isTrue b X.env whole=(do let v <-whole;standAt b.pos;holding [v] (truthy v)))(h1:ISs X (zp fa fuel s1) sts)(h2:ISs X (zp fa fuel s2) sts'):
  IS X (zJ fa fuel (.ifO cc m s1 s2)) (.If (.BoolOp .Or [c,b] p) sts sts' pos):=
 .mk <| (qD (PW.pt (qA hc.h (qz (zh9 hm hb)))) h1.h h2.h).imp fun D σ H zz3=>by
  obtain⟨W,ρ,y,hR,hy,q⟩:=zz3;simp only[zg4,jo1] at hy;obtain⟨k,e1,e2⟩:=hy;refine⟨W,ρ,k,hR,e1,fun H1 w1=>?_⟩;have p1:=SPost.same hR w1
  cases k with
  |true=>
   rw[if_pos rfl] at e2;exact Xu (Xu ⟨W,ρ,y,p1.r,e2,fun W2 σ2 H2 p2=>FlOk.back p1 (q W2 σ2 H2 (p1.trans p2 hR))⟩)
  |false=>
   rw[if_neg Ko] at e2;rw[jo1] at e2;obtain⟨⟨r,ρ'⟩,e3,e4⟩:=e2;rw[jo1] at e4;obtain⟨k,e5,e6⟩:=e4;refine JR ⟨W,ρ,r,ρ',k,p1.r,e3,e5,fun H2 p2=>?_⟩;have p02:=p1.trans p2 hR
   cases k with
   |true=>rw[if_pos rfl] at e6;exact Xu ⟨W,ρ',y,p02.r,e6,fun W3 σ3 H3 p3=>FlOk.back p02 (q W3 σ3 H3 (p02.trans p3 hR))⟩
   |false=>rw[if_neg Ko] at e6;exact JR ⟨W,ρ',y,p02.r,e6,fun W3 σ3 H3 p3=>FlOk.back p02 (q W3 σ3 H3 (p02.trans p3 hR))⟩
end
end L2.LW
set_option maxHeartbeats 4000000
namespace L2.LW
open PySem PySem.Spec PyProof.Rows
noncomputable def zib(sc scope:Scope)(y:Str)(l1 l2:Nat):Bool:=(if sc.kind.isAnnotationScope then ScopeKind.function else sc.kind)== .function&&sc.names.lookup y==some .local&&l1==l2&& !(scope.names.any fun (n,k)=>n==y&&(k== .local||k== .cell))
theorem zaZ{env:PySem.Env}{sc scope:Scope}{elt:Expr}{gens:List Comprehension}{y:Str}{py pos:Pos}{l:Nat}{b:Bool}(hs:env.scope=sc)(h:zib sc scope y py.line pos.line=b):
  swapsWith (.ListComp elt gens scope pos) (some (.Name y py)) l env=pure b:=by
 subst hs;subst h;rfl
theorem zic{K:Ka}{W:Addr->Prop}{ρ:LW.Env}{σ:St}{H:Hp}(r:R K W ρ σ H)(j:Nat): ∃W',SPost K W ρ σ H W' (vI ρ j) σ H:=by
 unfold vI;split
 ·rename_i d h
  obtain⟨a,o,h1,_⟩:=r.own j _ d h rfl;exact⟨_,(Qx r h h1).1⟩
 ·exact⟨W,.same r (.refl H)⟩
theorem za0{K:Ka}{σ:St}{H:Hp}: ∀(js:List Nat) {W:Addr->Prop} {ρ:LW.Env},R K W ρ σ H->∃W',SPost K W ρ σ H W' (js.foldl vI ρ) σ H
 |[],W,ρ,r=>⟨W,.same r (.refl H)⟩
 |j::js,W,ρ,r=>by
  obtain⟨W1,p1⟩:=zic r j;obtain⟨W2,p2⟩:=za0 js p1.r;exact⟨W2,p1.trans p2 r⟩
section
variable {X:Cx} {fn:Nat->List D->Option SV} {fa:Nat->List D->Option Ans} {fuel:Nat} {st:Stmt} {s:S}
theorem zid(js:List Nat)(h:IS X (zJ fa fuel s) st):IS X (zJ fa fuel (.frz js s)) st:=
 .mk <| h.h.imp fun D σ H zz3=>by
  obtain⟨W,ρ,x,hR,hx,q⟩:=zz3;simp only[zha] at hx;obtain⟨W1,p1⟩:=za0 js hR;exact⟨W1,_,x,p1.r,hx,fun W2 σ2 H2 p2=>FlOk.back p1 (q W2 σ2 H2 (p1.trans p2 hR))⟩
theorem za1(g:Bool)(src:Es)(cond elt:E): ∀ρ,zE fn (.comp g src cond elt) ρ=(zi fn (.comp g src cond elt) ρ).bind ye:=fun ρ=>by
 rw[gI,XM]
 cases zZ fn src ρ with
 |none=>rfl
 |some rs=>
  simp only[Option.bind_some]
  cases yf g rs with
  |none=>rfl
  |some ds=>
   simp only[Option.bind_some];split
   ·cases xy (fun d=>zE fn cond (some (.val d)::ρ)) (fun d=>zi fn elt (some (.val d)::ρ)) ds<;>rfl
   ·rfl
theorem za2{env:PySem.Env}{a b c d}: ∀whole,PySem.isTrue (.ListComp a b c d) env whole=(do let v <-whole;standAt (Expr.ListComp a b c d).pos;holding [v] (truthy v)):=fun _=>rfl
theorem za3: ∀(r:List Int) (n:Int),(∀x∈n::r,x<=r.foldl max n)/\r.foldl max n∈n::r
 |[],n=>by simp
 |x::r,n=>by
  obtain⟨h1,h2⟩:=za3 r (max n x);rw[List.foldl_cons];refine⟨fun y hy=>?_,?_⟩
  ·have h0:=h1 (max n x) Ke
   rcases List.mem_cons.mp hy with rfl|hy
   ·omega
   ·rcases List.mem_cons.mp hy with rfl|hy
    ·omega
    ·exact h1 y (Kf _ hy)
  ·rcases List.mem_cons.mp h2 with e|e
   ·rw[e]
    rcases Int.le_total n x with q|q
    ·rw[Int.max_eq_right q];simp
    ·rw[Int.max_eq_left q];simp
   ·exact Kf _ (Kf _ e)
theorem zie{its:List Value}{ns:List Int}(hi:IntsAre its ns): ∃ps:List (Int×Tok),its=ps.map (fun p=>Value.int p.1 p.2)/\ns=ps.map (·.1):=by
 induction hi with
 |nil=>exact⟨[],rfl,rfl⟩
 |cons n t h ih=>
  obtain⟨ps,e1,e2⟩:=ih;exact⟨(n,t)::ps,by rw[e1];rfl,by rw[e2];rfl⟩
theorem zif{its:List Value}{ns:List Int}(hi:IntsAre its ns): ∃xs:Array (Int×Tok),its.toArray=intItems xs/\xs.size=ns.length/\∀i,(h:i<ns.length)->numAt xs i=ns[i]:=by
 obtain⟨ps,rfl,rfl⟩:=zie hi;refine⟨ps.toArray,by simp[intItems],by simp,fun i h=>?_⟩;have h':i<ps.length:=by simpa using h
 simp[numAt,h']
theorem zig(hc:X.calm=true):CallR X (.builtin "max") (VR X.K (zh .maxL)):=by
 rintro pins s σ H xs us Q I rv ⟨W,ds,r,wf,hs,hf,q⟩;replace hf:XH ds=some r:=hf;unfold XH at hf;split at hf
 ·rename_i l
  rw[jo1] at hf;obtain⟨ns,e1,hf⟩:=hf
  cases ns with
  |nil=>cases hf
  |cons n ns=>
   cases hf
   cases hs with
   |cons h1 t=>
    cases t;obtain⟨p,ys,rfl,hp,rp⟩:=h1.lst;have ey:=rp.ofInts e1;subst ey;obtain⟨u,rfl,ru⟩:=wT rv;cases ru;obtain⟨its,rv',pl,hz⟩:=I.list hp;obtain⟨xs,x1,x2,x3⟩:=zif (je rv');have hpl:=pl.isList;rw[x1] at hpl;refine max_intList (I.ok.hd hc) hpl (by rw[x2];simp) fun v h' tk hv hk=>?_
    obtain⟨t,rfl⟩:=intItems_at hv;obtain⟨g1,g2⟩:=argBest_gt (numAt xs) (xs.size-1);have hlen:xs.size-1=ns.length:=by rw[x2];simp
    rw[hlen] at g1 g2⊢;generalize argBest (fun i j=>decide (numAt xs i>numAt xs j)) ns.length=b at g1 g2⊢
    have eb:numAt xs b=ns.foldl max n:=by
     obtain⟨m1,m2⟩:=za3 ns n;have hb:b<(n::ns).length:=by simp;omega
     obtain⟨j,hj,ej⟩:=List.getElem_of_mem m2;have q1:=m1 _ (Kv hb);have q2:=g2 j (by simp at hj;omega);rw[x3 j hj,ej] at q2;rw[x3 b hb] at q2⊢;omega
    rw[eb];exact⟨.int _,H,I.kept (t':=tk) hk,⟨_,rfl⟩,q _ H (.refl H) (.val (.int _))⟩
 ·cases hf
end
end L2.LW
set_option maxHeartbeats 4000000
namespace L2.LW
open PySem PySem.W PyProof.Rows
section
variable {n:Nat} {r:Nat->Int} {cmp:Nat->Nat->(Bool->Shared->Prop)->Shared->Prop} {I:Shared->Prop}
noncomputable def kk(r:Nat->Int)(p:Array Nat)(i:Nat):Int:=r (p.getD i 0)
structure Pm (n:Nat)(r:Nat->Int)(p:Array Nat):Prop where
 perm:p.Perm (List.range n).toArray
 size:p.size=n
 lt: ∀i,i<n->p.getD i 0<n
 inj: ∀i j,i<n->j<n->i≠j->kk r p i≠kk r p j
theorem Pm.of{p:Array Nat}(hr: ∀i j,i<n->j<n->i≠j->r i≠r j)(h:p.Perm (List.range n).toArray):Pm n r p:=by
 have hs:p.size=n:=by have:=h.size_eq;simpa using this
 have hl:p.toList.Perm (List.range n):=Array.perm_iff_toList_perm.mp h
 have hlt: ∀i,i<n->p.getD i 0<n:=fun i hi=>by
  have hi':i<p.size:=by omega
  have:p[i]∈p.toList:=by simp
  have:=hl.mem_iff.mp this;rw[List.mem_range] at this;simpa [Array.getD,hi'] using this
 have hnd:p.toList.Nodup:=hl.nodup_iff.mpr List.nodup_range;refine⟨h,hs,hlt,fun i j hi hj ne=>hr _ _ (hlt i hi) (hlt j hj) fun e=>ne ?_⟩;have hi':i<p.size:=by omega
 have hj':j<p.size:=by omega
 simp only[Array.getD,hi',hj',dif_pos] at e;have e':p.toList[i]'(by simpa using hi')=p.toList[j]'(by simpa using hj'):=by simpa using e
 exact (List.getElem_inj hnd).mp e'
noncomputable def Up(r:Nat->Int)(p:Array Nat)(k:Nat):Prop:=∀i j,i<j->j<k->kk r p i<kk r p j
noncomputable def Dn(r:Nat->Int)(p:Array Nat)(k:Nat):Prop:=∀i j,i<j->j<k->kk r p j<kk r p i
theorem Up.one{p:Array Nat}{k:Nat}(h:k<=1):Up r p k:=fun i j h1 h2=>by omega
theorem Dn.one{p:Array Nat}{k:Nat}(h:k<=1):Dn r p k:=fun i j h1 h2=>by omega
theorem Up.next{p:Array Nat}{k:Nat}(h:Up r p k)(hk:1<=k)(e:kk r p (k-1)<kk r p k):Up r p (k+1):=fun i j h1 h2=>by
 by_cases hj:j=k
 ·subst hj
  by_cases hi:i=j-1
  ·rw[hi];exact e
  ·exact Int.lt_trans (h i (j-1) (by omega) (by omega)) e
 ·exact h i j h1 (by omega)
theorem Dn.next{p:Array Nat}{k:Nat}(h:Dn r p k)(hk:1<=k)(e:kk r p k<kk r p (k-1)):Dn r p (k+1):=fun i j h1 h2=>by
 by_cases hj:j=k
 ·subst hj
  by_cases hi:i=j-1
  ·rw[hi];exact e
  ·exact Int.lt_trans e (h i (j-1) (by omega) (by omega))
 ·exact h i j h1 (by omega)
theorem Pm.lt'{p:Array Nat}(P:Pm n r p){i j:Nat}(hi:i<n)(hj:j<n)(ne:i≠j)(h: ¬kk r p i<kk r p j):kk r p j<kk r p i:=by
 have:=P.inj i j hi hj ne;omega
variable (hc: ∀i j C s,i<n->j<n->I s->(∀s',I s'->C (decide (r i<r j)) s')->cmp i j C s)
include hc
theorem QH{p:Array Nat}(P:Pm n r p){Q:Nat->Shared->Prop}: ∀(f m:Nat) (s:Shared),1<=m->m+f=n->I s->Up r p m->(∀k s',I s'->m<=k->k<=n->Up r p k->(k=n\/kk r p k<kk r p (k-1))->(k=m\/kk r p m>kk r p (m-1))->Q k s')->(kas_asc p f m).kasWp cmp Q s
 |0,m,s,h1,h2,hI,hu,q=>q m s hI (Kg _) (by omega) hu (.inl (by omega)) (.inl rfl)
 |f+1,m,s,h1,h2,hI,hu,q=>by
  refine hc _ _ _ s (P.lt m (by omega)) (P.lt (m-1) (by omega)) hI fun s' hI'=>?_
  by_cases h:kk r p m<kk r p (m-1)
  ·have e:decide (r (p.getD m 0)<r (p.getD (m-1) 0))=true:=decide_eq_true h
   simp only[e,if_true];exact q m s' hI' (Kg _) (by omega) hu (.inr h) (.inl rfl)
  ·have e:decide (r (p.getD m 0)<r (p.getD (m-1) 0))=false:=KKq h
   simp only[e,Bool.false_eq_true,if_false];have hlt:=P.lt' (by omega) (by omega) (by omega) h;exact QH P f (m+1) s' (by omega) (by omega) hI' (hu.next h1 hlt) fun k s'' hs h3 h4 h5 h6 _=>q k s'' hs (by omega) h4 h5 h6 (.inr hlt)
theorem za4{p:Array Nat}(P:Pm n r p){Q:Array Nat×Nat×Nat->Shared->Prop}: ∀(f m:Nat) (s:Shared),1<=m->m+f=n->I s->Dn r p m->(∀k s',I s'->m<=k->k<=n->Dn r p k->Q (p,k,0) s')->(kas_desc f p m 0).kasWp cmp Q s
 |0,m,s,h1,h2,hI,hu,q=>q m s hI (Kg _) (by omega) hu
 |f+1,m,s,h1,h2,hI,hu,q=>by
  refine hc _ _ _ s (P.lt m (by omega)) (P.lt (m-1) (by omega)) hI fun s' hI'=>?_
  by_cases h:kk r p m<kk r p (m-1)
  ·have e:decide (r (p.getD m 0)<r (p.getD (m-1) 0))=true:=decide_eq_true h
   simp only[e,if_true,Nat.lt_irrefl,if_false,gt_iff_lt];exact za4 P f (m+1) s' (by omega) (by omega) hI' (hu.next h1 h) fun k s'' hs h3 h4 h5=>q k s'' hs (by omega) h4 h5
  ·have e:decide (r (p.getD m 0)<r (p.getD (m-1) 0))=false:=KKq h
   simp only[e,Bool.false_eq_true,if_false];have hlt:=P.lt' (by omega) (by omega) (by omega) h;refine hc _ _ _ s' (P.lt (m-1) (by omega)) (P.lt m (by omega)) hI' fun s'' hI''=>?_
   have e2:decide (r (p.getD (m-1) 0)<r (p.getD m 0))=true:=decide_eq_true hlt;simp only[e2,if_true];exact q m s'' hI'' (Kg _) (by omega) hu
omit hc in
theorem Pm.rev{p:Array Nat}(hr: ∀i j,i<n->j<n->i≠j->r i≠r j)(P:Pm n r p)(i j:Nat):Pm n r (kas_rev p i j):=Pm.of hr ((mirror_perm p i j _).trans P.perm)
omit hc in
theorem za5{p:Array Nat}{m k:Nat}(hm:m<=p.size):kk r (kas_rev p 0 m) k=if k<m then kk r p (m-1-k) else kk r p k:=by
 have e:=getElem?_mirror_all (i:=0) hm k;simp only[Nat.zero_le,true_and,Nat.zero_add] at e;by_cases h:k<m
 ·rw[if_pos h] at e⊢
  simp only[kk,kas_rev,Array.getD_eq_getD_getElem?,e]
 ·rw[if_neg h] at e⊢
  simp only[kk,kas_rev,Array.getD_eq_getD_getElem?,e]
omit hc in
theorem Dn.rev{p:Array Nat}{m:Nat}(hm:m<=p.size)(h:Dn r p m):Up r (kas_rev p 0 m) m:=fun i j h1 h2=>by
 rw[za5 hm,za5 hm,if_pos (by omega),if_pos h2];exact h _ _ (by omega) (by omega)
theorem zih(hr: ∀i j,i<n->j<n->i≠j->r i≠r j){p:Array Nat}(P:Pm n r p){m:Nat}{s:Shared}{Q:Nat×Array Nat->Shared->Prop}(h1:1<=m)(h2:m<=n)(hI:I s)(hd:Dn r p m)
  (q: ∀k p' s',I s'->k<=n->1<=k->Pm n r p'->Up r p' k->Q (k,p') s'):(kas_tail3 m n p).kasWp cmp Q s:=by
 unfold kas_tail3;rw[KasT.kasWp_bind];have P':=P.rev hr 0 m;refine QH hc P' (n-m) m s h1 (by omega) hI (hd.rev (by rw[P.size];exact h2)) fun k s' hs h3 h4 h5 _ _=>?_
 exact q k _ s' hs h4 (by omega) P' h5
theorem zii(hr: ∀i j,i<n->j<n->i≠j->r i≠r j){p:Array Nat}(P:Pm n r p){s:Shared}{Q:Nat×Array Nat->Shared->Prop}(h2:2<=n)(hI:I s)(hd:kk r p 1<kk r p 0)
  (q: ∀k p' s',I s'->k<=n->1<=k->Pm n r p'->Up r p' k->Q (k,p') s'):(kas_descPart 1 n p).kasWp cmp Q s:=by
 unfold kas_descPart;rw[KasT.kasWp_bind];refine za4 hc P (n-2) 2 s (by omega) (by omega) hI ((Dn.one (k:=1) (Kg _)).next (Kg _) hd) fun k s' hs h3 h4 h5=>?_
 simp only[Nat.lt_irrefl,if_false,gt_iff_lt];exact zih hc hr P (by omega) h4 hs h5 q
theorem zij(hr: ∀i j,i<n->j<n->i≠j->r i≠r j){p:Array Nat}(P:Pm n r p){s:Shared}{Q:Nat×Array Nat->Shared->Prop}(h2:2<=n)(hI:I s)
  (q: ∀k p' s',I s'->k<=n->1<=k->Pm n r p'->Up r p' k->Q (k,p') s'):(kas_count n p).kasWp cmp Q s:=by
 unfold kas_count;rw[KasT.kasWp_bind];refine QH hc P (n-1) 1 s (Kg _) (by omega) hI (Up.one (Kg _)) fun k s' hs h3 h4 h5 h6 h7=>?_
 by_cases hk:k=n
 ·subst hk
  simp only[beq_self_eq_true,if_true];exact q _ p s' hs (Kg _) h3 P h5
 ·have e:(k==n)=false:=by simpa using hk
  simp only[e,Bool.false_eq_true,if_false];by_cases h1:k>1
  ·simp only[h1,if_true]
   refine hc _ _ _ s' (P.lt 0 (by omega)) (P.lt (k-1) (by omega)) hs fun s'' hs'=>?_
   have e2:decide (r (p.getD 0 0)<r (p.getD (k-1) 0))=true:=decide_eq_true (h5 0 (k-1) (by omega) (by omega));simp only[e2,if_true];exact q _ p s'' hs' h4 h3 P h5
  ·have ek:k=1:=by omega
   subst ek;simp only[Nat.lt_irrefl,if_false,gt_iff_lt];exact zii hc hr P h2 hs (h6.resolve_left hk) q
theorem QI{p:Array Nat}(P:Pm n r p){k:Nat}(hk:k<n){Q:Nat->Shared->Prop}: ∀(f l h:Nat) (s:Shared),h-l<=f->l<=h->h<=k->I s->(∀i,i<l->kk r p i<kk r p k)->(∀i,h<=i->i<k->kk r p k<kk r p i)->Up r p k->
  (∀l s',I s'->l<=k->(∀i,i<l->kk r p i<kk r p k)->(∀i,l<=i->i<k->kk r p k<kk r p i)->Q l s')->(kas_place p k f l h).kasWp cmp Q s
 |0,l,h,s,hf,h1,h2,hI,hl,hh,hu,q=>q l s hI (by omega) hl fun i h3 h4=>hh i (by omega) h4
 |f+1,l,h,s,hf,h1,h2,hI,hl,hh,hu,q=>by
  unfold kas_place;by_cases hge:l>=h
  ·rw[if_pos hge]
   exact q l s hI (by omega) hl fun i h3 h4=>hh i (by omega) h4
  ·rw[if_neg hge]
   refine hc _ _ _ s (P.lt k hk) (P.lt _ (by omega)) hI fun s' hI'=>?_
   by_cases hm:kk r p k<kk r p ((l+h)/2)
   ·have e:decide (r (p.getD k 0)<r (p.getD ((l+h)/2) 0))=true:=decide_eq_true hm
    simp only[e,if_true];refine QI P hk f l ((l+h)/2) s' (by omega) (by omega) (by omega) hI' hl (fun i h3 h4=>?_) hu q;by_cases hi:i=(l+h)/2
    ·rw[hi];exact hm
    ·exact Int.lt_trans hm (hu _ _ (by omega) h4)
   ·have e:decide (r (p.getD k 0)<r (p.getD ((l+h)/2) 0))=false:=KKq hm
    simp only[e,Bool.false_eq_true,if_false];have hlt:=P.lt' hk (by omega) (by omega) hm;refine QI P hk f ((l+h)/2+1) h s' (by omega) (by omega) h2 hI' (fun i h3=>?_) hh hu q;by_cases hi:i=(l+h)/2
    ·rw[hi];exact hlt
    ·exact Int.lt_trans (hu i ((l+h)/2) (by omega) (by omega)) hlt
omit hc in
theorem za6{p:Array Nat}{k d:Nat}(hk:k<p.size)(hd:d<=k)(i:Nat):kk r (bubble p k d) i=if i=k-d then kk r p k else if k-d<i/\i<=k then kk r p (i-1) else kk r p i:=by
 have e:=getElem?_bubble hk d hd i;by_cases h:i=k-d
 ·rw[if_pos h] at e⊢
  simp only[kk,Array.getD_eq_getD_getElem?,e]
 ·rw[if_neg h] at e⊢
  by_cases h':k-d<i/\i<=k
  ·rw[if_pos h'] at e⊢
   simp only[kk,Array.getD_eq_getD_getElem?,e]
  ·rw[if_neg h'] at e⊢
   simp only[kk,Array.getD_eq_getD_getElem?,e]
theorem za7(hr: ∀i j,i<n->j<n->i≠j->r i≠r j){Q:Array Nat->Shared->Prop}: ∀(f:Nat) (p:Array Nat) (k:Nat) (s:Shared),1<=k->k+f=n->Pm n r p->I s->Up r p k->(∀p' s',I s'->Pm n r p'->Up r p' n->Q p' s')->(kas_bin f p k).kasWp cmp Q s
 |0,p,k,s,h1,h2,P,hI,hu,q=>q p s hI P (by rw[<-h2];exact hu)
 |f+1,p,k,s,h1,h2,P,hI,hu,q=>by
  unfold kas_bin;rw[KasT.kasWp_bind];have hk:k<n:=by omega
  refine QI hc P hk k 0 k s (by omega) (Nat.zero_le _) (Kg _) hI (fun i h=>by omega) (fun i h3 h4=>by omega) hu fun l s' hI' hl h3 h4=>?_
  have hks:k<p.size:=by rw[P.size];exact hk
  have P':Pm n r (bubble p k (k-l)):=Pm.of hr ((bubble_perm p k _).trans P.perm);refine za7 hr f _ (k+1) s' (by omega) (by omega) P' hI' (fun i j hij hj=>?_) q;rw[za6 hks (by omega),za6 hks (by omega)];have ekl:k-(k-l)=l:=by omega
  rw[ekl];by_cases hi:i=l
  ·rw[if_pos hi,if_neg (by omega)]
   rw[if_pos (by omega)];exact h4 _ (by omega) (by omega)
  ·rw[if_neg hi]
   by_cases hjl:j=l
   ·rw[if_pos hjl,if_neg (by omega)]
    exact h3 i (by omega)
   ·rw[if_neg hjl]
    by_cases hi2:l<i/\i<=k
    ·rw[if_pos hi2,if_pos (by omega)]
     exact hu _ _ (by omega) (by omega)
    ·rw[if_neg hi2]
     by_cases hj2:l<j/\j<=k
     ·rw[if_pos hj2]
      by_cases he:i=j-1
      ·omega
      ·exact hu _ _ (by omega) (by omega)
     ·rw[if_neg hj2]
      exact hu _ _ (by omega) (by omega)
theorem zik(hr: ∀i j,i<n->j<n->i≠j->r i≠r j){s:Shared}{Q:Array Nat->Shared->Prop}(h2:2<=n)(hI:I s)(q: ∀p s',I s'->Pm n r p->Up r p n->Q p s'):(kas_sort n).kasWp cmp Q s:=by
 unfold kas_sort;rw[KasT.kasWp_bind];have P0:Pm n r (List.toArray (List.range n)):=Pm.of hr (Array.Perm.refl _);refine zij hc hr P0 h2 hI fun k p s' hI' hk h1 P hu=>?_
 by_cases hlt:k<n
 ·simp only[hlt,if_true]
  have e:max k 1=k:=by omega
  rw[e];exact za7 hc hr (n-k) p k s' h1 (by omega) P hI' hu q
 ·simp only[hlt,if_false]
  have e:k=n:=by omega
  exact q p s' hI' P (by rw[<-e];exact hu)
end
end L2.LW
set_option maxHeartbeats 4000000
namespace L2.LW
open PySem PySem.Spec PySem.W PyProof.Rows
section
variable {prog:Program} {w:World} {A:Around} {E:Value->Shared->Prop} {s:Shared}
theorem zil{a:Addr}{vs:List Value}{n:Nat}{P:PySem.Fin->Shared->Prop}{κ:SortKind}(ho:s.heap.get? a=some (seqObj "list" vs.toArray n))(h64:vs.length<64){r:Nat->Int}(hr: ∀i j,i<vs.length->j<vs.length->i≠j->r i≠r j)
  (hk:2<=vs.length->∀h' tk,(∀b o,b≠a->s.heap.get? b=some o->h'.get? b=some o)->wpAny (model prog w) A (keyKind' vs.toArray) (fun κ' s'=>κ'=κ/\∃tk',s'={ s with heap:=h',toks:=tk' }) (fun _ _=>False) { s with heap:=h',toks:=tk })
  (hc: ∀i j h' tk (C:Bool->Shared->Prop),i<vs.length->j<vs.length->(∀b o,b≠a->s.heap.get? b=some o->h'.get? b=some o)->(∀tk',C (decide (r i<r j)) { s with heap:=h',toks:=tk' })->
   wpAny (model prog w) A (keyLt' κ (vs.getD i Value.none) (vs.getD j Value.none)) C (fun _ _=>False) { s with heap:=h',toks:=tk })
  (h: ∀p tk,Pm vs.length r p->Up r p vs.length->P (.done (.ret .none)) { s with heap:=sortedHeap s.heap a vs (p.toList.map fun i=>vs.getD i Value.none).toArray,toks:=tk }):
  wpAny (model prog w) A (Builtin.«list.sort» ⟨[.ref a],[]⟩) P E s:=by
 rw[list_sort_plain];have ha:a<s.heap.objs.size:=Km ho;refine Kb (listItems_at ho rfl ?_);refine Kb (listUpdate_at ho rfl ?_ (by rw[List.size_toArray,KI];omega) (Nat.zero_le _));obtain⟨e1,ho1⟩: ∃e1,(s.heap.update a (Obj.mapSeq fun _=> #[])).get? a=some (seqObj "list" #[] e1):=⟨_,get?_update_seq ho (fun _=> #[])⟩;refine Kb (seqEpoch_at ho1 rfl ?_);refine Kb (wpAny_newTuple ?_ (by show vs.length<=_;rw[KI];omega));refine Kb (wpAny_newList ?_ (Nat.zero_le _));refine wpAny_holding ?_
 have ho6:(((s.heap.update a (Obj.mapSeq fun _=> #[])).push (seqObj "tuple" vs.toArray 0)).push (seqObj "list" #[] 0)).get? a=some (seqObj "list" #[] e1):=by
  rw[Heap.get?_push_ne _ _ _ (by rw[size_push',Heap.size_update];exact Ki (KH ha)),Heap.get?_push_ne _ _ _ (by rw[Heap.size_update];exact Ki ha)];exact ho1
 have keep: ∀b o,b≠a->s.heap.get? b=some o->(((s.heap.update a (Obj.mapSeq fun _=> #[])).push (seqObj "tuple" vs.toArray 0)).push (seqObj "list" #[] 0)).get? b=some o:=fun b o hb e=>
  Kn _ (Kn _ (by rw[Heap.get?_update_ne _ _ _ _ hb];exact e))
 show wpAny (model prog w) A _ P E { s with heap:=((s.heap.update a (Obj.mapSeq fun _=> #[])).push (seqObj "tuple" vs.toArray 0)).push (seqObj "list" #[] 0) };dsimp only;have hsz:vs.toArray.size=vs.length:=by simp
 have hid:Pm vs.length r (List.range vs.length).toArray:=Pm.of hr (Array.Perm.refl _);by_cases h2:vs.toArray.size<2
 ·rw[if_pos h2,if_pos h2]
  refine Kb (Kc ?_);rw[StateT.run_pure];refine Kb (Kc ?_);dsimp only;refine Kb (seqEpoch_at ho6 rfl ?_);refine Kb (listUpdate_at ho6 rfl ?_ (Nat.zero_le _) (by rw[Array.size_map];show (pairsOf vs).size<=_;rw[pairsOf_size,KI];omega));simp only[bne_self_eq_false,Bool.false_eq_true,if_false];have hh:=h (List.range vs.length).toArray s.toks hid (Up.one (by omega))
  have e:((List.range vs.length).toArray.toList.map fun i=>vs.getD i Value.none).toArray=(arrOf (SortSt.mk' general' (vs.toArray.zip vs.toArray) #[] 7 none)).map (·.2):=by
   show _=(vs.toArray.zip vs.toArray).map (·.2);apply Array.toList_inj.mp;simp;apply List.ext_getElem
   ·simp
   ·intro i h1 h2;simp at h1;simp[h1]
  rw[e] at hh;exact Kc hh
 ·rw[if_neg h2,if_neg h2]
  rw[hsz] at h2;have h2':2<=vs.length:=by omega
  refine Kb (Kd (hk h2' _ s.toks keep) (fun κ' s0 ⟨hκ,tk0,hs0⟩=>?_) fun _ _ x=>x.elim);subst hκ hs0
  refine Kb (Kd (kat_run (ks:=vs) (Q:=fun st' s'=>∃(p:Array Nat) (tk:Nat),Pm vs.length r p/\Up r p vs.length/\arrOf st'=p.map (kas_item (vs.toArray.zip vs.toArray))/\failedOf st'=Option.none/\
    s'={ s with heap:=((s.heap.update a (Obj.mapSeq fun _=> #[])).push (seqObj "tuple" vs.toArray 0)).push (seqObj "list" #[] 0),toks:=tk })
   (G:=fun p s'=>∃tk,Pm vs.length r p/\Up r p vs.length/\s'={ s with heap:=((s.heap.update a (Obj.mapSeq fun _=> #[])).push (seqObj "tuple" vs.toArray 0)).push (seqObj "list" #[] 0),toks:=tk })
   rfl h2' h64 (fun p st' s' a1 a2 a3 ⟨tk,a4,a5,a6⟩=>⟨p,tk,a4,a5,a2,a3,a6⟩) ?_) ?_ fun _ _ e=>e)
  ·exact zik (I:=fun s'=>∃tk,s'={ s with heap:=((s.heap.update a (Obj.mapSeq fun _=> #[])).push (seqObj "tuple" vs.toArray 0)).push (seqObj "list" #[] 0),toks:=tk })
    (fun i j C s' hi hj zz6 q=>by
     obtain⟨tk,hs'⟩:=zz6;subst hs';exact hc i j _ tk C hi hj keep fun tk'=>q _ ⟨tk',rfl⟩) hr h2' ⟨tk0,rfl⟩ fun p s' ⟨tk,hs'⟩ hp hu=>⟨tk,hp,hu,hs'⟩
  ·rintro⟨⟨⟩,st'⟩ s' ⟨p,tk,hp,hu,har,hf,rfl⟩
   dsimp only;have hout:=kat_snds (ks:=vs) (vs:=vs) rfl har;rw[hout];refine Kb (seqEpoch_at ho6 rfl ?_);refine Kb (listUpdate_at ho6 rfl ?_ (Nat.zero_le _) (by rw[List.size_toArray,List.length_map,Array.length_toList,hp.size,KI];omega));rw[hf];simp only[bne_self_eq_false,Bool.false_eq_true,if_false];exact Kc (h p tk hp hu)
theorem za8{l:Addr}{vs:List Value}{Q:Value->Shared->Prop}{κ:SortKind}(hl:s.heap.IsList l vs.toArray)(h64:vs.length<64){r:Nat->Int}(hr: ∀i j,i<vs.length->j<vs.length->i≠j->r i≠r j)
  (hk:2<=vs.length->∀h' tk,(∀b o,s.heap.get? b=some o->h'.get? b=some o)->wpAny (model prog w) A.in1.in1 (keyKind' vs.toArray) (fun κ' s'=>κ'=κ/\∃tk',s'={ s with heap:=h',toks:=tk' }) (fun _ _=>False) { s with heap:=h',toks:=tk })
  (hc: ∀i j h' tk (C:Bool->Shared->Prop),i<vs.length->j<vs.length->(∀b o,s.heap.get? b=some o->h'.get? b=some o)->(∀tk',C (decide (r i<r j)) { s with heap:=h',toks:=tk' })->
   wpAny (model prog w) A.in1.in1 (keyLt' κ (vs.getD i Value.none) (vs.getD j Value.none)) C (fun _ _=>False) { s with heap:=h',toks:=tk })
  (h: ∀p tk,Pm vs.length r p->Up r p vs.length->Q (.ref (s.heap.objs.size+1)) { s with heap:=sortedAll s.heap vs (p.toList.map fun i=>vs.getD i Value.none).toArray,toks:=tk }):
  wpAny (model prog w) A (call (.builtin "sorted") [.ref l]) Q E s:=by
 refine Calls.call_function_entry kind_sorted plain_sorted entry_sorted (args_sorted1 _) ?_;unfold Builtin.«sorted»;refine Kb (m:=checkCount "sorted" 1 1 _) (Kc ?_);refine Kb (collect_list hl ?_ (by rw[KI];omega));refine Kb (wpAny_newList ?_ (by rw[KI];omega))
 have hsz:((s.heap.push (seqObj "list" #[] 0)).update s.heap.objs.size (Obj.mapSeq (· ++vs.toArray))).objs.size=s.heap.objs.size+1:=by
  rw[Heap.size_update,size_push']
 have hoL:(((s.heap.push (seqObj "list" #[] 0)).update s.heap.objs.size (Obj.mapSeq (· ++vs.toArray))).push (seqObj "list" vs.toArray 0)).get? (s.heap.objs.size+1)=some (seqObj "list" vs.toArray 0):=by
  rw[<-hsz];exact Heap.get?_push_size _ rfl
 have keep: ∀b o,s.heap.get? b=some o->(((s.heap.push (seqObj "list" #[] 0)).update s.heap.objs.size (Obj.mapSeq (· ++vs.toArray))).push (seqObj "list" vs.toArray 0)).get? b=some o:=fun b o q=>by
  have hlt:b<s.heap.objs.size:=Km q;rw[Heap.get?_push_ne _ _ _ (by rw[hsz];exact Ki (KH hlt)),Heap.get?_update_ne _ _ _ _ (Ki hlt),Heap.get?_push_ne _ _ _ (Ki hlt)];exact q
 have nea: ∀b o,s.heap.get? b=some o->b≠s.heap.objs.size+1:=fun b o e=>Ki (KH (Km e))
 show wpAny _ _ _ _ _ { s with heap:=((s.heap.push (seqObj "list" #[] 0)).update s.heap.objs.size (Obj.mapSeq (· ++vs.toArray))).push (seqObj "list" vs.toArray 0) };rw[hsz];refine Kb (wpAny_holding (wpAny_call_entry slot_list_sort ⟨_,hoL,rfl⟩ entry_list_sort (zil (κ:=κ) (r:=r) hoL h64 hr (fun h2 h' tk hk'=>?_) (fun i j h' tk C hi hj hk' q=>?_) fun p tk hp hu=>⟨_,rfl,?_⟩) (args_list_sort _)))
 ·exact hk h2 h' tk fun b o e=>hk' b o (nea b o e) (keep b o e)
 ·exact hc i j h' tk C hi hj (fun b o e=>hk' b o (nea b o e) (keep b o e)) q
 ·exact Kc ⟨_,rfl,h p tk hp hu⟩
end
theorem ve: ∀x:List Int,LW.lexLt x x=false
 |[]=>rfl
 |a::x=>by rw[LW.lexLt,if_pos rfl];exact ve x
theorem Zb: ∀{x y z:List Int},LW.lexLt x y=true->LW.lexLt y z=true->LW.lexLt x z=true
 |x,[],_,h,_=>by cases x<;>simp[LW.lexLt] at h
 |_,_::_,[],_,h=>by cases h
 |[],_::_,_::_,_,_=>rfl
 |a::x,b::y,c::z,h1,h2=>by
  rw[LW.lexLt] at h1 h2⊢;by_cases e1:a=b
  ·by_cases e2:b=c
   ·rw[if_pos e1] at h1
    rw[if_pos e2] at h2;rw[if_pos (e1.trans e2)];exact Zb h1 h2
   ·rw[if_neg e2,decide_eq_true_iff] at h2
    rw[if_neg (by omega),decide_eq_true_iff];omega
  ·rw[if_neg e1,decide_eq_true_iff] at h1
   by_cases e2:b=c
   ·rw[if_neg (by omega),decide_eq_true_iff];omega
   ·rw[if_neg e2,decide_eq_true_iff] at h2
    rw[if_neg (by omega),decide_eq_true_iff];omega
theorem Yi: ∀{x y:List Int},x≠y->LW.lexLt x y=true\/LW.lexLt y x=true
 |[],[],h=>KG rfl h
 |[],_::_,_=>.inl rfl
 |_::_,[],_=>.inr rfl
 |a::x,b::y,h=>by
  rw[LW.lexLt,LW.lexLt];by_cases e:a=b
  ·rw[if_pos e,if_pos e.symm]
   exact Yi fun z=>h (by rw[e,z])
  ·rw[if_neg e,if_neg (fun z=>e z.symm),decide_eq_true_iff,decide_eq_true_iff]
   omega
noncomputable abbrev wz(x y:List Int):Prop:=LW.lexLt x y=true
theorem QJ(x:List Int): ∀l,(jh x l).Perm (x::l)
 |[]=>.refl _
 |y::r=>by
  unfold jh;split
  ·exact .refl _
  ·exact ((QJ x r).cons y).trans (.swap x y r)
theorem Yj: ∀l,(wW l).Perm l
 |[]=>.refl _
 |x::r=>(QJ x _).trans ((Yj r).cons x)
theorem za9{x:List Int}: ∀{l:List (List Int)},l.Pairwise wz->(∀y∈l,x≠y)->(jh x l).Pairwise wz
 |[],_,_=>by simp[jh]
 |y::r,h,hn=>by
  rw[List.pairwise_cons] at h;unfold jh;split
  ·rename_i hx
   rw[List.pairwise_cons,List.pairwise_cons];refine⟨fun z hz=>?_,h⟩;rcases List.mem_cons.mp hz with rfl|hz
   ·exact hx
   ·exact Zb hx (h.1 z hz)
  ·rename_i hx
   have hyx:wz y x:=(Yi (hn y Ke)).resolve_left hx;rw[List.pairwise_cons];refine⟨fun z hz=>?_,za9 h.2 fun z hz=>hn z (Kf _ hz)⟩;rcases List.mem_cons.mp ((QJ x r).mem_iff.mp hz) with rfl|hz
   ·exact hyx
   ·exact h.1 z hz
theorem Vw: ∀{l:List (List Int)},l.Nodup->(wW l).Pairwise wz
 |[],_=>List.Pairwise.nil
 |x::r,h=>by
  rw[List.nodup_cons] at h;exact za9 (Vw h.2) fun y hy e=>h.1 ((Yj r).mem_iff.mp (e▸hy))
theorem QK: ∀{l m:List (List Int)},l.Perm m->l.Pairwise wz->m.Pairwise wz->l=m
 |[],m,h,_,_=>(List.Perm.nil_eq h)
 |x::l,[],h,_,_=>by have:=h.length_eq;simp at this
 |x::l,y::m,h,h1,h2=>by
  rw[List.pairwise_cons] at h1 h2
  have e:x=y:=by
   rcases List.mem_cons.mp (h.mem_iff.mp Ke) with e|hx
   ·exact e
   ·rcases List.mem_cons.mp (h.mem_iff.mpr Ke) with e|hy
    ·exact e.symm
    ·have q1:=h2.1 x hx
     have q2:=h1.1 y hy;have:=Zb q1 q2;rw[ve] at this;cases this
  subst e;rw[QK (List.Perm.cons_inv h) h1.2 h2.2]
noncomputable def xr(ks:List (List Int))(x:List Int):Int:=((ks.filter fun y=>LW.lexLt y x).length:Nat)
theorem Zc{ks:List (List Int)}{x y:List Int}(hx:x∈ks)(h:wz x y):xr ks x<xr ks y:=by
 unfold xr
 have key: ∀l:List (List Int),(l.filter fun z=>LW.lexLt z x).length<=(l.filter fun z=>LW.lexLt z y).length/\(x∈l->(l.filter fun z=>LW.lexLt z x).length<(l.filter fun z=>LW.lexLt z y).length):=by
  intro l
  induction l with
  |nil=>exact⟨Kg _,fun z=>by cases z⟩
  |cons z l ih=>
   rw[List.filter_cons,List.filter_cons];by_cases h1:LW.lexLt z x=true
   ·have h2:=Zb h1 h
    rw[if_pos h1,if_pos h2];simp only[List.length_cons];refine⟨by omega,fun hz=>?_⟩;rcases List.mem_cons.mp hz with rfl|hz
    ·rw[ve] at h1;cases h1
    ·have:=ih.2 hz;omega
   ·rw[if_neg h1]
    by_cases h2:LW.lexLt z y=true
    ·rw[if_pos h2]
     simp only[List.length_cons];exact⟨by omega,fun _=>by omega⟩
    ·rw[if_neg h2]
     refine⟨ih.1,fun hz=>?_⟩;rcases List.mem_cons.mp hz with rfl|hz
     ·exact KG h h2
     ·exact ih.2 hz
 have:=(key ks).2 hx;omega
theorem Vx{ks:List (List Int)}{x y:List Int}(hx:x∈ks)(hy:y∈ks)(hne:x≠y):decide (xr ks x<xr ks y)=LW.lexLt x y:=by
 rcases Yi hne with h|h
 ·have:=Zc hx h
  rw[h,decide_eq_true_iff];exact this
 ·have h1:=Zc hy h
  have h2:LW.lexLt x y=false:=by
   cases e:LW.lexLt x y with
   |false=>rfl
   |true=>have:=Zb e h;rw[ve] at this;cases this
  rw[h2,decide_eq_false_iff_not];omega
section
variable {X:Cx} {pins:List (Addr×Obj)} {σ:St} {H:Hp} {s:Shared} {W:Addr->Prop}
noncomputable def xA(h:Heap)(v:Value)(k:List Int):Prop:=∃a o its n,v= .ref a/\h.get? a=some o/\o.cls= .type "tuple"/\o.data= .seq its n/\IntsAre its.toList k
theorem QL(I:Inv X pins σ H s): ∀{ds:List D} {xs:List V} {us:List Value} {ks:List (List Int)},Reps X.K W H ds xs->Vals xs us->tups? ds=some ks->Paired (xA s.heap) us ks
 |_,_,_,ks,.nil,r,e=>by cases r;simp[tups?] at e;subst e;exact .nil
 |_,_,_,ks,.cons h t,r,e=>by
  cases r with
  |cons r1 r2=>
   cases h with
   |tup hH rp=>
    simp only[tups?,jo1,jo2] at e;obtain⟨k,e1,ks',e2,rfl⟩:=e;refine .cons ?_ (QL I t r2 e2);cases r1;obtain⟨its,rv,⟨o,ho,hc,n,hd⟩,_⟩:=I.tuple (.of hH);rw[rp.ofInts e1] at rv;exact⟨_,o,its.toArray,n,rfl,ho,hc,hd,by simpa using je rv⟩
   |_=>simp[tups?] at e
theorem Yk{α β:Type}{F:α->β->Prop}: ∀{xs:List α} {ys:List β} {i:Nat},Paired F xs ys->i<xs.length->∃x y,xs[i]? =some x/\ys[i]? =some y/\F x y
 |_,_,_,.nil,h=>by simp at h
 |_,_,0,.cons h _,_=>⟨_,_,rfl,rfl,h⟩
 |_,_,i+1,.cons _ t,h=>by
  obtain⟨x,y,h1,h2,h3⟩:=Yk (i:=i) t (by simpa using h);exact⟨x,y,by simpa using h1,by simpa using h2,h3⟩
theorem zba{h:Heap}: ∀{us:List Value} {ks:List (List Int)},Paired (xA h) us ks->(∀k∈ks,k≠[])->∃fs,KatTups h us fs/\fs.length=us.length/\∀v∈fs,∃i t,v=Value.int i t
 |_,_,.nil,_=>⟨[],.nil,rfl,fun _ z=>by cases z⟩
 |_,_,.cons hx t,hn=>by
  obtain⟨fs,h1,h2,h3⟩:=zba t fun k hk=>hn k (Kf _ hk)
  obtain⟨a,o,its,n,rfl,ho,hc,hd,hi⟩:=hx;have hne:=hn _ Ke
  cases hi':its.toList with
  |nil=>rw[hi'] at hi;cases hi;exact KG rfl hne
  |cons v r=>
   rw[hi'] at hi
   cases hi with
   |cons i t' hr=>
    refine⟨.int i t'::fs,.cons ho hc hd (by rw[<-Array.getElem?_toList,hi'];rfl) h1,by simp[h2],fun v hv=>?_⟩;rcases List.mem_cons.mp hv with rfl|hv
    ·exact⟨_,_,rfl⟩
    ·exact h3 v hv
theorem zbb{prog:Program}{w:World}{A:Around}{Q:Bool->Shared->Prop}{s:Shared}{fin:Bool}: ∀{us vs:List Value} {x y:List Int} (i:Nat),IntsAre us x->IntsAre vs y->(fin=decide (us.length<vs.length))->Q (LW.lexLt x y) s->KatLex prog w A true fin Q (us.zip vs) i s
 |_,_,_,_,i,.nil,hv,hf,q=>by
  cases hv with
  |nil=>subst hf;exact kat_nil q
  |cons j t hv=>subst hf;exact kat_nil q
 |_,_,_,_,i,.cons a t hu,hv,hf,q=>by
  cases hv with
  |nil=>subst hf;exact kat_nil q
  |cons b t' hv=>
   refine kat_cons (wpAny_eqBool_int ?_);by_cases e:a=b
   ·subst e
    have:(a==a)=true:=by simp
    rw[this];refine kat_yes (zbb (i+1) hu hv (by rw[hf];simp) ?_);rw[LW.lexLt,if_pos rfl] at q;exact q
   ·have:(a==b)=false:=by simpa using e
    rw[this];refine kat_no ?_;rw[LW.lexLt,if_neg e] at q
    cases i with
    |zero=>exact oneLt_int q
    |succ i=>
     have e2:(true&&(i+1==0))=false:=rfl;rw[e2];exact kat_one _ _ (lt_int q)
theorem yF{α:Type}{l:List α}{i:Nat}{x d:α}(h:l[i]? =some x):l.getD i d=x:=by
 rw[List.getD_eq_getElem?_getD,h];rfl
theorem zbc{xs:List V}{us:List Value}(r:Vals xs us)(p:List Nat)(hp: ∀i∈p,i<us.length):Vals (p.map fun i=>xs.getD i .non) (p.map fun i=>us.getD i Value.none):=by
 induction p with
 |nil=>exact .nil
 |cons i p ih=>
  refine .cons ?_ (ih fun j hj=>hp j (Kf _ hj));have hi:=hp i Ke;have hl:=r.length;obtain⟨u,h1,h2⟩:=r.get (i:=i) (x:=xs[i]'(by omega)) (by simp);show RelV (xs.getD i .non) (us.getD i Value.none);rw[yF h1,yF (x:=xs[i]'(by omega)) (by simp)];exact h2
theorem zbd{ds:List D}{xs:List V}(r:Reps X.K W H ds xs)(p:List Nat)(hp: ∀i∈p,i<ds.length):Reps X.K W H (p.map fun i=>ds.getD i .non) (p.map fun i=>xs.getD i .non):=by
 induction p with
 |nil=>exact .nil
 |cons i p ih=>
  refine .cons ?_ (ih fun j hj=>hp j (Kf _ hj));have hi:=hp i Ke;obtain⟨x,h1,h2⟩:=r.get (i:=i) (d:=ds[i]) (by simp);show Rep X.K W H (ds.getD i .non) (xs.getD i .non);rw[yF h1,yF (x:=ds[i]) (by simp)];exact h2
theorem zbe: ∀{ds:List D} {ks:List (List Int)},tups? ds=some ks->ds=ks.map kT
 |[],ks,e=>by simp[tups?] at e;subst e;rfl
 |d::r,ks,e=>by
  cases d with
  |tup l=>
   simp only[tups?,jo1,jo2] at e;obtain⟨k,e1,ks',e2,rfl⟩:=e;rw[zbe e2,jO e1];rfl
  |_=>simp[tups?] at e
theorem zim:CallR X (.builtin "sorted") (VR X.K (zh .sorted)):=by
 rintro pins s σ H xs us Q I rv ⟨W,ds,r,wf,hs,hf,q⟩;replace hf:XE ds=some r:=hf;unfold XE at hf;split at hf
 case h_2=>cases hf
 rename_i l;unfold JX at hf;split at hf
 ·rename_i ns e1
  split at hf
  ·rename_i h64
   cases hf;exact zhP (ds:=[.lst l]) I rv hs e1 h64 q
  ·cases hf
 ·rw[jo1] at hf
  obtain⟨ks,e1,hf⟩:=hf;split at hf
  case isFalse=>cases hf
  rename_i hcond;cases hf;obtain⟨h64,hnd,hne⟩:=hcond
  have hne': ∀k∈ks,k≠[]:=fun k hk e=>by
   have:=List.all_eq_true.mp hne k hk;rw[e] at this;cases this
  cases hs with
  |cons h1 t=>
   cases t;obtain⟨p,ys,rfl,hp,rp⟩:=h1.lst;obtain⟨u,rfl,ru⟩:=wT rv;cases ru;obtain⟨its,rv',pl,hz⟩:=I.list hp;have hT:=QL I rp rv' e1;have hlen:its.length=ks.length:=Paired.length hT;have hl2:=rp.length;have hl3:=rv'.length
   let r:Nat->Int:=fun i=>xr ks (ks.getD i [])
   have memk: ∀i,i<its.length->ks.getD i []∈ks:=fun i hi=>by
    rw[yF (x:=ks[i]'(by omega)) (by simp)];exact Kv _
   have injk: ∀i j,i<its.length->j<its.length->i≠j->ks.getD i []≠ks.getD j []:=fun i j hi hj ne e=>by
    rw[yF (x:=ks[i]'(by omega)) (by simp),yF (x:=ks[j]'(by omega)) (by simp)] at e;exact ne ((List.getElem_inj hnd).mp e)
   have vQ: ∀{h':Heap},(∀b o,s.heap.get? b=some o->h'.get? b=some o)->∀{v:Value} {k:List Int},xA s.heap v k->xA h' v k:=by
    intro h' hk v k ⟨a,o,i,n,h1,h2,h3⟩;exact⟨a,o,i,n,h1,hk _ _ h2,h3⟩
   refine za8 (κ:=tuples' (Value.type "int" != Value.type "tuple")) (r:=r) pl.isList (by omega) (fun i j hi hj ne e=>?_) (fun h2 h' tk hk=>?_) (fun i j h' tk C hi hj hk qC=>?_) fun pm tk hpm hup=>?_
   ·rcases Yi (injk i j hi hj ne) with z|z
    ·have:=Zc (memk i hi) z
     have e:xr ks (ks.getD i [])=xr ks (ks.getD j []):=e;omega
    ·have:=Zc (memk j hj) z
     have e:xr ks (ks.getD i [])=xr ks (ks.getD j []):=e;omega
   ·obtain⟨fs,f1,f2,f3⟩:=zba (Paired.imp' (fun v k z=>vQ hk z) hT) hne'
    exact kat_kind (s:={ s with heap:=h',toks:=tk }) f1 (by omega) (fun v hv=>by obtain⟨i,t,rfl⟩:=f3 v hv;exact Looks.of_pure rfl) (by simp) ⟨rfl,tk,rfl⟩
   ·obtain⟨x1,k1,a1,a2,a3⟩:=Yk hT hi
    obtain⟨x2,k2,b1,b2,b3⟩:=Yk hT hj;rw[yF a1,yF b1];obtain⟨a,o,i1,n,rfl,c1,c2,c3,c4⟩:=vQ hk a3;obtain⟨b,o',i2,n',rfl,d1,d2,d3,d4⟩:=vQ hk b3
    have er:decide (r i<r j)=LW.lexLt k1 k2:=by
     show decide (xr ks (ks.getD i [])<xr ks (ks.getD j []))=_;by_cases e:i=j
     ·subst e
      rw[a2] at b2;cases b2;rw[ve];simp
     ·have:=Vx (memk i hi) (memk j hj) (injk i j hi hj e)
      rw[yF a2,yF b2] at this;rw[yF a2,yF b2];exact this
    rw[er] at qC;refine kat_lt (s:={ s with heap:=h',toks:=tk }) c1 c3 d1 d3 ?_;exact zbb 0 c4 d4 (by simp) (qC tk)
   ·obtain⟨e,he⟩:=sortedAll_at s.heap its (pm.toList.map fun i=>its.getD i Value.none).toArray
    have hlt: ∀i∈pm.toList,i<its.length:=fun i hi=>by
     have:=(Array.perm_iff_toList_perm.mp hpm.perm).mem_iff.mp hi;simpa using this
    have fr:H (s.heap.objs.size+1)=Option.none:=I.hok.fresh (Kl _)
    have hperm:(pm.toList.map fun i=>ks.getD i []).Perm ks:=by
     have h1:=(Array.perm_iff_toList_perm.mp hpm.perm).map fun i=>ks.getD i []
     refine h1.trans (List.Perm.of_eq ?_);apply List.ext_getElem
     ·simp[hlen]
     ·intro i h1 h2;simp at h1;simp[h1,h2]
    have hupk:(pm.toList.map fun i=>ks.getD i []).Pairwise wz:=by
     rw[List.pairwise_iff_getElem];intro i j hi hj hij;rw[List.length_map,Array.length_toList,hpm.size] at hi hj;have h1:=hup i j hij (by omega);have li:=hpm.lt i hi;have lj:=hpm.lt j hj;simp only[List.getElem_map,Array.getElem_toList];have gi:pm.getD i 0=pm[i]'(by rw[hpm.size];exact hi):=by simp[Array.getD,hpm.size,hi]
     have gj:pm.getD j 0=pm[j]'(by rw[hpm.size];exact hj):=by simp[Array.getD,hpm.size,hj]
     unfold kk at h1;rw[gi] at h1 li;rw[gj] at h1 lj;have hne:pm[i]'(by rw[hpm.size];exact hi)≠pm[j]'(by rw[hpm.size];exact hj):=fun z=>by rw[z] at h1;omega
     have:=Vx (memk _ li) (memk _ lj) (injk _ _ li lj hne);show LW.lexLt _ _=true;rw[<-this,decide_eq_true_iff];exact h1
    have heq:(pm.toList.map fun i=>ks.getD i [])=wW ks:=QK (hperm.trans (Yj ks).symm) hupk (Vw hnd)
    have hds:(pm.toList.map fun i=>l.getD i .non)=(wW ks).map kT:=by
     rw[<-heq,List.map_map];apply List.map_congr_left;intro i hi;have hi':=hlt i hi;rw[zbe e1];show (ks.map kT).getD i .non=kT (ks.getD i []);rw[yF (x:=kT (ks[i]'(by omega))) (by simp[show i<ks.length by omega]),yF (x:=ks[i]'(by omega)) (by simp)]
    have hrep:=zbd rp pm.toList fun i hi=>by have:=hlt i hi;omega
    rw[hds] at hrep;have hvals:=zbc rv' pm.toList fun i hi=>hlt i hi
    refine⟨.ref (s.heap.objs.size+1),zL H (s.heap.objs.size+1) (.lst (pm.toList.map fun i=>ys.getD i .non)),I.laid (t':=tk) (fun _ _=>sortedAll_old) (Kl _) ⟨?_,_,e,hvals,?_⟩,rfl,q _ _ (yQ fr _) (vJ fr hrep)⟩
    ·rw[List.length_map,Array.length_toList,hpm.size];exact Nat.le_of_lt (ZN (by omega))
    ·simpa [seqObj] using he
end
end L2.LW
set_option maxHeartbeats 4000000
set_option maxHeartbeats 4000000
namespace L2.LW
open PySem PySem.Spec PySem.W PySem.Calls PyProof.Rows
noncomputable def RawD(h:Heap)(d:Addr)(tb:Array DictEntry)(ep:Nat):Prop:=∃o,h.get? d=some o/\o.ExactDict/\o.data= .dict tb ep
theorem RawD.at{h h2:Heap}{d:Addr}{tb:Array DictEntry}{ep:Nat}(x:RawD h d tb ep)(e: ∀o,h.get? d=some o->h2.get? d=some o):RawD h2 d tb ep:=let ⟨o,ho,r⟩:=x;⟨o,e _ ho,r⟩
theorem RawD.lt{h:Heap}{d:Addr}{tb:Array DictEntry}{ep:Nat}(x:RawD h d tb ep):d<h.objs.size:=let ⟨_,ho,_⟩:=x;Km ho
end L2.LW
set_option maxHeartbeats 4000000
namespace L2.LW
open PySem PySem.Spec PySem.W PySem.Calls PyProof.Rows
theorem vQ{h h':Heap}(hk: ∀b o,h.get? b=some o->h'.get? b=some o){v:Value}{k:List Int}:xA h v k->xA h' v k:=fun ⟨a,o,i,n,h1,h2,h3⟩=>⟨a,o,i,n,h1,hk _ _ h2,h3⟩
end L2.LW
set_option maxHeartbeats 4000000
set_option maxHeartbeats 4000000
namespace L2.LW
open PySem PySem.Spec PySem.W PySem.Calls PyProof.Rows
noncomputable def wS(i:Nat):Int:=reduceHash (Builtin.Tuple.tupleHashOf [hashInt ((i/8:Nat):Int),hashInt ((i%8:Nat):Int)])
theorem zin:((List.range 64).map wS).Nodup:=by decide+kernel
theorem zbf{P:Program}{w:World}{a b:Int}(h:0<=a/\a<=7/\0<=b/\b<=7):(a*8+b).toNat<64/\tupleKeyHash (xg P w) [Sum.inl a,Sum.inl b]=wS (a*8+b).toNat:=by
 refine⟨by omega,?_⟩;unfold wS;rw[show (((a*8+b).toNat/8:Nat):Int)=a by omega,show (((a*8+b).toNat%8:Nat):Int)=b by omega];rfl
noncomputable def QM(k:List zy):Prop:=∃a b:Int,k=[Sum.inl a,Sum.inl b]/\0<=a/\a<=7/\0<=b/\b<=7
theorem zio{P:Program}{w:World}{k k':List zy}(h:QM k)(h':QM k')(e:tupleKeyHash (xg P w) k=tupleKeyHash (xg P w) k'):k=k':=by
 obtain⟨a,b,rfl,r⟩:=h;obtain⟨c,d,rfl,r'⟩:=h';obtain⟨l1,e1⟩:=zbf (P:=P) (w:=w) r;obtain⟨l2,e2⟩:=zbf (P:=P) (w:=w) r';rw[e1,e2] at e;have e3:((List.range 64).map wS)[(a*8+b).toNat]'(by rw[List.length_map,List.length_range];exact l1)=((List.range 64).map wS)[(c*8+d).toNat]'(by rw[List.length_map,List.length_range];exact l2):=by simpa using e
 have:=(List.getElem_inj zin).mp e3;have ea:a=c:=by omega
 have eb:b=d:=by omega
 rw[ea,eb]
section
variable {prog:Program} {w:World} {K:Type} [DecidableEq K] {knd:HeapKind prog w K} {A:Around} {E:Value->Shared->Prop} {s:Shared}
noncomputable def ziq(xs zs:List (K×Addr×Value)):List (K×Addr×Value):=zs.foldl (fun acc z=>storedH acc z.1 z.2.1 z.2.2) xs
end
end L2.LW
set_option maxHeartbeats 4000000
namespace L2.LW
open PySem PySem.Spec PySem.W PySem.Calls PyProof.Rows
noncomputable def zir(kvs kvs2:List (List zy×V)):List (List zy×V):=kvs2.foldl (fun acc p=>yv acc p.1 p.2) kvs
theorem KT.merge{H:Hp}: ∀{kvs2:List (List zy×V)} {zs:List (List zy×Addr×Value)},KT H kvs2 zs->∀{kvs:List (List zy×V)} {xs:List (List zy×Addr×Value)},KT H kvs xs->KT H (zir kvs kvs2) (ziq xs zs)
 |_,_,.nil,_,_,r=>r
 |_,_,.cons (a:=p) (b:=z) h t,kvs,xs,r=>by
  have r1:KT H (yv kvs p.1 p.2) (storedH xs z.1 z.2.1 z.2.2):=by
   have e:p.1=z.1:=h.1;rw[e];exact KT.put r z.1 (by rw[<-e];exact h.2.1) h.2.2
  exact KT.merge t r1
end L2.LW
set_option maxHeartbeats 4000000
set_option maxHeartbeats 4000000
namespace L2.LW
open PySem PySem.Spec PySem.W PySem.Calls PyProof.Rows
section
variable {X:Cx} {fn:Nat->List D->Option SV}
theorem zis(xs:List V)(k:Int)(hk:0<=k):wU xs (some k) Option.none=xs.drop k.toNat:=by
 obtain⟨n,rfl⟩:=Int.eq_ofNat_of_zero_le hk;unfold wU;rw[HT.sIx_none,HT.sIx_nat,Int.toNat_natCast];rcases Nat.le_total n xs.length with h|h
 ·rw[Nat.min_eq_left h,List.take_of_length_le];rw[List.length_drop];omega
 ·rw[Nat.min_eq_right h,Nat.sub_self,List.take_zero,List.drop_of_length_le h]
theorem zit{a b:Expr}{ca cb:E}{p pos:Pos}(ha:IE X fn a ca)(hb:IE X fn b cb):IE X fn (.Subscript a (.Slice (some b) Option.none Option.none p) pos) (.prim .cutF (.cons ca (.cons cb .nil))):=
 .mk <| (gd zga ha.v (gc hb.v) gb).imp fun σ H Q zz3=>by
  obtain⟨W,ρ,r,hR,he,q⟩:=zz3;simp only[wY,wJ,wK,jo1,jo2] at he;obtain⟨rs,⟨r1,e1,rs',⟨r2,e2,rs'',e3,rfl⟩,rfl⟩,e4⟩:=he;cases e3;refine⟨W,ρ,r1,hR,e1,fun v1 H1 s1 f1=>⟨W,ρ,r2,hR.same s1,e2,fun v2 H2 s2 f2=>?_⟩⟩;replace e4:JY [zI r1,zI r2]=some r:=e4;unfold JY at e4;split at e4
  case h_2=>cases e4
  rename_i l k z;have h1:=(f1.same s2).sees;have h2:=f2.sees;injection z with z1 z2;injection z2 with z2 _;rw[z1] at h1;rw[z2] at h2;split at e4
  case isFalse=>cases e4
  rename_i hk;cases e4;obtain⟨p,xs,rfl,hp,rp⟩:=h1.tup;cases h2.int;have hl:=rp.length;refine⟨k,rfl,p,xs,rfl,hp,fun w=>?_,fun p' hp'=>?_⟩
  ·obtain⟨n,rfl⟩:=Int.eq_ofNat_of_zero_le (Int.le_of_lt hk.1)
   have w2:=w.1;rw[HT.sIx_nat] at w2;omega
  rw[zis xs k (Int.le_of_lt hk.1)];have s12:=s1.trans s2;exact q _ _ (s12.trans (yQ hp' _)) ((Qk hp' (rp.drop _)).back s12)
end
end L2.LW
set_option maxHeartbeats 4000000
set_option maxHeartbeats 4000000
set_option maxHeartbeats 4000000
namespace L2.LW
open PySem PySem.Spec PySem.W PySem.Calls PyProof.Rows
noncomputable def FlXOk(K:Ka)(cl:Nat->Value)(E:XK)(W:Addr->Prop)(ρ:LW.Env)(σ:St)(W':Addr->Prop)(ρ':LW.Env)(σ':St)(H':Hp)(D:Ends):FlX->Prop
 | .fl f=>FlOk K W ρ σ W' ρ' σ' H' D f
 | .ex c=>E (cl c) Option.none H'
theorem FlXOk.back{K:Ka}{cl:Nat->Value}{E:XK}{W W1 W2:Addr->Prop}{ρ ρ1 ρ2:LW.Env}{σ σ1 σ2:St}{H H1 H2:Hp}{D:Ends}{fl:FlX}(p:SPost K W ρ σ H W1 ρ1 σ1 H1)(h:FlXOk K cl E W ρ σ W2 ρ2 σ2 H2 D fl):FlXOk K cl E W1 ρ1 σ1 W2 ρ2 σ2 H2 D fl:=by
 cases fl with
 |fl f=>exact FlOk.back (ρ2:=ρ2) p h
 |ex c=>exact h
end L2.LW
set_option maxHeartbeats 4000000
set_option maxHeartbeats 4000000
set_option maxHeartbeats 4000000
namespace L2.LW
open PySem PySem.Spec PySem.W PySem.Calls PyProof.Rows
theorem all_cons{P:Nat->Prop}{a:Nat}{l:List Nat}(h:P a)(t: ∀c∈l,P c): ∀c∈a::l,P c:=fun c hc=>by
 rcases List.mem_cons.mp hc with rfl|hc
 ·exact h
 ·exact t c hc
end L2.LW
set_option maxHeartbeats 4000000
set_option maxRecDepth 100000
set_option maxHeartbeats 4000000
set_option maxHeartbeats 4000000
set_option maxHeartbeats 4000000
set_option maxHeartbeats 4000000
namespace L2.LW
open PySem PySem.Spec PySem.W PySem.Calls PyProof.Rows Builtin Builtin.ObjectAttr Builtin.Getset_descriptor
noncomputable def Lies(x D:Addr)(h:Heap):Prop:=∃o:Obj,h.get? x=some o/\o.cls= .ref D
theorem Lies.ty{x D:Addr}{M:Model}{h:Heap}(I:Lies x D h):Looks M h (typeOf (.ref x)) (.ref D):=by
 obtain⟨o,e1,e2⟩:=I;exact e2▸(Looks.ld e1).andThen .now
section
variable {prog:Program} {w:World} {A:Around} {E:Value->Shared->Prop} {s:Shared} {K:Ka} {x C D:Addr}
structure Asks (K:Ka)(D:Addr):Prop where
 g:findIn K (.ref D) "__getattribute__"=some (some (.builtin "BaseException.__getattribute__"))
 h:findIn K (.ref D) "__getattr__"=some Option.none
 c:(clsIn K D).isSome=true
 a:findIn K (.ref D) "__class__"=some (some (.builtin "object.__class__"))
 n:specialIn K (.builtin "object.__class__") "__get__"=some (some (.builtin "getset_descriptor.__get__"))
 t:takesIn K (.builtin "object.__class__")=some true
 m:mroIn K D (.type "object")=some true
 e:mroIn K D (.type "BaseException")=some true
theorem Asks.find(Z:Asks K D){M:Model}{h:Heap}(X:K.In h):Looks M h (Builtin.ObjectAttr.find (.ref x) (.ref D) "__class__") (.bind (.builtin "getset_descriptor.__get__") (.builtin "object.__class__")):=
 (looks_findIn X Z.a).andThen ((looks_specialIn X Z.n).andThen ((show Looks M h (dataDescriptor? (some (.builtin "object.__class__")) (some (.builtin "getset_descriptor.__get__"))) (some _) from (looks_takesIn X Z.t).andThen .now).andThen (Looks.tag .now)))
theorem ziu:splitId "BaseException.__getattribute__"=some ("BaseException","__getattribute__"):=by decide+kernel
theorem zbg:builtinKind "BaseException.__getattribute__"=some .slot:=by decide+kernel
theorem ziv:plainId "BaseException.__getattribute__"=true:=by decide+kernel
theorem ziw:entryFor table "BaseException.__getattribute__"=some Builtin.«object.__getattribute__»:=
 entryFor_alias (id':="object.__getattribute__") (by kernel_rfl) (by first|rfl|decide+kernel) (by decide+kernel) (by kernel_rfl)
theorem zix(a b:Value):argsOk "BaseException.__getattribute__" ⟨[a,b],[]⟩:=by unfold argsOk;kernel_rfl
theorem ziy(u:Value):bindSpecial (.builtin "BaseException.__getattribute__") u=pure (.builtin "BaseException.__getattribute__",[u]):=by
 have n1:withoutEnding? "BaseException.__getattribute__" "#opaque"=Option.none:=by decide+kernel
 have n2:withoutEnding? "BaseException.__getattribute__" "#data"=Option.none:=by decide+kernel
 simp only[bindSpecial,typeOf,builtinType,n1,n2,zbg];rfl
theorem Asks.check(Z:Asks K D){M:Model}{zK:List Value}{Q:Unit->Shared->Prop}(X:K.In s.heap)(I:Lies x D s.heap)(ok:argsOk "BaseException.__getattribute__" ⟨.ref x::zK,[]⟩)(q:Q () s):
  wpAny M A (checkBuiltinCall "BaseException.__getattribute__" ⟨.ref x::zK,[]⟩) Q E s:=by
 obtain⟨hp,gn,dw,tt,os⟩:=s;have T0:Looks M hp (isInstance (.ref x) (.type "BaseException")) true:=(Lies.ty (M:=M) I).andThen (looks_mroIn X Z.e);simp only[checkBuiltinCall,zbg,ziu];refine Kb (T0.at ?_);simp only[Bool.not_true,Bool.false_eq_true,if_false]
 cases hs:Manifest.signature? "BaseException.__getattribute__" with
 |none=>exact Kc q
 |some sg=>
  simp only[argsOk,hs] at ok;have ok2:Bind.checkArgs "BaseException.__getattribute__" sg ⟨.ref x::zK,[]⟩=pure ():=ok;show wpAny M A (Bind.checkArgs _ sg _) Q E _;rw[ok2];exact Kc q
theorem Asks.got(Z:Asks K D){tp:Value}{R:Result->Shared->Prop}(X:K.In s.heap)(I:Lies x D s.heap)(q:R (.ok (.ret (.ref D))) s):
  codeAny (model prog w) A (.call (.builtin "getset_descriptor.__get__") ⟨[.builtin "object.__class__",.ref x,tp],[]⟩) R s:=by
 obtain⟨hp,gn,dw,tt,os⟩:=s;have T0:Looks (model prog w) hp (typeOf (.ref x)) (.ref D):=Lies.ty I;have T1:=looks_mroIn (M:=model prog w) X Z.m;refine codeAny_call_builtin KF.slot_gs.plain KF.entry_gs (KF.slot_gs.check _ _ _ _ _ _ _ _ KF.type_class (KF.args_gs _ _ _) ?_);unfold Builtin.«getset_descriptor.__get__» descrGet;rw[dga_obj];refine Kb (Kc ?_);unfold descrGetter descrCheckInstance descrNameAndClass isInstance;simp only[KF.owner_class]
 repeat lk
 refine⟨Code.quiet_builtin _ (by decide+kernel),codeAny_builtin KF.entry_class ?_⟩;unfold Builtin.«object.__class__» shownTypeOf
 repeat lk
 exact q
theorem Asks.entry(Z:Asks K D){tk:Tok}{Q:Fin->Shared->Prop}(X:K.In s.heap)(I:Lies x D s.heap)(q:Q (.done (.ret (.ref D))) s):
  wpAny (model prog w) A (Builtin.«object.__getattribute__» ⟨[.ref x,.str "__class__" tk],[]⟩) Q E s:=by
 obtain⟨hp,gn,dw,tt,os⟩:=s;have T0:Looks (model prog w) hp (typeOf (.ref x)) (.ref D):=Lies.ty I;have T1:=Z.find (x:=x) (M:=model prog w) X;refine Kb (Kc (Kb (Kc (Kb (T0.at (Kb (T1.at ?_)))))));show wpAny _ _ (holding [.builtin "object.__class__"] (call (.builtin "getset_descriptor.__get__") [.builtin "object.__class__",.ref x,.ref D]) >>= ret) _ _ _;exact Kb (wpAny_holding (wpAny_call (Z.got X I (Kc q))))
theorem Asks.attr(Z:Asks K D){Q:Option Value->Shared->Prop}(X:K.In s.heap)(I:Lies x D s.heap)(q:Q (some (.ref D)) { s with toks:=s.toks+1 }):wpAny (model prog w) A (getAttr? (.ref x) "__class__") Q E s:=by
 obtain⟨hp,gn,dw,tt,os⟩:=s;have T0:Looks (model prog w) hp (typeOf (.ref x)) (.ref D):=Lies.ty I;have T1:=looks_findIn (M:=model prog w) X Z.g;have T2:=looks_findIn (M:=model prog w) X Z.h;unfold getAttr? getAttrBy? getAttrBy;refine Kb (wpAny_mkText (Kb (wpAny_attempt (wpAny_holding (Kb (T0.at (Kb (T1.at ?_))))))));show wpAny _ _ (getAttrByItsOwn _ _ _ _ _ _) _ _ _;unfold getAttrByItsOwn hookBefore;refine Kb (T2.at ?_);refine Kb (wpAny_attempt (wpAny_holding ?_));show wpAny _ _ (bindSpecial (.builtin "BaseException.__getattribute__") (.ref x) >>= _) _ _ _;refine Kb (wpAny_of_eq (ziy _) ?_);refine wpAny_call (codeAny_call_builtin ziv ziw (Z.check (s:=⟨hp,gn,dw,tt+1,os⟩) X I (zix _ _) (Z.entry (s:=⟨hp,gn,dw,tt+1,os⟩) X I ?_)));exact Kd (handed_on (Q:=fun v s'=>v= .ref D/\s'=⟨hp,gn,dw,tt+1,os⟩) rfl ⟨rfl,rfl⟩) (fun v s' z=>by obtain⟨rfl,rfl⟩:=z;exact Kc q) fun _ _ z=>z
theorem zbh{M:Model}{h:Heap}{B:Addr}(X:K.In h)(e:(clsIn K B).isSome=true):Looks M h (isType (.ref B)) true:=by
 unfold clsIn at e;split at e
 case h_2=>cases e
 rename_i ho;intro A1 Q1 E1 s1 k q;unfold isType loadHead;exact Kb (wpAny_loadPart (k _ _ (X _ _ ho)) (Kc q))
theorem Asks.nested(Z:Asks K D){c:Value}{dep:Int}{tk:Tok}{Q:Fin->Shared->Prop}(X:K.In s.heap)(I:Lies x D s.heap)(ty:Looks (model prog w) s.heap (typeOf c) (.type "type"))(it:Looks (model prog w) s.heap (isType c) true)
  (ne:(Value.ref D==c)=false) (sb:Looks (model prog w) s.heap (isSubtype (.ref D) c) false) (q:Q (.done (.ret (.bool false))) { s with toks:=s.toks+1 }):
  wpAny (model prog w) A (Builtin.«isinstance.nested» ⟨[.ref x,c,.int dep tk],[]⟩) Q E s:=by
 obtain⟨hp,gn,dw,tt,os⟩:=s;have T0:Looks (model prog w) hp (typeOf (.ref x)) (.ref D):=Lies.ty I;have TD:Looks (model prog w) hp (isType (.ref D)) true:=zbh X Z.c;have TI:Looks (model prog w) hp (isInstance (.ref x) c) false:=T0.andThen sb;unfold Builtin.«isinstance.nested»;refine Kb (T0.at ?_);rw[if_neg (by rw[ne];decide)];refine Kb (ty.at ?_);rw[if_pos (by decide)]
 k_delta "plainIsInstance"
 refine Kb (Kb (it.at ?_));simp only[Bool.not_true,Bool.false_eq_true,if_false];refine Kb (TI.at ?_);simp only[Bool.false_eq_true,if_false];refine Kb (Z.attr X I ?_);refine Kb (TD.at ?_);simp only[Bool.not_true,Bool.false_eq_true,if_false];refine Kb (wpAny_rule ?_);refine sb.at ?_
 first
  |exact Kc q
  |exact Kc (Kc q)
  |exact Kb (Kc (Kc q))
theorem Asks.not(Z:Asks K D){Q:Value->Shared->Prop}(X:K.In s.heap)(I:Lies x D s.heap)(e:kin_not K D C=true)(q:Q (.bool false) { s with toks:=s.toks+1 }):wpAny (model prog w) A (call (.builtin "isinstance") [.ref x,.ref C]) Q E s:=by
 unfold kin_not at e;simp only[Bool.and_eq_true,decide_eq_true_eq,beq_iff_eq] at e;obtain⟨⟨⟨e0,e1⟩,e2⟩,e3⟩:=e;refine call_isinstance (S:=fun _ R s=>(K.In s.heap/\Lies x D s.heap)/\R (.ok (.ret (.bool false))) { s with toks:=s.toks+1 }) (fun _ _ _ _ _ hs=>isinstance_outer (Z.nested hs.1.1 hs.1.2 (looks_typeIn hs.1.1 e2) (zbh hs.1.1 e1) ?_ (looks_subIn hs.1.1 e3) hs.2) (by intro z;cases z)) ⟨⟨X,I⟩,q⟩;exact Bool.eq_false_iff.mpr fun z=>e0 (Value.ref.inj (beq_iff_eq.mp z))
end
end L2.LW
set_option maxHeartbeats 4000000
namespace L2.LW
open PySem PySem.Spec PySem.W PySem.Calls PyProof.Rows
noncomputable def ziz(K:Ka)(D:Addr):Bool:=findIn K (.ref D) "__getattribute__"==some (some (.builtin "BaseException.__getattribute__"))&&findIn K (.ref D) "__getattr__"==some Option.none&&(clsIn K D).isSome&&findIn K (.ref D) "__class__"==some (some (.builtin "object.__class__"))&&specialIn K (.builtin "object.__class__") "__get__"==some (some (.builtin "getset_descriptor.__get__"))&&
 takesIn K (.builtin "object.__class__")==some true&&mroIn K D (.type "object")==some true&&mroIn K D (.type "BaseException")==some true
noncomputable def apart(K:Ka)(CL:Nat->Addr)(cs:List Nat):Bool:=cs.all fun c=>ziz K (CL c)&&cs.all fun d=>c==d||kin_not K (CL c) (CL d)
end L2.LW
set_option maxHeartbeats 4000000
namespace L2.LW.ST
open PySem PySem.SetTable
noncomputable def QN(m i:Nat):Nat:=(i*5+1)%(m+1)
noncomputable def it(m:Nat):Nat->Nat->Nat
 |0,i=>i
 |n+1,i=>it m n (QN m i)
theorem Ym{m:Nat}: ∀(a b i:Nat),it m (a+b) i=it m b (it m a i)
 |0,b,i=>by rw[Nat.zero_add];rfl
 |a+1,b,i=>by rw[Nat.add_right_comm];exact Ym a b (QN m i)
noncomputable def zbi(m:Nat):List Nat:=(List.range (m+1)).map fun b=>it m b 0
noncomputable def Full(m:Nat):Prop:=(∀s,s<=m->∃b,b<=m/\it m b 0=s)/\it m (m+1) 0=0
noncomputable def zbj(m:Nat):Bool:=((List.range (m+1)).all fun s=>(zbi m).contains s)&&it m (m+1) 0==0
theorem QO{m:Nat}(h:zbj m=true):Full m:=by
 unfold zbj at h;rw[Bool.and_eq_true,beq_iff_eq,List.all_eq_true] at h;refine⟨fun s hs=>?_,h.2⟩;have h1:=h.1 s (List.mem_range.mpr (by omega));simp only[zbi,List.contains_iff_mem,List.mem_map,List.mem_range] at h1;obtain⟨b,h2,h3⟩:=h1;exact⟨b,by omega,h3⟩
theorem full7:Full 7:=QO (by decide+kernel)
theorem full31:Full 31:=QO (by decide+kernel)
theorem full127:Full 127:=QO (by decide+kernel)
theorem Full.all{m:Nat}(F:Full m){i s:Nat}(hi:i<=m)(hs:s<=m): ∃j,j<=m/\it m j i=s:=by
 obtain⟨a,a1,a2⟩:=F.1 i hi;obtain⟨b,b1,b2⟩:=F.1 s hs;by_cases h:a<=b
 ·refine⟨b-a,by omega,?_⟩
  rw[<-a2,<-Ym,show a+(b-a)=b by omega];exact b2
 ·refine⟨b+(m+1)-a,by omega,?_⟩
  rw[<-a2,<-Ym,show a+(b+(m+1)-a)=(m+1)+b by omega,Ym,F.2];exact b2
noncomputable def base(m:Nat)(b:Nat):Nat->Nat×Nat
 |0=>(b%(m+1),b)
 |k+1=>SetTable.leap m (base m b k).1 (base m b k).2
theorem zbk(m b:Nat): ∀k,(base m b k).2=b/32 ^ k
 |0=>by simp[base]
 |k+1=>by
  show (base m b k).2/32=_;rw[zbk m b k,Nat.div_div_eq_div_mul,Nat.pow_succ]
theorem ziA(m b:Nat): ∀k,(base m b k).1<=m
 |0=>Nat.le_of_lt_succ (Nat.mod_lt b (Nat.succ_pos m))
 |k+1=>Nat.le_of_lt_succ (Nat.mod_lt ((base m b k).1*5+1+(base m b k).2/32) (Nat.succ_pos m))
theorem zbl{m b:Nat}(hb:b<2 ^ 64): ∀j,(base m b (13+j)).1=it m j (base m b 13).1
 |0=>rfl
 |j+1=>by
  have e:it m (j+1) (base m b 13).1=QN m (it m j (base m b 13).1):=by rw[Ym j 1];rfl
  rw[e,<-zbl hb j];show ((base m b (13+j)).1*5+1+(base m b (13+j)).2/32)%(m+1)=_
  rw[zbk,show b/32 ^ (13+j)=0 from Nat.div_eq_of_lt (Kj hb (by
   rw[show (2:Nat) ^ 64=2 ^ 64 from rfl];exact Kh (by decide:2 ^ 64<=32 ^ 13) (Nat.pow_le_pow_right (by decide) (by omega))))]
  rfl
theorem zbm{m b s:Nat}(F:Full m)(hb:b<2 ^ 64)(hs:s<=m): ∃k,k<=13+m/\(base m b k).1=s:=by
 obtain⟨j,h1,h2⟩:=F.all (ziA m b 13) hs;exact⟨13+j,by omega,by rw[zbl hb];exact h2⟩
noncomputable def yg(t:SetTable):Nat->Probe->Probe
 |0,p=>p
 |n+1,p=>yg t n (t.advance p)
theorem ju{t:SetTable}: ∀(a b:Nat) (p:Probe),yg t (a+b) p=yg t b (yg t a p)
 |0,b,p=>by rw[Nat.zero_add];rfl
 |a+1,b,p=>by rw[Nat.add_right_comm];exact ju a b (t.advance p)
theorem Vy{t:SetTable}{p:Probe}: ∀n,n<=p.more->yg t n p={ p with j:=p.j+n,more:=p.more-n }
 |0,_=>rfl
 |n+1,h=>by
  rw[ju n 1,Vy n (by omega)];show t.advance _=_;unfold SetTable.advance;rw[if_pos (show p.more-n>0 by omega)];simp only[Probe.mk.injEq,and_true,true_and];omega
noncomputable def at_(t:SetTable)(d:Option Nat)(q:Nat×Nat):Probe:={ j:=q.1,more:=runEnd t.mask q.1-q.1,i:=q.1,perturb:=q.2,dummy:=d }
theorem zbn{m i:Nat}:runEnd m i-i<=9:=by unfold runEnd;split<;>omega
theorem zbo(t:SetTable)(h:Int): ∀k,∃n,n<=10*k/\yg t n (t.probeStart h)=at_ t none (base t.mask (bits h) k)
 |0=>⟨0,Kg _,rfl⟩
 |k+1=>by
  obtain⟨n,h1,h2⟩:=zbo t h k;have ml:=zbn (m:=t.mask) (i:=(base t.mask (bits h) k).1);refine⟨n+(runEnd t.mask (base t.mask (bits h) k).1-(base t.mask (bits h) k).1)+1,by omega,?_⟩;rw[ju,ju,h2,Vy (p:=at_ t none (base t.mask (bits h) k)) (runEnd t.mask (base t.mask (bits h) k).1-(base t.mask (bits h) k).1) (Kg _)];show t.advance _=_;unfold SetTable.advance;rw[if_neg (by simp[at_])];rfl
theorem ziB{t:SetTable}{h:Int}{s:Nat}(F:Full t.mask)(hs:s<=t.mask): ∃n,n<10*turns t.mask/\(yg t n (t.probeStart h)).j=s:=by
 have hb:bits h<2 ^ 64:=by
  unfold bits;have:=Int.emod_lt_of_pos h (show (0:Int)<2 ^ 64 by decide);have:=Int.emod_nonneg h (show (2 ^ 64:Int)≠0 by decide);omega
 obtain⟨k,h1,h2⟩:=zbm (b:=bits h) F hb hs;obtain⟨n,h3,h4⟩:=zbo t h k;refine⟨n,by unfold turns;omega,?_⟩;rw[h4];exact h2
end L2.LW.ST
set_option maxHeartbeats 4000000
namespace L2.LW.ST
open PySem PySem.SetTable
noncomputable def Vz(l:List Nat):Prop:=∀i j:Nat,i<j->∀a b,l[i]? =some a->l[j]? =some b->a<b
theorem QP{l:List Nat}{x:Nat}: ∀(fuel lo hi:Nat),hi<=lo+fuel->lo<=hi->hi<=l.length->(∀k a,k<lo->l[k]? =some a->a<x)->(∀k a,hi<=k->l[k]? =some a->x<=a)->Vz l->
  ∃r,below.go l.toArray x fuel lo hi=r/\r<=l.length/\(∀k a,k<r->l[k]? =some a->a<x)/\∀k a,r<=k->l[k]? =some a->x<=a
 |0,lo,hi,h1,h2,h3,h4,h5,_=>⟨lo,rfl,by omega,h4,fun k a hk=>h5 k a (by omega)⟩
 |fuel+1,lo,hi,h1,h2,h3,h4,h5,hr=>by
  unfold below.go;by_cases hl:lo<hi
  ·rw[if_pos hl]
   have hm:(lo+hi)/2<l.length:=by omega
   obtain⟨a,ha⟩: ∃a,l[(lo+hi)/2]? =some a:=⟨_,List.getElem?_eq_getElem hm⟩
   have hg:l.toArray.getD ((lo+hi)/2) x=a:=by
    rw[Array.getD_eq_getD_getElem?,List.getElem?_toArray,ha];rfl
   show ∃r,(if l.toArray.getD ((lo+hi)/2) x<x then below.go l.toArray x fuel ((lo+hi)/2+1) hi else below.go l.toArray x fuel lo ((lo+hi)/2))=r/\_;rw[hg];by_cases hx:a<x
   ·rw[if_pos hx]
    refine QP fuel _ hi (by omega) (by omega) h3 (fun k b hk hb=>?_) h5 hr;by_cases e:k=(lo+hi)/2
    ·subst e;rw[ha] at hb;cases hb;exact hx
    ·have:=hr k ((lo+hi)/2) (by omega) b a hb ha;omega
   ·rw[if_neg hx]
    refine QP fuel lo _ (by omega) (by omega) (by omega) h4 (fun k b hk hb=>?_) hr;by_cases e:k=(lo+hi)/2
    ·subst e;rw[ha] at hb;cases hb;omega
    ·have:=hr ((lo+hi)/2) k (by omega) a b ha hb;omega
  ·rw[if_neg hl]
   exact⟨lo,rfl,by omega,h4,fun k a hk=>h5 k a (by omega)⟩
theorem zbp{l:List Nat}(hr:Vz l)(x:Nat): ∃r,below l.toArray x=r/\r<=l.length/\(∀k a,k<r->l[k]? =some a->a<x)/\∀k a,r<=k->l[k]? =some a->x<=a:=by
 refine QP (l:=l) (x:=x) l.toArray.size 0 l.toArray.size (by omega) (by omega) (by simp) (fun k a hk=>by omega) (fun k a hk ha=>?_) hr;rw[List.getElem?_eq_none (by simpa using hk)] at ha;cases ha
theorem ziC{l:List Nat}(hr:Vz l){x q:Nat}(h:l[q]? =some x):below l.toArray x=q:=by
 obtain⟨r,e,h1,h2,h3⟩:=zbp hr x;rw[e];have a1:r<=q:=Nat.le_of_not_lt fun z=>KG (h2 q x z h) (Nat.lt_irrefl x)
 rcases Nat.lt_or_ge r q with z|z
 ·obtain⟨b,hb⟩: ∃b,l[r]? =some b:=⟨_,List.getElem?_eq_getElem (Nat.lt_trans z (List.getElem?_eq_some_iff.mp h).1)⟩
  have:=hr r q z b x hb h;have:=h3 r b (Kg _) hb;omega
 ·omega
structure Tb (t:SetTable)(pl:List Nat)(hs:List Int):Prop where
 full:Full t.mask
 dum:t.dummies= #[]
 plc:t.place=pl.toArray
 ris:Vz pl
 len:pl.length=hs.length
 le: ∀x∈pl,x<=t.mask
 nd:hs.Nodup
 room:hs.length<=t.mask
theorem zbq{t:SetTable}{pl:List Nat}{hs:List Int}(T:Tb t pl hs){x q:Nat}(h:pl[q]? =some x):t.slot x= .live q:=by
 unfold SetTable.slot;have e:below t.place x=q:=by rw[T.plc];exact ziC T.ris h
 simp only[e];rw[if_pos (by rw[T.plc,List.getElem?_toArray,h];exact beq_self_eq_true _)]
theorem ziD{t:SetTable}{pl:List Nat}{hs:List Int}(T:Tb t pl hs){x:Nat}(h:x∉pl):t.slot x= .empty:=by
 unfold SetTable.slot;simp only;rw[if_neg,if_neg]
 ·rw[T.dum];unfold has;simp
 ·rw[T.plc]
  intro z;rw[beq_iff_eq,List.getElem?_toArray] at z;exact h (KA z)
theorem zbr{P:Nat->Prop}: ∀{n:Nat},P n->∃m,m<=n/\P m/\∀k,k<m->¬P k
 |n,h=>by
  induction n using Nat.strongRecOn with
  |_ n ih=>
   by_cases e: ∃k,k<n/\P k
   ·obtain⟨k,h1,h2⟩:=e
    obtain⟨m,a,b,c⟩:=ih k h1 h2;exact⟨m,by omega,b,c⟩
   ·exact⟨n,Kg _,h,fun k hk z=>e ⟨k,hk,z⟩⟩
theorem zbs{l:List Nat}: ∀{n:Nat},(∀s,s<n->s∈l)->n<=l.length
 |n,h=>by
  induction n generalizing l with
  |zero=>exact Nat.zero_le _
  |succ n ih=>
   have hm:=h n (Nat.lt_succ_self n);have:=ih (l:=l.erase n) fun s hs=>(List.mem_erase_of_ne (by omega)).mpr (h s (by omega))
   rw[List.length_erase_of_mem hm] at this;have:=List.length_pos_of_mem hm;omega
theorem zbt{t:SetTable}: ∀(n:Nat) (p:Probe),(yg t n p).dummy=p.dummy
 |0,p=>rfl
 |n+1,p=>by
  show (yg t n (t.advance p)).dummy=_;rw[zbt n];unfold SetTable.advance;split<;>rfl
theorem zbu{m i:Nat}(h:i<=m):i+(runEnd m i-i)<=m:=by unfold runEnd;split<;>omega
theorem zbv{t:SetTable}: ∀(n:Nat) (p:Probe),p.j+p.more<=t.mask->(yg t n p).j+(yg t n p).more<=t.mask
 |0,p,h=>h
 |n+1,p,h=>by
  refine zbv n (t.advance p) ?_;unfold SetTable.advance;split
  ·show p.j+1+(p.more-1)<=_;omega
  ·exact zbu (Nat.le_of_lt_succ (Nat.mod_lt _ (Nat.succ_pos _)))
theorem QQ(t:SetTable)(h:Int)(n:Nat):(yg t n (t.probeStart h)).j<=t.mask:=
 Kh (Nat.le_add_right _ _) (zbv n (t.probeStart h) (zbu (Nat.le_of_lt_succ (Nat.mod_lt _ (Nat.succ_pos _)))))
theorem QR{t t':SetTable}(e:t.mask=t'.mask): ∀(n:Nat) (p:Probe),yg t n p=yg t' n p
 |0,_=>rfl
 |n+1,p=>by
  show yg t n (t.advance p)=yg t' n (t'.advance p);have:t.advance p=t'.advance p:=by unfold SetTable.advance;rw[e]
  rw[this];exact QR e n _
theorem QS{t:SetTable}{ha:Nat->Int}{h:Int}: ∀(n fuel:Nat) (p:Probe),n<fuel->p.dummy=none->(∀k,k<n->∃i,t.slot (yg t k p).j= .live i/\ha i≠h)->
  (t.slot (yg t n p).j= .empty->probe.go t ha h fuel p=some (.empty (yg t n p).j none))/\
  ∀i,t.slot (yg t n p).j= .live i->ha i=h->probe.go t ha h fuel p=some (.candidate (yg t n p).j i (t.advance (yg t n p)))
 |0,fuel+1,p,_,hd,_=>by
  unfold probe.go;refine⟨fun e=>?_,fun i e q=>?_⟩
  ·have e:t.slot p.j= .empty:=e
   rw[e];simp only[hd];rfl
  ·have e:t.slot p.j= .live i:=e
   rw[e];simp only;rw[if_pos (beq_iff_eq.mpr q)];rfl
 |n+1,fuel+1,p,hf,hd,hk=>by
  obtain⟨i,e1,e2⟩:=hk 0 (Nat.succ_pos n);have e1:t.slot p.j= .live i:=e1;have ih:=QS (t:=t) (ha:=ha) (h:=h) n fuel (t.advance p) (by omega) ((zbt 1 p).trans hd) fun k hn=>hk (k+1) (by omega)
  have st:probe.go t ha h (fuel+1) p=probe.go t ha h fuel (t.advance p):=by
   rw[probe.go,e1];simp only;rw[if_neg (fun z=>e2 (beq_iff_eq.mp z))]
  rw[st];exact ih
noncomputable def Reach(t:SetTable)(pl:List Nat)(h:Int)(x:Nat):Prop:=∃n,n<10*turns t.mask/\(yg t n (t.probeStart h)).j=x/\∀k,k<n->(yg t k (t.probeStart h)).j∈pl
noncomputable def Found(t:SetTable)(pl:List Nat)(hs:List Int):Prop:=∀xh∈pl.zip hs,Reach t pl xh.2 xh.1
section
variable {t:SetTable} {pl:List Nat} {hs:List Int} {h:Int} {x q:Nat}
noncomputable def hat(hs:List Int)(i:Nat):Int:=hs[i]?.getD 0
theorem zbw(T:Tb t pl hs)(hx:x∈pl): ∃q g,pl[q]? =some x/\hs[q]? =some g/\t.slot x= .live q/\hat hs q=g:=by
 obtain⟨q,hq,e⟩:=List.mem_iff_getElem.mp hx;have e1:pl[q]? =some x:=by rw[List.getElem?_eq_getElem hq,e]
 have h2:q<hs.length:=by rw[<-T.len];exact hq
 exact⟨q,hs[q],e1,List.getElem?_eq_getElem h2,zbq T e1,by unfold hat;rw[List.getElem?_eq_getElem h2];rfl⟩
theorem probe_new(T:Tb t pl hs)(hn:h∉hs): ∃j,j<=t.mask/\j∉pl/\Reach t pl h j/\t.probe (hat hs) h (t.probeStart h)=some (.empty j none):=by
 have hs0: ∃s,s<=t.mask/\s∉pl:=by
  refine Classical.byContradiction fun z=>?_
  have:=zbs (l:=pl) (n:=t.mask+1) fun s hs=>Classical.byContradiction fun y=>z ⟨s,by omega,y⟩
  have:=T.len;have:=T.room;omega
 obtain⟨s,s1,s2⟩:=hs0;obtain⟨n0,n1,n2⟩:=ziB (t:=t) (h:=h) T.full s1;obtain⟨n,m1,m2,m3⟩:=zbr (P:=fun n=>(yg t n (t.probeStart h)).j∉pl) (n:=n0) (by simpa only[n2] using s2);have m3': ∀k,k<n->(yg t k (t.probeStart h)).j∈pl:=fun k hk=>Classical.byContradiction (m3 k hk)
 refine⟨_,QQ t h n,m2,⟨n,by omega,rfl,m3'⟩,?_⟩;refine (QS n (10*turns t.mask) (t.probeStart h) (by omega) rfl fun k hk=>?_).1 (ziD T m2);obtain⟨q,g,e1,e2,e3,e4⟩:=zbw T (m3' k hk);exact⟨q,e3,fun z=>hn (by rw[<-z,e4];exact KA e2)⟩
theorem probe_old(T:Tb t pl hs)(F:Found t pl hs)(hx:pl[q]? =some x)(hh:hs[q]? =some h): ∃nx,t.probe (hat hs) h (t.probeStart h)=some (.candidate x q nx):=by
 have hz:(x,h)∈pl.zip hs:=KA (i:=q) (by rw[List.getElem?_zip_eq_some];exact⟨hx,hh⟩);obtain⟨n0,n1,n2,n3⟩:=F _ hz;obtain⟨n,m1,m2,m3⟩:=zbr (P:=fun n=>(yg t n (t.probeStart h)).j=x) (n:=n0) n2
 refine⟨_,by
  have:=(QS (ha:=hat hs) (h:=h) n (10*turns t.mask) (t.probeStart h) (by omega) rfl fun k hk=>?_).2 q (by rw[m2];exact zbq T hx) (by unfold hat;rw[hh];rfl)
  ·rw[m2] at this;exact this
  ·obtain⟨q2,g,e1,e2,e3,e4⟩:=zbw T (n3 k (by omega))
   refine⟨q2,e3,fun z=>m3 k hk ?_⟩;rw[z] at e4;subst e4;obtain⟨l1,w1⟩:=List.getElem?_eq_some_iff.mp hh;obtain⟨l2,w2⟩:=List.getElem?_eq_some_iff.mp e2;have:q2=q:=(List.getElem_inj T.nd).mp (w2.trans w1.symm);subst this;rw[hx] at e1;exact (Kp e1).symm⟩
theorem Reach.more(R:Reach t pl h x){pl':List Nat}(s: ∀y∈pl,y∈pl'){t':SetTable}(e:t.mask=t'.mask):Reach t' pl' h x:=by
 obtain⟨n,a,b,c⟩:=R;have st:t.probeStart h=t'.probeStart h:=by unfold probeStart;rw[e]
 refine⟨n,by rw[<-e];exact a,by rw[<-st,<-QR e];exact b,fun k hk=>?_⟩;rw[<-st,<-QR e];exact s _ (c k hk)
end
end L2.LW.ST
set_option maxHeartbeats 4000000
namespace L2.LW.ST
open PySem PySem.SetTable
section
variable {t:SetTable} {pl:List Nat} {hs:List Int} {h:Int} {j:Nat}
noncomputable def ins{α:Type}(l:List α)(p:Nat)(x:α):List α:=l.take p++x::l.drop p
theorem insertAt_eq{α:Type}(l:List α)(p:Nat)(x:α):insertAt l.toArray p x=(ins l p x).toArray:=by
 unfold insertAt ins;apply Array.ext';simp[List.take_of_length_le]
theorem ins_len{α:Type}{l:List α}{p:Nat}{x:α}(h:p<=l.length):(ins l p x).length=l.length+1:=by
 unfold ins;simp;omega
theorem mem_ins{α:Type}{l:List α}{p:Nat}{x y:α}:y∈ins l p x↔y=x\/y∈l:=by
 unfold ins;rw[List.mem_append,List.mem_cons];constructor
 ·rintro (h|h|h)
  ·exact .inr (List.mem_of_mem_take h)
  ·exact .inl h
  ·exact .inr (List.mem_of_mem_drop h)
 ·rintro (h|h)
  ·exact .inr (.inl h)
  ·rw[<-List.take_append_drop p l,List.mem_append] at h
   rcases h with h|h
   ·exact .inl h
   ·exact .inr (.inr h)
theorem ins_get{α:Type}{l:List α}{p k:Nat}{x:α}(h:p<=l.length):(ins l p x)[k]? =if k<p then l[k]? else if k=p then some x else l[k-1]? :=by
 unfold ins;rw[List.getElem?_append,List.length_take,Nat.min_eq_left h];by_cases h1:k<p
 ·rw[if_pos h1,if_pos h1,List.getElem?_take,if_pos h1]
 ·rw[if_neg h1,if_neg h1]
  by_cases h2:k=p
  ·rw[if_pos h2,h2,Nat.sub_self];rfl
  ·rw[if_neg h2]
   obtain⟨m,rfl⟩: ∃m,k=p+1+m:=⟨k-(p+1),by omega⟩;rw[show p+1+m-p=m+1 by omega,List.getElem?_cons_succ,List.getElem?_drop,show p+1+m-1=p+m by omega]
theorem ziE{l:List Nat}{m:List Int}{p:Nat}{x:Nat}{y:Int}(e:l.length=m.length)(h:p<=l.length):(ins l p x).zip (ins m p y)=ins (l.zip m) p (x,y):=by
 unfold ins;rw[List.zip_append (by rw[List.length_take,List.length_take];omega),List.zip_cons_cons];simp only[List.zip,List.take_zipWith,List.drop_zipWith]
theorem put_ok(T:Tb t pl hs)(F:Found t pl hs)(hn:h∉hs)(jm:j<=t.mask)(jn:j∉pl)(R:Reach t pl h j)(room:hs.length+1<=t.mask):
  ∃p,p<=pl.length/\below t.place j=p/\t.put j=({ t with place:=(ins pl p j).toArray },p)/\Tb { t with place:=(ins pl p j).toArray } (ins pl p j) (ins hs p h)/\Found { t with place:=(ins pl p j).toArray } (ins pl p j) (ins hs p h):=by
 obtain⟨p,e0,h1,h2,h3⟩:=zbp T.ris j;have e:below t.place j=p:=by rw[T.plc];exact e0
 have hp:p<=hs.length:=by rw[<-T.len];exact h1
 refine⟨p,h1,e,?_,⟨T.full,T.dum,rfl,?_,by rw[ins_len h1,ins_len hp,T.len],fun x hx=>?_,?_,by rw[ins_len hp];exact room⟩,fun xh hx=>?_⟩
 ·unfold SetTable.put
  simp only[e];rw[T.plc,insertAt_eq,T.dum];have:has (#[]:Array Nat) j=false:=by unfold has;simp
  rw[this];simp
 ·intro i k hik a b ha hb
  rw[ins_get h1] at ha hb;by_cases i1:i<p
  ·rw[if_pos i1] at ha
   by_cases k1:k<p
   ·rw[if_pos k1] at hb;exact T.ris i k hik a b ha hb
   ·rw[if_neg k1] at hb
    have ai:=h2 i a i1 ha;by_cases k2:k=p
    ·rw[if_pos k2] at hb;cases hb;exact ai
    ·rw[if_neg k2] at hb
     have:=h3 (k-1) b (by omega) hb;omega
  ·rw[if_neg i1] at ha
   rw[if_neg (by omega),if_neg (by omega)] at hb;by_cases i2:i=p
   ·rw[if_pos i2] at ha
    cases ha;have:=h3 (k-1) b (by omega) hb;rcases Nat.lt_or_eq_of_le this with z|z
    ·exact z
    ·exact KG (z▸KA hb) jn
   ·rw[if_neg i2] at ha
    exact T.ris (i-1) (k-1) (by omega) a b ha hb
 ·rcases mem_ins.mp hx with rfl|hx
  ·exact jm
  ·exact T.le x hx
 ·unfold ins
  have nd:=T.nd;rw[<-List.take_append_drop p hs] at nd hn;rw[List.nodup_append] at nd⊢;rw[List.mem_append,not_or] at hn;refine⟨nd.1,List.nodup_cons.mpr ⟨hn.2,nd.2.1⟩,fun a ha b hb=>?_⟩;rcases List.mem_cons.mp hb with rfl|hb
  ·exact fun z=>hn.1 (z▸ha)
  ·exact nd.2.2 a ha b hb
 ·rw[ziE T.len h1] at hx
  rcases mem_ins.mp hx with rfl|hx
  ·exact R.more (fun y hy=>mem_ins.mpr (.inr hy)) rfl
  ·exact (F xh hx).more (fun y hy=>mem_ins.mpr (.inr hy)) rfl
end
end L2.LW.ST
set_option maxHeartbeats 4000000
namespace L2.LW.ST
open PySem PySem.SetTable
noncomputable def Oc(ow:Array (Option Nat))(x:Nat):Prop:=(ow.getD x (some 0)).isNone=false
section
variable {t:SetTable} {h:Int} {ow:Array (Option Nat)}
theorem zbx: ∀(fuel k n:Nat),n<=10*k->yg t n (t.probeStart h)=at_ t none (base t.mask (bits h) k)->(∀r,r<n->Oc ow (yg t r (t.probeStart h)).j)->
  (∃K,k<=K/\K<k+fuel/\¬Oc ow (base t.mask (bits h) K).1)->
  ∃j n',layClean.free t.mask ow fuel (base t.mask (bits h) k).1 (base t.mask (bits h) k).2=some j/\¬Oc ow j/\n'<10*(k+fuel)/\(yg t n' (t.probeStart h)).j=j/\∀r,r<n'->Oc ow (yg t r (t.probeStart h)).j
 |0,k,n,_,_,_,hK=>by obtain⟨K,a,b,_⟩:=hK;omega
 |fuel+1,k,n,hn,ha,ho,hK=>by
  have ml:=zbn (m:=t.mask) (i:=(base t.mask (bits h) k).1)
  have run: ∀d,d<=runEnd t.mask (base t.mask (bits h) k).1-(base t.mask (bits h) k).1->(yg t (n+d) (t.probeStart h)).j=(base t.mask (bits h) k).1+d:=fun d hd=>by
   rw[ju,ha,Vy (p:=at_ t none (base t.mask (bits h) k)) d hd];rfl
  have le:(base t.mask (bits h) k).1<=runEnd t.mask (base t.mask (bits h) k).1:=by unfold runEnd;split<;>omega
  unfold layClean.free
  cases hf:(List.range (runEnd t.mask (base t.mask (bits h) k).1+1-(base t.mask (bits h) k).1)).find? fun d=>(ow.getD ((base t.mask (bits h) k).1+d) (some 0)).isNone with
  |some d=>
   rw[List.find?_range_eq_some] at hf;obtain⟨f1,f2,f3⟩:=hf;rw[List.mem_range] at f2;refine⟨_,n+d,rfl,fun z=>?_,by omega,run d (by omega),fun r hr=>?_⟩
   ·unfold Oc at z;rw[f1] at z;cases z
   ·by_cases c:r<n
    ·exact ho r c
    ·obtain⟨e,rfl⟩: ∃e,r=n+e:=⟨r-n,by omega⟩
     rw[run e (by omega)];have:=f3 e (by omega);unfold Oc;simpa using this
  |none=>
   rw[List.find?_range_eq_none] at hf
   have all: ∀d,d<=runEnd t.mask (base t.mask (bits h) k).1-(base t.mask (bits h) k).1->Oc ow ((base t.mask (bits h) k).1+d):=fun d hd=>by
    have:=hf d (by omega);unfold Oc;simpa using this
   obtain⟨K,a,b,c⟩:=hK;have ne:K≠k:=fun z=>c (by subst z;exact all 0 (Nat.zero_le _))
   have:=zbx fuel (k+1) (n+(runEnd t.mask (base t.mask (bits h) k).1-(base t.mask (bits h) k).1)+1) (by omega) (by
    rw[ju,ju,ha,Vy (p:=at_ t none (base t.mask (bits h) k)) (runEnd t.mask (base t.mask (bits h) k).1-(base t.mask (bits h) k).1) (Kg _)];show t.advance _=_;unfold SetTable.advance;rw[if_neg (by simp[at_])]
    rfl) (fun r hr=>by
     by_cases c:r<n
     ·exact ho r c
     ·obtain⟨e,rfl⟩: ∃e,r=n+e:=⟨r-n,by omega⟩
      rw[run e (by omega)];exact all e (by omega)) ⟨K,by omega,by omega,c⟩
   obtain⟨j,n',w1,w2,w3,w4,w5⟩:=this;exact⟨j,n',w1,w2,by omega,w4,w5⟩
end
structure Lay (t:SetTable)(ow:Array (Option Nat))(sl:List Nat)(hs:List Int):Prop where
 size:ow.size=t.mask+1
 len:sl.length=hs.length
 at_: ∀x q:Nat,ow[x]? =some (some q)↔sl[q]? =some x
 le: ∀x∈sl,x<=t.mask
 nd:sl.Nodup
 rc: ∀xh∈sl.zip hs,Reach t sl xh.2 xh.1
section
variable {t:SetTable} {ow:Array (Option Nat)} {sl:List Nat} {hs:List Int}
theorem Lay.oc(L:Lay t ow sl hs){x:Nat}(hx:x<=t.mask):Oc ow x↔x∈sl:=by
 have hs1:x<ow.size:=by rw[L.size];omega
 unfold Oc;rw[Array.getD_eq_getD_getElem?,Array.getElem?_eq_getElem hs1];show (ow[x]).isNone=false↔_;constructor
 ·intro h
  cases e:ow[x] with
  |none=>rw[e] at h;cases h
  |some q=>exact KA ((L.at_ x q).mp (by rw[Array.getElem?_eq_getElem hs1,e]))
 ·intro h
  obtain⟨q,hq,e⟩:=List.mem_iff_getElem.mp h;have:=(L.at_ x q).mpr (by rw[List.getElem?_eq_getElem hq,e]);rw[Array.getElem?_eq_getElem hs1] at this;rw[Kp this];rfl
theorem ziF(L:Lay t ow sl hs)(F:Full t.mask)(hl:sl.length<=t.mask)(h:Int):
  ∃j,layClean.free t.mask ow (turns t.mask) (bits h%(t.mask+1)) (bits h)=some j/\Lay t (ow.setIfInBounds j (some sl.length)) (sl++[j]) (hs++[h]):=by
 have hs0: ∃s,s<=t.mask/\s∉sl:=by
  refine Classical.byContradiction fun z=>?_
  have:=zbs (l:=sl) (n:=t.mask+1) fun s hs=>Classical.byContradiction fun y=>z ⟨s,by omega,y⟩
  omega
 obtain⟨s,s1,s2⟩:=hs0
 have hb:bits h<2 ^ 64:=by
  unfold bits;have:=Int.emod_lt_of_pos h (show (0:Int)<2 ^ 64 by decide);have:=Int.emod_nonneg h (show (2 ^ 64:Int)≠0 by decide);omega
 obtain⟨K,k1,k2⟩:=zbm (b:=bits h) F hb s1;obtain⟨j,n,w1,w2,w3,w4,w5⟩:=zbx (t:=t) (h:=h) (ow:=ow) (turns t.mask) 0 0 (Kg _) rfl (fun r hr=>by omega) ⟨K,Nat.zero_le _,by unfold turns;omega,by rw[k2];exact fun z=>s2 ((L.oc s1).mp z)⟩;have jm:j<=t.mask:=by rw[<-w4];exact QQ t h n
 have jn:j∉sl:=fun z=>w2 ((L.oc jm).mpr z)
 have js:j<ow.size:=by rw[L.size];omega
 have rj:Reach t sl h j:=⟨n,by simpa using w3,w4,fun k hk=>(L.oc (QQ t h k)).mp (w5 k hk)⟩;refine⟨j,w1,⟨by simp[L.size],by simp[L.len],fun x q=>?_,fun x hx=>?_,?_,fun xh hx=>?_⟩⟩
 ·rw[Array.getElem?_setIfInBounds]
  by_cases e:j=x
  ·subst e
   rw[if_pos rfl,if_pos js];constructor
   ·intro z
    cases z;rw[List.getElem?_append_right (Kg _),Nat.sub_self];rfl
   ·intro z
    rw[List.getElem?_append] at z;split at z
    ·exact KG (KA z) jn
    ·rename_i c
     have:=(List.getElem?_eq_some_iff.mp z).1;simp only[List.length_singleton] at this;have:q=sl.length:=by omega
     rw[this]
  ·rw[if_neg e,L.at_]
   constructor
   ·intro z
    rw[List.getElem?_append_left (List.getElem?_eq_some_iff.mp z).1];exact z
   ·intro z
    rw[List.getElem?_append] at z;split at z
    ·exact z
    ·rename_i c
     have:=KA z;rw[List.mem_singleton] at this;exact KG this.symm e
 ·rcases List.mem_append.mp hx with hx|hx
  ·exact L.le x hx
  ·rw[List.mem_singleton] at hx;rw[hx];exact jm
 ·rw[List.nodup_append]
  exact⟨L.nd,by simp,fun a ha b hb=>by rw[List.mem_singleton] at hb;rw[hb];exact fun z=>jn (z▸ha)⟩
 ·rw[List.zip_append L.len] at hx
  rcases List.mem_append.mp hx with hx|hx
  ·exact (L.rc xh hx).more (fun y hy=>Kr _ hy) rfl
  ·have:xh=(j,h):=by simpa using hx
   rw[this];exact rj.more (fun y hy=>Kr _ hy) rfl
theorem zby(F:Full t.mask): ∀(zK:List Int) (ow:Array (Option Nat)) (sl:List Nat) (hs:List Int),Lay t ow sl hs->hs.length+zK.length<=t.mask->
  ∃ow' sl',(zK.foldl (fun (acc:Option (Array (Option Nat)×Nat)) h=>do
   let (owner,k) <-acc
   let j <-layClean.free t.mask owner (turns t.mask) (bits h%(t.mask+1)) (bits h)
   pure (owner.setIfInBounds j (some k),k+1)) (some (ow,sl.length)))=some (ow',sl'.length)/\Lay t ow' sl' (hs++zK)
 |[],ow,sl,hs,L,_=>⟨ow,sl,rfl,by rw[List.append_nil];exact L⟩
 |h::zK,ow,sl,hs,L,hl=>by
  rw[List.length_cons] at hl;obtain⟨j,e,L'⟩:=ziF L F (by rw[L.len];omega) h;obtain⟨ow',sl',e2,L2⟩:=zby F zK _ _ _ L' (by simp;omega);refine⟨ow',sl',?_,by rw[List.append_assoc] at L2;exact L2⟩;rw[List.foldl_cons];rw[List.length_append,List.length_singleton] at e2;rw[<-e2]
  congr 1
  show (layClean.free t.mask ow (turns t.mask) (bits h%(t.mask+1)) (bits h)).bind _=_;rw[e];rfl
end
end L2.LW.ST
set_option maxHeartbeats 4000000
namespace L2.LW.ST
open PySem PySem.SetTable
theorem ziG(hs:List Int):(List.range hs.length).map (hat hs)=hs:=by
 apply List.ext_getElem
 ·simp
 ·intro i h1 h2
  simp[hat,List.getElem?_eq_getElem h2]
theorem laid_ok{m fg mv:Nat}{ld pn:Bool}(F:Full m){hs:List Int}(nd:hs.Nodup)(hl:hs.length<=m):
  ∃lv:List (Nat×Nat),laid m fg mv ld pn hs.toArray=some ({ mask:=m,place:=(lv.map (·.1)).toArray,dummies:= #[],finger:=fg,led:=ld,moves:=mv,plain:=pn },(lv.map (·.2)).toArray)/\
   Tb { mask:=m,place:=(lv.map (·.1)).toArray,dummies:= #[],finger:=fg,led:=ld,moves:=mv,plain:=pn } (lv.map (·.1)) ((lv.map (·.2)).map (hat hs))/\
   Found { mask:=m,place:=(lv.map (·.1)).toArray,dummies:= #[],finger:=fg,led:=ld,moves:=mv,plain:=pn } (lv.map (·.1)) ((lv.map (·.2)).map (hat hs))/\(lv.map (·.2)).Perm (List.range hs.length):=by
 let t0:SetTable:={ mask:=m,place:= #[],dummies:= #[],finger:=fg,led:=ld,moves:=mv,plain:=pn }
 have L0:Lay t0 (Array.replicate (m+1) none) [] []:=by
  refine⟨by simp[t0],rfl,fun x q=>?_,fun x hx=>(nomatch hx),List.nodup_nil,fun x hx=>(nomatch hx)⟩;rw[Array.getElem?_replicate];constructor
  ·intro z;split at z<;>cases z
  ·intro z;cases z
 obtain⟨ow,sl,e1,L⟩:=zby (t:=t0) F hs _ _ _ L0 (by simpa using hl);rw[List.nil_append] at L
 have e2:layClean m hs.toArray=some ow:=by
  unfold layClean;rw[<-Array.foldl_toList];have e1':=e1;simp only[List.length_nil] at e1';exact (congrArg (Option.map (·.1)) e1').trans rfl
 let lv:List (Nat×Nat):=(List.range (m+1)).filterMap fun j=>(ow.getD j none).map (j,·)
 have mem: ∀x q,(x,q)∈lv↔sl[q]? =some x:=fun x q=>by
  rw[<-L.at_];simp only[lv,List.mem_filterMap,List.mem_range,jo2,Prod.mk.injEq];constructor
  ·rintro⟨j,h1,q2,h2,rfl,rfl⟩
   rw[Array.getD_eq_getD_getElem?] at h2
   cases e:ow[j]? with
   |none=>rw[e] at h2;cases h2
   |some o=>rw[e] at h2;have h2:o=some q2:=h2;rw[h2]
  ·intro h
   have hx:x<ow.size:=(Array.getElem?_eq_some_iff.mp h).1;refine⟨x,by rw[L.size] at hx;exact hx,q,?_,rfl,rfl⟩;rw[Array.getD_eq_getD_getElem?,h];rfl
 have pw:lv.Pairwise fun a b=>a.1<b.1:=by
  rw[List.pairwise_filterMap];refine List.pairwise_lt_range.imp fun {a b} hab c hc d hd=>?_
  obtain⟨_,_,rfl⟩:=jo2.mp hc;obtain⟨_,_,rfl⟩:=jo2.mp hd;exact hab
 have lt: ∀x q,sl[q]? =some x->q<hs.length:=fun x q h=>by rw[<-L.len];exact (List.getElem?_eq_some_iff.mp h).1
 have nd2:(lv.map (·.2)).Nodup:=by
  unfold List.Nodup;rw[List.pairwise_map];refine pw.imp_of_mem fun {a b} ha hb hab z=>?_
  have h1:=(mem a.1 a.2).mp ha;have h2:=(mem b.1 b.2).mp hb;have z:a.2=b.2:=z;rw[z,h2] at h1;have:=Kp h1;omega
 have pm:(lv.map (·.2)).Perm (List.range hs.length):=by
  rw[List.perm_ext_iff_of_nodup nd2 List.nodup_range];intro q;rw[List.mem_map,List.mem_range];constructor
  ·rintro⟨z,hz,rfl⟩;exact lt _ _ ((mem z.1 z.2).mp hz)
  ·intro hq
   have hq':q<sl.length:=by rw[L.len];exact hq
   exact⟨(sl[q],q),(mem _ _).mpr (List.getElem?_eq_getElem hq'),rfl⟩
 refine⟨lv,?_,⟨F,rfl,rfl,?_,by simp,fun x hx=>?_,?_,?_⟩,fun xh hx=>?_,pm⟩
 ·unfold laid
  rw[e2];rfl
 ·intro i j hij a b ha hb
  have p2:(lv.map (·.1)).Pairwise (· < ·):=by rw[List.pairwise_map];exact pw
  obtain⟨l1,w1⟩:=List.getElem?_eq_some_iff.mp ha;obtain⟨l2,w2⟩:=List.getElem?_eq_some_iff.mp hb;have:=List.pairwise_iff_getElem.mp p2 i j l1 l2 hij;rw[w1,w2] at this;exact this
 ·obtain⟨z,hz,rfl⟩:=List.mem_map.mp hx
  exact L.le _ (KA ((mem z.1 z.2).mp hz))
 ·have:=(pm.map (hat hs)).nodup_iff
  rw[ziG] at this;exact this.mpr nd
 ·rw[List.length_map,pm.length_eq,List.length_range];exact hl
 ·obtain⟨i,hi,e⟩:=List.mem_iff_getElem.mp hx
  have hi1:i<lv.length:=by simpa using hi
  have e3:xh=(lv[i].1,hat hs lv[i].2):=by rw[<-e];simp
  have hm:=(mem lv[i].1 lv[i].2).mp (Kv hi1);have hq:=lt _ _ hm;have hh:hs[lv[i].2]? =some (hat hs lv[i].2):=by unfold hat;rw[List.getElem?_eq_getElem hq];rfl
  rw[e3];refine (L.rc (lv[i].1,hat hs lv[i].2) (KA (i:=lv[i].2) (by rw[List.getElem?_zip_eq_some];exact⟨hm,hh⟩))).more (fun y hy=>?_) rfl;obtain⟨q,hq2,e4⟩:=List.mem_iff_getElem.mp hy;exact List.mem_map.mpr ⟨(y,q),(mem y q).mpr (by rw[List.getElem?_eq_getElem hq2,e4]),rfl⟩
end L2.LW.ST
set_option maxHeartbeats 4000000
namespace L2.LW
open PySem PySem.Spec PySem.W PySem.Calls PyProof.Rows
noncomputable def xZ(w:World):Bool:=w.params.followText "set-order"
structure Plain2 {prog:Program}{w:World}{K:Type}[DecidableEq K](knd:HeapKind prog w K)(nice:K->Prop):Prop where
 nocls: ∀{A:Around} {E:Value->Shared->Prop} {s:Shared} {k:K} {a:Addr} {Q:Bool->Shared->Prop},knd.is s.heap k a->Q false s->wpAny (model prog w) A (ofAClassStatement 8 (.ref a)) Q E s
 byval: ∀{A:Around} {E:Value->Shared->Prop} {s:Shared} {k:K} {a:Addr} {Q:Bool->Shared->Prop},knd.is s.heap k a->(∀b,(nice k->b=true)->Q b s)->wpAny (model prog w) A (hashByValue 8 (.ref a)) Q E s
 keep: ∀{h h':Heap} {k:K} {a d:Addr} {o:Obj} {es ep t},knd.is h k a->h.get? d=some o->o.data= .set es ep t->Heap.SameBut d h h'->knd.is h' k a
section
variable {prog:Program} {w:World} {K:Type} [DecidableEq K] {knd:HeapKind prog w K} {nice:K->Prop} {A:Around} {E:Value->Shared->Prop} {s:Shared}
noncomputable def vf(knd:HeapKind prog w K)(z:K×Addr):Int×Value:=(knd.hash z.1,.ref z.2)
noncomputable def zV(knd:HeapKind prog w K)(xs:List (K×Addr)):List Int:=xs.map fun z=>knd.hash z.1
theorem QT{α β:Type}{M:Model}{f:α->β->Sem (ForInStep β)}{b0:β}: ∀(ys:List α) {Q:β->Shared->Prop},(∀y∈ys,∀Q1:ForInStep β->Shared->Prop,Q1 (.yield b0) s->wpAny M A (f y b0) Q1 E s)->Q b0 s->wpAny M A (forIn ys b0 f) Q E s
 |[],Q,_,q=>Kc q
 |y::ys,Q,h,q=>by
  rw[List.forIn_cons];exact Kb (h y (Ke ..) _ (QT ys (fun z hz=>h z (Kf _ hz)) q))
theorem ziH(P:Plain2 knd nice){k:K}{b:Addr}(hb:knd.is s.heap k b)(ys:List Value){Q:Bool->Shared->Prop}(hy: ∀y∈ys,∃(k':K) (c:Addr),y= .ref c/\knd.is s.heap k' c)(q:Q false s):
  wpAny (model prog w) A (searchCouldBeSeen (.ref b) ys) Q E s:=by
 unfold searchCouldBeSeen;refine Kb (QT ys (fun y hm Q1 q1=>?_) (Kc q));obtain⟨k',c,rfl,hc⟩:=hy y hm;dsimp only;split
 ·exact Kc q1
 ·refine Kb (knd.quiet hb ?_)
  rw[if_neg (by decide)];refine Kb (knd.quiet hc ?_);rw[if_neg (by decide)];refine Kb (P.nocls hb ?_);rw[if_neg (by decide)];refine Kb (P.nocls hc ?_);rw[if_neg (by decide)];exact Kc q1
theorem VA{t:SetTable}{pl:List Nat}{hs:List Int}{es:Array (Int×Value)}(T:ST.Tb t pl hs)(e:es.toList.length=hs.length):t.fits es.size=true:=by
 unfold SetTable.fits SetTable.fill;rw[T.plc,T.dum];simp only[List.size_toArray,Bool.and_eq_true,beq_iff_eq,decide_eq_true_eq];rw[<-Array.length_toList,e,T.len];exact⟨rfl,by simpa using T.room⟩
theorem ziI(P:Plain2 knd nice){a:Addr}{o:Obj}{es:Array (Int×Value)}{ep:Nat}{t:SetTable}{pl:List Nat}{xs:List (K×Addr)}{k:K}{b:Addr}{Q:SetFound->Shared->Prop}
  (ho:s.heap.get? a=some o) (hd:o.data= .set es ep t) (he:es.toList=xs.map (vf knd)) (al: ∀z∈xs,knd.is s.heap z.1 z.2) (T:ST.Tb t pl (zV knd xs)) (F:ST.Found t pl (zV knd xs)) (odd:t.gaveWay=false)
  (hu:knd.room A) (hb:knd.is s.heap k b) (inj: ∀z∈xs,knd.hash z.1=knd.hash k->z.1=k)
  (qn:(∀z∈xs,z.1≠k)->∀j,j<=t.mask->j∉pl->ST.Reach t pl (knd.hash k) j->Q (.free j false) s) (qo:(∃z∈xs,z.1=k)->Q (.there none) s):
  wpAny (model prog w) A (setSearch a (.ref b) (knd.hash k) true) Q E s:=by
 have fit:=VA (es:=es) T (by rw[he];simp[zV])
 have hat: ∀i,(es[i]?.map (·.1)).getD 0=ST.hat (zV knd xs) i:=fun i=>by
  unfold ST.hat zV;rw[<-Array.getElem?_toList,he,List.getElem?_map,List.getElem?_map];cases xs[i]? <;>rfl
 show wpAny _ _ (setSearchFrom a (.ref b) (knd.hash k) true (99999+1) none) _ _ _;rw[setSearchFrom];refine Kb (wpAny_setState_of ho hd fit ?_);dsimp only;rw[odd,if_neg (by decide)];by_cases hk: ∃z∈xs,z.1=k
 ·obtain⟨z,hz,rfl⟩:=hk
  obtain⟨q,hq,ez⟩:=List.mem_iff_getElem.mp hz;have e1:xs[q]? =some z:=by rw[List.getElem?_eq_getElem hq,ez]
  have hpl:q<pl.length:=by rw[T.len];simpa [zV] using hq
  obtain⟨nx,pr⟩:=ST.probe_old T F (List.getElem?_eq_getElem hpl) (show (zV knd xs)[q]? =some (knd.hash z.1) by unfold zV;rw[List.getElem?_map,e1];rfl);split
  case h_2 z2=>exact (z2 _ ((congrArg (fun g=>t.probe g (knd.hash z.1) (t.probeStart (knd.hash z.1))) (funext fun i=>hat i)).trans pr)).elim
  rename_i met z2
  have em:met= .candidate pl[q] q nx:=by
   have:=((congrArg (fun g=>t.probe g (knd.hash z.1) (t.probeStart (knd.hash z.1))) (funext fun i=>hat i)).symm.trans z2).symm.trans pr;exact Kp this
  subst em;dsimp only;have e2:es[q]? =some (knd.hash z.1,.ref z.2):=by rw[<-Array.getElem?_toList,he,List.getElem?_map,e1];rfl
  have ys: ∀y∈((es.filter (·.1==knd.hash z.1)).toList.map (·.2)),∃(k':K) (c:Addr),y= .ref c/\knd.is s.heap k' c:=fun y hy=>by
   obtain⟨e,h1,rfl⟩:=List.mem_map.mp hy;rw[Array.toList_filter,List.mem_filter,he,List.mem_map] at h1;obtain⟨⟨z3,h3,rfl⟩,_⟩:=h1;exact⟨z3.1,z3.2,rfl,al z3 h3⟩
  have q0:=qo ⟨z,hz,rfl⟩;split
  ·refine Kb (ziH P hb _ ys ?_)
   rw[if_neg (by decide),e2];refine Kb (wpAny_holding (knd.eqBool hu (al z hz) hb ?_));refine Kb (wpAny_setState_of ho hd fit ?_);rw[if_pos (by simp)];exact Kc q0
  ·rw[e2]
   refine Kb (wpAny_holding (knd.eqBool hu (al z hz) hb ?_));refine Kb (wpAny_setState_of ho hd fit ?_);rw[if_pos (by simp)];exact Kc q0
 ·have nk: ∀z∈xs,z.1≠k:=fun z hz e=>hk ⟨z,hz,e⟩
  have nh:knd.hash k∉zV knd xs:=fun z=>by
   obtain⟨z1,h1,h2⟩:=List.mem_map.mp z;exact nk z1 h1 (inj z1 h1 h2)
  obtain⟨j,j1,j2,j3,pr⟩:=ST.probe_new T nh;split
  case h_2 z2=>exact (z2 _ ((congrArg (fun g=>t.probe g (knd.hash k) (t.probeStart (knd.hash k))) (funext fun i=>hat i)).trans pr)).elim
  rename_i met z2
  have em:met= .empty j none:=by
   have:=((congrArg (fun g=>t.probe g (knd.hash k) (t.probeStart (knd.hash k))) (funext fun i=>hat i)).symm.trans z2).symm.trans pr;exact Kp this
  subst em;exact Kc (qn nk j j1 j2 j3)
noncomputable def Roomy(t:SetTable)(n:Nat):Prop:=(t.mask=7/\n<=4)\/(t.mask=31/\n<=18)\/(t.mask=127/\n<=76)
structure SetC (knd:HeapKind prog w K)(nice:K->Prop)(h:Heap)(a:Addr)(xs:List (K×Addr)):Prop where
 ex: ∃o es ep t pl,h.get? a=some o/\o.ExactSet/\o.data= .set es ep t/\es.toList=xs.map (vf knd)/\ST.Tb t pl (zV knd xs)/\ST.Found t pl (zV knd xs)/\Roomy t xs.length/\t.led=(!xZ w)/\((∀z∈xs,nice z.1)->t.plain=true)
 al: ∀z∈xs,knd.is h z.1 z.2
theorem Roomy.odd{t:SetTable}{n:Nat}(r:Roomy t n):t.gaveWay=false:=by
 unfold SetTable.gaveWay;rcases r with ⟨e,_⟩|⟨e,_⟩|⟨e,_⟩<;>rw[e]<;>rfl
theorem zbz{h:Heap}{a:Addr}{o:Obj}{es es':Array (Int×Value)}{ep:Nat}{t t':SetTable}(ho:h.get? a=some o)(hd:o.data= .set es ep t):
  (h.update a (Obj.putSet es' t')).get? a=some { o with data:=.set es' (ep+1) t' }:=by
 have z:=Heap.get?_update_self (Obj.putSet es' t') ho (by rw[putSet_of es' t' hd];rfl);rw[putSet_of es' t' hd] at z;exact z
theorem zbA(xs:List (K×Addr)): ∀l:List Nat,(∀q∈l,q<xs.length)->zV knd (l.filterMap (xs[·]?))=l.map (ST.hat (zV knd xs))
 |[],_=>rfl
 |q::l,h=>by
  have hq:=h q (Ke ..);have ih:=zbA xs l fun z hz=>h z (Kf _ hz)
  rw[List.filterMap_cons,List.getElem?_eq_getElem hq];show knd.hash (xs[q]).1::zV knd _=_;rw[ih,List.map_cons]
  congr 1
  unfold ST.hat zV;rw[List.getElem?_map,List.getElem?_eq_getElem hq];rfl
theorem zbB{α:Type}(xs:List α): ∀n:Nat,(List.range n).filterMap (xs[·]?)=xs.take n
 |0=>by simp
 |n+1=>by
  rw[List.range_succ,List.filterMap_append,zbB xs n,List.take_add_one]
  congr 1
theorem ziJ{α:Type}(xs:List α):(List.range xs.length).filterMap (xs[·]?)=xs:=by rw[zbB,List.take_length]
theorem ziK(P:Plain2 knd nice){a:Addr}{o:Obj}{es:Array (Int×Value)}{ep:Nat}{t:SetTable}{xs:List (K×Addr)}{n m:Nat}{Q:Unit->Shared->Prop}
  (ho:s.heap.get? a=some o) (hx:o.ExactSet) (hd:o.data= .set es ep t) (he:es.toList=xs.map (vf knd)) (al: ∀z∈xs,knd.is s.heap z.1 z.2) (fit:t.fits es.size=true) (nd:(zV knd xs).Nodup)
  (hm:SetTable.sizeAbove n=m+1) (F:ST.Full m) (hl:xs.length<=m) (big:m+1<=1000) (ro: ∀t':SetTable,t'.mask=m->Roomy t' xs.length) (fl:t.led=(!xZ w)) (fp:(∀z∈xs,nice z.1)->t.plain=true)
  (q: ∀h' ys,ys.Perm xs->SetC knd nice h' a ys->Heap.SameBut a s.heap h'->Q () { s with heap:=h' }):wpAny (model prog w) A (setRelay a n) Q E s:=by
 unfold setRelay;refine Kb (wpAny_setState_of ho hd fit ?_);dsimp only;rw[hm,if_neg (by rw[KI];omega)]
 have eh:es.map (·.1)=(zV knd xs).toArray:=by
  apply Array.ext';rw[Array.toList_map,he,List.map_map];rfl
 obtain⟨lv,e1,T,Fd,pm⟩:=ST.laid_ok (m:=m) (fg:=t.finger) (mv:=t.movedTo m) (ld:=t.led) (pn:=t.plain) F nd (by simpa [zV] using hl)
 obtain⟨t2,e1,T,Fd,em,el,ep2⟩: ∃t2,SetTable.laid m t.finger (t.movedTo m) t.led t.plain (zV knd xs).toArray=some (t2,(lv.map (·.2)).toArray)/\ST.Tb t2 (lv.map (·.1)) ((lv.map (·.2)).map (ST.hat (zV knd xs)))/\
   ST.Found t2 (lv.map (·.1)) ((lv.map (·.2)).map (ST.hat (zV knd xs)))/\t2.mask=m/\t2.led=t.led/\t2.plain=t.plain:=⟨_,e1,T,Fd,rfl,rfl,rfl⟩
 have er:t.relaid (es.map (·.1)) n=some (t2,(lv.map (·.2)).toArray):=by
  unfold SetTable.relaid;rw[hm,Nat.add_sub_cancel,eh];exact e1
 have lq: ∀q∈lv.map (·.2),q<xs.length:=fun q hq=>by simpa [zV] using pm.mem_iff.mp hq
 have py:((lv.map (·.2)).filterMap (xs[·]?)).Perm xs:=by
  have:=pm.filterMap (xs[·]?);rw[show (zV knd xs).length=xs.length by simp[zV],ziJ] at this;exact this
 have hy:zV knd ((lv.map (·.2)).filterMap (xs[·]?))=(lv.map (·.2)).map (ST.hat (zV knd xs)):=zbA xs _ lq
 have e2:(lv.map (·.2)).toArray.filterMap (es[·]?)=(((lv.map (·.2)).filterMap (xs[·]?)).map (vf knd)).toArray:=by
  apply Array.ext';rw[Array.toList_filterMap,List.map_filterMap]
  congr 1
  funext q
  rw[<-Array.getElem?_toList,he,List.getElem?_map]
 have sz:((lv.map (·.2)).toArray.filterMap (es[·]?)).size=es.size:=by
  rw[e2,List.size_toArray,List.length_map,py.length_eq,<-Array.length_toList,he,List.length_map]
 rw[er];refine Kb (wpAny_of_eq (a:=((lv.map (·.2)).toArray.filterMap (es[·]?),t2)) ?_ ?_)
 ·show (if (((lv.map (·.2)).toArray.filterMap (es[·]?)).size != es.size)=true then (_:Sem (Array (Int×Value)×SetTable)) else _)=_
  rw[if_neg (by rw[sz];simp)]
 ·dsimp only
  refine wpAny_storeSet_of ho hd ?_ (by rw[sz,<-Array.length_toList,he,List.length_map,KI];omega);refine q _ _ py ⟨⟨_,_,_,t2,lv.map (·.1),zbz ho hd,hx,rfl,by rw[e2],by rw[hy];exact T,by rw[hy];exact Fd,by rw[py.length_eq];exact ro t2 em,by rw[el];exact fl,fun hn=>by rw[ep2];exact fp fun z hz=>hn z (py.mem_iff.mpr hz)⟩,fun z hz=>?_⟩ (Heap.SameBut.update ..);exact P.keep (al z (py.mem_iff.mp hz)) ho hd (Heap.SameBut.update ..)
theorem ziL{t:SetTable}{pl:List Nat}{hs:List Int}(T:ST.Tb t pl hs)(F:ST.Found t pl hs)(v:Bool):ST.Tb { t with plain:=v } pl hs/\ST.Found { t with plain:=v } pl hs:=
 ⟨⟨T.full,T.dum,T.plc,T.ris,T.len,T.le,T.nd,T.room⟩,fun xh hx=>(F xh hx).more (fun _ z=>z) rfl⟩
theorem QU{xs:List (K×Addr)}{p:Nat}{z:K×Addr}:zV knd (ST.ins xs p z)=ST.ins (zV knd xs) p (knd.hash z.1):=by
 unfold zV ST.ins;rw[List.map_append,List.map_cons,List.map_take,List.map_drop]
theorem ziM{α:Type}(xs:List α)(p:Nat)(z:α):(ST.ins xs p z).Perm (z::xs):=by
 unfold ST.ins;refine List.perm_middle.trans (List.Perm.cons _ ?_);rw[List.take_append_drop]
theorem ziN(P:Plain2 knd nice){a:Addr}{xs:List (K×Addr)}{k:K}{b:Addr}{Q:Bool->Shared->Prop}(S:SetC knd nice s.heap a xs)(hu:knd.room A)(hb:knd.is s.heap k b)(inj: ∀z∈xs,knd.hash z.1=knd.hash k->z.1=k)(few:xs.length<76)
  (qo:(∃z∈xs,z.1=k)->Q false s) (qn:(∀z∈xs,z.1≠k)->∀h' ys,ys.Perm ((k,b)::xs)->SetC knd nice h' a ys->Heap.SameBut a s.heap h'->Q true { s with heap:=h' }):
  wpAny (model prog w) A (setAddHashed a (.ref b) (knd.hash k)) Q E s:=by
 obtain⟨⟨o,es,ep,t,pl,ho,hx,hd,he,T,F,ro,fl,fp⟩,al⟩:=S;have fit:=VA (es:=es) T (by rw[he];simp[zV]);have esz:es.size=xs.length:=by rw[<-Array.length_toList,he,List.length_map]
 unfold setAddHashed;refine wpAny_holding ?_;show wpAny _ _ (setAddHashedIn a (.ref b) (knd.hash k) (99999+1)) _ _ _;rw[setAddHashedIn];refine Kb (wpAny_setState_of ho hd fit ?_);dsimp only;rw[if_neg (show ¬(byScan (.ref b) es=true) from fun z=>by cases z)];refine Kb (ziI P ho hd he al T F ro.odd hu hb inj (fun nk j jm jn R=>?_) fun ok=>Kc (qo ok))
 have nh:knd.hash k∉zV knd xs:=fun z=>by
  obtain⟨z1,h1,h2⟩:=List.mem_map.mp z;exact nk z1 h1 (inj z1 h1 h2)
 have rm:(zV knd xs).length+1<=t.mask:=by
  have:(zV knd xs).length=xs.length:=by simp[zV]
  rcases ro with ⟨e,h⟩|⟨e,h⟩|⟨e,h⟩<;>omega
 obtain⟨p,p1,p2,p3,T1,F1⟩:=ST.put_ok T F nh jm jn R rm;dsimp only;refine Kb (wpAny_setState_of ho hd fit ?_);dsimp only;rw[p3];dsimp only
 have ei:SetTable.insertAt es p (knd.hash k,Value.ref b)=((ST.ins xs p (k,b)).map (vf knd)).toArray:=by
  obtain⟨l⟩:=es;have he:l=xs.map (vf knd):=he;rw[he,ST.insertAt_eq];unfold ST.ins;rw[List.map_append,List.map_cons,List.map_take,List.map_drop];rfl
 have pz:p<=xs.length:=by rw[T.len] at p1;simpa [zV] using p1
 have al1: ∀z∈ST.ins xs p (k,b),knd.is s.heap z.1 z.2:=fun z hz=>by
  rcases ST.mem_ins.mp hz with rfl|hz
  ·exact hb
  ·exact al z hz
 have pm:=ziM xs p (k,b);have nd1:(zV knd (ST.ins xs p (k,b))).Nodup:=by rw[QU];exact T1.nd
 have zK: ∀v:Bool,((∀z∈ST.ins xs p (k,b),nice z.1)->v=true)->wpAny (model prog w) A (storeSet a (SetTable.insertAt es p (knd.hash k,Value.ref b)) { t with place:=(ST.ins pl p j).toArray,plain:=v }) (fun _ s1=>wpAny (model prog w) A
   (if (!false&&({ t with place:=(ST.ins pl p j).toArray,plain:=v }:SetTable).tooFull)=true then (do setRelay a (SetTable.grown (es.size+1));pure true) else pure true) Q E s1) E s:=fun v hv=>by
  obtain⟨T2,F2⟩:=ziL T1 F1 v;rw[ei];refine wpAny_storeSet_of ho hd ?_ (by rw[List.size_toArray,List.length_map,ST.ins_len pz,KI];omega);have ho1:=zbz (es':=((ST.ins xs p (k,b)).map (vf knd)).toArray) (t':={ t with place:=(ST.ins pl p j).toArray,plain:=v }) ho hd;have sb1:=Heap.SameBut.update s.heap a (Obj.putSet ((ST.ins xs p (k,b)).map (vf knd)).toArray { t with place:=(ST.ins pl p j).toArray,plain:=v });have al2: ∀z∈ST.ins xs p (k,b),knd.is (s.heap.update a (Obj.putSet ((ST.ins xs p (k,b)).map (vf knd)).toArray { t with place:=(ST.ins pl p j).toArray,plain:=v })) z.1 z.2:=fun z hz=>P.keep (al1 z hz) ho hd sb1
  have fil:({ t with place:=(ST.ins pl p j).toArray,plain:=v }:SetTable).fill=xs.length+1:=by
   unfold SetTable.fill;show (ST.ins pl p j).toArray.size+t.dummies.size=_;rw[T.dum,List.size_toArray,ST.ins_len p1,T.len];simp[zV]
  have ln:(ST.ins xs p (k,b)).length=xs.length+1:=ST.ins_len pz;have fit1:=VA (es:=((ST.ins xs p (k,b)).map (vf knd)).toArray) T2 (by rw[ST.ins_len (show p<=(zV knd xs).length by simpa [zV] using pz)];simp[ln,zV]);split
  ·rename_i tf
   have tf:(xs.length+1)*5>=t.mask*3:=by
    have:({ t with place:=(ST.ins pl p j).toArray,plain:=v }:SetTable).tooFull=true:=by simpa using tf
    unfold SetTable.tooFull at this;rw[fil] at this;simpa using this
   obtain⟨m,hm,Fm,lm,bm,rm2⟩: ∃m,SetTable.sizeAbove (SetTable.grown (es.size+1))=m+1/\ST.Full m/\xs.length+1<=m/\m+1<=1000/\∀t':SetTable,t'.mask=m->Roomy t' (xs.length+1):=by
    rw[esz];rcases ro with ⟨e,h⟩|⟨e,h⟩|⟨e,h⟩
    ·have:xs.length=4:=by omega
     rw[this];exact⟨31,by decide,ST.full31,by decide,by decide,fun t' e'=>.inr (.inl ⟨e',by decide⟩)⟩
    ·have:xs.length=18:=by omega
     rw[this];exact⟨127,by decide,ST.full127,by decide,by decide,fun t' e'=>.inr (.inr ⟨e',by decide⟩)⟩
    ·omega
   refine Kb (ziK P (s:={ s with heap:=_ }) ho1 hx rfl (by simp) al2 fit1 nd1 hm Fm (by rw[ln];exact lm) bm (by rw[ln];exact rm2) fl hv fun h2 ys y1 y2 y3=>Kc (qn nk h2 ys (y1.trans pm) y2 (sb1.trans y3)))
  ·rename_i tf
   have tf: ¬((xs.length+1)*5>=t.mask*3):=fun z=>tf (by
    unfold SetTable.tooFull;rw[fil];simpa using z)
   refine Kc (qn nk _ _ pm ⟨⟨_,_,_,_,ST.ins pl p j,ho1,hx,rfl,by simp,by rw[QU];exact T2,by rw[QU];exact F2,?_,fl,hv⟩,al2⟩ sb1);rw[ln];rcases ro with ⟨e,h⟩|⟨e,h⟩|⟨e,h⟩
   ·exact .inl ⟨e,by omega⟩
   ·exact .inr (.inl ⟨e,by omega⟩)
   ·exact .inr (.inr ⟨e,by omega⟩)
 have old:(∀z∈ST.ins xs p (k,b),nice z.1)->t.plain=true:=fun hn=>fp fun z hz=>hn z (ST.mem_ins.mpr (.inr hz))
 split
 ·refine Kb (P.byval hb fun v hv=>?_)
  cases v with
  |true=>exact Kb (zK t.plain old)
  |false=>exact Kb (zK false fun hn=>hv (hn (k,b) (ST.mem_ins.mpr (.inl rfl))))
 ·exact Kb (Kc (Kb (zK t.plain old)))
end
section
variable {prog:Program} {w:World} {K:Type} [DecidableEq K] {kn:KeyKind prog w K}
theorem ziO{n:Nat}{v:Value}(h:carriedByValue v=true):ofAClassStatement n v=pure false:=by
 cases v<;>first|(cases h;done)|(unfold ofAClassStatement;rfl)
theorem ziP{n:Nat}{v:Value}(h:carriedByValue v=true): ∃b,hashByValue n v=pure b:=by
 cases v<;>first|(cases h;done)|exact⟨_,by unfold hashByValue;rfl⟩
theorem zbC{α β:Type}{M:Model}{A:Around}{E:Value->Shared->Prop}{s:Shared}{f:α->β->Sem (ForInStep β)}: ∀(ys:List α) (b0:β) {Q:β->Shared->Prop},(∀y∈ys,∀b,∃r,f y b=pure r)->(∀b,Q b s)->wpAny M A (forIn ys b0 f) Q E s
 |[],b0,Q,_,q=>Kc (q b0)
 |y::ys,b0,Q,h,q=>by
  rw[List.forIn_cons];obtain⟨r,e⟩:=h y (Ke ..) b0;refine Kb (wpAny_of_eq e ?_)
  cases r with
  |done b=>exact Kc (q b)
  |yield b=>exact zbC ys b (fun z hz=>h z (Kf _ hz)) q
theorem zbD{α β γ:Type}{M:Model}{A:Around}{E:Value->Shared->Prop}{s:Shared}{f:α->Option γ×β->Sem (ForInStep (Option γ×β))}: ∀(ys:List α) (b0:Option γ×β) {Q:Option γ×β->Shared->Prop},(∀y∈ys,∀b,b.1=none->∃b',b'.1=none/\f y b=pure (.yield b'))->b0.1=none->(∀b,b.1=none->Q b s)->wpAny M A (forIn ys b0 f) Q E s
 |[],b0,Q,_,h0,q=>Kc (q b0 h0)
 |y::ys,b0,Q,h,h0,q=>by
  rw[List.forIn_cons];obtain⟨r,r0,e⟩:=h y (Ke ..) b0 h0;exact Kb (wpAny_of_eq e (zbD ys r (fun z hz=>h z (Kf _ hz)) r0 q))
theorem ziQ{nice:List K->Prop}(hn: ∀ks vs,nice ks->ItemsAre kn ks vs->∀v∈vs,∃i t,v=Value.int i t):Plain2 (tupleKind kn) nice where
 nocls:=fun {A E s k a Q} hk q=>by
  have hT:=IsTupleKey.typeIs hk;obtain⟨o,items,n,ho,hc,hd,hi⟩:=hk;show wpAny _ _ (ofAClassStatement (7+1) (.ref a)) _ _ _;unfold ofAClassStatement;refine Kb (wpAny_typeOf hT ?_);dsimp only;rw[if_pos (by decide)];refine Kb (Kc ?_);rw[if_neg (by decide)];refine Kb (wpAny_seqItems ho hd ?_);dsimp only;refine Kb ?_;rw[<-Array.forIn_toList];refine QT items.toList (fun y hy Q1 q1=>?_) (Kc q);refine Kb (wpAny_of_eq (ziO (hi.byValue y hy)) ?_);rw[if_neg (by decide)];exact Kc q1
 byval:=fun {A E s k a Q} hk q=>by
  have hT:=IsTupleKey.typeIs hk;obtain⟨o,items,n,ho,hc,hd,hi⟩:=hk;show wpAny _ _ (hashByValue (7+1) (.ref a)) _ _ _;unfold hashByValue;refine Kb (wpAny_specialOf hT F.slot_tuple_hash.lookup ?_);dsimp only;refine Kb (wpAny_seqItems ho hd ?_);refine Kb ?_;rw[<-Array.forIn_toList];by_cases nk:nice k
  ·refine zbD items.toList _ (fun y hy r r0=>?_) rfl fun r r0=>?_
   ·obtain⟨i,t,rfl⟩:=hn k _ nk hi y hy
    exact⟨(none,()),rfl,rfl⟩
   ·obtain⟨r1,r2⟩:=r
    dsimp only at r0;subst r0;exact Kc (q _ fun _=>rfl)
  ·refine zbC items.toList _ (fun y hy r=>?_) fun r=>?_
   ·obtain⟨b,e⟩:=ziP (n:=7) (hi.byValue y hy)
    rw[e];cases b<;>exact⟨_,rfl⟩
   ·rcases r with ⟨_|_,_⟩<;>exact Kc (q _ fun z=>(nk z).elim)
 keep:=fun {h h' k a d o es ep t} hk ho hd sb=>by
  obtain⟨o',items,n,ho',hc,hd',hi⟩:=hk
  have ne:a≠d:=by
   intro e;rw[e,ho] at ho';cases ho';rw[hd] at hd';cases hd'
  exact⟨o',items,n,(sb.2 a ne).trans ho',hc,hd',hi⟩
end
end L2.LW
set_option maxHeartbeats 4000000
namespace L2.LW
open PySem PySem.Spec PySem.W PySem.Calls PyProof.Rows
section
variable {prog:Program} {w:World} {K:Type} [DecidableEq K] {kn:KeyKind prog w K} {nice:List K->Prop} {A:Around} {R:Result->Shared->Prop} {I S:Addr} {fp wr:List Addr} {G:Array GenState->Array GenState->Prop} {n:Nat} {P:Nat->Value->Prop} {St:Nat->Shared->Prop}
theorem VB{h h':Heap}{k:List K}{a:Addr}(x:IsTupleKey kn h k a)(e: ∀o,h.get? a=some o->h'.get? a=some o):IsTupleKey kn h' k a:=by
 obtain⟨o,its,m,ho,r⟩:=x;exact⟨o,its,m,e o ho,r⟩
theorem SetC.at{h h':Heap}{a:Addr}{xs:List (List K×Addr)}(S:SetC (tupleKind kn) nice h a xs)(e: ∀o,h.get? a=some o->h'.get? a=some o)(al: ∀z∈xs,IsTupleKey kn h' z.1 z.2):SetC (tupleKind kn) nice h' a xs:=by
 obtain⟨⟨o,es,ep,t,pl,ho,r⟩,_⟩:=S;exact⟨⟨o,es,ep,t,pl,e o ho,r⟩,al⟩
theorem ziR(hnice: ∀ks vs,nice ks->ItemsAre kn ks vs->∀v∈vs,∃i t,v=Value.int i t)(W:WalksS prog w A.in1 I fp wr G n P St)(nS:S∉fp)(hu:A.in1.units<cLine){zs:List (List K×Addr)}(hn:zs.length=n)(val: ∀i v,P i v->∃z,zs[i]? =some z/\v= .ref z.2)
  (nw: ∀z∈zs,z.2∉wr) (inj: ∀z∈zs,∀y∈zs,tupleKeyHash kn z.1=tupleKeyHash kn y.1->z.1=y.1) (cap: ∀xs:List (List K×Addr),(xs.map (·.1)).Nodup->(∀z∈xs,z∈zs)->xs.length<76):
  ∀(m i:Nat) (s:Shared) (xs:List (List K×Addr)),n-i=m->i<=n->St i s->SetC (tupleKind kn) nice s.heap S xs->(∀z∈xs,z∈zs)->(∀k,(∃z∈xs,z.1=k)↔∃z∈zs.take i,z.1=k)->(∀z∈zs,IsTupleKey kn s.heap z.1 z.2)->
   (∀s' ys,Moved (S::wr) G s s'->SetC (tupleKind kn) nice s'.heap S ys->(∀z∈ys,z∈zs)->(∀k,(∃z∈ys,z.1=k)↔∃z∈zs,z.1=k)->R (.ok (.ret .none)) s')->
   codeAny (model prog w) A (.builtin "set.update.loop" ⟨[.ref S,.ref I],[]⟩) R s:=by
 have nSw:S∉wr:=fun z=>nS (W.sub _ z)
 have up: ∀b∈wr,b∈S::wr:=fun b hb=>Kf _ hb
 intro m
 induction m with
 |zero=>
  intro i s xs hm hi st C sub mem al fin;obtain rfl:i=n:=by omega
  refine codeAny_builtin PyProof.Rows.F.entry_set_update_loop ?_;rw[Around.under_plainId PyProof.Rows.F.plain_set_update_loop _];refine Kb (W.done s _ _ st fun s1 mv=>Kc (fin s1 xs (mv.mono up) (C.at (fun o e=>mv.heap S o nSw e) fun z hz=>VB (C.al z hz) fun o e=>mv.heap z.2 o (nw z (sub z hz)) e) sub fun k=>?_));rw[mem k,List.take_of_length_le (by omega)]
 |succ m ih=>
  intro i s xs hm hi st C sub mem al fin;have lt:i<n:=by omega
  refine codeAny_builtin PyProof.Rows.F.entry_set_update_loop ?_;rw[Around.under_plainId PyProof.Rows.F.plain_set_update_loop _];refine Kb (W.item i s _ _ lt st fun v s1 hv st1 mv=>?_);obtain⟨z,ez,rfl⟩:=val i v hv;have zm:z∈zs:=KA ez;have al1: ∀y∈zs,IsTupleKey kn s1.heap y.1 y.2:=fun y hy=>VB (al y hy) fun o e=>mv.heap y.2 o (nw y hy) e
  have C1:SetC (tupleKind kn) nice s1.heap S xs:=C.at (fun o e=>mv.heap S o nSw e) fun y hy=>al1 y (sub y hy)
  have tk:zs.take (i+1)=zs.take i++[z]:=by rw[List.take_add_one,ez];rfl
  refine Kb (wpAny_holding ?_);unfold setAdd;refine wpAny_holding ?_;refine Kb ((tupleKind kn).pyHash (k:=z.1) hu (al1 z zm) ?_)
  have nd:(xs.map (·.1)).Nodup:=by
   obtain⟨_,_,_,_,_,_,_,_,_,T,_⟩:=C.ex;have:=T.nd;unfold zV at this;rw[show (xs.map fun y=>(tupleKind kn).hash y.1)=(xs.map (·.1)).map (tupleKind kn).hash by rw[List.map_map];rfl] at this;exact List.Pairwise.of_map _ (fun a b h e=>h (by rw[e])) this
  have go: ∀(s2:Shared) (ys:List (List K×Addr)),s2.toks=s1.toks+(tupleKind kn).draws z.1->s2.gens=s1.gens->s2.drawn=s1.drawn->s2.os=s1.os->Heap.SameBut S s1.heap s2.heap->SetC (tupleKind kn) nice s2.heap S ys->(∀y∈ys,y∈zs)->
    (∀k,(∃y∈ys,y.1=k)↔∃y∈zs.take (i+1),y.1=k)->codeAny (model prog w) A (.builtin "set.update.loop" ⟨[.ref S,.ref I],[]⟩) R s2:=fun s2 ys t1 t2 t3 t4 sb C2 sub2 mem2=>by
   obtain⟨h2,g2,d2,tk2,os2⟩:=s2;obtain⟨h1,g1,d1,tk1,os1⟩:=s1;dsimp only at t1 t2 t3 t4 sb C2;subst t2;subst t3;subst t4;have le:tk1<=tk2:=by omega
   refine ih (i+1) _ ys (by omega) lt (W.frame _ _ h2 tk2 st1 le fun b hb o e=>?_) C2 sub2 mem2 (fun y hy=>?_) fun s3 us mv3 C3 sub3 mem3=>fin s3 us (Moved.trans W.gtrans ((mv.mono up).then_heap le fun b o hb e=>?_) mv3) C3 sub3 mem3
   ·rw[sb.2 b fun e=>nS (e▸hb)];exact e
   ·by_cases e:y.2=S
    ·exfalso
     obtain⟨_,_,_,_,_,ho,ex,hd,_⟩:=C1.ex;obtain⟨o',_,_,ho',hc',_⟩:=al1 y hy;rw[e,ho] at ho';cases ho';rw[ex.1] at hc';injection hc' with hc';exact KG hc' (by decide)
    ·exact VB (al1 y hy) fun o q=>by rw[sb.2 y.2 e];exact q
   ·rw[sb.2 b fun e=>hb (by rw[e];exact Ke)];exact e
  refine ziN (knd:=tupleKind kn) (s:={ s1 with toks:=s1.toks+(tupleKind kn).draws z.1 }) (ziQ hnice) C1 hu (al1 z zm) (fun y hy e=>inj y (sub y hy) z zm e) (cap xs nd sub) (fun ok=>?_) fun nk h2 ys py C2 sb=>?_
  ·refine Kc ⟨plainId_quiet PyProof.Rows.F.plain_set_update_loop _,go _ xs rfl rfl rfl rfl (Heap.SameBut.refl _ _) C1 sub fun k=>?_⟩
   rw[mem k,tk];constructor
   ·rintro⟨y,hy,e⟩;exact⟨y,Kr _ hy,e⟩
   ·rintro⟨y,hy,e⟩
    rcases List.mem_append.mp hy with hy|hy
    ·exact⟨y,hy,e⟩
    ·rw[List.mem_singleton] at hy
     rw[hy] at e;rw[<-e];exact (mem z.1).mp ok
  ·refine Kc ⟨plainId_quiet PyProof.Rows.F.plain_set_update_loop _,go _ ys rfl rfl rfl rfl sb C2 (fun y hy=>?_) fun k=>?_⟩
   ·rcases List.mem_cons.mp (py.mem_iff.mp hy) with rfl|hy
    ·exact zm
    ·exact sub y hy
   ·rw[tk]
    constructor
    ·rintro⟨y,hy,e⟩
     rcases List.mem_cons.mp (py.mem_iff.mp hy) with rfl|hy
     ·exact⟨z,Kq _ (List.mem_singleton.mpr rfl),e⟩
     ·obtain⟨y2,h3,h4⟩:=(mem k).mp ⟨y,hy,e⟩
      exact⟨y2,Kr _ h3,h4⟩
    ·rintro⟨y,hy,e⟩
     rcases List.mem_append.mp hy with hy|hy
     ·obtain⟨y2,h3,h4⟩:=(mem k).mpr ⟨y,hy,e⟩
      exact⟨y2,py.mem_iff.mpr (Kf _ h3),h4⟩
     ·rw[List.mem_singleton] at hy
      subst hy;exact⟨_,py.mem_iff.mpr Ke,e⟩
noncomputable def vg(led:Bool):Obj:={ cls:=.type "set",dict:=none,data:=.set #[] 0 (.fresh 0 0 led) }
theorem ziS{h:Heap}{a:Addr}(e:h.get? a=some (vg (!xZ w))):SetC (tupleKind kn) nice h a []:=
 ⟨⟨_, #[],0,.fresh 0 0 (!xZ w),[],e,⟨rfl,rfl,rfl⟩,rfl,rfl,⟨ST.full7,rfl,rfl,fun i j _ a b h=>(nomatch h),rfl,fun x hx=>(nomatch hx),List.nodup_nil,Nat.zero_le _⟩,fun x hx=>(nomatch hx),Or.inl ⟨rfl,Nat.zero_le _⟩,rfl,fun _=>rfl⟩,fun z hz=>(nomatch hz)⟩
set_option maxRecDepth 100000 in
theorem ziT(a:Value){E:Value->Shared->Prop}{s:Shared}{Q₁:Value->Shared->Prop}(h:Q₁ (.ref s.heap.objs.size) { s with heap:=s.heap.push (vg (!xZ w)) }):
  codeAny (model prog w) A (.call (.builtin "set.__new__") ⟨[.type "set",a],[]⟩) (wants Q₁ E) s:=by
 refine codeAny_of_tree ?_;show wpAny _ A.in1 (do checkBuiltinCall "set.__new__" ⟨[.type "set",a],[]⟩;again (.builtin "set.__new__" ⟨[.type "set",a],[]⟩)) _ _ s;refine Kb (wpAny_of_eq (PySem.F.newCall_set_1 a) (Kc ⟨plainId_quiet PySem.F.plain_set_new _,codeAny_builtin PySem.F.entry_set_new ?_⟩));rw[Around.under_plainId PySem.F.plain_set_new _];unfold Builtin.«set.__new__» Builtin.Frozenset.newClass;have hsub:=PySem.sub_set_self;obtain⟨hp,g,d,tk,os⟩:=s;dsimp only
 wp_walk
 refine wpAny_askSetting (Kc ?_);dsimp only;simp only[newObj];refine Kb (wpAny_alloc (Kc ?_));exact Kc h
set_option maxRecDepth 100000 in
theorem ziU(hnice: ∀ks vs,nice ks->ItemsAre kn ks vs->∀v∈vs,∃i t,v=Value.int i t){E:Value->Shared->Prop}{s:Shared}{l:Addr}{items:Array Value}{zs:List (List K×Addr)}{Q:Value->Shared->Prop}(hh:A.handled=none)(hu:A.units+8<cLine)(hl:s.heap.IsList l items)
  (hz:items.toList=zs.map fun z=>.ref z.2) (al: ∀z∈zs,IsTupleKey kn s.heap z.1 z.2) (inj: ∀z∈zs,∀y∈zs,tupleKeyHash kn z.1=tupleKeyHash kn y.1->z.1=y.1) (cap: ∀xs:List (List K×Addr),(xs.map (·.1)).Nodup->(∀z∈xs,z∈zs)->xs.length<76)
  (q: ∀(h':Heap) (tk:Nat) ys,SetC (tupleKind kn) nice h' s.heap.objs.size ys->(∀z∈ys,z∈zs)->(∀k,(∃z∈ys,z.1=k)↔∃z∈zs,z.1=k)->(∀b o,b<s.heap.objs.size->s.heap.get? b=some o->h'.get? b=some o)->Q (.ref s.heap.objs.size) { s with heap:=h',toks:=tk }):
  wpAny (model prog w) A (call (.type "set") [.ref l]) Q E s:=by
 obtain⟨c,tl,m1⟩:=PySem.F.called_set.mro;have m2:=PySem.F.called_set.made;have m3:=PySem.F.called_set.sub;have m4:=PySem.F.called_set.notType;have m5:=PySem.F.called_set.canCreate;have m6:=PySem.F.typeCall_set_1 (.ref l);refine wpAny_call (codeAny_of_tree (Kc ⟨Code.quiet_builtin _ (by decide+kernel),codeAny_builtin PySem.F.entry_type_call ?_⟩));rw[Around.under_plain (weight_type_call_type "set" [.ref l] []) rfl]
 repeat (any_goals (first|assumption|wp_step))
 refine codeAny_mono (ziT (.ref l) (E:=E) (Q₁:=fun v s1=>v= .ref s.heap.objs.size/\s1={ s with heap:=s.heap.push (vg (!xZ w)) }) ⟨rfl,rfl⟩) fun r s1 hr=>?_
 cases r with
 |error e=>exact hr
 |ok f=>
 cases f with
 |next=>exact hr.elim
 |brk=>exact hr.elim
 |cont=>exact hr.elim
 |ret v=>
 obtain⟨rfl,rfl⟩:=hr;have gS:(s.heap.push (vg (!xZ w))).get? s.heap.objs.size=some (vg (!xZ w)):=Heap.get?_push_size _ rfl;have tS:Shared.TypeIs { s with heap:=s.heap.push (vg (!xZ w)) } (.ref s.heap.objs.size) "set":=⟨_,gS,rfl⟩;have i1:=PySem.F.called_set.init.lookup;have i2:=PySem.F.called_set.init.bind (.ref s.heap.objs.size)
 repeat (any_goals (first|assumption|wp_step))
 refine codeAny_mono (codeAny_call_builtin (R:=wants (fun v s2=>v= .none/\∃h' tk ys,s2={ s with heap:=h',toks:=tk }/\SetC (tupleKind kn) nice h' s.heap.objs.size ys/\(∀z∈ys,z∈zs)/\(∀k,(∃z∈ys,z.1=k)↔∃z∈zs,z.1=k)/\
   ∀b o,b<s.heap.objs.size->s.heap.get? b=some o->h'.get? b=some o) E) PySem.F.called_set.init.plain PySem.F.entry_set_init (PySem.check_set_init_1 tS ?_)) fun r2 s2 hr2=>?_
 ·obtain⟨⟨c0,d0,dt,sl⟩,gl,k1,nl,k2⟩:=hl
  dsimp only at k1 k2;subst k1;subst k2;have gl2:(s.heap.push (vg (!xZ w))).get? l=some { cls:=.type "list",dict:=d0,data:=.seq items nl,slots:=sl }:=Kn _ gl;have gS2:(s.heap.push (vg (!xZ w))).get? s.heap.objs.size=some { cls:=.type "set",dict:=none,data:=.set #[] 0 (.fresh 0 0 (!xZ w)) }:=gS;have j1:=PySem.F.sub_list_set;have j2:=PySem.F.sub_list_frozenset;have j3:(Value.type "list"==Value.type "dict")=false:=by decide
  have il:(s.heap.push (vg (!xZ w))).IsList l items:=⟨_,gl2,rfl,nl,rfl⟩;have llt:l<s.heap.objs.size:=Km gl;generalize hP:s.heap.push (vg (!xZ w))=hp at*;have hpz:hp.objs.size=s.heap.objs.size+1:=by rw[<-hP];exact Heap.size_push ..
  unfold Builtin.«set.__init__» noKeywords Builtin.Frozenset.updateFrom;generalize hI:pyIter=pI
  wp_walk
  subst hI;refine wpAny_pyIter_list il ?_;refine Kb (wpAny_runValue ?_);have ne:l≠hp.objs.size:=by rw[hpz];exact Ki (KH llt)
  have val: ∀(i:Nat) (v:Value),items[i]? =some v->∃z,zs[i]? =some z/\v= .ref z.2:=fun i v hv=>by
   rw[<-Array.getElem?_toList,hz,List.getElem?_map] at hv
   cases e:zs[i]? with
   |none=>rw[e] at hv;cases hv
   |some z=>rw[e] at hv;cases hv;exact⟨z,rfl,rfl⟩
  have old: ∀z∈zs,z.2<s.heap.objs.size:=fun z hm=>by
   obtain⟨o,_,_,e,_⟩:=al z hm;exact Km e
  have up: ∀b o,s.heap.get? b=some o->(hp.push { cls:=.type "list_iterator",data:=.fields #[.ref l,.int 0 0] }).get? b=some o:=fun b o e=>Kn _ (by rw[<-hP];exact Kn _ e)
  refine ziR (kn:=kn) (nice:=nice) hnice ((Walks.list (by simp[hh]) _ l ne items).toS) (by rw[hpz];simp only[List.mem_cons,List.not_mem_nil,or_false,not_or];exact⟨Ki (Nat.lt_succ_self _),Kk llt⟩) ?hu (zs:=zs) ?len val ?nw inj cap (items.size-0) 0 _ [] rfl (Nat.zero_le _)
   ⟨⟨_,Heap.get?_push_size _ rfl,rfl,rfl⟩,il.push _⟩ (ziS (Kn _ gS2)) (fun z hm=>(nomatch hm)) (fun k=>?mem) (fun z hm=>VB (al z hm) fun o e=>up z.2 o e) fun s' ys mv C s1 s2=>?fin
  case hu=>simp;omega
  case len=>rw[<-Array.length_toList,hz,List.length_map]
  case nw=>intro z hm;rw[hpz,List.mem_singleton];exact Ki (KH (old z hm))
  case mem=>constructor<;>(rintro⟨z,hm,_⟩;cases hm)
  case fin=>
   obtain⟨h',g',d',tk',os'⟩:=s';have e1:g'=s.gens:=mv.gens;have e2:d'=s.drawn:=mv.drawn;have e3:os'=s.os:=mv.os;subst e1;subst e2;subst e3;refine Kc ?_;refine Kc ⟨rfl,h',tk',ys,rfl,C,s1,s2,fun b o hb e=>?_⟩;refine mv.heap b o ?_ (up b o e);rw[hpz];simp only[List.mem_cons,List.not_mem_nil,or_false,not_or];exact⟨Ki hb,Ki (KH hb)⟩
 ·cases r2 with
  |error e=>exact hr2
  |ok f2=>
  cases f2 with
  |next=>exact hr2.elim
  |brk=>exact hr2.elim
  |cont=>exact hr2.elim
  |ret v2=>
  obtain⟨rfl,h',tk,ys,rfl,y1,y2,y3,y4⟩:=hr2
  repeat (any_goals (first|assumption|wp_step))
  exact q h' tk ys y1 y2 y3 y4
end
end L2.LW
set_option maxHeartbeats 4000000
namespace L2.LW
open PySem PySem.Spec PySem.W PySem.Calls PyProof.Rows
theorem vx{α:Type}[DecidableEq α]{x:α}: ∀{l:List α},x∈yV l↔x∈l
 |[]=>Iff.rfl
 |c::r=>by
  unfold yV;split
  ·rename_i h
   rw[vx,List.mem_cons];exact⟨.inr,fun z=>z.elim (fun e=>e▸h) id⟩
  ·rw[List.mem_cons,List.mem_cons,vx]
theorem Zd{α:Type}[DecidableEq α]: ∀{l:List α},(yV l).Nodup
 |[]=>List.nodup_nil
 |c::r=>by
  unfold yV;split
  ·exact Zd
  ·rename_i h
   exact List.nodup_cons.mpr ⟨fun z=>h (vx.mp z),Zd⟩
noncomputable def kC(c:Int×Int):List zy:=[Sum.inl c.1,Sum.inl c.2]
noncomputable def Ze(c:Int×Int):Prop:=0<=c.1/\c.1<=7/\0<=c.2/\c.2<=7
theorem ziV{c d:Int×Int}(e:kC c=kC d):c=d:=by
 unfold kC at e;simp only[List.cons.injEq,Sum.inl.injEq,and_true] at e;exact Prod.ext e.1 e.2
theorem zbE{l:List (Int×Int)}(nd:l.Nodup)(h: ∀c∈l,Ze c):l.length<76:=by
 have nd2:(l.map fun c=>(c.1*8+c.2).toNat).Nodup:=by
  unfold List.Nodup;rw[List.pairwise_map];refine nd.imp_of_mem fun {a b} ha hb hab z=>hab ?_
  have h1:=h a ha;have h2:=h b hb;unfold Ze at h1 h2;exact Prod.ext (by omega) (by omega)
 have lt: ∀x∈(l.map fun c=>(c.1*8+c.2).toNat),x<64:=fun x hx=>by
  obtain⟨c,hc,rfl⟩:=List.mem_map.mp hx;have:=h c hc;unfold Ze at this;omega
 have: ∀(n:Nat) (m:List Nat),m.Nodup->(∀x∈m,x<n)->m.length<=n:=fun n=>by
  induction n with
  |zero=>
   intro m _ hm
   cases m with
   |nil=>exact Kg _
   |cons x r=>exact KG (hm x (Ke ..)) (Nat.not_lt_zero _)
  |succ n ih=>
   intro m hd hm;by_cases e:n∈m
   ·have:=ih (m.erase n) (hd.erase n) fun x hx=>by
     have h1:=hm x (List.mem_of_mem_erase hx);have h2:x≠n:=fun z=>by rw[z,List.Nodup.mem_erase_iff hd] at hx;exact hx.1 rfl
     omega
    rw[List.length_erase_of_mem e] at this;omega
   ·have:=ih m hd fun x hx=>by
     have h1:=hm x hx;have h2:x≠n:=fun z=>e (z▸hx)
     omega
    omega
 have:=this 64 _ nd2 lt;rw[List.length_map] at this;omega
noncomputable def jr(a:Addr)(n:Nat):HO:=.ext fun h=>∃o es ep t,h.get? a=some o/\o.ExactSet/\o.data= .set es ep t/\t.fits es.size=true/\es.size=n
noncomputable def CL(H:Hp)(cs:List (Int×Int))(xs:List V):Prop:=Paired (fun c x=>∃a,x=V.ref a/\H a=some (.tup ((kC c).map kV))/\Ze c) cs xs
theorem SetC.nd{prog:Program}{w:World}{K:Type}[DecidableEq K]{knd:HeapKind prog w K}{nice:K->Prop}{h:Heap}{a:Addr}{xs:List (K×Addr)}(C:SetC knd nice h a xs):(xs.map (·.1)).Nodup:=by
 obtain⟨_,_,_,_,_,_,_,_,_,T,_⟩:=C.ex;have z:=T.nd;unfold zV at z;rw[show (xs.map fun y=>knd.hash y.1)=(xs.map (·.1)).map knd.hash by rw[List.map_map];rfl] at z;exact List.Pairwise.of_map _ (fun a b h e=>h (by rw[e])) z
theorem zbF{P:Program}{w:World}{H:Hp}{h:Heap}(ok:HOk P w H h): ∀{cs:List (Int×Int)} {xs:List V} {its:List Value},CL H cs xs->Vals xs its->
  ∃zs:List (List zy×Addr),its=zs.map (fun z=>.ref z.2)/\zs.map (·.1)=cs.map kC/\(∀z∈zs,IsTupleKey (xg P w) h z.1 z.2)/\(∀z∈zs,H z.2=some (.tup (z.1.map kV)))/\∀c∈cs,Ze c
 |_,_,_,.nil,.nil=>⟨[],rfl,rfl,fun z hz=>(nomatch hz),fun z hz=>(nomatch hz),fun c hc=>(nomatch hc)⟩
 |_,_,_,.cons h1 t1,.cons h2 t2=>by
  obtain⟨a,rfl,e,i8⟩:=h1;cases h2;obtain⟨zs,rfl,z2,z3,z5,z4⟩:=zbF ok t1 t2;refine⟨(kC _,a)::zs,rfl,by rw[List.map_cons,List.map_cons,z2],fun z hz=>?_,fun z hz=>?_,fun c hc=>?_⟩
  ·rcases List.mem_cons.mp hz with rfl|hz
   ·exact jG ok e
   ·exact z3 z hz
  ·rcases List.mem_cons.mp hz with rfl|hz
   ·exact e
   ·exact z5 z hz
  ·rcases List.mem_cons.mp hc with rfl|hc
   ·exact i8
   ·exact z4 c hc
noncomputable def ziW:List zy->Int×Int
 |[.inl a,.inl b]=>(a,b)
 |_=>(0,0)
section
variable {X:Cx}
noncomputable def VC(ks:List zy):Prop:=∀k∈ks,∃i,k=Sum.inl i
theorem zbG{P:Program}{w:World}: ∀(ks:List zy) (vs:List Value),VC ks->ItemsAre (xg P w) ks vs->∀v∈vs,∃i t,v=Value.int i t
 |_,_,_,.nil,v,hv=>(nomatch hv)
 |_,_,hn,.cons h t,v,hv=>by
  rcases List.mem_cons.mp hv with rfl|hv
  ·obtain⟨i,rfl⟩:=hn _ Ke
   have h:jb (Sum.inl i) v=true:=h;rcases wR h with ⟨j,u,_,e⟩|⟨x,u,e,_⟩
   ·exact⟨j,u,e⟩
   ·cases e
  ·exact zbG _ _ (fun k hk=>hn k (Kf _ hk)) t v hv
theorem ziX(hc:X.calm=true)(hu:X.A.units+8<cLine){pins:List (Addr×Obj)}{s:Shared}{σ:St}{H:Hp}{l:Addr}{xs:List V}{cs:List (Int×Int)}{Q:Value->Shared->Prop}{E:Value->Shared->Prop}(I:Inv X pins σ H s)(sq:SqL X.K H l xs)(cl:CL H cs xs)
  (q: ∀(h':Heap) (tk:Nat) (ys:List (List zy×Addr)),SetC (tupleKind (xg X.prog X.w)) VC h' s.heap.objs.size ys->(∀z∈ys,VC z.1/\H z.2=some (.tup (z.1.map kV)))->(ys.map (·.1)).Perm ((yV cs).map kC)->
   (∀b o,s.heap.get? b=some o->h'.get? b=some o)->Q (.ref s.heap.objs.size) { s with heap:=h',toks:=tk }):wpAny (model X.prog X.w) X.A (call (.type "set") [.ref l]) Q E s:=by
 obtain⟨its,vi,⟨ol,nl,hl,hcl,_,hdl⟩,_⟩:=I.list sq;obtain⟨zs,rfl,z2,z3,z5,z4⟩:=zbF I.hok cl vi
 have zc: ∀z∈zs,∃c∈cs,z.1=kC c:=fun z hz=>by
  have:z.1∈cs.map kC:=by rw[<-z2];exact List.mem_map_of_mem hz
  obtain⟨c,h1,h2⟩:=List.mem_map.mp this;exact⟨c,h1,h2.symm⟩
 have s8: ∀z∈zs,QM z.1:=fun z hz=>by
  obtain⟨c,h1,h2⟩:=zc z hz;obtain⟨i1,i2,i3,i4⟩:=z4 c h1;exact⟨c.1,c.2,h2,i1,i2,i3,i4⟩
 refine ziU (kn:=xg X.prog X.w) (nice:=VC) zbG (I.ok.hd hc) hu ⟨ol,hl,hcl,nl,hdl⟩ (zs:=zs) rfl z3 (fun z hz y hy e=>zio (s8 z hz) (s8 y hy) e) (fun ys nd sub=>?_) fun h' tk ys C sub mem keep=>?_
 ·have:=zbE (l:=ys.map fun z=>ziW z.1) (by
   unfold List.Nodup at nd⊢;rw[List.pairwise_map] at nd⊢;refine nd.imp_of_mem fun {a b} ha hb hab e=>hab ?_
   obtain⟨c,_,e1⟩:=zc a (sub a ha);obtain⟨d,_,e2⟩:=zc b (sub b hb);rw[e1,e2] at e⊢;exact congrArg kC e) (fun c hm=>by
   obtain⟨z,hz,rfl⟩:=List.mem_map.mp hm;obtain⟨c,h1,e1⟩:=zc z (sub z hz);rw[e1];exact z4 c h1)
  rw[List.length_map] at this;exact this
 ·have pm:(ys.map (·.1)).Perm ((yV cs).map kC):=by
   rw[List.perm_ext_iff_of_nodup C.nd (by
    unfold List.Nodup;rw[List.pairwise_map];exact (Zd (l:=cs)).imp fun {a b} h e=>h (ziV e))]
   intro k;have m1:=mem k;constructor
   ·intro hk
    obtain⟨y,hy,e⟩:=List.mem_map.mp hk;obtain⟨z,hz,e2⟩:=m1.mp ⟨y,hy,e⟩;obtain⟨c,h1,h2⟩:=zc z hz;exact List.mem_map.mpr ⟨c,vx.mpr h1,by rw[<-h2,e2]⟩
   ·intro hk
    obtain⟨c,h1,e⟩:=List.mem_map.mp hk;have h2:kC c∈zs.map (·.1):=by rw[z2];exact List.mem_map_of_mem (vx.mp h1)
    obtain⟨z,hz,e2⟩:=List.mem_map.mp h2;obtain⟨y,hy,e3⟩:=m1.mpr ⟨z,hz,e2.trans e⟩;exact List.mem_map.mpr ⟨y,hy,e3⟩
  refine q h' tk ys C (fun z hz=>⟨fun k hk=>?_,z5 z (sub z hz)⟩) pm fun b o e=>keep b o (Km e) e
  obtain⟨c,_,e⟩:=zc z (sub z hz);rw[e] at hk;rcases List.mem_cons.mp hk with rfl|hk
  ·exact⟨_,rfl⟩
  ·rw[List.mem_singleton] at hk
   exact⟨_,hk⟩
theorem ziY(hc:X.calm=true)(hu:X.A.units+8<cLine):CallR X (.type "set") (fun vs H Q=>∃l xs cs,vs=[.ref l]/\SqL X.K H l xs/\CL H cs xs/\∀p,H p=none->Q (.ref p) (zL H p (jr p (yV cs).length))):=by
 rintro pins s σ H vs us Q I rv ⟨l,xs,cs,rfl,sq,cl,q⟩
 cases rv with
 |cons r1 rv=>
 cases rv;cases r1;refine ziX hc hu I sq cl fun h' tk ys C _ pm keep=>?_
 have ln:ys.length=(yV cs).length:=by
  have:=pm.length_eq
  rwa [List.length_map,List.length_map] at this
 have fr:H s.heap.objs.size=none:=I.hok.fresh (Kg _);refine⟨.ref s.heap.objs.size,zL H s.heap.objs.size (jr s.heap.objs.size (yV cs).length),I.laid (t':=tk) keep (Kg _) ?_,rfl,q _ fr⟩;obtain⟨o,es,ep,t,pl,ho,ex,hd,he,T,_⟩:=C.ex;have sz:es.size=(yV cs).length:=by rw[<-Array.length_toList,he,List.length_map,ln]
 refine⟨⟨o,es,ep,t,ho,ex,hd,VA T (by rw[he];simp[zV]),sz⟩,⟨o,ho⟩,fun h1 h2 p st=>?_⟩;obtain⟨o1,es1,ep1,t1,a1,a2⟩:=p;exact⟨o1,es1,ep1,t1,st _ a1,a2⟩
theorem ziZ(ns:List Int):(firstMet (fun i=>ns.getD i 0) ns.length).Perm (yV ns):=by
 have e:(List.range ns.length).map (fun i=>ns.getD i 0)=ns:=by
  apply List.ext_getElem
  ·simp
  ·intro i h1 h2
   simp[List.getD,h2]
 unfold firstMet;rw[e]
 have key: ∀(l acc:List Int),acc.Nodup->(l.foldl step_dedup acc).Nodup/\∀x,x∈l.foldl step_dedup acc↔x∈acc\/x∈l:=fun l=>by
  induction l with
  |nil=>exact fun acc h=>⟨h,fun x=>by simp⟩
  |cons v r ih=>
   intro acc h;rw[List.foldl_cons,show step_dedup acc v=if acc.any (· ==v)=true then acc else acc++[v] from rfl];by_cases c:acc.any (· ==v)=true
   ·rw[if_pos c]
    obtain⟨h1,h2⟩:=ih acc h;refine⟨h1,fun x=>?_⟩;rw[h2,List.mem_cons];have:v∈acc:=by simpa using c
    constructor
    ·rintro (z|z)
     ·exact .inl z
     ·exact .inr (.inr z)
    ·rintro (z|rfl|z)
     ·exact .inl z
     ·exact .inl this
     ·exact .inr z
   ·rw[if_neg c]
    have nm:v∉acc:=by simpa using c
    obtain⟨h1,h2⟩:=ih (acc++[v]) (by rw[List.nodup_append];exact⟨h,by simp,fun a ha b hb=>by rw[List.mem_singleton] at hb;rw[hb];exact fun z=>nm (z▸ha)⟩);refine⟨h1,fun x=>?_⟩;rw[h2,List.mem_append,List.mem_singleton,List.mem_cons,or_assoc]
 obtain⟨h1,h2⟩:=key ns [] List.nodup_nil;rw[List.perm_ext_iff_of_nodup h1 Zd];intro x;rw[h2,vx];simp
theorem ints_are: ∀{is:List Int} {its:List Value},Vals (is.map V.int) its->IntsAre its is
 |[],_,.nil=>.nil
 |i::r,_,.cons h t=>by
  obtain⟨k,rfl⟩:=h;exact .cons i k (ints_are t)
theorem zi0(hc:X.calm=true):CallR X (.type "set") (fun vs H Q=>∃l is,vs=[.ref l]/\SqL X.K H l (is.map V.int)/\is.length<=1000/\∀p,H p=none->Q (.ref p) (zL H p (jr p (yV is).length))):=by
 rintro pins s σ H vs us Q I rv ⟨l,is,rfl,sq,le,q⟩
 cases rv with
 |cons r1 rv=>
 cases rv;cases r1;obtain⟨its,vi,⟨ol,nl,hl,hcl,_,hdl⟩,_⟩:=I.list sq;have ia:=ints_are vi;have ln:its.length=is.length:=by rw[<-vi.length,List.length_map]
 refine PySem.call_set_list (I.ok.hd hc) ⟨ol,hl,hcl,nl,hdl⟩ (ns:=is) (by simpa using ia) (by rw[List.size_toArray,ln];unfold scanBound;omega) fun h' tk S keep=>?_
 rw[show its.toArray.size=is.length by rw[List.size_toArray,ln]] at S;have fr:H s.heap.objs.size=none:=I.hok.fresh (Kg _);refine⟨.ref s.heap.objs.size,zL H s.heap.objs.size (jr s.heap.objs.size (yV is).length),I.laid (t':=tk) (fun b u e=>keep b u (Km e) e) (Kg _) ?_,rfl,q _ fr⟩;obtain⟨o,es,ep,t,ho,ex,hd,_,_,_,hf,sz⟩:=S;refine⟨⟨o,es,ep,t,ho,ex,hd,hf,sz.trans (ziZ is).length_eq⟩,⟨o,ho⟩,fun h1 h2 p st=>?_⟩;obtain⟨o1,es1,ep1,t1,a1,a2⟩:=p;exact⟨o1,es1,ep1,t1,st _ a1,a2⟩
theorem zi1(hc:X.calm=true)(hu:X.A.units+8<cLine):CallR X (.type "set") (fun vs H Q=>∃l xs n,vs=[.ref l]/\SqL X.K H l xs/\((∃cs,CL H cs xs/\n=(yV cs).length)\/∃is:List Int,xs=is.map V.int/\is.length<=1000/\n=(yV is).length)/\
  ∀p,H p=none->Q (.ref p) (zL H p (jr p n))):=by
 rintro pins s σ H vs us Q I rv ⟨l,xs,n,rfl,sq,⟨cs,cl,rfl⟩|⟨is,rfl,le,rfl⟩,q⟩
 ·exact ziY hc hu pins s σ H _ us Q I rv ⟨l,xs,cs,rfl,sq,cl,q⟩
 ·exact zi0 hc pins s σ H _ us Q I rv ⟨l,is,rfl,sq,le,q⟩
theorem zi2:CallR X (.builtin "len") (fun vs H Q=>∃p n,vs=[.ref p]/\H p=some (jr p n)/\n<2 ^ 62/\Q (.int n) H):=by
 rintro pins s σ H vs us Q I rv ⟨p,n,rfl,e,hn,q⟩
 cases rv with
 |cons r1 rv=>
 cases rv;cases r1;obtain⟨⟨o,es,ep,t,ho,ex,hd,hf,rfl⟩,_⟩:=I.hok p _ e;exact call_len_set ho ex hd hf (by omega) ⟨.int es.size,H,I.tok _,⟨_,rfl⟩,q⟩
end
theorem zbH{A:Around}{k:Nat}(hr:Room k A):A.units+8<cLine:=Nat.lt_of_le_of_lt (Nat.add_le_add_left (by decide:8<=64) _) hr.units
theorem zbI{K:Ka}{W:Addr->Prop}{H:Hp}: ∀{ds:List D} {xs:List V} {cs:List (Int×Int)},Reps K W H ds xs->jL ds=some cs->CL H cs xs
 |[],_,cs,.nil,e=>by cases e;exact .nil
 |d::ds,_,cs,.cons h t,e=>by
  simp only[jL,jo1,jo2] at e;obtain⟨c,e1,cs',e2,rfl⟩:=e;refine .cons ?_ (zbI t e2);unfold Qb at e1;split at e1
  ·rename_i a b
   split at e1
   ·rename_i i8
    cases e1
    cases h with
    |tup h r=>
     cases r with
     |cons r1 r2=>
      cases r1
      cases r2 with
      |cons r3 r4=>
       cases r3;cases r4;exact⟨_,rfl,h,i8⟩
   ·cases e1
  ·cases e1
theorem zbJ{H:Hp}: ∀{cs:List (Int×Int)} {xs:List V},CL H cs xs->∀c∈cs,Ze c
 |_,_,.nil,c,hc=>(nomatch hc)
 |_,_,.cons h t,c,hc=>by
  rcases List.mem_cons.mp hc with rfl|hc
  ·obtain⟨_,_,_,z⟩:=h;exact z
  ·exact zbJ t c hc
theorem zbK{K:Ka}{W:Addr->Prop}{H:Hp}: ∀{ds:List D} {xs:List V} {is:List Int},Reps K W H ds xs->XI ds=some is->xs=is.map V.int
 |[],_,is,.nil,e=>by cases e;rfl
 |d::ds,_,is,.cons h t,e=>by
  unfold XI at e;split at e
  ·rename_i z
   cases z
  ·rename_i i r z
   cases z;obtain⟨is',e2,rfl⟩:=jo2.mp e;cases h;rw[zbK t e2];rfl
  ·cases e
theorem zbL{α:Type}[DecidableEq α]: ∀l:List α,(yV l).length<=l.length
 |[]=>Kg _
 |c::r=>by
  unfold yV;have:=zbL r;split
  ·exact Nat.le_succ_of_le this
  ·exact Nat.succ_le_succ this
section
variable {X:Cx} {fn:Nat->List D->Option SV} {a:Expr} {ca:E} {pos p p2 pos2:Pos}
theorem zi3(hc:X.calm=true)(hu:X.A.units+8<cLine)(hg:Gl X "len")(hm:X.mg "len"=Option.none)(hg2:Gl X "set")(hm2:X.mg "set"=Option.none)(ha:IE X fn a ca)
  (h1:starEach [a] X.env=(false,eval a X.env)::starEach [] X.env) (h2:starEach [Expr.Call (.Name "set" p2) [a] [] pos2] X.env=(false,eval (Expr.Call (.Name "set" p2) [a] [] pos2) X.env)::starEach [] X.env):
  IE X fn (.Call (.Name "len" p) [.Call (.Name "set" p2) [a] [] pos2] [] pos) (.prim .nset (.cons ca .nil)):=
 .mk <| (Xr zi2 hg hm KJ (xU (qU (zi1 hc hu) hg2 hm2 PyProof.Rows.Boot.«set» (xU ha.v vG h1) (by decide) (by decide) h1 zu) vG h2) (by decide) (by decide) h2 zu).imp fun σ H Q zz3=>by
  obtain⟨W,ρ,r,hR,he,q⟩:=zz3;simp only[wY,wJ,wK,jo1,jo2] at he;obtain⟨rs,⟨r1,e1,rs',e3,rfl⟩,e4⟩:=he;cases e3;refine⟨W,ρ,r1,hR,e1,fun v1 H1 s1 f1=>?_⟩;have hsee:=Qr (.cons f1 .nil);have e5:ZS [zI r1]=some r:=e4;unfold ZS at e5;split at e5
  case h_2=>cases e5
  rename_i ds z;have z1:zI r1= .lst ds:=by simpa using z
  obtain⟨d0,ed,hs⟩:=Qi hsee;simp at ed;subst ed;rw[z1] at hs;obtain⟨l,xs,rfl,sq,rp⟩:=hs.lst;split at e5
  ·rename_i cs ec
   cases e5;have cl:=zbI rp ec;refine⟨l,xs,_,rfl,sq,.inl ⟨cs,cl,rfl⟩,fun p0 hp0=>⟨p0,_,rfl,xI,?_,q _ _ (s1.trans (yQ hp0 _)) (.val (.int _))⟩⟩;exact Nat.lt_trans (zbE (Zd (l:=cs)) fun c hm=>zbJ cl c (vx.mp hm)) (by decide)
  ·obtain⟨is,ei,er⟩:=jo1.mp e5
   split at er
   case isFalse=>cases er
   rename_i le;cases er;refine⟨l,xs,_,rfl,sq,.inr ⟨is,zbK rp ei,le,rfl⟩,fun p0 hp0=>⟨p0,_,rfl,xI,?_,q _ _ (s1.trans (yQ hp0 _)) (.val (.int _))⟩⟩;exact Nat.lt_of_le_of_lt (Kh (zbL is) le) (by decide)
end
end L2.LW
set_option maxHeartbeats 4000000
namespace L2.LW
open PySem PySem.Spec PySem.W PySem.Calls PyProof.Rows
noncomputable def VD(h:Heap)(v:Value)(k:List Int):Prop:=∃a o its n x y p q r t,v= .ref a/\h.get? a=some o/\o.cls= .type "tuple"/\o.data= .seq its n/\its.toList=[x,y]/\k=[p,q,r,t]/\xA h x [p,q]/\xA h y [r,t]
section
variable {X:Cx} {pins:List (Addr×Obj)} {σ:St} {H:Hp} {s:Shared} {W:Addr->Prop}
theorem zbM(I:Inv X pins σ H s): ∀{ds:List D} {xs:List V} {us:List Value} {ks:List (List Int)},Reps X.K W H ds xs->Vals xs us->prs? ds=some ks->Paired (VD s.heap) us ks
 |[],_,_,ks,.nil,r,e=>by cases r;cases e;exact .nil
 |d::ds,_,_,ks,.cons h t,r,e=>by
  unfold prs? at e;split at e
  ·rename_i z;cases z
  ·rename_i a b c d' r' z
   cases z;obtain⟨ks',e2,rfl⟩:=jo2.mp e
   cases r with
   |cons r1 r2=>
    refine .cons ?_ (zbM I t r2 e2)
    cases h with
    |tup hh rr=>
     cases r1;obtain⟨its,rv,⟨o,ho,hc,n,hd⟩,_⟩:=I.tuple (.of hh);have pt:=QL I rr rv (ks:=[[a,b],[c,d']]) rfl
     cases pt with
     |cons p1 pt=>
      cases pt with
      |cons p2 pt=>
       cases pt;exact⟨_,o,_,n,_,_,a,b,c,d',rfl,ho,hc,hd,rfl,rfl,p1,p2⟩
  ·cases e
theorem zbN{P:Program}{w:World}{h:Heap}{a:Addr}{k:List Int}(z:xA h (.ref a) k):IsTupleKey (intKind P w) h k a:=by
 obtain⟨a',o,its,n,e,h1,h2,h3,h4⟩:=z;cases e;refine⟨o,its,n,h1,h2,h3,?_⟩;generalize its.toList=l at h4
 induction h4 with
 |nil=>exact .nil
 |cons i t _ ih=>exact .cons (intKind_is _ _ _ _) ih
theorem zi4{P:Program}{w:World}{A:Around}{Q:Bool->Shared->Prop}{s:Shared}{x1 y1 x2 y2:Value}{p q r t p' q' r' t':Int}(hu:A.units<cLine)(a1:xA s.heap x1 [p,q])(b1:xA s.heap y1 [r,t])(a2:xA s.heap x2 [p',q'])(b2:xA s.heap y2 [r',t'])
  (z:Q (LW.lexLt [p,q,r,t] [p',q',r',t']) s):KatLex P w A false false Q ([x1,y1].zip [x2,y2]) 0 s:=by
 have lt: ∀{v v':Value} {k k':List Int} {Q1:Bool->Shared->Prop},xA s.heap v k->xA s.heap v' k'->Q1 (LW.lexLt k k') s->wpAny (model P w) A (oneLt' false v v') Q1 (fun _ _=>False) s:=fun {v v' k k' Q1} h h' z1=>by
  obtain⟨c,o,its,n,rfl,g1,g2,g3,g4⟩:=h;obtain⟨c',o',its',n',rfl,g1',g2',g3',g4'⟩:=h';refine kat_one _ _ (HT.lt_tupInts ⟨o,g1,g2,n,g3⟩ ⟨o',g1',g2',n',g3'⟩ g4 g4' hu ?_);rw[<-XW];exact z1
 have eq: ∀{v v':Value} {k k':List Int} {Q1:Bool->Shared->Prop},xA s.heap v k->xA s.heap v' k'->Q1 (decide (k=k')) s->wpAny (model P w) A (eqBool v v') Q1 (fun _ _=>False) s:=fun {v v' k k' Q1} h h' z1=>by
  have h0:=h;have h0':=h';obtain⟨c,_,_,_,rfl,_⟩:=h;obtain⟨c',_,_,_,rfl,_⟩:=h';exact wpAny_eqBool_tuple (knd:=intKind P w) hu (zbN h0) (zbN h0') z1
 refine kat_cons (eq a1 a2 ?_);by_cases e:([p,q]:List Int)=[p',q']
 ·rw[decide_eq_true e]
  refine kat_yes (kat_cons (eq b1 b2 ?_));simp only[List.cons.injEq,and_true] at e;obtain⟨rfl,rfl⟩:=e;by_cases e2:([r,t]:List Int)=[r',t']
  ·rw[decide_eq_true e2]
   simp only[List.cons.injEq,and_true] at e2;obtain⟨rfl,rfl⟩:=e2;refine kat_yes (kat_nil ?_);rw[ve] at z;exact z
  ·rw[KKq e2]
   refine kat_no (lt b1 b2 ?_);rw[LW.lexLt,if_pos rfl,LW.lexLt,if_pos rfl] at z;exact z
 ·rw[KKq e]
  refine kat_no (lt a1 a2 ?_)
  have:LW.lexLt [p,q] [p',q']=LW.lexLt [p,q,r,t] [p',q',r',t']:=by
   simp only[LW.lexLt];by_cases e1:p=p'
   ·have e2:q≠q':=fun z=>e (by rw[e1,z])
    simp[e1,e2]
   ·simp[e1]
  rw[this];exact z
theorem zbO: ∀{ds:List D} {ks:List (List Int)},prs? ds=some ks->ds=ks.map jK
 |[],ks,e=>by cases e;rfl
 |d::ds,ks,e=>by
  unfold prs? at e;split at e
  ·rename_i z;cases z
  ·rename_i a b c d' r' z
   cases z;obtain⟨ks',e2,rfl⟩:=jo2.mp e;rw[zbO e2];rfl
  ·cases e
theorem zbP{h:Heap}: ∀{us:List Value} {ks:List (List Int)},Paired (VD h) us ks->∃fs,KatTups h us fs/\fs.length=us.length/\∀v∈fs,∃k,xA h v k
 |_,_,.nil=>⟨[],.nil,rfl,fun _ z=>by cases z⟩
 |_,_,.cons hx t=>by
  obtain⟨fs,h1,h2,h3⟩:=zbP t;obtain⟨a,o,its,n,x,y,p,q,r,t',rfl,ho,hc,hd,hi,hk,g1,g2⟩:=hx;refine⟨x::fs,.cons ho hc hd (by rw[<-Array.getElem?_toList,hi];rfl) h1,by simp[h2],fun v hv=>?_⟩;rcases List.mem_cons.mp hv with rfl|hv
  ·exact⟨_,g1⟩
  ·exact h3 v hv
theorem zi5(hu:X.A.units+8<cLine):CallR X (.builtin "sorted") (VR X.K (zh .sortP)):=by
 rintro pins s σ H xs us Q I rv ⟨W,ds,r,wf,hs,hf,q⟩;replace hf:ZR ds=some r:=hf;unfold ZR at hf;split at hf
 case h_2=>cases hf
 rename_i l;rw[jo1] at hf;obtain⟨ks,e1,hf⟩:=hf;split at hf
 case isFalse=>cases hf
 rename_i hcond;cases hf;obtain⟨h64,hnd⟩:=hcond
 cases hs with
 |cons h1 t=>
  cases t;obtain⟨p,ys,rfl,hp,rp⟩:=h1.lst;obtain⟨u,rfl,ru⟩:=wT rv;cases ru;obtain⟨its,rv',pl,hz⟩:=I.list hp;have hT:=zbM I rp rv' e1;have hlen:its.length=ks.length:=Paired.length hT;have hl2:=rp.length;have hl3:=rv'.length
  let r:Nat->Int:=fun i=>xr ks (ks.getD i [])
  have memk: ∀i,i<its.length->ks.getD i []∈ks:=fun i hi=>by
   rw[yF (x:=ks[i]'(by omega)) (by simp)];exact Kv _
  have injk: ∀i j,i<its.length->j<its.length->i≠j->ks.getD i []≠ks.getD j []:=fun i j hi hj ne e=>by
   rw[yF (x:=ks[i]'(by omega)) (by simp),yF (x:=ks[j]'(by omega)) (by simp)] at e;exact ne ((List.getElem_inj hnd).mp e)
  have vQ: ∀{h':Heap},(∀b o,s.heap.get? b=some o->h'.get? b=some o)->∀{v:Value} {k:List Int},VD s.heap v k->VD h' v k:=by
   intro h' hk v k ⟨a,o,its,n,x,y,p,q,r,t,h1,h2,h3,h4,h5,h6,⟨a1,o1,i1,n1,g1,g2,g3⟩,⟨a2,o2,i2,n2,g4,g5,g6⟩⟩;exact⟨a,o,its,n,x,y,p,q,r,t,h1,hk _ _ h2,h3,h4,h5,h6,⟨a1,o1,i1,n1,g1,hk _ _ g2,g3⟩,⟨a2,o2,i2,n2,g4,hk _ _ g5,g6⟩⟩
  refine za8 (κ:=tuples' (Value.type "tuple" != Value.type "tuple")) (r:=r) pl.isList (by omega) (fun i j hi hj ne e=>?_) (fun h2 h' tk hk=>?_) (fun i j h' tk C hi hj hk qC=>?_) fun pm tk hpm hup=>?_
  ·rcases Yi (injk i j hi hj ne) with z|z
   ·have:=Zc (memk i hi) z
    have e:xr ks (ks.getD i [])=xr ks (ks.getD j []):=e;omega
   ·have:=Zc (memk j hj) z
    have e:xr ks (ks.getD i [])=xr ks (ks.getD j []):=e;omega
  ·obtain⟨fs,f1,f2,f3⟩:=zbP (Paired.imp' (fun v k z=>vQ hk z) hT)
   exact kat_kind (s:={ s with heap:=h',toks:=tk }) f1 (by omega) (fun v hv=>by
    obtain⟨k,a,o,i1,n,rfl,g1,g2,_⟩:=f3 v hv;exact g2▸(Looks.ld g1).andThen .now) (by simp) ⟨rfl,tk,rfl⟩
  ·obtain⟨x1,k1,a1,a2,a3⟩:=Yk hT hi
   obtain⟨x2,k2,b1,b2,b3⟩:=Yk hT hj;rw[yF a1,yF b1];obtain⟨a,o,i1,n,u1,u2,w1,w2,w3,w4,rfl,c1,c2,c3,c4,c5,c6,c7⟩:=vQ hk a3;obtain⟨b,o',i2,n',u1',u2',w1',w2',w3',w4',rfl,d1,d2,d3,d4,d5,d6,d7⟩:=vQ hk b3
   have er:decide (r i<r j)=LW.lexLt k1 k2:=by
    show decide (xr ks (ks.getD i [])<xr ks (ks.getD j []))=_;by_cases e:i=j
    ·subst e
     rw[a2] at b2;cases b2;rw[ve];simp
    ·have:=Vx (memk i hi) (memk j hj) (injk i j hi hj e)
     rw[yF a2,yF b2] at this;rw[yF a2,yF b2];exact this
   rw[er] at qC;refine kat_lt (s:={ s with heap:=h',toks:=tk }) c1 c3 d1 d3 ?_;have sz:decide (i1.size<i2.size)=false:=by rw[<-Array.length_toList,<-Array.length_toList,c4,d4];rfl
   rw[sz,c4,d4];subst c5;subst d5;exact zi4 (s:={ s with heap:=h',toks:=tk }) (show X.A.in1.in1.units<cLine by simp;omega) c6 c7 d6 d7 (qC tk)
  ·obtain⟨e,he⟩:=sortedAll_at s.heap its (pm.toList.map fun i=>its.getD i Value.none).toArray
   have hlt: ∀i∈pm.toList,i<its.length:=fun i hi=>by
    have:=(Array.perm_iff_toList_perm.mp hpm.perm).mem_iff.mp hi;simpa using this
   have fr:H (s.heap.objs.size+1)=Option.none:=I.hok.fresh (Kl _)
   have hperm:(pm.toList.map fun i=>ks.getD i []).Perm ks:=by
    have h1:=(Array.perm_iff_toList_perm.mp hpm.perm).map fun i=>ks.getD i []
    refine h1.trans (List.Perm.of_eq ?_);apply List.ext_getElem
    ·simp[hlen]
    ·intro i h1 h2;simp at h1;simp[h1,h2]
   have hupk:(pm.toList.map fun i=>ks.getD i []).Pairwise wz:=by
    rw[List.pairwise_iff_getElem];intro i j hi hj hij;rw[List.length_map,Array.length_toList,hpm.size] at hi hj;have h1:=hup i j hij (by omega);have li:=hpm.lt i hi;have lj:=hpm.lt j hj;simp only[List.getElem_map,Array.getElem_toList];have gi:pm.getD i 0=pm[i]'(by rw[hpm.size];exact hi):=by simp[Array.getD,hpm.size,hi]
    have gj:pm.getD j 0=pm[j]'(by rw[hpm.size];exact hj):=by simp[Array.getD,hpm.size,hj]
    unfold kk at h1;rw[gi] at h1 li;rw[gj] at h1 lj;have hne:pm[i]'(by rw[hpm.size];exact hi)≠pm[j]'(by rw[hpm.size];exact hj):=fun z=>by rw[z] at h1;omega
    have:=Vx (memk _ li) (memk _ lj) (injk _ _ li lj hne);show LW.lexLt _ _=true;rw[<-this,decide_eq_true_iff];exact h1
   have heq:(pm.toList.map fun i=>ks.getD i [])=wW ks:=QK (hperm.trans (Yj ks).symm) hupk (Vw hnd)
   have hds:(pm.toList.map fun i=>l.getD i .non)=(wW ks).map jK:=by
    rw[<-heq,List.map_map];apply List.map_congr_left;intro i hi;have hi':=hlt i hi;rw[zbO e1];show (ks.map jK).getD i .non=jK (ks.getD i []);rw[yF (x:=jK (ks[i]'(by omega))) (by simp[show i<ks.length by omega]),yF (x:=ks[i]'(by omega)) (by simp)]
   have hrep:=zbd rp pm.toList fun i hi=>by have:=hlt i hi;omega
   rw[hds] at hrep;have hvals:=zbc rv' pm.toList fun i hi=>hlt i hi
   refine⟨.ref (s.heap.objs.size+1),zL H (s.heap.objs.size+1) (.lst (pm.toList.map fun i=>ys.getD i .non)),I.laid (t':=tk) (fun _ _=>sortedAll_old) (Kl _) ⟨?_,_,e,hvals,?_⟩,rfl,q _ _ (yQ fr _) (vJ fr hrep)⟩
   ·rw[List.length_map,Array.length_toList,hpm.size];exact Nat.le_of_lt (ZN (by omega))
   ·simpa [seqObj] using he
end
end L2.LW
set_option maxHeartbeats 4000000
namespace L2.LW
open PySem PySem.Spec PySem.W PySem.Calls PyProof.Rows
noncomputable def SIt(h:Heap)(it d:Addr)(sl i n ep:Nat):Prop:=
 ∃o,h.get? it=some o/\o.cls= .type "set_iterator"/\o.data= .fields #[.int sl 0,.int i 0,.ref d,.int n 0,.int ep 0]
theorem SIt.typeIs{s:Shared}{it d:Addr}{sl i n ep:Nat}(x:SIt s.heap it d sl i n ep):s.TypeIs (.ref it) "set_iterator":=by
 obtain⟨o,ho,hc,_⟩:=x;exact⟨o,ho,hc⟩
end L2.LW
set_option maxHeartbeats 4000000
set_option maxHeartbeats 4000000
namespace L2.LW
open PySem PySem.Spec PyProof.Rows
section
variable {X:Cx} {fn:Nat->List D->Option SV} {fa:Nat->List D->Option Ans} {fuel:Nat} {a b c e:Expr} {ca cb cc ce:E} {m:M} {pos p:Pos}
theorem zi6{op:CmpOp}{pr:Prim}(ho:OpR X (compareOp op) (yL X.K (zh pr)))(ha:IE X (zC fa) a ca)(hb:IM X fa b m)(hm:behindInMarks op b=false):IM X fa (.Compare a [op] [b] pos) (.op pr ca m):=
 .mk <| (qJ ho ha.v hb.h hm).imp fun σ H Q zz3=>by
  obtain⟨W,ρ,r,ρ',hR,h,q⟩:=zz3;simp only[Qg,jo1] at h;obtain⟨x,e1,e2⟩:=h;split at e2
  ·rename_i d
   split at e2
   ·rename_i hp
    simp only[jo1,jo2] at e2;obtain⟨⟨y,ρ2⟩,e3,z,e4,e5⟩:=e2;cases e5;refine⟨W,ρ,_,hR,e1,fun v1 H1 s1 f1=>⟨W,ρ,y,_,hR.same s1,e3,fun v2 H2 p2 r2=>?_⟩⟩;have p0:=(SPost.same hR s1).trans p2 hR
    cases f1 with
    |val f1=>
    refine QG p0.wf' (((f1.plain (W':=W) hp)).ext (p2.ext (hR.same s1))) (r2.frz (hR.same s1).wf) e4 fun v H3 s3 r3=>?_
    exact q v H3 (p0.trans (SPost.same p0.r s3) hR) (r3.backP p0 hR)
   ·cases e2
  ·cases e2
theorem zi7{pos':Pos}(hc:IE X (zC fa) c cc)(hm:IM X fa b m):IS X (zJ fa fuel (.retO cc m)) (.Return (some (.BoolOp .Or [c,b] pos')) pos):=
 .mk <| (JD (ze8 hc.h (qB hm.h))).imp fun D σ H zz3=>by
  obtain⟨W,ρ,y,hR,hy,q⟩:=zz3;simp only[gR,jo1] at hy;obtain⟨r,e1,e2⟩:=hy;refine⟨W,ρ,r,hR,e1,fun v H1 s1 f=>?_⟩;split at e2
  ·cases f with
   |val h=>
    cases h;cases e2;exact⟨true,rfl,by rw[if_pos rfl];exact q W σ H1 (.same hR s1) _ (.val (.bl true))⟩
  ·cases f with
   |val h=>
    cases h;rw[jo1] at e2;obtain⟨⟨z,ρ'⟩,e3,e4⟩:=e2;split at e4
    ·rename_i d hz
     replace hz:z= .val d:=hz;subst hz;split at e4
     ·rename_i hp
      cases e4
      refine⟨false,rfl,by
       rw[if_neg Ko];refine⟨W,ρ,_,ρ',hR.same s1,e3,fun v H2 p2 h2=>?_⟩
       cases h2 with
       |val h2=>exact q W σ H2 ((SPost.same hR s1).trans p2 hR) v (.val h2)⟩
     ·cases e4
    ·cases e4
  ·cases e2
end
end L2.LW
set_option maxHeartbeats 4000000
namespace L2.LW
open PySem PySem.Spec PySem.W PySem.Calls PyProof.Rows
theorem zbQ{P:Program}{w:World}{H:Hp}{h:Heap}{a:Addr}{ks:List Int}(ok:HOk P w H h)(e:H a=some (.tup (ks.map V.int)))(P':Program)(w':World):IsTupleKey (intKind P' w') h ks a:=by
 obtain⟨_,its,r,o,h1,h2,n,h3⟩:=(show ObjOk P w H h a (.tup (ks.map V.int)) from ok a _ e);exact⟨o,its.toArray,n,h1,h2,h3,by simpa using L2.ints_are r⟩
theorem zbR: ∀{a b:List Int},a.map V.int=b.map V.int->a=b
 |[],[],_=>rfl
 |[],_::_,h=>by simp at h
 |_::_,[],h=>by simp at h
 |x::a,y::b,h=>by
  simp only[List.map_cons,List.cons.injEq,V.int.injEq] at h;rw[h.1,zbR h.2]
open Classical in
noncomputable def VE(H:Hp)(k:List Int)(u:Value):Bool:=decide (∃c,u= .ref c/\H c=some (.tup (k.map V.int)))
theorem zbS{H:Hp}{k ks:List Int}{c:Addr}(h:H c=some (.tup (ks.map V.int))):VE H k (.ref c)=decide (ks=k):=by
 unfold VE;rw[decide_eq_decide];constructor
 ·rintro⟨c',e,h'⟩
  cases e;rw[h] at h';injection h' with h';injection h' with h';exact zbR h'
 ·rintro rfl
  exact⟨c,rfl,h⟩
theorem zbT{H:Hp}{k:List Int}: ∀{kss:List (List Int)} {xs:List V} {us:List Value},Paired (fun (ks:List Int) (v:V)=>∃c,v= .ref c/\H c=some (.tup (ks.map V.int))) kss xs->Vals xs us->us.countP (VE H k)=kss.countP fun y=>decide (y=k)
 |_,_,_,.nil,r=>by cases r;rfl
 |_,_,_,.cons h t,r=>by
  cases r with
  |cons r1 r2=>
   obtain⟨c,rfl,hc⟩:=h;cases r1;rw[List.countP_cons,List.countP_cons,zbT t r2,zbS hc]
theorem zbU{H:Hp}{u:Value}: ∀{kss:List (List Int)} {xs:List V} {us:List Value},Paired (fun (ks:List Int) (v:V)=>∃c,v= .ref c/\H c=some (.tup (ks.map V.int))) kss xs->Vals xs us->u∈us->∃(ks:List Int) (c:Addr),u= .ref c/\H c=some (.tup (ks.map V.int))
 |_,_,_,.nil,r,hu=>by cases r;cases hu
 |_,_,_,.cons h t,r,hu=>by
  cases r with
  |cons r1 r2=>
   obtain⟨c,rfl,hc⟩:=h;cases r1;rcases List.mem_cons.mp hu with rfl|hu
   ·exact⟨_,_,rfl,hc⟩
   ·exact zbU t r2 hu
section
variable {X:Cx} {fn:Nat->List D->Option SV} {a b e:Expr} {ca ce:E} {pos:Pos}
theorem zi8(hu:X.A.units+64<cLine):MtR X "list.count" (fun x xs H Q=>∃y,xs=[y]/\VR X.K (zh .count) [x,y] H Q):=by
 rintro pins s σ H x xs v us Q I rx rs ⟨y,rfl,W,ds,r,wf,hs,hf,q⟩;obtain⟨d,d2,rfl,h1,h2⟩:=xR hs;obtain⟨u,rfl,ru⟩:=wT rs;replace hf:jM [d,d2]=some r:=hf;unfold jM at hf;split at hf
 case h_2=>cases hf
 rename_i l m z;cases z;simp only[jo1] at hf;obtain⟨kss,e1,k,e2,hf⟩:=hf;cases hf;obtain⟨a,ys,rfl,hl,rp⟩:=h1.lst;obtain⟨b,zs,rfl,hb,rpb⟩:=h2.tupH;have z1:=rpb.ofInts e2;subst z1;cases rx;cases ru;have pk:=Qp rp e1;obtain⟨its,rv,⟨o,n,ho,hc,hdd,hd⟩,hz⟩:=I.list hl
 have ho':s.heap.get? a=some { cls:=.type "list",dict:=o.dict,data:=.seq its.toArray n,slots:=o.slots }:=by
  rw[ho];cases o;simp only at hc hd;subst hc hd;rfl
 refine call_meets PySem.F.slot_list_count ⟨o,ho,hc⟩ PySem.F.entry_list_count (PySem.F.args_list_count_2 _ _) (SeqAt.list_countAt a its.toArray n o.dict o.slots (.ref b) (VE H k)) ⟨ho',fun y hy=>?_,?_⟩
 ·obtain⟨ks,c,rfl,hc'⟩:=zbU pk rv (by simpa using hy)
  intro P' w' E' Q' hq;rw[zbS hc'] at hq;exact wpAny_eqBool_tuple (knd:=intKind P' w') (by show X.A.units+1<cLine;omega) (zbQ I.hok hc' P' w') (zbQ I.hok hb P' w') hq
 ·rw[List.toList_toArray,zbT pk rv]
  exact⟨.int _,H,I.tok _,⟨_,rfl⟩,q _ H (.refl H) (.val (.int _))⟩
theorem zi9{apos cpos:Pos}(hu:X.A.units+64<cLine)(ha:IE X fn a ca)(he:IE X fn e ce)(hst:starEach [e] X.env=(false,eval e X.env)::starEach [] X.env)
  (hbase:attributeBase a "count" X.env (eval a X.env)=eval a X.env:=by rfl) (hline:(apos.endLine==cpos.line)=true:=by rfl):
  IE X fn (.Call (.Attribute a "count" apos) [e] [] cpos) (.prim .count (.cons ca (.cons ce .nil))):=
 .mk <| (gr PySem.F.plainAttrs_list PySem.F.slot_list_count PySem.F.type_list_count (zi8 hu) ha.v (xU he.v vG hst) hbase (by rw[hst];rfl) hline hst zu).imp fun σ H Q zz3=>by
  obtain⟨W,ρ,r,hR,he,q⟩:=zz3;simp only[wY,wJ,wK,jo1,jo2] at he;obtain⟨rs,⟨r1,e1,rs',⟨r2,e2,rs'',e3,rfl⟩,rfl⟩,e4⟩:=he;cases e3;refine⟨W,ρ,r1,hR,e1,fun v1 H1 s1 f1=>⟨?_,W,ρ,r2,hR.same s1,e2,fun v2 H2 s2 f2=>⟨v2,rfl,Va hR (s1.trans s2) (.cons (f1.same s2) (.cons f2 .nil)) e4 q⟩⟩⟩;have e5:jM [zI r1,zI r2]=some r:=e4;unfold jM at e5;split at e5
  case h_2=>cases e5
  rename_i l m z;have z1:zI r1= .lst l:=by simp at z;exact z.1
  have hs:=f1.sees;rw[z1] at hs;obtain⟨p,xs,rfl,hp,_⟩:=hs.lst;exact .inl ⟨rfl,xs,hp⟩
end
end L2.LW
namespace L2.LW
open PySem
section
variable {fn:Nat->List D->Option SV} {fa:Nat->List D->Option Ans} {fuel:Nat} {ρ:Env}
@[simp] theorem zoF{i:Int}:zi fn (.int i) ρ=some (.val (.int i)):=rfl
@[simp] theorem zoG{i:Bool}:zi fn (.bl i) ρ=some (.val (.bl i)):=rfl
@[simp] theorem zoH:zi fn .non ρ=some (.val .non):=rfl
@[simp] theorem zoI{i:Str}:zi fn (.str i) ρ=some (.val (.str i)):=rfl
@[simp] theorem zbV{i:Nat}:zi fn (.var i) ρ=look ρ i:=rfl
@[simp] theorem zoJ{p:Prim}{es:Es}:zi fn (.prim p es) ρ=(zZ fn es ρ).bind fun rs=>zh p (rs.map zI):=rfl
@[simp] theorem zoK{es:Es}:zi fn (.tup es) ρ=(zZ fn es ρ).bind fun rs=>(xD rs).map fun ds=>.val (.tup ds):=rfl
@[simp] theorem zoL{es:Es}:zi fn (.lst es) ρ=(zZ fn es ρ).bind fun rs=>(xD rs).map fun ds=>.obj true (.lst ds):=rfl
noncomputable def QV(r:SV)(k:Option SV):Option SV:=match r with
 | .val (.bl true)=>k
 | .val (.bl false)=>some (.val (.bl false))
 |_=>none
noncomputable def zbW(r:SV)(k:Option SV):Option SV:=match r with
 | .val (.bl true)=>some (.val (.bl true))
 | .val (.bl false)=>k
 |_=>none
noncomputable def zbX(r:SV):Option SV:=match r with
 | .val (.bl b)=>some (.val (.bl (!b)))
 |_=>none
@[simp] theorem zoM{b:Bool}{k:Option SV}:QV (.val (.bl b)) k=if b then k else some (.val (.bl false)):=by cases b<;>rfl
@[simp] theorem zoN{b:Bool}{k:Option SV}:zbW (.val (.bl b)) k=if b then some (.val (.bl true)) else k:=by cases b<;>rfl
@[simp] theorem zoO{b:Bool}:zbX (.val (.bl b))=some (.val (.bl (!b))):=rfl
@[simp] theorem zoP{a b:E}:zi fn (.and a b) ρ=(zi fn a ρ).bind fun r=>QV r (zi fn b ρ):=rfl
@[simp] theorem zoQ{a b:E}:zi fn (.or a b) ρ=(zi fn a ρ).bind fun r=>zbW r (zi fn b ρ):=rfl
@[simp] theorem zoR{a:E}:zi fn (.not a) ρ=(zi fn a ρ).bind zbX:=rfl
@[simp] theorem zoS{p q:Prim}{a b c:E}:zi fn (.chain p q a b c) ρ=(zi fn a ρ).bind fun x=>(zi fn b ρ).bind fun y=>(zh p [zI x,zI y]).bind fun z=>QV z ((zi fn c ρ).bind fun w=>zh q [zI y,zI w]):=rfl
@[simp] theorem zoT{c a b:E}:zi fn (.ite c a b) ρ=(zE fn c ρ).bind fun k=>if k then zi fn a ρ else zi fn b ρ:=rfl
@[simp] theorem zoU{f:Nat}{es:Es}:zi fn (.call f es) ρ=(zZ fn es ρ).bind fun rs=>wc rs (fn f (rs.map zI)):=rfl
theorem zja{g:Bool}{src:Es}{cond elt:E}:zi fn (.comp g src cond elt) ρ=(zZ fn src ρ).bind fun rs=>(yf g rs).bind fun ds=>
  if ds.length<=line then (xy (fun d=>zE fn cond (some (.val d)::ρ)) (fun d=>zi fn elt (some (.val d)::ρ)) ds).map fun l=>.obj true (.lst l) else none:=rfl
@[simp] theorem zoV{t:Bool}:zi fn (.dnew t) ρ=some (.obj true (.dct t [] [])):=rfl
@[simp] theorem zoW{t:Bool}{k v:E}:zi fn (.done t k v) ρ=(zi fn k ρ).bind fun x=>(zi fn v ρ).bind fun y=>(toD x).bind fun a=>(toD y).bind fun b=>if yK t a then some (.obj true (.dct t [a] [b])) else none:=rfl
theorem zbY{g:Bool}{src:Es}{cond elt:E}:zE fn (.comp g src cond elt) ρ=(zi fn (.comp g src cond elt) ρ).bind ye:=by
 rw[gI,XM]
 cases zZ fn src ρ with
 |none=>rfl
 |some rs=>
  simp only[Option.bind_some]
  cases yf g rs with
  |none=>rfl
  |some ds=>
   simp only[Option.bind_some];split
   ·cases xy (fun d=>zE fn cond (some (.val d)::ρ)) (fun d=>zi fn elt (some (.val d)::ρ)) ds<;>rfl
   ·rfl
@[simp] theorem zbZ:zZ fn .nil ρ=some []:=rfl
@[simp] theorem zb0{e:E}{es:Es}:zZ fn (.cons e es) ρ=(zi fn e ρ).bind fun r=>(zZ fn es ρ).map (r:: ·):=rfl
@[simp] theorem zoX{a b:E}:zE fn (.and a b) ρ=(zE fn a ρ).bind fun k=>if k then zE fn b ρ else some false:=rfl
@[simp] theorem zoY{a b:E}:zE fn (.or a b) ρ=(zE fn a ρ).bind fun k=>if k then some true else zE fn b ρ:=rfl
@[simp] theorem zoZ{a:E}:zE fn (.not a) ρ=(zE fn a ρ).map (!·):=rfl
@[simp] theorem zo0{i:Int}:zE fn (.int i) ρ=some (i != 0):=rfl
@[simp] theorem zjb{i:Bool}:zE fn (.bl i) ρ=some i:=rfl
@[simp] theorem zo1{i:Nat}:zE fn (.var i) ρ=(look ρ i).bind ye:=rfl
@[simp] theorem zo2{p:Prim}{es:Es}:zE fn (.prim p es) ρ=(zZ fn es ρ).bind fun rs=>(zh p (rs.map zI)).bind ye:=rfl
@[simp] theorem zo3{f:Nat}{es:Es}:zE fn (.call f es) ρ=(zZ fn es ρ).bind fun rs=>(wc rs (fn f (rs.map zI))).bind ye:=rfl
noncomputable def zb1(r:SV)(k:Option Bool):Option Bool:=match r with
 | .val (.bl true)=>k
 | .val (.bl false)=>some false
 |_=>none
@[simp] theorem zo4{b:Bool}{k:Option Bool}:zb1 (.val (.bl b)) k=if b then k else some false:=by cases b<;>rfl
@[simp] theorem zo5{p q:Prim}{a b c:E}:zE fn (.chain p q a b c) ρ=(zi fn a ρ).bind fun x=>(zi fn b ρ).bind fun y=>(zh p [zI x,zI y]).bind fun z=>zb1 z ((zi fn c ρ).bind fun w=>(zh q [zI y,zI w]).bind ye):=rfl
@[simp] theorem zo6{e:E}:zJ fa fuel (.expr e) ρ=(zi (zC fa) e ρ).map fun _=>(.nx,ρ):=rfl
@[simp] theorem zjc{i:Nat}{e:E}:zJ fa fuel (.asg i e) ρ=(zi (zC fa) e ρ).bind fun r=>if r.lent|| !free ρ i then none else some (.nx,ρ.set i (some r)):=rfl
noncomputable def zX:Option (Option SV)->Bool
 |some (some (.io _))=>false
 |_=>true
@[simp] theorem zb2{i:Nat}:free ρ i=zX ρ[i]? :=by
 unfold free zX;rcases h:ρ[i]? with _|_|(d|⟨o,d⟩|d)<;>rfl
@[simp] theorem zo7:zX none=true:=rfl
@[simp] theorem zo8:zX (some none)=true:=rfl
@[simp] theorem wA{d:D}:zX (some (some (.val d)))=true:=rfl
@[simp] theorem zo9{o:Bool}{d:D}:zX (some (some (.obj o d)))=true:=rfl
noncomputable def QW(ρ:Env)(i j:Nat):Option (Option SV)->Option (Fl×Env)
 |some (some (.val d))=>some (.nx,ρ.set i (some (.val d)))
 |some (some (.obj _ d))=>some (.nx,(ρ.set j (some (.val d))).set i (some (.val d)))
 |_=>none
@[simp] theorem zpa{i j:Nat}{d:D}:QW ρ i j (some (some (.val d)))=some (.nx,ρ.set i (some (.val d))):=rfl
@[simp] theorem zpb{i j:Nat}{o:Bool}{d:D}:QW ρ i j (some (some (.obj o d)))=some (.nx,(ρ.set j (some (.val d))).set i (some (.val d))):=rfl
@[simp] theorem zpc{i j:Nat}:zJ fa fuel (.mov i j) ρ=if free ρ i then QW ρ i j ρ[j]? else none:=by
 rw[gN];rcases h:ρ[j]? with _|_|(d|⟨o,d⟩|d)<;>rfl
noncomputable def VF(ρ:Env)(j:Nat):Option (Option SV)->Option (List D×Env)
 |some (some (.val d))=>(wV d).map fun l=>(l,ρ)
 |some (some (.obj _ (.lst ds)))=>some (ds,ρ.set j (some (.val (.lst ds))))
 |_=>none
@[simp] theorem zpd{j:Nat}{d:D}:VF ρ j (some (some (.val d)))=(wV d).map fun l=>(l,ρ):=rfl
@[simp] theorem zpe{j:Nat}{o:Bool}{ds:List D}:VF ρ j (some (some (.obj o (.lst ds))))=some (ds,ρ.set j (some (.val (.lst ds)))):=rfl
@[simp] theorem zpf{j:Nat}:vH ρ j=VF ρ j ρ[j]? :=by
 unfold vH VF;rcases h:ρ[j]? with _|_|(d|⟨o,d⟩|d)<;>rfl
@[simp] theorem zpg{l:List D}:wV (.tup l)=some l:=rfl
@[simp] theorem zph{l:List D}:wV (.lst l)=some l:=rfl
noncomputable def zjd(ρ:Env)(i:Nat)(x:SV)(r:Option SV):Option D->Option (Fl×Env)
 |some (.lst ds)=>r.bind fun r=>(toD r).bind fun d=>if ds.length<line then some (.nx,ρ.set i (some (x.put (.lst (ds++[d]))))) else none
 |_=>none
noncomputable def QX(ρ:Env)(i:Nat)(r:Option SV):Option (Option SV)->Option (Fl×Env)
 |some (some x)=>zjd ρ i x r x.cell
 |_=>none
@[simp] theorem zje{i:Nat}{r:Option SV}{ds:List D}:QX ρ i r (some (some (.obj true (.lst ds))))=r.bind fun r=>(toD r).bind fun d=>if ds.length<line then some (.nx,ρ.set i (some (.obj true (.lst (ds++[d]))))) else none:=rfl
@[simp] theorem zpi{i:Nat}{e:E}:zJ fa fuel (.app i e) ρ=QX ρ i (zi (zC fa) e ρ) ρ[i]? :=by
 rw[gO];rcases h:ρ[i]? with _|_|(d|⟨_|_,d⟩|d)
 ·rfl
 ·rfl
 ·rfl
 ·rfl
 ·cases d<;>rfl
 ·cases d<;>rfl
noncomputable def zjf(ρ:Env)(i:Nat)(x:SV)(rk rv:Option SV):Option D->Option (Fl×Env)
 |some (.dct t ks vs)=>rv.bind fun r=>(toD r).bind fun d=>rk.bind fun r=>(toD r).bind fun a=>if yK t a&&decide (ks.length<line) then some (.nx,ρ.set i (some (x.put (xX t ks vs a d)))) else none
 |some (.dcd kvs)=>rv.bind fun r=>(toD r).bind fun d=>rk.bind fun r=>(toD r).bind fun a=>(jI kvs a d).map fun z=>(.nx,ρ.set i (some (x.put z)))
 |_=>none
noncomputable def Zf(ρ:Env)(i:Nat)(rk rv:Option SV):Option (Option SV)->Option (Fl×Env)
 |some (some x)=>zjf ρ i x rk rv x.cell
 |_=>none
@[simp] theorem zpj{i:Nat}{rk rv:Option SV}{t:Bool}{ks vs:List D}:Zf ρ i rk rv (some (some (.obj true (.dct t ks vs))))=rv.bind fun r=>(toD r).bind fun d=>rk.bind fun r=>(toD r).bind fun a=>if yK t a&&decide (ks.length<line) then some (.nx,ρ.set i (some (.obj true (xX t ks vs a d)))) else none:=rfl
@[simp] theorem zpk{i:Nat}{rk rv:Option SV}{kvs:List (List (List Int)×Int)}:Zf ρ i rk rv (some (some (.io (.dcd kvs))))=rv.bind fun r=>(toD r).bind fun d=>rk.bind fun r=>(toD r).bind fun a=>(jI kvs a d).map fun z=>(.nx,ρ.set i (some (.io z))):=rfl
@[simp] theorem zb3{i:Nat}{rk rv:Option SV}{t:Bool}{ks vs:List D}:Zf ρ i rk rv (some (some (.io (.dct t ks vs))))=rv.bind fun r=>(toD r).bind fun d=>rk.bind fun r=>(toD r).bind fun a=>if yK t a&&decide (ks.length<line) then some (.nx,ρ.set i (some (.io (xX t ks vs a d)))) else none:=rfl
@[simp] theorem zpl{i:Nat}{k v:E}:zJ fa fuel (.dset i k v) ρ=Zf ρ i (zi (zC fa) k ρ) (zi (zC fa) v ρ) ρ[i]? :=by
 rw[gP];rcases h:ρ[i]? with _|_|(d|⟨_|_,d⟩|d)
 ·rfl
 ·rfl
 ·rfl
 ·rfl
 ·cases d<;>rfl
 ·cases d<;>rfl
@[simp] theorem zpm{i j:Nat}:zJ fa fuel (.dupd i j) ρ=gD ρ i j:=rfl
@[simp] theorem zpn{m:M}:zJ fa fuel (.exprM m) ρ=(yX fa m ρ).map fun x=>(.nx,x.2):=rfl
@[simp] theorem zpo{i:Nat}{m:M}:zJ fa fuel (.asgM i m) ρ=(yX fa m ρ).bind fun x=>if x.1.lent|| !free x.2 i then none else some (.nx,x.2.set i (some (.val (zI x.1)))):=rfl
@[simp] theorem zpp{c:E}{m:M}{a b:Ss}:zJ fa fuel (.ifO c m a b) ρ=(zE (zC fa) c ρ).bind fun k=>if k then zp fa fuel a ρ else (yX fa m ρ).bind fun x=>(ye x.1).bind fun k=>if k then zp fa fuel a x.2 else zp fa fuel b x.2:=rfl
noncomputable def zb4(ρ:Env)(xs:List AV):Ans->Option (SV×Env)
 | .ok r outs=>if r.fine&&outs.all xC then (yG ρ xs outs).map fun ρ'=>(r,ρ') else none
 | .ex _=>none
@[simp] theorem zpq{xs:List AV}{r:SV}{outs:List D}:zb4 ρ xs (.ok r outs)=if r.fine&&outs.all xC then (yG ρ xs outs).map fun ρ'=>(r,ρ') else none:=rfl
@[simp] theorem zpr{f:Nat}{ma:MA}:yX fa (.call f ma) ρ=(yW (zC fa) ma ρ).bind fun xs=>(fa f (xs.map vt)).bind (zb4 ρ xs):=rfl
noncomputable def zb5(p:Prim)(k:Option (SV×Env)):SV->Option (SV×Env)
 | .val d=>if plain d then k.bind fun y=>(zh p [d,zI y.1]).map fun z=>(z,y.2) else none
 |_=>none
@[simp] theorem zps{p:Prim}{k:Option (SV×Env)}{d:D}:zb5 p k (.val d)=if plain d then k.bind fun y=>(zh p [d,zI y.1]).map fun z=>(z,y.2) else none:=rfl
@[simp] theorem zpt{p:Prim}{a:E}{m:M}:yX fa (.op p a m) ρ=(zi (zC fa) a ρ).bind (zb5 p (yX fa m ρ)):=rfl
@[simp] theorem zpu:yW fn .nil ρ=some []:=rfl
@[simp] theorem zpv{c:E}{r:MA}:yW fn (.e c r) ρ=(zi fn c ρ).bind fun x=>(xY x).bind fun a=>(yW fn r ρ).map (a:: ·):=rfl
noncomputable def VG:Option (Option SV)->Option D
 |some (some x)=>x.cell
 |_=>none
@[simp] theorem zpw{i:Nat}:jj ρ i=VG ρ[i]? :=by
 unfold jj VG;rcases h:ρ[i]? with _|_|(d|⟨_|_,d⟩|d)<;>rfl
@[simp] theorem zpx{d:D}:VG (some (some (.obj true d)))=some d:=rfl
@[simp] theorem zpy{d:D}:VG (some (some (.io d)))=some d:=rfl
@[simp] theorem zpz{i:Nat}{r:MA}:yW fn (.s i r) ρ=(jj ρ i).bind fun d=>if wI d then (yW fn r ρ).map (.s i d:: ·) else none:=rfl
@[simp] theorem zpA{t:Option Bool}{r:MA}:yW fn (.n t r) ρ=(yW fn r ρ).map (.n t:: ·):=rfl
@[simp] theorem zpB:yG ρ [] []=some ρ:=rfl
@[simp] theorem zpC{i:Nat}{d d':D}{r:List AV}{ds:List D}:yG ρ (.s i d::r) (d'::ds)=yG (jN ρ i d') r ds:=rfl
@[simp] theorem zpD{t:Bool}{d':D}{r:List AV}{ds:List D}:yG ρ (.n t::r) (d'::ds)=yG ρ r ds:=rfl
@[simp] theorem zpE{d:D}{r:List AV}{ds:List D}:yG ρ (.e d::r) ds=yG ρ r ds:=rfl
@[simp] theorem zpF{d:List D}{r:List AV}{ds:List D}:yG ρ (.l d::r) ds=yG ρ r ds:=rfl
noncomputable def VH(ρ:Env)(i:Nat)(d:D):Option (Option SV)->Env
 |some (some x)=>ρ.set i (some (x.put d))
 |_=>ρ
@[simp] theorem zpG{i:Nat}{d:D}:jN ρ i d=VH ρ i d ρ[i]? :=by
 unfold jN VH;rcases h:ρ[i]? with _|_|(d|⟨_|_,d⟩|d)<;>rfl
@[simp] theorem zpH{i:Nat}{d d0:D}:VH ρ i d (some (some (.obj true d0)))=ρ.set i (some (.obj true d)):=rfl
@[simp] theorem zpI{i:Nat}{d d0:D}:VH ρ i d (some (some (.io d0)))=ρ.set i (some (.io d)):=rfl
@[simp] theorem zpJ{d:D}:vt (.e d)=d:=rfl
@[simp] theorem zpK{d:List D}:vt (.l d)= .lst d:=rfl
@[simp] theorem zpL{i:Nat}{d:D}:vt (.s i d)=d:=rfl
@[simp] theorem zpM{t:Bool}:vt (.n t)= .dct t [] []:=rfl
@[simp] theorem zpN{l:List D}:xY (.val (.tup l))=if plain (.tup l) then some (.e (.tup l)) else none:=rfl
@[simp] theorem zpO{i:Int}:xY (.val (.int i))=some (.e (.int i)):=by simp[xY,plain]
@[simp] theorem zpP{i:Bool}:xY (.val (.bl i))=some (.e (.bl i)):=by simp[xY,plain]
@[simp] theorem zpQ{l:List D}:xY (.val (.lst l))=if yU l then some (.l l) else none:=rfl
@[simp] theorem zpR{o:Bool}{l:List D}:xY (.obj o (.lst l))=if yU l then some (.l l) else none:=rfl
@[simp] theorem zpS{t:Bool}{ks vs:List D}:wI (.dct t ks vs)=yU vs:=rfl
@[simp] theorem zpT{t:Bool}{ks vs:List D}:xC (.dct t ks vs)=yU vs:=rfl
@[simp] theorem zpU{vs:List D}:xC (.lst vs)=yU vs:=rfl
@[simp] theorem zpV{d:D}:SV.fine (.val d)=plain d:=rfl
@[simp] theorem zpW{d:D}:SV.fine (.obj true d)=xC d:=rfl
noncomputable def QY:Option (SV×Env)->Option (Fl×Env)
 |some (.val d,ρ)=>if plain d then some (.rt (.val d),ρ) else none
 |_=>none
noncomputable def QZ(ρ:Env)(k:Option (SV×Env)):Option SV->Option (Fl×Env)
 |some (.val (.bl true))=>some (.rt (.val (.bl true)),ρ)
 |some (.val (.bl false))=>QY k
 |_=>none
@[simp] theorem zpX{d:D}{ρ:Env}:QY (some (.val d,ρ))=if plain d then some (.rt (.val d),ρ) else none:=rfl
@[simp] theorem zpY{k:Option (SV×Env)}:QZ ρ k (some (.val (.bl true)))=some (.rt (.val (.bl true)),ρ):=rfl
@[simp] theorem zpZ{k:Option (SV×Env)}:QZ ρ k (some (.val (.bl false)))=QY k:=rfl
@[simp] theorem zp0{c:E}{m:M}:zJ fa fuel (.retO c m) ρ=QZ ρ (yX fa m ρ) (zi (zC fa) c ρ):=by
 rw[gR];rcases zi (zC fa) c ρ with _|((_|(_|_))|_|_)<;>(try rfl);rcases yX fa m ρ with _|⟨(_|_|_),_⟩<;>rfl
@[simp] theorem zp1{e:E}:zJ fa fuel (.ret e) ρ=(zi (zC fa) e ρ).bind fun r=>if r.lent then none else some (.rt r,ρ):=rfl
noncomputable def ka(ρ:Env)(i:Nat):Option (Option SV)->Option (Fl×Env)
 |some (some (.val d))=>some (.rt (.val d),ρ)
 |some (some (.obj _ d))=>some (.rt (.obj true d),ρ.set i none)
 |_=>none
@[simp] theorem zp2{i:Nat}{d:D}:ka ρ i (some (some (.val d)))=some (.rt (.val d),ρ):=rfl
@[simp] theorem zp3{i:Nat}{o:Bool}{d:D}:ka ρ i (some (some (.obj o d)))=some (.rt (.obj true d),ρ.set i none):=rfl
@[simp] theorem zp4{i:Nat}:zJ fa fuel (.retV i) ρ=ka ρ i ρ[i]? :=by
 rw[gQ];rcases h:ρ[i]? with _|_|(d|⟨o,d⟩|d)<;>rfl
@[simp] theorem zp5{c:E}{a b:Ss}:zJ fa fuel (.ifs c a b) ρ=(zE (zC fa) c ρ).bind fun k=>if k then zp fa fuel a ρ else zp fa fuel b ρ:=rfl
theorem vR{i:Nat}{g:Bool}{src:Es}{body:Ss}:zJ fa fuel (.for_ i g src body) ρ=(zZ (zC fa) src ρ).bind fun rs=>if rs.any SV.lent|| !free ρ i then none else (yf g rs).bind fun ds=>yx i (zp fa fuel body) ds ρ:=rfl
theorem VI{i j:Nat}{body:Ss}:zJ fa fuel (.forV i j body) ρ=if free ρ i then (vH ρ j).bind fun x=>yx i (zp fa fuel body) x.1 x.2 else none:=rfl
theorem zb6{c:E}{body:Ss}:zJ fa fuel (.while_ c body) ρ=wq (zE (zC fa) c) (zp fa fuel body) fuel ρ:=rfl
noncomputable def VJ(ρ:Env)(j:Nat):Option (Option SV)->Env
 |some (some (.obj true d))=>ρ.set j (some (.val d))
 |_=>ρ
@[simp] theorem zp6{j:Nat}:vI ρ j=VJ ρ j ρ[j]? :=by
 unfold vI VJ;rcases h:ρ[j]? with _|_|(d|⟨_|_,d⟩|d)<;>rfl
@[simp] theorem zp7{j:Nat}{d:D}:VJ ρ j (some (some (.val d)))=ρ:=rfl
@[simp] theorem zp8{j:Nat}{d:D}:VJ ρ j (some (some (.obj true d)))=ρ.set j (some (.val d)):=rfl
@[simp] theorem zp9{js:List Nat}{s:S}:zJ fa fuel (.frz js s) ρ=zJ fa fuel s (js.foldl vI ρ):=rfl
@[simp] theorem zqa:zJ fa fuel .stop ρ=none:=rfl
@[simp] theorem zqb:zp fa fuel .nil ρ=some (.nx,ρ):=rfl
noncomputable def andThen(x:Fl×Env)(k:Env->Option (Fl×Env)):Option (Fl×Env):=match x.1 with
 | .nx=>k x.2
 |_=>some x
@[simp] theorem zqc{ρ:Env}{k:Env->Option (Fl×Env)}:andThen (.nx,ρ) k=k ρ:=rfl
@[simp] theorem zqd{ρ:Env}{k:Env->Option (Fl×Env)}:andThen (.br,ρ) k=some (.br,ρ):=rfl
@[simp] theorem zqe{ρ:Env}{k:Env->Option (Fl×Env)}:andThen (.ct,ρ) k=some (.ct,ρ):=rfl
@[simp] theorem zqf{ρ:Env}{r:SV}{k:Env->Option (Fl×Env)}:andThen (.rt r,ρ) k=some (.rt r,ρ):=rfl
@[simp] theorem Yn{s:S}{ss:Ss}:zp fa fuel (.cons s ss) ρ=(zJ fa fuel s ρ).bind fun x=>andThen x (zp fa fuel ss):=by
 exact id rfl
noncomputable def vh:Option (Fl×Env)->Option SV
 |some (.rt r,_)=>some r
 |some (.nx,_)=>some (.val .non)
 |_=>none
@[simp] theorem zqg{r:SV}{ρ:Env}:vh (some (.rt r,ρ))=some r:=rfl
@[simp] theorem zqh{ρ:Env}:vh (some (.nx,ρ))=some (.val .non):=rfl
@[simp] theorem zqi:vh none=none:=rfl
@[simp] theorem zqj{c:Prop}[Decidable c]{a b:Option (Fl×Env)}:vh (if c then a else b)=if c then vh a else vh b:=by split<;>rfl
end
noncomputable def Zg:Option (Option SV)->Option SV
 |some (some (.val d))=>some (.val d)
 |some (some (.obj _ d))=>some (.obj false d)
 |some (some (.io d))=>some (.obj false d)
 |_=>none
@[simp] theorem zqk{ρ:Env}{i:Nat}:look ρ i=Zg ρ[i]? :=by
 unfold look Zg;rcases h:ρ[i]? with _|_|(d|⟨o,d⟩|d)<;>rfl
@[simp] theorem zql{d:D}:Zg (some (some (.val d)))=some (.val d):=rfl
@[simp] theorem zqm{o:Bool}{d:D}:Zg (some (some (.obj o d)))=some (.obj false d):=rfl
@[simp] theorem zqn{d:D}:Zg (some (some (.io d)))=some (.obj false d):=rfl
@[simp] theorem zqo:Zg (some none)=none:=rfl
@[simp] theorem zqp{d:D}:zI (.val d)=d:=rfl
@[simp] theorem zqq{o:Bool}{d:D}:zI (.obj o d)=d:=rfl
@[simp] theorem kb{d:D}:toD (.val d)=some d:=rfl
@[simp] theorem zqr{d:D}:toD (.obj true d)=some d:=rfl
@[simp] theorem zqs:xD []=some []:=rfl
@[simp] theorem zqt{r:SV}{rs:List SV}:xD (r::rs)=(toD r).bind fun d=>(xD rs).map (d:: ·):=rfl
@[simp] theorem zqu{d:D}:SV.lent (.val d)=false:=rfl
@[simp] theorem zqv{d:D}:SV.lent (.obj true d)=false:=rfl
@[simp] theorem zqw{d:D}:SV.lent (.obj false d)=true:=rfl
@[simp] theorem zqx{i:Int}:xk i=some (.val (.int i)):=rfl
@[simp] theorem zqy{i:Bool}:yw i=some (.val (.bl i)):=rfl
@[simp] theorem zqz{b:Bool}:ye (.val (.bl b))=some b:=rfl
@[simp] theorem zqA{i:Int}:ye (.val (.int i))=some (i != 0):=rfl
@[simp] theorem zqB:ye (.val .non)=some false:=rfl
@[simp] theorem zqC{l:List D}:ye (.val (.tup l))=some (!l.isEmpty):=rfl
@[simp] theorem zqD{l:List D}:ye (.val (.lst l))=some (!l.isEmpty):=rfl
@[simp] theorem zqE{o:Bool}{l:List D}:ye (.obj o (.lst l))=some (!l.isEmpty):=rfl
theorem zjg{rs:List SV}{r:Option SV}(h:rs.any SV.lent=false):wc rs r=r:=by
 unfold wc;rw[h];cases r<;>rfl
theorem zjh{rs:List SV}{x:SV}(h:x.plain=true):wc rs (some x)=some x:=by
 unfold wc;simp[h]
@[simp] theorem zqF{rs:List SV}{x:Option SV}(h:rs.any SV.lent=false):wc rs x=x:=zjg h
@[simp] theorem zqG{rs:List SV}{x:SV}(h:x.plain=true):wc rs (some x)=some x:=zjh h
@[simp] theorem zqH{d:D}:SV.plain (.val d)=plain d:=rfl
@[simp] theorem zqI{o:Bool}{d:D}:SV.plain (.obj o d)=xC d:=rfl
@[simp] theorem zqJ{i:Int}:plain (.int i)=true:=by simp[plain]
@[simp] theorem zqK{i:Bool}:plain (.bl i)=true:=by simp[plain]
@[simp] theorem zqL:plain .non=true:=by simp[plain]
@[simp] theorem zqM{i:Str}:plain (.str i)=true:=by simp[plain]
@[simp] theorem zqN{l:List D}:plain (.tup l)=yU l:=rfl
@[simp] theorem zqO{l:List D}:plain (.lst l)=false:=rfl
@[simp] theorem zqP{t:Bool}{a b:List D}:plain (.dct t a b)=false:=rfl
@[simp] theorem zqQ:yU []=true:=rfl
@[simp] theorem zqR{x:D}{xs:List D}:yU (x::xs)=(plain x&&yU xs):=rfl
@[simp] theorem zji{P:Nat->Option Fn}{fuel n:Nat}:zC (zn P fuel n)=zS P fuel n:=rfl
theorem zb7: ∀(k:Nat) (ds:List D),xQ [] k ds=ds.map fun d=>some (.val d)
 |_,[]=>rfl
 |k,d::r=>by simp[xQ,zb7 (k+1) r]
theorem zjj(x:Option (Fl×Env)):(match wt [] x with|some (.ok r [])=>some r|_=>none)=vh x:=by
 rcases x with _|⟨_|_|_|r,ρ⟩<;>rfl
theorem zjk{P:Nat->Option Fn}{fuel n i:Nat}{F:Fn}{ds:List D}(h:P i=some F)(hl:ds.length=F.np)(hio:F.io=[])(hx:F.xb=none:=by rfl):
  zS P fuel (n+1) i ds=vh (zp (zn P fuel n) fuel F.body (ds.map (fun d=>some (.val d))++List.replicate (F.nl-F.np) none)):=by
 unfold zS zC;rw[zn,h];simp only[Option.bind_some,if_pos hl,hio,zb7,hx];exact zjj _
theorem Yo{P:Nat->Option Fn}{fuel n i:Nat}{F:Fn}{ds:List D}(h:P i=some F)(hl:ds.length=F.np)(hx:F.xb=none:=by rfl):
  zn P fuel (n+1) i ds=wt F.io (zp (zn P fuel n) fuel F.body (xQ F.io 0 ds++List.replicate (F.nl-F.np) none)):=by
 rw[zn,h];simp only[Option.bind_some,if_pos hl,hx]
@[simp] theorem zqS{a b:Int}:zh .add [.int a,.int b]=some (.val (.int (a+b))):=rfl
theorem kc{a b:List D}(h:a.length+b.length<=line):zh .add [.lst a,.lst b]=some (.obj true (.lst (a++b))):=by simp only[zh,Xv,if_pos h]
@[simp] theorem zqT{a b:Int}:zh .sub [.int a,.int b]=some (.val (.int (a-b))):=rfl
theorem zjl{a b:Int}(h: -(2 ^ 64)<b/\b<2 ^ 64):zh .mul [.int a,.int b]=some (.val (.int (a*b))):=by simp only[zh,Xw,if_pos (Or.inr h:(-(2 ^ 64)<a/\a<2 ^ 64)\/_),xk]
theorem zb8{a b:Int}(h:0<b/\b<1073741824):zh .fdiv [.int a,.int b]=some (.val (.int (a/b))):=by simp only[zh,Xx,if_pos h,xk]
theorem vy{a b:Int}(h:0<b):zh .mod [.int a,.int b]=some (.val (.int (a%b))):=by simp only[zh,Xy,if_pos h,xk]
theorem VL{a b:D}(h:zG 8 a=true)(h':zG 8 b=true):zh .eq [a,b]=some (.val (.bl (zO a b))):=by simp[zh,ZO,h,h']
theorem kd{a b:D}(h:zG 8 a=true)(h':zG 8 b=true):zh .ne [a,b]=some (.val (.bl (!zO a b))):=by simp[zh,ZP,h,h']
@[simp] theorem zqU{a b:Int}:zh .eq [.int a,.int b]=some (.val (.bl (a==b))):=by rw[VL rfl rfl,zO]
@[simp] theorem zqV{a b:Int}:zh .ne [.int a,.int b]=some (.val (.bl (a != b))):=by rw[kd rfl rfl,zO];rfl
@[simp] theorem zqW{a b:Int}:zh .lt [.int a,.int b]=some (.val (.bl (decide (a<b)))):=rfl
@[simp] theorem zqX{a b:Int}:zh .le [.int a,.int b]=some (.val (.bl (decide (a<=b)))):=rfl
@[simp] theorem zqY{a b:Int}:zh .gt [.int a,.int b]=some (.val (.bl (decide (b<a)))):=rfl
@[simp] theorem zqZ{a b:Int}:zh .ge [.int a,.int b]=some (.val (.bl (decide (b<=a)))):=rfl
@[simp] theorem zq0{l:List D}:zh .len [.tup l]=some (.val (.int l.length)):=rfl
@[simp] theorem zq1{l:List D}:zh .len [.lst l]=some (.val (.int l.length)):=rfl
@[simp] theorem zq2{i:Int}:zh .abs [.int i]=some (.val (.int (if i<0 then -i else i))):=rfl
@[simp] theorem zb9{i j:Int}:zh .min2 [.int i,.int j]=some (.val (.int (if j<i then j else i))):=rfl
@[simp] theorem p_max2{i j:Int}:zh .max2 [.int i,.int j]=some (.val (.int (if j>i then j else i))):=rfl
theorem zjm{n:Int}{r:List Int}:zh .maxL [.lst ((n::r).map D.int)]=some (.val (.int (r.foldl max n))):=by
 have: ∀l:List Int,ints? (l.map D.int)=some l:=fun l=>by induction l with
  |nil=>rfl
  |cons x l ih=>simp[ints?,ih]
 simp only[zh,XH,this,Option.bind_some,xk]
@[simp] theorem zq3{l:List D}:zh .toList [.tup l]=some (.obj true (.lst l)):=rfl
@[simp] theorem zq4{l:List D}:zh .toList [.lst l]=some (.obj true (.lst l)):=rfl
@[simp] theorem zq5{l:List D}:zh .toTup [.tup l]=some (.val (.tup l)):=rfl
@[simp] theorem zq6{l:List D}:zh .toTup [.lst l]=some (.val (.tup l)):=rfl
@[simp] theorem zq7{t:Ty}{d:D}:zh (.inst t) [d]=some (.val (.bl (wb t d))):=rfl
theorem zjn{l:List D}{i:Int}:zh .idx [.tup l,.int i]=(atI l i).map .val:=rfl
theorem zca{l:List D}{i:Int}:zh .idx [.lst l,.int i]=(atI l i).map .val:=rfl
theorem atI_nat{α:Type}{l:List α}{k:Nat}(h:k<l.length):atI l (k:Int)=some l[k]:=by
 unfold atI ixN;rw[if_pos (by omega),if_pos (by omega)];simp[h]
@[simp] theorem zq8{a b:D}:zh .idx [.tup [a,b],.int 0]=some (.val a):=rfl
@[simp] theorem zq9{a b:D}:zh .idx [.tup [a,b],.int 1]=some (.val b):=rfl
@[simp] theorem zra{b:Bool}:wb .bool (.bl b)=true:=rfl
@[simp] theorem zrb{b:Int}:wb .bool (.int b)=false:=rfl
@[simp] theorem zrc{b:Int}:wb .int (.int b)=true:=rfl
@[simp] theorem zrd{l:List D}:wb .tuple (.tup l)=true:=rfl
@[simp] theorem zre{l:List D}:wb .list (.lst l)=true:=rfl
@[simp] theorem zrf:XC .non=true:=rfl
@[simp] theorem zrg{i:Int}:XC (.int i)=false:=rfl
@[simp] theorem zrh{l:List D}:XC (.tup l)=false:=rfl
@[simp] theorem zri{l:List D}:XC (.lst l)=false:=rfl
theorem zcb{α:Type}{f:α->D}{test:D->Option Bool}{elt:D->Option SV}{t:α->Bool}{e:α->D}: ∀{xs:List α},(∀x∈xs,test (f x)=some (t x))->(∀x∈xs,t x=true->(elt (f x)).bind toD=some (e x))->
  xy test elt (xs.map f)=some ((xs.filter t).map e)
 |[],_,_=>rfl
 |d::r,h1,h2=>by
  have ih:=zcb (xs:=r) (fun x hx=>h1 x (Kf _ hx)) (fun x hx=>h2 x (Kf _ hx));rw[List.map_cons,xy,h1 d Ke];simp only[Option.bind_some]
  cases ht:t d with
  |false=>simp[ih,ht]
  |true=>
   have h3:=h2 d Ke ht;rw[jo1] at h3;obtain⟨x,e1,e2⟩:=h3;simp[ih,ht,e1,e2]
theorem wj{fn:Nat->List D->Option SV}{ρ:Env}{g:Bool}{src:Es}{cond elt:E}{rs:List SV}{α:Type}{f:α->D}{xs:List α}(t:α->Bool)(e:α->D)(h:zZ fn src ρ=some rs)(hi:yf g rs=some (xs.map f))(hl:xs.length<=line)
  (ht: ∀x∈xs,zE fn cond (some (.val (f x))::ρ)=some (t x)) (he: ∀x∈xs,t x=true->(zi fn elt (some (.val (f x))::ρ)).bind toD=some (e x)):
  zi fn (.comp g src cond elt) ρ=some (.obj true (.lst ((xs.filter t).map e))):=by
 rw[zja,h];simp only[Option.bind_some,hi,List.length_map,if_pos hl];rw[zcb ht he];rfl
theorem zcc{fn:Nat->List D->Option SV}{ρ:Env}{g:Bool}{src:Es}{elt:E}{rs:List SV}{α:Type}{f:α->D}{xs:List α}(e:α->D)(h:zZ fn src ρ=some rs)(hi:yf g rs=some (xs.map f))(hl:xs.length<=line)
  (he: ∀x∈xs,(zi fn elt (some (.val (f x))::ρ)).bind toD=some (e x)):
  zi fn (.comp g src (.bl true) elt) ρ=some (.obj true (.lst (xs.map e))):=by
 have:=wj (fun _=>true) e h hi hl (fun _ _=>zjb) (fun x hx _=>he x hx);have e2:xs.filter (fun _=>true)=xs:=List.filter_eq_self.mpr fun _ _=>rfl
 rwa [e2] at this
theorem zcd{i:Nat}{body:Env->Option (Fl×Env)}(I:List D->Env->Prop){ds:List D}: ∀{post pre:List D} {ρ:Env},ds=pre++post->I pre ρ->
  (∀pre d post ρ,ds=pre++d::post->I pre ρ->∃fl ρ',body (ρ.set i (some (.val d)))=some (fl,ρ')/\(fl= .nx\/fl= .ct)/\I (pre++[d]) ρ')->
  ∃ρ',yx i body post ρ=some (.nx,ρ')/\I ds ρ'
 |[],pre,ρ,e,h,_=>⟨ρ,rfl,by rw[e];simpa using h⟩
 |d::post,pre,ρ,e,h,st=>by
  obtain⟨fl,ρ1,e1,e2,h1⟩:=st pre d post ρ e h;obtain⟨ρ',e3,h3⟩:=zcd I (ds:=ds) (post:=post) (pre:=pre++[d]) (ρ:=ρ1) (by simp[e]) h1 st;refine⟨ρ',?_,h3⟩;rw[yx,e1];simp only[Option.bind_some];rcases e2 with rfl|rfl<;>exact e3
theorem zjo{i:Nat}{body:Env->Option (Fl×Env)}(I:Nat->Env->Prop){ds:List D}{ρ:Env}(h0:I 0 ρ)
  (st: ∀k ρ (hk:k<ds.length),I k ρ->∃fl ρ',body (ρ.set i (some (.val ds[k])))=some (fl,ρ')/\(fl= .nx\/fl= .ct)/\I (k+1) ρ'):
  ∃ρ',yx i body ds ρ=some (.nx,ρ')/\I ds.length ρ':=by
 refine zcd (fun pre ρ=>I pre.length ρ) (ds:=ds) (post:=ds) (pre:=[]) rfl h0 fun pre d post ρ e h=>?_
 subst e;have hk:pre.length<(pre++d::post).length:=by simp
 obtain⟨fl,ρ',h1,h2,h3⟩:=st pre.length ρ hk h;refine⟨fl,ρ',?_,h2,by simpa using h3⟩;rw[<-h1];simp
theorem zjp{i:Nat}{body:Env->Option (Fl×Env)}{α:Type}{f:α->D}{xs:List α}(I:Nat->Env->Prop){ρ:Env}(h0:I 0 ρ)
  (st: ∀k ρ (hk:k<xs.length),I k ρ->∃fl ρ',body (ρ.set i (some (.val (f xs[k]))))=some (fl,ρ')/\(fl= .nx\/fl= .ct)/\I (k+1) ρ'):
  ∃ρ',yx i body (xs.map f) ρ=some (.nx,ρ')/\I xs.length ρ':=by
 have:=zjo (i:=i) (body:=body) I (ds:=xs.map f) (ρ:=ρ) h0 fun k ρ hk h=>by
  obtain⟨fl,ρ',h1,h2⟩:=st k ρ (by simpa using hk) h;exact⟨fl,ρ',by rw[List.getElem_map];exact h1,h2⟩
 simpa using this
theorem zce{i:Nat}{body:Env->Option (Fl×Env)}(I:Nat->Env->Prop){a:Int}{m:Nat}{ρ:Env}(h0:I 0 ρ)
  (st: ∀k ρ,k<m->I k ρ->∃fl ρ',body (ρ.set i (some (.val (.int (a+(k:Int))))))=some (fl,ρ')/\(fl= .nx\/fl= .ct)/\I (k+1) ρ'):
  ∃ρ',yx i body ((List.range m).map fun (k:Nat)=>D.int (a+(k:Int))) ρ=some (.nx,ρ')/\I m ρ':=by
 have:=zjp (i:=i) (body:=body) (f:=fun (k:Nat)=>D.int (a+(k:Int))) (xs:=List.range m) I (ρ:=ρ) h0 fun k ρ hk h=>by
  obtain⟨fl,ρ',h1,h2⟩:=st k ρ (by simpa using hk) h;exact⟨fl,ρ',by rw[List.getElem_range];exact h1,h2⟩
 simpa using this
theorem zcf{test:Env->Option Bool}{body:Env->Option (Fl×Env)}(I:Nat->Env->Prop)(J:Env->Prop): ∀{m n:Nat} {ρ:Env},m<n->I m ρ->
  (∀m ρ,I m ρ->(test ρ=some false/\J ρ)\/(test ρ=some true/\∃fl ρ' m',body ρ=some (fl,ρ')/\(fl= .nx\/fl= .ct)/\m'<m/\I m' ρ'))->
  ∃ρ',wq test body n ρ=some (.nx,ρ')/\J ρ'
 |m,0,ρ,hn,_,_=>by omega
 |m,n+1,ρ,hn,h,st=>by
  rcases st m ρ h with ⟨e,j⟩|⟨e,fl,ρ1,m',e1,e2,hm,h1⟩
  ·exact⟨ρ,by rw[wq,e];rfl,j⟩
  ·obtain⟨ρ',e3,j⟩:=zcf I J (m:=m') (n:=n) (ρ:=ρ1) (by omega) h1 st
   refine⟨ρ',?_,j⟩;rw[wq,e];simp only[Option.bind_some,if_true,e1];rcases e2 with rfl|rfl<;>exact e3
section
variable {fa:Nat->List D->Option Ans} {fuel:Nat} {ρ:Env}
@[simp] theorem zrk{r:SV}:XJ (some (.fl (.rt r),ρ))=some (.ok r []):=rfl
@[simp] theorem zrl:XJ (some (.fl .nx,ρ))=some (.ok (.val .non) []):=rfl
@[simp] theorem zrm{c:Nat}:XJ (some (.ex c,ρ))=some (.ex c):=rfl
end
end L2.LW
namespace LK
open L2.LW
noncomputable def Yp:Ss:=(.cons (.ifs (.or (.prim (.inst .bool) (.cons (.var 0) .nil)) (.not (.prim (.inst .int) (.cons (.var 0) .nil)))) (.cons (.ret (.bl false))
  .nil) .nil)
  (.cons (.ret (.chain .le .le (.var 1) (.var 0) (.var 2)))
  .nil))
noncomputable def Yq:Ss:=(.cons (.ret (.and (.prim (.inst .tuple) (.cons (.var 0) .nil)) (.prim .eq (.cons (.prim .len (.cons (.var 0) .nil)) (.cons (.int 2) .nil)))))
  .nil)
noncomputable def Yr:Ss:=(.cons (.ret (.and (.call 1 (.cons (.var 0) .nil)) (.and (.call 0 (.cons (.prim .idx (.cons (.var 0) (.cons (.int 0) .nil))) (.cons (.int 0) (.cons (.int 7) .nil)))) (.call 0 (.cons (.prim .idx (.cons (.var 0) (.cons (.int 1) .nil))) (.cons (.int 0) (.cons (.int 7) .nil)))))))
  .nil)
noncomputable def Yt:Ss:=(.cons (.ret (.and (.call 1 (.cons (.var 0) .nil)) (.and (.call 0 (.cons (.prim .idx (.cons (.var 0) (.cons (.int 1) .nil))) (.cons (.int 1) (.cons (.int 4) .nil)))) (.call 0 (.cons (.prim .idx (.cons (.var 0) (.cons (.int 0) .nil))) (.cons (.int 0) (.cons (.prim .idx (.cons (.var 0) (.cons (.int 1) .nil))) .nil)))))))
  .nil)
noncomputable def Yu:Ss:=(.cons (.ret (.prim .all (.cons (.comp true (.cons (.int 1) (.cons (.prim .len (.cons (.var 0) .nil)) .nil)) (.bl true) (.prim .lt (.cons (.prim .idx (.cons (.var 1) (.cons (.prim .sub (.cons (.var 0) (.cons (.int 1) .nil))) .nil))) (.cons (.prim .idx (.cons (.var 1) (.cons (.var 0) .nil))) .nil)))) .nil)))
  .nil)
noncomputable def Yv:Ss:=(.cons (.ifs (.or (.not (.prim (.inst .tuple) (.cons (.var 0) .nil))) (.not (.chain .le .le (.int 1) (.prim .len (.cons (.var 0) .nil)) (.int 24)))) (.cons (.ret (.bl false))
  .nil) .nil)
  (.cons (.ret (.and (.prim .all (.cons (.comp false (.cons (.var 0) .nil) (.bl true) (.call 2 (.cons (.var 0) .nil))) .nil)) (.call 4 (.cons (.var 0) .nil))))
  .nil))
noncomputable def Yw:Ss:=(.cons (.ifs (.not (.call 5 (.cons (.var 0) .nil))) (.cons .stop
  .nil) .nil)
  (.cons (.retV 0)
  .nil))
noncomputable def Yx:Ss:=(.cons (.ifs (.not (.call 3 (.cons (.var 0) .nil))) (.cons .stop
  .nil) .nil)
  (.cons (.retV 0)
  .nil))
noncomputable def Yy:Ss:=(.cons (.ret (.tup (.cons (.prim .min2 (.cons (.prim .abs (.cons (.var 0) .nil)) (.cons (.prim .abs (.cons (.var 1) .nil)) .nil))) (.cons (.prim .max2 (.cons (.prim .abs (.cons (.var 0) .nil)) (.cons (.prim .abs (.cons (.var 1) .nil)) .nil))) .nil))))
  .nil)
noncomputable def Yz:Ss:=(.cons (.ret (.prim .eq (.cons (.call 9 (.cons (.prim .sub (.cons (.prim .idx (.cons (.var 2) (.cons (.int 0) .nil))) (.cons (.prim .idx (.cons (.var 1) (.cons (.int 0) .nil))) .nil))) (.cons (.prim .sub (.cons (.prim .idx (.cons (.var 2) (.cons (.int 1) .nil))) (.cons (.prim .idx (.cons (.var 1) (.cons (.int 1) .nil))) .nil))) .nil))) (.cons (.var 0) .nil))))
  .nil)
noncomputable def YA:Ss:=(.cons (.ret (.comp false (.cons (.var 0) .nil) (.call 10 (.cons (.var 2) (.cons (.var 3) (.cons (.var 0) .nil)))) (.var 0)))
  .nil)
noncomputable def YB:Ss:=(.cons (.ifs (.prim .lt (.cons (.var 1) (.cons (.prim .len (.cons (.var 0) .nil)) .nil))) (.cons (.ret (.prim .idx (.cons (.var 0) (.cons (.var 1) .nil))))
  .nil) .nil)
  (.cons (.ret (.int 0))
  .nil))
noncomputable def YC:Ss:=(.cons (.ret (.prim .mod (.cons (.prim .mod (.cons (.prim .mul (.cons (.var 0) (.cons (.int 48271) .nil))) (.cons (.var 1) .nil))) (.cons (.var 2) .nil))))
  .nil)
noncomputable def YD:Ss:=(.cons (.asg 1 (.lst (.cons (.tup (.cons (.int 1) (.cons (.int 2) .nil))) (.cons (.tup (.cons (.int 0) (.cons (.int 1) .nil))) (.cons (.tup (.cons (.int 1) (.cons (.int 1) .nil))) (.cons (.tup (.cons (.int 1) (.cons (.int 2) .nil))) (.cons (.tup (.cons (.int 0) (.cons (.int 2) .nil))) (.cons (.tup (.cons (.int 1) (.cons (.int 3) .nil))) (.cons (.tup (.cons (.int 2) (.cons (.int 3) .nil))) (.cons (.tup (.cons (.int 0) (.cons (.int 1) .nil))) (.cons (.tup (.cons (.int 1) (.cons (.int 2) .nil))) (.cons (.tup (.cons (.int 2) (.cons (.int 2) .nil))) (.cons (.tup (.cons (.int 0) (.cons (.int 3) .nil))) (.cons (.tup (.cons (.int 1) (.cons (.int 4) .nil))) (.cons (.tup (.cons (.int 2) (.cons (.int 4) .nil))) .nil)))))))))))))))
  (.cons (.ret (.prim .idx (.cons (.prim .add (.cons (.var 1) (.cons (.lst (.cons (.tup (.cons (.int 3) (.cons (.int 3) .nil))) (.cons (.tup (.cons (.int 3) (.cons (.int 4) .nil))) (.cons (.tup (.cons (.int 0) (.cons (.int 4) .nil))) (.cons (.tup (.cons (.int 4) (.cons (.int 4) .nil))) (.cons (.tup (.cons (.int 1) (.cons (.int 2) .nil))) (.cons (.tup (.cons (.int 1) (.cons (.int 1) .nil))) .nil))))))) .nil))) (.cons (.prim .mod (.cons (.var 0) (.cons (.int 19) .nil))) .nil))))
  .nil))
noncomputable def YE:Ss:=(.cons (.ret (.prim .eq (.cons (.prim .sorted (.cons (.lst (.cons (.prim .abs (.cons (.prim .sub (.cons (.prim .idx (.cons (.var 1) (.cons (.int 0) .nil))) (.cons (.prim .idx (.cons (.var 2) (.cons (.int 0) .nil))) .nil))) .nil)) (.cons (.prim .abs (.cons (.prim .sub (.cons (.prim .idx (.cons (.var 1) (.cons (.int 1) .nil))) (.cons (.prim .idx (.cons (.var 2) (.cons (.int 1) .nil))) .nil))) .nil)) .nil))) .nil)) (.cons (.prim .toList (.cons (.var 0) .nil)) .nil))))
  .nil)
noncomputable def Zh:Ss:=(.cons (.ret (.comp false (.cons (.var 0) .nil) (.call 17 (.cons (.var 2) (.cons (.var 3) (.cons (.var 0) .nil)))) (.var 0)))
  .nil)
noncomputable def YF:Ss:=(.cons (.ret (.prim .maxL (.cons (.comp true (.cons (.int 1) (.cons (.prim .add (.cons (.prim .idx (.cons (.var 0) (.cons (.int 1) .nil))) (.cons (.int 1) .nil))) .nil)) (.and (.prim .eq (.cons (.prim .mod (.cons (.prim .idx (.cons (.var 1) (.cons (.int 0) .nil))) (.cons (.var 0) .nil))) (.cons (.int 0) .nil))) (.prim .eq (.cons (.prim .mod (.cons (.prim .idx (.cons (.var 1) (.cons (.int 1) .nil))) (.cons (.var 0) .nil))) (.cons (.int 0) .nil)))) (.var 0)) .nil)))
  .nil)
noncomputable def YG:Ss:=(.cons (.asg 1 (.call 21 (.cons (.var 0) .nil)))
  (.cons (.ret (.prim .eq (.cons (.prim .mod (.cons (.prim .add (.cons (.prim .fdiv (.cons (.prim .idx (.cons (.var 0) (.cons (.int 0) .nil))) (.cons (.var 1) .nil))) (.cons (.prim .fdiv (.cons (.prim .idx (.cons (.var 0) (.cons (.int 1) .nil))) (.cons (.var 1) .nil))) .nil))) (.cons (.int 2) .nil))) (.cons (.int 1) .nil))))
  .nil))
noncomputable def YH:Ss:=(.cons (.asg 2 (.call 21 (.cons (.var 0) .nil)))
  (.cons (.asg 3 (.prim .fdiv (.cons (.prim .idx (.cons (.var 1) (.cons (.int 0) .nil))) (.cons (.var 2) .nil))))
  (.cons (.asg 4 (.prim .fdiv (.cons (.prim .idx (.cons (.var 1) (.cons (.int 1) .nil))) (.cons (.var 2) .nil))))
  (.cons (.ifs (.call 22 (.cons (.var 0) .nil)) (.cons (.ret (.prim .mod (.cons (.prim .add (.cons (.var 3) (.cons (.var 4) .nil))) (.cons (.int 2) .nil))))
  .nil) .nil)
  (.cons (.ret (.prim .mod (.cons (.var 3) (.cons (.int 2) .nil))))
  .nil)))))
noncomputable def YI:Ss:=(.cons (.ret (.comp false (.cons (.var 0) .nil) (.prim .eq (.cons (.call 23 (.cons (.var 2) (.cons (.var 0) .nil))) (.cons (.var 3) .nil))) (.var 0)))
  .nil)
noncomputable def vS:Ss:=(.cons (.ifs (.prim .nin (.cons (.var 5) (.cons (.var 4) .nil))) (.cons (.dset 4 (.var 5) (.bl true))
  (.cons (.ifO (.prim .nin (.cons (.var 5) (.cons (.var 2) .nil))) (.call 37 (.e (.var 0) (.e (.var 1) (.s 2 (.e (.prim .idx (.cons (.var 2) (.cons (.var 5) .nil))) (.s 4 .nil)))))) (.cons (.dset 2 (.var 3) (.var 5))
  (.cons (.dset 2 (.var 5) (.var 3))
  (.cons (.ret (.bl true))
  .nil))) .nil)
  .nil)) .nil)
  .nil)
noncomputable def Zi:Ss:=(.cons (.for_ 5 false (.cons (.call 11 (.cons (.var 0) (.cons (.var 1) (.cons (.var 3) .nil)))) .nil) vS)
  (.cons (.ret (.bl false))
  .nil))
noncomputable def VM:Ss:=(.cons (.exprM (.call 37 (.e (.var 0) (.e (.var 1) (.s 2 (.e (.var 3) (.n (some true) .nil)))))))
  .nil)
noncomputable def YJ:Ss:=(.cons (.asg 2 (.dnew true))
  (.cons (.for_ 3 false (.cons (.call 24 (.cons (.var 0) (.cons (.var 1) (.cons (.int 0) .nil)))) .nil) VM)
  (.cons (.retV 2)
  .nil)))
noncomputable def YK:Ss:=(.cons (.ret (.comp false (.cons (.var 0) .nil) (.and (.prim .inn (.cons (.var 0) (.cons (.var 2) .nil))) (.prim .lt (.cons (.var 0) (.cons (.prim .idx (.cons (.var 2) (.cons (.var 0) .nil))) .nil)))) (.tup (.cons (.var 0) (.cons (.prim .idx (.cons (.var 2) (.cons (.var 0) .nil))) .nil)))))
  .nil)
noncomputable def YL:Ss:=(.cons (.ifs (.prim .nin (.cons (.var 9) (.cons (.var 5) .nil))) (.cons (.app 5 (.var 9))
  (.cons (.app 7 (.prim .idx (.cons (.var 2) (.cons (.var 9) .nil))))
  .nil)) .nil)
  .nil)
noncomputable def VN:Ss:=(.cons (.for_ 9 false (.cons (.call 11 (.cons (.var 0) (.cons (.var 1) (.cons (.var 8) .nil)))) .nil) YL)
  .nil)
noncomputable def VO:Ss:=(.cons (.asg 7 (.lst .nil))
  (.cons (.forV 8 6 VN)
  (.cons (.asg 4 (.prim .add (.cons (.var 4) (.cons (.var 7) .nil))))
  (.cons (.mov 6 7)
  .nil))))
noncomputable def YM:Ss:=(.cons (.asg 4 (.comp false (.cons (.call 24 (.cons (.var 0) (.cons (.var 1) (.cons (.var 3) .nil)))) .nil) (.prim .nin (.cons (.var 0) (.cons (.var 3) .nil))) (.var 0)))
  (.cons (.asg 5 (.lst .nil))
  (.cons (.mov 6 4)
  (.cons (.while_ (.prim .gt (.cons (.prim .len (.cons (.var 6) .nil)) (.cons (.int 0) .nil))) VO)
  (.cons (.frz [4,5] (.ret (.tup (.cons (.var 4) (.cons (.var 5) .nil)))))
  .nil)))))
noncomputable def Zj:Ss:=(.cons (.ifs (.prim .eq (.cons (.call 23 (.cons (.var 0) (.cons (.var 1) .nil))) (.cons (.int 0) .nil))) (.cons (.ret (.prim .nin (.cons (.var 1) (.cons (.var 2) .nil))))
  .nil) .nil)
  (.cons (.ret (.prim .inn (.cons (.var 1) (.cons (.var 3) .nil))))
  .nil))
noncomputable def YN:Ss:=(.cons (.expr (.call 6 (.cons (.var 0) .nil)))
  (.cons (.expr (.call 7 (.cons (.var 1) .nil)))
  (.cons (.asg 3 (.call 40 (.cons (.var 0) (.cons (.var 1) (.cons (.call 38 (.cons (.var 0) (.cons (.var 1) .nil))) (.cons (.int 0) .nil))))))
  (.cons (.ret (.comp false (.cons (.var 0) .nil) (.prim .eq (.cons (.call 41 (.cons (.var 2) (.cons (.var 0) (.cons (.prim .idx (.cons (.var 4) (.cons (.int 0) .nil))) (.cons (.prim .idx (.cons (.var 4) (.cons (.int 1) .nil))) .nil))))) (.cons (.var 3) .nil))) (.var 0)))
  .nil))))
noncomputable def YO:Ss:=(.cons (.expr (.call 6 (.cons (.var 0) .nil)))
  (.cons (.expr (.call 7 (.cons (.var 1) .nil)))
  (.cons (.ret (.call 39 (.cons (.var 0) (.cons (.call 38 (.cons (.var 0) (.cons (.var 1) .nil))) .nil))))
  .nil)))
noncomputable def YQ:Ss:=(.cons (.ret (.call 42 (.cons (.var 0) (.cons (.var 1) (.cons (.bl true) .nil)))))
  .nil)
noncomputable def VP:Ss:=(.cons (.asg 12 (.prim .add (.cons (.prim .add (.cons (.call 13 (.cons (.var 0) (.cons (.prim .add (.cons (.prim .add (.cons (.var 1) (.cons (.int 2) .nil))) (.cons (.prim .mod (.cons (.prim .add (.cons (.var 10) (.cons (.prim .mul (.cons (.int 2) (.cons (.var 11) .nil))) .nil))) (.cons (.int 7) .nil))) .nil))) .nil))) (.cons (.prim .mul (.cons (.prim .mul (.cons (.int 31) (.cons (.var 10) .nil))) (.cons (.var 10) .nil))) .nil))) (.cons (.prim .mul (.cons (.prim .mul (.cons (.int 57) (.cons (.var 11) .nil))) (.cons (.var 11) .nil))) .nil))))
  (.cons (.ifs (.or (.prim .eq (.cons (.var 8) (.cons (.int 0) .nil))) (.prim .gt (.cons (.call 14 (.cons (.var 12) (.cons (.int 9931) (.cons (.prim .idx (.cons (.lst (.cons (.int 2) (.cons (.int 4) (.cons (.int 7) .nil)))) (.cons (.prim .sub (.cons (.var 8) (.cons (.int 1) .nil))) .nil))) .nil)))) (.cons (.int 0) .nil)))) (.cons (.app 9 (.tup (.cons (.prim .add (.cons (.var 6) (.cons (.var 10) .nil))) (.cons (.prim .add (.cons (.var 7) (.cons (.var 11) .nil))) .nil))))
  .nil) .nil)
  .nil))
noncomputable def YR:Ss:=(.cons (.for_ 11 true (.cons (.var 5) .nil) VP)
  .nil)
noncomputable def YS:Ss:=(.cons (.asg 3 (.call 13 (.cons (.var 0) (.cons (.var 1) .nil))))
  (.cons (.asg 4 (.prim .add (.cons (.int 1) (.cons (.call 14 (.cons (.var 3) (.cons (.int 9973) (.cons (.int 5) .nil)))) .nil))))
  (.cons (.asg 5 (.prim .add (.cons (.int 1) (.cons (.call 14 (.cons (.var 3) (.cons (.int 9967) (.cons (.int 6) .nil)))) .nil))))
  (.cons (.asg 6 (.call 14 (.cons (.call 13 (.cons (.var 0) (.cons (.prim .add (.cons (.var 1) (.cons (.int 1) .nil))) .nil))) (.cons (.int 9949) (.cons (.prim .sub (.cons (.int 9) (.cons (.var 4) .nil))) .nil)))))
  (.cons (.asg 7 (.call 14 (.cons (.call 13 (.cons (.var 0) (.cons (.prim .add (.cons (.var 1) (.cons (.int 1) .nil))) .nil))) (.cons (.int 9941) (.cons (.prim .sub (.cons (.int 9) (.cons (.var 5) .nil))) .nil)))))
  (.cons (.asg 8 (.call 14 (.cons (.prim .add (.cons (.var 3) (.cons (.int 3) .nil))) (.cons (.int 9907) (.cons (.int 4) .nil)))))
  (.cons (.asg 9 (.lst .nil))
  (.cons (.for_ 10 true (.cons (.var 4) .nil) YR)
  (.cons (.ifs (.not (.var 9)) (.cons (.asg 9 (.lst (.cons (.tup (.cons (.var 6) (.cons (.var 7) .nil))) .nil)))
  .nil) .nil)
  (.cons (.ret (.prim .toTup (.cons (.prim .cutTo (.cons (.var 9) (.cons (.var 2) .nil))) .nil)))
  .nil))))))))))
noncomputable def VQ:Ss:=(.cons (.asg 6 (.prim .toTup (.cons (.comp false (.cons (.var 3) .nil) (.prim .ne (.cons (.var 0) (.cons (.var 6) .nil))) (.var 0)) .nil)))
  (.cons (.asgM 4 (.op .max2 (.var 4) (.op .add (.int 1) (.call 50 (.e (.var 6) (.e (.var 1) (.s 2 .nil)))))))
  .nil))
noncomputable def vj:Ss:=(.cons (.ifs (.not (.var 0)) (.cons (.ret (.int 0))
  .nil) .nil)
  (.cons (.ifs (.prim .nin (.cons (.var 0) (.cons (.var 2) .nil))) (.cons (.asg 3 (.prim .cutF (.cons (.var 0) (.cons (.int 1) .nil))))
  (.cons (.asgM 4 (.call 50 (.e (.var 3) (.e (.var 1) (.s 2 .nil)))))
  (.cons (.for_ 5 false (.cons (.call 18 (.cons (.var 3) (.cons (.var 1) (.cons (.prim .idx (.cons (.var 0) (.cons (.int 0) .nil))) .nil)))) .nil) VQ)
  (.cons (.dset 2 (.var 0) (.var 4))
  .nil)))) .nil)
  (.cons (.ret (.prim .idx (.cons (.var 2) (.cons (.var 0) .nil))))
  .nil)))
noncomputable def VS:Ss:=(.cons (.ifs (.prim .ne (.cons (.prim .count (.cons (.var 4) (.cons (.var 6) .nil))) (.cons (.int 1) .nil))) (.cons (.ret (.bl false))
  .nil) .nil)
  .nil)
noncomputable def VT:Ss:=(.cons (.ifs (.or (.not (.prim (.inst .tuple) (.cons (.var 5) .nil))) (.or (.prim .ne (.cons (.prim .len (.cons (.var 5) .nil)) (.cons (.int 2) .nil))) (.prim .ge (.cons (.prim .idx (.cons (.var 5) (.cons (.int 0) .nil))) (.cons (.prim .idx (.cons (.var 5) (.cons (.int 1) .nil))) .nil))))) (.cons (.ret (.bl false))
  .nil) .nil)
  (.cons (.ifs (.not (.call 17 (.cons (.var 2) (.cons (.prim .idx (.cons (.var 5) (.cons (.int 0) .nil))) (.cons (.prim .idx (.cons (.var 5) (.cons (.int 1) .nil))) .nil))))) (.cons (.ret (.bl false))
  .nil) .nil)
  (.cons (.asg 4 (.prim .add (.cons (.var 4) (.cons (.prim .toList (.cons (.var 5) .nil)) .nil))))
  .nil)))
noncomputable def YT:Ss:=(.cons (.asg 1 (.call 49 (.cons (.var 0) (.cons (.int 2) (.cons (.prim .idx (.cons (.lst (.cons (.int 24) (.cons (.int 10) .nil))) (.cons (.prim .mod (.cons (.call 13 (.cons (.var 0) (.cons (.int 1) .nil))) (.cons (.int 2) .nil))) .nil))) .nil)))))
  (.cons (.asg 2 (.call 16 (.cons (.call 13 (.cons (.var 0) (.cons (.int 0) .nil))) .nil)))
  (.cons (.asg 3 (.call 43 (.cons (.var 1) (.cons (.var 2) .nil))))
  (.cons (.ifs (.or (.not (.prim (.inst .list) (.cons (.var 3) .nil))) (.prim .ne (.cons (.var 3) (.cons (.prim .sortP (.cons (.var 3) .nil)) .nil)))) (.cons (.ret (.bl false))
  .nil) .nil)
  (.cons (.asg 4 (.lst .nil))
  (.cons (.forV 5 3 VT)
  (.cons (.ifs (.or (.prim .lt (.cons (.prim .nset (.cons (.var 4) .nil)) (.cons (.prim .len (.cons (.var 4) .nil)) .nil))) (.comp false (.cons (.var 4) .nil) (.prim .nin (.cons (.var 0) (.cons (.var 2) .nil))) (.var 0))) (.cons (.ret (.bl false))
  .nil) .nil)
  (.cons (.for_ 6 false (.cons (.call 44 (.cons (.var 1) (.cons (.var 2) .nil))) .nil) VS)
  (.cons (.asg 7 (.comp false (.cons (.var 1) .nil) (.prim .nin (.cons (.var 0) (.cons (.var 5) .nil))) (.var 0)))
  (.cons (.ifs (.comp false (.cons (.var 7) .nil) (.call 18 (.cons (.var 8) (.cons (.var 3) (.cons (.var 0) .nil)))) (.var 0)) (.cons (.ret (.bl false))
  .nil) .nil)
  (.cons (.retO (.prim .gt (.cons (.prim .len (.cons (.var 1) .nil)) (.cons (.int 10) .nil))) (.op .eq (.prim .len (.cons (.var 3) .nil)) (.call 50 (.e (.var 1) (.e (.var 2) (.n none .nil))))))
  .nil)))))))))))
noncomputable def U:Nat->Option Fn
 |0=>some ⟨3,3,Yp,[],none⟩
 |1=>some ⟨1,1,Yq,[],none⟩
 |2=>some ⟨1,1,Yr,[],none⟩
 |3=>some ⟨1,1,Yt,[],none⟩
 |4=>some ⟨1,1,Yu,[],none⟩
 |5=>some ⟨1,1,Yv,[],none⟩
 |6=>some ⟨1,1,Yw,[],none⟩
 |7=>some ⟨1,1,Yx,[],none⟩
 |9=>some ⟨2,2,Yy,[],none⟩
 |10=>some ⟨3,3,Yz,[],none⟩
 |11=>some ⟨3,3,YA,[],none⟩
 |13=>some ⟨2,2,YB,[],none⟩
 |14=>some ⟨3,3,YC,[],none⟩
 |16=>some ⟨1,2,YD,[],none⟩
 |17=>some ⟨3,3,YE,[],none⟩
 |18=>some ⟨3,3,Zh,[],none⟩
 |21=>some ⟨1,1,YF,[],none⟩
 |22=>some ⟨1,2,YG,[],none⟩
 |23=>some ⟨2,5,YH,[],none⟩
 |24=>some ⟨3,3,YI,[],none⟩
 |37=>some ⟨5,6,Zi,[2,4],none⟩
 |38=>some ⟨2,4,YJ,[],none⟩
 |39=>some ⟨2,2,YK,[],none⟩
 |40=>some ⟨4,10,YM,[],none⟩
 |41=>some ⟨4,4,Zj,[],none⟩
 |42=>some ⟨3,4,YN,[],none⟩
 |43=>some ⟨2,2,YO,[],none⟩
 |44=>some ⟨2,2,YQ,[],none⟩
 |49=>some ⟨3,13,YS,[],none⟩
 |50=>some ⟨3,7,vj,[2],none⟩
 |51=>some ⟨1,8,YT,[],none⟩
 |_=>none
theorem U0:U 0=some ⟨3,3,Yp,[],none⟩:=rfl
theorem U1:U 1=some ⟨1,1,Yq,[],none⟩:=rfl
theorem U2:U 2=some ⟨1,1,Yr,[],none⟩:=rfl
theorem U3:U 3=some ⟨1,1,Yt,[],none⟩:=rfl
theorem U4:U 4=some ⟨1,1,Yu,[],none⟩:=rfl
theorem U5:U 5=some ⟨1,1,Yv,[],none⟩:=rfl
theorem U6:U 6=some ⟨1,1,Yw,[],none⟩:=rfl
theorem U7:U 7=some ⟨1,1,Yx,[],none⟩:=rfl
theorem U9:U 9=some ⟨2,2,Yy,[],none⟩:=rfl
theorem zjq:U 10=some ⟨3,3,Yz,[],none⟩:=rfl
theorem zjr:U 11=some ⟨3,3,YA,[],none⟩:=rfl
theorem zjs:U 13=some ⟨2,2,YB,[],none⟩:=rfl
theorem zjt:U 14=some ⟨3,3,YC,[],none⟩:=rfl
theorem zju:U 16=some ⟨1,2,YD,[],none⟩:=rfl
theorem zjv:U 17=some ⟨3,3,YE,[],none⟩:=rfl
theorem zcg:U 18=some ⟨3,3,Zh,[],none⟩:=rfl
theorem zjw:U 21=some ⟨1,1,YF,[],none⟩:=rfl
theorem zjx:U 22=some ⟨1,2,YG,[],none⟩:=rfl
theorem zjy:U 23=some ⟨2,5,YH,[],none⟩:=rfl
theorem zjz:U 24=some ⟨3,3,YI,[],none⟩:=rfl
theorem zjA:U 37=some ⟨5,6,Zi,[2,4],none⟩:=rfl
theorem zjB:U 38=some ⟨2,4,YJ,[],none⟩:=rfl
theorem zjC:U 39=some ⟨2,2,YK,[],none⟩:=rfl
theorem zjD:U 40=some ⟨4,10,YM,[],none⟩:=rfl
theorem zjE:U 41=some ⟨4,4,Zj,[],none⟩:=rfl
theorem zjF:U 42=some ⟨3,4,YN,[],none⟩:=rfl
theorem zjG:U 43=some ⟨2,2,YO,[],none⟩:=rfl
theorem zjH:U 44=some ⟨2,2,YQ,[],none⟩:=rfl
theorem zjI:U 49=some ⟨3,13,YS,[],none⟩:=rfl
theorem VU:U 50=some ⟨3,7,vj,[2],none⟩:=rfl
theorem zjJ:U 51=some ⟨1,8,YT,[],none⟩:=rfl
end LK
namespace LK
open L2.LW
noncomputable def zr:Nat:=100000
noncomputable abbrev call(n i:Nat)(ds:List D):Option SV:=zS U zr n i ds
theorem yo{n i:Nat}{F:Fn}{ds:List D}(h:U i=some F)(hl:ds.length=F.np)(hio:F.io=[]:=by rfl)(hx:F.xb=none:=by rfl):
  zS U zr (n+1) i ds=vh (zp (zn U zr n) zr F.body (ds.map (fun d=>some (.val d))++List.replicate (F.nl-F.np) none)):=zjk h hl hio hx
noncomputable abbrev zb:=Int×Int
noncomputable def cD(c:zb):D:=.tup [.int c.1,.int c.2]
noncomputable def fD(f:List zb):D:=.tup (f.map cD)
noncomputable def lD(f:List zb):D:=.lst (f.map cD)
@[simp] theorem zrn{c:zb}:plain (cD c)=true:=by simp[cD]
@[simp] theorem zch: ∀{l:List zb},yU (l.map cD)=true
 |[]=>by simp
 |c::r=>by simp[zch (l:=r)]
@[simp] theorem zro{f:List zb}:plain (fD f)=true:=by simp[fD]
@[simp] theorem YU{c:zb}{n:Nat}:zG (n+1) (cD c)=true:=by simp[cD,zG]
@[simp] theorem VV{n:Nat}{l:List zb}:(l.map cD).all (zG (n+1))=true:=by
 rw[List.all_map,List.all_eq_true];intro x _;exact YU
@[simp] theorem VW{a b:zb}:zO (cD a) (cD b)=decide (a=b):=by
 rw[Bool.eq_iff_iff];obtain⟨a1,a2⟩:=a;obtain⟨b1,b2⟩:=b;simp[cD,zO,yP]
@[simp] theorem zjK: ∀{a b:List zb},yP (a.map cD) (b.map cD)=decide (a=b)
 |[],[]=>by simp[yP]
 |[],_::_=>by simp[yP]
 |_::_,[]=>by simp[yP]
 |x::xs,y::ys=>by
  rw[Bool.eq_iff_iff];simp[yP,zjK (a:=xs) (b:=ys)]
@[simp] theorem VX{c:zb}{l:List zb}:((l.map cD).any fun y=>zO y (cD c))=decide (c∈l):=by
 rw[Bool.eq_iff_iff];simp[List.any_map,List.any_eq_true]
theorem ke(n:Nat)(i a b:Int):zS U zr (n+1) 0 [.int i,.int a,.int b]=some (.val (.bl (decide (a<=i)&&decide (i<=b)))):=by
 rw[yo U0 rfl];simp[Yp];by_cases h:a<=i<;>simp[h]
theorem zci(n:Nat)(c:zb):zS U zr (n+1) 1 [cD c]=some (.val (.bl true)):=by
 rw[yo U1 rfl];simp[Yq,cD]
noncomputable def vT(c:zb):Prop:=0<=c.1/\c.1<=7/\0<=c.2/\c.2<=7
theorem zjL(n:Nat){c:zb}(h:vT c):zS U zr (n+2) 2 [cD c]=some (.val (.bl true)):=by
 rw[yo U2 rfl];obtain⟨h1,h2,h3,h4⟩:=h;have h0:=zci n c;simp[Yr,h0,ke];simp[cD,ke,h1,h2,h3,h4]
noncomputable def yh(a b:zb):Prop:=a.1<b.1\/(a.1=b.1/\a.2<b.2)
noncomputable instance (a b:zb):Decidable (yh a b):=by unfold yh;exact inferInstance
@[simp] theorem zjM{a b:zb}:zh .lt [cD a,cD b]=some (.val (.bl (decide (yh a b)))):=by
 simp only[cD,zh,ZQ,ints?,Option.map_some,Option.bind_some,yw,lexLt]
 congr 3
 rw[Bool.eq_iff_iff];simp only[yh];by_cases h:a.1=b.1
 ·simp[h]
  by_cases h2:a.2=b.2
  ·simp[h2]
  ·simp[h2]
 ·simp[h]
theorem zjN{a b c:zb}(h:yh a b)(h':yh b c):yh a c:=by
 unfold yh at*;omega
theorem kf{a:zb}: ¬yh a a:=by unfold yh;omega
theorem Zk{a b:zb}(h:yh a b)(h':yh b a):False:=kf (zjN h h')
theorem zcj{a b:zb}(h:a≠b):yh a b\/yh b a:=by
 unfold yh
 have:a.1≠b.1\/a.2≠b.2:=by
  by_cases h1:a.1=b.1
  ·right;intro h2;exact h (Prod.ext h1 h2)
  ·exact .inl h1
 omega
structure OkF (f:List zb):Prop where
 ne:f≠[]
 len:f.length<=24
 cells: ∀c∈f,vT c
 rise:f.Pairwise yh
theorem OkF.nodup{f:List zb}(h:f.Pairwise yh):f.Nodup:=h.imp fun hab e=>by subst e;exact kf hab
theorem xt:(100000:Nat)<=line:=by decide
theorem zck{α:Type}{f:α->Bool}: ∀{l:List α},bools? (l.map fun x=>D.bl (f x))=some (l.map f)
 |[]=>rfl
 |x::r=>by simp[bools?,zck (l:=r)]
theorem zcl{α:Type}{f:α->Bool}{l:List α}:zh .all [.lst (l.map fun x=>D.bl (f x))]=some (.val (.bl (l.all f))):=by
 simp[zh,XF,zck,List.all_map,Function.comp_def]
theorem zjO(n:Nat){l:zb}(h:0<=l.1/\l.1<=l.2/\1<=l.2/\l.2<=4):zS U zr (n+2) 3 [cD l]=some (.val (.bl true)):=by
 rw[yo U3 rfl];obtain⟨h1,h2,h3,h4⟩:=h;have h0:=zci n l;simp[Yt,h0];simp[cD,ke,h1,h2,h3,h4]
theorem Zl{i:Int}(h:0<=i)(h':i<=1000000):wX i:=by unfold wX;omega
theorem zcm{a b:Int}(h:wX a/\wX b):yf true [.val (.int a),.val (.int b)]=some ((List.range (b-a).toNat).map fun (k:Nat)=>D.int (a+(k:Int))):=by simp[yf,h]
theorem zcn{a:Int}(h:wX a):yf true [.val (.int a)]=some ((List.range a.toNat).map fun (k:Nat)=>D.int (0+(k:Int))):=by simp[yf,h]
@[simp] theorem zrp{l:List D}:yf false [.val (.tup l)]=some l:=id rfl
@[simp] theorem zrq{l:List D}:yf false [.val (.lst l)]=some l:=id rfl
@[simp] theorem zrr{o:Bool}{l:List D}:yf false [.obj o (.lst l)]=some l:=id rfl
theorem zco{f:List zb}{k:Nat}(h:k<f.length):zh .idx [fD f,.int (k:Int)]=some (.val (cD f[k])):=by
 rw[fD,zjn,atI_nat (by simpa using h)];simp
theorem zjP(n:Nat){f:List zb}(hl:f.length<=1000)(h:f.Pairwise yh):zS U zr (n+1) 4 [fD f]=some (.val (.bl true)):=by
 rw[yo U4 rfl];have hl':=xt;have e3:((f.length:Int)-1).toNat=f.length-1:=by omega
 simp only[Yu];simp;rw[zcc (rs:=[.val (.int 1),.val (.int f.length)]) (xs:=List.range (f.length-1)) (f:=fun (k:Nat)=>D.int (1+(k:Int))) (fun _=>.bl true)]
 ·simp[zcl]
 ·simp[fD]
 ·rw[zcm ⟨Zl (by omega) (by omega),Zl (by omega) (by omega)⟩,e3]
 ·simp;omega
 ·intro k hk
  rw[List.mem_range] at hk;have e1:(1+(k:Int)-1)=(k:Int):=by omega
  have e2:(1+(k:Int))=((k+1:Nat):Int):=by omega
  have hk1:k<f.length:=by omega
  have hk2:k+1<f.length:=by omega
  have:=List.pairwise_iff_getElem.mp h k (k+1) hk1 hk2 (by omega);simp[e1];rw[zco hk1,e2,zco hk2];simp[this]
@[simp] theorem zrs{f:List zb}:wb .tuple (fD f)=true:=id rfl
@[simp] theorem zrt{c:zb}:wb .tuple (cD c)=true:=id rfl
theorem kg{f:List zb}:zh .len [fD f]=some (.val (.int f.length)):=by simp[fD]
theorem zjQ(n:Nat){f:List zb}(h:OkF f):zS U zr (n+3) 5 [fD f]=some (.val (.bl true)):=by
 rw[yo U5 rfl];have hl':=xt;have h1:=h.len;have h2:1<=f.length:=by have:=h.ne;cases f<;>simp_all
 have hr:=zjP (n+1) (by omega) h.rise;simp -implicitDefEqProofs only[Yv];simp -implicitDefEqProofs [kg,show (1:Int)<=f.length by omega,show (f.length:Int)<=24 by omega,hr];rw[zcc (rs:=[.val (fD f)]) (xs:=f) (f:=cD) (fun _=>.bl true)]
 ·simp -implicitDefEqProofs [zcl,fD]
 ·simp
 ·rfl
 ·omega
 ·intro c hc
  simp -implicitDefEqProofs [zjL n (h.cells c hc)]
theorem zcp(n:Nat){f:List zb}(h:OkF f):zS U zr (n+4) 6 [fD f]=some (.val (fD f)):=by
 rw[yo U6 rfl];simp[Yw,zjQ n h]
structure OkL (l:zb):Prop where
 a:0<=l.1
 b:l.1<=l.2
 c:1<=l.2
 d:l.2<=4
theorem zcq(n:Nat){l:zb}(h:OkL l):zS U zr (n+3) 7 [cD l]=some (.val (cD l)):=by
 rw[yo U7 rfl];simp[Yx,zjO n ⟨h.a,h.b,h.c,h.d⟩]
theorem zjR{c:zb}{f:List zb}:zh .nin [cD c,fD f]=some (.val (.bl (!decide (c∈f)))):=by
 simp only[fD,zh,wH,YU,VV,Bool.and_self,if_true,VX,yw]
theorem zjS{c:zb}{f:List zb}:zh .inn [cD c,lD f]=some (.val (.bl (decide (c∈f)))):=by
 simp only[lD,zh,jJ,YU,VV,Bool.and_self,if_true,VX,yw]
theorem kh{c:zb}{f:List zb}:zh .nin [cD c,lD f]=some (.val (.bl (!decide (c∈f)))):=by
 simp only[lD,zh,wH,YU,VV,Bool.and_self,if_true,VX,yw]
noncomputable def yS(i:Int):Int:=if i<0 then -i else i
noncomputable def zT(l a b:zb):Bool:=decide ((min (yS (a.1-b.1)) (yS (a.2-b.2)),max (yS (a.1-b.1)) (yS (a.2-b.2)))=l)
theorem VY(a b:Int):yS (a-b)=yS (b-a):=by unfold yS;split<;>split<;>omega
theorem Zm(l a b:zb):zT l a b=zT l b a:=by unfold zT;rw[VY a.1,VY a.2]
@[simp] theorem zru{c:zb}:zh .idx [cD c,.int 0]=some (.val (.int c.1)):=id rfl
@[simp] theorem zrv{c:zb}:zh .idx [cD c,.int 1]=some (.val (.int c.2)):=id rfl
theorem zjT{a b:zb}:zh .eq [cD a,cD b]=some (.val (.bl (decide (a=b)))):=by rw[VL (by simp) (by simp),VW]
noncomputable def ki(x y:Int):zb:=(min (yS x) (yS y),max (yS x) (yS y))
theorem zjU(n:Nat)(x y:Int):zS U zr (n+1) 9 [.int x,.int y]=some (.val (cD (ki x y))):=by
 rw[yo U9 rfl]
 have e: ∀x y:Int,D.tup [.int (if y<x then y else x),.int (if y>x then y else x)]=cD (min x y,max x y):=by
  intro x y;have e1:(if y<x then y else x)=min x y:=by split<;>omega
  have e2:(if y>x then y else x)=max x y:=by split<;>omega
  rw[e1,e2];rfl
 simp[Yy, -zb9, -p_max2];simp only[zb9,p_max2,Option.bind_some,xD,toD,Option.map_some,Function.comp_apply];simp;rw[e];rfl
theorem zjV(l a b:zb):decide (ki (b.1-a.1) (b.2-a.2)=l)=zT l a b:=by
 unfold zT ki;rw[VY a.1,VY a.2]
theorem zjW(n:Nat)(l a b:zb):zS U zr (n+2) 10 [cD l,cD a,cD b]=some (.val (.bl (zT l a b))):=by
 rw[yo zjq rfl];simp[Yz,zjU,zjT,zjV]
theorem zcr(n:Nat)(l c:zb){f:List zb}(h:f.length<=1000):zS U zr (n+3) 11 [fD f,cD l,cD c]=some (.obj true (.lst ((f.filter (zT l c)).map cD))):=by
 rw[yo zjr rfl];have hl':=xt;simp only[YA];simp;rw[wj (rs:=[.val (fD f)]) (xs:=f) (f:=cD) (zT l c) cD]
 ·simp
 ·simp
 ·rfl
 ·omega
 ·intro x _;simp[zjW]
 ·intro x _ _;simp
end LK
namespace LK
open L2.LW
noncomputable def sm(a:Int):Prop:= -(2 ^ 64)<a/\a<2 ^ 64
theorem kj{a:Int}(h: -1000000<=a)(h':a<=1000000):sm a:=by unfold sm;omega
theorem km{a b:Int}(h:sm b):zh .mul [.int a,.int b]=some (.val (.int (a*b))):=zjl h
noncomputable def sD(ns:List Int):D:=.lst (ns.map D.int)
noncomputable def wN(ns:List Int)(k:Int):Int:=ns.getD k.toNat 0
theorem Zn(n:Nat)(ns:List Int){k:Int}(h:0<=k):zS U zr (n+1) 13 [sD ns,.int k]=some (.val (.int (wN ns k))):=by
 rw[yo zjs rfl];obtain⟨j,rfl⟩:=Int.eq_ofNat_of_zero_le h;simp only[YB];by_cases hj:j<ns.length
 ·have hj':(j:Int)<(ns.length:Int):=by omega
  simp[sD,hj'];rw[zca,atI_nat (by simpa using hj)];simp[wN,hj]
 ·have hj': ¬(j:Int)<(ns.length:Int):=by omega
  simp[sD,hj'];simp[wN,List.getElem?_eq_none (by omega:ns.length<=j)]
theorem jv(n:Nat)(x:Int){p m:Int}(h:0<p)(h':0<m):zS U zr (n+1) 14 [.int x,.int p,.int m]=some (.val (.int (x*48271%p%m))):=by
 rw[yo zjt rfl];simp[YC,km (kj (a:=48271) (by decide) (by decide)),vy h,vy h']
structure Built (down right wide:Int)(r k:Int)(fs:List zb):Prop where
 rise:fs.Pairwise yh
 at_: ∀x∈fs,down<=x.1/\right<=x.2/\x.2<right+wide/\(x.1<down+r\/(x.1=down+r/\x.2<right+k))
theorem Built.next{down right wide r k:Int}{fs:List zb}(b:Built down right wide r k fs)(hk:0<=k)(hw:k<wide)(hr:0<=r):Built down right wide r (k+1) (fs++[(down+r,right+k)]):=by
 refine⟨?_,fun x hx=>?_⟩
 ·rw[List.pairwise_append]
  refine⟨b.rise,by simp,fun x hx y hy=>?_⟩;simp only[List.mem_singleton] at hy;subst hy;have:=b.at_ x hx;unfold yh;simp only;omega
 ·rw[List.mem_append,List.mem_singleton] at hx
  rcases hx with hx|rfl
  ·have:=b.at_ x hx;omega
  ·show down<=down+r/\right<=right+k/\right+k<right+wide/\(down+r<down+r\/(down+r=down+r/\right+k<right+(k+1)))
   omega
theorem Built.skip{down right wide r k:Int}{fs:List zb}(b:Built down right wide r k fs):Built down right wide r (k+1) fs:=
 ⟨b.rise,fun x hx=>by have:=b.at_ x hx;omega⟩
theorem Built.row{down right wide r:Int}{fs:List zb}(b:Built down right wide r wide fs):Built down right wide (r+1) 0 fs:=
 ⟨b.rise,fun x hx=>by have:=b.at_ x hx;omega⟩
theorem zjX(a b c:D){w:Int}(h:w=0\/w=1\/w=2): ∃d,(d=a\/d=b\/d=c)/\zh .idx [.lst [a,b,c],.int w]=some (.val d):=by
 rcases h with rfl|rfl|rfl
 ·exact⟨a,.inl rfl,rfl⟩
 ·exact⟨b,.inr (.inl rfl),rfl⟩
 ·exact⟨c,.inr (.inr rfl),rfl⟩
@[simp] theorem zrw{fs:List zb}{a b:Int}:fs.map cD++[.tup [.int a,.int b]]=(fs++[(a,b)]).map cD:=by simp[cD]
theorem zjY(n:Nat)(ns:List Int){at_ most x rows wide down right way r k:Int}{j12:Option SV}{fs:List zb}(h0:0<=at_)(hr:0<=r/\r<=1000)(hk:0<=k/\k<=1000)(hw:0<=way/\way<4)(hl:fs.length<=1000)(hj:zX (some j12)=true):
  ∃v fs',zX (some v)=true/\zp (zn U zr (n+1)) zr VP [some (.val (sD ns)),some (.val (.int at_)),some (.val (.int most)),some (.val (.int x)),some (.val (.int rows)),some (.val (.int wide)),some (.val (.int down)),some (.val (.int right)),some (.val (.int way)),
   some (.obj true (.lst (fs.map cD))),some (.val (.int r)),some (.val (.int k)),j12]=
   some (.nx,[some (.val (sD ns)),some (.val (.int at_)),some (.val (.int most)),some (.val (.int x)),some (.val (.int rows)),some (.val (.int wide)),some (.val (.int down)),some (.val (.int right)),some (.val (.int way)),
   some (.obj true (.lst (fs'.map cD))),some (.val (.int r)),some (.val (.int k)),v])/\(fs'=fs\/fs'=fs++[(down+r,right+k)]):=by
 have m1:sm r:=kj (by omega) (by omega);have m2:sm k:=kj (by omega) (by omega);have h7:(0:Int)<7:=by decide
 have hi:0<=at_+2+(r+2*k)%7:=by omega
 have hl':=xt;have hl2:fs.length<line:=by omega
 simp only[VP];simp[km m1,km m2,vy h7,Zn n ns hi,hj];by_cases hz:way=0
 ·simp[hz,hl2]
  exact⟨_,wA,fs++[(down+r,right+k)],by simp;rfl,.inr rfl⟩
 ·obtain⟨d,hd,e⟩:=zjX (.int 2) (.int 4) (.int 7) (w:=way-1) (by omega)
  simp[hz,e]
  have key: ∃m,d= .int m/\0<m:=by
   rcases hd with rfl|rfl|rfl
   ·exact⟨_,rfl,by decide⟩
   ·exact⟨_,rfl,by decide⟩
   ·exact⟨_,rfl,by decide⟩
  obtain⟨m,rfl,hm⟩:=key;simp[jv n _ (show (0:Int)<9931 by decide) hm];split
  ·simp[hl2]
   exact⟨_,wA,fs++[(down+r,right+k)],by simp;rfl,.inr rfl⟩
  ·exact⟨_,wA,fs,rfl,.inl rfl⟩
noncomputable def wk(ns:List Int)(at_ most x rows wide down right way:Int)(fs:List zb)(a b c:Option SV):Env:=
 [some (.val (sD ns)),some (.val (.int at_)),some (.val (.int most)),some (.val (.int x)),some (.val (.int rows)),some (.val (.int wide)),some (.val (.int down)),some (.val (.int right)),some (.val (.int way)),some (.obj true (.lst (fs.map cD))),a,b,c]
theorem zjZ(n:Nat)(ns:List Int){at_ most x rows wide down right way:Int}{r:Nat}{fs:List zb}{b c:Option SV}(h0:0<=at_)(hr:r<=100)(hw:0<=wide/\wide<=6)(hy:0<=way/\way<4)(hl:fs.length<=6*r)(hb:Built down right wide r 0 fs)(fb:zX (some b)=true)(fc:zX (some c)=true):
  ∃a' b' c' fs',(zX (some a')=true/\zX (some b')=true/\zX (some c')=true)/\zp (zn U zr (n+1)) zr YR (wk ns at_ most x rows wide down right way fs (some (.val (.int r))) b c)=some (.nx,wk ns at_ most x rows wide down right way fs' a' b' c')/\fs'.length<=6*(r+1)/\Built down right wide (r+1:Nat) 0 fs':=by
 obtain⟨ρ',h1,b',c',fs',fr,rfl,h2,h3⟩:=zce (i:=11) (a:=0) (m:=wide.toNat) (body:=zp (zn U zr (n+1)) zr VP)
  (fun k ρ=>∃b' c' fs',(zX (some b')=true/\zX (some c')=true)/\ρ=wk ns at_ most x rows wide down right way fs' (some (.val (.int r))) b' c'/\fs'.length<=6*r+k/\Built down right wide r (k:Int) fs') (ρ:=wk ns at_ most x rows wide down right way fs (some (.val (.int r))) b c)
  ⟨b,c,fs,⟨fb,fc⟩,rfl,by omega,hb⟩ fun k ρ hk zz3=>by
   obtain⟨b',c',fs',fr,e,h2,h3⟩:=zz3;subst e;obtain⟨v,fs2,fv,e1,e2⟩:=zjY n ns (at_:=at_) (most:=most) (x:=x) (rows:=rows) (wide:=wide) (down:=down) (right:=right) (way:=way) (r:=r) (k:=0+(k:Int)) (j12:=c') (fs:=fs') h0 (by omega) (by omega) hy (by omega) fr.2;refine⟨_,_,e1,.inl rfl,_,v,fs2,⟨wA,fv⟩,rfl,?_⟩;rw[Int.zero_add] at e2;rcases e2 with rfl|rfl
   ·exact⟨by omega,h3.skip⟩
   ·exact⟨by simp;omega,h3.next (by omega) (by omega) (by omega)⟩
 refine⟨some (.val (.int r)),b',c',fs',⟨wA,fr.1,fr.2⟩,?_,by omega,?_⟩
 ·simp only[YR,Yn,vR,zb0,zbZ,zbV,zb2]
  rw[show (wk ns at_ most x rows wide down right way fs (some (.val (.int r))) b c)[11]? =some b from rfl,fb,show look (wk ns at_ most x rows wide down right way fs (some (.val (.int r))) b c) 5=some (.val (.int wide)) from rfl];simp[zcn (Zl hw.1 (by omega:wide<=1000000))];rw[show (List.map (fun (k:Nat)=>D.int (k:Int)) (List.range wide.toNat))=(List.range wide.toNat).map fun (k:Nat)=>D.int (0+(k:Int)) by simp,h1];simp
 ·have e:(wide.toNat:Int)=wide:=by omega
  rw[e] at h3;have:=h3.row;simpa using this
theorem zj0(n:Nat)(ns:List Int){at_ most x rows wide down right way:Int}{a b c:Option SV}(h0:0<=at_)(hr:0<=rows/\rows<=5)(hw:0<=wide/\wide<=6)(hy:0<=way/\way<4)(fa:zX (some a)=true)(fb:zX (some b)=true)(fc:zX (some c)=true):
  ∃a' b' c' fs',zJ (zn U zr (n+1)) zr (.for_ 10 true (.cons (.var 4) .nil) YR) (wk ns at_ most x rows wide down right way [] a b c)=some (.nx,wk ns at_ most x rows wide down right way fs' a' b' c')/\Built down right wide rows 0 fs'/\fs'.length<=30:=by
 obtain⟨ρ',h1,a',b',c',fs',fr,rfl,h2,h3⟩:=zce (i:=10) (a:=0) (m:=rows.toNat) (body:=zp (zn U zr (n+1)) zr YR)
  (fun k ρ=>∃a' b' c' fs',(zX (some a')=true/\zX (some b')=true/\zX (some c')=true)/\ρ=wk ns at_ most x rows wide down right way fs' a' b' c'/\fs'.length<=6*k/\Built down right wide (k:Int) 0 fs') (ρ:=wk ns at_ most x rows wide down right way [] a b c)
  ⟨a,b,c,[],⟨fa,fb,fc⟩,rfl,by simp,⟨by simp,by simp⟩⟩ fun k ρ hk zz3=>by
   obtain⟨a',b',c',fs',fr,e,h2,h3⟩:=zz3;subst e;obtain⟨a2,b2,c2,fs2,fr2,e1,e2,e3⟩:=zjZ n ns (at_:=at_) (most:=most) (x:=x) (rows:=rows) (wide:=wide) (down:=down) (right:=right) (way:=way) (r:=k) (fs:=fs') (b:=b') (c:=c') h0 (by omega) hw hy h2 h3 fr.2.1 fr.2.2;refine⟨_,_,?_,.inl rfl,a2,b2,c2,fs2,fr2,rfl,e2,e3⟩;rw[Int.zero_add];exact e1
 refine⟨a',b',c',fs',?_,?_,by omega⟩
 ·simp only[vR,zb0,zbZ,zbV,zb2]
  rw[show (wk ns at_ most x rows wide down right way [] a b c)[10]? =some a from rfl,fa,show look (wk ns at_ most x rows wide down right way [] a b c) 4=some (.val (.int rows)) from rfl];simp[zcn (Zl hr.1 (by omega:rows<=1000000))];rw[show (List.map (fun (k:Nat)=>D.int (k:Int)) (List.range rows.toNat))=(List.range rows.toNat).map fun (k:Nat)=>D.int (0+(k:Int)) by simp,h1]
 ·have e:(rows.toNat:Int)=rows:=by omega
  rw[e] at h3;exact h3
theorem zcs{fs:List zb}{k:Int}(h:0<=k):zh .cutTo [.lst (fs.map cD),.int k]=some (.obj true (.lst ((fs.take k.toNat).map cD))):=by
 simp[zh,XG,h]
noncomputable def zj1(f:List zb):Prop:=∃d:Int,∀c∈f,d<=c.1/\c.1<d+5
theorem zj2(n:Nat)(ns:List Int){at_ most:Int}(h0:0<=at_)(hm:1<=most)(hm2:most<=24): ∃f,OkF f/\(f.length:Int)<=most/\zj1 f/\zS U zr (n+2) 49 [sD ns,.int at_,.int most]=some (.val (fD f)):=by
 rw[yo zjI rfl];simp only[YS];have p5:(0:Int)<5:=by decide
 have p6:(0:Int)<6:=by decide
 have p4:(0:Int)<4:=by decide
 have q1:(0:Int)<9973:=by decide
 have q2:(0:Int)<9967:=by decide
 have q3:(0:Int)<9949:=by decide
 have q4:(0:Int)<9941:=by decide
 have q5:(0:Int)<9907:=by decide
 have h1:0<=at_+1:=by omega
 simp[Zn n ns h0,Zn n ns h1,jv n _ q1 p5,jv n _ q2 p6,jv n _ q5 p4];generalize hx:wN ns at_=x;generalize hrows:1+x*48271%9973%5=rows;generalize hwide:1+x*48271%9967%6=wide;have hr9:0<9-rows:=by omega
 have hw9:0<9-wide:=by omega
 simp[jv n _ q3 hr9,jv n _ q4 hw9,Zn n ns h1,jv n _ q5 p4];generalize hdown:wN ns (at_+1)*48271%9949%(9-rows)=down;generalize hright:wN ns (at_+1)*48271%9941%(9-wide)=right;generalize hway:(x+3)*48271%9907%4=way;have bw:0<=way/\way<4:=by omega
 have bd:0<=down/\down<9-rows:=by rw[<-hdown];exact⟨Int.emod_nonneg _ (by omega),Int.emod_lt_of_pos _ hr9⟩
 have br:0<=right/\right<9-wide:=by rw[<-hright];exact⟨Int.emod_nonneg _ (by omega),Int.emod_lt_of_pos _ hw9⟩
 obtain⟨a',b',c',fs,e1,hb,hl⟩:=zj0 n ns (at_:=at_) (most:=most) (x:=x) (rows:=rows) (wide:=wide) (down:=down) (right:=right) (way:=way) (a:=none) (b:=none) (c:=none) h0 (by omega) (by omega) bw rfl rfl rfl;have e1':=e1;simp only[wk,List.map_nil] at e1'
 have hok: ∀c∈fs,vT c:=fun c hc=>by
  have:=hb.at_ c hc;unfold vT;omega
 by_cases hf:fs=[]
 ·subst hf
  refine⟨[(down,right)],⟨by simp,by simp,fun c hc=>?_,by simp⟩,by simp;omega,⟨down,fun c hc=>?_⟩,?_⟩
  ·simp at hc;subst hc;unfold vT;simp only;omega
  ·simp at hc;subst hc;simp only;omega
  ·simp[e1']
   rw[show D.tup [.int down,.int right]=cD (down,right) from rfl,show ([cD (down,right)]:List D)=[(down,right)].map cD from rfl,zcs (by omega)];rw[List.take_of_length_le (by simp;omega)];simp[fD]
 ·refine⟨fs.take most.toNat,⟨fun h=>?_,?_,fun c hc=>hok c (List.mem_of_mem_take hc),hb.rise.sublist (List.take_sublist _ _)⟩,?_,⟨down,fun c hc=>?_⟩,?_⟩
  ·rw[List.take_eq_nil_iff] at h
   rcases h with h|h
   ·omega
   ·exact hf h
  ·rw[List.length_take];omega
  ·rw[List.length_take];omega
  ·have:=hb.at_ c (List.mem_of_mem_take hc)
   omega
  ·have hne:fs.map cD≠[]:=by simpa using hf
   simp[e1',hne,hf];rw[zcs (by omega)];simp[fD]
theorem zct(n:Nat)(ns:List Int){at_ most:Int}(h0:0<=at_)(hm:1<=most)(hm2:most<=24): ∃f,OkF f/\(f.length:Int)<=most/\zS U zr (n+2) 49 [sD ns,.int at_,.int most]=some (.val (fD f)):=by
 obtain⟨f,h1,h2,_,h3⟩:=zj2 n ns h0 hm hm2;exact⟨f,h1,h2,h3⟩
end LK
namespace LK
open L2.LW
noncomputable def YV:List zb:=[(1,2),(0,1),(1,1),(1,2),(0,2),(1,3),(2,3),(0,1),(1,2),(2,2),(0,3),(1,4),(2,4),(3,3),(3,4),(0,4),(4,4),(1,2),(1,1)]
theorem zj3: ∀l∈YV,OkL l:=by
 intro l hl;simp only[YV,List.mem_cons,List.not_mem_nil,or_false] at hl;rcases hl with rfl|rfl|rfl|rfl|rfl|rfl|rfl|rfl|rfl|rfl|rfl|rfl|rfl|rfl|rfl|rfl|rfl|rfl|rfl<;>exact⟨by decide,by decide,by decide,by decide⟩
theorem zj4(n:Nat)(x:Int): ∃l,OkL l/\zS U zr (n+1) 16 [.int x]=some (.val (cD l)):=by
 rw[yo zju rfl];have h19:(0:Int)<19:=by decide
 have hl:=xt;obtain⟨k,hk⟩:=Int.eq_ofNat_of_zero_le (Int.emod_nonneg x (by decide:(19:Int)≠0));have hk2:k<19:=by have:=Int.emod_lt_of_pos x h19;omega
 have hlen:YV.length=19:=rfl;refine⟨YV[k]'(by omega),zj3 _ (Kv _),?_⟩;simp only[YD];simp[vy h19,hk];rw[kc (by simp;omega)];simp
 rw[show ([D.tup [.int 1,.int 2],.tup [.int 0,.int 1],.tup [.int 1,.int 1],.tup [.int 1,.int 2],.tup [.int 0,.int 2],.tup [.int 1,.int 3],.tup [.int 2,.int 3],.tup [.int 0,.int 1],.tup [.int 1,.int 2],.tup [.int 2,.int 2],.tup [.int 0,.int 3],.tup [.int 1,.int 4],.tup [.int 2,.int 4],
  .tup [.int 3,.int 3],.tup [.int 3,.int 4],.tup [.int 0,.int 4],.tup [.int 4,.int 4],.tup [.int 1,.int 2],.tup [.int 1,.int 1]]:List D)=YV.map cD from rfl]
 rw[zca,atI_nat (by simp;omega)];simp
theorem zj5(x y:Int):vq [x,y]=[min x y,max x y]:=by
 by_cases h:x<=y
 ·simp[vq,List.mergeSort,List.MergeSort.Internal.splitInTwo,h,List.merge]
  omega
 ·simp[vq,List.mergeSort,List.MergeSort.Internal.splitInTwo,h,List.merge]
  omega
theorem ko(n:Nat)(l a b:zb):zS U zr (n+1) 17 [cD l,cD a,cD b]=some (.val (.bl (zT l a b))):=by
 rw[yo zjv rfl];simp only[YE];simp
 have e:zh .sorted [.lst [.int (if a.1-b.1<0 then -(a.1-b.1) else a.1-b.1),.int (if a.2-b.2<0 then -(a.2-b.2) else a.2-b.2)]]=some (.obj true (.lst [.int (min (yS (a.1-b.1)) (yS (a.2-b.2))),.int (max (yS (a.1-b.1)) (yS (a.2-b.2)))])):=by
  simp[zh,XE,JX,ints?,zj5,yS]
 rw[e,show zh .toList [cD l]=some (.obj true (.lst [.int l.1,.int l.2])) from rfl];simp;rw[VL (by simp[zG]) (by simp[zG])];simp[zO,yP];unfold zT;rw[Bool.eq_iff_iff];obtain⟨l1,l2⟩:=l;simp
theorem zj6(n:Nat)(l c:zb){f:List zb}(h:f.length<=1000):zS U zr (n+2) 18 [fD f,cD l,cD c]=some (.obj true (.lst ((f.filter (zT l c)).map cD))):=by
 rw[yo zcg rfl];have hl':=xt;simp only[Zh];simp;rw[wj (rs:=[.val (fD f)]) (xs:=f) (f:=cD) (zT l c) cD]
 ·simp
 ·simp
 ·rfl
 ·omega
 ·intro x _;simp[ko]
 ·intro x _ _;simp
noncomputable def depth:Nat:=40
end LK
namespace LK
open L2.LW
noncomputable abbrev Ms:=List (zb×zb)
noncomputable def dD(ms:Ms):D:=.dct true (ms.map fun p=>cD p.1) (ms.map fun p=>cD p.2)
noncomputable def get(ms:Ms)(c:zb):Option zb:=(ms.find? fun p=>decide (p.1=c)).map (·.2)
noncomputable def put(ms:Ms)(c v:zb):Ms:=if (get ms c).isSome then ms.map (fun p=>if p.1=c then (p.1,v) else p) else ms++[(c,v)]
@[simp] theorem Zo{c:zb}:yK true (cD c)=true:=by simp[cD,yK,ints?]
theorem zcu(c:zb): ∀l:List zb,xi (l.map cD) (cD c)=l.findIdx? fun x=>decide (x=c)
 |[]=>rfl
 |x::r=>by
  have ih:=zcu c r;unfold xi at ih⊢;rw[List.map_cons,List.findIdx?_cons,List.findIdx?_cons,VW,ih]
theorem YW(c:zb): ∀l:List zb,(xi (l.map cD) (cD c)).isSome=decide (c∈l):=fun l=>by
 rw[zcu]
 cases e:l.findIdx? fun x=>decide (x=c) with
 |none=>
  rw[List.findIdx?_eq_none_iff] at e;have:c∉l:=fun h=>by have:=e c h;simp at this
  simp[this]
 |some i=>
  obtain⟨h1,h2,_⟩:=List.findIdx?_eq_some_iff_getElem.mp e
  have:c∈l:=by
   have h2:l[i]=c:=by simpa using h2
   rw[<-h2];exact Kv h1
  simp[this]
theorem zcv(c:zb):get [] c=none:=rfl
theorem jw(p:zb×zb)(r:Ms)(c:zb):get (p::r) c=if p.1=c then some p.2 else get r c:=by
 unfold get;rw[List.find?_cons];by_cases h:p.1=c<;>simp[h]
theorem Zp(c:zb): ∀ms:Ms,(get ms c).isSome=decide (c∈ms.map (·.1))
 |[]=>rfl
 |p::r=>by
  rw[jw,List.map_cons];by_cases h:p.1=c
  ·simp[h]
  ·rw[if_neg h,Zp c r]
   have: ¬c=p.1:=fun z=>h z.symm
   simp[this]
theorem zcw(c:zb): ∀ms:Ms,ji (ms.map fun p=>cD p.1) (ms.map fun p=>cD p.2) (cD c)=(get ms c).map cD
 |[]=>rfl
 |p::r=>by
  have ih:=zcw c r;unfold ji xi at ih⊢;rw[List.map_cons,List.map_cons,List.findIdx?_cons,VW,jw];by_cases h:p.1=c
  ·simp[h]
  ·rw[if_neg h,<-ih]
   simp only[h,decide_false,Bool.false_eq_true,if_false];cases (List.findIdx? (fun x=>zO x (cD c)) (r.map fun p=>cD p.1))<;>simp
theorem VZ(ms:Ms):(ms.map fun p=>cD p.1)=(ms.map (·.1)).map cD:=by rw[List.map_map];rfl
@[simp] theorem zrx{c:zb}{ms:Ms}:zh .inn [cD c,dD ms]=some (.val (.bl (get ms c).isSome)):=by
 simp only[dD,zh,jJ,Zo,if_true,yw,VZ,YW,Zp]
@[simp] theorem zry{c:zb}{ms:Ms}:zh .nin [cD c,dD ms]=some (.val (.bl (!(get ms c).isSome))):=by
 simp only[dD,zh,wH,Zo,if_true,yw,VZ,YW,Zp]
theorem YX{c:zb}{ms:Ms}{v:zb}(h:get ms c=some v):zh .idx [dD ms,cD c]=some (.val (cD v)):=by
 simp only[dD,zh,XD,Zo,if_true,zcw,h,Option.map_some]
theorem zj7(ms:Ms)(c v:zb):xX true (ms.map fun p=>cD p.1) (ms.map fun p=>cD p.2) (cD c) (cD v)=dD (put ms c v):=by
 unfold xX put;rw[VZ,YW,<-Zp,<-VZ];split
 ·have: ∀ms:Ms,List.zipWith (fun k' v'=>if zO k' (cD c)=true then cD v else v') (ms.map fun p=>cD p.1) (ms.map fun p=>cD p.2)=ms.map fun p=>cD (if p.1=c then (p.1,v) else p).2:=by
   intro ms
   induction ms with
   |nil=>rfl
   |cons p r ih=>
    rw[List.map_cons,List.map_cons,List.zipWith_cons_cons,ih,List.map_cons,VW];by_cases h:p.1=c<;>simp[h]
  rw[this];unfold dD;rw[List.map_map,List.map_map]
  congr 1
  ·apply List.map_congr_left
   intro p _;show cD p.1=cD (if p.1=c then (p.1,v) else p).1;split<;>rfl
 ·simp[dD]
@[simp] theorem zrz{ms:Ms}:yU (ms.map fun p=>cD p.2)=true:=by
 have:(ms.map fun p=>cD p.2)=(ms.map (·.2)).map cD:=by rw[List.map_map];rfl
 rw[this];exact zch
@[simp] theorem zrA{ms:Ms}:wI (dD ms)=true:=by simp[dD]
@[simp] theorem zrB{ms:Ms}:xC (dD ms)=true:=by simp[dD]
theorem Zq(ms:Ms)(c v x:zb):get (put ms c v) x=if x=c then some v else get ms x:=by
 unfold put;split
 ·rename_i h
  have key: ∀ms:Ms,get (ms.map fun p=>if p.1=c then (p.1,v) else p) x=if x=c then (get ms x).map (fun _=>v) else get ms x:=by
   intro ms
   induction ms with
   |nil=>simp[zcv]
   |cons p r ih=>
    rw[List.map_cons,jw,jw,ih];by_cases h1:p.1=c
    ·subst h1
     by_cases h2:p.1=x
     ·subst h2;simp
     ·have h3: ¬x=p.1:=fun z=>h2 z.symm
      simp[h2,h3]
    ·by_cases h2:p.1=x
     ·subst h2;simp[h1]
     ·simp[h1,h2]
  rw[key];by_cases hx:x=c
  ·subst hx
   obtain⟨y,hy⟩:=Option.isSome_iff_exists.mp h;simp[hy]
  ·simp[hx]
 ·rename_i h
  have key: ∀ms:Ms,get (ms++[(c,v)]) x=match get ms x with
    |some y=>some y
    |none=>if x=c then some v else none:=by
   intro ms
   induction ms with
   |nil=>
    show get ((c,v)::[]) x=_;rw[jw,zcv];by_cases h:c=x
    ·subst h;simp
    ·have: ¬x=c:=fun z=>h z.symm
     simp[h,this]
   |cons p r ih=>
    rw[List.cons_append,jw,jw,ih];by_cases h:p.1=x<;>simp[h]
  rw[key];by_cases hx:x=c
  ·subst hx
   have:get ms x=none:=by simpa using h
   simp[this]
  ·cases get ms x<;>simp[hx]
theorem zcx(ms:Ms)(c v:zb):(put ms c v).length<=ms.length+1:=by
 unfold put;split<;>simp
noncomputable def YY(ms:Ms):Prop:=(ms.map (·.1)).Nodup
theorem zj8(ms:Ms)(c v:zb):(put ms c v).map (·.1)=if c∈ms.map (·.1) then ms.map (·.1) else ms.map (·.1)++[c]:=by
 unfold put;rw[Zp];by_cases h:c∈ms.map (·.1)
 ·simp only[h,decide_true,if_true]
  rw[List.map_map];apply List.map_congr_left;intro p _;show (if p.1=c then (p.1,v) else p).1=p.1;split<;>rfl
 ·simp[h]
theorem zcy{ms:Ms}{c v:zb}(h:YY ms):YY (put ms c v):=by
 unfold YY at*;rw[zj8];split
 ·exact h
 ·rename_i hc
  rw[List.nodup_append];refine⟨h,by simp,fun a ha b hb e=>?_⟩;simp at hb;subst hb;subst e;exact hc ha
theorem jx{α:Type}[DecidableEq α]: ∀{l m:List α},l.Nodup->(∀x∈l,x∈m)->l.length<=m.length
 |[],_,_,_=>Nat.zero_le _
 |x::r,m,hn,hs=>by
  rw[List.nodup_cons] at hn;have hx:=hs x Ke
  have ih:=jx (l:=r) (m:=m.erase x) hn.2 fun y hy=>by
   rw[List.mem_erase_of_ne (fun e=>hn.1 (by rw[<-e];exact hy))];exact hs y (Kf _ hy)
  rw[List.length_erase_of_mem hx] at ih;have:0<m.length:=List.length_pos_of_mem hx;simp;omega
noncomputable def Ja(l:zb):List Int:=((List.range l.2.toNat).map fun (k:Nat)=>(1+(k:Int))).filter fun d=>decide (l.1%d=0)&&decide (l.2%d=0)
noncomputable def zY(l:zb):Int:=match Ja l with
 |[]=>1
 |n::r=>r.foldl max n
theorem zcz{l:zb}(h:OkL l):l∈[((0:Int),(1:Int)),(1,1),(0,2),(1,2),(2,2),(0,3),(1,3),(2,3),(3,3),(0,4),(1,4),(2,4),(3,4),(4,4)]:=by
 obtain⟨h1,h2,h3,h4⟩:=h;have all: ∀i j:Fin 5,i.1<=j.1->1<=j.1->(((i.1:Nat):Int),((j.1:Nat):Int))∈[((0:Int),(1:Int)),(1,1),(0,2),(1,2),(2,2),(0,3),(1,3),(2,3),(3,3),(0,4),(1,4),(2,4),(3,4),(4,4)]:=by decide+kernel
 have:=all ⟨l.1.toNat,by omega⟩ ⟨l.2.toNat,by omega⟩ (by simp only;omega) (by simp only;omega);simp only at this;rw[Int.toNat_of_nonneg h1,Int.toNat_of_nonneg (by omega)] at this;exact this
theorem OkL.cases{P:zb->Prop}{l:zb}(h:OkL l)(p: ∀x∈[((0:Int),(1:Int)),(1,1),(0,2),(1,2),(2,2),(0,3),(1,3),(2,3),(3,3),(0,4),(1,4),(2,4),(3,4),(4,4)],P x):P l:=p l (zcz h)
theorem kq{l:zb}(h:OkL l):Ja l≠[]/\1<=zY l/\zY l<=4:=by
 revert l
 intro l h;have:=zcz h;simp only[List.mem_cons,List.not_mem_nil,or_false] at this;rcases this with rfl|rfl|rfl|rfl|rfl|rfl|rfl|rfl|rfl|rfl|rfl|rfl|rfl|rfl<;>decide+kernel
theorem zcA(n:Nat){l:zb}(h:OkL l):zS U zr (n+1) 21 [cD l]=some (.val (.int (zY l))):=by
 rw[yo zjw rfl];have hl':=xt;have h3:=h.c;have h4:=h.d;have e3:(l.2+1-1).toNat=l.2.toNat:=by omega
 simp only[YF];simp;rw[wj (rs:=[.val (.int 1),.val (.int (l.2+1))]) (xs:=(List.range l.2.toNat).map fun (k:Nat)=>(1+(k:Int))) (f:=D.int) (fun d=>decide (l.1%d=0)&&decide (l.2%d=0)) D.int]
 ·obtain⟨hne,_⟩:=kq h
  show vh ((((zh .maxL [.lst ((Ja l).map D.int)])).bind _).bind _)=_;unfold zY
  cases e:Ja l with
  |nil=>exact KG e hne
  |cons n r=>
   rw[zjm];simp
 ·simp
 ·rw[zcm ⟨Zl (by omega) (by omega),Zl (by omega) (by omega)⟩,e3,List.map_map]
  rfl
 ·simp;omega
 ·intro d hd
  rw[List.mem_map] at hd;obtain⟨k,hk,rfl⟩:=hd;have hp:0<1+(k:Int):=by omega
  simp[vy hp];by_cases h0:l.1%(1+(k:Int))=0
  ·simp[h0];rw[Bool.eq_iff_iff];simp
  ·simp[h0]
 ·intro d hd _
  simp
noncomputable def wO(l:zb):Bool:=decide ((l.1/zY l+l.2/zY l)%2=1)
noncomputable def zB(l c:zb):Int:=if wO l then (c.1/zY l+c.2/zY l)%2 else c.1/zY l%2
theorem zj9(n:Nat){l:zb}(h:OkL l):zS U zr (n+2) 22 [cD l]=some (.val (.bl (wO l))):=by
 rw[yo zjx rfl];obtain⟨_,g1,g2⟩:=kq h;have hg:0<zY l/\zY l<1073741824:=by omega
 have h2:(0:Int)<2:=by decide
 simp[YG,zcA n h,zb8 hg,vy h2];unfold wO;rw[Bool.eq_iff_iff];simp
theorem zcB(n:Nat){l:zb}(h:OkL l)(c:zb):zS U zr (n+3) 23 [cD l,cD c]=some (.val (.int (zB l c))):=by
 rw[yo zjy rfl];obtain⟨_,g1,g2⟩:=kq h;have hg:0<zY l/\zY l<1073741824:=by omega
 have h2:(0:Int)<2:=by decide
 simp[YH,zcA (n+1) h,zj9 n h,zb8 hg,vy h2];unfold zB;by_cases ho:wO l=true<;>simp[ho,vy h2]
theorem zcC(n:Nat){l:zb}(h:OkL l){f:List zb}(hf:f.length<=1000)(k:Int):zS U zr (n+4) 24 [fD f,cD l,.int k]=some (.obj true (.lst ((f.filter fun c=>decide (zB l c=k)).map cD))):=by
 rw[yo zjz rfl];have hl':=xt;simp only[YI];simp;rw[wj (rs:=[.val (fD f)]) (xs:=f) (f:=cD) (fun c=>decide (zB l c=k)) cD]
 ·simp
 ·simp
 ·rfl
 ·omega
 ·intro x _
  simp[zcB n h];rw[Bool.eq_iff_iff];simp
 ·intro x _ _;simp
theorem zcD(i:Int):(yS i=i/\0<=i)\/(yS i= -i/\i<0):=by
 unfold yS;split<;>omega
theorem zka{l a b:zb}:zT l a b=true↔(yS (a.1-b.1)=l.1/\yS (a.2-b.2)=l.2/\l.1<=l.2)\/(yS (a.1-b.1)=l.2/\yS (a.2-b.2)=l.1/\l.1<=l.2):=by
 unfold zT;rw[decide_eq_true_iff];obtain⟨l1,l2⟩:=l;simp only[Prod.mk.injEq];omega
theorem zkb{l:zb}(h:OkL l):1<=zY l/\l.1=zY l*(l.1/zY l)/\l.2=zY l*(l.2/zY l)/\(wO l=false->l.1/zY l%2=1/\l.2/zY l%2=1):=
 OkL.cases (P:=fun l=>1<=zY l/\l.1=zY l*(l.1/zY l)/\l.2=zY l*(l.2/zY l)/\(wO l=false->l.1/zY l%2=1/\l.2/zY l%2=1)) h (by decide+kernel)
theorem Jb{g m x y:Int}(hg:1<=g)(h:x-y=g*m\/x-y= -(g*m)):(x/g=y/g+m\/x/g=y/g-m)/\x%g=y%g:=by
 rcases h with h|h
 ·rw[show x=y+g*m by omega,Int.add_mul_ediv_left _ _ (by omega),Int.add_mul_emod_self_left]
  exact⟨.inl rfl,rfl⟩
 ·rw[show x=y+g*(-m) by rw[Int.mul_neg];omega,Int.add_mul_ediv_left _ _ (by omega),Int.add_mul_emod_self_left]
  exact⟨.inr (by omega),rfl⟩
theorem zkc{l a b:zb}(h:OkL l)(hn:zT l a b=true): ∃m n:Int,(a.1/zY l=b.1/zY l+m\/a.1/zY l=b.1/zY l-m)/\(a.2/zY l=b.2/zY l+n\/a.2/zY l=b.2/zY l-n)/\
  a.1%zY l=b.1%zY l/\a.2%zY l=b.2%zY l/\(wO l=true->(m+n)%2=1)/\(wO l=false->m%2=1/\n%2=1):=by
 obtain⟨g1,e1,e2,ev⟩:=zkb h;have od:wO l=true->(l.1/zY l+l.2/zY l)%2=1:=fun z=>by unfold wO at z;exact of_decide_eq_true z
 have ha:=zcD (a.1-b.1);have hb:=zcD (a.2-b.2);rw[zka] at hn;generalize zY l=g at*;generalize l.1/g=m at*;generalize l.2/g=n at*;rw[e1,e2] at hn;rcases hn with ⟨p,q,_⟩|⟨p,q,_⟩
 ·obtain⟨s1,s2⟩:=Jb (x:=a.1) (y:=b.1) g1 (m:=m) (by omega)
  obtain⟨t1,t2⟩:=Jb (x:=a.2) (y:=b.2) g1 (m:=n) (by omega);exact⟨m,n,s1,t1,s2,t2,od,ev⟩
 ·obtain⟨s1,s2⟩:=Jb (x:=a.1) (y:=b.1) g1 (m:=n) (by omega)
  obtain⟨t1,t2⟩:=Jb (x:=a.2) (y:=b.2) g1 (m:=m) (by omega);exact⟨n,m,s1,t1,s2,t2,fun z=>by have:=od z;omega,fun z=>⟨(ev z).2,(ev z).1⟩⟩
theorem vU{l a b:zb}(h:OkL l)(hn:zT l a b=true):zB l a≠zB l b:=by
 obtain⟨m,n,s,t,_,_,od,ev⟩:=zkc h hn;unfold zB;by_cases z:wO l=true
 ·have:=od z
  rw[if_pos z,if_pos z];omega
 ·have:=(ev (by simpa using z)).1
  rw[if_neg z,if_neg z];omega
theorem wB{l:zb}(c:zb):zB l c=0\/zB l c=1:=by
 unfold zB;split<;>omega
end LK
namespace LK
open L2.LW
theorem zcE{i:Nat}{body:Env->Option (Fl×Env)}(I:List zb->Env->Prop)(Q:SV->Env->Prop){xs:List zb}{ρ:Env}(h0:I [] ρ)
  (st: ∀pre x post ρ,xs=pre++x::post->I pre ρ->∃fl ρ',body (ρ.set i (some (.val (cD x))))=some (fl,ρ')/\(((fl= .nx\/fl= .ct)/\I (pre++[x]) ρ')\/∃r,fl= .rt r/\Q r ρ')):
  ∃fl ρ',yx i body (xs.map cD) ρ=some (fl,ρ')/\((fl= .nx/\I xs ρ')\/∃r,fl= .rt r/\Q r ρ'):=by
 have key: ∀(post pre:List zb) (ρ:Env),xs=pre++post->I pre ρ->∃fl ρ',yx i body (post.map cD) ρ=some (fl,ρ')/\((fl= .nx/\I xs ρ')\/∃r,fl= .rt r/\Q r ρ'):=by
  intro post
  induction post with
  |nil=>intro pre ρ e h;exact⟨_,ρ,rfl,.inl ⟨rfl,by rw[e];simpa using h⟩⟩
  |cons x post ih=>
   intro pre ρ e h;obtain⟨fl,ρ1,e1,e2⟩:=st pre x post ρ e h;rw[List.map_cons,yx,e1];simp only[Option.bind_some];rcases e2 with ⟨e2,h1⟩|⟨r,rfl,q⟩
   ·obtain⟨fl',ρ',e3,h3⟩:=ih (pre++[x]) ρ1 (by simp[e]) h1
    rcases e2 with rfl|rfl<;>exact⟨fl',ρ',e3,h3⟩
   ·exact⟨_,ρ1,rfl,.inr ⟨r,rfl,q⟩⟩
 exact key xs [] ρ rfl h0
theorem Jc{i:Nat}{body:Env->Option (Fl×Env)}(I:List zb->Env->Prop){xs:List zb}{ρ:Env}(h0:I [] ρ)
  (st: ∀pre x post ρ,xs=pre++x::post->I pre ρ->∃fl ρ',body (ρ.set i (some (.val (cD x))))=some (fl,ρ')/\(fl= .nx\/fl= .ct)/\I (pre++[x]) ρ'):
  ∃ρ',yx i body (xs.map cD) ρ=some (.nx,ρ')/\I xs ρ':=by
 obtain⟨fl,ρ',e,h⟩:=zcE (i:=i) (body:=body) I (fun _ _=>False) (xs:=xs) (ρ:=ρ) h0 fun pre x post ρ e h=>by
  obtain⟨fl,ρ',h1,h2,h3⟩:=st pre x post ρ e h;exact⟨fl,ρ',h1,.inl ⟨h2,h3⟩⟩
 rcases h with ⟨rfl,h⟩|⟨_,_,z⟩
 ·exact⟨ρ',e,h⟩
 ·exact z.elim
noncomputable def zcF(k:Option (List D)):Option (Option SV)->Option (List D)
 |some (some (.io d))=>k.map (d:: ·)
 |_=>none
@[simp] theorem zrC{k:Option (List D)}{d:D}:zcF k (some (some (.io d)))=k.map (d:: ·):=id rfl
@[simp] theorem zrD{ρ:Env}:wd ρ []=some []:=by rw[wd]
@[simp] theorem zrE{ρ:Env}{i:Nat}{r:List Nat}:wd ρ (i::r)=zcF (wd ρ r) ρ[i]? :=by
 rw[wd];rcases ρ[i]? with _|_|(_|_|_)<;>rfl
@[simp] theorem zrF{io:List Nat}{r:SV}{ρ:Env}:wt io (some (.rt r,ρ))=(wd ρ io).map (Ans.ok r):=id rfl
@[simp] theorem zrG{io:List Nat}{ρ:Env}:wt io (some (.nx,ρ))=(wd ρ io).map (Ans.ok (.val .non)):=id rfl
noncomputable def tD(tr:List zb):D:=.dct true (tr.map cD) (tr.map fun _=>.bl true)
@[simp] theorem zrH{tr:List zb}:yU (tr.map fun _=>(.bl true:D))=true:=by
 induction tr with
 |nil=>simp
 |cons x r ih=>simpa using ih
@[simp] theorem zrI{tr:List zb}:wI (tD tr)=true:=by simp[tD]
@[simp] theorem zrJ{tr:List zb}:xC (tD tr)=true:=by simp[tD]
@[simp] theorem zrK{c:zb}{tr:List zb}:zh .nin [cD c,tD tr]=some (.val (.bl (!decide (c∈tr)))):=by
 simp only[tD,zh,wH,Zo,if_true,yw,YW]
theorem zkd{tr:List zb}{c:zb}(h:c∉tr):xX true (tr.map cD) (tr.map fun _=>.bl true) (cD c) (.bl true)=tD (tr++[c]):=by
 unfold xX;rw[YW];simp[h,tD]
section
variable (f:List zb) (l:zb)
noncomputable def nb(c:zb):List zb:=f.filter (zT l c)
structure Half (ms:Ms):Prop where
 nd:YY ms
 inF: ∀x y,get ms x=some y->x∈f/\y∈f/\zT l x y=true
structure Match (ms:Ms):Prop extends Half f l ms where
 sym: ∀x y,get ms x=some y->get ms y=some x
noncomputable def vV(ms:Ms)(T:zb->Prop):Prop:=∀y,T y->∃x,get ms y=some x/\∀o∈nb f l x,T o
structure Fail (ms:Ms)(c:zb)(tr tr':List zb):Prop where
 all: ∀o∈nb f l c,o∈tr'
 cl: ∀y∈tr',y∉tr->∃x,get ms y=some x/\∀o∈nb f l x,o∈tr'
structure Succ (ms ms':Ms)(c:zb)(tr:List zb):Prop where
 half:Half f l ms'
 left: ∀x y,zB l x=0->get ms' x=some y->get ms' y=some x
 right: ∀x y,zB l y=1->get ms c≠some y->get ms' y=some x->get ms' x=some y
 old: ∀y∈tr,zB l y=1->get ms' y=get ms y
 own: ∃y,get ms' c=some y/\y∉tr
 keep: ∀x,zB l x=0->x≠c->(get ms x=none\/∃y∈tr,get ms x=some y)->get ms' x=get ms x
 dom: ∀x,(get ms x).isSome=true->(get ms' x).isSome=true
 closed: ∀T,vV f l ms T->∀y,zB l y=1->T y->get ms' y=get ms y
 dead: ∀T,vV f l ms T->¬ ∀o∈nb f l c,T o
end
section
variable {f:List zb} {l:zb}
theorem wP{c o:zb}:o∈nb f l c↔o∈f/\zT l c o=true:=by unfold nb;exact List.mem_filter
theorem Half.len{ms:Ms}(h:Half f l ms):ms.length<=f.length:=by
 have:=jx (l:=ms.map fun (p:zb×zb)=>p.1) (m:=f) h.nd fun x hx=>by
  have:(get ms x).isSome=true:=by rw[Zp];simpa using hx
  obtain⟨y,hy⟩:=Option.isSome_iff_exists.mp this;exact (h.inF x y hy).1
 simpa using this
theorem Half.put2{ms:Ms}(h:Half f l ms){c o:zb}(hc:c∈f)(ho:o∈f)(hn:zT l c o=true):Half f l (put (put ms c o) o c):=by
 refine⟨zcy (zcy h.nd),fun x y e=>?_⟩;rw[Zq,Zq] at e;split at e
 ·cases e;rename_i z;subst z;exact⟨ho,hc,by rw[Zm];exact hn⟩
 ·split at e
  ·cases e;rename_i z;subst z;exact⟨hc,ho,hn⟩
  ·exact h.inF x y e
theorem zke(hl:OkL l){ms:Ms}(hm:Match f l ms){c o:zb}{tr:List zb}(hc:c∈f)(h0:zB l c=0)(ho:o∈nb f l c)(hfree:get ms o=none)(hot:o∉tr):
  Succ f l ms (put (put ms c o) o c) c tr:=by
 rw[wP] at ho
 have h1:zB l o=1:=by
  have:=vU hl ho.2;rcases wB (l:=l) o with z|z
  ·rw[z] at this;exact KG h0 this
  ·exact z
 have hne:c≠o:=fun e=>by rw[e] at h0;omega
 have g: ∀x,get (put (put ms c o) o c) x=if x=o then some c else if x=c then some o else get ms x:=fun x=>by rw[Zq,Zq]
 refine⟨hm.put2 hc ho.1 ho.2,fun x y hx e=>?_,fun x y hy hcy e=>?_,fun y hy hh=>?_,⟨o,by rw[g,if_neg hne,if_pos rfl],hot⟩,fun x hx hxc _=>?_,fun x hx=>?_,fun T hT y hy hTy=>?_,fun T hT hall=>?_⟩
 ·rw[g] at e⊢
  split at e
  ·rename_i z;subst z;omega
  ·split at e
   ·rename_i z;cases e;rw[if_pos rfl,z]
   ·have:=hm.sym x y e
    rw[if_neg,if_neg,this]
    ·intro z;subst z;rw[hm.sym _ _ this] at e;rename_i q _;exact (by
      have e2:=(hm.inF _ _ this).2.2;have:=vU hl e2;omega)
    ·intro z;subst z;rw[hfree] at this;cases this
 ·rw[g] at e⊢
  split at e
  ·rename_i z;cases e;subst z;rw[if_neg hne,if_pos rfl]
  ·split at e
   ·rename_i z;subst z;omega
   ·have:=hm.sym y x e
    rw[if_neg,if_neg,this]
    ·intro z;subst z;rename_i q1 q2;exact hcy this
    ·intro z;subst z;rw[hfree] at this;cases this
 ·rw[g,if_neg (fun z=>by subst z;exact hot hy),if_neg (fun z=>by subst z;omega)]
 ·rw[g,if_neg (fun z=>by subst z;omega),if_neg hxc]
 ·rw[g];split
  ·rfl
  ·split
   ·rfl
   ·exact hx
 ·rw[g,if_neg,if_neg]
  ·intro z;subst z;omega
  ·intro z;subst z
   obtain⟨x,e,_⟩:=hT _ hTy;rw[hfree] at e;cases e
 ·obtain⟨x,e,_⟩:=hT _ (hall o (wP.mpr ho))
  rw[hfree] at e;cases e
theorem zkf(hl:OkL l){ms ms':Ms}(hm:Match f l ms){c o c':zb}{tr tr1:List zb}(hc:c∈f)(h0:zB l c=0)(hcm:get ms c=none\/∃y∈tr,get ms c=some y)(ho:o∈nb f l c)(hoc:get ms o=some c')(hot:o∉tr)(ht: ∀y∈tr,y∈tr1)(hot1:o∈tr1)(hS:Succ f l ms ms' c' tr1):
  Succ f l ms (put (put ms' c o) o c) c tr:=by
 rw[wP] at ho
 have h1:zB l o=1:=by
  have:=vU hl ho.2;rcases wB (l:=l) o with z|z
  ·rw[z] at this;exact KG h0 this
  ·exact z
 have hc'o:=hm.sym o c' hoc
 have h0':zB l c'=0:=by
  have:=vU hl (hm.inF _ _ hoc).2.2;rcases wB (l:=l) c' with z|z
  ·exact z
  ·rw[h1,z] at this;exact KG rfl this
 have hne:c≠o:=fun e=>by rw[e] at h0;omega
 have hcc':c≠c':=fun e=>by
  subst e;rcases hcm with z|⟨y,hy,z⟩
  ·rw[hc'o] at z;cases z
  ·rw[hc'o] at z;cases z;exact hot hy
 have hmo:get ms' o=some c':=by rw[hS.old o hot1 h1];exact hoc
 have hmc:get ms' c=get ms c:=hS.keep c h0 hcc' (hcm.imp id fun ⟨y,hy,z⟩=>⟨y,ht y hy,z⟩);obtain⟨y1,hy1,hy1t⟩:=hS.own;have hy1o:y1≠o:=fun e=>hy1t (by rw[e];exact hot1)
 have g: ∀x,get (put (put ms' c o) o c) x=if x=o then some c else if x=c then some o else get ms' x:=fun x=>by rw[Zq,Zq]
 refine⟨hS.half.put2 hc ho.1 ho.2,fun x y hx e=>?_,fun x y hy hcy e=>?_,fun y hy hh=>?_,⟨o,by rw[g,if_neg hne,if_pos rfl],hot⟩,fun x hx hxc hxm=>?_,fun x hx=>?_,fun T hT y hy hTy=>?_,fun T hT hall=>?_⟩
 ·rw[g] at e⊢
  split at e
  ·rename_i z;subst z;omega
  ·split at e
   ·rename_i z;cases e;rw[if_pos rfl,z]
   ·rename_i z1 z2
    have e2:=hS.left x y hx e
    have hyh:zB l y=1:=by
     have:=vU hl (hS.half.inF _ _ e).2.2;rcases wB (l:=l) y with z|z
     ·rw[hx,z] at this;exact KG rfl this
     ·exact z
    rw[if_neg,if_neg,e2]
    ·intro z;subst z;omega
    ·intro z;subst z
     rw[hmo] at e2;cases e2;rw[hy1] at e;cases e;exact hy1o rfl
 ·rw[g] at e⊢
  split at e
  ·rename_i z;cases e;subst z;rw[if_neg hne,if_pos rfl]
  ·split at e
   ·rename_i z;subst z;omega
   ·rename_i z1 z2
    have e2:=hS.right x y hy (fun z=>by rw[hc'o] at z;cases z;exact z1 rfl) e;rw[if_neg,if_neg,e2]
    ·intro z;subst z
     rw[hmc] at e2;exact hcy e2
    ·intro z;subst z
     have:=vU hl (hS.half.inF _ _ e).2.2;omega
 ·rw[g,if_neg (fun z=>by subst z;exact hot hy),if_neg (fun z=>by subst z;omega)]
  exact hS.old y (ht y hy) hh
 ·rw[g,if_neg (fun z=>by subst z;omega),if_neg hxc]
  refine hS.keep x hx (fun z=>?_) (hxm.imp id fun ⟨y,hy,z⟩=>⟨y,ht y hy,z⟩);subst z;rcases hxm with z|⟨y,hy,z⟩
  ·rw[hc'o] at z;cases z
  ·rw[hc'o] at z;cases z;exact hot hy
 ·rw[g];split
  ·rfl
  ·split
   ·rfl
   ·exact hS.dom x hx
 ·rw[g,if_neg,if_neg]
  ·exact hS.closed T hT y hy hTy
  ·intro z;subst z;omega
  ·intro z;subst z
   obtain⟨x,e,hx⟩:=hT _ hTy;rw[hoc] at e;cases e;exact hS.dead T hT hx
 ·obtain⟨x,e,hx⟩:=hT _ (hall o (wP.mpr ho))
  rw[hoc] at e;cases e;exact hS.dead T hT hx
@[simp] theorem zrL{c:zb}:xY (.val (cD c))=some (.e (cD c)):=by simp[cD]
@[simp] theorem zrM{g:List zb}:xY (.val (fD g))=some (.e (fD g)):=by simp[fD]
noncomputable def xB(f:List zb)(l:zb)(ms:Ms)(c:zb)(tr:List zb)(o:Option SV):Env:=[some (.val (fD f)),some (.val (cD l)),some (.io (dD ms)),some (.val (cD c)),some (.io (tD tr)),o]
noncomputable def vW(f tr:List zb):Nat:=(f.filter fun c=>decide (c∉tr)).length
theorem zkg{tr:List zb}{o:zb}(ho:o∈f)(ht:o∉tr):vW f (tr++[o])<vW f tr:=by
 unfold vW
 have key: ∀g:List zb,(g.filter fun c=>decide (c∉tr++[o])).length<=(g.filter fun c=>decide (c∉tr)).length/\(o∈g->(g.filter fun c=>decide (c∉tr++[o])).length<(g.filter fun c=>decide (c∉tr)).length):=by
  intro g
  induction g with
  |nil=>exact⟨Kg _,fun h=>by cases h⟩
  |cons x r ih=>
   by_cases hx:x=o
   ·subst hx
    have a1:decide (x∉tr++[x])=false:=by simp
    have a2:decide (x∉tr)=true:=by simpa using ht
    rw[List.filter_cons,List.filter_cons,a1,a2];simp only[Bool.false_eq_true,if_false,if_true,List.length_cons];exact⟨by omega,fun _=>by omega⟩
   ·have a1:decide (x∉tr++[o])=decide (x∉tr):=by simp[hx]
    rw[List.filter_cons,List.filter_cons,a1];split
    ·simp only[List.length_cons]
     refine⟨by omega,fun h=>?_⟩;rcases List.mem_cons.mp h with z|z
     ·exact KG z.symm hx
     ·have:=ih.2 z;omega
    ·refine⟨ih.1,fun h=>?_⟩
     rcases List.mem_cons.mp h with z|z
     ·exact KG z.symm hx
     ·exact ih.2 z
 exact (key f).2 ho
theorem zkh{tr tr':List zb}(h: ∀y∈tr,y∈tr'):vW f tr'<=vW f tr:=by
 unfold vW
 have key: ∀g:List zb,(g.filter fun c=>decide (c∉tr')).length<=(g.filter fun c=>decide (c∉tr)).length:=by
  intro g
  induction g with
  |nil=>exact Kg _
  |cons x r ih=>
   rw[List.filter_cons,List.filter_cons];by_cases h1:x∈tr
   ·have h2:=h x h1
    simp only[h1,h2,not_true,decide_false,Bool.false_eq_true,if_false];exact ih
   ·by_cases h2:x∈tr'
    ·simp only[h1,h2,not_true,not_false_iff,decide_false,decide_true,Bool.false_eq_true,if_false,if_true,List.length_cons];omega
    ·simp only[h1,h2,not_false_iff,decide_true,if_true,List.length_cons];omega
 exact key f
theorem zki(f tr:List zb):vW f tr<=f.length:=KC _ _
structure TrOk (f tr:List zb):Prop where
 nd:tr.Nodup
 sub: ∀x∈tr,x∈f
theorem TrOk.len{tr:List zb}(h:TrOk f tr):tr.length<=f.length:=jx h.nd h.sub
theorem TrOk.snoc{tr:List zb}{o:zb}(h:TrOk f tr)(ho:o∈f)(ht:o∉tr):TrOk f (tr++[o]):=by
 refine⟨?_,fun x hx=>?_⟩
 ·rw[List.nodup_append]
  refine⟨h.nd,by simp,fun a ha b hb e=>?_⟩;simp at hb;subst hb;subst e;exact ht ha
 ·rw[List.mem_append,List.mem_singleton] at hx
  rcases hx with z|rfl
  ·exact h.sub x z
  ·exact ho
structure FM (f:List zb)(l:zb)(n:Nat)(ms:Ms)(c:zb)(tr:List zb)(b:Bool)(ms':Ms)(tr':List zb):Prop where
 eq:zn U zr n 37 [fD f,cD l,dD ms,cD c,tD tr]=some (.ok (.val (.bl b)) [dD ms',tD tr'])
 tr_: ∀y∈tr,y∈tr'
 ok:TrOk f tr'
 no:b=false->ms'=ms/\Fail f l ms c tr tr'
 yes:b=true->Succ f l ms ms' c tr
theorem zkj(n:Nat)(hl:OkL l)(hf:f.length<=100){ms:Ms}(hm:Match f l ms){c o:zb}{tr:List zb}{o':Option SV}(ht:TrOk f tr)(hc:c∈f)(h0:zB l c=0)(ho:o∈nb f l c)
  (hrec: ∀c',get ms o=some c'->o∉tr->∃b ms' tr',FM f l n ms c' (tr++[o]) b ms' tr'):
  (o∈tr/\zp (zn U zr n) zr vS (xB f l ms c tr (some (.val (cD o))))=some (.nx,xB f l ms c tr (some (.val (cD o)))))\/
  (o∉tr/\get ms o=none/\zp (zn U zr n) zr vS (xB f l ms c tr (some (.val (cD o))))=some (.rt (.val (.bl true)),xB f l (put (put ms c o) o c) c (tr++[o]) (some (.val (cD o)))))\/
  (o∉tr/\∃c' ms' tr' b,get ms o=some c'/\FM f l n ms c' (tr++[o]) b ms' tr'/\zp (zn U zr n) zr vS (xB f l ms c tr (some (.val (cD o))))=
   some (if b then (.rt (.val (.bl true)),xB f l (put (put ms' c o) o c) c tr' (some (.val (cD o)))) else (.nx,xB f l ms' c tr' (some (.val (cD o)))))):=by
 have hl':=xt;have hml:=hm.len;have htl:=ht.len;by_cases hot:o∈tr
 ·refine .inl ⟨hot,?_⟩
  simp[vS,xB,hot]
 ·have hk1:decide (tr.length<line)=true:=by simp;omega
  have hT: ∀g:D,tD tr= .dct true (tr.map cD) (tr.map fun _=>.bl true):=fun _=>rfl
  have hD: ∀ms:Ms,dD ms= .dct true (ms.map fun p=>cD p.1) (ms.map fun p=>cD p.2):=fun _=>rfl
  have e1: ∀ρ:Env,Zf ρ 4 (some (.val (cD o))) (some (.val (.bl true))) (some (some (.io (tD tr))))=some (.nx,ρ.set 4 (some (.io (tD (tr++[o]))))):=fun ρ=>by
   rw[tD,zb3];simp only[Option.bind_some,kb,Zo,List.length_map,hk1,Bool.and_self,if_true,zkd hot]
  have e2: ∀(ρ:Env) (i:Nat) (ms:Ms) (a b:zb),ms.length<line->Zf ρ i (some (.val (cD a))) (some (.val (cD b))) (some (some (.io (dD ms))))=some (.nx,ρ.set i (some (.io (dD (put ms a b))))):=fun ρ i ms a b h=>by
   rw[dD,zb3];simp only[Option.bind_some,kb,Zo,List.length_map,h,decide_true,Bool.and_self,if_true,zj7]
  cases hg:get ms o with
  |none=>
   refine .inr (.inl ⟨hot,rfl,?_⟩);have p1:=zcx ms c o;simp[vS,xB,hot,e1,hg];rw[e2 _ 2 ms c o (by omega)];simp;rw[e2 _ 2 (put ms c o) o c (by omega)];simp
  |some c'=>
   obtain⟨b,ms',tr',hr⟩:=hrec c' hg hot;refine .inr (.inr ⟨hot,c',ms',tr',b,rfl,hr,?_⟩);have heq:=hr.eq;simp[vS,xB,hot,e1,hg,YX hg,heq]
   cases b with
   |true=>
    have p0:=(hr.yes rfl).half.len;have p1:=zcx ms' c o;simp;rw[e2 _ 2 ms' c o (by omega)];simp;rw[e2 _ 2 (put ms' c o) o c (by omega)];simp
   |false=>simp
theorem xN(hl:OkL l){a b:zb}(h:zT l a b=true):(zB l a=0->zB l b=1)/\(zB l a=1->zB l b=0):=by
 have:=vU hl h;have h1:=wB (l:=l) a;have h2:=wB (l:=l) b;omega
theorem zkk(hl:OkL l)(hf:OkF f){ms:Ms}(hm:Match f l ms): ∀(u:Nat) (c:zb) (tr:List zb) (n:Nat),vW f tr<u->u+3<=n->TrOk f tr->c∈f->zB l c=0->(get ms c=none\/∃y∈tr,get ms c=some y)->∃b ms' tr',FM f l n ms c tr b ms' tr':=by
 intro u
 induction u with
 |zero=>intro c tr n hu;omega
 |succ u ih=>
  intro c tr n hu hn ht hc h0 hcm;obtain⟨m,rfl⟩: ∃m,n=m+4:=⟨n-4,by omega⟩;have hlen:=hf.len
  obtain⟨fl,ρ',hx,hq⟩:=zcE (i:=5) (body:=zp (zn U zr (m+3)) zr vS)
   (fun pre ρ=>∃tr' o',ρ=xB f l ms c tr' o'/\(∀y∈tr,y∈tr')/\TrOk f tr'/\(∀o∈pre,o∈tr')/\(∀y∈tr',y∉tr->∃x,get ms y=some x/\∀o∈nb f l x,o∈tr'))
   (fun r ρ=>∃ms' tr' o',r= .val (.bl true)/\ρ=xB f l ms' c tr' o'/\(∀y∈tr,y∈tr')/\TrOk f tr'/\Succ f l ms ms' c tr)
   (xs:=nb f l c) (ρ:=xB f l ms c tr none) ⟨tr,none,rfl,fun _ h=>h,ht,fun _ h=>(by cases h),fun y h1 h2=>KG h1 h2⟩
   fun pre o post ρ e zz5=>by
    obtain⟨tr',o',eρ,s1,s2,s3,s4⟩:=zz5;subst eρ;have ho:o∈nb f l c:=by rw[e];simp
    have hof:=(wP.mp ho).1
    have hrec: ∀c',get ms o=some c'->o∉tr'->∃b ms' tr'',FM f l (m+3) ms c' (tr'++[o]) b ms' tr'':=fun c' hg hot=>by
     have h1:=zkg (tr:=tr') hof hot;have h2:=zkh (f:=f) s1;obtain⟨g1,g2,g3⟩:=hm.inF o c' hg;have hh:=(xN hl (wP.mp ho).2).1 h0;exact ih c' (tr'++[o]) (m+3) (by omega) (by omega) (s2.snoc hof hot) g2 ((xN hl g3).2 hh) (.inr ⟨o,by simp,hm.sym _ _ hg⟩)
    rcases zkj (m+3) hl (by omega) hm (o':=o') s2 hc h0 ho hrec with ⟨hot,ex⟩|⟨hot,hg,ex⟩|⟨hot,c',ms',tr'',b,hg,hF,ex⟩
    ·refine⟨_,_,ex,.inl ⟨.inl rfl,tr',_,rfl,s1,s2,fun x hx=>?_,s4⟩⟩
     rw[List.mem_append,List.mem_singleton] at hx;rcases hx with z|rfl
     ·exact s3 x z
     ·exact hot
    ·refine⟨_,_,ex,.inr ⟨_,rfl,_,_,_,rfl,rfl,fun y hy=>Kr _ (s1 y hy),s2.snoc hof hot,zke hl hm hc h0 ho hg fun z=>hot (s1 o z)⟩⟩
    ·have sub: ∀y∈tr',y∈tr'':=fun y hy=>hF.tr_ y (Kr _ hy)
     have hoT:o∈tr'':=hF.tr_ o (by simp)
     cases b with
     |true=>
      refine⟨_,_,ex,.inr ⟨_,rfl,_,_,_,rfl,rfl,fun y hy=>sub y (s1 y hy),hF.ok,?_⟩⟩;exact zkf hl hm hc h0 hcm ho hg (fun z=>hot (s1 o z)) (fun y hy=>Kr _ (s1 y hy)) (by simp) (hF.yes rfl)
     |false=>
      obtain⟨rfl,hFl⟩:=hF.no rfl;refine⟨_,_,ex,.inl ⟨.inl rfl,tr'',_,rfl,fun y hy=>sub y (s1 y hy),hF.ok,fun x hx=>?_,fun y hy hyt=>?_⟩⟩
      ·rw[List.mem_append,List.mem_singleton] at hx
       rcases hx with z|rfl
       ·exact sub x (s3 x z)
       ·exact hoT
      ·by_cases h1:y∈tr'
       ·obtain⟨x,e1,e2⟩:=s4 y h1 hyt
        exact⟨x,e1,fun o ho=>sub o (e2 o ho)⟩
       ·by_cases h2:y=o
        ·subst h2;exact⟨c',hg,hFl.all⟩
        ·exact hFl.cl y hy fun z=>by
          rw[List.mem_append,List.mem_singleton] at z;rcases z with z|z
          ·exact h1 z
          ·exact h2 z
  have cn:=zcr m l c (f:=f) (by omega:f.length<=1000)
  have run:zn U zr (m+4) 37 [fD f,cD l,dD ms,cD c,tD tr]=wt [2,4] ((some (fl,ρ')).bind fun x=>andThen x (zp (zn U zr (m+3)) zr (.cons (.ret (.bl false)) .nil))):=by
   rw[Yo zjA rfl];show wt [2,4] (zp (zn U zr (m+3)) zr Zi (xB f l ms c tr none))=_;simp only[Zi,Yn,vR];simp[xB,cn];rw[<-xB,<-nb,hx];simp
  rcases hq with ⟨rfl,tr',o',rfl,s1,s2,s3,s4⟩|⟨r,rfl,ms',tr',o',rfl,rfl,s1,s2,s3⟩
  ·refine⟨false,ms,tr',⟨?_,s1,s2,fun _=>⟨rfl,s3,s4⟩,fun z=>(by cases z)⟩⟩
   rw[run];simp[xB]
  ·refine⟨true,ms',tr',⟨?_,s1,s2,fun z=>(by cases z),fun _=>s3⟩⟩
   rw[run];simp[xB]
end
end LK
namespace LK
open L2.LW
section
variable {f:List zb} {l:zb}
theorem zcG(hf:OkF f):f.Nodup:=OkF.nodup hf.rise
structure Final (f:List zb)(l:zb)(ms:Ms)(T:zb->Prop):Prop extends Match f l ms where
 cl:vV f l ms T
 free: ∀x∈f,zB l x=0->get ms x=none->∀o∈nb f l x,T o
 side: ∀y,T y->zB l y=1
theorem zkl(hl:OkL l){ms ms':Ms}{c:zb}(hm:Match f l ms)(hg:get ms c=none)(h:Succ f l ms ms' c []):Match f l ms':=by
 refine { h.half with sym:=fun x y e=>?_ };rcases wB (l:=l) x with z|z
 ·exact h.left x y z e
 ·exact h.right y x z (by rw[hg];exact fun z=>nomatch z) e
noncomputable def Zr(f:List zb)(l:zb)(ms:Ms)(o:Option SV):Env:=[some (.val (fD f)),some (.val (cD l)),some (.obj true (dD ms)),o]
theorem zcH(n:Nat)(hl:OkL l)(hf:OkF f): ∃ms T,Final f l ms T/\zS U zr (n+29) 38 [fD f,cD l]=some (.obj true (dD ms)):=by
 have hlen:=hf.len
 obtain⟨ρ',hx,ms,T,o',rfl,hm,hT,hfr,hsd,hin⟩:=Jc (i:=3) (body:=zp (zn U zr (n+28)) zr VM)
  (fun pre ρ=>∃ms T o',ρ=Zr f l ms o'/\Match f l ms/\vV f l ms T/\(∀x∈pre,get ms x=none->∀o∈nb f l x,T o)/\(∀y,T y->zB l y=1)/\∀x,zB l x=0->(get ms x).isSome=true->x∈pre)
  (xs:=f.filter fun c=>decide (zB l c=0)) (ρ:=Zr f l [] none) ⟨[],fun _=>False,none,rfl,⟨⟨by simp[YY],fun x y e=>by cases e⟩,fun x y e=>by cases e⟩,fun y z=>z.elim,fun x h=>(by cases h),fun y z=>z.elim,fun x _ h=>(by cases h)⟩
  fun pre c post ρ e zz5=>by
   obtain⟨ms,T,o',eρ,hm,hT,hfr,hsd,hin⟩:=zz5;subst eρ;have hc:c∈f.filter fun c=>decide (zB l c=0):=by rw[e];simp
   rw[List.mem_filter,decide_eq_true_iff] at hc;have hnd:(f.filter fun c=>decide (zB l c=0)).Nodup:=(zcG hf).sublist Kw
   have hcm:get ms c=none:=by
    cases q:get ms c with
    |none=>rfl
    |some y=>
     have hp:=hin c hc.2 (by rw[q];rfl);rw[e,List.nodup_append] at hnd;exact KG rfl (hnd.2.2 c hp c Ke)
   ·obtain⟨b,ms',tr',hF⟩:=zkk hl hf hm (f.length+1) c [] (n+28) (by have:=zki f [];omega) (by omega) ⟨by simp,fun x h=>by cases h⟩ hc.1 hc.2 (.inl hcm)
    have heq:=hF.eq
    have ex:zp (zn U zr (n+28)) zr VM ((Zr f l ms o').set 3 (some (.val (cD c))))=some (.nx,Zr f l ms' (some (.val (cD c)))):=by
     rw[show tD []= .dct true [] [] from rfl] at heq;simp[VM,Zr,heq]
    refine⟨_,_,ex,.inl rfl,?_⟩
    cases b with
    |true=>
     have hS:=hF.yes rfl;refine⟨ms',T,_,rfl,zkl hl hm hcm hS,fun y hy=>?_,fun x hx hxm o ho=>?_,hsd,fun x hx0 hx1=>?_⟩
     ·obtain⟨x,e1,e2⟩:=hT y hy
      exact⟨x,by rw[hS.closed T hT y (hsd y hy) hy];exact e1,e2⟩
     ·rw[List.mem_append,List.mem_singleton] at hx
      rcases hx with z|rfl
      ·refine hfr x z ?_ o ho
       cases q:get ms x with
       |none=>rfl
       |some y=>have:=hS.dom x (by rw[q];rfl);rw[hxm] at this;cases this
      ·obtain⟨y,e1,_⟩:=hS.own
       rw[hxm] at e1;cases e1
     ·by_cases z:x=c
      ·subst z;simp
      ·cases q:get ms x with
       |none=>rw[hS.keep x hx0 z (.inl q),q] at hx1;cases hx1
       |some y=>exact Kr _ (hin x hx0 (by rw[q];rfl))
    |false=>
     obtain⟨rfl,hFl⟩:=hF.no rfl;have side': ∀y∈tr',zB l y=1->True:=fun _ _ _=>trivial
     refine⟨ms',fun y=>T y\/(y∈tr'/\zB l y=1),_,rfl,hm,fun y hy=>?_,fun x hx hxm o ho=>?_,fun y hy=>hy.elim (hsd y) And.right,fun x h0 h1=>Kr _ (hin x h0 h1)⟩
     ·rcases hy with hy|⟨hy,hy1⟩
      ·obtain⟨x,e1,e2⟩:=hT y hy
       exact⟨x,e1,fun o ho=>.inl (e2 o ho)⟩
      ·obtain⟨x,e1,e2⟩:=hFl.cl y hy (by simp)
       refine⟨x,e1,fun o ho=>.inr ⟨e2 o ho,?_⟩⟩;have h0:=(xN hl (hm.inF _ _ e1).2.2).2 hy1;exact (xN hl (wP.mp ho).2).1 h0
     ·rw[List.mem_append,List.mem_singleton] at hx
      rcases hx with z|rfl
      ·exact .inl (hfr x z hxm o ho)
      ·exact .inr ⟨hFl.all o ho,(xN hl (wP.mp ho).2).1 hc.2⟩
 refine⟨ms,T,{ hm with cl:=hT,free:=fun x hxf h0=>hfr x (by rw[List.mem_filter];exact⟨hxf,by simpa using h0⟩),side:=hsd },?_⟩;have ch:=zcC (n+24) hl (f:=f) (by omega) 0;rw[yo zjB rfl];simp only[YJ];simp[vR,ch];have hx':=hx;simp only[Zr] at hx';rw[show D.dct true [] []=dD [] from rfl,hx'];simp
end
end LK
namespace LK
open L2.LW
theorem kr{α β:Type}{g:α->β}: ∀{l:List α},(∀x∈l,∀y∈l,g x=g y->x=y)->l.Nodup->(l.map g).Nodup
 |[],_,_=>by simp
 |x::r,h,hn=>by
  rw[List.nodup_cons] at hn;rw[List.map_cons,List.nodup_cons];refine⟨fun z=>?_,kr (fun a ha b hb=>h a (Kf _ ha) b (Kf _ hb)) hn.2⟩;rw[List.mem_map] at z;obtain⟨y,hy,e⟩:=z;have:=h y (Kf _ hy) x Ke e;subst this;exact hn.1 hy
theorem jy{α β:Type}[DecidableEq β]{l:List α}{m:List β}(g:α->β)(hn:l.Nodup)(hm: ∀x∈l,g x∈m)(hi: ∀x∈l,∀y∈l,g x=g y->x=y):l.length<=m.length:=by
 have:=jx (l:=l.map g) (m:=m) (kr hi hn) fun y hy=>by
  rw[List.mem_map] at hy;obtain⟨x,hx,rfl⟩:=hy;exact hm x hx
 simpa using this
section
variable {f:List zb} {l:zb}
noncomputable def yd(ms:Ms)(c:zb):zb:=(get ms c).getD c
theorem yi{ms:Ms}{c v:zb}(h:get ms c=some v):yd ms c=v:=by unfold yd;rw[h];rfl
noncomputable def ml(f:List zb)(l:zb)(ms:Ms):List zb:=f.filter fun c=>decide (zB l c=0)&&(get ms c).isSome
theorem wC{ms:Ms}{c:zb}:c∈ml f l ms↔c∈f/\zB l c=0/\∃v,get ms c=some v:=by
 unfold ml;rw[List.mem_filter,Bool.and_eq_true,decide_eq_true_iff,Option.isSome_iff_exists]
theorem zcI{ms:Ms}(h:f.Nodup):(ml f l ms).Nodup:=h.sublist Kw
structure IsCover (f:List zb)(l:zb)(C:List zb):Prop where
 nd:C.Nodup
 sub: ∀x∈C,x∈f
 hit: ∀a∈f,∀b∈f,zT l a b=true->a∈C\/b∈C
theorem Match.inj{ms:Ms}(h:Match f l ms){a b v:zb}(ha:get ms a=some v)(hb:get ms b=some v):a=b:=by
 have h1:=h.sym _ _ ha;have h2:=h.sym _ _ hb;rw[h1] at h2;exact Kp h2
theorem ku(hl:OkL l)(hn:f.Nodup){ms:Ms}(hm:Match f l ms){C:List zb}(hC:IsCover f l C):(ml f l ms).length<=C.length:=by
 refine jy (fun x=>if x∈C then x else yd ms x) (zcI hn) (fun x hx=>?_) fun x hx y hy e=>?_
 ·obtain⟨h1,h2,v,h3⟩:=wC.mp hx
  show (if x∈C then x else yd ms x)∈C;split
  ·assumption
  ·rw[yi h3]
   obtain⟨_,g2,g3⟩:=hm.inF _ _ h3;exact (hC.hit x h1 v g2 g3).resolve_left (by assumption)
 ·obtain⟨h1,h2,v,h3⟩:=wC.mp hx
  obtain⟨h1',h2',v',h3'⟩:=wC.mp hy;have q:=(xN hl (hm.inF _ _ h3).2.2).1 h2;have q':=(xN hl (hm.inF _ _ h3').2.2).1 h2';simp only[yi h3,yi h3'] at e;split at e<;>split at e
  ·exact e
  ·subst e;omega
  ·subst e;omega
  ·subst e;exact hm.inj h3 h3'
open Classical in
theorem kw(hl:OkL l)(hn:f.Nodup){ms:Ms}{T:zb->Prop}(h:Final f l ms T): ∃C,IsCover f l C/\C.length<=(ml f l ms).length:=by
 let P:zb->Prop:=fun c=>if zB l c=0 then ¬ ∀o∈nb f l c,T o else T c
 refine⟨f.filter fun c=>decide (P c),⟨hn.sublist Kw,fun x hx=>(List.mem_filter.mp hx).1,fun a ha b hb hab=>?_⟩,?_⟩
 ·have key: ∀a∈f,∀b∈f,zT l a b=true->zB l a=0->P a\/P b:=fun a ha b hb hab h0=>by
   by_cases hT: ∀o∈nb f l a,T o
   ·right
    show if zB l b=0 then _ else _
    rw[if_neg (by have:=(xN hl hab).1 h0;omega)];exact hT b (wP.mpr ⟨hb,hab⟩)
   ·left
    show if zB l a=0 then _ else _
    rw[if_pos h0];exact hT
  have wrap: ∀c∈f,P c->c∈f.filter fun c=>decide (P c):=fun c hc hp=>List.mem_filter.mpr ⟨hc,by simpa using hp⟩
  rcases wB (l:=l) a with z|z
  ·rcases key a ha b hb hab z with q|q
   ·exact .inl (wrap a ha q)
   ·exact .inr (wrap b hb q)
  ·rcases key b hb a ha (by rw[Zm];exact hab) ((xN hl hab).2 z) with q|q
   ·exact .inr (wrap b hb q)
   ·exact .inl (wrap a ha q)
 ·have in0: ∀c,c∈f.filter (fun c=>decide (P c))->zB l c=0->(¬ ∀o∈nb f l c,T o)/\∃v,get ms c=some v:=fun c hc h0=>by
   rw[List.mem_filter,decide_eq_true_iff] at hc;have hp:if zB l c=0 then ¬ ∀o∈nb f l c,T o else T c:=hc.2
   rw[if_pos h0] at hp;refine⟨hp,?_⟩
   cases q:get ms c with
   |none=>exact KG (h.free c hc.1 h0 q) hp
   |some v=>exact⟨v,rfl⟩
  have in1: ∀c,c∈f.filter (fun c=>decide (P c))->¬zB l c=0->∃v,get ms c=some v/\∀o∈nb f l v,T o:=fun c hc h0=>by
   rw[List.mem_filter,decide_eq_true_iff] at hc;have hp:if zB l c=0 then ¬ ∀o∈nb f l c,T o else T c:=hc.2
   rw[if_neg h0] at hp;exact h.cl c hp
  refine jy (fun c=>if zB l c=0 then c else yd ms c) (hn.sublist Kw) (fun c hc=>?_) fun c hc d hd e=>?_
  ·show (if zB l c=0 then c else yd ms c)∈ml f l ms
   split
   ·rename_i h0
    exact wC.mpr ⟨(List.mem_filter.mp hc).1,h0,(in0 c hc h0).2⟩
   ·rename_i h0
    obtain⟨v,e1,_⟩:=in1 c hc h0;obtain⟨_,g2,g3⟩:=h.inF _ _ e1;rw[yi e1];have hc1:zB l c=1:=by have:=wB (l:=l) c;omega
    exact wC.mpr ⟨g2,(xN hl g3).2 hc1,c,h.sym _ _ e1⟩
  ·have e:(if zB l c=0 then c else yd ms c)=(if zB l d=0 then d else yd ms d):=e
   split at e<;>split at e
   ·exact e
   ·rename_i h0 h1
    obtain⟨v,e1,e2⟩:=in1 d hd h1;rw[yi e1] at e;subst e;exact KG e2 (in0 c hc h0).1
   ·rename_i h0 h1
    obtain⟨v,e1,e2⟩:=in1 c hc h0;rw[yi e1] at e;subst e;exact KG e2 (in0 _ hd h1).1
   ·rename_i h0 h1
    obtain⟨v,e1,_⟩:=in1 c hc h0;obtain⟨v',e1',_⟩:=in1 d hd h1;rw[yi e1,yi e1'] at e;subst e;exact h.inj e1 e1'
theorem zkm(hl:OkL l)(hn:f.Nodup){ms ms':Ms}{T T':zb->Prop}(h:Final f l ms T)(h':Final f l ms' T'):(ml f l ms).length=(ml f l ms').length:=by
 obtain⟨C,c1,c2⟩:=kw hl hn h;obtain⟨C',c1',c2'⟩:=kw hl hn h';have:=ku hl hn h.toMatch c1';have:=ku hl hn h'.toMatch c1;omega
noncomputable def zP(f:List zb)(ms:Ms):List zb:=f.filter fun c=>match get ms c with
 |some v=>decide (yh c v)
 |none=>false
theorem xH{ms:Ms}{c:zb}:c∈zP f ms↔c∈f/\∃v,get ms c=some v/\yh c v:=by
 unfold zP;rw[List.mem_filter];cases e:get ms c<;>simp
theorem ky(hl:OkL l){a b:zb}(h:zT l a b=true):a≠b:=fun e=>by subst e;exact vU hl h rfl
theorem zcJ(hl:OkL l)(hn:f.Nodup){ms:Ms}(h:Match f l ms):(zP f ms).length=(ml f l ms).length:=by
 apply Nat.le_antisymm
 ·refine jy (fun c=>if zB l c=0 then c else yd ms c) (hn.sublist Kw) (fun c hc=>?_) fun c hc d hd e=>?_
  ·obtain⟨h1,v,h2,h3⟩:=xH.mp hc
   obtain⟨_,g2,g3⟩:=h.inF _ _ h2;show (if zB l c=0 then c else yd ms c)∈ml f l ms;split
   ·exact wC.mpr ⟨h1,by assumption,v,h2⟩
   ·rw[yi h2]
    have hc1:zB l c=1:=by have:=wB (l:=l) c;omega
    exact wC.mpr ⟨g2,(xN hl g3).2 hc1,c,h.sym _ _ h2⟩
  ·obtain⟨h1,v,h2,h3⟩:=xH.mp hc
   obtain⟨h1',v',h2',h3'⟩:=xH.mp hd;simp only[yi h2,yi h2'] at e;split at e<;>split at e
   ·exact e
   ·subst e
    rw[h.sym _ _ h2'] at h2;cases h2;exact (Zk h3 h3').elim
   ·subst e
    rw[h.sym _ _ h2] at h2';cases h2';exact (Zk h3 h3').elim
   ·subst e;exact h.inj h2 h2'
 ·refine jy (fun c=>if yh c (yd ms c) then c else yd ms c) (zcI hn) (fun c hc=>?_) fun c hc d hd e=>?_
  ·obtain⟨h1,h2,v,h3⟩:=wC.mp hc
   obtain⟨_,g2,g3⟩:=h.inF _ _ h3;show (if yh c (yd ms c) then c else yd ms c)∈zP f ms;rw[yi h3];split
   ·exact xH.mpr ⟨h1,v,h3,by assumption⟩
   ·exact xH.mpr ⟨g2,c,h.sym _ _ h3,(zcj (ky hl g3)).resolve_left (by assumption)⟩
  ·obtain⟨h1,h2,v,h3⟩:=wC.mp hc
   obtain⟨h1',h2',v',h3'⟩:=wC.mp hd;have q:=(xN hl (h.inF _ _ h3).2.2).1 h2;have q':=(xN hl (h.inF _ _ h3').2.2).1 h2';simp only[yi h3,yi h3'] at e;split at e<;>split at e
   ·exact e
   ·subst e;omega
   ·subst e;omega
   ·subst e;exact h.inj h3 h3'
noncomputable def yz(ms:Ms)(c:zb):D:=.tup [cD c,cD (yd ms c)]
theorem zkn(n:Nat)(hf:f.length<=1000){ms:Ms}:zS U zr (n+1) 39 [fD f,dD ms]=some (.obj true (.lst ((zP f ms).map (yz ms)))):=by
 rw[yo zjC rfl];have hl':=xt;simp only[YK];simp
 rw[wj (rs:=[.val (fD f)]) (xs:=f) (f:=cD) (fun c=>match get ms c with
  |some v=>decide (yh c v)
  |none=>false) (yz ms)]
 ·rw[show (f.filter fun c=>match get ms c with
   |some v=>decide (yh c v)
   |none=>false)=zP f ms from rfl]
  simp
 ·simp
 ·rfl
 ·omega
 ·intro c _
  cases e:get ms c with
  |none=>simp[e]
  |some v=>simp[e,YX e]
 ·intro c _ h
  cases e:get ms c with
  |none=>simp[e] at h
  |some v=>simp[YX e,yz,yi e]
theorem zko(n:Nat)(hl:OkL l)(hf:OkF f): ∃ms T,Final f l ms T/\zS U zr (n+30) 43 [fD f,cD l]=some (.obj true (.lst ((zP f ms).map (yz ms)))):=by
 have hlen:=hf.len;obtain⟨ms,T,h1,h2⟩:=zcH n hl hf;refine⟨ms,T,h1,?_⟩;have h3:=zkn (n+28) (f:=f) (ms:=ms) (by omega);rw[yo zjG rfl];simp[YO,zcp (n+25) hf,zcq (n+26) hl,h2,h3]
end
end LK
namespace LK
open L2.LW
section
variable {f:List zb} {l:zb}
noncomputable def yr(f:List zb)(l:zb)(ms:Ms)(k:Int)(s4:SV)(ar ed:List zb)(s7 s8 s9:Option SV):Env:=
 [some (.val (fD f)),some (.val (cD l)),some (.val (dD ms)),some (.val (.int k)),some s4,some (.obj true (lD ar)),some (.val (lD ed)),s7,s8,s9]
structure Ring (f:List zb)(ms:Ms)(T:zb->Prop)(ar0 ar fu:List zb):Prop where
 nd:ar.Nodup
 sub: ∀y∈ar,y∈f/\T y
 new: ∃nw,ar=ar0++nw/\fu=nw.map (yd ms)
theorem Ring.len{ms:Ms}{T:zb->Prop}{ar0 ar fu:List zb}(h:Ring f ms T ar0 ar fu):ar.length<=f.length/\fu.length<=f.length:=by
 have h1:=jx h.nd fun y hy=>(h.sub y hy).1
 obtain⟨nw,rfl,rfl⟩:=h.new;simp at h1⊢;omega
theorem zkp{a:List zb}{c:zb}:(D.lst (a.map cD++[cD c]))=lD (a++[c]):=by simp[lD]
theorem zcK{ρ:Env}{i:Nat}{a:List zb}{c:zb}(h:a.length<line):QX ρ i (some (.val (cD c))) (some (some (.obj true (lD a))))=some (.nx,ρ.set i (some (.obj true (lD (a++[c]))))):=by
 rw[lD,zje];simp only[Option.bind_some,kb,List.length_map,h,if_true,zkp]
theorem zkq(n:Nat)(hf:f.length<=100){ms:Ms}{T:zb->Prop}(hT:vV f l ms T){k:Int}{s4:SV}{ar0 ar fu ed:List zb}{s8:Option SV}{o:zb}(h:Ring f ms T ar0 ar fu)(hof:o∈f)(ho:T o):
  ∃ar' fu',zp (zn U zr n) zr YL (yr f l ms k s4 ar ed (some (.obj true (lD fu))) s8 (some (.val (cD o))))=some (.nx,yr f l ms k s4 ar' ed (some (.obj true (lD fu'))) s8 (some (.val (cD o))))/\
   Ring f ms T ar0 ar' fu'/\o∈ar'/\∀y∈ar,y∈ar':=by
 have hl':=xt;obtain⟨h1,h2⟩:=h.len;by_cases hin:o∈ar
 ·refine⟨ar,fu,?_,h,hin,fun y hy=>hy⟩
  simp[YL,yr,kh,hin]
 ·obtain⟨v,e1,_⟩:=hT o ho
  refine⟨ar++[o],fu++[v],?_,⟨?_,fun y hy=>?_,?_⟩,by simp,fun y hy=>Kr _ hy⟩
  ·simp[YL,yr,kh,hin,YX e1]
   rw[zcK (by omega)];simp[YX e1];rw[zcK (by omega)];simp
  ·rw[List.nodup_append]
   refine⟨h.nd,by simp,fun a ha b hb e=>?_⟩;simp at hb;subst hb;subst e;exact hin ha
  ·rw[List.mem_append,List.mem_singleton] at hy
   rcases hy with z|rfl
   ·exact h.sub y z
   ·exact⟨hof,ho⟩
  ·obtain⟨nw,r1,r2⟩:=h.new
   exact⟨nw++[o],by rw[r1];simp,by rw[r2];simp[yi e1]⟩
theorem zkr(n:Nat)(hf:f.length<=100){ms:Ms}{T:zb->Prop}(hT:vV f l ms T){k:Int}{s4:SV}{ar0 ar fu ed:List zb}{s9:Option SV}{x:zb}(h:Ring f ms T ar0 ar fu)(hx: ∀o∈nb f l x,T o)(h9:zX (some s9)=true):
  ∃ar' fu' s9',zp (zn U zr (n+3)) zr VN (yr f l ms k s4 ar ed (some (.obj true (lD fu))) (some (.val (cD x))) s9)=some (.nx,yr f l ms k s4 ar' ed (some (.obj true (lD fu'))) (some (.val (cD x))) s9')/\
   Ring f ms T ar0 ar' fu'/\(∀o∈nb f l x,o∈ar')/\(∀y∈ar,y∈ar')/\zX (some s9')=true:=by
 obtain⟨ρ',e,ar',fu',s9',rfl,r1,r2,r3,r4⟩:=Jc (i:=9) (body:=zp (zn U zr (n+3)) zr YL)
  (fun pre ρ=>∃ar' fu' s9',ρ=yr f l ms k s4 ar' ed (some (.obj true (lD fu'))) (some (.val (cD x))) s9'/\Ring f ms T ar0 ar' fu'/\(∀o∈pre,o∈ar')/\(∀y∈ar,y∈ar')/\zX (some s9')=true)
  (xs:=nb f l x) (ρ:=yr f l ms k s4 ar ed (some (.obj true (lD fu))) (some (.val (cD x))) s9) ⟨ar,fu,s9,rfl,h,fun o ho=>(by cases ho),fun y hy=>hy,h9⟩
  fun pre o post ρ e zz5=>by
   obtain⟨ar',fu',s9',eρ,r1,r2,r3,r4⟩:=zz5;subst eρ;have ho:o∈nb f l x:=by rw[e];simp
   obtain⟨ar2,fu2,e2,q1,q2,q3⟩:=zkq (n+3) hf hT (k:=k) (s4:=s4) (ed:=ed) (s8:=some (.val (cD x))) r1 (wP.mp ho).1 (hx o ho);refine⟨_,_,e2,.inl rfl,ar2,fu2,_,rfl,q1,fun y hy=>?_,fun y hy=>q3 y (r3 y hy),wA⟩;rw[List.mem_append,List.mem_singleton] at hy;rcases hy with z|rfl
   ·exact q3 y (r2 y z)
   ·exact q2
 refine⟨ar',fu',s9',?_,r1,r2,r3,r4⟩;have cn:=zcr n l x (f:=f) (by omega:f.length<=1000);simp only[VN,Yn,vR];simp[yr,cn,h9];rw[<-nb,<-yr,e];simp[yr]
theorem zks(n:Nat)(hf:f.length<=100){ms:Ms}{T:zb->Prop}(hT:vV f l ms T){k:Int}{s4:SV}{cr ar ed:List zb}{s7 s8 s9:Option SV}(h4:s4= .val (lD cr)\/s4= .obj true (lD cr))(hcr:cr.length<=1000)(hed: ∀x∈ed,∀o∈nb f l x,T o)
  (hnd:ar.Nodup) (hsub: ∀y∈ar,y∈f/\T y) (h7:zX (some s7)=true) (h8:zX (some s8)=true) (h9:zX (some s9)=true):
  ∃ar' fu s7' s8' s9',zp (zn U zr (n+3)) zr VO (yr f l ms k s4 ar ed s7 s8 s9)=some (.nx,yr f l ms k (.obj true (lD (cr++fu))) ar' fu s7' s8' s9')/\
   Ring f ms T ar ar' fu/\(∀x∈ed,∀o∈nb f l x,o∈ar')/\zX (some s7')=true/\zX (some s8')=true/\zX (some s9')=true:=by
 obtain⟨ρ',e,ar',fu,s8',s9',rfl,r1,r2,r3,r4⟩:=Jc (i:=8) (body:=zp (zn U zr (n+3)) zr VN)
  (fun pre ρ=>∃ar' fu s8' s9',ρ=yr f l ms k s4 ar' ed (some (.obj true (lD fu))) s8' s9'/\Ring f ms T ar ar' fu/\(∀x∈pre,∀o∈nb f l x,o∈ar')/\zX (some s8')=true/\zX (some s9')=true)
  (xs:=ed) (ρ:=yr f l ms k s4 ar ed (some (.obj true (lD []))) s8 s9) ⟨ar,[],s8,s9,rfl,⟨hnd,hsub,[],by simp,rfl⟩,fun o ho=>(by cases ho),h8,h9⟩
  fun pre x post ρ e zz5=>by
   obtain⟨ar',fu,s8',s9',eρ,r1,r2,r3,r4⟩:=zz5;subst eρ;have hx:x∈ed:=by rw[e];simp
   obtain⟨ar2,fu2,s92,e2,q1,q2,q3,q4⟩:=zkr n hf hT (k:=k) (s4:=s4) (ed:=ed) (s9:=s9') (x:=x) r1 (hed x hx) r4;refine⟨_,_,e2,.inl rfl,ar2,fu2,_,s92,rfl,q1,fun y hy o ho=>?_,wA,q4⟩;rw[List.mem_append,List.mem_singleton] at hy;rcases hy with z|rfl
   ·exact q3 o (r2 y z o ho)
   ·exact q2 o ho
 refine⟨ar',fu,some (.val (lD fu)),s8',s9',?_,r1,r2,wA,r3,r4⟩;have hl':=xt;have hlen:=r1.len
 have hadd:zh .add [lD cr,lD fu]=some (.obj true (lD (cr++fu))):=by
  rw[lD,lD,kc (by simp;omega)];simp[lD]
 simp only[VO];rcases h4 with rfl|rfl
 ·simp[yr,h7,h8,VI]
  rw[show wV (lD ed)=some (ed.map cD) from rfl,show D.lst []=lD [] from rfl];simp only[Option.map_some,Option.bind_some];rw[<-yr,e];simp[yr,hadd]
 ·simp[yr,h7,h8,VI]
  rw[show wV (lD ed)=some (ed.map cD) from rfl,show D.lst []=lD [] from rfl];simp only[Option.map_some,Option.bind_some];rw[<-yr,e];simp[yr,hadd]
structure Crowd (f:List zb)(l:zb)(ms:Ms)(T:zb->Prop)(k:Int)(cr ar:List zb):Prop where
 nd:ar.Nodup
 sub: ∀y∈ar,y∈f/\T y
 is:cr=(f.filter fun c=>decide (zB l c=k)&& !(get ms c).isSome)++ar.map (yd ms)
 all: ∀x∈cr,∀o∈nb f l x,o∈ar
theorem zkt(n:Nat)(hl:OkL l)(hf:OkF f){ms:Ms}{T:zb->Prop}(hm:Match f l ms)(hT:vV f l ms T){k:Int}(hfree: ∀x∈f,zB l x=k->get ms x=none->∀o∈nb f l x,T o):
  ∃cr ar,Crowd f l ms T k cr ar/\zS U zr (n+5) 40 [fD f,cD l,dD ms,.int k]=some (.val (.tup [lD cr,lD ar])):=by
 have hl':=xt;have hlen:=hf.len
 let cr0:=f.filter fun c=>decide (zB l c=k)&& !(get ms c).isSome
 have hcr0: ∀x∈cr0,∀o∈nb f l x,T o:=fun x hx=>by
  rw[List.mem_filter,Bool.and_eq_true,decide_eq_true_iff] at hx;exact hfree x hx.1 hx.2.1 (by simpa using hx.2.2)
 have hcl:cr0.length<=24:=Kh (KC _ _) hlen
 obtain⟨ρ',e,s4,cr,ar,s7,s8,s9,rfl,h4,q1,q2,q3,q4,q5⟩:=zcf (test:=zE (zS U zr (n+4)) (.prim .gt (.cons (.prim .len (.cons (.var 6) .nil)) (.cons (.int 0) .nil)))) (body:=zp (zn U zr (n+4)) zr VO)
  (fun m ρ=>∃s4 cr ar ed s7 s8 s9,ρ=yr f l ms k s4 ar ed s7 s8 s9/\(s4= .val (lD cr)\/s4= .obj true (lD cr))/\ar.Nodup/\(∀y∈ar,y∈f/\T y)/\cr=cr0++ar.map (yd ms)/\(∀x∈cr,x∈ed\/∀o∈nb f l x,o∈ar)/\(∀x∈ed,∀o∈nb f l x,T o)/\
   (zX (some s7)=true/\zX (some s8)=true/\zX (some s9)=true)/\m=2*(f.length-ar.length)+(if ed=[] then 0 else 1))
  (fun ρ=>∃s4 cr ar s7 s8 s9,ρ=yr f l ms k s4 ar [] s7 s8 s9/\(s4= .val (lD cr)\/s4= .obj true (lD cr))/\ar.Nodup/\(∀y∈ar,y∈f/\T y)/\cr=cr0++ar.map (yd ms)/\(∀x∈cr,∀o∈nb f l x,o∈ar)/\True)
  (m:=2*f.length+(if cr0=[] then 0 else 1)) (n:=zr) (ρ:=yr f l ms k (.val (lD cr0)) [] cr0 none none none) (by unfold zr;split<;>omega)
  ⟨_,cr0,[],cr0,none,none,none,rfl,.inl rfl,by simp,fun y h=>(by cases h),by simp,fun x hx=>.inl hx,hcr0,⟨rfl,rfl,rfl⟩,by simp⟩
  fun m ρ zz2=>by
   obtain⟨s4,cr,ar,ed,s7,s8,s9,eρ,h4,q1,q2,q3,q4,q5,q6,q7⟩:=zz2;subst eρ
   have ht:zE (zS U zr (n+4)) (.prim .gt (.cons (.prim .len (.cons (.var 6) .nil)) (.cons (.int 0) .nil))) (yr f l ms k s4 ar ed s7 s8 s9)=some (decide (0<ed.length)):=by
    simp[yr,lD]
   by_cases hed:ed=[]
   ·subst hed
    exact .inl ⟨by rw[ht];rfl,s4,cr,ar,s7,s8,s9,rfl,h4,q1,q2,q3,fun x hx=>(q4 x hx).resolve_left (by simp),trivial⟩
   ·have hpos:0<ed.length:=List.length_pos_iff.mpr hed
    refine .inr ⟨by rw[ht];simp[hpos],?_⟩;have hal:=jx q1 fun y hy=>(q2 y hy).1
    have hcrl:cr.length<=1000:=by rw[q3];simp;omega
    obtain⟨ar',fu,s7',s8',s9',e2,r1,r2,r3⟩:=zks (n+1) (by omega) hT (k:=k) h4 hcrl q5 q1 q2 q6.1 q6.2.1 q6.2.2;obtain⟨nw,n1,n2⟩:=r1.new;have hal':=r1.len.1;refine⟨_,_,2*(f.length-ar'.length)+(if fu=[] then 0 else 1),e2,.inl rfl,?_,_,cr++fu,ar',fu,s7',s8',s9',rfl,.inr rfl,r1.nd,r1.sub,?_,fun x hx=>?_,fun x hx o ho=>?_,r3,rfl⟩
    ·rw[q7,if_neg hed,n2,n1]
     cases nw with
     |nil=>simp
     |cons a b=>rw[n1] at hal';simp at hal'⊢;omega
    ·rw[q3,n1,n2];simp
    ·rw[List.mem_append] at hx
     rcases hx with z|z
     ·right
      rcases q4 x z with w|w
      ·exact r2 x w
      ·intro o ho;rw[n1];exact Kr _ (w o ho)
     ·exact .inl z
    ·rw[n2,List.mem_map] at hx
     obtain⟨y,hy,rfl⟩:=hx;obtain⟨v,e1,e3⟩:=hT y (r1.sub y (by rw[n1];exact Kq _ hy)).2;rw[yi e1] at ho;exact e3 o ho
 refine⟨cr,ar,⟨q1,q2,q3,q4⟩,?_⟩;have ch:=zcC n hl (f:=f) (by omega) k;rw[yo zjD rfl];simp only[YM,Yn,zb6,zjc];rw[wj (rs:=[.obj true (.lst ((f.filter fun c=>decide (zB l c=k)).map cD))]) (xs:=f.filter fun c=>decide (zB l c=k)) (f:=cD) (fun c=> !(get ms c).isSome) cD]
 ·simp
  have hflt:(f.filter fun a=>(get ms a).isNone&&decide (zB l a=k))=cr0:=by
   apply List.filter_congr;intro x _;rw[Bool.and_comm];cases get ms x<;>rfl
  have e':=e;rw[hflt,zb6,zji,show (D.lst (cr0.map cD))=lD cr0 from rfl,show D.lst []=lD [] from rfl,<-yr,e'];rcases h4 with rfl|rfl
  ·simp[yr]
  ·simp[yr]
 ·simp[ch]
 ·rfl
 ·have:=KC (fun c=>decide (zB l c=k)) f
  omega
 ·intro x _
  simp
 ·intro x _ _
  simp
noncomputable def Zs(l:zb)(cr ar:List zb)(c:zb):Bool:=if zB l c=0 then decide (c∉cr) else decide (c∈ar)
theorem zku(n:Nat)(hl:OkL l)(c:zb)(cr ar:List zb):zS U zr (n+4) 41 [cD l,cD c,lD cr,lD ar]=some (.val (.bl (Zs l cr ar c))):=by
 rw[yo zjE rfl];unfold Zs;have hh:=zcB n hl c;by_cases h0:zB l c=0
 ·simp[Zj,hh,h0,kh]
 ·simp[Zj,hh,h0,zjS]
noncomputable def vk(f:List zb)(l:zb)(cr ar:List zb):List zb:=f.filter (Zs l cr ar)
theorem zkv{a b:Bool}:zh .eq [.bl a,.bl b]=some (.val (.bl (a==b))):=by rw[VL rfl rfl,zO]
@[simp] theorem zrN{a b:D}:zh .idx [.tup [a,b],.int 0]=some (.val a):=id rfl
theorem zkw(n:Nat)(hl:OkL l)(hf:OkF f): ∃ms T cr ar,Final f l ms T/\Crowd f l ms T 0 cr ar/\∀b,zS U zr (n+30) 42 [fD f,cD l,.bl b]=some (.obj true (lD (f.filter fun c=>Zs l cr ar c==b))):=by
 have hlen:=hf.len;have hl':=xt;obtain⟨ms,T,h1,h2⟩:=zcH n hl hf;obtain⟨cr,ar,h3,h4⟩:=zkt (n+24) hl hf h1.toMatch h1.cl (k:=0) h1.free;refine⟨ms,T,cr,ar,h1,h3,fun b=>?_⟩;rw[yo zjF rfl];simp only[YN];simp[zcp (n+25) hf,zcq (n+26) hl,h2,h4];rw[wj (rs:=[.val (fD f)]) (xs:=f) (f:=cD) (fun c=>Zs l cr ar c==b) cD]
 ·simp[lD]
 ·simp
 ·rfl
 ·omega
 ·intro x _
  simp[zku (n+25) hl,zkv]
 ·intro x _ _;simp
theorem zkx(n:Nat)(hl:OkL l)(hf:OkF f): ∃ms T cr ar,Final f l ms T/\Crowd f l ms T 0 cr ar/\zS U zr (n+31) 44 [fD f,cD l]=some (.obj true (lD (vk f l cr ar)))/\True:=by
 obtain⟨ms,T,cr,ar,h1,h2,h3⟩:=zkw n hl hf;refine⟨ms,T,cr,ar,h1,h2,?_,trivial⟩;rw[yo zjH rfl];simp[YQ,h3 true];rfl
theorem Zt{cr ar:List zb}{c:zb}:c∈vk f l cr ar↔c∈f/\((zB l c=0/\c∉cr)\/(zB l c≠0/\c∈ar)):=by
 unfold vk Zs;rw[List.mem_filter];by_cases h:zB l c=0<;>simp[h]
theorem zky(hl:OkL l)(hn:f.Nodup){ms:Ms}{T:zb->Prop}{cr ar:List zb}(h:Final f l ms T)(hc:Crowd f l ms T 0 cr ar):IsCover f l (vk f l cr ar)/\(vk f l cr ar).length=(ml f l ms).length:=by
 have hC:IsCover f l (vk f l cr ar):=by
  refine⟨hn.sublist Kw,fun x hx=>(Zt.mp hx).1,fun a ha b hb hab=>?_⟩
  have key: ∀a∈f,∀b∈f,zT l a b=true->zB l a=0->a∈vk f l cr ar\/b∈vk f l cr ar:=fun a ha b hb hab h0=>by
   by_cases hin:a∈cr
   ·right
    have h1:=(xN hl hab).1 h0;exact Zt.mpr ⟨hb,.inr ⟨by omega,hc.all a hin b (wP.mpr ⟨hb,hab⟩)⟩⟩
   ·exact .inl (Zt.mpr ⟨ha,.inl ⟨h0,hin⟩⟩)
  rcases wB (l:=l) a with z|z
  ·exact key a ha b hb hab z
  ·exact (key b hb a ha (by rw[Zm];exact hab) ((xN hl hab).2 z)).symm
 refine⟨hC,Nat.le_antisymm ?_ (ku hl hn h.toMatch hC)⟩
 have in0: ∀c,c∈f->zB l c=0->c∉cr->∃v,get ms c=some v:=fun c hcf h0 hcr=>by
  cases q:get ms c with
  |some v=>exact⟨v,rfl⟩
  |none=>
   exfalso;apply hcr;rw[hc.is,List.mem_append];exact .inl (List.mem_filter.mpr ⟨hcf,by simp[h0,q]⟩)
 refine jy (fun c=>if zB l c=0 then c else yd ms c) hC.nd (fun c hcc=>?_) fun c hcc d hdd e=>?_
 ·obtain⟨g1,g2⟩:=Zt.mp hcc
  show (if zB l c=0 then c else yd ms c)∈ml f l ms;rcases g2 with ⟨g2,g3⟩|⟨g2,g3⟩
  ·rw[if_pos g2]
   exact wC.mpr ⟨g1,g2,in0 c g1 g2 g3⟩
  ·rw[if_neg g2]
   obtain⟨v,e1,_⟩:=h.cl c (hc.sub c g3).2;obtain⟨_,q2,q3⟩:=h.inF _ _ e1;rw[yi e1];have hc1:zB l c=1:=by have:=wB (l:=l) c;omega
   exact wC.mpr ⟨q2,(xN hl q3).2 hc1,c,h.sym _ _ e1⟩
 ·obtain⟨g1,g2⟩:=Zt.mp hcc
  obtain⟨g1',g2'⟩:=Zt.mp hdd;have e:(if zB l c=0 then c else yd ms c)=(if zB l d=0 then d else yd ms d):=e;rcases g2 with ⟨g2,g3⟩|⟨g2,g3⟩
  ·rcases g2' with ⟨g2',g3'⟩|⟨g2',g3'⟩
   ·rw[if_pos g2,if_pos g2'] at e;exact e
   ·rw[if_pos g2,if_neg g2'] at e
    exact KG (by rw[e,hc.is,List.mem_append];exact .inr (List.mem_map_of_mem g3')) g3
  ·rcases g2' with ⟨g2',g3'⟩|⟨g2',g3'⟩
   ·rw[if_neg g2,if_pos g2'] at e
    exact KG (by rw[<-e,hc.is,List.mem_append];exact .inr (List.mem_map_of_mem g3)) g3'
   ·rw[if_neg g2,if_neg g2'] at e
    obtain⟨v,e1,_⟩:=h.cl c (hc.sub c g3).2;obtain⟨v',e1',_⟩:=h.cl d (hc.sub d g3').2;rw[yi e1,yi e1'] at e;subst e;exact h.inj e1 e1'
theorem zkz(n:Nat)(l c:zb){f:List zb}(h:f.length<=1000):zS U zr (n+2) 18 [lD f,cD l,cD c]=some (.obj true (lD (f.filter (zT l c)))):=by
 rw[yo zcg rfl];have hl':=xt;simp only[Zh];simp;rw[wj (rs:=[.val (lD f)]) (xs:=f) (f:=cD) (zT l c) cD]
 ·simp[lD]
 ·simp
 ·rfl
 ·omega
 ·intro x _;simp[ko]
 ·intro x _ _;simp
@[simp] theorem zrO{g:List zb}:xC (lD g)=true:=by simp[lD]
@[simp] theorem zrP{g:List zb}:wb .list (lD g)=true:=id rfl
theorem zkA{o:Bool}{g:List zb}:ye (.obj o (lD g))=some (!g.isEmpty):=by
 cases g<;>rfl
theorem zkB{g:List zb}:zh .len [lD g]=some (.val (.int g.length)):=by simp[lD]
theorem zkC{ms:Ms}{g:List zb}:zh .len [.lst (g.map (yz ms))]=some (.val (.int g.length)):=by simp
end
end LK
namespace LK
open L2.LW
section
variable {α:Type}
noncomputable def vX(ms:List (zb×α))(c:zb):Option α:=(ms.find? fun p=>decide (p.1=c)).map (·.2)
theorem zkD(p:zb×α)(r:List (zb×α))(c:zb):vX (p::r) c=if p.1=c then some p.2 else vX r c:=by
 unfold vX;rw[List.find?_cons];by_cases h:p.1=c<;>simp[h]
theorem zcL(c:zb): ∀ms:List (zb×α),(vX ms c).isSome=decide (c∈ms.map (·.1))
 |[]=>rfl
 |p::r=>by
  rw[zkD,List.map_cons];by_cases h:p.1=c
  ·simp[h]
  ·rw[if_neg h,zcL c r]
   have: ¬c=p.1:=fun z=>h z.symm
   simp[this]
end
section
variable (f:List zb) (l:zb)
noncomputable def Bk(goal:zb):Nat->zb->Prop
 |0,c=>c=goal
 |k+1,c=>Bk goal k c\/(c∈f/\∃p,Bk goal k p/\zT l c p=true)
noncomputable def Lv(goal:zb)(k:Nat)(c:zb):Prop:=Bk f l goal k c/\∀i,i<k->¬Bk f l goal i c
noncomputable abbrev zcM:=List (zb×Option zb)
structure LOk (goal:zb)(ms:zcM):Prop where
 nd:(ms.map (·.1)).Nodup
 sub: ∀c,(vX ms c).isSome=true->c∈f
 root: ∀c,vX ms c=some none->c=goal
 next: ∀c p,vX ms c=some (some p)->zT l c p=true/\∃j,Lv f l goal (j+1) c/\Lv f l goal j p/\(vX ms p).isSome=true
end
section
variable {f:List zb} {l:zb} {goal:zb}
theorem Bk.mono: ∀{k m:Nat} {c:zb},k<=m->Bk f l goal k c->Bk f l goal m c
 |k,0,c,h,b=>by
  have:k=0:=by omega
  subst this;exact b
 |k,m+1,c,h,b=>by
  by_cases e:k=m+1
  ·subst e;exact b
  ·exact .inl (Bk.mono (by omega) b)
theorem Bk.inF(hg:goal∈f): ∀{k:Nat} {c:zb},Bk f l goal k c->c∈f
 |0,c,h=>by rw[show c=goal from h];exact hg
 |k+1,c,h=>by
  rcases h with h|h
  ·exact Bk.inF hg h
  ·exact h.1
theorem Bk.lv{k:Nat}{c:zb}(h:Bk f l goal k c): ∃j,j<=k/\Lv f l goal j c:=by
 induction k with
 |zero=>exact⟨0,Kg _,h,fun i hi=>by omega⟩
 |succ k ih=>
  by_cases hk:Bk f l goal k c
  ·obtain⟨j,h1,h2⟩:=ih hk
   exact⟨j,by omega,h2⟩
  ·exact⟨k+1,Kg _,h,fun i hi z=>hk (z.mono (by omega))⟩
theorem LOk.len{ms:zcM}(h:LOk f l goal ms):ms.length<=f.length:=by
 have:=jx (l:=ms.map fun (p:zb×Option zb)=>p.1) (m:=f) h.nd fun x hx=>h.sub x (by rw[zcL];simpa using hx)
 simpa using this
end
end LK
namespace LK
open L2.LW
theorem zcN{α:Type}{R:α->α->Prop}(ir: ∀a,¬R a a)(as: ∀a b,R a b->R b a->False): ∀{l m:List α},l.Pairwise R->m.Pairwise R->(∀x,x∈l↔x∈m)->l=m
 |[],[],_,_,_=>rfl
 |[],y::m,_,_,h=>KG ((h y).mpr Ke) (by simp)
 |x::l,[],_,_,h=>KG ((h x).mp Ke) (by simp)
 |x::l,y::m,hl,hm,h=>by
  rw[List.pairwise_cons] at hl hm
  have exy:x=y:=by
   rcases List.mem_cons.mp ((h x).mp Ke) with e|e
   ·exact e
   ·rcases List.mem_cons.mp ((h y).mpr Ke) with e'|e'
    ·exact e'.symm
    ·exact (as _ _ (hm.1 x e) (hl.1 y e')).elim
  subst exy;rw[zcN ir as hl.2 hm.2 fun z=>?_];constructor
  ·intro hz
   rcases List.mem_cons.mp ((h z).mp (Kf _ hz)) with e|e
   ·subst e;exact (ir _ (hl.1 z hz)).elim
   ·exact e
  ·intro hz
   rcases List.mem_cons.mp ((h z).mpr (Kf _ hz)) with e|e
   ·subst e;exact (ir _ (hm.1 z hz)).elim
   ·exact e
noncomputable def cl(c:zb):List Int:=[c.1,c.2]
noncomputable def zkE(f:List zb)(l c:zb):List zb:=f.filter fun x=>@decide (∃k,Bk f l c k x) (Classical.propDecidable _)
noncomputable def kz(f:List zb)(l:zb):List zb->List (List zb)->List (List zb)
 |[],acc=>acc
 |c::r,acc=>if c∈acc.flatten then kz f l r acc else kz f l r (acc++[zkE f l c])
noncomputable def zrQ(f:List zb)(l:zb):List (List zb):=kz f l f []
end LK
namespace LK
open L2.LW
section
variable {f:List zb} {l:zb}
theorem Bk.join{b c:zb}{k:Nat}(h2:Bk f l c k b): ∀{j:Nat} {a:zb},Bk f l b j a->Bk f l c (k+j) a
 |0,a,h=>by rw[show a=b from h];exact h2
 |j+1,a,h=>by
  rcases h with h|⟨ha,p,hp,hn⟩
  ·exact .inl (Bk.join h2 h)
  ·exact .inr ⟨ha,p,Bk.join h2 hp,hn⟩
theorem Bk.symm{b:zb}(hb:b∈f): ∀{j:Nat} {a:zb},a∈f->Bk f l b j a->Bk f l a j b
 |0,a,_,h=>by rw[show a=b from h];exact rfl
 |j+1,a,ha,h=>by
  rcases h with h|⟨_,p,hp,hn⟩
  ·exact .inl (Bk.symm hb ha h)
  ·have hpf:=hp.inF hb
   have h1:=Bk.symm hb hpf hp;have h2:Bk f l a 1 p:=.inr ⟨hpf,a,rfl,by rw[Zm];exact hn⟩;have:=Bk.join h2 h1
   rwa [Nat.add_comm] at this
end
end LK
namespace LK
open L2.LW
theorem zcO{α:Type}{g:α->D}(h: ∀x,plain (g x)=true): ∀{L:List α},yU (L.map g)=true
 |[]=>by simp
 |a::r=>by simp[h a,zcO h (L:=r)]
end LK
namespace LK
open L2.LW
section
variable {f:List zb} {l:zb}
theorem zcP{ms:Ms}: ∀L:List zb,yP (L.map (yz ms)) (L.map (yz ms))=true
 |[]=>rfl
 |c::r=>by simp[yP,zO,yz,zcP r]
noncomputable def k4(ms:Ms)(c:zb):List Int:=[c.1,c.2,(yd ms c).1,(yd ms c).2]
theorem zcQ{ms:Ms}: ∀L:List zb,prs? (L.map (yz ms))=some (L.map (k4 ms))
 |[]=>rfl
 |c::r=>by
  have ih:=zcQ (ms:=ms) r;show (prs? (r.map (yz ms))).map _=_;rw[ih];rfl
theorem zkF{ms:Ms}{a b:zb}(h:yh a b):wz (k4 ms a) (k4 ms b):=by
 show L2.LW.lexLt [a.1,a.2,_,_] [b.1,b.2,_,_]=true;simp only[L2.LW.lexLt];unfold yh at h;by_cases e:a.1=b.1
 ·have: ¬a.2=b.2:=by omega
  have h2:a.2<b.2:=by omega
  simp[e,this,h2]
 ·have h2:a.1<b.1:=by omega
  simp[e,h2]
theorem zkG{ms:Ms}{L:List zb}(hL:L.Pairwise yh)(hl:L.length<64):zh .sortP [.lst (L.map (yz ms))]=some (.obj true (.lst (L.map (yz ms)))):=by
 show ZR [.lst (L.map (yz ms))]=_;unfold ZR;have up2:(L.map (k4 ms)).Pairwise wz:=by rw[List.pairwise_map];exact hL.imp zkF
 have nd:(L.map (k4 ms)).Nodup:=up2.imp fun {a b} z e=>by
  subst e;have:=ve a;rw[show L2.LW.lexLt a a=true from z] at this;cases this
 have up:=Vw nd;have e:wW (L.map (k4 ms))=L.map (k4 ms):=zcN (R:=wz) (fun a z=>by have:=ve a;rw[show L2.LW.lexLt a a=true from z] at this;cases this) (fun a b z1 z2=>by have:=Zb z1 z2;rw[ve] at this;cases this) up up2 fun x=>(Yj _).mem_iff
 simp only[zcQ,Option.bind_some];rw[if_pos ⟨by simpa using hl,nd⟩,e,List.map_map];rfl
theorem zcR: ∀{L:List zb},(∀c∈L,vT c)->jL (L.map cD)=some L
 |[],_=>rfl
 |c::r,h=>by
  have h1:=h c Ke;unfold vT at h1;rw[List.map_cons,jL,zcR fun x hx=>h x (Kf _ hx)]
  have e:Qb (cD c)=some c:=by
   show (if 0<=c.1/\c.1<=7/\0<=c.2/\c.2<=7 then some (c.1,c.2) else none)=_;rw[if_pos h1]
  rw[e];rfl
theorem zkH{L:List zb}(h: ∀c∈L,vT c):zh .nset [lD L]=some (.val (.int (yV L).length)):=by
 show ZS [.lst (L.map cD)]=_;unfold ZS;simp only[zcR h]
end
end LK
namespace LK
open L2.LW
theorem zcS{α:Type}{g:α->D}{i:Nat}{body:Env->Option (Fl×Env)}(I:List α->Env->Prop){xs:List α}{ρ:Env}(h0:I [] ρ)
  (st: ∀pre x post ρ,xs=pre++x::post->I pre ρ->∃fl ρ',body (ρ.set i (some (.val (g x))))=some (fl,ρ')/\(fl= .nx\/fl= .ct)/\I (pre++[x]) ρ'):
  ∃ρ',yx i body (xs.map g) ρ=some (.nx,ρ')/\I xs ρ':=by
 have key: ∀(post pre:List α) (ρ:Env),xs=pre++post->I pre ρ->∃ρ',yx i body (post.map g) ρ=some (.nx,ρ')/\I xs ρ':=by
  intro post
  induction post with
  |nil=>intro pre ρ e h;exact⟨ρ,rfl,by rw[e];simpa using h⟩
  |cons x post ih=>
   intro pre ρ e h;obtain⟨fl,ρ1,e1,e2,h1⟩:=st pre x post ρ e h;obtain⟨ρ',e3,h3⟩:=ih (pre++[x]) ρ1 (by simp[e]) h1;refine⟨ρ',?_,h3⟩;rw[List.map_cons,yx,e1];simp only[Option.bind_some];rcases e2 with rfl|rfl<;>exact e3
 exact key xs [] ρ rfl h0
theorem zkI{a b:zb}:zh .ge [cD a,cD b]=some (.val (.bl (!decide (yh a b)))):=by
 have h:=zjM (a:=a) (b:=b)
 have e:L2.LW.lexLt [a.1,a.2] [b.1,b.2]=decide (yh a b):=by
  have:some (SV.val (.bl (L2.LW.lexLt [a.1,a.2] [b.1,b.2])))=some (.val (.bl (decide (yh a b)))):=h;simpa using this
 show some (SV.val (.bl (!L2.LW.lexLt [a.1,a.2] [b.1,b.2])))=_;rw[e]
end LK
namespace LK
open L2.LW
noncomputable def k2(c:zb):List Int:=[c.1,c.2]
theorem kA: ∀g:List zb,tups? (g.map cD)=some (g.map k2)
 |[]=>rfl
 |c::r=>by
  have ih:=kA r;show (ints? [D.int c.1,D.int c.2]).bind (fun x=>(tups? (r.map cD)).map (x:: ·))=_;rw[ih];rfl
theorem kB(g:List zb):tup2? (fD g)=some (g.map k2):=kA g
theorem zcT: ∀{a b:List zb},a.map k2=b.map k2->a=b
 |[],[],_=>rfl
 |[],_::_,h=>by simp at h
 |_::_,[],h=>by simp at h
 |x::a,y::b,h=>by
  simp only[List.map_cons,List.cons.injEq] at h;have e:=h.1;unfold k2 at e;simp at e;rw[zcT h.2,Prod.ext e.1 e.2]
noncomputable def mb(l:zb):Nat->List zb->Nat
 |0,_=>0
 |_+1,[]=>0
 |n+1,a::r=>(r.filter (zT l a)).foldl (fun b o=>max b (1+mb l n (r.filter fun c=> !decide (c=o)))) (mb l n r)
theorem kD(l:zb): ∀(n m:Nat) (g:List zb),g.length<=n->g.length<=m->mb l n g=mb l m g
 |0,m,[],_,_=>by cases m<;>rfl
 |0,_,_::_,h,_=>by simp at h
 |n+1,0,[],_,_=>rfl
 |_+1,0,_::_,_,h=>by simp at h
 |n+1,m+1,[],_,_=>rfl
 |n+1,m+1,a::r,h1,h2=>by
  simp only[List.length_cons,Nat.add_le_add_iff_right] at h1 h2;unfold mb;rw[kD l n m r h1 h2]
  congr 1
  funext b o
  have h:=KC (fun c=> !decide (c=o)) r;rw[kD l n m _ (by omega) (by omega)]
noncomputable def yj(l:zb)(g:List zb):Nat:=mb l g.length g
theorem kE(l a:zb)(r:List zb):yj l (a::r)=(r.filter (zT l a)).foldl (fun b o=>max b (1+yj l (r.filter fun c=> !decide (c=o)))) (yj l r):=by
 unfold yj;show mb l (r.length+1) (a::r)=_;rw[mb]
 congr 1
 funext b o
 have h:=KC (fun c=> !decide (c=o)) r;rw[kD l r.length _ _ h (Kg _)]
noncomputable def jz{α:Type}:List α->List (List α)
 |[]=>[[]]
 |a::r=>jz r++(jz r).map (a:: ·)
theorem zcU{α:Type}: ∀f:List α,(jz f).length=2 ^ f.length
 |[]=>rfl
 |a::r=>by simp[jz,zcU r,Nat.pow_succ];omega
theorem zkJ{α:Type}{g f:List α}(h:g.Sublist f):g∈jz f:=by
 induction h with
 |slnil=>simp[jz]
 |cons a _ ih=>exact Kr _ ih
 |cons_cons a _ ih=>exact Kq _ (List.mem_map.mpr ⟨_,ih,rfl⟩)
noncomputable abbrev wa:=List (List (List Int)×Int)
structure Rt (f:List zb)(l:zb)(kvs:wa):Prop where
 nd:(kvs.map (·.1)).Nodup
 ok: ∀p∈kvs,∃g:List zb,g.Sublist f/\p.1=g.map k2/\p.2=(yj l g:Int)
theorem YZ{α:Type}[DecidableEq α]{a b:List α}(h:a.Nodup)(hs: ∀x∈a,x∈b):a.length<=b.length:=jy id h hs fun _ _ _ _ e=>e
theorem Rt.len{f:List zb}{l:zb}{kvs:wa}(h:Rt f l kvs)(hf:f.length<=10):kvs.length<=1024:=by
 have h1:=YZ (b:=(jz f).map (List.map k2)) h.nd fun x hx=>by
  obtain⟨p,hp,rfl⟩:=List.mem_map.mp hx;obtain⟨g,g1,g2,_⟩:=h.ok p hp;exact List.mem_map.mpr ⟨g,zkJ g1,g2.symm⟩
 rw[List.length_map,List.length_map,zcU] at h1;have h2:2 ^ f.length<=2 ^ 10:=Nat.pow_le_pow_right (by decide) hf;have h3:(2:Nat) ^ 10=1024:=by decide
 omega
theorem zkK{kvs:wa}{k:List (List Int)}{v:Int}(h:xx kvs k=some v):(k,v)∈kvs:=by
 unfold xx at h;rw[jo2] at h;obtain⟨p,hp,rfl⟩:=h;have h1:=List.mem_of_find?_eq_some hp;have h2:=List.find?_some hp;rw[decide_eq_true_iff] at h2;rw[<-h2];exact h1
theorem Rt.look{f:List zb}{l:zb}{kvs:wa}(h:Rt f l kvs){g:List zb}{v:Int}(e:xx kvs (g.map k2)=some v):v=(yj l g:Int):=by
 obtain⟨g',_,g2,g3⟩:=h.ok _ (zkK e);have:=zcT g2;subst this;exact g3
theorem zcV{kvs:wa}{k:List (List Int)}(h: ¬(xx kvs k).isSome=true): ∀p∈kvs,p.1≠k:=by
 intro p hp e;apply h;unfold xx;rw[Option.isSome_map,List.find?_isSome];exact⟨p,hp,by simpa using e⟩
theorem zkL(kvs:wa)(k:List (List Int))(i:Int):xx (vr kvs k i) k=some i:=by
 unfold vr;split
 ·rename_i h
  unfold xx at h⊢;rw[Option.isSome_map] at h
  induction kvs with
  |nil=>simp at h
  |cons p r ih=>
   by_cases e:p.1=k
   ·simp[List.find?_cons,e]
   ·rw[List.find?_cons,KKq e] at h
    rw[List.map_cons,if_neg e,List.find?_cons,KKq e];exact ih h
 ·rename_i h
  unfold xx;rw[List.find?_append]
  have:kvs.find? (fun p=>decide (p.1=k))=none:=by
   rw[List.find?_eq_none];intro p hp;simpa using zcV h p hp
  rw[this];simp
theorem Rt.store{f:List zb}{l:zb}{kvs:wa}(h:Rt f l kvs){g:List zb}(hg:g.Sublist f):Rt f l (vr kvs (g.map k2) (yj l g:Int)):=by
 unfold vr;split
 ·refine⟨?_,fun p hp=>?_⟩
  ·rw[List.map_map]
   have:((fun p:List (List Int)×Int=>p.1)∘fun p=>if p.1=g.map k2 then (p.1,(yj l g:Int)) else p)=fun p=>p.1:=by
    funext p
    show (if p.1=g.map k2 then (p.1,(yj l g:Int)) else p).1=p.1;split<;>rfl
   rw[this];exact h.nd
  ·obtain⟨q,hq,rfl⟩:=List.mem_map.mp hp
   split
   ·rename_i e
    exact⟨g,hg,e,rfl⟩
   ·exact h.ok q hq
 ·rename_i hn
  refine⟨?_,fun p hp=>?_⟩
  ·rw[List.map_append,List.nodup_append]
   refine⟨h.nd,by simp,fun x hx y hy=>?_⟩;obtain⟨p,hp,rfl⟩:=List.mem_map.mp hx;simp at hy;subst hy;exact zcV hn p hp
  ·rcases List.mem_append.mp hp with hp|hp
   ·exact h.ok p hp
   ·simp at hp;subst hp
    exact⟨g,hg,rfl,rfl⟩
@[simp] theorem zrR{kvs:wa}:wI (.dcd kvs)=true:=rfl
@[simp] theorem zrS{kvs:wa}:xC (.dcd kvs)=true:=rfl
theorem zcW{g:List zb}{kvs:wa}:zh .nin [fD g,.dcd kvs]=some (.val (.bl (!(xx kvs (g.map k2)).isSome))):=by
 show wH [fD g,.dcd kvs]=_;unfold wH;show (tup2? (fD g)).bind _=_;rw[kB];rfl
theorem zcX{g:List zb}{kvs:wa}{v:Int}(h:xx kvs (g.map k2)=some v):zh .idx [.dcd kvs,fD g]=some (.val (.int v)):=by
 show (tup2? (fD g)).bind _=_;rw[kB];show (xx kvs (g.map k2)).map _=_;rw[h];rfl
theorem zkM{g:List zb}{kvs:wa}{i:Int}(h:kvs.length<line):jI kvs (fD g) (.int i)=some (.dcd (vr kvs (g.map k2) i)):=by
 show (tup2? (fD g)).bind _=_;rw[kB];show (if kvs.length<line then _ else _)=_;rw[if_pos h]
end LK
namespace LK
open L2.LW
noncomputable def vm(g:List zb)(l:zb)(kvs:wa)(s3 s4 s5 s6:Option SV):Env:=[some (.val (fD g)),some (.val (cD l)),some (.io (.dcd kvs)),s3,s4,s5,s6]
noncomputable def MO(f:List zb)(l:zb)(n:Nat)(g:List zb):Prop:=∀kvs,Rt f l kvs->∃kvs',Rt f l kvs'/\zn U zr n 50 [fD g,cD l,.dcd kvs]=some (.ok (.val (.int (yj l g:Int))) [.dcd kvs'])
theorem p_max2{a b:Nat}:zh .max2 [.int (a:Int),.int (b:Int)]=some (.val (.int ((max a b:Nat):Int))):=by
 show xk (if (b:Int)>(a:Int) then (b:Int) else (a:Int))=_;unfold xk
 congr 3
 split<;>omega
theorem zkN(n:Nat){f g r:List zb}{l o:zb}{kvs:wa}{b:Nat}{s6:Option SV}(hr:r.length<=1000)(hM:MO f l n (r.filter fun c=> !decide (c=o)))(h:Rt f l kvs)(h6:zX (some s6)=true):
  ∃kvs',Rt f l kvs'/\zp (zn U zr n) zr VQ (vm g l kvs (some (.val (fD r))) (some (.val (.int (b:Int)))) (some (.val (cD o))) s6)=
   some (.nx,vm g l kvs' (some (.val (fD r))) (some (.val (.int ((max b (1+yj l (r.filter fun c=> !decide (c=o))):Nat):Int)))) (some (.val (cD o))) (some (.val (fD (r.filter fun c=> !decide (c=o)))))):=by
 have hl':=xt;obtain⟨kvs',h',e⟩:=hM kvs h;refine⟨kvs',h',?_⟩
 have cm: ∀ρ:Env,ρ[3]? =some (some (.val (fD r)))->ρ[5]? =some (some (.val (cD o)))->zi (zS U zr n) (.comp false (.cons (.var 3) .nil) (.prim .ne (.cons (.var 0) (.cons (.var 6) .nil))) (.var 0)) ρ=some (.obj true (lD (r.filter fun c=> !decide (c=o)))):=by
  intro ρ h3 h5;rw[wj (rs:=[.val (fD r)]) (xs:=r) (f:=cD) (fun c=> !decide (c=o)) cD]
  ·rfl
  ·simp[h3]
  ·rfl
  ·omega
  ·intro c _
   have ne:zh .ne [cD c,cD o]=some (.val (.bl (!decide (c=o)))):=by
    rw[kd (by simp[cD,zG]) (by simp[cD,zG])]
    congr 4
    rw[Bool.eq_iff_iff,decide_eq_true_iff];simp[cD,zO,yP];exact⟨fun z=>Prod.ext z.1 z.2,fun z=>by rw[z];exact⟨rfl,rfl⟩⟩
   simp[h5,ne]
  ·intro c _ _;simp
 have tt:zh .toTup [lD (r.filter fun c=> !decide (c=o))]=some (.val (fD (r.filter fun c=> !decide (c=o)))):=rfl;generalize (r.filter fun c=> !decide (c=o))=q at*;have m1:=p_max2 (a:=b) (b:=1+yj l q)
 have m1:zh .max2 [.int (b:Int),.int (1+(yj l q:Int))]=some (.val (.int ((max b (1+yj l q):Nat):Int))):=by
  rw[<-m1];rfl
 generalize ((max b (1+yj l q):Nat):Int)=mx at*;simp -implicitDefEqProofs only[VQ];simp -implicitDefEqProofs [vm,h6,cm,tt,e,m1]
theorem kF{f:List zb}{l:zb}(hf:f.length<=10): ∀(m:Nat) (g:List zb),g.length<=m->g.Sublist f->∀n,MO f l (n+m+3) g
 |0,[],_,_,n=>by
  intro kvs h;refine⟨kvs,h,?_⟩;rw[Yo VU rfl];simp -implicitDefEqProofs [vj,fD];rfl
 |0,_::_,h,_,_=>by simp at h
 |m+1,[],_,_,n=>by
  intro kvs h;refine⟨kvs,h,?_⟩;rw[show n+(m+1)+3=n+m+3+1 by omega,Yo VU rfl];simp -implicitDefEqProofs [vj,fD];rfl
 |m+1,a::r,hlen,hg,n=>by
  intro kvs h;have hl':=xt;have hgl:(a::r).length<=10:=Kh hg.length_le hf;have rl:r.length<=9:=by simpa using hgl
  have rm:r.length<=m:=by simpa using hlen
  have rs:r.Sublist f:=(List.sublist_cons_self a r).trans hg;rw[show n+(m+1)+3=n+m+3+1 by omega];have tr:ye (.val (fD (a::r)))=some true:=rfl
  cases lk:xx kvs ((a::r).map k2) with
  |some v=>
   refine⟨kvs,h,?_⟩;have hv:=h.look lk;subst hv;have n1:=zcW (g:=a::r) (kvs:=kvs);rw[lk] at n1;have i1:=zcX lk;rw[Yo VU rfl];show wt [2] (zp (zn U zr (n+m+3)) zr vj (vm (a::r) l kvs none none none none))=_;simp -implicitDefEqProofs only[vj,vm];generalize fD (a::r)=G at*;simp -implicitDefEqProofs [tr,n1,i1]
  |none=>
   have n1:=zcW (g:=a::r) (kvs:=kvs);rw[lk] at n1;obtain⟨kvs1,h1,e1⟩:=kF hf m r rm rs n kvs h;have cf:zh .cutF [fD (a::r),.int 1]=some (.val (fD r)):=rfl
   have i0:zh .idx [fD (a::r),.int 0]=some (.val (cD a)):=by
    show (atI ((a::r).map cD) 0).map _=_;rw[show (0:Int)=((0:Nat):Int) from rfl,atI_nat (by simp)];rfl
   have nk:=zj6 (n+m+1) l a (f:=r) (by omega)
   obtain⟨ρ',e,kvs2,h2,s5,s6,rfl,q5,q6⟩:=Jc (i:=5) (body:=zp (zn U zr (n+m+3)) zr VQ)
    (fun pre ρ=>∃kvs',Rt f l kvs'/\∃s5 s6,ρ=vm (a::r) l kvs' (some (.val (fD r))) (some (.val (.int ((pre.foldl (fun b o=>max b (1+yj l (r.filter fun c=> !decide (c=o)))) (yj l r):Nat):Int)))) s5 s6/\zX (some s5)=true/\zX (some s6)=true)
    (xs:=r.filter (zT l a)) (ρ:=vm (a::r) l kvs1 (some (.val (fD r))) (some (.val (.int (yj l r:Int)))) none none) ⟨kvs1,h1,none,none,rfl,rfl,rfl⟩
    fun pre o post ρ ex zz=>by
     obtain⟨kvs',h',s5,s6,rfl,q5,q6⟩:=zz;have fl:=KC (fun c=> !decide (c=o)) r
     obtain⟨kvs3,h3,e3⟩:=zkN (n+m+3) (f:=f) (g:=a::r) (r:=r) (l:=l) (o:=o) (kvs:=kvs') (b:=pre.foldl (fun b o=>max b (1+yj l (r.filter fun c=> !decide (c=o)))) (yj l r)) (s6:=s6) (by omega)
      (kF hf m _ (by omega) (List.filter_sublist.trans rs) n) h' q6
     refine⟨.nx,_,e3,.inl rfl,kvs3,h3,some (.val (cD o)),some (.val (fD (r.filter fun c=> !decide (c=o)))),?_,wA,wA⟩;rw[List.foldl_append];rfl
   refine⟨_,h2.store hg,?_⟩;rw[<-kE] at e;have dp:=zkM (g:=a::r) (kvs:=kvs2) (i:=(yj l (a::r):Int)) (by have:=h2.len hf;omega);have i1:=zcX (g:=a::r) (zkL kvs2 ((a::r).map k2) (yj l (a::r):Int));have it:yf false [.obj true (.lst ((r.filter (zT l a)).map cD))]=some ((r.filter (zT l a)).map cD):=rfl;generalize (r.filter (zT l a)).map cD=LS at*;generalize hS:vr kvs2 ((a::r).map k2) (yj l (a::r):Int)=S at*;generalize (yj l (a::r):Int)=B at*;rw[Yo VU rfl];show wt [2] (zp (zn U zr (n+m+3)) zr vj (vm (a::r) l kvs none none none none))=_;simp -implicitDefEqProofs only[vj,vm];simp only[vm] at e;generalize fD (a::r)=G at*;simp -implicitDefEqProofs [tr,n1,cf,i0,e1,vR,nk,it];rw[e];simp -implicitDefEqProofs [dp,i1]
end LK
namespace LK
open L2.LW
noncomputable def yA(P:List (zb×zb)):List zb:=P.flatMap fun p=>[p.1,p.2]
structure IsM (l:zb)(g:List zb)(P:List (zb×zb)):Prop where
 inG: ∀p∈P,p.1∈g/\p.2∈g/\zT l p.1 p.2=true
 nd:(yA P).Nodup
theorem kG(A B:List (zb×zb)):yA (A++B)=yA A++yA B:=List.flatMap_append
theorem Zu{P:List (zb×zb)}{x:zb}:x∈yA P↔∃p∈P,x=p.1\/x=p.2:=by
 unfold yA;rw[List.mem_flatMap];constructor
 ·rintro⟨p,hp,hx⟩
  exact⟨p,hp,by simpa using hx⟩
 ·rintro⟨p,hp,hx⟩
  exact⟨p,hp,by simpa using hx⟩
theorem kH{h:zb->Nat}: ∀(L:List zb) (b:Nat),b<=L.foldl (fun b o=>max b (h o)) b/\(∀o∈L,h o<=L.foldl (fun b o=>max b (h o)) b)/\(L.foldl (fun b o=>max b (h o)) b=b\/∃o∈L,L.foldl (fun b o=>max b (h o)) b=h o)
 |[],b=>⟨Kg _,by simp,.inl rfl⟩
 |a::r,b=>by
  obtain⟨h1,h2,h3⟩:=kH (h:=h) r (max b (h a));rw[List.foldl_cons];refine⟨by omega,fun o ho=>?_,?_⟩
  ·rcases List.mem_cons.mp ho with rfl|ho
   ·omega
   ·exact h2 o ho
  ·rcases h3 with h3|⟨o,ho,h3⟩
   ·rw[h3]
    by_cases z:h a<=b
    ·exact .inl (by omega)
    ·exact .inr ⟨a,Ke,by omega⟩
   ·exact .inr ⟨o,Kf _ ho,h3⟩
theorem zcY{l:zb}(sy: ∀a b,zT l a b=zT l b a): ∀(n:Nat) (g:List zb),g.length<=n->∀P,IsM l g P->P.length<=yj l g:=by
 intro n
 induction n with
 |zero=>
  intro g hg P hP;have:g=[]:=List.length_eq_zero_iff.mp (by omega);subst this
  cases P with
  |nil=>exact Nat.zero_le _
  |cons p r=>have:=(hP.inG p Ke).1;cases this
 |succ n ih=>
  intro g hg P hP
  cases g with
  |nil=>
   cases P with
   |nil=>exact Nat.zero_le _
   |cons p r=>have:=(hP.inG p Ke).1;cases this
  |cons a r=>
   have rl:r.length<=n:=by simpa using hg
   rw[kE];obtain⟨f1,f2,_⟩:=kH (h:=fun o=>1+yj l (r.filter fun c=> !decide (c=o))) (r.filter (zT l a)) (yj l r);by_cases ha:a∈yA P
   ·obtain⟨p,hp,e⟩:=Zu.mp ha
    obtain⟨A,B,rfl⟩:=List.append_of_mem hp;have nd:=hP.nd;rw[kG,show yA (p::B)=p.1::p.2::yA B from rfl] at nd
    have key: ∀o,(p=(a,o)\/p=(o,a))->(A++p::B).length<=1+yj l (r.filter fun c=> !decide (c=o))/\o∈r.filter (zT l a):=by
     intro o ho
     have nd2:(a::o::(yA A++yA B)).Nodup:=by
      have pm:(yA A++p.1::p.2::yA B).Perm (p.1::p.2::(yA A++yA B)):=(List.perm_middle).trans ((List.Perm.cons _ List.perm_middle));have:=pm.nodup_iff.mp nd;rcases ho with rfl|rfl
      ·exact this
      ·exact (List.Perm.swap o a _).nodup_iff.mpr this
     rw[List.nodup_cons,List.nodup_cons] at nd2;obtain⟨n1,n2,n3⟩:=nd2;have ne:o≠a:=fun z=>n1 (by rw[z];exact Ke)
     have og:o∈r/\zT l a o=true:=by
      obtain⟨q1,q2,q3⟩:=hP.inG p (by simp);rcases ho with rfl|rfl
      ·exact⟨(List.mem_cons.mp q2).resolve_left ne,q3⟩
      ·exact⟨(List.mem_cons.mp q1).resolve_left ne,by rw[sy];exact q3⟩
     refine⟨?_,List.mem_filter.mpr og⟩
     have sub:IsM l (r.filter fun c=> !decide (c=o)) (A++B):=by
      refine⟨fun q hq=>?_,by rw[kG];exact n3⟩
      obtain⟨q1,q2,q3⟩:=hP.inG q (by
       rcases List.mem_append.mp hq with z|z
       ·exact Kr _ z
       ·exact Kq _ (Kf _ z))
      have out: ∀x,(x=q.1\/x=q.2)->x∈a::r->x∈r.filter fun c=> !decide (c=o):=by
       intro x hx hg
       have xm:x∈yA A++yA B:=by
        rw[<-kG];exact Zu.mpr ⟨q,hq,hx⟩
       have xa:x≠a:=fun z=>n1 (by rw[<-z];exact Kf _ xm)
       have xo:x≠o:=fun z=>n2 (by rw[<-z];exact xm)
       exact List.mem_filter.mpr ⟨(List.mem_cons.mp hg).resolve_left xa,by simpa using xo⟩
      exact⟨out _ (.inl rfl) q1,out _ (.inr rfl) q2,q3⟩
     have fl:=KC (fun c=> !decide (c=o)) r;have:=ih _ (by omega) _ sub;simp only[List.length_append,List.length_cons] at this⊢;omega
    rcases e with e|e
    ·obtain⟨k1,k2⟩:=key p.2 (.inl (by rw[e]))
     exact Kh k1 (f2 _ k2)
    ·obtain⟨k1,k2⟩:=key p.1 (.inr (by rw[e]))
     exact Kh k1 (f2 _ k2)
   ·have sub:IsM l r P:=by
     refine⟨fun q hq=>?_,hP.nd⟩;obtain⟨q1,q2,q3⟩:=hP.inG q hq;refine⟨(List.mem_cons.mp q1).resolve_left fun z=>ha (Zu.mpr ⟨q,hq,.inl z.symm⟩),(List.mem_cons.mp q2).resolve_left fun z=>ha (Zu.mpr ⟨q,hq,.inr z.symm⟩),q3⟩
    exact Kh (ih r rl P sub) f1
theorem zkO{l:zb}: ∀(n:Nat) (g:List zb),g.length<=n->g.Nodup->∃P,IsM l g P/\P.length=yj l g:=by
 intro n
 induction n with
 |zero=>
  intro g hg _;have:g=[]:=List.length_eq_zero_iff.mp (by omega);subst this;exact⟨[],⟨by simp,List.nodup_nil⟩,rfl⟩
 |succ n ih=>
  intro g hg hn
  cases g with
  |nil=>exact⟨[],⟨by simp,List.nodup_nil⟩,rfl⟩
  |cons a r=>
   have rl:r.length<=n:=by simpa using hg
   rw[List.nodup_cons] at hn;rw[kE];obtain⟨_,_,f3⟩:=kH (h:=fun o=>1+yj l (r.filter fun c=> !decide (c=o))) (r.filter (zT l a)) (yj l r);rcases f3 with f3|⟨o,ho,f3⟩
   ·rw[f3]
    obtain⟨P,hP,e⟩:=ih r rl hn.2;exact⟨P,⟨fun q hq=>by obtain⟨z1,z2,z3⟩:=hP.inG q hq;exact⟨Kf _ z1,Kf _ z2,z3⟩,hP.nd⟩,e⟩
   ·rw[f3]
    obtain⟨o1,o2⟩:=List.mem_filter.mp ho;have fl:=KC (fun c=> !decide (c=o)) r;obtain⟨P,hP,e⟩:=ih (r.filter fun c=> !decide (c=o)) (by omega) (hn.2.sublist Kw)
    have sub: ∀x∈yA P,x∈r/\x≠o:=fun x hx=>by
     obtain⟨p,hp,hx⟩:=Zu.mp hx;obtain⟨z1,z2,_⟩:=hP.inG p hp;have:x∈r.filter fun c=> !decide (c=o):=by rcases hx with rfl|rfl<;>assumption
     obtain⟨y1,y2⟩:=List.mem_filter.mp this;exact⟨y1,by simpa using y2⟩
    refine⟨(a,o)::P,⟨fun q hq=>?_,?_⟩,by rw[List.length_cons,e];omega⟩
    ·rcases List.mem_cons.mp hq with rfl|hq
     ·exact⟨Ke,Kf _ o1,o2⟩
     ·obtain⟨z1,z2,z3⟩:=hP.inG q hq
      exact⟨Kf _ (List.mem_filter.mp z1).1,Kf _ (List.mem_filter.mp z2).1,z3⟩
    ·show (a::o::yA P).Nodup
     rw[List.nodup_cons,List.nodup_cons];refine⟨fun z=>?_,fun z=>(sub o z).2 rfl,hP.nd⟩;rcases List.mem_cons.mp z with z|z
     ·exact hn.1 (by rw[z];exact o1)
     ·exact hn.1 (sub a z).1
theorem zkP{f:List zb}{l:zb}{P:List (zb×zb)}{C:List zb}(hP:IsM l f P)(hC:IsCover f l C):P.length<=C.length:=by
 have pn:P.Nodup/\∀p∈P,∀q∈P,∀x,(x=p.1\/x=p.2)->(x=q.1\/x=q.2)->p=q:=by
  have nd:=hP.nd;clear hP
  induction P with
  |nil=>exact⟨List.nodup_nil,by simp⟩
  |cons p r ih=>
   have nd0:(p.1::p.2::yA r).Nodup:=nd;rw[List.nodup_cons,List.nodup_cons] at nd0;obtain⟨n1,n2,n3⟩:=nd0;obtain⟨i1,i2⟩:=ih n3
   have out: ∀x,(x=p.1\/x=p.2)->∀q∈r,¬(x=q.1\/x=q.2):=fun x hx q hq hxq=>by
    have:x∈yA r:=Zu.mpr ⟨q,hq,hxq⟩;rcases hx with rfl|rfl
    ·exact n1 (Kf _ this)
    ·exact n2 this
   refine⟨List.nodup_cons.mpr ⟨fun z=>out p.1 (.inl rfl) p z (.inl rfl),i1⟩,fun a ha b hb x h1 h2=>?_⟩;rcases List.mem_cons.mp ha with ea|ha'<;>rcases List.mem_cons.mp hb with eb|hb'
   ·rw[ea,eb]
   ·exact KG h2 (out x (by rw[<-ea];exact h1) b hb')
   ·exact KG h1 (out x (by rw[<-eb];exact h2) a ha')
   ·exact i2 a ha' b hb' x h1 h2
 refine jy (fun p:zb×zb=>if p.1∈C then p.1 else p.2) pn.1 (fun p hp=>?_) fun p hp q hq e=>?_
 ·obtain⟨z1,z2,z3⟩:=hP.inG p hp
  show (if p.1∈C then p.1 else p.2)∈C;split
  ·assumption
  ·exact (hC.hit _ z1 _ z2 z3).resolve_left ‹_›
 ·have e:(if p.1∈C then p.1 else p.2)=(if q.1∈C then q.1 else q.2):=e
  refine pn.2 p hp q hq (if p.1∈C then p.1 else p.2) ?_ ?_
  ·split<;>simp
  ·rw[e];split<;>simp
end LK
namespace LK
open L2.LW
section
variable {f:List zb} {l:zb}
noncomputable def yB(ms:Ms)(L:List zb):List zb:=L.flatMap fun c=>[c,yd ms c]
theorem Xa(hl:OkL l)(hn:f.Nodup){ms:Ms}(h:Match f l ms):(yB ms (zP f ms)).Nodup:=by
 unfold yB;refine List.pairwise_flatMap.mpr ⟨fun c hc=>?_,?_⟩
 ·obtain⟨_,v,e,z⟩:=xH.mp hc
  rw[yi e,List.pairwise_cons];refine⟨fun y hy ey=>?_,by simp⟩;simp at hy;subst hy;subst ey;exact kf z
 ·refine List.Pairwise.imp_of_mem (fun {c d} hc hd ne x hx y hy e=>?_) (hn.sublist (l₁:=zP f ms) Kw)
  obtain⟨_,v,e1,z1⟩:=xH.mp hc;obtain⟨_,w,e2,z2⟩:=xH.mp hd;rw[yi e1] at hx;rw[yi e2] at hy;subst e;simp only[List.mem_cons,List.not_mem_nil,or_false] at hx hy;rcases hx with rfl|rfl<;>rcases hy with rfl|rfl
  ·exact ne rfl
  ·have:=h.sym _ _ e2
   rw[e1] at this;cases this;exact Zk z1 z2
  ·have:=h.sym _ _ e1
   rw[e2] at this;cases this;exact Zk z1 z2
  ·exact ne (h.inj e1 e2)
theorem zkQ(hl:OkL l){ms:Ms}(h:Match f l ms){x:zb}:x∈yB ms (zP f ms)↔∃v,get ms x=some v:=by
 unfold yB;rw[List.mem_flatMap];constructor
 ·rintro⟨c,hc,hx⟩
  obtain⟨h1,v,e,_⟩:=xH.mp hc;rw[yi e] at hx;simp only[List.mem_cons,List.not_mem_nil,or_false] at hx;rcases hx with rfl|rfl
  ·exact⟨v,e⟩
  ·exact⟨c,h.sym _ _ e⟩
 ·rintro⟨v,e⟩
  obtain⟨g1,g2,g3⟩:=h.inF _ _ e;rcases zcj (ky hl g3) with z|z
  ·exact⟨x,xH.mpr ⟨g1,v,e,z⟩,Ke⟩
  ·have e':=h.sym _ _ e
   exact⟨v,xH.mpr ⟨g2,x,e',z⟩,by rw[yi e'];simp⟩
theorem zcZ(hl:OkL l)(hn:f.Nodup){ms:Ms}{T:zb->Prop}(h:Final f l ms T):(zP f ms).length=yj l f:=by
 have hm:=h.toMatch;have e0:=zcJ hl hn hm;apply Nat.le_antisymm
 ·have hP:IsM l f ((zP f ms).map fun c=>(c,yd ms c)):=by
   refine⟨fun p hp=>?_,?_⟩
   ·obtain⟨c,hc,rfl⟩:=List.mem_map.mp hp
    obtain⟨h1,v,e,_⟩:=xH.mp hc;obtain⟨g1,g2,g3⟩:=hm.inF _ _ e;rw[yi e];exact⟨g1,g2,g3⟩
   ·have:yA ((zP f ms).map fun c=>(c,yd ms c))=yB ms (zP f ms):=by
     unfold yA yB;rw[List.flatMap_map]
    rw[this];exact Xa hl hn hm
  have:=zcY (Zm l) f.length f (Kg _) _ hP;simpa using this
 ·obtain⟨P,hP,e⟩:=zkO (l:=l) f.length f (Kg _) hn
  obtain⟨C,hC,hle⟩:=kw hl hn h;have:=zkP hP hC;omega
end
end LK
namespace LK
open L2.LW
section
variable {f:List zb} {l:zb}
theorem zkR{α:Type}[DecidableEq α]{A C:List α}(hA:A.Nodup)(hs: ∀x∈A,x∈C)(hl:C.length<=A.length){x:α}(hx:x∈C):x∈A:=by
 by_cases h:x∈A
 ·exact h
 ·exfalso
  have h1:(x::A).Nodup:=List.nodup_cons.mpr ⟨h,hA⟩
  have h2:(x::A).length<=C.length:=YZ h1 fun y hy=>by
   rcases List.mem_cons.mp hy with rfl|hy
   ·exact hx
   ·exact hs y hy
  simp at h2;omega
theorem zkS(hl:OkL l)(hn:f.Nodup){ms:Ms}(hm:Match f l ms):IsM l f ((zP f ms).map fun c=>(c,yd ms c))/\yA ((zP f ms).map fun c=>(c,yd ms c))=yB ms (zP f ms):=by
 have e:yA ((zP f ms).map fun c=>(c,yd ms c))=yB ms (zP f ms):=by
  unfold yA yB;rw[List.flatMap_map]
 refine⟨⟨fun p hp=>?_,by rw[e];exact Xa hl hn hm⟩,e⟩;obtain⟨c,hc,rfl⟩:=List.mem_map.mp hp;obtain⟨h1,v,e,_⟩:=xH.mp hc;obtain⟨g1,g2,g3⟩:=hm.inF _ _ e;rw[yi e];exact⟨g1,g2,g3⟩
theorem zkT(hl:OkL l)(hn:f.Nodup){ms:Ms}(hm:Match f l ms){C:List zb}(hC:IsCover f l C)(hle:C.length<=(zP f ms).length){x:zb}(hx:x∈C):x∈yB ms (zP f ms):=by
 have hnd:=Xa hl hn hm
 have key:x∈(zP f ms).map fun c=>if c∈C then c else yd ms c:=by
  refine zkR (C:=C) ?_ ?_ (by simpa using hle) hx
  ·refine kr (fun a ha b hb e=>?_) (hn.sublist Kw)
   obtain⟨_,v,e1,z1⟩:=xH.mp ha;obtain⟨_,w,e2,z2⟩:=xH.mp hb;simp only[yi e1,yi e2] at e;split at e<;>split at e
   ·exact e
   ·subst e
    have:=hm.sym _ _ e2;rw[e1] at this;cases this;exact KG z2 (Zk z1)
   ·subst e
    have:=hm.sym _ _ e1;rw[e2] at this;cases this;exact KG z2 (Zk z1)
   ·subst e
    exact hm.inj e1 e2
  ·intro y hy
   obtain⟨c,hc,rfl⟩:=List.mem_map.mp hy;obtain⟨_,v,e,_⟩:=xH.mp hc;obtain⟨g1,g2,g3⟩:=hm.inF _ _ e;rw[yi e];split
   ·assumption
   ·exact (hC.hit _ g1 _ g2 g3).resolve_left ‹_›
 obtain⟨c,hc,rfl⟩:=List.mem_map.mp key;unfold yB;rw[List.mem_flatMap];refine⟨c,hc,?_⟩;split<;>simp
theorem zkU(hl:OkL l)(hn:f.Nodup){ms:Ms}{T:zb->Prop}(h:Final f l ms T){a b:zb}(ha:a∈f)(hb:b∈f)(fa:a∉yB ms (zP f ms))(fb:b∉yB ms (zP f ms)):zT l a b=false:=by
 cases hnr:zT l a b with
 |false=>rfl
 |true=>
  exfalso;obtain⟨hP,e⟩:=zkS hl hn h.toMatch
  have hQ:IsM l f ((a,b)::(zP f ms).map fun c=>(c,yd ms c)):=by
   refine⟨fun p hp=>?_,?_⟩
   ·rcases List.mem_cons.mp hp with rfl|hp
    ·exact⟨ha,hb,hnr⟩
    ·exact hP.inG p hp
   ·show (a::b::yA ((zP f ms).map fun c=>(c,yd ms c))).Nodup
    rw[e,List.nodup_cons,List.nodup_cons];refine⟨fun z=>?_,fb,Xa hl hn h.toMatch⟩;rcases List.mem_cons.mp z with z|z
    ·exact ky hl hnr z
    ·exact fa z
  have h1:=zcY (Zm l) f.length f (Kg _) _ hQ;have h2:=zcZ hl hn h;simp at h1;omega
theorem zkV{L:List zb}(hn:L.Nodup){x:zb}(hx:x∈L):(L.map k2).countP (fun y=>decide (y=k2 x))=1:=by
 induction L with
 |nil=>cases hx
 |cons a r ih=>
  rw[List.nodup_cons] at hn;rw[List.map_cons,List.countP_cons]
  have inj: ∀y,k2 y=k2 x->y=x:=fun y e=>by
   unfold k2 at e;simp at e;exact Prod.ext e.1 e.2
  rcases List.mem_cons.mp hx with rfl|hx
  ·have z:(r.map k2).countP (fun y=>decide (y=k2 x))=0:=by
    rw[List.countP_eq_zero];intro y hy;obtain⟨c,hc,rfl⟩:=List.mem_map.mp hy;intro e;exact hn.1 (by rw[<-inj c (by simpa using e)];exact hc)
   rw[z];simp
  ·have ne: ¬k2 a=k2 x:=fun e=>hn.1 (by rw[inj a e];exact hx)
   rw[ih hn.2 hx];simp[ne]
theorem zkW{L:List zb}(hn:L.Nodup){x:zb}(hx:x∈L):zh .count [lD L,cD x]=some (.val (.int 1)):=by
 show jM [lD L,cD x]=_;show (tups? (L.map cD)).bind _=_;rw[kA];show xk (((L.map k2).countP (fun y=>decide (y=[x.1,x.2])):Nat):Int)=_;have:=zkV hn hx;unfold k2 at this;unfold k2;rw[this];rfl
end
end LK
namespace LK
open L2.LW
section
variable {f:List zb} {l:zb}
noncomputable def wQ(ns:List Int)(f:List zb)(l:zb)(L:List D)(H:List zb)(s5 s6 s7:Option SV):Env:=
 [some (.val (sD ns)),some (.val (fD f)),some (.val (cD l)),some (.val (.lst L)),some (.obj true (lD H)),s5,s6,s7]
theorem zkX(n:Nat)(hlen:f.length<=24)(ns:List Int){ms:Ms}(hm:Match f l ms){L:List D}:
  ∃s5,yx 5 (zp (zn U zr (n+1)) zr VT) ((zP f ms).map (yz ms)) (wQ ns f l L [] none none none)=some (.nx,wQ ns f l L (yB ms (zP f ms)) s5 none none)/\zX (some s5)=true:=by
 have hl':=xt
 obtain⟨ρ',e,s5,rfl,q5⟩:=zcS (g:=yz ms) (i:=5) (body:=zp (zn U zr (n+1)) zr VT)
  (fun pre ρ=>∃s5,ρ=wQ ns f l L (yB ms pre) s5 none none/\zX (some s5)=true) (xs:=zP f ms) (ρ:=wQ ns f l L [] none none none) ⟨none,rfl,rfl⟩
  fun pre c post ρ e zz=>by
   obtain⟨s5,eρ,fr⟩:=zz;subst eρ;have hc:c∈zP f ms:=by rw[e];simp
   obtain⟨h1,v,hv,hlt⟩:=xH.mp hc;have nr:=(hm.inF _ _ hv).2.2
   have lp:pre.length<=24:=by
    have h0:(zP f ms).length<=f.length:=KC _ _;rw[e,List.length_append] at h0;omega
   have lh: ∀L:List zb,(yB ms L).length=2*L.length:=fun L=>by
    induction L with
    |nil=>rfl
    |cons x r ih=>
     show ([x,yd ms x]++yB ms r).length=_;rw[List.length_append,ih];simp;omega
   have ad:zh .add [lD (yB ms pre),.lst [cD c,cD v]]=some (.obj true (lD (yB ms (pre++[c])))):=by
    have:=lh pre;rw[lD,kc (by simp;omega)];simp[lD,yB,yi hv]
   have nk:=ko n l c v;refine⟨_,_,?_,.inl rfl,some (.val (yz ms c)),rfl,wA⟩;simp only[VT,wQ];simp[yz,yi hv,nk,nr,zkI,hlt,ad]
 exact⟨s5,e,q5⟩
theorem zkY(n:Nat)(ns:List Int){L:List D}{H C:List zb}(hH:H.Nodup)(hC: ∀c∈C,c∈H){s5:Option SV}:
  ∃s6,yx 6 (zp (zn U zr n) zr VS) (C.map cD) (wQ ns f l L H s5 none none)=some (.nx,wQ ns f l L H s5 s6 none)/\zX (some s6)=true:=by
 obtain⟨ρ',e,s6,rfl,q⟩:=zcS (g:=cD) (i:=6) (body:=zp (zn U zr n) zr VS)
  (fun pre ρ=>∃s6,ρ=wQ ns f l L H s5 s6 none/\zX (some s6)=true) (xs:=C) (ρ:=wQ ns f l L H s5 none none) ⟨none,rfl,rfl⟩
  fun pre c post ρ e zz=>by
   obtain⟨s6,eρ,fr⟩:=zz;subst eρ;have pc:=zkW hH (hC c (by rw[e];simp));refine⟨_,_,?_,.inl rfl,some (.val (cD c)),rfl,wA⟩;simp only[VS,wQ];simp[pc]
 exact⟨s6,e,q⟩
end
end LK
namespace LK
open L2.LW
theorem zkZ{c:zb}{H:List zb}:zh .nin [cD c,lD H]=some (.val (.bl (!decide (c∈H)))):=by
 simp only[lD,zh,wH,YU,VV,Bool.and_self,if_true,VX,yw]
theorem zk0(n:Nat)(ns:List Int):zS U zr (n+32) 51 [sD ns]=some (.val (.bl true)):=by
 have hl':=xt
 obtain⟨mo,i0,f,hf,e1⟩: ∃mo:Int,zh .idx [.lst [.int 24,.int 10],.int (wN ns 1%2)]=some (.val (.int mo))/\∃f,OkF f/\zS U zr (n+31) 49 [sD ns,.int 2,.int mo]=some (.val (fD f)):=by
  have:wN ns 1%2=0\/wN ns 1%2=1:=by omega
  rcases this with h|h
  ·obtain⟨f,hf,_,e1⟩:=zct (n+29) ns (at_:=2) (most:=24) (by decide) (by decide) (by decide)
   exact⟨24,by rw[h];rfl,f,hf,e1⟩
  ·obtain⟨f,hf,_,e1⟩:=zct (n+29) ns (at_:=2) (most:=10) (by decide) (by decide) (by decide)
   exact⟨10,by rw[h];rfl,f,hf,e1⟩
 obtain⟨l,hl,e2⟩:=zj4 (n+30) (wN ns 0);have hlen:=hf.len;have hn:=zcG hf;have c0:=Zn (n+30) ns (k:=0) (by decide);have c1:=Zn (n+30) ns (k:=1) (by decide);have pm:=vy (a:=wN ns 1) (b:=2) (by decide);obtain⟨ms,T,h1,e3⟩:=zko (n+1) hl hf;obtain⟨ms2,T2,cr,ar,h2,hcw,e4,_⟩:=zkx n hl hf;obtain⟨hcov,lcov⟩:=zky hl hn h2 hcw;have fe:=zkm hl hn h1 h2;have pl:=zcJ hl hn h1.toMatch;have mi:=zcZ hl hn h1;have hnd:=Xa hl hn h1.toMatch
 have hin: ∀c∈yB ms (zP f ms),c∈f:=fun c hc=>by
  obtain⟨v,e⟩:=(zkQ hl h1.toMatch).mp hc;exact (h1.toMatch.inF _ _ e).1
 have hcv: ∀c∈vk f l cr ar,c∈yB ms (zP f ms):=fun c hc=>zkT hl hn h1.toMatch hcov (by omega) hc
 have fap:=fun {a b:zb}=>zkU hl hn h1 (a:=a) (b:=b)
 have lpr:(zP f ms).length<=24:=Kh (KC _ _) hlen;have sp:=zkG (ms:=ms) (L:=zP f ms) (hf.rise.sublist Kw) (by omega)
 have nep:zh .ne [.lst ((zP f ms).map (yz ms)),.lst ((zP f ms).map (yz ms))]=some (.val (.bl false)):=by
  rw[kd (by simp[zG,yz]) (by simp[zG,yz]),zO,zcP];rfl
 obtain⟨s5,lp,q5⟩:=zkX (n+30) hlen ns h1.toMatch (L:=(zP f ms).map (yz ms));obtain⟨s6,lc,q6⟩:=zkY (n+31) ns (f:=f) (l:=l) (L:=(zP f ms).map (yz ms)) hnd hcv (s5:=s5);have lH:(yB ms (zP f ms)).length<=24:=Kh (YZ hnd hin) hlen
 have nh:zh .nset [lD (yB ms (zP f ms))]=some (.val (.int (yB ms (zP f ms)).length)):=by
  rw[zkH fun c hc=>hf.cells c (hin c hc)]
  congr 4
  apply Nat.le_antisymm
  ·exact YZ Zd fun x hx=>vx.mp hx
  ·exact YZ hnd fun x hx=>vx.mpr hx
 have ln:=zkC (ms:=ms) (g:=zP f ms);have lh:=zkB (g:=yB ms (zP f ms));have hli:wb .list (.lst ((zP f ms).map (yz ms)))=true:=rfl
 have mk: ¬(f.length:Int)>10->∃kvs',zn U zr (n+31) 50 [fD f,cD l,.dcd []]=some (.ok (.val (.int ((zP f ms).length:Int))) [.dcd kvs']):=fun z=>by
  obtain⟨kvs',_,e⟩:=kF (f:=f) (l:=l) (by omega) 10 f (by omega) (List.Sublist.refl f) (n+18) [] ⟨by simp,by simp⟩;exact⟨kvs',by rw[mi];exact e⟩
 generalize hH:yB ms (zP f ms)=H at*
 have k1: ∀ρ:Env,ρ[1]? =some (some (.val (fD f)))->ρ[4]? =some (some (.obj true (lD H)))->zi (zS U zr (n+31)) (.comp false (.cons (.var 4) .nil) (.prim .nin (.cons (.var 0) (.cons (.var 2) .nil))) (.var 0)) ρ=some (.obj true (lD [])):=by
  intro ρ r1 r4;rw[wj (rs:=[.obj false (lD H)]) (xs:=H) (f:=cD) (fun c=> !decide (c∈f)) cD]
  ·rw[List.filter_eq_nil_iff.mpr fun c hc=>by simp[hin c hc]];rfl
  ·simp[r4]
  ·rfl
  ·omega
  ·intro c _;simp[r1,zjR]
  ·intro c _ _;simp
 have k2': ∀ρ:Env,ρ[1]? =some (some (.val (fD f)))->ρ[4]? =some (some (.obj true (lD H)))->zi (zS U zr (n+31)) (.comp false (.cons (.var 1) .nil) (.prim .nin (.cons (.var 0) (.cons (.var 5) .nil))) (.var 0)) ρ=some (.obj true (lD (f.filter fun c=> !decide (c∈H)))):=by
  intro ρ r1 r4;rw[wj (rs:=[.val (fD f)]) (xs:=f) (f:=cD) (fun c=> !decide (c∈H)) cD]
  ·rfl
  ·simp[r1]
  ·rfl
  ·omega
  ·intro c _;simp[r4,zkZ]
  ·intro c _ _;simp
 generalize hF:(f.filter fun c=> !decide (c∈H))=F at*
 have k3: ∀ρ:Env,ρ[2]? =some (some (.val (cD l)))->ρ[7]? =some (some (.obj true (lD F)))->zi (zS U zr (n+31)) (.comp false (.cons (.var 7) .nil) (.call 18 (.cons (.var 8) (.cons (.var 3) (.cons (.var 0) .nil)))) (.var 0)) ρ=some (.obj true (lD [])):=by
  intro ρ r2 r7;have fl:F.length<=24:=by rw[<-hF];exact Kh (KC _ _) hlen
  rw[wj (rs:=[.obj false (lD F)]) (xs:=F) (f:=cD) (fun c=>false) cD]
  ·rw[List.filter_eq_nil_iff.mpr fun c hc=>by simp];rfl
  ·simp[r7]
  ·rfl
  ·omega
  ·intro c hc
   have nk:=zkz (n+29) l c (f:=F) (by omega)
   have em:F.filter (zT l c)=[]:=List.filter_eq_nil_iff.mpr fun b hb=>by
    rw[<-hF] at hb hc;obtain⟨b1,b2⟩:=List.mem_filter.mp hb;obtain⟨a1,a2⟩:=List.mem_filter.mp hc;have:=fap a1 b1 (by simpa using a2) (by simpa using b2);simp[this]
   rw[em] at nk;simp[r2,r7,nk,zkA]
  ·intro c _ _;simp
 have pL:(SV.obj true (.lst ((zP f ms).map (yz ms)))).plain=true:=zcO fun c=>by simp[yz]
 generalize hL:(zP f ms).map (yz ms)=L at*;generalize vk f l cr ar=C at*;simp only[wQ] at lp lc;rw[show (lD []:D)= .lst [] from rfl] at lp;have t0:ye (.obj true (lD []))=some false:=rfl;have itC:yf false [.obj true (lD C)]=some (C.map cD):=rfl;have sn:vt (.n none)= .dcd []:=rfl;have pn: ∀(ρ:Env) (d':D) (r:List AV) (ds:List D),yG ρ (.n none::r) (d'::ds)=yG ρ r ds:=fun _ _ _ _=>rfl
 generalize (lD []:D)=E0 at k1 k3 t0;rw[yo zjJ rfl];simp only[YT,Yn];by_cases z:(f.length:Int)>10
 ·simp[c0,c1,pm,i0,e1,e2,e3,hli,sp,nep,VI,vH,lp,nh,lh,zbY,k1,e4,vR,lc,k2',k3,t0,itC,kg,z]
 ·obtain⟨kvs',ek⟩:=mk z
  simp[c0,c1,pm,i0,e1,e2,e3,hli,sp,nep,VI,vH,lp,nh,lh,zbY,k1,e4,vR,lc,k2',k3,t0,itC,sn,pn,kg,z,ek,ln]
theorem zk1(ns:List Int)(_:ns.length<=63):zS U zr depth 51 [.lst (ns.map D.int)]=some (.val (.bl true)):=zk0 8 ns
end LK
set_option maxHeartbeats 4000000
namespace LK
open PySem PySem.Spec PyProof.Rows L2 L2.LW
noncomputable def za(i:Nat):Stmt:=PySem.Challenge.pw_leaperwalk_k12_most_pairs.main.body.getD i (.Pass ⟨0,0,0,0⟩)
noncomputable def zk:Nat->List Str
 |0=>["thing","least","most"]
 |1=>["thing"]
 |2=>["thing"]
 |3=>["thing"]
 |4=>["cells"]
 |5=>["thing"]
 |6=>["floor"]
 |7=>["leap"]
 |9=>["down","right"]
 |10=>["leap","one","other"]
 |11=>["floor","leap","cell"]
 |13=>["_law_script","_law_k"]
 |14=>["_law_cell_here","_law_prime","_law_many"]
 |16=>["_law_cell_here"]
 |17=>["_law_leap_here","_law_one","_law_other"]
 |18=>["_law_floor_here","_law_leap_here","_law_cell_here"]
 |21=>["leap"]
 |22=>["leap"]
 |23=>["leap","cell"]
 |24=>["floor","leap","hue"]
 |37=>["floor","leap","mates","cell","tried"]
 |38=>["floor","leap"]
 |39=>["floor","mates"]
 |40=>["floor","leap","mates","hue"]
 |41=>["leap","cell","crowd","around"]
 |42=>["floor","leap","covering"]
 |43=>["floor","leap"]
 |44=>["floor","leap"]
 |49=>["_law_script","_law_at","_law_most_here"]
 |50=>["_law_floor_here","_law_leap_here","_law_known"]
 |51=>["_law_script"]
 |_=>[]
noncomputable def yk:Nat->List Nat
 |37=>[2,4]
 |50=>[2]
 |_=>[]
structure Txt (K:Ka)(mg:Str->Option Value)(F:Nat->Addr)(FD:Nat->FuncData)(TK:Nat->Tok):Prop where
 m0:mg "is_whole"=some (.ref (F 0))
 f0:Fun K "is_whole" "is_whole" (za 8) (F 0) (FD 0)
 b0:Binds K (FD 0) (zk 0) []
 m1:mg "is_couple"=some (.ref (F 1))
 f1:Fun K "is_couple" "is_couple" (za 9) (F 1) (FD 1)
 b1:Binds K (FD 1) (zk 1) []
 m2:mg "is_cell"=some (.ref (F 2))
 f2:Fun K "is_cell" "is_cell" (za 10) (F 2) (FD 2)
 b2:Binds K (FD 2) (zk 2) []
 m3:mg "is_leap"=some (.ref (F 3))
 f3:Fun K "is_leap" "is_leap" (za 11) (F 3) (FD 3)
 b3:Binds K (FD 3) (zk 3) []
 m4:mg "is_rising"=some (.ref (F 4))
 f4:Fun K "is_rising" "is_rising" (za 12) (F 4) (FD 4)
 b4:Binds K (FD 4) (zk 4) []
 m5:mg "is_floor"=some (.ref (F 5))
 f5:Fun K "is_floor" "is_floor" (za 13) (F 5) (FD 5)
 b5:Binds K (FD 5) (zk 5) []
 m6:mg "checked"=some (.ref (F 6))
 f6:Fun K "checked" "checked" (za 14) (F 6) (FD 6)
 b6:Binds K (FD 6) (zk 6) []
 m7:mg "checked_leap"=some (.ref (F 7))
 f7:Fun K "checked_leap" "checked_leap" (za 15) (F 7) (FD 7)
 b7:Binds K (FD 7) (zk 7) []
 m9:mg "folded"=some (.ref (F 9))
 f9:Fun K "folded" "folded" (za 17) (F 9) (FD 9)
 b9:Binds K (FD 9) (zk 9) []
 m10:mg "are_near"=some (.ref (F 10))
 f10:Fun K "are_near" "are_near" (za 18) (F 10) (FD 10)
 b10:Binds K (FD 10) (zk 10) []
 m11:mg "cells_near"=some (.ref (F 11))
 f11:Fun K "cells_near" "cells_near" (za 19) (F 11) (FD 11)
 b11:Binds K (FD 11) (zk 11) []
 m13:mg "_law_cell"=some (.ref (F 13))
 f13:Fun K "_law_cell" "_law_cell" (za 34) (F 13) (FD 13)
 b13:Binds K (FD 13) (zk 13) []
 m14:mg "_law_mix"=some (.ref (F 14))
 f14:Fun K "_law_mix" "_law_mix" (za 35) (F 14) (FD 14)
 b14:Binds K (FD 14) (zk 14) []
 m16:mg "_law_leap"=some (.ref (F 16))
 f16:Fun K "_law_leap" "_law_leap" (za 37) (F 16) (FD 16)
 b16:Binds K (FD 16) (zk 16) []
 m17:mg "_law_is_near"=some (.ref (F 17))
 f17:Fun K "_law_is_near" "_law_is_near" (za 38) (F 17) (FD 17)
 b17:Binds K (FD 17) (zk 17) []
 m18:mg "_law_near"=some (.ref (F 18))
 f18:Fun K "_law_near" "_law_near" (za 39) (F 18) (FD 18)
 b18:Binds K (FD 18) (zk 18) []
 m21:mg "greatest_divisor"=some (.ref (F 21))
 f21:Fun K "greatest_divisor" "greatest_divisor" (za 20) (F 21) (FD 21)
 b21:Binds K (FD 21) (zk 21) []
 m22:mg "has_odd_sum"=some (.ref (F 22))
 f22:Fun K "has_odd_sum" "has_odd_sum" (za 21) (F 22) (FD 22)
 b22:Binds K (FD 22) (zk 22) []
 m23:mg "hue_of"=some (.ref (F 23))
 f23:Fun K "hue_of" "hue_of" (za 22) (F 23) (FD 23)
 b23:Binds K (FD 23) (zk 23) []
 m24:mg "cells_of_hue"=some (.ref (F 24))
 f24:Fun K "cells_of_hue" "cells_of_hue" (za 23) (F 24) (FD 24)
 b24:Binds K (FD 24) (zk 24) []
 m37:mg "finds_mate"=some (.ref (F 37))
 f37:Fun K "finds_mate" "finds_mate" (za 25) (F 37) (FD 37)
 b37:Binds K (FD 37) (zk 37) []
 m38:mg "all_mates"=some (.ref (F 38))
 f38:Fun K "all_mates" "all_mates" (za 26) (F 38) (FD 38)
 b38:Binds K (FD 38) (zk 38) []
 m39:mg "pairs_of"=some (.ref (F 39))
 f39:Fun K "pairs_of" "pairs_of" (za 27) (F 39) (FD 39)
 b39:Binds K (FD 39) (zk 39) []
 m40:mg "crowd_and_around"=some (.ref (F 40))
 f40:Fun K "crowd_and_around" "crowd_and_around" (za 28) (F 40) (FD 40)
 b40:Binds K (FD 40) (zk 40) []
 m41:mg "is_in_cover"=some (.ref (F 41))
 f41:Fun K "is_in_cover" "is_in_cover" (za 29) (F 41) (FD 41)
 b41:Binds K (FD 41) (zk 41) []
 m42:mg "cells_by_cover"=some (.ref (F 42))
 f42:Fun K "cells_by_cover" "cells_by_cover" (za 30) (F 42) (FD 42)
 b42:Binds K (FD 42) (zk 42) []
 m43:mg "most_pairs"=some (.ref (F 43))
 f43:Fun K "most_pairs" "most_pairs" (za 31) (F 43) (FD 43)
 b43:Binds K (FD 43) (zk 43) []
 m44:mg "cover"=some (.ref (F 44))
 f44:Fun K "cover" "cover" (za 32) (F 44) (FD 44)
 b44:Binds K (FD 44) (zk 44) []
 m49:mg "_law_floor"=some (.ref (F 49))
 f49:Fun K "_law_floor" "_law_floor" (za 36) (F 49) (FD 49)
 b49:Binds K (FD 49) (zk 49) []
 m50:mg "_law_most"=some (.ref (F 50))
 f50:Fun K "_law_most" "_law_most" (za 40) (F 50) (FD 50)
 b50:Binds K (FD 50) (zk 50) []
 m51:mg "law"=some (.ref (F 51))
 f51:Fun K "law" "law" (za 41) (F 51) (FD 51)
 b51:Binds K (FD 51) (zk 51) []
 z_isinstance:mg "isinstance"=none
 z_int:mg "int"=none
 z_bool:mg "bool"=none
 z_len:mg "len"=none
 z_tuple:mg "tuple"=none
 z_range:mg "range"=none
 z_all:mg "all"=none
 z_abs:mg "abs"=none
 z_max:mg "max"=none
 z_min:mg "min"=none
 z_sorted:mg "sorted"=none
 z_list:mg "list"=none
 z_set:mg "set"=none
 c0:mg "LAST_LINE"=some (.int 7 (TK 0))
 c1:mg "MOST_CELLS"=some (.int 24 (TK 1))
 c2:mg "LONGEST_LEAP"=some (.int 4 (TK 2))
theorem zk2:(("least":Str)==("__debug__":Str))=false:=by decide+kernel
theorem zk3:(("least":Str)==("__classdict__":Str))=false:=by decide+kernel
theorem xO:(("thing":Str)==("__debug__":Str))=false:=by decide+kernel
theorem xP:(("thing":Str)==("__classdict__":Str))=false:=by decide+kernel
theorem zk4:(("most":Str)==("__debug__":Str))=false:=by decide+kernel
theorem zk5:(("most":Str)==("__classdict__":Str))=false:=by decide+kernel
theorem zk6:(("int":Str)==("__debug__":Str))=false:=by decide+kernel
theorem zk7:("int":Str)≠"__name__":=by decide+kernel
theorem zk8:(("bool":Str)==("__debug__":Str))=false:=by decide+kernel
theorem zk9:("bool":Str)≠"__name__":=by decide+kernel
theorem vz:(("len":Str)==("__debug__":Str))=false:=by decide+kernel
theorem vA:("len":Str)≠"__name__":=by decide+kernel
theorem Xb:(("tuple":Str)==("__debug__":Str))=false:=by decide+kernel
theorem Xc:("tuple":Str)≠"__name__":=by decide+kernel
theorem zc0:(("LAST_LINE":Str)==("__debug__":Str))=false:=by decide+kernel
theorem Jd:(("is_whole":Str)==("__debug__":Str))=false:=by decide+kernel
theorem zc1:(("is_couple":Str)==("__debug__":Str))=false:=by decide+kernel
theorem zla:(("LONGEST_LEAP":Str)==("__debug__":Str))=false:=by decide+kernel
theorem kI:(("cells":Str)==("__debug__":Str))=false:=by decide+kernel
theorem kJ:(("cells":Str)==("__classdict__":Str))=false:=by decide+kernel
theorem zc2:(("place":Str)==("__debug__":Str))=false:=by decide+kernel
theorem zc3:(("place":Str)==("__classdict__":Str))=false:=by decide+kernel
theorem zc4:(("all":Str)==("__debug__":Str))=false:=by decide+kernel
theorem zc5:("all":Str)≠"__name__":=by decide+kernel
theorem zlb:(("is_rising":Str)==("__debug__":Str))=false:=by decide+kernel
theorem zlc:(("part":Str)==("__debug__":Str))=false:=by decide+kernel
theorem zld:(("part":Str)==("__classdict__":Str))=false:=by decide+kernel
theorem zle:(("is_cell":Str)==("__debug__":Str))=false:=by decide+kernel
theorem zlf:(("MOST_CELLS":Str)==("__debug__":Str))=false:=by decide+kernel
theorem xu:(("floor":Str)==("__debug__":Str))=false:=by decide+kernel
theorem xw:(("floor":Str)==("__classdict__":Str))=false:=by decide+kernel
theorem zlg:(("is_floor":Str)==("__debug__":Str))=false:=by decide+kernel
theorem yC:(("leap":Str)==("__debug__":Str))=false:=by decide+kernel
theorem yD:(("leap":Str)==("__classdict__":Str))=false:=by decide+kernel
theorem zlh:(("is_leap":Str)==("__debug__":Str))=false:=by decide+kernel
theorem zc6:(("right":Str)==("__debug__":Str))=false:=by decide+kernel
theorem zc7:(("right":Str)==("__classdict__":Str))=false:=by decide+kernel
theorem Zv:(("abs":Str)==("__debug__":Str))=false:=by decide+kernel
theorem Zw:("abs":Str)≠"__name__":=by decide+kernel
theorem zc8:(("down":Str)==("__debug__":Str))=false:=by decide+kernel
theorem zc9:(("down":Str)==("__classdict__":Str))=false:=by decide+kernel
theorem kK:(("max":Str)==("__debug__":Str))=false:=by decide+kernel
theorem kL:("max":Str)≠"__name__":=by decide+kernel
theorem zli:(("min":Str)==("__debug__":Str))=false:=by decide+kernel
theorem zlj:("min":Str)≠"__name__":=by decide+kernel
theorem wl:(("other":Str)==("__debug__":Str))=false:=by decide+kernel
theorem wm:(("other":Str)==("__classdict__":Str))=false:=by decide+kernel
theorem zda:(("one":Str)==("__debug__":Str))=false:=by decide+kernel
theorem zdb:(("one":Str)==("__classdict__":Str))=false:=by decide+kernel
theorem zlk:(("folded":Str)==("__debug__":Str))=false:=by decide+kernel
theorem xc:(("cell":Str)==("__debug__":Str))=false:=by decide+kernel
theorem xf:(("cell":Str)==("__classdict__":Str))=false:=by decide+kernel
theorem zll:(("are_near":Str)==("__debug__":Str))=false:=by decide+kernel
theorem kM:(("number":Str)==("__debug__":Str))=false:=by decide+kernel
theorem kN:(("number":Str)==("__classdict__":Str))=false:=by decide+kernel
theorem Je:(("divisor":Str)==("__debug__":Str))=false:=by decide+kernel
theorem Jf:(("divisor":Str)==("__classdict__":Str))=false:=by decide+kernel
theorem zdc:(("greatest_divisor":Str)==("__debug__":Str))=false:=by decide+kernel
theorem zdd:(("row":Str)==("__debug__":Str))=false:=by decide+kernel
theorem zde:(("row":Str)==("__classdict__":Str))=false:=by decide+kernel
theorem zlm:(("has_odd_sum":Str)==("__debug__":Str))=false:=by decide+kernel
theorem zln:(("column":Str)==("__debug__":Str))=false:=by decide+kernel
theorem zlo:(("column":Str)==("__classdict__":Str))=false:=by decide+kernel
theorem zdf:(("hue_of":Str)==("__debug__":Str))=false:=by decide+kernel
theorem zdg:(("hue":Str)==("__debug__":Str))=false:=by decide+kernel
theorem zdh:(("hue":Str)==("__classdict__":Str))=false:=by decide+kernel
theorem zdi:(("cells_near":Str)==("__debug__":Str))=false:=by decide+kernel
theorem kO:(("tried":Str)==("__debug__":Str))=false:=by decide+kernel
theorem kP:(("tried":Str)==("__classdict__":Str))=false:=by decide+kernel
theorem wD:(("mates":Str)==("__debug__":Str))=false:=by decide+kernel
theorem wE:(("mates":Str)==("__classdict__":Str))=false:=by decide+kernel
theorem zdj:(("finds_mate":Str)==("__debug__":Str))=false:=by decide+kernel
theorem zdk:(("cells_of_hue":Str)==("__debug__":Str))=false:=by decide+kernel
theorem Jg:(("around":Str)==("__debug__":Str))=false:=by decide+kernel
theorem Jh:(("around":Str)==("__classdict__":Str))=false:=by decide+kernel
theorem Ji:(("crowd":Str)==("__debug__":Str))=false:=by decide+kernel
theorem Jj:(("crowd":Str)==("__classdict__":Str))=false:=by decide+kernel
theorem zdl:(("edge":Str)==("__debug__":Str))=false:=by decide+kernel
theorem zdm:(("edge":Str)==("__classdict__":Str))=false:=by decide+kernel
theorem kQ:(("further":Str)==("__debug__":Str))=false:=by decide+kernel
theorem kR:(("further":Str)==("__classdict__":Str))=false:=by decide+kernel
theorem zdn:(("found":Str)==("__debug__":Str))=false:=by decide+kernel
theorem zdo:(("found":Str)==("__classdict__":Str))=false:=by decide+kernel
theorem zlp:(("is_in_cover":Str)==("__debug__":Str))=false:=by decide+kernel
theorem zlq:(("covering":Str)==("__debug__":Str))=false:=by decide+kernel
theorem zlr:(("covering":Str)==("__classdict__":Str))=false:=by decide+kernel
theorem zdp:(("all_mates":Str)==("__debug__":Str))=false:=by decide+kernel
theorem zls:(("crowd_and_around":Str)==("__debug__":Str))=false:=by decide+kernel
theorem zdq:(("checked_leap":Str)==("__debug__":Str))=false:=by decide+kernel
theorem zdr:(("checked":Str)==("__debug__":Str))=false:=by decide+kernel
theorem zlt:(("pairs_of":Str)==("__debug__":Str))=false:=by decide+kernel
theorem zlu:(("cells_by_cover":Str)==("__debug__":Str))=false:=by decide+kernel
theorem zds:(("_law_k":Str)==("__debug__":Str))=false:=by decide+kernel
theorem zdt:(("_law_k":Str)==("__classdict__":Str))=false:=by decide+kernel
theorem vB:(("_law_script":Str)==("__debug__":Str))=false:=by decide+kernel
theorem vC:(("_law_script":Str)==("__classdict__":Str))=false:=by decide+kernel
theorem xS:(("_law_cell_here":Str)==("__debug__":Str))=false:=by decide+kernel
theorem xT:(("_law_cell_here":Str)==("__classdict__":Str))=false:=by decide+kernel
theorem zlv:(("_law_prime":Str)==("__debug__":Str))=false:=by decide+kernel
theorem zlw:(("_law_prime":Str)==("__classdict__":Str))=false:=by decide+kernel
theorem zlx:(("_law_many":Str)==("__debug__":Str))=false:=by decide+kernel
theorem zly:(("_law_many":Str)==("__classdict__":Str))=false:=by decide+kernel
theorem vY:(("_law_found":Str)==("__debug__":Str))=false:=by decide+kernel
theorem vZ:(("_law_found":Str)==("__classdict__":Str))=false:=by decide+kernel
theorem zlz:(("_law_most_here":Str)==("__debug__":Str))=false:=by decide+kernel
theorem zlA:(("_law_most_here":Str)==("__classdict__":Str))=false:=by decide+kernel
theorem zdu:(("_law_right":Str)==("__debug__":Str))=false:=by decide+kernel
theorem zdv:(("_law_right":Str)==("__classdict__":Str))=false:=by decide+kernel
theorem zdw:(("_law_down":Str)==("__debug__":Str))=false:=by decide+kernel
theorem zdx:(("_law_down":Str)==("__classdict__":Str))=false:=by decide+kernel
theorem zdy:(("_law_rows":Str)==("__debug__":Str))=false:=by decide+kernel
theorem zdz:(("_law_rows":Str)==("__classdict__":Str))=false:=by decide+kernel
theorem zdA:(("_law_wide":Str)==("__debug__":Str))=false:=by decide+kernel
theorem zdB:(("_law_wide":Str)==("__classdict__":Str))=false:=by decide+kernel
theorem zdC:(("_law_way":Str)==("__debug__":Str))=false:=by decide+kernel
theorem zdD:(("_law_way":Str)==("__classdict__":Str))=false:=by decide+kernel
theorem zlB:(("_law_seed":Str)==("__debug__":Str))=false:=by decide+kernel
theorem zlC:(("_law_seed":Str)==("__classdict__":Str))=false:=by decide+kernel
theorem Zx:(("_law_mix":Str)==("__debug__":Str))=false:=by decide+kernel
theorem Jk:(("_law_c":Str)==("__debug__":Str))=false:=by decide+kernel
theorem Jl:(("_law_c":Str)==("__classdict__":Str))=false:=by decide+kernel
theorem Jm:(("_law_r":Str)==("__debug__":Str))=false:=by decide+kernel
theorem Jn:(("_law_r":Str)==("__classdict__":Str))=false:=by decide+kernel
theorem Jo:(("_law_at":Str)==("__debug__":Str))=false:=by decide+kernel
theorem Jp:(("_law_at":Str)==("__classdict__":Str))=false:=by decide+kernel
theorem Zy:(("_law_cell":Str)==("__debug__":Str))=false:=by decide+kernel
theorem zlD:(("_law_some":Str)==("__debug__":Str))=false:=by decide+kernel
theorem zlE:(("_law_some":Str)==("__classdict__":Str))=false:=by decide+kernel
theorem zdE:(("_law_one":Str)==("__debug__":Str))=false:=by decide+kernel
theorem zdF:(("_law_one":Str)==("__classdict__":Str))=false:=by decide+kernel
theorem Xd:(("_law_other":Str)==("__debug__":Str))=false:=by decide+kernel
theorem Xe:(("_law_other":Str)==("__classdict__":Str))=false:=by decide+kernel
theorem zdG:(("sorted":Str)==("__debug__":Str))=false:=by decide+kernel
theorem zdH:("sorted":Str)≠"__name__":=by decide+kernel
theorem vn:(("_law_leap_here":Str)==("__debug__":Str))=false:=by decide+kernel
theorem vo:(("_law_leap_here":Str)==("__classdict__":Str))=false:=by decide+kernel
theorem kS:(("list":Str)==("__debug__":Str))=false:=by decide+kernel
theorem kU:("list":Str)≠"__name__":=by decide+kernel
theorem wn:(("_law_floor_here":Str)==("__debug__":Str))=false:=by decide+kernel
theorem wo:(("_law_floor_here":Str)==("__classdict__":Str))=false:=by decide+kernel
theorem zdI:(("_law_is_near":Str)==("__debug__":Str))=false:=by decide+kernel
theorem Xf:(("_law_known":Str)==("__debug__":Str))=false:=by decide+kernel
theorem Xg:(("_law_known":Str)==("__classdict__":Str))=false:=by decide+kernel
theorem zdJ:(("_law_best":Str)==("__debug__":Str))=false:=by decide+kernel
theorem zdK:(("_law_best":Str)==("__classdict__":Str))=false:=by decide+kernel
theorem kW:(("_law_rest":Str)==("__debug__":Str))=false:=by decide+kernel
theorem kX:(("_law_rest":Str)==("__classdict__":Str))=false:=by decide+kernel
theorem zdL:(("_law_near":Str)==("__debug__":Str))=false:=by decide+kernel
theorem zlF:(("_law_left":Str)==("__debug__":Str))=false:=by decide+kernel
theorem zlG:(("_law_left":Str)==("__classdict__":Str))=false:=by decide+kernel
theorem kY:(("_law_most":Str)==("__debug__":Str))=false:=by decide+kernel
theorem zdM:(("_law_free":Str)==("__debug__":Str))=false:=by decide+kernel
theorem zdN:(("_law_free":Str)==("__classdict__":Str))=false:=by decide+kernel
theorem Zz:(("_law_held":Str)==("__debug__":Str))=false:=by decide+kernel
theorem ZA:(("_law_held":Str)==("__classdict__":Str))=false:=by decide+kernel
theorem zlH:(("cover":Str)==("__debug__":Str))=false:=by decide+kernel
theorem jA:(("_law_pair":Str)==("__debug__":Str))=false:=by decide+kernel
theorem jB:(("_law_pair":Str)==("__classdict__":Str))=false:=by decide+kernel
theorem zlI:(("most_pairs":Str)==("__debug__":Str))=false:=by decide+kernel
theorem zlJ:(("_law_leap":Str)==("__debug__":Str))=false:=by decide+kernel
theorem zlK:(("_law_floor":Str)==("__debug__":Str))=false:=by decide+kernel
theorem zlL:FnScope ["thing","least","most"] ["thing","least","most"] (zd (za 8)):=⟨rfl,rfl,rfl,by decide+kernel,rfl,by decide+kernel,by decide+kernel⟩
theorem zlM:zq (zd (za 8)) "least":=.inl (by decide+kernel)
theorem kZ:zq (zd (za 8)) "thing":=.inl (by decide+kernel)
theorem zlN:zq (zd (za 8)) "most":=.inl (by decide+kernel)
theorem zdO:(zd (za 8)).names.lookup ("isinstance":Str)=some .globalImplicit:=by decide+kernel
theorem zlO:(zd (za 8)).names.lookup ("int":Str)=some .globalImplicit:=by decide+kernel
theorem zlP:(zd (za 8)).names.lookup ("bool":Str)=some .globalImplicit:=by decide+kernel
theorem zlQ:FnScope ["thing"] ["thing"] (zd (za 9)):=⟨rfl,rfl,rfl,by decide+kernel,rfl,by decide+kernel,by decide+kernel⟩
theorem zdP:zq (zd (za 9)) "thing":=.inl (by decide+kernel)
theorem zlR:(zd (za 9)).names.lookup ("len":Str)=some .globalImplicit:=by decide+kernel
theorem zlS:(zd (za 9)).names.lookup ("isinstance":Str)=some .globalImplicit:=by decide+kernel
theorem zlT:(zd (za 9)).names.lookup ("tuple":Str)=some .globalImplicit:=by decide+kernel
theorem zlU:FnScope ["thing"] ["thing"] (zd (za 10)):=⟨rfl,rfl,rfl,by decide+kernel,rfl,by decide+kernel,by decide+kernel⟩
theorem qa:zq (zd (za 10)) "thing":=.inl (by decide+kernel)
theorem zdQ:(zd (za 10)).names.lookup ("LAST_LINE":Str)=some .globalImplicit:=by decide+kernel
theorem zdR:(zd (za 10)).names.lookup ("is_whole":Str)=some .globalImplicit:=by decide+kernel
theorem zlV:(zd (za 10)).names.lookup ("is_couple":Str)=some .globalImplicit:=by decide+kernel
theorem zlW:FnScope ["thing"] ["thing"] (zd (za 11)):=⟨rfl,rfl,rfl,by decide+kernel,rfl,by decide+kernel,by decide+kernel⟩
theorem Jq:zq (zd (za 11)) "thing":=.inl (by decide+kernel)
theorem zdS:(zd (za 11)).names.lookup ("is_whole":Str)=some .globalImplicit:=by decide+kernel
theorem zlX:(zd (za 11)).names.lookup ("LONGEST_LEAP":Str)=some .globalImplicit:=by decide+kernel
theorem zlY:(zd (za 11)).names.lookup ("is_couple":Str)=some .globalImplicit:=by decide+kernel
theorem zlZ:FnScope ["cells"] ["cells"] (zd (za 12)):=⟨rfl,rfl,rfl,by decide+kernel,rfl,by decide+kernel,by decide+kernel⟩
theorem zl0:zq (zd (za 12)) "cells":=.inr (.inl (by decide+kernel))
theorem zl1:(zd (za 12)).names.lookup ("len":Str)=some .globalImplicit:=by decide+kernel
theorem zl2:(zd (za 12)).names.lookup ("range":Str)=some .globalImplicit:=by decide+kernel
theorem zl3:(zd (za 12)).names.lookup ("all":Str)=some .globalImplicit:=by decide+kernel
theorem zl4:FnScope ["thing"] ["thing"] (zd (za 13)):=⟨rfl,rfl,rfl,by decide+kernel,rfl,by decide+kernel,by decide+kernel⟩
theorem Jr:zq (zd (za 13)) "thing":=.inl (by decide+kernel)
theorem zl5:(zd (za 13)).names.lookup ("is_rising":Str)=some .globalImplicit:=by decide+kernel
theorem zl6:(zd (za 13)).names.lookup ("all":Str)=some .globalImplicit:=by decide+kernel
theorem zl7:(zd (za 13)).names.lookup ("len":Str)=some .globalImplicit:=by decide+kernel
theorem zl8:(zd (za 13)).names.lookup ("MOST_CELLS":Str)=some .globalImplicit:=by decide+kernel
theorem zl9:(zd (za 13)).names.lookup ("isinstance":Str)=some .globalImplicit:=by decide+kernel
theorem zma:(zd (za 13)).names.lookup ("tuple":Str)=some .globalImplicit:=by decide+kernel
theorem zmb:FnScope ["floor"] ["floor"] (zd (za 14)):=⟨rfl,rfl,rfl,by decide+kernel,rfl,by decide+kernel,by decide+kernel⟩
theorem zdT:zq (zd (za 14)) "floor":=.inl (by decide+kernel)
theorem zmc:(zd (za 14)).names.lookup ("is_floor":Str)=some .globalImplicit:=by decide+kernel
theorem zmd:FnScope ["leap"] ["leap"] (zd (za 15)):=⟨rfl,rfl,rfl,by decide+kernel,rfl,by decide+kernel,by decide+kernel⟩
theorem zdU:zq (zd (za 15)) "leap":=.inl (by decide+kernel)
theorem zme:(zd (za 15)).names.lookup ("is_leap":Str)=some .globalImplicit:=by decide+kernel
theorem zmf:FnScope ["down","right"] ["down","right"] (zd (za 17)):=⟨rfl,rfl,rfl,by decide+kernel,rfl,by decide+kernel,by decide+kernel⟩
theorem zdV:zq (zd (za 17)) "right":=.inl (by decide+kernel)
theorem zdW:zq (zd (za 17)) "down":=.inl (by decide+kernel)
theorem Js:(zd (za 17)).names.lookup ("abs":Str)=some .globalImplicit:=by decide+kernel
theorem zmg:(zd (za 17)).names.lookup ("max":Str)=some .globalImplicit:=by decide+kernel
theorem zmh:(zd (za 17)).names.lookup ("min":Str)=some .globalImplicit:=by decide+kernel
theorem zmi:FnScope ["leap","one","other"] ["leap","one","other"] (zd (za 18)):=⟨rfl,rfl,rfl,by decide+kernel,rfl,by decide+kernel,by decide+kernel⟩
theorem zdX:zq (zd (za 18)) "other":=.inl (by decide+kernel)
theorem zdY:zq (zd (za 18)) "one":=.inl (by decide+kernel)
theorem zmj:zq (zd (za 18)) "leap":=.inl (by decide+kernel)
theorem zmk:(zd (za 18)).names.lookup ("folded":Str)=some .globalImplicit:=by decide+kernel
theorem zml:FnScope ["floor","leap","cell"] ["floor","leap","cell"] (zd (za 19)):=⟨rfl,rfl,rfl,by decide+kernel,rfl,by decide+kernel,by decide+kernel⟩
theorem zmm:zq (zd (za 19)) "floor":=.inl (by decide+kernel)
theorem zmn:FnScope ["_law_script","_law_k"] ["_law_script","_law_k"] (zd (za 34)):=⟨rfl,rfl,rfl,by decide+kernel,rfl,by decide+kernel,by decide+kernel⟩
theorem zdZ:zq (zd (za 34)) "_law_k":=.inl (by decide+kernel)
theorem zd0:zq (zd (za 34)) "_law_script":=.inl (by decide+kernel)
theorem zmo:(zd (za 34)).names.lookup ("len":Str)=some .globalImplicit:=by decide+kernel
theorem zmp:FnScope ["_law_cell_here","_law_prime","_law_many"] ["_law_cell_here","_law_prime","_law_many"] (zd (za 35)):=⟨rfl,rfl,rfl,by decide+kernel,rfl,by decide+kernel,by decide+kernel⟩
theorem zmq:zq (zd (za 35)) "_law_cell_here":=.inl (by decide+kernel)
theorem zmr:zq (zd (za 35)) "_law_prime":=.inl (by decide+kernel)
theorem zms:zq (zd (za 35)) "_law_many":=.inl (by decide+kernel)
theorem zd1:FnScope ["_law_cell_here","_law_some"] ["_law_cell_here"] (zd (za 37)):=⟨rfl,rfl,rfl,by decide+kernel,rfl,by decide+kernel,by decide+kernel⟩
theorem zmt:zq (zd (za 37)) "_law_some":=.inl (by decide+kernel)
theorem zmu:zq (zd (za 37)) "_law_cell_here":=.inl (by decide+kernel)
theorem zmv:zQ (zd (za 37)) "_law_some":=.inl (by decide+kernel)
theorem zmw:FnScope ["_law_leap_here","_law_one","_law_other"] ["_law_leap_here","_law_one","_law_other"] (zd (za 38)):=⟨rfl,rfl,rfl,by decide+kernel,rfl,by decide+kernel,by decide+kernel⟩
theorem zd2:zq (zd (za 38)) "_law_one":=.inl (by decide+kernel)
theorem zd3:zq (zd (za 38)) "_law_other":=.inl (by decide+kernel)
theorem zmx:zq (zd (za 38)) "_law_leap_here":=.inl (by decide+kernel)
theorem zd4:(zd (za 38)).names.lookup ("abs":Str)=some .globalImplicit:=by decide+kernel
theorem zmy:(zd (za 38)).names.lookup ("sorted":Str)=some .globalImplicit:=by decide+kernel
theorem zmz:(zd (za 38)).names.lookup ("list":Str)=some .globalImplicit:=by decide+kernel
theorem zmA:FnScope ["_law_floor_here","_law_leap_here","_law_cell_here"] ["_law_floor_here","_law_leap_here","_law_cell_here"] (zd (za 39)):=⟨rfl,rfl,rfl,by decide+kernel,rfl,by decide+kernel,by decide+kernel⟩
theorem zmB:zq (zd (za 39)) "_law_floor_here":=.inl (by decide+kernel)
theorem zmC:FnScope ["leap"] ["leap"] (zd (za 20)):=⟨rfl,rfl,rfl,by decide+kernel,rfl,by decide+kernel,by decide+kernel⟩
theorem zmD:zq (zd (za 20)) "leap":=.inr (.inl (by decide+kernel))
theorem zmE:(zd (za 20)).names.lookup ("range":Str)=some .globalImplicit:=by decide+kernel
theorem zmF:(zd (za 20)).names.lookup ("max":Str)=some .globalImplicit:=by decide+kernel
theorem zd5:FnScope ["leap","divisor"] ["leap"] (zd (za 21)):=⟨rfl,rfl,rfl,by decide+kernel,rfl,by decide+kernel,by decide+kernel⟩
theorem qb:zq (zd (za 21)) "leap":=.inl (by decide+kernel)
theorem zd6:zq (zd (za 21)) "divisor":=.inl (by decide+kernel)
theorem zmG:zQ (zd (za 21)) "divisor":=.inl (by decide+kernel)
theorem zmH:(zd (za 21)).names.lookup ("greatest_divisor":Str)=some .globalImplicit:=by decide+kernel
theorem Jt:FnScope ["leap","cell","divisor","row","column"] ["leap","cell"] (zd (za 22)):=⟨rfl,rfl,rfl,by decide+kernel,rfl,by decide+kernel,by decide+kernel⟩
theorem zd7:zq (zd (za 22)) "row":=.inl (by decide+kernel)
theorem zd8:zq (zd (za 22)) "leap":=.inl (by decide+kernel)
theorem zmI:zq (zd (za 22)) "column":=.inl (by decide+kernel)
theorem zd9:zq (zd (za 22)) "cell":=.inl (by decide+kernel)
theorem zea:zq (zd (za 22)) "divisor":=.inl (by decide+kernel)
theorem zmJ:zQ (zd (za 22)) "column":=.inl (by decide+kernel)
theorem zmK:zQ (zd (za 22)) "row":=.inl (by decide+kernel)
theorem zmL:zQ (zd (za 22)) "divisor":=.inl (by decide+kernel)
theorem zmM:(zd (za 22)).names.lookup ("has_odd_sum":Str)=some .globalImplicit:=by decide+kernel
theorem zmN:(zd (za 22)).names.lookup ("greatest_divisor":Str)=some .globalImplicit:=by decide+kernel
theorem zmO:FnScope ["floor","leap","hue"] ["floor","leap","hue"] (zd (za 23)):=⟨rfl,rfl,rfl,by decide+kernel,rfl,by decide+kernel,by decide+kernel⟩
theorem zmP:zq (zd (za 23)) "floor":=.inl (by decide+kernel)
theorem zeb:FnScope ["floor","leap","mates","cell","tried","other"] ["floor","leap","mates","cell","tried"] (zd (za 25)):=⟨rfl,rfl,rfl,by decide+kernel,rfl,by decide+kernel,by decide+kernel⟩
theorem qc:zq (zd (za 25)) "cell":=.inl (by decide+kernel)
theorem zec:zq (zd (za 25)) "leap":=.inl (by decide+kernel)
theorem zed:zq (zd (za 25)) "floor":=.inl (by decide+kernel)
theorem ZB:zq (zd (za 25)) "other":=.inl (by decide+kernel)
theorem qd:zq (zd (za 25)) "tried":=.inl (by decide+kernel)
theorem Xh:zq (zd (za 25)) "mates":=.inl (by decide+kernel)
theorem zmQ:zQ (zd (za 25)) "other":=.inl (by decide+kernel)
theorem zmR:(zd (za 25)).names.lookup ("cells_near":Str)=some .globalImplicit:=by decide+kernel
theorem zmS:(zd (za 25)).names.lookup ("finds_mate":Str)=some .globalImplicit:=by decide+kernel
theorem qe:FnScope ["floor","leap","mates","cell"] ["floor","leap"] (zd (za 26)):=⟨rfl,rfl,rfl,by decide+kernel,rfl,by decide+kernel,by decide+kernel⟩
theorem zee:zq (zd (za 26)) "mates":=.inl (by decide+kernel)
theorem zef:zq (zd (za 26)) "leap":=.inl (by decide+kernel)
theorem zeg:zq (zd (za 26)) "floor":=.inl (by decide+kernel)
theorem zmT:zq (zd (za 26)) "cell":=.inl (by decide+kernel)
theorem zmU:zQ (zd (za 26)) "cell":=.inl (by decide+kernel)
theorem zmV:zQ (zd (za 26)) "mates":=.inl (by decide+kernel)
theorem zmW:(zd (za 26)).names.lookup ("cells_of_hue":Str)=some .globalImplicit:=by decide+kernel
theorem zmX:(zd (za 26)).names.lookup ("finds_mate":Str)=some .globalImplicit:=by decide+kernel
theorem zmY:FnScope ["floor","mates"] ["floor","mates"] (zd (za 27)):=⟨rfl,rfl,rfl,by decide+kernel,rfl,by decide+kernel,by decide+kernel⟩
theorem zmZ:zq (zd (za 27)) "floor":=.inl (by decide+kernel)
theorem vD:FnScope ["floor","leap","mates","hue","crowd","around","edge","further","cell","other"] ["floor","leap","mates","hue"] (zd (za 28)):=⟨rfl,rfl,rfl,by decide+kernel,rfl,by decide+kernel,by decide+kernel⟩
theorem qf:zq (zd (za 28)) "around":=.inl (by decide+kernel)
theorem qg:zq (zd (za 28)) "crowd":=.inl (by decide+kernel)
theorem zeh:zq (zd (za 28)) "edge":=.inl (by decide+kernel)
theorem qh:zq (zd (za 28)) "further":=.inl (by decide+kernel)
theorem zm0:zq (zd (za 28)) "cell":=.inl (by decide+kernel)
theorem zei:zq (zd (za 28)) "leap":=.inl (by decide+kernel)
theorem zej:zq (zd (za 28)) "floor":=.inl (by decide+kernel)
theorem qi:zq (zd (za 28)) "other":=.inl (by decide+kernel)
theorem zm1:zq (zd (za 28)) "mates":=.inr (.inl (by decide+kernel))
theorem zm2:zq (zd (za 28)) "hue":=.inl (by decide+kernel)
theorem zek:zQ (zd (za 28)) "edge":=.inl (by decide+kernel)
theorem zm3:zQ (zd (za 28)) "crowd":=.inl (by decide+kernel)
theorem zm4:zQ (zd (za 28)) "other":=.inl (by decide+kernel)
theorem zm5:zQ (zd (za 28)) "cell":=.inl (by decide+kernel)
theorem zm6:zQ (zd (za 28)) "further":=.inl (by decide+kernel)
theorem zm7:zQ (zd (za 28)) "around":=.inl (by decide+kernel)
theorem zm8:(zd (za 28)).names.lookup ("crowd":Str)=some .local:=by decide+kernel
theorem zm9:(zd (za 28)).names.lookup ("len":Str)=some .globalImplicit:=by decide+kernel
theorem zna:(zd (za 28)).names.lookup ("cells_near":Str)=some .globalImplicit:=by decide+kernel
theorem znb:(zd (za 28)).names.lookup ("cells_of_hue":Str)=some .globalImplicit:=by decide+kernel
theorem znc:FnScope ["leap","cell","crowd","around"] ["leap","cell","crowd","around"] (zd (za 29)):=⟨rfl,rfl,rfl,by decide+kernel,rfl,by decide+kernel,by decide+kernel⟩
theorem qj:zq (zd (za 29)) "cell":=.inl (by decide+kernel)
theorem znd:zq (zd (za 29)) "around":=.inl (by decide+kernel)
theorem zne:zq (zd (za 29)) "leap":=.inl (by decide+kernel)
theorem znf:zq (zd (za 29)) "crowd":=.inl (by decide+kernel)
theorem zng:(zd (za 29)).names.lookup ("hue_of":Str)=some .globalImplicit:=by decide+kernel
theorem zel:FnScope ["floor","leap","covering","found"] ["floor","leap","covering"] (zd (za 30)):=⟨rfl,rfl,rfl,by decide+kernel,rfl,by decide+kernel,by decide+kernel⟩
theorem Ju:zq (zd (za 30)) "floor":=.inl (by decide+kernel)
theorem qk:zq (zd (za 30)) "leap":=.inr (.inl (by decide+kernel))
theorem znh:zQ (zd (za 30)) "found":=.inr (by decide+kernel)
theorem zni:(zd (za 30)).names.lookup ("all_mates":Str)=some .globalImplicit:=by decide+kernel
theorem znj:(zd (za 30)).names.lookup ("crowd_and_around":Str)=some .globalImplicit:=by decide+kernel
theorem znk:(zd (za 30)).names.lookup ("checked_leap":Str)=some .globalImplicit:=by decide+kernel
theorem znl:(zd (za 30)).names.lookup ("checked":Str)=some .globalImplicit:=by decide+kernel
theorem znm:FnScope ["floor","leap"] ["floor","leap"] (zd (za 31)):=⟨rfl,rfl,rfl,by decide+kernel,rfl,by decide+kernel,by decide+kernel⟩
theorem zem:zq (zd (za 31)) "leap":=.inl (by decide+kernel)
theorem ql:zq (zd (za 31)) "floor":=.inl (by decide+kernel)
theorem znn:(zd (za 31)).names.lookup ("all_mates":Str)=some .globalImplicit:=by decide+kernel
theorem zno:(zd (za 31)).names.lookup ("pairs_of":Str)=some .globalImplicit:=by decide+kernel
theorem znp:(zd (za 31)).names.lookup ("checked_leap":Str)=some .globalImplicit:=by decide+kernel
theorem znq:(zd (za 31)).names.lookup ("checked":Str)=some .globalImplicit:=by decide+kernel
theorem znr:FnScope ["floor","leap"] ["floor","leap"] (zd (za 32)):=⟨rfl,rfl,rfl,by decide+kernel,rfl,by decide+kernel,by decide+kernel⟩
theorem zns:zq (zd (za 32)) "leap":=.inl (by decide+kernel)
theorem znt:zq (zd (za 32)) "floor":=.inl (by decide+kernel)
theorem znu:(zd (za 32)).names.lookup ("cells_by_cover":Str)=some .globalImplicit:=by decide+kernel
theorem wF:FnScope ["_law_script","_law_at","_law_most_here","_law_cell_here","_law_rows","_law_wide","_law_down","_law_right","_law_way","_law_found","_law_r","_law_c","_law_seed"] ["_law_script","_law_at","_law_most_here"] (zd (za 36)):=⟨rfl,rfl,rfl,by decide+kernel,rfl,by decide+kernel,by decide+kernel⟩
theorem qm:zq (zd (za 36)) "_law_found":=.inl (by decide+kernel)
theorem znv:zq (zd (za 36)) "_law_most_here":=.inl (by decide+kernel)
theorem zen:zq (zd (za 36)) "_law_right":=.inl (by decide+kernel)
theorem zeo:zq (zd (za 36)) "_law_down":=.inl (by decide+kernel)
theorem zep:zq (zd (za 36)) "_law_rows":=.inl (by decide+kernel)
theorem zeq:zq (zd (za 36)) "_law_wide":=.inl (by decide+kernel)
theorem zer:zq (zd (za 36)) "_law_way":=.inl (by decide+kernel)
theorem znw:zq (zd (za 36)) "_law_seed":=.inl (by decide+kernel)
theorem Jv:zq (zd (za 36)) "_law_c":=.inl (by decide+kernel)
theorem Jw:zq (zd (za 36)) "_law_r":=.inl (by decide+kernel)
theorem Jx:zq (zd (za 36)) "_law_at":=.inl (by decide+kernel)
theorem Jy:zq (zd (za 36)) "_law_script":=.inl (by decide+kernel)
theorem qp:zq (zd (za 36)) "_law_cell_here":=.inl (by decide+kernel)
theorem zes:zQ (zd (za 36)) "_law_found":=.inl (by decide+kernel)
theorem znx:zQ (zd (za 36)) "_law_seed":=.inl (by decide+kernel)
theorem zny:zQ (zd (za 36)) "_law_c":=.inl (by decide+kernel)
theorem znz:zQ (zd (za 36)) "_law_r":=.inl (by decide+kernel)
theorem znA:zQ (zd (za 36)) "_law_way":=.inl (by decide+kernel)
theorem znB:zQ (zd (za 36)) "_law_right":=.inl (by decide+kernel)
theorem znC:zQ (zd (za 36)) "_law_down":=.inl (by decide+kernel)
theorem znD:zQ (zd (za 36)) "_law_wide":=.inl (by decide+kernel)
theorem znE:zQ (zd (za 36)) "_law_rows":=.inl (by decide+kernel)
theorem znF:zQ (zd (za 36)) "_law_cell_here":=.inl (by decide+kernel)
theorem znG:(zd (za 36)).names.lookup ("tuple":Str)=some .globalImplicit:=by decide+kernel
theorem zet:(zd (za 36)).names.lookup ("range":Str)=some .globalImplicit:=by decide+kernel
theorem ZC:(zd (za 36)).names.lookup ("_law_mix":Str)=some .globalImplicit:=by decide+kernel
theorem Jz:(zd (za 36)).names.lookup ("_law_cell":Str)=some .globalImplicit:=by decide+kernel
theorem ZD:FnScope ["_law_floor_here","_law_leap_here","_law_known","_law_rest","_law_best","_law_other","_law_left"] ["_law_floor_here","_law_leap_here","_law_known"] (zd (za 40)):=⟨rfl,rfl,rfl,by decide+kernel,rfl,by decide+kernel,by decide+kernel⟩
theorem Xi:zq (zd (za 40)) "_law_known":=.inl (by decide+kernel)
theorem ZE:zq (zd (za 40)) "_law_floor_here":=.inl (by decide+kernel)
theorem zeu:zq (zd (za 40)) "_law_best":=.inl (by decide+kernel)
theorem qq:zq (zd (za 40)) "_law_leap_here":=.inl (by decide+kernel)
theorem qr:zq (zd (za 40)) "_law_rest":=.inl (by decide+kernel)
theorem znH:zq (zd (za 40)) "_law_left":=.inl (by decide+kernel)
theorem zev:zQ (zd (za 40)) "_law_best":=.inl (by decide+kernel)
theorem znI:zQ (zd (za 40)) "_law_left":=.inl (by decide+kernel)
theorem znJ:zQ (zd (za 40)) "_law_other":=.inr (by decide+kernel)
theorem znK:zQ (zd (za 40)) "_law_rest":=.inl (by decide+kernel)
theorem znL:(zd (za 40)).names.lookup ("_law_near":Str)=some .globalImplicit:=by decide+kernel
theorem zew:(zd (za 40)).names.lookup ("_law_most":Str)=some .globalImplicit:=by decide+kernel
theorem znM:(zd (za 40)).names.lookup ("max":Str)=some .globalImplicit:=by decide+kernel
theorem znN:(zd (za 40)).names.lookup ("tuple":Str)=some .globalImplicit:=by decide+kernel
theorem vE:FnScope ["_law_script","_law_floor_here","_law_leap_here","_law_found","_law_held","_law_pair","_law_cell_here","_law_free"] ["_law_script"] (zd (za 41)):=⟨rfl,rfl,rfl,by decide+kernel,rfl,by decide+kernel,by decide+kernel⟩
theorem Xj:zq (zd (za 41)) "_law_floor_here":=.inr (.inl (by decide+kernel))
theorem Xk:zq (zd (za 41)) "_law_found":=.inl (by decide+kernel)
theorem JA:zq (zd (za 41)) "_law_leap_here":=.inr (.inl (by decide+kernel))
theorem znO:zq (zd (za 41)) "_law_free":=.inr (.inl (by decide+kernel))
theorem Xl:zq (zd (za 41)) "_law_held":=.inr (.inl (by decide+kernel))
theorem znP:zq (zd (za 41)) "_law_cell_here":=.inl (by decide+kernel)
theorem jC:zq (zd (za 41)) "_law_pair":=.inl (by decide+kernel)
theorem qt:zq (zd (za 41)) "_law_script":=.inl (by decide+kernel)
theorem znQ:zQ (zd (za 41)) "_law_free":=.inr (by decide+kernel)
theorem znR:zQ (zd (za 41)) "_law_cell_here":=.inl (by decide+kernel)
theorem zex:zQ (zd (za 41)) "_law_held":=.inr (by decide+kernel)
theorem znS:zQ (zd (za 41)) "_law_pair":=.inl (by decide+kernel)
theorem znT:zQ (zd (za 41)) "_law_found":=.inl (by decide+kernel)
theorem znU:zQ (zd (za 41)) "_law_leap_here":=.inr (by decide+kernel)
theorem znV:zQ (zd (za 41)) "_law_floor_here":=.inr (by decide+kernel)
theorem Xm:(zd (za 41)).names.lookup ("len":Str)=some .globalImplicit:=by decide+kernel
theorem znW:(zd (za 41)).names.lookup ("_law_most":Str)=some .globalImplicit:=by decide+kernel
theorem znX:(zd (za 41)).names.lookup ("cover":Str)=some .globalImplicit:=by decide+kernel
theorem znY:(zd (za 41)).names.lookup ("set":Str)=some .globalImplicit:=by decide+kernel
theorem zey:(zd (za 41)).names.lookup ("list":Str)=some .globalImplicit:=by decide+kernel
theorem znZ:(zd (za 41)).names.lookup ("_law_is_near":Str)=some .globalImplicit:=by decide+kernel
theorem zez:(zd (za 41)).names.lookup ("isinstance":Str)=some .globalImplicit:=by decide+kernel
theorem zn0:(zd (za 41)).names.lookup ("tuple":Str)=some .globalImplicit:=by decide+kernel
theorem zn1:(zd (za 41)).names.lookup ("sorted":Str)=some .globalImplicit:=by decide+kernel
theorem zn2:(zd (za 41)).names.lookup ("most_pairs":Str)=some .globalImplicit:=by decide+kernel
theorem zeA:(zd (za 41)).names.lookup ("_law_cell":Str)=some .globalImplicit:=by decide+kernel
theorem zn3:(zd (za 41)).names.lookup ("_law_leap":Str)=some .globalImplicit:=by decide+kernel
theorem zn4:(zd (za 41)).names.lookup ("_law_floor":Str)=some .globalImplicit:=by decide+kernel
section
variable {Pg:Program} {w:World} {K:Ka} {mg:Str->Option Value} {base:Heap} {F:Nat->Addr} {FD:Nat->FuncData} {TK:Nat->Tok} {n fuel:Nat}
theorem zn5(T:Txt K mg F FD TK)(hall: ∀i,FnOk Pg w K mg base zA n (F i) (FD i) (zk i) (zW K (zn U fuel n) i (yk i)))(cdv:Value)(A:Around)(outer:List PySem.Env)(s:Shared)(H:Hp)(E:XK)
  (hr:Room n (A.deeper (envOfC "is_whole" (zd (za 8)) s.heap.objs.size (F 0) cdv))):
  ISs (yb zA Pg w K mg base ["thing","least","most"] "is_whole" (zd (za 8)) (F 0) cdv A outer s H E).nox (zp (zn U fuel n) fuel Yp) (zt (za 8)):=
 (zl (xq (IW.t (jo (xK (jW (t:=.bool) zdO T.z_isinstance zlP T.z_bool PyProof.Rows.boot_bool (ze 0 rfl kZ xO xP) zk9 zk8 zf zf (zw zf zu)) (ZX _ _) we) (jS (vc (xK (jW (t:=.int) zdO T.z_isinstance zlO T.z_int PyProof.Rows.boot_int (ze 0 rfl kZ xO xP) zk7 zk6 zf zf (zw zf zu)) (ZX _ _) we))))) (zl (ya wv)
  zx) zx)
  (zl (ya (zhu XY XY (ze 1 rfl zlM zk2 zk3) (ze 0 rfl kZ xO xP) (ze 2 rfl zlN zk4 zk5)))
  zx))
theorem zn6(T:Txt K mg F FD TK)(hall: ∀i,FnOk Pg w K mg base zA n (F i) (FD i) (zk i) (zW K (zn U fuel n) i (yk i)))(cdv:Value)(A:Around)(outer:List PySem.Env)(s:Shared)(H:Hp)(E:XK)
  (hr:Room n (A.deeper (envOfC "is_couple" (zd (za 9)) s.heap.objs.size (F 1) cdv))):
  ISs (yb zA Pg w K mg base ["thing"] "is_couple" (zd (za 9)) (F 1) cdv A outer s H E).nox (zp (zn U fuel n) fuel Yq) (zt (za 9)):=
 (zl (ya (jR (jW (t:=.tuple) zlS T.z_isinstance zlT T.z_tuple PyProof.Rows.boot_tuple (ze 0 rfl zdP xO xP) Xc Xb zf zf (zw zf zu)) (Vd (vN (wM hr.units) (yY vw zlR T.z_len KJ (zg (ze 0 rfl zdP xO xP) zo zf) vA vz zf zu) zj (yT _)))))
  zx)
theorem zn7(T:Txt K mg F FD TK)(hall: ∀i,FnOk Pg w K mg base zA n (F i) (FD i) (zk i) (zW K (zn U fuel n) i (yk i)))(cdv:Value)(A:Around)(outer:List PySem.Env)(s:Shared)(H:Hp)(E:XK)
  (hr:Room n (A.deeper (envOfC "is_cell" (zd (za 10)) s.heap.objs.size (F 2) cdv))):
  ISs (yb zA Pg w K mg base ["thing"] "is_cell" (zd (za 10)) (F 2) cdv A outer s H E).nox (zp (zn U fuel n) fuel Yr) (zt (za 10)):=
 (zl (ya (jR (zN (zM (hall 1) rfl) hr zlV T.m1 T.f1.kp (T.b1) (zg (ze 0 rfl qa xO xP) zo zf) zc1 zf zu) (jR (zN (zM (hall 0) rfl) hr zdR T.m0 T.f0.kp (T.b0) (zg (yc hr.units (ze 0 rfl qa xO xP) zj (fun _ _=>rfl)) (zg zj (zg (XZ zdQ T.c0 zc0) zo zf) zv) yn) Jd yn (zw zv (zw zf zu))) (Vd (zN (zM (hall 0) rfl) hr zdR T.m0 T.f0.kp (T.b0) (zg (yc hr.units (ze 0 rfl qa xO xP) zj (fun _ _=>rfl)) (zg zj (zg (XZ zdQ T.c0 zc0) zo zf) zv) yn) Jd yn (zw zv (zw zf zu)))))))
  zx)
theorem zn8(T:Txt K mg F FD TK)(hall: ∀i,FnOk Pg w K mg base zA n (F i) (FD i) (zk i) (zW K (zn U fuel n) i (yk i)))(cdv:Value)(A:Around)(outer:List PySem.Env)(s:Shared)(H:Hp)(E:XK)
  (hr:Room n (A.deeper (envOfC "is_leap" (zd (za 11)) s.heap.objs.size (F 3) cdv))):
  ISs (yb zA Pg w K mg base ["thing"] "is_leap" (zd (za 11)) (F 3) cdv A outer s H E).nox (zp (zn U fuel n) fuel Yt) (zt (za 11)):=
 (zl (ya (jR (zN (zM (hall 1) rfl) hr zlY T.m1 T.f1.kp (T.b1) (zg (ze 0 rfl Jq xO xP) zo zf) zc1 zf zu) (jR (zN (zM (hall 0) rfl) hr zdS T.m0 T.f0.kp (T.b0) (zg (yc hr.units (ze 0 rfl Jq xO xP) zj (fun _ _=>rfl)) (zg zj (zg (XZ zlX T.c2 zla) zo zf) zv) yn) Jd yn (zw zv (zw zf zu))) (Vd (zN (zM (hall 0) rfl) hr zdS T.m0 T.f0.kp (T.b0) (zg (yc hr.units (ze 0 rfl Jq xO xP) zj (fun _ _=>rfl)) (zg zj (zg (yc hr.units (ze 0 rfl Jq xO xP) zj (fun _ _=>rfl)) zo yn) zv) yn) Jd yn (zw zv (zw yn zu)))))))
  zx)
theorem zn9(T:Txt K mg F FD TK)(hall: ∀i,FnOk Pg w K mg base zA n (F i) (FD i) (zk i) (zW K (zn U fuel n) i (yk i)))(cdv:Value)(A:Around)(outer:List PySem.Env)(s:Shared)(H:Hp)(E:XK)
  (hr:Room n (A.deeper (envOfC "is_rising" (zd (za 12)) s.heap.objs.size (F 4) cdv))):
  ISs (yb zA Pg w K mg base ["cells"] "is_rising" (zd (za 12)) (F 4) cdv A outer s H E).nox (zp (zn U fuel n) fuel Yu) (zt (za 12)):=
 (zl (ya (yY (zaM rfl) zl3 T.z_all (by decide+kernel) (zg (ww rfl (wg (sc:=zd (za 12)) (N:=["cells"]) rfl rfl (by decide+kernel)) (zaA zl2 T.z_range (zg zj (zg (yY vw zl1 T.z_len KJ (zg (ze 0 rfl zl0 kI kJ) zo zf) vA vz zf zu) zo yI) zv) zv yI) (.inl ⟨rfl,rfl⟩) (fun _ _ _ _=>(vN (XX hr.units) (yc hr.units (ze 1 rfl (yR (by decide+kernel)) kI kJ) (zR vK (ze 0 rfl (yq (by decide+kernel)) zc2 zc3) zj) (fun _ _=>rfl)) (yc hr.units (ze 1 rfl (yR (by decide+kernel)) kI kJ) (ze 0 rfl (yq (by decide+kernel)) zc2 zc3) (fun _ _=>rfl)) (yT _)))) zo vM) zc5 zc4 vM zu))
  zx)
theorem zoa(T:Txt K mg F FD TK)(hall: ∀i,FnOk Pg w K mg base zA n (F i) (FD i) (zk i) (zW K (zn U fuel n) i (yk i)))(cdv:Value)(A:Around)(outer:List PySem.Env)(s:Shared)(H:Hp)(E:XK)
  (hr:Room n (A.deeper (envOfC "is_floor" (zd (za 13)) s.heap.objs.size (F 5) cdv))):
  ISs (yb zA Pg w K mg base ["thing"] "is_floor" (zd (za 13)) (F 5) cdv A outer s H E).nox (zp (zn U fuel n) fuel Yv) (zt (za 13)):=
 (zl (xq (IW.t (jo (vc (xK (jW (t:=.tuple) zl9 T.z_isinstance zma T.z_tuple PyProof.Rows.boot_tuple (ze 0 rfl Jr xO xP) Xc Xb zf zf (zw zf zu)) (ZX _ _) we)) (jS (vc (zhv rfl rfl XY XY zj (yY vw zl7 T.z_len KJ (zg (ze 0 rfl Jr xO xP) zo zf) vA vz zf zu) (XZ zl8 T.c1 zlf)))))) (zl (ya wv)
  zx) zx)
  (zl (ya (jR (yY (zaM rfl) zl6 T.z_all (by decide+kernel) (zg (ww rfl (wg (sc:=zd (za 13)) (N:=["thing"]) rfl rfl (by decide+kernel)) (xL (ze 0 rfl Jr xO xP)) (.inl ⟨rfl,rfl⟩) (fun _ _ _ _=>(zN (zM (hall 2) rfl) hr (jX (by decide+kernel)) T.m2 T.f2.kp (T.b2) (zg (ze 0 rfl (yq (by decide+kernel)) zlc zld) zo zf) zle zf zu))) zo vM) zc5 zc4 vM zu) (Vd (zN (zM (hall 4) rfl) hr zl5 T.m4 T.f4.kp (T.b4) (zg (ze 0 rfl Jr xO xP) zo zf) zlb zf zu))))
  zx))
theorem zob(T:Txt K mg F FD TK)(hall: ∀i,FnOk Pg w K mg base zA n (F i) (FD i) (zk i) (zW K (zn U fuel n) i (yk i)))(cdv:Value)(A:Around)(outer:List PySem.Env)(s:Shared)(H:Hp)(E:XK)
  (hr:Room n (A.deeper (envOfC "checked" (zd (za 14)) s.heap.objs.size (F 6) cdv))):
  ISs (yb zA Pg w K mg base ["floor"] "checked" (zd (za 14)) (F 6) cdv A outer s H E).nox (zp (zn U fuel n) fuel Yw) (zt (za 14)):=
 (zl (xq (vc (xK (zN (zM (hall 5) rfl) hr zmc T.m5 T.f5.kp (T.b5) (zg (ze 0 rfl zdT xu xw) zo zf) zlg zf zu) (jp _ _) we)) (zl zax
  zx) zx)
  (zl (Qy 0 rfl zdT xu xw)
  zx))
theorem zoc(T:Txt K mg F FD TK)(hall: ∀i,FnOk Pg w K mg base zA n (F i) (FD i) (zk i) (zW K (zn U fuel n) i (yk i)))(cdv:Value)(A:Around)(outer:List PySem.Env)(s:Shared)(H:Hp)(E:XK)
  (hr:Room n (A.deeper (envOfC "checked_leap" (zd (za 15)) s.heap.objs.size (F 7) cdv))):
  ISs (yb zA Pg w K mg base ["leap"] "checked_leap" (zd (za 15)) (F 7) cdv A outer s H E).nox (zp (zn U fuel n) fuel Yx) (zt (za 15)):=
 (zl (xq (vc (xK (zN (zM (hall 3) rfl) hr zme T.m3 T.f3.kp (T.b3) (zg (ze 0 rfl zdU yC yD) zo zf) zlh zf zu) (jp _ _) we)) (zl zax
  zx) zx)
  (zl (Qy 0 rfl zdU yC yD)
  zx))
theorem zod(T:Txt K mg F FD TK)(hall: ∀i,FnOk Pg w K mg base zA n (F i) (FD i) (zk i) (zW K (zn U fuel n) i (yk i)))(cdv:Value)(A:Around)(outer:List PySem.Env)(s:Shared)(H:Hp)(E:XK)
  (hr:Room n (A.deeper (envOfC "folded" (zd (za 17)) s.heap.objs.size (F 9) cdv))):
  ISs (yb zA Pg w K mg base ["down","right"] "folded" (zd (za 17)) (F 9) cdv A outer s H E).nox (zp (zn U fuel n) fuel Yy) (zt (za 17)):=
 (zl (ya (yM (zg (yY (zht rfl) zmh T.z_min PyProof.Rows.boot_min (zg (yY jQ Js T.z_abs (by decide+kernel) (zg (ze 0 rfl zdW zc8 zc9) zo zf) Zw Zv zf zu) (zg (yY jQ Js T.z_abs (by decide+kernel) (zg (ze 1 rfl zdV zc6 zc7) zo zf) Zw Zv zf zu) zo yI) yI) zlj zli yI (zw yI zu)) (zg (yY (zad rfl) zmg T.z_max PyProof.Rows.boot_max (zg (yY jQ Js T.z_abs (by decide+kernel) (zg (ze 0 rfl zdW zc8 zc9) zo zf) Zw Zv zf zu) (zg (yY jQ Js T.z_abs (by decide+kernel) (zg (ze 1 rfl zdV zc6 zc7) zo zf) Zw Zv zf zu) zo yI) yI) kL kK yI (zw yI zu)) zo yI) yI)))
  zx)
theorem zoe(T:Txt K mg F FD TK)(hall: ∀i,FnOk Pg w K mg base zA n (F i) (FD i) (zk i) (zW K (zn U fuel n) i (yk i)))(cdv:Value)(A:Around)(outer:List PySem.Env)(s:Shared)(H:Hp)(E:XK)
  (hr:Room n (A.deeper (envOfC "are_near" (zd (za 18)) s.heap.objs.size (F 10) cdv))):
  ISs (yb zA Pg w K mg base ["leap","one","other"] "are_near" (zd (za 18)) (F 10) cdv A outer s H E).nox (zp (zn U fuel n) fuel Yz) (zt (za 18)):=
 (zl (ya (vN (wM hr.units) (zN (zM (hall 9) rfl) hr zmk T.m9 T.f9.kp (T.b9) (zg (zR vK (yc hr.units (ze 2 rfl zdX wl wm) zj (fun _ _=>rfl)) (yc hr.units (ze 1 rfl zdY zda zdb) zj (fun _ _=>rfl))) (zg (zR vK (yc hr.units (ze 2 rfl zdX wl wm) zj (fun _ _=>rfl)) (yc hr.units (ze 1 rfl zdY zda zdb) zj (fun _ _=>rfl))) zo yH) yH) zlk yH (zw yH zu)) (ze 0 rfl zmj yC yD) (yT _)))
  zx)
theorem zof(T:Txt K mg F FD TK)(hall: ∀i,FnOk Pg w K mg base zA n (F i) (FD i) (zk i) (zW K (zn U fuel n) i (yk i)))(cdv:Value)(A:Around)(outer:List PySem.Env)(s:Shared)(H:Hp)(E:XK)
  (hr:Room n (A.deeper (envOfC "cells_near" (zd (za 19)) s.heap.objs.size (F 11) cdv))):
  ISs (yb zA Pg w K mg base ["floor","leap","cell"] "cells_near" (zd (za 19)) (F 11) cdv A outer s H E).nox (zp (zn U fuel n) fuel YA) (zt (za 19)):=
 (zl (ya (ww rfl (wg (sc:=zd (za 19)) (N:=["floor","leap","cell"]) rfl rfl (by decide+kernel)) (xL (ze 0 rfl zmm xu xw)) (.inr ⟨_,rfl,fun _ _ _ _=>(xK (zN (zM (hall 10) rfl) hr (jX (by decide+kernel)) T.m10 T.f10.kp (T.b10) (zg (ze 2 rfl (yR (by decide+kernel)) yC yD) (zg (ze 3 rfl (yR (by decide+kernel)) xc xf) (zg (ze 0 rfl (yq (by decide+kernel)) wl wm) zo zf) zf) zf) zll zf (zw zf (zw zf zu))) (jp _ _) we)⟩) (fun _ _ _ _=>(ze 0 rfl (yq (by decide+kernel)) wl wm))))
  zx)
theorem zog(T:Txt K mg F FD TK)(hall: ∀i,FnOk Pg w K mg base zA n (F i) (FD i) (zk i) (zW K (zn U fuel n) i (yk i)))(cdv:Value)(A:Around)(outer:List PySem.Env)(s:Shared)(H:Hp)(E:XK)
  (hr:Room n (A.deeper (envOfC "_law_cell" (zd (za 34)) s.heap.objs.size (F 13) cdv))):
  ISs (yb zA Pg w K mg base ["_law_script","_law_k"] "_law_cell" (zd (za 34)) (F 13) cdv A outer s H E).nox (zp (zn U fuel n) fuel YB) (zt (za 34)):=
 (zl (xq (yN rfl (XX hr.units) (ze 1 rfl zdZ zds zdt) (yY vw zmo T.z_len KJ (zg (ze 0 rfl zd0 vB vC) zo zf) vA vz zf zu) (yT _)) (zl (ya (yc hr.units (ze 0 rfl zd0 vB vC) (ze 1 rfl zdZ zds zdt) (fun _ _=>rfl)))
  zx) zx)
  (zl (ya zj)
  zx))
theorem zoh(T:Txt K mg F FD TK)(hall: ∀i,FnOk Pg w K mg base zA n (F i) (FD i) (zk i) (zW K (zn U fuel n) i (yk i)))(cdv:Value)(A:Around)(outer:List PySem.Env)(s:Shared)(H:Hp)(E:XK)
  (hr:Room n (A.deeper (envOfC "_law_mix" (zd (za 35)) s.heap.objs.size (F 14) cdv))):
  ISs (yb zA Pg w K mg base ["_law_cell_here","_law_prime","_law_many"] "_law_mix" (zd (za 35)) (F 14) cdv A outer s H E).nox (zp (zn U fuel n) fuel YC) (zt (za 35)):=
 (zl (ya (zR va (zR va (zR jP (ze 0 rfl zmq xS xT) zj) (ze 1 rfl zmr zlv zlw)) (ze 2 rfl zms zlx zly)))
  zx)
theorem zoi(T:Txt K mg F FD TK)(hall: ∀i,FnOk Pg w K mg base zA n (F i) (FD i) (zk i) (zW K (zn U fuel n) i (yk i)))(cdv:Value)(A:Around)(outer:List PySem.Env)(s:Shared)(H:Hp)(E:XK)
  (hr:Room n (A.deeper (envOfC "_law_leap" (zd (za 37)) s.heap.objs.size (F 16) cdv))):
  ISs (yb zA Pg w K mg base ["_law_cell_here","_law_some"] "_law_leap" (zd (za 37)) (F 16) cdv A outer s H E).nox (zp (zn U fuel n) fuel YD) (zt (za 37)):=
 (zl (yy 1 zd1.nd rfl zmv (vb (zg (yM (zg zj (zg zj zo zv) zv)) (zg (yM (zg zj (zg zj zo zv) zv)) (zg (yM (zg zj (zg zj zo zv) zv)) (zg (yM (zg zj (zg zj zo zv) zv)) (zg (yM (zg zj (zg zj zo zv) zv)) (zg (yM (zg zj (zg zj zo zv) zv)) (zg (yM (zg zj (zg zj zo zv) zv)) (zg (yM (zg zj (zg zj zo zv) zv)) (zg (yM (zg zj (zg zj zo zv) zv)) (zg (yM (zg zj (zg zj zo zv) zv)) (zg (yM (zg zj (zg zj zo zv) zv)) (zg (yM (zg zj (zg zj zo zv) zv)) (zg (yM (zg zj (zg zj zo zv) zv)) zo xj) xj) xj) xj) xj) xj) xj) xj) xj) xj) xj) xj) xj)))
  (zl (ya (yc hr.units (zR xp (ze 1 rfl zmt zlD zlE) (vb (zg (yM (zg zj (zg zj zo zv) zv)) (zg (yM (zg zj (zg zj zo zv) zv)) (zg (yM (zg zj (zg zj zo zv) zv)) (zg (yM (zg zj (zg zj zo zv) zv)) (zg (yM (zg zj (zg zj zo zv) zv)) (zg (yM (zg zj (zg zj zo zv) zv)) zo xj) xj) xj) xj) xj) xj))) (zR va (ze 0 rfl zmu xS xT) zj) (fun _ _=>rfl)))
  zx))
theorem zoj(T:Txt K mg F FD TK)(hall: ∀i,FnOk Pg w K mg base zA n (F i) (FD i) (zk i) (zW K (zn U fuel n) i (yk i)))(cdv:Value)(A:Around)(outer:List PySem.Env)(s:Shared)(H:Hp)(E:XK)
  (hr:Room n (A.deeper (envOfC "_law_is_near" (zd (za 38)) s.heap.objs.size (F 17) cdv))):
  ISs (yb zA Pg w K mg base ["_law_leap_here","_law_one","_law_other"] "_law_is_near" (zd (za 38)) (F 17) cdv A outer s H E).nox (zp (zn U fuel n) fuel YE) (zt (za 38)):=
 (zl (ya (vN (wM hr.units) (yY zim zmy T.z_sorted PyProof.Rows.boot_sorted (zg (vb (zg (yY jQ zd4 T.z_abs (by decide+kernel) (zg (zR vK (yc hr.units (ze 1 rfl zd2 zdE zdF) zj (fun _ _=>rfl)) (yc hr.units (ze 2 rfl zd3 Xd Xe) zj (fun _ _=>rfl))) zo yH) Zw Zv yH zu) (zg (yY jQ zd4 T.z_abs (by decide+kernel) (zg (zR vK (yc hr.units (ze 1 rfl zd2 zdE zdF) zj (fun _ _=>rfl)) (yc hr.units (ze 2 rfl zd3 Xd Xe) zj (fun _ _=>rfl))) zo yH) Zw Zv yH zu) zo yI) yI)) zo zah) zdH zdG zah zu) (Vc zae zmz T.z_list PyProof.Rows.boot_list (zg (ze 0 rfl zmx vn vo) zo zf) kU kS zf zu) (yT _)))
  zx)
theorem zok(T:Txt K mg F FD TK)(hall: ∀i,FnOk Pg w K mg base zA n (F i) (FD i) (zk i) (zW K (zn U fuel n) i (yk i)))(cdv:Value)(A:Around)(outer:List PySem.Env)(s:Shared)(H:Hp)(E:XK)
  (hr:Room n (A.deeper (envOfC "_law_near" (zd (za 39)) s.heap.objs.size (F 18) cdv))):
  ISs (yb zA Pg w K mg base ["_law_floor_here","_law_leap_here","_law_cell_here"] "_law_near" (zd (za 39)) (F 18) cdv A outer s H E).nox (zp (zn U fuel n) fuel Zh) (zt (za 39)):=
 (zl (ya (ww rfl (wg (sc:=zd (za 39)) (N:=["_law_floor_here","_law_leap_here","_law_cell_here"]) rfl rfl (by decide+kernel)) (xL (ze 0 rfl zmB wn wo)) (.inr ⟨_,rfl,fun _ _ _ _=>(xK (zN (zM (hall 17) rfl) hr (jX (by decide+kernel)) T.m17 T.f17.kp (T.b17) (zg (ze 2 rfl (yR (by decide+kernel)) vn vo) (zg (ze 3 rfl (yR (by decide+kernel)) xS xT) (zg (ze 0 rfl (yq (by decide+kernel)) Xd Xe) zo zf) zf) zf) zdI zf (zw zf (zw zf zu))) (jp _ _) we)⟩) (fun _ _ _ _=>(ze 0 rfl (yq (by decide+kernel)) Xd Xe))))
  zx)
theorem zol(T:Txt K mg F FD TK)(hall: ∀i,FnOk Pg w K mg base zA n (F i) (FD i) (zk i) (zW K (zn U fuel n) i (yk i)))(cdv:Value)(A:Around)(outer:List PySem.Env)(s:Shared)(H:Hp)(E:XK)
  (hr:Room n (A.deeper (envOfC "greatest_divisor" (zd (za 20)) s.heap.objs.size (F 21) cdv))):
  ISs (yb zA Pg w K mg base ["leap"] "greatest_divisor" (zd (za 20)) (F 21) cdv A outer s H E).nox (zp (zn U fuel n) fuel YF) (zt (za 20)):=
 (zl (ya (yY (zig rfl) zmF T.z_max PyProof.Rows.boot_max (zg (ww rfl (wg (sc:=zd (za 20)) (N:=["leap"]) rfl rfl (by decide+kernel)) (zaA zmE T.z_range (zg zj (zg (zR xp (yc hr.units (ze 0 rfl zmD yC yD) zj (fun _ _=>rfl)) zj) zo yH) zv) zv yH) (.inr ⟨_,rfl,fun _ _ _ _=>(IW.t (zal (yN rfl (wM hr.units) (zR va (yc hr.units (ze 1 rfl (yR (by decide+kernel)) yC yD) zj (fun _ _=>rfl)) (ze 0 rfl (yq (by decide+kernel)) kM kN)) zj (yT _)) (zak (yN rfl (wM hr.units) (zR va (yc hr.units (ze 1 rfl (yR (by decide+kernel)) yC yD) zj (fun _ _=>rfl)) (ze 0 rfl (yq (by decide+kernel)) kM kN)) zj (yT _)))))⟩) (fun _ _ _ _=>(ze 0 rfl (yq (by decide+kernel)) kM kN))) zo vM) kL kK vM zu))
  zx)
theorem zom(T:Txt K mg F FD TK)(hall: ∀i,FnOk Pg w K mg base zA n (F i) (FD i) (zk i) (zW K (zn U fuel n) i (yk i)))(cdv:Value)(A:Around)(outer:List PySem.Env)(s:Shared)(H:Hp)(E:XK)
  (hr:Room n (A.deeper (envOfC "has_odd_sum" (zd (za 21)) s.heap.objs.size (F 22) cdv))):
  ISs (yb zA Pg w K mg base ["leap","divisor"] "has_odd_sum" (zd (za 21)) (F 22) cdv A outer s H E).nox (zp (zn U fuel n) fuel YG) (zt (za 21)):=
 (zl (yy 1 zd5.nd rfl zmG (zN (zM (hall 21) rfl) hr zmH T.m21 T.f21.kp (T.b21) (zg (ze 0 rfl qb yC yD) zo zf) zdc zf zu))
  (zl (ya (vN (wM hr.units) (zR va (zR xp (zR XS (yc hr.units (ze 0 rfl qb yC yD) zj (fun _ _=>rfl)) (ze 1 rfl zd6 Je Jf)) (zR XS (yc hr.units (ze 0 rfl qb yC yD) zj (fun _ _=>rfl)) (ze 1 rfl zd6 Je Jf))) zj) zj (yT _)))
  zx))
theorem zon(T:Txt K mg F FD TK)(hall: ∀i,FnOk Pg w K mg base zA n (F i) (FD i) (zk i) (zW K (zn U fuel n) i (yk i)))(cdv:Value)(A:Around)(outer:List PySem.Env)(s:Shared)(H:Hp)(E:XK)
  (hr:Room n (A.deeper (envOfC "hue_of" (zd (za 22)) s.heap.objs.size (F 23) cdv))):
  ISs (yb zA Pg w K mg base ["leap","cell","divisor","row","column"] "hue_of" (zd (za 22)) (F 23) cdv A outer s H E).nox (zp (zn U fuel n) fuel YH) (zt (za 22)):=
 (zl (yy 2 Jt.nd rfl zmL (zN (zM (hall 21) rfl) hr zmN T.m21 T.f21.kp (T.b21) (zg (ze 0 rfl zd8 yC yD) zo zf) zdc zf zu))
  (zl (yy 3 Jt.nd rfl zmK (zR XS (yc hr.units (ze 1 rfl zd9 xc xf) zj (fun _ _=>rfl)) (ze 2 rfl zea Je Jf)))
  (zl (yy 4 Jt.nd rfl zmJ (zR XS (yc hr.units (ze 1 rfl zd9 xc xf) zj (fun _ _=>rfl)) (ze 2 rfl zea Je Jf)))
  (zl (xq (xK (zN (zM (hall 22) rfl) hr zmM T.m22 T.f22.kp (T.b22) (zg (ze 0 rfl zd8 yC yD) zo zf) zlm zf zu) (jp _ _) we) (zl (ya (zR va (zR xp (ze 3 rfl zd7 zdd zde) (ze 4 rfl zmI zln zlo)) zj))
  zx) zx)
  (zl (ya (zR va (ze 3 rfl zd7 zdd zde) zj))
  zx)))))
theorem zoo(T:Txt K mg F FD TK)(hall: ∀i,FnOk Pg w K mg base zA n (F i) (FD i) (zk i) (zW K (zn U fuel n) i (yk i)))(cdv:Value)(A:Around)(outer:List PySem.Env)(s:Shared)(H:Hp)(E:XK)
  (hr:Room n (A.deeper (envOfC "cells_of_hue" (zd (za 23)) s.heap.objs.size (F 24) cdv))):
  ISs (yb zA Pg w K mg base ["floor","leap","hue"] "cells_of_hue" (zd (za 23)) (F 24) cdv A outer s H E).nox (zp (zn U fuel n) fuel YI) (zt (za 23)):=
 (zl (ya (ww rfl (wg (sc:=zd (za 23)) (N:=["floor","leap","hue"]) rfl rfl (by decide+kernel)) (xL (ze 0 rfl zmP xu xw)) (.inr ⟨_,rfl,fun _ _ _ _=>(yN rfl (wM hr.units) (zN (zM (hall 23) rfl) hr (jX (by decide+kernel)) T.m23 T.f23.kp (T.b23) (zg (ze 2 rfl (yR (by decide+kernel)) yC yD) (zg (ze 0 rfl (yq (by decide+kernel)) xc xf) zo zf) zf) zdf zf (zw zf zu)) (ze 3 rfl (yR (by decide+kernel)) zdg zdh) (yT _))⟩) (fun _ _ _ _=>(ze 0 rfl (yq (by decide+kernel)) xc xf))))
  zx)
theorem zop(T:Txt K mg F FD TK)(hall: ∀i,FnOk Pg w K mg base zA n (F i) (FD i) (zk i) (zW K (zn U fuel n) i (yk i)))(cdv:Value)(A:Around)(outer:List PySem.Env)(s:Shared)(H:Hp)(E:XK)
  (hr:Room n (A.deeper (envOfC "finds_mate" (zd (za 25)) s.heap.objs.size (F 37) cdv))):
  ISs (yb zA Pg w K mg base ["floor","leap","mates","cell","tried","other"] "finds_mate" (zd (za 25)) (F 37) cdv A outer s H E).nox (zp (zn U fuel n) fuel Zi) (zt (za 25)):=
 (zl (jq 5 Kz rfl zeb.nd rfl zmQ (xL (zN (zM (hall 11) rfl) hr zmR T.m11 T.f11.kp (T.b11) (zg (ze 0 rfl zed xu xw) (zg (ze 1 rfl zec yC yD) (zg (ze 3 rfl qc xc xf) zo zf) zf) zf) zdi zf (zw zf (zw zf zu)))) (zl (xq (yN rfl (vL hr.units) (ze 5 rfl ZB wl wm) (ze 4 rfl qd kO kP) (by with_unfolding_all rfl)) (zl (Vs 4 hr.units rfl qd (ze 5 rfl ZB wl wm) wv kO kP)
  (zl (zia (yN rfl (vL hr.units) (ze 5 rfl ZB wl wm) (ze 2 rfl Xh wD wE) (by with_unfolding_all rfl)) (Yh (hall 37) rfl (by decide) (by decide) hr zmS T.m37 T.f37.kp (T.b37) (wx (ze 0 rfl zed xu xw) (wx (ze 1 rfl zec yC yD) (Ye 2 rfl Xh (wx (yc hr.units (ze 2 rfl Xh wD wE) (ze 5 rfl ZB wl wm) (fun _ _=>rfl)) (Ye 4 rfl qd Yd kO kP) yn) wD wE) zf) zf) zdj zf (zw zf (zw zf (zw yn (zw zf zu))))) we (zl (Vs 2 hr.units rfl Xh (ze 3 rfl qc xc xf) (ze 5 rfl ZB wl wm) wD wE)
  (zl (Vs 2 hr.units rfl Xh (ze 5 rfl ZB wl wm) (ze 3 rfl qc xc xf) wD wE)
  (zl (ya wv)
  zx))) zx)
  zx)) zx)
  zx))
  (zl (ya wv)
  zx))
theorem zoq(T:Txt K mg F FD TK)(hall: ∀i,FnOk Pg w K mg base zA n (F i) (FD i) (zk i) (zW K (zn U fuel n) i (yk i)))(cdv:Value)(A:Around)(outer:List PySem.Env)(s:Shared)(H:Hp)(E:XK)
  (hr:Room n (A.deeper (envOfC "all_mates" (zd (za 26)) s.heap.objs.size (F 38) cdv))):
  ISs (yb zA Pg w K mg base ["floor","leap","mates","cell"] "all_mates" (zd (za 26)) (F 38) cdv A outer s H E).nox (zp (zn U fuel n) fuel YJ) (zt (za 26)):=
 (zl (yy 2 qe.nd rfl zmV (zhV true))
  (zl (jq 3 Kz rfl qe.nd rfl zmU (xL (zN (zM (hall 24) rfl) hr zmW T.m24 T.f24.kp (T.b24) (zg (ze 0 rfl zeg xu xw) (zg (ze 1 rfl zef yC yD) (zg zj zo zv) zf) zf) zdk zf (zw zf (zw zv zu)))) (zl (zh8 (Yh (hall 37) rfl (by decide) (by decide) hr zmX T.m37 T.f37.kp (T.b37) (wx (ze 0 rfl zeg xu xw) (wx (ze 1 rfl zef yC yD) (Ye 2 rfl zee (wx (ze 3 rfl zmT xc xf) (zaT (some true) Yd) zf) wD wE) zf) zf) zdj zf (zw zf (zw zf (zw zf (zw zag zu))))))
  zx))
  (zl (Qy 2 rfl zee wD wE)
  zx)))
theorem zor(T:Txt K mg F FD TK)(hall: ∀i,FnOk Pg w K mg base zA n (F i) (FD i) (zk i) (zW K (zn U fuel n) i (yk i)))(cdv:Value)(A:Around)(outer:List PySem.Env)(s:Shared)(H:Hp)(E:XK)
  (hr:Room n (A.deeper (envOfC "pairs_of" (zd (za 27)) s.heap.objs.size (F 39) cdv))):
  ISs (yb zA Pg w K mg base ["floor","mates"] "pairs_of" (zd (za 27)) (F 39) cdv A outer s H E).nox (zp (zn U fuel n) fuel YK) (zt (za 27)):=
 (zl (ya (ww rfl (wg (sc:=zd (za 27)) (N:=["floor","mates"]) rfl rfl (by decide+kernel)) (xL (ze 0 rfl zmZ xu xw)) (.inr ⟨_,rfl,fun _ _ _ _=>(IW.t (zal (yN rfl (zaa hr.units) (ze 0 rfl (yq (by decide+kernel)) xc xf) (ze 2 rfl (yR (by decide+kernel)) wD wE) (by with_unfolding_all rfl)) (zak (yN rfl (XX hr.units) (ze 0 rfl (yq (by decide+kernel)) xc xf) (yc hr.units (ze 2 rfl (yR (by decide+kernel)) wD wE) (ze 0 rfl (yq (by decide+kernel)) xc xf) (fun _ _=>rfl)) (yT _)))))⟩) (fun _ _ _ _=>(yM (zg (ze 0 rfl (yq (by decide+kernel)) xc xf) (zg (yc hr.units (ze 2 rfl (yR (by decide+kernel)) wD wE) (ze 0 rfl (yq (by decide+kernel)) xc xf) (fun _ _=>rfl)) zo yn) zf)))))
  zx)
theorem zos(T:Txt K mg F FD TK)(hall: ∀i,FnOk Pg w K mg base zA n (F i) (FD i) (zk i) (zW K (zn U fuel n) i (yk i)))(cdv:Value)(A:Around)(outer:List PySem.Env)(s:Shared)(H:Hp)(E:XK)
  (hr:Room n (A.deeper (envOfC "crowd_and_around" (zd (za 28)) s.heap.objs.size (F 40) cdv))):
  ISs (yb zA Pg w K mg base ["floor","leap","mates","hue","crowd","around","edge","further","cell","other"] "crowd_and_around" (zd (za 28)) (F 40) cdv A outer s H E).nox (zp (zn U fuel n) fuel YM) (zt (za 28)):=
 (zl (zhJ 4 rfl vD.nd rfl zm8 (wg (sc:=zd (za 28)) (N:=["floor","leap","mates","hue","crowd","around","edge","further","cell","other"]) rfl rfl (by decide+kernel)) (xL (zN (zM (hall 24) rfl) hr znb T.m24 T.f24.kp (T.b24) (zg (ze 0 rfl zej xu xw) (zg (ze 1 rfl zei yC yD) (zg (ze 3 rfl zm2 zdg zdh) zo zf) zf) zf) zdk zf (zw zf (zw zf zu)))) (.inr ⟨_,rfl,fun _ _ _ _=>(yN rfl (vL hr.units) (ze 0 rfl (yq (by decide+kernel)) xc xf) (ze 3 rfl (yR (by decide+kernel)) wD wE) (by with_unfolding_all rfl))⟩) (fun _ _ _ _=>(ze 0 rfl (yq (by decide+kernel)) xc xf)) (hsw:=(zaZ (sc:=zd (za 28)) rfl (by decide+kernel))))
  (zl (yy 5 vD.nd rfl zm7 (vb zo))
  (zl (zaw 6 4 vD.nd rfl zek rfl qg (hd:=Ji) (hcd:=Jj))
  (zl (zhz Kz (yN rfl Qq (yY vw zm9 T.z_len KJ (zg (ze 6 rfl zeh zdl zdm) zo zf) vA vz zf zu) zj (yT _)) (zl (yy 7 vD.nd rfl zm6 (vb zo))
  (zl (zaC 8 6 Kz rfl vD.nd rfl zm5 rfl zeh (zl (jq 9 Kz rfl vD.nd rfl zm4 (xL (zN (zM (hall 11) rfl) hr zna T.m11 T.f11.kp (T.b11) (zg (ze 0 rfl zej xu xw) (zg (ze 1 rfl zei yC yD) (zg (ze 8 rfl zm0 xc xf) zo zf) zf) zf) zdi zf (zw zf (zw zf zu)))) (zl (xq (yN rfl (vL hr.units) (ze 9 rfl qi wl wm) (ze 5 rfl qf Jg Jh) (by with_unfolding_all rfl)) (zl (Qz 5 rfl qf (ze 9 rfl qi wl wm) zf Jg Jh)
  (zl (Qz 7 rfl qh (yc hr.units (ze 2 rfl zm1 wD wE) (ze 9 rfl qi wl wm) (fun _ _=>rfl)) yn kQ kR)
  zx)) zx)
  zx))
  zx) (hd:=zdl) (hcd:=zdm))
  (zl (yy 4 vD.nd rfl zm3 (zR xp (ze 4 rfl qg Ji Jj) (ze 7 rfl qh kQ kR)))
  (zl (zaw 6 7 vD.nd rfl zek rfl qh (hd:=kQ) (hcd:=kR))
  zx)))))
  (zl (zid _ (ya (yM (zg (ze 4 rfl qg Ji Jj) (zg (ze 5 rfl qf Jg Jh) zo zf) zf))))
  zx)))))
theorem zot(T:Txt K mg F FD TK)(hall: ∀i,FnOk Pg w K mg base zA n (F i) (FD i) (zk i) (zW K (zn U fuel n) i (yk i)))(cdv:Value)(A:Around)(outer:List PySem.Env)(s:Shared)(H:Hp)(E:XK)
  (hr:Room n (A.deeper (envOfC "is_in_cover" (zd (za 29)) s.heap.objs.size (F 41) cdv))):
  ISs (yb zA Pg w K mg base ["leap","cell","crowd","around"] "is_in_cover" (zd (za 29)) (F 41) cdv A outer s H E).nox (zp (zn U fuel n) fuel Zj) (zt (za 29)):=
 (zl (xq (yN rfl (wM hr.units) (zN (zM (hall 23) rfl) hr zng T.m23 T.f23.kp (T.b23) (zg (ze 0 rfl zne yC yD) (zg (ze 1 rfl qj xc xf) zo zf) zf) zdf zf (zw zf zu)) zj (yT _)) (zl (ya (vN (vL hr.units) (ze 1 rfl qj xc xf) (ze 2 rfl znf Ji Jj) (by with_unfolding_all rfl)))
  zx) zx)
  (zl (ya (vN (zaa hr.units) (ze 1 rfl qj xc xf) (ze 3 rfl znd Jg Jh) (by with_unfolding_all rfl)))
  zx))
theorem zou(T:Txt K mg F FD TK)(hall: ∀i,FnOk Pg w K mg base zA n (F i) (FD i) (zk i) (zW K (zn U fuel n) i (yk i)))(cdv:Value)(A:Around)(outer:List PySem.Env)(s:Shared)(H:Hp)(E:XK)
  (hr:Room n (A.deeper (envOfC "cells_by_cover" (zd (za 30)) s.heap.objs.size (F 42) cdv))):
  ISs (yb zA Pg w K mg base ["floor","leap","covering","found"] "cells_by_cover" (zd (za 30)) (F 42) cdv A outer s H E).nox (zp (zn U fuel n) fuel YN) (zt (za 30)):=
 (zl (Vl (zN (zM (hall 6) rfl) hr znl T.m6 T.f6.kp (T.b6) (zg (ze 0 rfl Ju xu xw) zo zf) zdr zf zu))
  (zl (Vl (zN (zM (hall 7) rfl) hr znk T.m7 T.f7.kp (T.b7) (zg (ze 1 rfl qk yC yD) zo zf) zdq zf zu))
  (zl (yy 3 zel.nd rfl znh (zN (zM (hall 40) rfl) hr znj T.m40 T.f40.kp (T.b40) (zg (ze 0 rfl Ju xu xw) (zg (ze 1 rfl qk yC yD) (zg (zN (zM (hall 38) rfl) hr zni T.m38 T.f38.kp (T.b38) (zg (ze 0 rfl Ju xu xw) (zg (ze 1 rfl qk yC yD) zo zf) zf) zdp zf (zw zf zu)) (zg zj zo zv) yI) zf) zf) zls zf (zw zf (zw yI (zw zv zu)))))
  (zl (ya (ww rfl (wg (sc:=zd (za 30)) (N:=["floor","leap","covering","found"]) rfl rfl (by decide+kernel)) (xL (ze 0 rfl Ju xu xw)) (.inr ⟨_,rfl,fun _ _ _ _=>(yN rfl (wM hr.units) (zN (zM (hall 41) rfl) hr (jX (by decide+kernel)) T.m41 T.f41.kp (T.b41) (zg (ze 2 rfl (yR (by decide+kernel)) yC yD) (zg (ze 0 rfl (yq (by decide+kernel)) xc xf) (zg (yc hr.units (ze 4 rfl (yR (by decide+kernel)) zdn zdo) zj (fun _ _=>rfl)) (zg (yc hr.units (ze 4 rfl (yR (by decide+kernel)) zdn zdo) zj (fun _ _=>rfl)) zo yn) yn) zf) zf) zlp zf (zw zf (zw yn (zw yn zu)))) (ze 3 rfl (yR (by decide+kernel)) zlq zlr) (yT _))⟩) (fun _ _ _ _=>(ze 0 rfl (yq (by decide+kernel)) xc xf))))
  zx))))
theorem zov(T:Txt K mg F FD TK)(hall: ∀i,FnOk Pg w K mg base zA n (F i) (FD i) (zk i) (zW K (zn U fuel n) i (yk i)))(cdv:Value)(A:Around)(outer:List PySem.Env)(s:Shared)(H:Hp)(E:XK)
  (hr:Room n (A.deeper (envOfC "most_pairs" (zd (za 31)) s.heap.objs.size (F 43) cdv))):
  ISs (yb zA Pg w K mg base ["floor","leap"] "most_pairs" (zd (za 31)) (F 43) cdv A outer s H E).nox (zp (zn U fuel n) fuel YO) (zt (za 31)):=
 (zl (Vl (zN (zM (hall 6) rfl) hr znq T.m6 T.f6.kp (T.b6) (zg (ze 0 rfl ql xu xw) zo zf) zdr zf zu))
  (zl (Vl (zN (zM (hall 7) rfl) hr znp T.m7 T.f7.kp (T.b7) (zg (ze 1 rfl zem yC yD) zo zf) zdq zf zu))
  (zl (ya (zN (zM (hall 39) rfl) hr zno T.m39 T.f39.kp (T.b39) (zg (ze 0 rfl ql xu xw) (zg (zN (zM (hall 38) rfl) hr znn T.m38 T.f38.kp (T.b38) (zg (ze 0 rfl ql xu xw) (zg (ze 1 rfl zem yC yD) zo zf) zf) zdp zf (zw zf zu)) zo yI) zf) zlt zf (zw yI zu)))
  zx)))
theorem zow(T:Txt K mg F FD TK)(hall: ∀i,FnOk Pg w K mg base zA n (F i) (FD i) (zk i) (zW K (zn U fuel n) i (yk i)))(cdv:Value)(A:Around)(outer:List PySem.Env)(s:Shared)(H:Hp)(E:XK)
  (hr:Room n (A.deeper (envOfC "cover" (zd (za 32)) s.heap.objs.size (F 44) cdv))):
  ISs (yb zA Pg w K mg base ["floor","leap"] "cover" (zd (za 32)) (F 44) cdv A outer s H E).nox (zp (zn U fuel n) fuel YQ) (zt (za 32)):=
 (zl (ya (zN (zM (hall 42) rfl) hr znu T.m42 T.f42.kp (T.b42) (zg (ze 0 rfl znt xu xw) (zg (ze 1 rfl zns yC yD) (zg wv zo zv) zf) zf) zlu zf (zw zf (zw zv zu))))
  zx)
theorem zox(T:Txt K mg F FD TK)(hall: ∀i,FnOk Pg w K mg base zA n (F i) (FD i) (zk i) (zW K (zn U fuel n) i (yk i)))(cdv:Value)(A:Around)(outer:List PySem.Env)(s:Shared)(H:Hp)(E:XK)
  (hr:Room n (A.deeper (envOfC "_law_floor" (zd (za 36)) s.heap.objs.size (F 49) cdv))):
  ISs (yb zA Pg w K mg base ["_law_script","_law_at","_law_most_here","_law_cell_here","_law_rows","_law_wide","_law_down","_law_right","_law_way","_law_found","_law_r","_law_c","_law_seed"] "_law_floor" (zd (za 36)) (F 49) cdv A outer s H E).nox (zp (zn U fuel n) fuel YS) (zt (za 36)):=
 (zl (yy 3 wF.nd rfl znF (zN (zM (hall 13) rfl) hr Jz T.m13 T.f13.kp (T.b13) (zg (ze 0 rfl Jy vB vC) (zg (ze 1 rfl Jx Jo Jp) zo zf) zf) Zy zf (zw zf zu)))
  (zl (yy 4 wF.nd rfl znE (zR xp zj (zN (zM (hall 14) rfl) hr ZC T.m14 T.f14.kp (T.b14) (zg (ze 3 rfl qp xS xT) (zg zj (zg zj zo zv) zv) zf) Zx zf (zw zv (zw zv zu)))))
  (zl (yy 5 wF.nd rfl znD (zR xp zj (zN (zM (hall 14) rfl) hr ZC T.m14 T.f14.kp (T.b14) (zg (ze 3 rfl qp xS xT) (zg zj (zg zj zo zv) zv) zf) Zx zf (zw zv (zw zv zu)))))
  (zl (yy 6 wF.nd rfl znC (zN (zM (hall 14) rfl) hr ZC T.m14 T.f14.kp (T.b14) (zg (zN (zM (hall 13) rfl) hr Jz T.m13 T.f13.kp (T.b13) (zg (ze 0 rfl Jy vB vC) (zg (zR xp (ze 1 rfl Jx Jo Jp) zj) zo yH) zf) Zy zf (zw yH zu)) (zg zj (zg (zR vK zj (ze 4 rfl zep zdy zdz)) zo yH) zv) yI) Zx yI (zw zv (zw yH zu))))
  (zl (yy 7 wF.nd rfl znB (zN (zM (hall 14) rfl) hr ZC T.m14 T.f14.kp (T.b14) (zg (zN (zM (hall 13) rfl) hr Jz T.m13 T.f13.kp (T.b13) (zg (ze 0 rfl Jy vB vC) (zg (zR xp (ze 1 rfl Jx Jo Jp) zj) zo yH) zf) Zy zf (zw yH zu)) (zg zj (zg (zR vK zj (ze 5 rfl zeq zdA zdB)) zo yH) zv) yI) Zx yI (zw zv (zw yH zu))))
  (zl (yy 8 wF.nd rfl znA (zN (zM (hall 14) rfl) hr ZC T.m14 T.f14.kp (T.b14) (zg (zR xp (ze 3 rfl qp xS xT) zj) (zg zj (zg zj zo zv) zv) yH) Zx yH (zw zv (zw zv zu))))
  (zl (yy 9 wF.nd rfl zes (vb zo))
  (zl (jq 10 Kz rfl wF.nd rfl znz (zaz zet T.z_range (zg (ze 4 rfl zep zdy zdz) zo zf) zf) (zl (jq 11 Kz rfl wF.nd rfl zny (zaz zet T.z_range (zg (ze 5 rfl zeq zdA zdB) zo zf) zf) (zl (yy 12 wF.nd rfl znx (zR xp (zR xp (zN (zM (hall 13) rfl) hr Jz T.m13 T.f13.kp (T.b13) (zg (ze 0 rfl Jy vB vC) (zg (zR xp (zR xp (ze 1 rfl Jx Jo Jp) zj) (zR va (zR xp (ze 10 rfl Jw Jm Jn) (zR jP zj (ze 11 rfl Jv Jk Jl))) zj)) zo yH) zf) Zy zf (zw yH zu)) (zR jP (zR jP zj (ze 10 rfl Jw Jm Jn)) (ze 10 rfl Jw Jm Jn))) (zR jP (zR jP zj (ze 11 rfl Jv Jk Jl)) (ze 11 rfl Jv Jk Jl))))
  (zl (xq (IW.t (jo (yN rfl (wM hr.units) (ze 8 rfl zer zdC zdD) zj (yT _)) (jS (yN rfl Qq (zN (zM (hall 14) rfl) hr ZC T.m14 T.f14.kp (T.b14) (zg (ze 12 rfl znw zlB zlC) (zg zj (zg (yc hr.units (vb (zg zj (zg zj (zg zj zo zv) zv) zv)) (zR vK (ze 8 rfl zer zdC zdD) zj) (fun _ _=>rfl)) zo yn) zv) zf) Zx zf (zw zv (zw yn zu))) zj (yT _))))) (zl (Qz 9 rfl qm (yM (zg (zR xp (ze 6 rfl zeo zdw zdx) (ze 10 rfl Jw Jm Jn)) (zg (zR xp (ze 7 rfl zen zdu zdv) (ze 11 rfl Jv Jk Jl)) zo yH) yH)) xj vY vZ)
  zx) zx)
  zx)))
  zx))
  (zl (xq (vc (xK (ze 9 rfl qm vY vZ) (zao _) zai)) (zl (yy 9 wF.nd rfl zes (vb (zg (yM (zg (ze 6 rfl zeo zdw zdx) (zg (ze 7 rfl zen zdu zdv) zo zf) zf)) zo xj)))
  zx) zx)
  (zl (ya (Vc zaf znG T.z_tuple PyProof.Rows.boot_tuple (zg (zhS (ze 9 rfl qm vY vZ) (ze 2 rfl znv zlz zlA)) zo yn) Xc Xb yn zu))
  zx))))))))))
theorem zoy(T:Txt K mg F FD TK)(hall: ∀i,FnOk Pg w K mg base zA n (F i) (FD i) (zk i) (zW K (zn U fuel n) i (yk i)))(cdv:Value)(A:Around)(outer:List PySem.Env)(s:Shared)(H:Hp)(E:XK)
  (hr:Room n (A.deeper (envOfC "_law_most" (zd (za 40)) s.heap.objs.size (F 50) cdv))):
  ISs (yb zA Pg w K mg base ["_law_floor_here","_law_leap_here","_law_known","_law_rest","_law_best","_law_other","_law_left"] "_law_most" (zd (za 40)) (F 50) cdv A outer s H E).nox (zp (zn U fuel n) fuel vj) (zt (za 40)):=
 (zl (xq (vc (xK (ze 0 rfl ZE wn wo) (zao _) zai)) (zl (ya zj)
  zx) zx)
  (zl (xq (yN rfl (vL hr.units) (ze 0 rfl ZE wn wo) (ze 2 rfl Xi Xf Xg) (by with_unfolding_all rfl)) (zl (yy 3 ZD.nd rfl znK (zit (ze 0 rfl ZE wn wo) zj))
  (zl (zaY 4 ZD.nd rfl zev (Yh (hall 50) rfl (by decide) (by decide) hr zew T.m50 T.f50.kp (T.b50) (wx (ze 3 rfl qr kW kX) (wx (ze 1 rfl qq vn vo) (Ye 2 rfl Xi Yd Xf Xg) zf) zf) kY zf (zw zf (zw zf zu))))
  (zl (jq 5 Kz rfl ZD.nd rfl znJ (xL (zN (zM (hall 18) rfl) hr znL T.m18 T.f18.kp (T.b18) (zg (ze 3 rfl qr kW kX) (zg (ze 1 rfl qq vn vo) (zg (yc hr.units (ze 0 rfl ZE wn wo) zj (fun _ _=>rfl)) zo yn) zf) zf) zdL zf (zw zf (zw yn zu)))) (zl (yy 6 ZD.nd rfl znI (Vc zaf znN T.z_tuple PyProof.Rows.boot_tuple (zg (ww rfl (wg (sc:=zd (za 40)) (N:=["_law_floor_here","_law_leap_here","_law_known","_law_rest","_law_best","_law_other","_law_left"]) rfl rfl (by decide+kernel)) (xL (ze 3 rfl qr kW kX)) (.inr ⟨_,rfl,fun _ _ _ _=>(yN rfl (XT hr.units) (ze 0 rfl (yq (by decide+kernel)) xS xT) (ze 6 rfl (yR (by decide+kernel)) Xd Xe) (yT _))⟩) (fun _ _ _ _=>(ze 0 rfl (yq (by decide+kernel)) xS xT))) zo vM) Xc Xb vM zu))
  (zl (zaY 4 ZD.nd rfl zev (zh7 (zad rfl) znM T.z_max PyProof.Rows.boot_max (ze 4 rfl zeu zdJ zdK) (zh6 xp zj (Yh (hall 50) rfl (by decide) (by decide) hr zew T.m50 T.f50.kp (T.b50) (wx (ze 6 rfl znH zlF zlG) (wx (ze 1 rfl qq vn vo) (Ye 2 rfl Xi Yd Xf Xg) zf) zf) kY zf (zw zf (zw zf zu)))) kL kK zf yH))
  zx)))
  (zl (Vs 2 hr.units rfl Xi (ze 0 rfl ZE wn wo) (ze 4 rfl zeu zdJ zdK) Xf Xg)
  zx)))) zx)
  (zl (ya (yc hr.units (ze 2 rfl Xi Xf Xg) (ze 0 rfl ZE wn wo) (fun _ _=>rfl)))
  zx)))
theorem zoz(T:Txt K mg F FD TK)(hall: ∀i,FnOk Pg w K mg base zA n (F i) (FD i) (zk i) (zW K (zn U fuel n) i (yk i)))(cdv:Value)(A:Around)(outer:List PySem.Env)(s:Shared)(H:Hp)(E:XK)
  (hr:Room n (A.deeper (envOfC "law" (zd (za 41)) s.heap.objs.size (F 51) cdv))):
  ISs (yb zA Pg w K mg base ["_law_script","_law_floor_here","_law_leap_here","_law_found","_law_held","_law_pair","_law_cell_here","_law_free"] "law" (zd (za 41)) (F 51) cdv A outer s H E).nox (zp (zn U fuel n) fuel YT) (zt (za 41)):=
 (zl (yy 1 vE.nd rfl znV (zN (zM (hall 49) rfl) hr zn4 T.m49 T.f49.kp (T.b49) (zg (ze 0 rfl qt vB vC) (zg zj (zg (yc hr.units (vb (zg zj (zg zj zo zv) zv)) (zR va (zN (zM (hall 13) rfl) hr zeA T.m13 T.f13.kp (T.b13) (zg (ze 0 rfl qt vB vC) (zg zj zo zv) zf) Zy zf (zw zv zu)) zj) (fun _ _=>rfl)) zo yn) zv) zf) zlK zf (zw zv (zw yn zu))))
  (zl (yy 2 vE.nd rfl znU (zN (zM (hall 16) rfl) hr zn3 T.m16 T.f16.kp (T.b16) (zg (zN (zM (hall 13) rfl) hr zeA T.m13 T.f13.kp (T.b13) (zg (ze 0 rfl qt vB vC) (zg zj zo zv) zf) Zy zf (zw zv zu)) zo yI) zlJ yI zu))
  (zl (yy 3 vE.nd rfl znT (zN (zM (hall 43) rfl) hr zn2 T.m43 T.f43.kp (T.b43) (zg (ze 1 rfl Xj wn wo) (zg (ze 2 rfl JA vn vo) zo zf) zf) zlI zf (zw zf zu)))
  (zl (xq (IW.t (jo (vc (xK (jW (t:=.list) zez T.z_isinstance zey T.z_list PyProof.Rows.boot_list (ze 3 rfl Xk vY vZ) kU kS zf zf (zw zf zu)) (ZX _ _) we)) (jS (yN rfl (XT hr.units) (ze 3 rfl Xk vY vZ) (yY (zi5 (zbH hr)) zn1 T.z_sorted PyProof.Rows.boot_sorted (zg (ze 3 rfl Xk vY vZ) zo zf) zdH zdG zf zu) (yT _))))) (zl (ya wv)
  zx) zx)
  (zl (yy 4 vE.nd rfl zex (vb zo))
  (zl (zaC 5 3 Kz rfl vE.nd rfl znS rfl Xk (zl (xq (IW.t (jo (vc (xK (jW (t:=.tuple) zez T.z_isinstance zn0 T.z_tuple PyProof.Rows.boot_tuple (ze 5 rfl jC jA jB) Xc Xb zf zf (zw zf zu)) (ZX _ _) we)) (jo (yN rfl (XT hr.units) (yY vw Xm T.z_len KJ (zg (ze 5 rfl jC jA jB) zo zf) vA vz zf zu) zj (yT _)) (jS (yN rfl (zhq hr.units) (yc hr.units (ze 5 rfl jC jA jB) zj (fun _ _=>rfl)) (yc hr.units (ze 5 rfl jC jA jB) zj (fun _ _=>rfl)) (yT _)))))) (zl (ya wv)
  zx) zx)
  (zl (xq (vc (xK (zN (zM (hall 17) rfl) hr znZ T.m17 T.f17.kp (T.b17) (zg (ze 2 rfl JA vn vo) (zg (yc hr.units (ze 5 rfl jC jA jB) zj (fun _ _=>rfl)) (zg (yc hr.units (ze 5 rfl jC jA jB) zj (fun _ _=>rfl)) zo yn) yn) zf) zdI zf (zw yn (zw yn zu))) (jp _ _) we)) (zl (ya wv)
  zx) zx)
  (zl (yy 4 vE.nd rfl zex (zR xp (ze 4 rfl Xl Zz ZA) (Vc zae zey T.z_list PyProof.Rows.boot_list (zg (ze 5 rfl jC jA jB) zo zf) kU kS zf zu)))
  zx))) (hd:=vY) (hcd:=vZ))
  (zl (xq (IW.t (jo (yN rfl (XX hr.units) (zi3 rfl (zbH hr) Xm T.z_len znY T.z_set (ze 4 rfl Xl Zz ZA) zf yI) (yY vw Xm T.z_len KJ (zg (ze 4 rfl Xl Zz ZA) zo zf) vA vz zf zu) (yT _)) (jS (xK (ww rfl (wg (sc:=zd (za 41)) (N:=["_law_script","_law_floor_here","_law_leap_here","_law_found","_law_held","_law_pair","_law_cell_here","_law_free"]) rfl rfl (by decide+kernel)) (xL (ze 4 rfl Xl Zz ZA)) (.inr ⟨_,rfl,fun _ _ _ _=>(yN rfl (vL hr.units) (ze 0 rfl (yq (by decide+kernel)) xS xT) (ze 2 rfl (yR (by decide+kernel)) wn wo) (by with_unfolding_all rfl))⟩) (fun _ _ _ _=>(ze 0 rfl (yq (by decide+kernel)) xS xT))) (za1 _ _ _ _) za2)))) (zl (ya wv)
  zx) zx)
  (zl (jq 6 Kz rfl vE.nd rfl znR (xL (zN (zM (hall 44) rfl) hr znX T.m44 T.f44.kp (T.b44) (zg (ze 1 rfl Xj wn wo) (zg (ze 2 rfl JA vn vo) zo zf) zf) zlH zf (zw zf zu))) (zl (xq (yN rfl (XT hr.units) (zi9 hr.units (ze 4 rfl Xl Zz ZA) (ze 6 rfl znP xS xT) zf) zj (yT _)) (zl (ya wv)
  zx) zx)
  zx))
  (zl (yy 7 vE.nd rfl znQ (ww rfl (wg (sc:=zd (za 41)) (N:=["_law_script","_law_floor_here","_law_leap_here","_law_found","_law_held","_law_pair","_law_cell_here","_law_free"]) rfl rfl (by decide+kernel)) (xL (ze 1 rfl Xj wn wo)) (.inr ⟨_,rfl,fun _ _ _ _=>(yN rfl (vL hr.units) (ze 0 rfl (yq (by decide+kernel)) xS xT) (ze 5 rfl (yR (by decide+kernel)) Zz ZA) (by with_unfolding_all rfl))⟩) (fun _ _ _ _=>(ze 0 rfl (yq (by decide+kernel)) xS xT))) (hs:=(zaZ (sc:=zd (za 41)) rfl (by decide+kernel))))
  (zl (xq (xK (ww rfl (wg (sc:=zd (za 41)) (N:=["_law_script","_law_floor_here","_law_leap_here","_law_found","_law_held","_law_pair","_law_cell_here","_law_free"]) rfl rfl (by decide+kernel)) (xL (ze 7 rfl znO zdM zdN)) (.inr ⟨_,rfl,fun _ _ _ _=>(xK (zN (zM (hall 18) rfl) hr (jX (by decide+kernel)) T.m18 T.f18.kp (T.b18) (zg (ze 8 rfl (yR (by decide+kernel)) zdM zdN) (zg (ze 3 rfl (yR (by decide+kernel)) vn vo) (zg (ze 0 rfl (yq (by decide+kernel)) xS xT) zo zf) zf) zf) zdL zf (zw zf (zw zf zu))) (jp _ _) we)⟩) (fun _ _ _ _=>(ze 0 rfl (yq (by decide+kernel)) xS xT))) (za1 _ _ _ _) za2) (zl (ya wv)
  zx) zx)
  (zl (zi7 (vN Qq (yY vw Xm T.z_len KJ (zg (ze 1 rfl Xj wn wo) zo zf) vA vz zf zu) zj (yT _)) (zi6 (wM hr.units) (yY vw Xm T.z_len KJ (zg (ze 3 rfl Xk vY vZ) zo zf) vA vz zf zu) (Yh (hall 50) rfl (by decide) (by decide) hr znW T.m50 T.f50.kp (T.b50) (wx (ze 1 rfl Xj wn wo) (wx (ze 2 rfl JA vn vo) (zaT none Yd) zf) zf) kY zf (zw zf (zw zag zu))) rfl))
  zx)))))))))))
theorem yl(T:Txt K mg F FD TK): ∀n i,FnOk Pg w K mg base zA n (F i) (FD i) (zk i) (zW K (zn U fuel n) i (yk i))
 |0,_=>zhT
 |n+1,0=>ym (F0:=⟨3,3,Yp,[],none⟩) T.f0 zlL rfl rfl rfl rfl (by decide) rfl (zn5 T (yl T n))
 |n+1,1=>ym (F0:=⟨1,1,Yq,[],none⟩) T.f1 zlQ rfl rfl rfl rfl (by decide) rfl (zn6 T (yl T n))
 |n+1,2=>ym (F0:=⟨1,1,Yr,[],none⟩) T.f2 zlU rfl rfl rfl rfl (by decide) rfl (zn7 T (yl T n))
 |n+1,3=>ym (F0:=⟨1,1,Yt,[],none⟩) T.f3 zlW rfl rfl rfl rfl (by decide) rfl (zn8 T (yl T n))
 |n+1,4=>ym (F0:=⟨1,1,Yu,[],none⟩) T.f4 zlZ rfl rfl rfl rfl (by decide) rfl (zn9 T (yl T n))
 |n+1,5=>ym (F0:=⟨1,1,Yv,[],none⟩) T.f5 zl4 rfl rfl rfl rfl (by decide) rfl (zoa T (yl T n))
 |n+1,6=>ym (F0:=⟨1,1,Yw,[],none⟩) T.f6 zmb rfl rfl rfl rfl (by decide) rfl (zob T (yl T n))
 |n+1,7=>ym (F0:=⟨1,1,Yx,[],none⟩) T.f7 zmd rfl rfl rfl rfl (by decide) rfl (zoc T (yl T n))
 |n+1,8=>yZ rfl
 |n+1,9=>ym (F0:=⟨2,2,Yy,[],none⟩) T.f9 zmf rfl rfl rfl rfl (by decide) rfl (zod T (yl T n))
 |n+1,10=>ym (F0:=⟨3,3,Yz,[],none⟩) T.f10 zmi rfl rfl rfl rfl (by decide) rfl (zoe T (yl T n))
 |n+1,11=>ym (F0:=⟨3,3,YA,[],none⟩) T.f11 zml rfl rfl rfl rfl (by decide) rfl (zof T (yl T n))
 |n+1,12=>yZ rfl
 |n+1,13=>ym (F0:=⟨2,2,YB,[],none⟩) T.f13 zmn rfl rfl rfl rfl (by decide) rfl (zog T (yl T n))
 |n+1,14=>ym (F0:=⟨3,3,YC,[],none⟩) T.f14 zmp rfl rfl rfl rfl (by decide) rfl (zoh T (yl T n))
 |n+1,15=>yZ rfl
 |n+1,16=>ym (F0:=⟨1,2,YD,[],none⟩) T.f16 zd1 rfl rfl rfl rfl (by decide) rfl (zoi T (yl T n))
 |n+1,17=>ym (F0:=⟨3,3,YE,[],none⟩) T.f17 zmw rfl rfl rfl rfl (by decide) rfl (zoj T (yl T n))
 |n+1,18=>ym (F0:=⟨3,3,Zh,[],none⟩) T.f18 zmA rfl rfl rfl rfl (by decide) rfl (zok T (yl T n))
 |n+1,19=>yZ rfl
 |n+1,20=>yZ rfl
 |n+1,21=>ym (F0:=⟨1,1,YF,[],none⟩) T.f21 zmC rfl rfl rfl rfl (by decide) rfl (zol T (yl T n))
 |n+1,22=>ym (F0:=⟨1,2,YG,[],none⟩) T.f22 zd5 rfl rfl rfl rfl (by decide) rfl (zom T (yl T n))
 |n+1,23=>ym (F0:=⟨2,5,YH,[],none⟩) T.f23 Jt rfl rfl rfl rfl (by decide) rfl (zon T (yl T n))
 |n+1,24=>ym (F0:=⟨3,3,YI,[],none⟩) T.f24 zmO rfl rfl rfl rfl (by decide) rfl (zoo T (yl T n))
 |n+1,25=>yZ rfl
 |n+1,26=>yZ rfl
 |n+1,27=>yZ rfl
 |n+1,28=>yZ rfl
 |n+1,29=>yZ rfl
 |n+1,30=>yZ rfl
 |n+1,31=>yZ rfl
 |n+1,32=>yZ rfl
 |n+1,33=>yZ rfl
 |n+1,34=>yZ rfl
 |n+1,35=>yZ rfl
 |n+1,36=>yZ rfl
 |n+1,37=>ym (F0:=⟨5,6,Zi,[2,4],none⟩) T.f37 zeb rfl rfl rfl rfl (by decide) rfl (zop T (yl T n))
 |n+1,38=>ym (F0:=⟨2,4,YJ,[],none⟩) T.f38 qe rfl rfl rfl rfl (by decide) rfl (zoq T (yl T n))
 |n+1,39=>ym (F0:=⟨2,2,YK,[],none⟩) T.f39 zmY rfl rfl rfl rfl (by decide) rfl (zor T (yl T n))
 |n+1,40=>ym (F0:=⟨4,10,YM,[],none⟩) T.f40 vD rfl rfl rfl rfl (by decide) rfl (zos T (yl T n))
 |n+1,41=>ym (F0:=⟨4,4,Zj,[],none⟩) T.f41 znc rfl rfl rfl rfl (by decide) rfl (zot T (yl T n))
 |n+1,42=>ym (F0:=⟨3,4,YN,[],none⟩) T.f42 zel rfl rfl rfl rfl (by decide) rfl (zou T (yl T n))
 |n+1,43=>ym (F0:=⟨2,2,YO,[],none⟩) T.f43 znm rfl rfl rfl rfl (by decide) rfl (zov T (yl T n))
 |n+1,44=>ym (F0:=⟨2,2,YQ,[],none⟩) T.f44 znr rfl rfl rfl rfl (by decide) rfl (zow T (yl T n))
 |n+1,45=>yZ rfl
 |n+1,46=>yZ rfl
 |n+1,47=>yZ rfl
 |n+1,48=>yZ rfl
 |n+1,49=>ym (F0:=⟨3,13,YS,[],none⟩) T.f49 wF rfl rfl rfl rfl (by decide) rfl (zox T (yl T n))
 |n+1,50=>ym (F0:=⟨3,7,vj,[2],none⟩) T.f50 ZD rfl rfl rfl rfl (by decide) rfl (zoy T (yl T n))
 |n+1,51=>ym (F0:=⟨1,8,YT,[],none⟩) T.f51 vE rfl rfl rfl rfl (by decide) rfl (zoz T (yl T n))
 |n+1,_+52=>yZ rfl
theorem zoA {h : Heap} (X : K.In h) (G : h.Ns mainGlobals mg) {f0 f1 f2 f3 f4 f5 f6 f7 f9 f10 f11 f13 f14 f16 f17 f18 f21 f22 f23 f24 f37 f38 f39 f40 f41 f42 f43 f44 f49 f50 f51 : Addr} {od0 od1 od2 od3 od4 od5 od6 od7 od9 od10 od11 od13 od14 od16 od17 od18 od21 od22 od23 od24 od37 od38 od39 od40 od41 od42 od43 od44 od49 od50 od51 an0 an1 an2 an3 an4 an5 an6 an7 an9 an10 an11 an13 an14 an16 an17 an18 an21 an22 an23 an24 an37 an38 an39 an40 an41 an42 an43 an44 an49 an50 an51 : Option Addr} {sl0 sl1 sl2 sl3 sl4 sl5 sl6 sl7 sl9 sl10 sl11 sl13 sl14 sl16 sl17 sl18 sl21 sl22 sl23 sl24 sl37 sl38 sl39 sl40 sl41 sl42 sl43 sl44 sl49 sl50 sl51 : Array (Option Value)} {oc0 oc1 oc2 oc3 oc4 oc5 oc6 oc7 oc9 oc10 oc11 oc13 oc14 oc16 oc17 oc18 oc21 oc22 oc23 oc24 oc37 oc38 oc39 oc40 oc41 oc42 oc43 oc44 oc49 oc50 oc51 kV0 kV1 kV2 kV3 kV4 kV5 kV6 kV7 kV9 kV10 kV11 kV13 kV14 kV16 kV17 kV18 kV21 kV22 kV23 kV24 kV37 kV38 kV39 kV40 kV41 kV42 kV43 kV44 kV49 kV50 kV51 dc0 dc1 dc2 dc3 dc4 dc5 dc6 dc7 dc9 dc10 dc11 dc13 dc14 dc16 dc17 dc18 dc21 dc22 dc23 dc24 dc37 dc38 dc39 dc40 dc41 dc42 dc43 dc44 dc49 dc50 dc51 pm0 pm1 pm2 pm3 pm4 pm5 pm6 pm7 pm9 pm10 pm11 pm13 pm14 pm16 pm17 pm18 pm21 pm22 pm23 pm24 pm37 pm38 pm39 pm40 pm41 pm42 pm43 pm44 pm49 pm50 pm51 cd0 cd1 cd2 cd3 cd4 cd5 cd6 cd7 cd9 cd10 cd11 cd13 cd14 cd16 cd17 cd18 cd21 cd22 cd23 cd24 cd37 cd38 cd39 cd40 cd41 cd42 cd43 cd44 cd49 cd50 cd51 ct0 ct1 ct2 ct3 ct4 ct5 ct6 ct7 ct9 ct10 ct11 ct13 ct14 ct16 ct17 ct18 ct21 ct22 ct23 ct24 ct37 ct38 ct39 ct40 ct41 ct42 ct43 ct44 ct49 ct50 ct51 : Value} {t0 t1 t2 : Tok}
    (a0 : PySem.W.nsIn K mainGlobals "is_whole" = some (some (.ref f0))) (l0 : K.lookup f0 = some ⟨oc0, od0, .func (PySem.W.fnOf "is_whole" "is_whole" (zD (za 8)) (zt (za 8)) (zd (za 8)) .none kV0 dc0 pm0 an0 cd0 ct0), sl0⟩) (e0 : PySem.W.codeIn K cd0 "is_whole" = true) (k0 : PySem.W.keepIn K (.ref f0) = true)
    (a1 : PySem.W.nsIn K mainGlobals "is_couple" = some (some (.ref f1))) (l1 : K.lookup f1 = some ⟨oc1, od1, .func (PySem.W.fnOf "is_couple" "is_couple" (zD (za 9)) (zt (za 9)) (zd (za 9)) .none kV1 dc1 pm1 an1 cd1 ct1), sl1⟩) (e1 : PySem.W.codeIn K cd1 "is_couple" = true) (k1 : PySem.W.keepIn K (.ref f1) = true)
    (a2 : PySem.W.nsIn K mainGlobals "is_cell" = some (some (.ref f2))) (l2 : K.lookup f2 = some ⟨oc2, od2, .func (PySem.W.fnOf "is_cell" "is_cell" (zD (za 10)) (zt (za 10)) (zd (za 10)) .none kV2 dc2 pm2 an2 cd2 ct2), sl2⟩) (e2 : PySem.W.codeIn K cd2 "is_cell" = true) (k2 : PySem.W.keepIn K (.ref f2) = true)
    (a3 : PySem.W.nsIn K mainGlobals "is_leap" = some (some (.ref f3))) (l3 : K.lookup f3 = some ⟨oc3, od3, .func (PySem.W.fnOf "is_leap" "is_leap" (zD (za 11)) (zt (za 11)) (zd (za 11)) .none kV3 dc3 pm3 an3 cd3 ct3), sl3⟩) (e3 : PySem.W.codeIn K cd3 "is_leap" = true) (k3 : PySem.W.keepIn K (.ref f3) = true)
    (a4 : PySem.W.nsIn K mainGlobals "is_rising" = some (some (.ref f4))) (l4 : K.lookup f4 = some ⟨oc4, od4, .func (PySem.W.fnOf "is_rising" "is_rising" (zD (za 12)) (zt (za 12)) (zd (za 12)) .none kV4 dc4 pm4 an4 cd4 ct4), sl4⟩) (e4 : PySem.W.codeIn K cd4 "is_rising" = true) (k4 : PySem.W.keepIn K (.ref f4) = true)
    (a5 : PySem.W.nsIn K mainGlobals "is_floor" = some (some (.ref f5))) (l5 : K.lookup f5 = some ⟨oc5, od5, .func (PySem.W.fnOf "is_floor" "is_floor" (zD (za 13)) (zt (za 13)) (zd (za 13)) .none kV5 dc5 pm5 an5 cd5 ct5), sl5⟩) (e5 : PySem.W.codeIn K cd5 "is_floor" = true) (k5 : PySem.W.keepIn K (.ref f5) = true)
    (a6 : PySem.W.nsIn K mainGlobals "checked" = some (some (.ref f6))) (l6 : K.lookup f6 = some ⟨oc6, od6, .func (PySem.W.fnOf "checked" "checked" (zD (za 14)) (zt (za 14)) (zd (za 14)) .none kV6 dc6 pm6 an6 cd6 ct6), sl6⟩) (e6 : PySem.W.codeIn K cd6 "checked" = true) (k6 : PySem.W.keepIn K (.ref f6) = true)
    (a7 : PySem.W.nsIn K mainGlobals "checked_leap" = some (some (.ref f7))) (l7 : K.lookup f7 = some ⟨oc7, od7, .func (PySem.W.fnOf "checked_leap" "checked_leap" (zD (za 15)) (zt (za 15)) (zd (za 15)) .none kV7 dc7 pm7 an7 cd7 ct7), sl7⟩) (e7 : PySem.W.codeIn K cd7 "checked_leap" = true) (k7 : PySem.W.keepIn K (.ref f7) = true)
    (a9 : PySem.W.nsIn K mainGlobals "folded" = some (some (.ref f9))) (l9 : K.lookup f9 = some ⟨oc9, od9, .func (PySem.W.fnOf "folded" "folded" (zD (za 17)) (zt (za 17)) (zd (za 17)) .none kV9 dc9 pm9 an9 cd9 ct9), sl9⟩) (e9 : PySem.W.codeIn K cd9 "folded" = true) (k9 : PySem.W.keepIn K (.ref f9) = true)
    (a10 : PySem.W.nsIn K mainGlobals "are_near" = some (some (.ref f10))) (l10 : K.lookup f10 = some ⟨oc10, od10, .func (PySem.W.fnOf "are_near" "are_near" (zD (za 18)) (zt (za 18)) (zd (za 18)) .none kV10 dc10 pm10 an10 cd10 ct10), sl10⟩) (e10 : PySem.W.codeIn K cd10 "are_near" = true) (k10 : PySem.W.keepIn K (.ref f10) = true)
    (a11 : PySem.W.nsIn K mainGlobals "cells_near" = some (some (.ref f11))) (l11 : K.lookup f11 = some ⟨oc11, od11, .func (PySem.W.fnOf "cells_near" "cells_near" (zD (za 19)) (zt (za 19)) (zd (za 19)) .none kV11 dc11 pm11 an11 cd11 ct11), sl11⟩) (e11 : PySem.W.codeIn K cd11 "cells_near" = true) (k11 : PySem.W.keepIn K (.ref f11) = true)
    (a13 : PySem.W.nsIn K mainGlobals "_law_cell" = some (some (.ref f13))) (l13 : K.lookup f13 = some ⟨oc13, od13, .func (PySem.W.fnOf "_law_cell" "_law_cell" (zD (za 34)) (zt (za 34)) (zd (za 34)) .none kV13 dc13 pm13 an13 cd13 ct13), sl13⟩) (e13 : PySem.W.codeIn K cd13 "_law_cell" = true) (k13 : PySem.W.keepIn K (.ref f13) = true)
    (a14 : PySem.W.nsIn K mainGlobals "_law_mix" = some (some (.ref f14))) (l14 : K.lookup f14 = some ⟨oc14, od14, .func (PySem.W.fnOf "_law_mix" "_law_mix" (zD (za 35)) (zt (za 35)) (zd (za 35)) .none kV14 dc14 pm14 an14 cd14 ct14), sl14⟩) (e14 : PySem.W.codeIn K cd14 "_law_mix" = true) (k14 : PySem.W.keepIn K (.ref f14) = true)
    (a16 : PySem.W.nsIn K mainGlobals "_law_leap" = some (some (.ref f16))) (l16 : K.lookup f16 = some ⟨oc16, od16, .func (PySem.W.fnOf "_law_leap" "_law_leap" (zD (za 37)) (zt (za 37)) (zd (za 37)) .none kV16 dc16 pm16 an16 cd16 ct16), sl16⟩) (e16 : PySem.W.codeIn K cd16 "_law_leap" = true) (k16 : PySem.W.keepIn K (.ref f16) = true)
    (a17 : PySem.W.nsIn K mainGlobals "_law_is_near" = some (some (.ref f17))) (l17 : K.lookup f17 = some ⟨oc17, od17, .func (PySem.W.fnOf "_law_is_near" "_law_is_near" (zD (za 38)) (zt (za 38)) (zd (za 38)) .none kV17 dc17 pm17 an17 cd17 ct17), sl17⟩) (e17 : PySem.W.codeIn K cd17 "_law_is_near" = true) (k17 : PySem.W.keepIn K (.ref f17) = true)
    (a18 : PySem.W.nsIn K mainGlobals "_law_near" = some (some (.ref f18))) (l18 : K.lookup f18 = some ⟨oc18, od18, .func (PySem.W.fnOf "_law_near" "_law_near" (zD (za 39)) (zt (za 39)) (zd (za 39)) .none kV18 dc18 pm18 an18 cd18 ct18), sl18⟩) (e18 : PySem.W.codeIn K cd18 "_law_near" = true) (k18 : PySem.W.keepIn K (.ref f18) = true)
    (a21 : PySem.W.nsIn K mainGlobals "greatest_divisor" = some (some (.ref f21))) (l21 : K.lookup f21 = some ⟨oc21, od21, .func (PySem.W.fnOf "greatest_divisor" "greatest_divisor" (zD (za 20)) (zt (za 20)) (zd (za 20)) .none kV21 dc21 pm21 an21 cd21 ct21), sl21⟩) (e21 : PySem.W.codeIn K cd21 "greatest_divisor" = true) (k21 : PySem.W.keepIn K (.ref f21) = true)
    (a22 : PySem.W.nsIn K mainGlobals "has_odd_sum" = some (some (.ref f22))) (l22 : K.lookup f22 = some ⟨oc22, od22, .func (PySem.W.fnOf "has_odd_sum" "has_odd_sum" (zD (za 21)) (zt (za 21)) (zd (za 21)) .none kV22 dc22 pm22 an22 cd22 ct22), sl22⟩) (e22 : PySem.W.codeIn K cd22 "has_odd_sum" = true) (k22 : PySem.W.keepIn K (.ref f22) = true)
    (a23 : PySem.W.nsIn K mainGlobals "hue_of" = some (some (.ref f23))) (l23 : K.lookup f23 = some ⟨oc23, od23, .func (PySem.W.fnOf "hue_of" "hue_of" (zD (za 22)) (zt (za 22)) (zd (za 22)) .none kV23 dc23 pm23 an23 cd23 ct23), sl23⟩) (e23 : PySem.W.codeIn K cd23 "hue_of" = true) (k23 : PySem.W.keepIn K (.ref f23) = true)
    (a24 : PySem.W.nsIn K mainGlobals "cells_of_hue" = some (some (.ref f24))) (l24 : K.lookup f24 = some ⟨oc24, od24, .func (PySem.W.fnOf "cells_of_hue" "cells_of_hue" (zD (za 23)) (zt (za 23)) (zd (za 23)) .none kV24 dc24 pm24 an24 cd24 ct24), sl24⟩) (e24 : PySem.W.codeIn K cd24 "cells_of_hue" = true) (k24 : PySem.W.keepIn K (.ref f24) = true)
    (a37 : PySem.W.nsIn K mainGlobals "finds_mate" = some (some (.ref f37))) (l37 : K.lookup f37 = some ⟨oc37, od37, .func (PySem.W.fnOf "finds_mate" "finds_mate" (zD (za 25)) (zt (za 25)) (zd (za 25)) .none kV37 dc37 pm37 an37 cd37 ct37), sl37⟩) (e37 : PySem.W.codeIn K cd37 "finds_mate" = true) (k37 : PySem.W.keepIn K (.ref f37) = true)
    (a38 : PySem.W.nsIn K mainGlobals "all_mates" = some (some (.ref f38))) (l38 : K.lookup f38 = some ⟨oc38, od38, .func (PySem.W.fnOf "all_mates" "all_mates" (zD (za 26)) (zt (za 26)) (zd (za 26)) .none kV38 dc38 pm38 an38 cd38 ct38), sl38⟩) (e38 : PySem.W.codeIn K cd38 "all_mates" = true) (k38 : PySem.W.keepIn K (.ref f38) = true)
    (a39 : PySem.W.nsIn K mainGlobals "pairs_of" = some (some (.ref f39))) (l39 : K.lookup f39 = some ⟨oc39, od39, .func (PySem.W.fnOf "pairs_of" "pairs_of" (zD (za 27)) (zt (za 27)) (zd (za 27)) .none kV39 dc39 pm39 an39 cd39 ct39), sl39⟩) (e39 : PySem.W.codeIn K cd39 "pairs_of" = true) (k39 : PySem.W.keepIn K (.ref f39) = true)
    (a40 : PySem.W.nsIn K mainGlobals "crowd_and_around" = some (some (.ref f40))) (l40 : K.lookup f40 = some ⟨oc40, od40, .func (PySem.W.fnOf "crowd_and_around" "crowd_and_around" (zD (za 28)) (zt (za 28)) (zd (za 28)) .none kV40 dc40 pm40 an40 cd40 ct40), sl40⟩) (e40 : PySem.W.codeIn K cd40 "crowd_and_around" = true) (k40 : PySem.W.keepIn K (.ref f40) = true)
    (a41 : PySem.W.nsIn K mainGlobals "is_in_cover" = some (some (.ref f41))) (l41 : K.lookup f41 = some ⟨oc41, od41, .func (PySem.W.fnOf "is_in_cover" "is_in_cover" (zD (za 29)) (zt (za 29)) (zd (za 29)) .none kV41 dc41 pm41 an41 cd41 ct41), sl41⟩) (e41 : PySem.W.codeIn K cd41 "is_in_cover" = true) (k41 : PySem.W.keepIn K (.ref f41) = true)
    (a42 : PySem.W.nsIn K mainGlobals "cells_by_cover" = some (some (.ref f42))) (l42 : K.lookup f42 = some ⟨oc42, od42, .func (PySem.W.fnOf "cells_by_cover" "cells_by_cover" (zD (za 30)) (zt (za 30)) (zd (za 30)) .none kV42 dc42 pm42 an42 cd42 ct42), sl42⟩) (e42 : PySem.W.codeIn K cd42 "cells_by_cover" = true) (k42 : PySem.W.keepIn K (.ref f42) = true)
    (a43 : PySem.W.nsIn K mainGlobals "most_pairs" = some (some (.ref f43))) (l43 : K.lookup f43 = some ⟨oc43, od43, .func (PySem.W.fnOf "most_pairs" "most_pairs" (zD (za 31)) (zt (za 31)) (zd (za 31)) .none kV43 dc43 pm43 an43 cd43 ct43), sl43⟩) (e43 : PySem.W.codeIn K cd43 "most_pairs" = true) (k43 : PySem.W.keepIn K (.ref f43) = true)
    (a44 : PySem.W.nsIn K mainGlobals "cover" = some (some (.ref f44))) (l44 : K.lookup f44 = some ⟨oc44, od44, .func (PySem.W.fnOf "cover" "cover" (zD (za 32)) (zt (za 32)) (zd (za 32)) .none kV44 dc44 pm44 an44 cd44 ct44), sl44⟩) (e44 : PySem.W.codeIn K cd44 "cover" = true) (k44 : PySem.W.keepIn K (.ref f44) = true)
    (a49 : PySem.W.nsIn K mainGlobals "_law_floor" = some (some (.ref f49))) (l49 : K.lookup f49 = some ⟨oc49, od49, .func (PySem.W.fnOf "_law_floor" "_law_floor" (zD (za 36)) (zt (za 36)) (zd (za 36)) .none kV49 dc49 pm49 an49 cd49 ct49), sl49⟩) (e49 : PySem.W.codeIn K cd49 "_law_floor" = true) (k49 : PySem.W.keepIn K (.ref f49) = true)
    (a50 : PySem.W.nsIn K mainGlobals "_law_most" = some (some (.ref f50))) (l50 : K.lookup f50 = some ⟨oc50, od50, .func (PySem.W.fnOf "_law_most" "_law_most" (zD (za 40)) (zt (za 40)) (zd (za 40)) .none kV50 dc50 pm50 an50 cd50 ct50), sl50⟩) (e50 : PySem.W.codeIn K cd50 "_law_most" = true) (k50 : PySem.W.keepIn K (.ref f50) = true)
    (a51 : PySem.W.nsIn K mainGlobals "law" = some (some (.ref f51))) (l51 : K.lookup f51 = some ⟨oc51, od51, .func (PySem.W.fnOf "law" "law" (zD (za 41)) (zt (za 41)) (zd (za 41)) .none kV51 dc51 pm51 an51 cd51 ct51), sl51⟩) (e51 : PySem.W.codeIn K cd51 "law" = true) (k51 : PySem.W.keepIn K (.ref f51) = true)
    (z_isinstance : PySem.W.nsIn K mainGlobals "isinstance" = some none)
    (z_int : PySem.W.nsIn K mainGlobals "int" = some none)
    (z_bool : PySem.W.nsIn K mainGlobals "bool" = some none)
    (z_len : PySem.W.nsIn K mainGlobals "len" = some none)
    (z_tuple : PySem.W.nsIn K mainGlobals "tuple" = some none)
    (z_range : PySem.W.nsIn K mainGlobals "range" = some none)
    (z_all : PySem.W.nsIn K mainGlobals "all" = some none)
    (z_abs : PySem.W.nsIn K mainGlobals "abs" = some none)
    (z_max : PySem.W.nsIn K mainGlobals "max" = some none)
    (z_min : PySem.W.nsIn K mainGlobals "min" = some none)
    (z_sorted : PySem.W.nsIn K mainGlobals "sorted" = some none)
    (z_list : PySem.W.nsIn K mainGlobals "list" = some none)
    (z_set : PySem.W.nsIn K mainGlobals "set" = some none)
    (c0 : PySem.W.nsIn K mainGlobals "LAST_LINE" = some (some (.int 7 t0)))
    (c1 : PySem.W.nsIn K mainGlobals "MOST_CELLS" = some (some (.int 24 t1)))
    (c2 : PySem.W.nsIn K mainGlobals "LONGEST_LEAP" = some (some (.int 4 t2)))
    : ∃ F FD TK, Txt K mg F FD TK ∧ F 51 = f51 ∧ (∀ (s : Shared) (u : Value), BindsTo s (FD 51) ⟨[u], []⟩ [("_law_script", u)]) :=
  ⟨fun i => match i with
     | 1 => f1
     | 2 => f2
     | 3 => f3
     | 4 => f4
     | 5 => f5
     | 6 => f6
     | 7 => f7
     | 9 => f9
     | 10 => f10
     | 11 => f11
     | 13 => f13
     | 14 => f14
     | 16 => f16
     | 17 => f17
     | 18 => f18
     | 21 => f21
     | 22 => f22
     | 23 => f23
     | 24 => f24
     | 37 => f37
     | 38 => f38
     | 39 => f39
     | 40 => f40
     | 41 => f41
     | 42 => f42
     | 43 => f43
     | 44 => f44
     | 49 => f49
     | 50 => f50
     | 51 => f51
     | _ => f0,
   fun i => match i with
     | 1 => PySem.W.fnOf "is_couple" "is_couple" (zD (za 9)) (zt (za 9)) (zd (za 9)) .none kV1 dc1 pm1 an1 cd1 ct1
     | 2 => PySem.W.fnOf "is_cell" "is_cell" (zD (za 10)) (zt (za 10)) (zd (za 10)) .none kV2 dc2 pm2 an2 cd2 ct2
     | 3 => PySem.W.fnOf "is_leap" "is_leap" (zD (za 11)) (zt (za 11)) (zd (za 11)) .none kV3 dc3 pm3 an3 cd3 ct3
     | 4 => PySem.W.fnOf "is_rising" "is_rising" (zD (za 12)) (zt (za 12)) (zd (za 12)) .none kV4 dc4 pm4 an4 cd4 ct4
     | 5 => PySem.W.fnOf "is_floor" "is_floor" (zD (za 13)) (zt (za 13)) (zd (za 13)) .none kV5 dc5 pm5 an5 cd5 ct5
     | 6 => PySem.W.fnOf "checked" "checked" (zD (za 14)) (zt (za 14)) (zd (za 14)) .none kV6 dc6 pm6 an6 cd6 ct6
     | 7 => PySem.W.fnOf "checked_leap" "checked_leap" (zD (za 15)) (zt (za 15)) (zd (za 15)) .none kV7 dc7 pm7 an7 cd7 ct7
     | 9 => PySem.W.fnOf "folded" "folded" (zD (za 17)) (zt (za 17)) (zd (za 17)) .none kV9 dc9 pm9 an9 cd9 ct9
     | 10 => PySem.W.fnOf "are_near" "are_near" (zD (za 18)) (zt (za 18)) (zd (za 18)) .none kV10 dc10 pm10 an10 cd10 ct10
     | 11 => PySem.W.fnOf "cells_near" "cells_near" (zD (za 19)) (zt (za 19)) (zd (za 19)) .none kV11 dc11 pm11 an11 cd11 ct11
     | 13 => PySem.W.fnOf "_law_cell" "_law_cell" (zD (za 34)) (zt (za 34)) (zd (za 34)) .none kV13 dc13 pm13 an13 cd13 ct13
     | 14 => PySem.W.fnOf "_law_mix" "_law_mix" (zD (za 35)) (zt (za 35)) (zd (za 35)) .none kV14 dc14 pm14 an14 cd14 ct14
     | 16 => PySem.W.fnOf "_law_leap" "_law_leap" (zD (za 37)) (zt (za 37)) (zd (za 37)) .none kV16 dc16 pm16 an16 cd16 ct16
     | 17 => PySem.W.fnOf "_law_is_near" "_law_is_near" (zD (za 38)) (zt (za 38)) (zd (za 38)) .none kV17 dc17 pm17 an17 cd17 ct17
     | 18 => PySem.W.fnOf "_law_near" "_law_near" (zD (za 39)) (zt (za 39)) (zd (za 39)) .none kV18 dc18 pm18 an18 cd18 ct18
     | 21 => PySem.W.fnOf "greatest_divisor" "greatest_divisor" (zD (za 20)) (zt (za 20)) (zd (za 20)) .none kV21 dc21 pm21 an21 cd21 ct21
     | 22 => PySem.W.fnOf "has_odd_sum" "has_odd_sum" (zD (za 21)) (zt (za 21)) (zd (za 21)) .none kV22 dc22 pm22 an22 cd22 ct22
     | 23 => PySem.W.fnOf "hue_of" "hue_of" (zD (za 22)) (zt (za 22)) (zd (za 22)) .none kV23 dc23 pm23 an23 cd23 ct23
     | 24 => PySem.W.fnOf "cells_of_hue" "cells_of_hue" (zD (za 23)) (zt (za 23)) (zd (za 23)) .none kV24 dc24 pm24 an24 cd24 ct24
     | 37 => PySem.W.fnOf "finds_mate" "finds_mate" (zD (za 25)) (zt (za 25)) (zd (za 25)) .none kV37 dc37 pm37 an37 cd37 ct37
     | 38 => PySem.W.fnOf "all_mates" "all_mates" (zD (za 26)) (zt (za 26)) (zd (za 26)) .none kV38 dc38 pm38 an38 cd38 ct38
     | 39 => PySem.W.fnOf "pairs_of" "pairs_of" (zD (za 27)) (zt (za 27)) (zd (za 27)) .none kV39 dc39 pm39 an39 cd39 ct39
     | 40 => PySem.W.fnOf "crowd_and_around" "crowd_and_around" (zD (za 28)) (zt (za 28)) (zd (za 28)) .none kV40 dc40 pm40 an40 cd40 ct40
     | 41 => PySem.W.fnOf "is_in_cover" "is_in_cover" (zD (za 29)) (zt (za 29)) (zd (za 29)) .none kV41 dc41 pm41 an41 cd41 ct41
     | 42 => PySem.W.fnOf "cells_by_cover" "cells_by_cover" (zD (za 30)) (zt (za 30)) (zd (za 30)) .none kV42 dc42 pm42 an42 cd42 ct42
     | 43 => PySem.W.fnOf "most_pairs" "most_pairs" (zD (za 31)) (zt (za 31)) (zd (za 31)) .none kV43 dc43 pm43 an43 cd43 ct43
     | 44 => PySem.W.fnOf "cover" "cover" (zD (za 32)) (zt (za 32)) (zd (za 32)) .none kV44 dc44 pm44 an44 cd44 ct44
     | 49 => PySem.W.fnOf "_law_floor" "_law_floor" (zD (za 36)) (zt (za 36)) (zd (za 36)) .none kV49 dc49 pm49 an49 cd49 ct49
     | 50 => PySem.W.fnOf "_law_most" "_law_most" (zD (za 40)) (zt (za 40)) (zd (za 40)) .none kV50 dc50 pm50 an50 cd50 ct50
     | 51 => PySem.W.fnOf "law" "law" (zD (za 41)) (zt (za 41)) (zd (za 41)) .none kV51 dc51 pm51 an51 cd51 ct51
     | _ => PySem.W.fnOf "is_whole" "is_whole" (zD (za 8)) (zt (za 8)) (zd (za 8)) .none kV0 dc0 pm0 an0 cd0 ct0,
   fun i => [t0, t1, t2].getD i 0,
   {
     m0 := Kx X G a0
     f0 := zH (st := za 8) l0 e0 k0
     b0 := (zH (st := za 8) l0 e0 k0).binds (ps := zk 0) fun _ _ _ _ _ _ us hl => wZ (P := fun us => bindArgs _ ⟨us, []⟩ = pure ((zk 0).zip us)) (fun _ _ _ => rfl) us hl
     m1 := Kx X G a1
     f1 := zH (st := za 9) l1 e1 k1
     b1 := (zH (st := za 9) l1 e1 k1).binds (ps := zk 1) fun _ _ _ _ _ _ us hl => wL (P := fun us => bindArgs _ ⟨us, []⟩ = pure ((zk 1).zip us)) (fun _ => rfl) us hl
     m2 := Kx X G a2
     f2 := zH (st := za 10) l2 e2 k2
     b2 := (zH (st := za 10) l2 e2 k2).binds (ps := zk 2) fun _ _ _ _ _ _ us hl => wL (P := fun us => bindArgs _ ⟨us, []⟩ = pure ((zk 2).zip us)) (fun _ => rfl) us hl
     m3 := Kx X G a3
     f3 := zH (st := za 11) l3 e3 k3
     b3 := (zH (st := za 11) l3 e3 k3).binds (ps := zk 3) fun _ _ _ _ _ _ us hl => wL (P := fun us => bindArgs _ ⟨us, []⟩ = pure ((zk 3).zip us)) (fun _ => rfl) us hl
     m4 := Kx X G a4
     f4 := zH (st := za 12) l4 e4 k4
     b4 := (zH (st := za 12) l4 e4 k4).binds (ps := zk 4) fun _ _ _ _ _ _ us hl => wL (P := fun us => bindArgs _ ⟨us, []⟩ = pure ((zk 4).zip us)) (fun _ => rfl) us hl
     m5 := Kx X G a5
     f5 := zH (st := za 13) l5 e5 k5
     b5 := (zH (st := za 13) l5 e5 k5).binds (ps := zk 5) fun _ _ _ _ _ _ us hl => wL (P := fun us => bindArgs _ ⟨us, []⟩ = pure ((zk 5).zip us)) (fun _ => rfl) us hl
     m6 := Kx X G a6
     f6 := zH (st := za 14) l6 e6 k6
     b6 := (zH (st := za 14) l6 e6 k6).binds (ps := zk 6) fun _ _ _ _ _ _ us hl => wL (P := fun us => bindArgs _ ⟨us, []⟩ = pure ((zk 6).zip us)) (fun _ => rfl) us hl
     m7 := Kx X G a7
     f7 := zH (st := za 15) l7 e7 k7
     b7 := (zH (st := za 15) l7 e7 k7).binds (ps := zk 7) fun _ _ _ _ _ _ us hl => wL (P := fun us => bindArgs _ ⟨us, []⟩ = pure ((zk 7).zip us)) (fun _ => rfl) us hl
     m9 := Kx X G a9
     f9 := zH (st := za 17) l9 e9 k9
     b9 := (zH (st := za 17) l9 e9 k9).binds (ps := zk 9) fun _ _ _ _ _ _ us hl => jk (P := fun us => bindArgs _ ⟨us, []⟩ = pure ((zk 9).zip us)) (fun _ _ => rfl) us hl
     m10 := Kx X G a10
     f10 := zH (st := za 18) l10 e10 k10
     b10 := (zH (st := za 18) l10 e10 k10).binds (ps := zk 10) fun _ _ _ _ _ _ us hl => wZ (P := fun us => bindArgs _ ⟨us, []⟩ = pure ((zk 10).zip us)) (fun _ _ _ => rfl) us hl
     m11 := Kx X G a11
     f11 := zH (st := za 19) l11 e11 k11
     b11 := (zH (st := za 19) l11 e11 k11).binds (ps := zk 11) fun _ _ _ _ _ _ us hl => wZ (P := fun us => bindArgs _ ⟨us, []⟩ = pure ((zk 11).zip us)) (fun _ _ _ => rfl) us hl
     m13 := Kx X G a13
     f13 := zH (st := za 34) l13 e13 k13
     b13 := (zH (st := za 34) l13 e13 k13).binds (ps := zk 13) fun _ _ _ _ _ _ us hl => jk (P := fun us => bindArgs _ ⟨us, []⟩ = pure ((zk 13).zip us)) (fun _ _ => rfl) us hl
     m14 := Kx X G a14
     f14 := zH (st := za 35) l14 e14 k14
     b14 := (zH (st := za 35) l14 e14 k14).binds (ps := zk 14) fun _ _ _ _ _ _ us hl => wZ (P := fun us => bindArgs _ ⟨us, []⟩ = pure ((zk 14).zip us)) (fun _ _ _ => rfl) us hl
     m16 := Kx X G a16
     f16 := zH (st := za 37) l16 e16 k16
     b16 := (zH (st := za 37) l16 e16 k16).binds (ps := zk 16) fun _ _ _ _ _ _ us hl => wL (P := fun us => bindArgs _ ⟨us, []⟩ = pure ((zk 16).zip us)) (fun _ => rfl) us hl
     m17 := Kx X G a17
     f17 := zH (st := za 38) l17 e17 k17
     b17 := (zH (st := za 38) l17 e17 k17).binds (ps := zk 17) fun _ _ _ _ _ _ us hl => wZ (P := fun us => bindArgs _ ⟨us, []⟩ = pure ((zk 17).zip us)) (fun _ _ _ => rfl) us hl
     m18 := Kx X G a18
     f18 := zH (st := za 39) l18 e18 k18
     b18 := (zH (st := za 39) l18 e18 k18).binds (ps := zk 18) fun _ _ _ _ _ _ us hl => wZ (P := fun us => bindArgs _ ⟨us, []⟩ = pure ((zk 18).zip us)) (fun _ _ _ => rfl) us hl
     m21 := Kx X G a21
     f21 := zH (st := za 20) l21 e21 k21
     b21 := (zH (st := za 20) l21 e21 k21).binds (ps := zk 21) fun _ _ _ _ _ _ us hl => wL (P := fun us => bindArgs _ ⟨us, []⟩ = pure ((zk 21).zip us)) (fun _ => rfl) us hl
     m22 := Kx X G a22
     f22 := zH (st := za 21) l22 e22 k22
     b22 := (zH (st := za 21) l22 e22 k22).binds (ps := zk 22) fun _ _ _ _ _ _ us hl => wL (P := fun us => bindArgs _ ⟨us, []⟩ = pure ((zk 22).zip us)) (fun _ => rfl) us hl
     m23 := Kx X G a23
     f23 := zH (st := za 22) l23 e23 k23
     b23 := (zH (st := za 22) l23 e23 k23).binds (ps := zk 23) fun _ _ _ _ _ _ us hl => jk (P := fun us => bindArgs _ ⟨us, []⟩ = pure ((zk 23).zip us)) (fun _ _ => rfl) us hl
     m24 := Kx X G a24
     f24 := zH (st := za 23) l24 e24 k24
     b24 := (zH (st := za 23) l24 e24 k24).binds (ps := zk 24) fun _ _ _ _ _ _ us hl => wZ (P := fun us => bindArgs _ ⟨us, []⟩ = pure ((zk 24).zip us)) (fun _ _ _ => rfl) us hl
     m37 := Kx X G a37
     f37 := zH (st := za 25) l37 e37 k37
     b37 := (zH (st := za 25) l37 e37 k37).binds (ps := zk 37) fun _ _ _ _ _ _ us hl => zhe (P := fun us => bindArgs _ ⟨us, []⟩ = pure ((zk 37).zip us)) (fun _ _ _ _ _ => rfl) us hl
     m38 := Kx X G a38
     f38 := zH (st := za 26) l38 e38 k38
     b38 := (zH (st := za 26) l38 e38 k38).binds (ps := zk 38) fun _ _ _ _ _ _ us hl => jk (P := fun us => bindArgs _ ⟨us, []⟩ = pure ((zk 38).zip us)) (fun _ _ => rfl) us hl
     m39 := Kx X G a39
     f39 := zH (st := za 27) l39 e39 k39
     b39 := (zH (st := za 27) l39 e39 k39).binds (ps := zk 39) fun _ _ _ _ _ _ us hl => jk (P := fun us => bindArgs _ ⟨us, []⟩ = pure ((zk 39).zip us)) (fun _ _ => rfl) us hl
     m40 := Kx X G a40
     f40 := zH (st := za 28) l40 e40 k40
     b40 := (zH (st := za 28) l40 e40 k40).binds (ps := zk 40) fun _ _ _ _ _ _ us hl => gT (P := fun us => bindArgs _ ⟨us, []⟩ = pure ((zk 40).zip us)) (fun _ _ _ _ => rfl) us hl
     m41 := Kx X G a41
     f41 := zH (st := za 29) l41 e41 k41
     b41 := (zH (st := za 29) l41 e41 k41).binds (ps := zk 41) fun _ _ _ _ _ _ us hl => gT (P := fun us => bindArgs _ ⟨us, []⟩ = pure ((zk 41).zip us)) (fun _ _ _ _ => rfl) us hl
     m42 := Kx X G a42
     f42 := zH (st := za 30) l42 e42 k42
     b42 := (zH (st := za 30) l42 e42 k42).binds (ps := zk 42) fun _ _ _ _ _ _ us hl => wZ (P := fun us => bindArgs _ ⟨us, []⟩ = pure ((zk 42).zip us)) (fun _ _ _ => rfl) us hl
     m43 := Kx X G a43
     f43 := zH (st := za 31) l43 e43 k43
     b43 := (zH (st := za 31) l43 e43 k43).binds (ps := zk 43) fun _ _ _ _ _ _ us hl => jk (P := fun us => bindArgs _ ⟨us, []⟩ = pure ((zk 43).zip us)) (fun _ _ => rfl) us hl
     m44 := Kx X G a44
     f44 := zH (st := za 32) l44 e44 k44
     b44 := (zH (st := za 32) l44 e44 k44).binds (ps := zk 44) fun _ _ _ _ _ _ us hl => jk (P := fun us => bindArgs _ ⟨us, []⟩ = pure ((zk 44).zip us)) (fun _ _ => rfl) us hl
     m49 := Kx X G a49
     f49 := zH (st := za 36) l49 e49 k49
     b49 := (zH (st := za 36) l49 e49 k49).binds (ps := zk 49) fun _ _ _ _ _ _ us hl => wZ (P := fun us => bindArgs _ ⟨us, []⟩ = pure ((zk 49).zip us)) (fun _ _ _ => rfl) us hl
     m50 := Kx X G a50
     f50 := zH (st := za 40) l50 e50 k50
     b50 := (zH (st := za 40) l50 e50 k50).binds (ps := zk 50) fun _ _ _ _ _ _ us hl => wZ (P := fun us => bindArgs _ ⟨us, []⟩ = pure ((zk 50).zip us)) (fun _ _ _ => rfl) us hl
     m51 := Kx X G a51
     f51 := zH (st := za 41) l51 e51 k51
     b51 := (zH (st := za 41) l51 e51 k51).binds (ps := zk 51) fun _ _ _ _ _ _ us hl => wL (P := fun us => bindArgs _ ⟨us, []⟩ = pure ((zk 51).zip us)) (fun _ => rfl) us hl
     z_isinstance := Ky X G z_isinstance
     z_int := Ky X G z_int
     z_bool := Ky X G z_bool
     z_len := Ky X G z_len
     z_tuple := Ky X G z_tuple
     z_range := Ky X G z_range
     z_all := Ky X G z_all
     z_abs := Ky X G z_abs
     z_max := Ky X G z_max
     z_min := Ky X G z_min
     z_sorted := Ky X G z_sorted
     z_list := Ky X G z_list
     z_set := Ky X G z_set
     c0 := Kx X G c0
     c1 := Kx X G c1
     c2 := Kx X G c2
   }, rfl, fun s u => .of_eq rfl⟩
end
end LK
namespace LK
open PySem PySem.W L2
noncomputable def en(P:Params)(x:Str)(t:Nat)(v:Value):DictEntry:=⟨PyData.keyHash P x,.str x t,v⟩
noncomputable def fo(i:Nat)(x m:Str)(t c:Nat):Obj:=⟨.type "function",none,.func (fnOf x x (zD (za i)) (zt (za i)) (zd (za i)) .none .none .none (.str m t) none (.ref c) .none), #[]⟩
noncomputable def co(x:Str)(t l a r h:Nat):Obj:=⟨.type "code",none,.fields #[.str x t,.str x (t+1),.str "/claim/cut.py" (t+2),.int l 0,.int a 0,.int 0 0,.int 0 0,.int 3 0,.ref r,.bool true,.int 181 0,.ref (r+1),.none,.ref (r+2),.ref (r+3),.ref (r+4),.int h 0,.int l 0,.str "/claim/cut.py" (h+1)], #[]⟩
noncomputable def cn(x:Str)(t l a r h:Nat):Obj:=⟨.type "code",none,.fields #[.str x t,.str x (t+1),.str "/claim/cut.py" (t+2),.int l 0,.int a 0,.int 0 0,.int 0 0,.int 3 0,.ref r,.bool true,.int 181 0,.ref (r+1),.none,.none,.none,.ref (r+2),.int h 0,.int l 0,.str "/claim/cut.py" (h+1)], #[]⟩
noncomputable def HK(P:Params):Frag:=[(3,.mk (.type "dict") none (.dict #[en P "__name__" 165 (.str "law_leaperwalk_k12_most_pairs" 427),en P "__doc__" 166 .none,en P "__package__" 167 .none,en P "__loader__" 168 (.builtin "__main__.__loader__#opaque"),en P "__spec__" 169 .none,en P "__annotations__" 170 (.ref 6),en P "__builtins__" 171 (.ref 4),en P "__file__" 173 (.str "/claim/cut.py" 172),en P "__cached__" 174 .none,en P "LeapError" 206 (.ref 24),en P "BadFloor" 222 (.ref 37),en P "BadLeap" 238 (.ref 49),en P "LAST_LINE" 242 (.int 7 241),en P "MOST_CELLS" 244 (.int 24 243),en P "LONGEST_LEAP" 246 (.int 4 245),en P "is_whole" 255 (.ref 58),en P "is_couple" 262 (.ref 65),en P "is_cell" 269 (.ref 72),en P "is_leap" 276 (.ref 79),en P "is_rising" 282 (.ref 84),en P "is_floor" 288 (.ref 89),en P "checked" 295 (.ref 96),en P "checked_leap" 302 (.ref 103),en P "folded" 312 (.ref 110),en P "are_near" 321 (.ref 117),en P "cells_near" 327 (.ref 122),en P "greatest_divisor" 333 (.ref 127),en P "has_odd_sum" 341 (.ref 134),en P "hue_of" 352 (.ref 141),en P "cells_of_hue" 358 (.ref 146),en P "finds_mate" 372 (.ref 153),en P "all_mates" 382 (.ref 160),en P "pairs_of" 388 (.ref 165),en P "crowd_and_around" 394 (.ref 170),en P "is_in_cover" 404 (.ref 177),en P "cells_by_cover" 410 (.ref 182),en P "most_pairs" 418 (.ref 189),en P "cover" 426 (.ref 196),en P "_law_cell" 436 (.ref 203),en P "_law_mix" 445 (.ref 210),en P "_law_floor" 464 (.ref 217),en P "_law_leap" 472 (.ref 224),en P "_law_is_near" 481 (.ref 231),en P "_law_near" 487 (.ref 236),en P "_law_most" 493 (.ref 241),en P "law" 499 (.ref 246)] 46) #[]),
 (57,co "is_whole" 247 12 3 52 253),
 (58,fo 8 "is_whole" "leaperwalk.floors" 239 57),
 (64,co "is_couple" 256 16 1 59 260),
 (65,fo 9 "is_couple" "leaperwalk.floors" 239 64),
 (71,co "is_cell" 263 18 1 66 267),
 (72,fo 10 "is_cell" "leaperwalk.floors" 239 71),
 (78,co "is_leap" 270 20 1 73 274),
 (79,fo 11 "is_leap" "leaperwalk.floors" 239 78),
 (83,cn "is_rising" 277 22 1 80 280),
 (84,fo 12 "is_rising" "leaperwalk.floors" 239 83),
 (88,cn "is_floor" 283 24 1 85 286),
 (89,fo 13 "is_floor" "leaperwalk.floors" 239 88),
 (95,co "checked" 289 28 1 90 293),
 (96,fo 14 "checked" "leaperwalk.floors" 239 95),
 (102,co "checked_leap" 296 32 1 97 300),
 (103,fo 15 "checked_leap" "leaperwalk.floors" 239 102),
 (109,co "folded" 305 37 2 104 310),
 (110,fo 17 "folded" "leaperwalk.leaps" 303 109),
 (116,co "are_near" 313 39 3 111 319),
 (117,fo 18 "are_near" "leaperwalk.leaps" 303 116),
 (121,cn "cells_near" 322 41 3 118 325),
 (122,fo 19 "cells_near" "leaperwalk.leaps" 303 121),
 (126,cn "greatest_divisor" 328 43 1 123 331),
 (127,fo 20 "greatest_divisor" "leaperwalk.leaps" 303 126),
 (133,co "has_odd_sum" 334 45 1 128 339),
 (134,fo 21 "has_odd_sum" "leaperwalk.leaps" 303 133),
 (140,co "hue_of" 342 48 2 135 350),
 (141,fo 22 "hue_of" "leaperwalk.leaps" 303 140),
 (145,cn "cells_of_hue" 353 55 3 142 356),
 (146,fo 23 "cells_of_hue" "leaperwalk.leaps" 303 145),
 (152,co "finds_mate" 361 58 5 147 370),
 (153,fo 25 "finds_mate" "leaperwalk.pairs" 359 152),
 (159,co "all_mates" 373 67 2 154 380),
 (160,fo 26 "all_mates" "leaperwalk.pairs" 359 159),
 (164,cn "pairs_of" 383 72 2 161 386),
 (165,fo 27 "pairs_of" "leaperwalk.pairs" 359 164),
 (169,cn "crowd_and_around" 389 74 4 166 392),
 (170,fo 28 "crowd_and_around" "leaperwalk.pairs" 359 169),
 (176,co "is_in_cover" 395 88 4 171 402),
 (177,fo 29 "is_in_cover" "leaperwalk.pairs" 359 176),
 (181,cn "cells_by_cover" 405 92 3 178 408),
 (182,fo 30 "cells_by_cover" "leaperwalk.pairs" 359 181),
 (188,co "most_pairs" 411 97 2 183 416),
 (189,fo 31 "most_pairs" "leaperwalk.pairs" 359 188),
 (195,co "cover" 419 101 2 190 424),
 (196,fo 32 "cover" "leaperwalk.pairs" 359 195),
 (202,co "_law_cell" 429 104 2 197 434),
 (203,fo 34 "_law_cell" "law_leaperwalk_k12_most_pairs" 427 202),
 (209,co "_law_mix" 437 108 3 204 443),
 (210,fo 35 "_law_mix" "law_leaperwalk_k12_most_pairs" 427 209),
 (216,co "_law_floor" 446 110 3 211 462),
 (217,fo 36 "_law_floor" "law_leaperwalk_k12_most_pairs" 427 216),
 (223,co "_law_leap" 465 126 1 218 470),
 (224,fo 37 "_law_leap" "law_leaperwalk_k12_most_pairs" 427 223),
 (230,co "_law_is_near" 473 129 3 225 479),
 (231,fo 38 "_law_is_near" "law_leaperwalk_k12_most_pairs" 427 230),
 (235,cn "_law_near" 482 131 3 232 485),
 (236,fo 39 "_law_near" "law_leaperwalk_k12_most_pairs" 427 235),
 (240,cn "_law_most" 488 133 3 237 491),
 (241,fo 40 "_law_most" "law_leaperwalk_k12_most_pairs" 427 240),
 (245,cn "law" 494 144 1 242 497),
 (246,fo 41 "law" "law_leaperwalk_k12_most_pairs" 427 245)]
noncomputable def HA:List Addr:=[3,57,58,64,65,71,72,78,79,83,84,88,89,95,96,102,103,109,110,116,117,121,122,126,127,133,134,140,141,145,146,152,153,159,160,164,165,169,170,176,177,181,182,188,189,195,196,202,203,209,210,216,217,223,224,230,231,235,236,240,241,245,246]
noncomputable def HQ:Program:=view PySem.Challenge.pw_leaperwalk_k12_most_pairs [1,2,3,5,6,7,8,9,10,11,12,13,14,15,17,18,19,20,21,22,23,25,26,27,28,29,30,31,32,34,35,36,37,38,39,40,41]
theorem zoB: ∀P,HA=(HK P).map (·.1):=fun P=>by kernel_rfl
noncomputable def HH:Hook:=kHook HK HA zoB
set_option maxHeartbeats 0 in
theorem zoC:LeftO PySem.Challenge.pw_leaperwalk_k12_most_pairs HQ [] (fun s=>xlAt HQ [] s&&recOk (RowW.records (OpenRow.toRowW (OpenLaw.row PySem.Challenge.rw_leaperwalk_k12_most_pairs))) s) HH.obs HH.val 3308:=by
 intro w
 kernel_rfl
end LK
open PySem PySem.W PyProof.Rows
set_option maxRecDepth 100000 in
set_option maxHeartbeats 0 in
theorem PySem.Challenge.cw_leaperwalk_k12_most_pairs_holds : PySem.Challenge.rw_leaperwalk_k12_most_pairs.Holds := by
 w_on;o_law
 refine PySem.W.holds_open (XP:=XL LK.HQ []) LK.zoC (Hook.of LK.HH) (Hook.keeps LK.HH) (fun s e=>xl_of s (Bool.and_eq_true_iff.mp e).1) XL.keeps (by rfl) (by rfl) (by rfl) (fun s e=>recFacts_of (Bool.and_eq_true_iff.mp e).2) (by rfl) (by assumption) (by decide+kernel) ⟨rfl,rfl,rfl,rfl,rfl,by decide+kernel⟩ ?hw ?hc
 case hw=>w_witness2
 refine L2.zgL (K:=LK.HK) (l:=PySem.Challenge.rw_leaperwalk_k12_most_pairs) (n:=63) (k:=LK.depth) (x:="_law_script") (CX:=L2.zA) (sp:=fun K=>L2.LW.zW K (L2.LW.zn LK.U LK.zr LK.depth) 51 []) rfl (by decide) rfl ⟨rfl,by decide,by decide⟩ (fun w h Y=>Y) ?F ?S ?C
 case F=>
  intro w mg fa h KX G hmg;have l0:List.lookup 58 (LK.HK w.params)=some (LK.fo 8 "is_whole" "leaperwalk.floors" 239 57):=by kernel_rfl
  have l1:List.lookup 65 (LK.HK w.params)=some (LK.fo 9 "is_couple" "leaperwalk.floors" 239 64):=by kernel_rfl
  have l2:List.lookup 72 (LK.HK w.params)=some (LK.fo 10 "is_cell" "leaperwalk.floors" 239 71):=by kernel_rfl
  have l3:List.lookup 79 (LK.HK w.params)=some (LK.fo 11 "is_leap" "leaperwalk.floors" 239 78):=by kernel_rfl
  have l4:List.lookup 84 (LK.HK w.params)=some (LK.fo 12 "is_rising" "leaperwalk.floors" 239 83):=by kernel_rfl
  have l5:List.lookup 89 (LK.HK w.params)=some (LK.fo 13 "is_floor" "leaperwalk.floors" 239 88):=by kernel_rfl
  have l6:List.lookup 96 (LK.HK w.params)=some (LK.fo 14 "checked" "leaperwalk.floors" 239 95):=by kernel_rfl
  have l7:List.lookup 103 (LK.HK w.params)=some (LK.fo 15 "checked_leap" "leaperwalk.floors" 239 102):=by kernel_rfl
  have l9:List.lookup 110 (LK.HK w.params)=some (LK.fo 17 "folded" "leaperwalk.leaps" 303 109):=by kernel_rfl
  have l10:List.lookup 117 (LK.HK w.params)=some (LK.fo 18 "are_near" "leaperwalk.leaps" 303 116):=by kernel_rfl
  have l11:List.lookup 122 (LK.HK w.params)=some (LK.fo 19 "cells_near" "leaperwalk.leaps" 303 121):=by kernel_rfl
  have l13:List.lookup 203 (LK.HK w.params)=some (LK.fo 34 "_law_cell" "law_leaperwalk_k12_most_pairs" 427 202):=by kernel_rfl
  have l14:List.lookup 210 (LK.HK w.params)=some (LK.fo 35 "_law_mix" "law_leaperwalk_k12_most_pairs" 427 209):=by kernel_rfl
  have l16:List.lookup 224 (LK.HK w.params)=some (LK.fo 37 "_law_leap" "law_leaperwalk_k12_most_pairs" 427 223):=by kernel_rfl
  have l17:List.lookup 231 (LK.HK w.params)=some (LK.fo 38 "_law_is_near" "law_leaperwalk_k12_most_pairs" 427 230):=by kernel_rfl
  have l18:List.lookup 236 (LK.HK w.params)=some (LK.fo 39 "_law_near" "law_leaperwalk_k12_most_pairs" 427 235):=by kernel_rfl
  have l21:List.lookup 127 (LK.HK w.params)=some (LK.fo 20 "greatest_divisor" "leaperwalk.leaps" 303 126):=by kernel_rfl
  have l22:List.lookup 134 (LK.HK w.params)=some (LK.fo 21 "has_odd_sum" "leaperwalk.leaps" 303 133):=by kernel_rfl
  have l23:List.lookup 141 (LK.HK w.params)=some (LK.fo 22 "hue_of" "leaperwalk.leaps" 303 140):=by kernel_rfl
  have l24:List.lookup 146 (LK.HK w.params)=some (LK.fo 23 "cells_of_hue" "leaperwalk.leaps" 303 145):=by kernel_rfl
  have l37:List.lookup 153 (LK.HK w.params)=some (LK.fo 25 "finds_mate" "leaperwalk.pairs" 359 152):=by kernel_rfl
  have l38:List.lookup 160 (LK.HK w.params)=some (LK.fo 26 "all_mates" "leaperwalk.pairs" 359 159):=by kernel_rfl
  have l39:List.lookup 165 (LK.HK w.params)=some (LK.fo 27 "pairs_of" "leaperwalk.pairs" 359 164):=by kernel_rfl
  have l40:List.lookup 170 (LK.HK w.params)=some (LK.fo 28 "crowd_and_around" "leaperwalk.pairs" 359 169):=by kernel_rfl
  have l41:List.lookup 177 (LK.HK w.params)=some (LK.fo 29 "is_in_cover" "leaperwalk.pairs" 359 176):=by kernel_rfl
  have l42:List.lookup 182 (LK.HK w.params)=some (LK.fo 30 "cells_by_cover" "leaperwalk.pairs" 359 181):=by kernel_rfl
  have l43:List.lookup 189 (LK.HK w.params)=some (LK.fo 31 "most_pairs" "leaperwalk.pairs" 359 188):=by kernel_rfl
  have l44:List.lookup 196 (LK.HK w.params)=some (LK.fo 32 "cover" "leaperwalk.pairs" 359 195):=by kernel_rfl
  have l49:List.lookup 217 (LK.HK w.params)=some (LK.fo 36 "_law_floor" "law_leaperwalk_k12_most_pairs" 427 216):=by kernel_rfl
  have l50:List.lookup 241 (LK.HK w.params)=some (LK.fo 40 "_law_most" "law_leaperwalk_k12_most_pairs" 427 240):=by kernel_rfl
  have l51:List.lookup 246 (LK.HK w.params)=some (LK.fo 41 "law" "law_leaperwalk_k12_most_pairs" 427 245):=by kernel_rfl
  obtain⟨F,FD,TK,T,e0,hb⟩:=LK.zoA (t0:=241) (t1:=243) (t2:=245) KX G (by kernel_rfl) l0 (by kernel_rfl) (by kernel_rfl) (by kernel_rfl) l1 (by kernel_rfl) (by kernel_rfl) (by kernel_rfl) l2 (by kernel_rfl) (by kernel_rfl) (by kernel_rfl) l3 (by kernel_rfl) (by kernel_rfl) (by kernel_rfl) l4 (by kernel_rfl) (by kernel_rfl) (by kernel_rfl) l5 (by kernel_rfl) (by kernel_rfl) (by kernel_rfl) l6 (by kernel_rfl) (by kernel_rfl) (by kernel_rfl) l7 (by kernel_rfl) (by kernel_rfl) (by kernel_rfl) l9 (by kernel_rfl) (by kernel_rfl) (by kernel_rfl) l10 (by kernel_rfl) (by kernel_rfl) (by kernel_rfl) l11 (by kernel_rfl) (by kernel_rfl) (by kernel_rfl) l13 (by kernel_rfl) (by kernel_rfl) (by kernel_rfl) l14 (by kernel_rfl) (by kernel_rfl) (by kernel_rfl) l16 (by kernel_rfl) (by kernel_rfl) (by kernel_rfl) l17 (by kernel_rfl) (by kernel_rfl) (by kernel_rfl) l18 (by kernel_rfl) (by kernel_rfl) (by kernel_rfl) l21 (by kernel_rfl) (by kernel_rfl) (by kernel_rfl) l22 (by kernel_rfl) (by kernel_rfl) (by kernel_rfl) l23 (by kernel_rfl) (by kernel_rfl) (by kernel_rfl) l24 (by kernel_rfl) (by kernel_rfl) (by kernel_rfl) l37 (by kernel_rfl) (by kernel_rfl) (by kernel_rfl) l38 (by kernel_rfl) (by kernel_rfl) (by kernel_rfl) l39 (by kernel_rfl) (by kernel_rfl) (by kernel_rfl) l40 (by kernel_rfl) (by kernel_rfl) (by kernel_rfl) l41 (by kernel_rfl) (by kernel_rfl) (by kernel_rfl) l42 (by kernel_rfl) (by kernel_rfl) (by kernel_rfl) l43 (by kernel_rfl) (by kernel_rfl) (by kernel_rfl) l44 (by kernel_rfl) (by kernel_rfl) (by kernel_rfl) l49 (by kernel_rfl) (by kernel_rfl) (by kernel_rfl) l50 (by kernel_rfl) (by kernel_rfl) (by kernel_rfl) l51 (by kernel_rfl) (by kernel_rfl) (by kernel_rfl) (by kernel_rfl) (by kernel_rfl) (by kernel_rfl) (by kernel_rfl) (by kernel_rfl) (by kernel_rfl) (by kernel_rfl) (by kernel_rfl) (by kernel_rfl) (by kernel_rfl) (by kernel_rfl) (by kernel_rfl) (by kernel_rfl) (by kernel_rfl) (by kernel_rfl);have e1:=hmg.symm.trans T.m51;cases e1;exact⟨_,hb,fun base _ _=>LK.yl T LK.depth 51⟩
 case S=>exact fun K H a ns hl _ hS=>L2.LW.zhU (LK.zk1 ns hl) hS
 case C=>exact fun _ _ _ _ z=>z
