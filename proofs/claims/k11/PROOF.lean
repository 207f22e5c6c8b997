import PyProof.Rows.All
import Wide.All
import OpenK.AllK
import Wide.FinOn
import Lean
import PyProof.EqAt
import PyProof.EqKinds
import PyProof.TupleCall
import PyProof.SeqI3
import KE.KTupSum
import KE.LcSums
import KE.KDictSum
import KE.KTryMore
import PyProof.ExcBaseAll.ValueError
import OpenK.KOwn
import KE.RegKTryMore
import KE.RegKIsAll
import PyProof.ListMulRoad
import PyProof.Draws
import PyProof.EnumStmt
import PyProof.EnumMake
import PyProof.StrLawsTight
import PyProof.StrLawsChain
import PyProof.Rows.StrNews
import PyProof.Rows.StrJoin2
import PyProof.Rows.EnumRows
import PyProof.FString
import KE.KRevIter
import PySem.Challenge.RW_leaperwalk_k11_whole_why_no_walk
set_option Elab.async false
set_option linter.all false
set_option maxRecDepth 100000
section
open PySem PySem.Spec PySem.W PySem.Calls PyProof.Rows
abbrev Ka:=PySem.W.Frag
abbrev Kb:=@wpAny_bind
abbrev Kc:=@wpAny_pure
abbrev Kd:=@wpAny_mono
abbrev Ke:=@List.mem_cons_self
abbrev Kf:=@List.mem_cons_of_mem
abbrev Kg:=@Nat.le_trans
abbrev Kh:=@Nat.ne_of_lt
abbrev Ki:=@Nat.lt_of_lt_of_le
abbrev Kj:=@Nat.le_succ
abbrev Kk:=@Heap.lt_size
abbrev Kl:=@Heap.get?_push_of_some
abbrev Km:=@Bool.false_ne_true
abbrev Kn:=@Option.some.inj
abbrev Ko:=@List.mem_append_right
abbrev Kp:=@List.mem_append_left
abbrev Kt:=@List.getElem_mem
abbrev Ku:=@List.filter_sublist
abbrev Kv:=@PySem.W.mg_of
abbrev Kw:=@PySem.W.mg_none_of
abbrev Kx:=@PassesOwn.never
abbrev Ky:=@List.mem_of_getElem?
abbrev Kz:=@List.mem_of_getLast?
abbrev KB:=@List.length_filter_le
abbrev KC:=@absurd
abbrev KD:=@Nat.lt_succ_of_lt
abbrev KF:=@PySem.boot_len
abbrev KH:=@decide_eq_false
abbrev KJ:=@Nat.pow_le_pow_right
abbrev KL:=@List.take_of_length_le
end
theorem jo1{a b:Type}{x:Option a}{f:a->Option b}{y:b}:x.bind f=some y↔∃z,x=some z/\f z=some y:=Option.bind_eq_some_iff
theorem jo2{a b:Type}{x:Option a}{f:a->b}{y:b}:x.map f=some y↔∃z,x=some z/\f z=y:=Option.map_eq_some_iff
set_option Elab.async false
set_option maxRecDepth 100000
namespace L2
open PySem PySem.Spec PyProof.Rows
noncomputable abbrev zy:=Sum Int Str
noncomputable def ZW:zy->Value->Bool
 | .inl k,v=>Value.isInt k v
 | .inr x,v=>Value.isStrOf x v
noncomputable def zhP(w:World):zy->Int
 | .inl k=>hashInt k
 | .inr x=>hashStr w x
theorem vF: ∀{k:zy} {v:Value},ZW k v=true->(∃i t,k=Sum.inl i/\v=Value.int i t)\/(∃x t,k=Sum.inr x/\v=Value.str x t)
 | .inl i,v,h=>by
  obtain⟨t,e⟩:=Value.isInt_shape (k:=i) (v:=v) h;exact .inl ⟨i,t,rfl,e⟩
 | .inr x,v,h=>by
  obtain⟨t,e⟩:=Value.isStrOf_shape (x:=x) (v:=v) h;exact .inr ⟨x,t,rfl,e⟩
theorem zhQ(i:Int)(t:Tok):ZW (.inl i) (.int i t)=true:=by simp[ZW,Value.isInt]
theorem zhR(x:Str)(t:Tok):ZW (.inr x) (.str x t)=true:=by simp[ZW,Value.isStrOf]
theorem zhS(a b:Int):decide ((Sum.inl a:zy)=Sum.inl b)=(a==b):=by
 by_cases e:a=b
 ·subst e;simp
 ·have h: ¬(Sum.inl a:zy)=Sum.inl b:=fun q=>e (Sum.inl.inj q)
  rw[KH h];exact (beq_eq_false_iff_ne.mpr e).symm
theorem zhT(a b:Str):decide ((Sum.inr a:zy)=Sum.inr b)=decide (a=b):=by
 by_cases e:a=b
 ·subst e;simp
 ·have h: ¬(Sum.inr a:zy)=Sum.inr b:=fun q=>e (Sum.inr.inj q)
  rw[KH h,KH e]
theorem zhU(a:Int)(b:Str):decide ((Sum.inl a:zy)=Sum.inr b)=false:=KH (fun q=>nomatch q)
theorem zhV(a:Str)(b:Int):decide ((Sum.inr a:zy)=Sum.inl b)=false:=KH (fun q=>nomatch q)
noncomputable def zT(prog:Program)(w:World):PySem.KeyKind prog w zy where
 is:=ZW
 hash:=zhP w
 inj:=fun v a b ha hb=>by
  rcases vF ha with ⟨i,t,rfl,rfl⟩|⟨x,t,rfl,rfl⟩
  ·rcases vF hb with ⟨j,u,rfl,e⟩|⟨y,u,rfl,e⟩
   ·injection e with e1 _;rw[e1]
   ·exact nomatch e
  ·rcases vF hb with ⟨j,u,rfl,e⟩|⟨y,u,rfl,e⟩
   ·exact nomatch e
   ·injection e with e1 _;rw[e1]
 byValue:=fun k v h=>by
  rcases vF h with ⟨i,t,rfl,rfl⟩|⟨x,t,rfl,rfl⟩<;>rfl
 pyHash:=fun hv h=>by
  rcases vF hv with ⟨i,t,rfl,rfl⟩|⟨x,t,rfl,rfl⟩
  ·exact wpAny_pyHash_int h
  ·exact wpAny_pyHash_str h
 eqBool:=fun hu hv h=>by
  rcases vF hu with ⟨i,t,rfl,rfl⟩|⟨x,t,rfl,rfl⟩
  ·rcases vF hv with ⟨j,u,rfl,rfl⟩|⟨y,u,rfl,rfl⟩
   ·rw[zhS] at h;exact wpAny_eqBool_int h
   ·rw[zhU] at h;exact SeqAt.EqAt.int_str i t y u _ _ _ _ h
  ·rcases vF hv with ⟨j,u,rfl,rfl⟩|⟨y,u,rfl,rfl⟩
   ·rw[zhV] at h;exact SeqAt.EqAt.str_int x t j u _ _ _ _ h
   ·rw[zhT] at h;exact wpAny_eqBool_str h
 «strs»:=fun k x t v h=>by
  rcases vF h with ⟨i,u,rfl,e⟩|⟨y,u,rfl,e⟩
  ·exact nomatch e
  ·injection e with e1 _
   subst e1;cases v<;>rfl
theorem zhW(prog:Program)(w:World)(i:Int)(t:Tok):(zT prog w).is (.inl i) (.int i t)=true:=zhQ i t
theorem zhX(prog:Program)(w:World)(x:Str)(t:Tok):(zT prog w).is (.inr x) (.str x t)=true:=zhR x t
end L2
namespace L2
open PySem PySem.Spec PyProof.Rows
inductive V where
 |non|bl (b:Bool)|int (i:Int)|str (x:Str)|byt (b:Array UInt8)|flt (b:UInt64)|ref (a:Addr)|ty (n:String)
 deriving DecidableEq
noncomputable def RelV:V->Value->Prop
 | .non,u=>u=Value.none
 | .bl b,u=>u=Value.bool b
 | .int i,u=>∃t,u=Value.int i t
 | .str x,u=>∃t,u=Value.str x t
 | .byt b,u=>∃t,u=Value.bytes b t
 | .flt b,u=>∃t,u=Value.float b t
 | .ref a,u=>u=Value.ref a
 | .ty n,u=>u=Value.type n
noncomputable abbrev Vals:List V->List Value->Prop:=Paired RelV
theorem Vals.length{xs:List V}{us:List Value}(r:Vals xs us):xs.length=us.length:=Paired.length r
theorem Vals.get: ∀{xs:List V} {us:List Value} {i:Nat} {x:V},Vals xs us->xs[i]? =some x->∃u,us[i]? =some u/\RelV x u
 |_,_,_,_,.nil,e=>by simp at e
 |_,_,0,_,.cons r _,e=>by simp at e;subst e;exact⟨_,rfl,r⟩
 |_,_,i+1,x,.cons _ t,e=>by
  obtain⟨u,h1,h2⟩:=Vals.get (i:=i) (x:=x) t (by simpa using e);exact⟨u,by simpa using h1,h2⟩
theorem Vals.append: ∀{xs ys:List V} {us ws:List Value},Vals xs us->Vals ys ws->Vals (xs++ys) (us++ws)
 |_,_,_,_,.nil,s=>s
 |_,_,_,_,.cons r t,s=>.cons r (Vals.append t s)
theorem Vals.take: ∀{xs:List V} {us:List Value} (n:Nat),Vals xs us->Vals (xs.take n) (us.take n)
 |_,_,0,_=>.nil
 |_,_,_+1,.nil=>.nil
 |_,_,n+1,.cons r t=>.cons r (Vals.take n t)
theorem Vals.drop: ∀{xs:List V} {us:List Value} (n:Nat),Vals xs us->Vals (xs.drop n) (us.drop n)
 |_,_,0,r=>r
 |_,_,_+1,.nil=>.nil
 |_,_,n+1,.cons _ t=>Vals.drop n t
noncomputable def RelO:Option V->Option Value->Prop
 |some v,some u=>RelV v u
 |none,none=>True
 |_,_=>False
noncomputable def KV{κ:Type}:List (κ×V)->List (κ×Value)->Prop:=Paired fun (p:κ×V) (q:κ×Value)=>p.1=q.1/\RelV p.2 q.2
noncomputable def kV:zy->V
 | .inl i=>.int i
 | .inr x=>.str x
inductive HO where
 |lst (xs:List V)
 |tup (xs:List V)
 |dK (kvs:List (zy×V))|dT (kvs:List (List zy×V))
 |set (S:Int->Bool) (n:Nat)
 |ins (C dx:Addr) (fs:List (Str×V))
 |own (x:Addr)
 |xd (fs:List (Str×V))
 |met (f x:Addr)
 |rng (lo hi:Int)
 |frz (o:Obj) (u:HO)
 |tbl (ps:Array Value)
 |ext (φ:Heap->Prop)
noncomputable abbrev Hp:=Addr->Option HO
noncomputable def zF(H:Hp)(a:Addr)(o:HO):Hp:=fun b=>if b=a then some o else H b
theorem yJ{H:Hp}{a:Addr}{o:HO}:zF H a o a=some o:=by unfold zF;rw[if_pos rfl]
theorem zE{H:Hp}{a b:Addr}{o:HO}(h:b≠a):zF H a o b=H b:=by unfold zF;rw[if_neg h]
theorem qt{H:Hp}{a b:Addr}{o u:HO}(h:H a=some o)(h':H b=some u)(d:o≠u):a≠b:=by
 intro e;subst e;rw[h] at h';exact d (Kn h')
theorem jA{H:Hp}{a b:Addr}{o:HO}(h:H a=some o)(h':H b=none):a≠b:=by
 intro e;subst e;rw[h] at h';cases h'
section
variable (P:Program) (w:World)
noncomputable def ObjOk(H:Hp)(h:Heap)(a:Addr):HO->Prop
 | .lst xs=>xs.length<=sizeLine/\∃(its:List Value) (n:Nat),Vals xs its/\h.get? a=some { cls:=.type "list",data:=.seq its.toArray n }
 | .tup xs=>xs.length<=sizeLine/\∃its:List Value,Vals xs its/\IsTup h a its.toArray
 | .dK kvs=>kvs.length<=sizeLine/\(a==sysModules)=false/\∃vs,KV kvs vs/\h.DictOf (zT P w) a vs
 | .dT kvs=>kvs.length<=sizeLine/\(a==sysModules)=false/\∃xs:List (List zy×Addr×Value),
   Paired (fun (p:List zy×V) (q:List zy×Addr×Value)=>p.1=q.1/\H q.2.1=some (.tup (p.1.map kV))/\RelV p.2 q.2.2) kvs xs/\
   ∃o es ep,h.get? a=some o/\o.ExactDict/\o.data= .dict es ep/\es.toList=xs.map (entryOfKey (tupleKind (zT P w)))/\(xs.map (·.1)).Nodup
 | .set S n=>h.SetOf (intKind P w) a S n
 | .ins C dx fs=>H dx=some (.own a)/\fs.length<=1000/\dx≠a/\h.get? a=some (PySem.W.instObj C dx)/\
   ∃mA,h.Ns1 dx mA/\(∀f,RelO (fs.lookup f) (mA f))/\PySem.Within mA (fs.map (·.1))
 | .own _=>∃o,h.get? a=some o
 | .xd fs=>∃mA,h.Ns1 a mA/\∀f,RelO (fs.lookup f) (mA f)
 | .rng lo hi=>∃t u v,h.get? a=some { cls:=.type "range",data:=.fields #[.int lo t,.int hi u,.int 1 v] }
 | .frz o u=>h.get? a=some o/\ObjOk H h a u
 | .tbl ps=>h.get? a=some { cls:=.none,data:=.fields ps }
 | .met f x=>h.get? a=some (PySem.W.methodObj (.ref f) (.ref x))
 | .ext φ=>φ h/\(∃o,h.get? a=some o)/\∀h1 h2:Heap,φ h1->(∀o,h1.get? a=some o->h2.get? a=some o)->φ h2
noncomputable def HOk(H:Hp)(h:Heap):Prop:=∀a o,H a=some o->ObjOk P w H h a o
end
section
variable {P:Program} {w:World} {H H':Hp} {h h':Heap} {a:Addr} {o:HO}
theorem ObjOk.lt(x:ObjOk P w H h a o):a<h.objs.size:=by
 cases o with
 |lst xs=>obtain⟨_,_,_,_,e⟩:=x;exact Kk e
 |tup xs=>obtain⟨_,_,_,p⟩:=x;exact p.lt
 |dK kvs=>obtain⟨_,_,_,_,o,_,_,e,_⟩:=x;exact Kk e
 |dT kvs=>obtain⟨_,_,_,_,o,_,_,e,_⟩:=x;exact Kk e
 |set S n=>obtain⟨o,_,_,_,e,_⟩:=x;exact Kk e
 |ins C dx fs=>obtain⟨_,_,_,e,_⟩:=x;exact Kk e
 |own y=>obtain⟨_,e⟩:=x;exact Kk e
 |xd fs=>obtain⟨_,⟨_,_,_,e,_⟩,_⟩:=x;exact Kk e
 |rng lo hi=>obtain⟨_,_,_,e⟩:=x;exact Kk e
 |frz ob u=>obtain⟨e,_⟩:=x;exact Kk e
 |tbl ps=>exact Kk (show h.get? a=some _ from x)
 |met f y=>exact Kk (show h.get? a=some _ from x)
 |ext φ=>obtain⟨_,⟨_,e⟩,_⟩:=x;exact Kk e
theorem Paired.mapP{α β:Type}{F G:α->β->Prop}: ∀{l₁:List α} {l₂:List β},Paired F l₁ l₂->(∀a b,F a b->G a b)->Paired G l₁ l₂
 |_,_,.nil,_=>.nil
 |_,_,.cons r t,f=>.cons (f _ _ r) (Paired.mapP t f)
theorem Paired.imp'{α β:Type}{F G:α->β->Prop}(f: ∀a b,F a b->G a b){l₁:List α}{l₂:List β}(r:Paired F l₁ l₂):Paired G l₁ l₂:=Paired.mapP r f
theorem ObjOk.stay(x:ObjOk P w H h a o)(k: ∀b u,(b=a\/H b=some (.own a))->h.get? b=some u->h'.get? b=some u)
  (ho: ∀b,H b=some (.own a)->H' b=some (.own a)) (ht: ∀b xs,H b=some (.tup xs)->H' b=some (.tup xs)):ObjOk P w H' h' a o:=by
 induction o with
 |lst xs=>obtain⟨z,its,n,r,e⟩:=x;exact⟨z,its,n,r,k _ _ (.inl rfl) e⟩
 |tup xs=>obtain⟨z,its,r,ob,e,c⟩:=x;exact⟨z,its,r,ob,k _ _ (.inl rfl) e,c⟩
 |dK kvs=>obtain⟨z,y,vs,r,ob,es,ep,e,c⟩:=x;exact⟨z,y,vs,r,ob,es,ep,k _ _ (.inl rfl) e,c⟩
 |dT kvs=>
  obtain⟨z,y,xs,r,ob,es,ep,e,c⟩:=x;exact⟨z,y,xs,Paired.mapP r fun p q z=>⟨z.1,ht _ _ z.2.1,z.2.2⟩,ob,es,ep,k _ _ (.inl rfl) e,c⟩
 |set S n=>obtain⟨ob,es,ep,t,e,c⟩:=x;exact⟨ob,es,ep,t,k _ _ (.inl rfl) e,c⟩
 |ins C dx fs=>
  obtain⟨d,z,ne,e,mA,⟨od,es,ep,e2,c⟩,r⟩:=x;exact⟨ho _ d,z,ne,k _ _ (.inl rfl) e,mA,⟨od,es,ep,k _ _ (.inr d) e2,c⟩,r⟩
 |own y=>obtain⟨ob,e⟩:=x;exact⟨ob,k _ _ (.inl rfl) e⟩
 |xd fs=>obtain⟨mA,⟨od,es,ep,e,c⟩,r⟩:=x;exact⟨mA,⟨od,es,ep,k _ _ (.inl rfl) e,c⟩,r⟩
 |rng lo hi=>obtain⟨t,u,v,e⟩:=x;exact⟨t,u,v,k _ _ (.inl rfl) e⟩
 |frz ob u ih=>obtain⟨e,q⟩:=x;exact⟨k _ _ (.inl rfl) e,ih q⟩
 |tbl ps=>
  have e:h.get? a=some { cls:=.none,data:=.fields ps }:=x;show h'.get? a=some { cls:=.none,data:=.fields ps };exact k a _ (.inl rfl) e
 |met f y=>
  have e:h.get? a=some (PySem.W.methodObj (.ref f) (.ref y)):=x;show h'.get? a=some (PySem.W.methodObj (.ref f) (.ref y));exact k a _ (.inl rfl) e
 |ext φ=>obtain⟨p,⟨o,e⟩,st⟩:=x;exact⟨st _ _ p fun o q=>k _ _ (.inl rfl) q,⟨o,k _ _ (.inl rfl) e⟩,st⟩
theorem HOk.lt(x:HOk P w H h)(e:H a=some o):a<h.objs.size:=(x a o e).lt
theorem HOk.fresh(x:HOk P w H h)(e:h.objs.size<=a):H a=none:=by
 cases q:H a with
 |none=>rfl
 |some u=>exact KC (Ki (x.lt q) e) (Nat.lt_irrefl _)
theorem HOk.kept(x:HOk P w H h)(k: ∀b u,h.get? b=some u->h'.get? b=some u):HOk P w H h':=fun a o e=>
 (x a o e).stay (fun b u _ q=>k b u q) (fun _ q=>q) fun _ _ q=>q
theorem HOk.laid(x:HOk P w H h)(k: ∀b u,h.get? b=some u->h'.get? b=some u)(hp:h.objs.size<=a)(new:ObjOk P w (zF H a o) h' a o):HOk P w (zF H a o) h':=fun b u e=>by
 have hn:=x.fresh hp;by_cases hb:b=a
 ·subst hb;rw[yJ] at e;cases e;exact new
 ·rw[zE hb] at e
  exact (x b u e).stay (fun c v _ q=>k c v q) (fun c q=>by rw[zE (jA q hn)];exact q) fun c xs q=>by rw[zE (jA q hn)];exact q
end
noncomputable def Rd(H:Hp)(a:Addr)(u:HO):Prop:=H a=some u\/∃o,H a=some (.frz o u)
theorem Rd.ok{P:Program}{w:World}{H:Hp}{h:Heap}{a:Addr}{u:HO}(r:Rd H a u)(x:HOk P w H h):ObjOk P w H h a u:=by
 rcases r with r|⟨o,r⟩
 ·exact x a u r
 ·obtain⟨_,q⟩:=x a _ r
  exact q
noncomputable def Xb:Option HO->Prop
 |some (.lst _)=>True
 |some (.dK _)=>True
 |some (.dT _)=>True
 |some (.set _ _)=>True
 |some (.ins _ _ _)=>True
 |some (.ext _)=>True
 |_=>False
section
variable {P:Program} {w:World} {H:Hp} {h h':Heap} {x e:Addr} {o':HO}
theorem HOk.write(ok:HOk P w H h)(mu:Xb (H x))(he:e=x\/H e=some (.own x))(k: ∀b u,b≠e->h.get? b=some u->h'.get? b=some u)(heo: ∃u,h'.get? e=some u)
  (new:ObjOk P w (zF H x o') h' x o'):HOk P w (zF H x o') h':=fun b u q=>by
 have nown: ∀c y,H c=some (.own y)->c≠x:=fun c y r z=>by subst z;rw[r] at mu;exact mu
 have ntup: ∀c xs,H c=some (.tup xs)->c≠x:=fun c xs r z=>by subst z;rw[r] at mu;exact mu
 by_cases hb:b=x
 ·subst hb;rw[yJ] at q;cases q;exact new
 ·rw[zE hb] at q
  by_cases hbe:b=e
  ·have q':H b=some (.own x):=by
    rcases he with z|z
    ·exact KC (hbe.trans z) hb
    ·rw[hbe];exact z
   rw[q] at q';cases q';obtain⟨v,hv⟩:=heo;exact⟨v,by rw[hbe];exact hv⟩
  ·refine (ok b u q).stay (fun c v hc r=>k c v ?_ r) (fun c r=>by rw[zE (nown c b r)];exact r) fun c xs r=>by rw[zE (ntup c xs r)];exact r
   rcases hc with rfl|hc
   ·exact hbe
   ·rintro rfl
    rcases he with z|z
    ·exact nown c b hc z
    ·rw[hc] at z;cases z;exact hb rfl
end
structure Un (fs ex:List Addr)(H H':Hp)(h h':Heap):Prop where
 keep: ∀b o,h.get? b=some o->H b=none->b∉fs->b∉ex->h'.get? b=some o
 slot: ∀b o,h.get? b=some o->H b=none->b∈fs->b∉ex->∃sl,h'.get? b=some { o with slots:=sl }
 free: ∀b o,h.get? b=some o->H b=none->b∉ex->H' b=none
 there: ∀b o,h.get? b=some o->b∉ex->∃o',h'.get? b=some o'
 tups: ∀b xs,H b=some (.tup xs)->H' b=some (.tup xs)
 frzs: ∀b o u,H b=some (.frz o u)->H' b=some (.frz o u)
 tbls: ∀b ps,H b=some (.tbl ps)->∃more,H' b=some (.tbl (ps++more))
section
variable {fs fs' ex ex':List Addr} {H H1 H2:Hp} {h h1 h2 h':Heap} {a x e:Addr} {o:HO}
theorem Un.any(u:Un fs ex H H1 h h1){b:Addr}{ob:Obj}(q:h.get? b=some ob)(n:H b=none)(hx:b∉ex): ∃sl,h1.get? b=some { ob with slots:=sl }:=by
 by_cases hb:b∈fs
 ·exact u.slot b ob q n hb hx
 ·exact⟨ob.slots,u.keep b ob q n hb hx⟩
theorem Un.kept(k: ∀b u,h.get? b=some u->h'.get? b=some u):Un fs ex H H h h':=
 ⟨fun b ob q _ _ _=>k b ob q,fun b ob q _ _ _=>⟨ob.slots,k b ob q⟩,fun _ _ _ n _=>n,fun b ob q _=>⟨ob,k b ob q⟩,fun _ _ q=>q,fun _ _ _ q=>q,fun _ ps q=>⟨#[],by rw[q];simp⟩⟩
theorem Un.refl:Un fs ex H H h h:=Un.kept fun _ _ q=>q
theorem Un.laid(k: ∀b u,h.get? b=some u->h'.get? b=some u)(hp:h.objs.size<=a)(hn:H a=none):Un fs ex H (zF H a o) h h' where
 keep:=fun b u q _ _ _=>k b u q
 slot:=fun b u q _ _ _=>⟨u.slots,k b u q⟩
 free:=fun b u q n _=>by rw[zE (Kh (Ki (Kk q) hp))];exact n
 there:=fun b u q _=>⟨u,k b u q⟩
 tups:=fun b xs q=>by rw[zE (jA q hn)];exact q
 frzs:=fun b u xs q=>by rw[zE (jA q hn)];exact q
 tbls:=fun b ps q=>⟨#[],by rw[zE (jA q hn),q];simp⟩
theorem Un.write(mu:Xb (H x))(he:e=x\/H e=some (.own x))(k: ∀b u,b≠e->h.get? b=some u->h'.get? b=some u)(heo: ∃u,h'.get? e=some u):Un fs ex H (zF H x o) h h':=by
 have hx: ∀b,H b=none->b≠x:=fun b n z=>by subst z;rw[n] at mu;exact mu
 have hb: ∀b,H b=none->b≠e:=fun b n z=>by
  subst z;rcases he with r|r
  ·exact hx b n r
  ·rw[n] at r;cases r
 have hm: ∀b u,H b=some u->¬Xb (some u)->b≠x:=fun b u q nm z=>by subst z;rw[q] at mu;exact nm mu
 refine⟨fun b u q n _ _=>k b u (hb b n) q,fun b u q n _ _=>⟨u.slots,k b u (hb b n) q⟩,fun b u q n _=>by rw[zE (hx b n)];exact n,fun b u q _=>?_,
  fun b xs q=>by rw[zE (hm b _ q fun z=>z)];exact q,fun b u xs q=>by rw[zE (hm b _ q fun z=>z)];exact q,fun b ps q=>⟨#[],by rw[zE (hm b _ q fun z=>z),q];simp⟩⟩
 by_cases hbe:b=e
 ·subst hbe;exact heo
 ·exact⟨u,k b u hbe q⟩
end
noncomputable def JG(h:Heap)(H:Hp):List Addr:=(List.range h.objs.size).filter fun a=>(H a).isSome
noncomputable def jd(h:Heap)(H:Hp):Heap:=PySem.W.hideAll h (JG h H)
theorem zhY(h:Heap)(H:Hp):(jd h H).objs.size=h.objs.size:=PySem.W.hideAll_size _ _
theorem zhZ{h:Heap}{H:Hp}{b:Addr}{o:Obj}(e:h.get? b=some o)(n:H b=none):(jd h H).get? b=some o:=
 PySem.W.hideAll_get _ e fun hm=>by
  have q:(H b).isSome=true:=(List.mem_filter.mp hm).2;rw[n] at q;simp at q
theorem zh0{h:Heap}{H:Hp}{b:Addr}{o:Obj}(e:(jd h H).get? b=some o):h.get? b=some o/\H b=none:=by
 have e':h.get? b=some o:=PySem.W.of_hideAll (JG h H) e;refine⟨e',?_⟩
 cases q:H b with
 |none=>rfl
 |some x=>
  have hm:b∈JG h H:=List.mem_filter.mpr ⟨List.mem_range.mpr (Kk e'),by simp[q]⟩;have z:(jd h H).get? b=none:=PySem.W.hideAll_none (JG h H) hm;rw[z] at e;cases e
noncomputable def zbt(g h:Heap)(L:Addr):List (Addr×Obj):=(List.range h.objs.size).filterMap fun a=>if a=L\/(g.get? a).isSome=true then none else (h.get? a).map fun o=>(a,o)
theorem zh1{g h:Heap}{L a:Addr}{o:Obj}(h1:a≠L)(h2:g.get? a=none)(h3:h.get? a=some o):(a,o)∈zbt g h L:=
 List.mem_filterMap.mpr ⟨a,List.mem_range.mpr (Kk h3),by simp[h1,h2,h3]⟩
noncomputable def zP(g h:Heap)(L d:Addr):List (Addr×Obj):=(zbt g h L).filter fun p=>decide (p.1≠d)
theorem rest_ne{g h:Heap}{L d:Addr}: ∀p∈zP g h L d,p.1≠d:=fun p hp=>of_decide_eq_true (List.mem_filter.mp hp).2
theorem mem_rest{g h:Heap}{L d a:Addr}{o:Obj}(h1:a≠L)(h2:g.get? a=none)(h3:h.get? a=some o)(h4:a≠d):(a,o)∈zP g h L d:=
 List.mem_filter.mpr ⟨zh1 h1 h2 h3,decide_eq_true h4⟩
end L2
namespace L2
open PySem PySem.Spec PyProof.Rows
structure Mod (K:Ka)(mg:Str->Option Value)(base:Heap):Prop where
 kin:K.In base
 glob:base.Ns mainGlobals mg
 blt: ∃mb,base.Ns builtinsNs mb/\∀x:Str,x≠"__name__"->mb x=bootBuiltins x
 nolimit:base.NoLimit
structure Cx where
 prog:Program
 w:World
 K:Ka
 mg:Str->Option Value
 base:Heap
 A:Around
 N:List Str
 s₀:Shared
 H₀:Hp
 env:Env
 outer:List Env
 stack:List Env
 ex:List Addr
 fn:Str->Bool
 calm:Bool
 pn:List (Addr×Obj)
 xe:Value->Shared->Prop
noncomputable def wV(l:List Env):List Addr:=l.filterMap (·.frame)
noncomputable abbrev Cx.fs(X:Cx):List Addr:=wV X.outer
noncomputable def wq(sc:Scope)(x:Str):Prop:=sc.names.lookup x=some .local\/sc.names.lookup x=some .cell\/sc.names.lookup x=some .free
noncomputable def wM(sc:Scope)(x:Str):Prop:=sc.names.lookup x=some .local\/sc.names.lookup x=some .cell
noncomputable def zh2(env:Env)(h:Heap)(m:Str->Option Value)(x:Str)(u:Value):Prop:=
 (env.kindOf x=some .local/\m x=some u)\/((env.kindOf x=some .cell\/env.kindOf x=some .free)/\∃c,env.cells.lookup x=some c/\h.IsCell c (some u))
structure Cx.Ok (X:Cx):Prop where
 mod:Mod X.K X.mg X.base
 kind:X.env.scope.kind= .function
 glob:X.env.globals=mainGlobals
 blt:X.env.builtins=builtinsNs
 above:X.s₀.heap.objs.size<=X.env.locals
 inj: ∀x y c,X.env.cells.lookup x=some c->X.env.cells.lookup y=some c->x=y
 has: ∀x,(X.env.kindOf x=some .cell\/X.env.kindOf x=some .free)->∃c,X.env.cells.lookup x=some c
 cab: ∀x c,X.fn x=true->X.env.cells.lookup x=some c->X.s₀.heap.objs.size<=c
 hd:X.calm=true->X.A.handled=none
 frames:X.A.frames=some X.stack
 stk:X.stack=X.outer\/(X.stack=X.env::X.outer/\X.env.frame=some X.env.locals)
 exf: ∀b∈X.ex,b≠X.env.locals/\∀x c,X.env.cells.lookup x=some c->c≠b
 bs: ∀b o,X.base.get? b=some o->X.s₀.heap.get? b=some o/\X.H₀ b=none
 bsz:X.base.objs.size<=X.s₀.heap.objs.size
 noex: ∀b o,X.base.get? b=some o->b∉X.ex
 exfs: ∀b∈X.ex,b∉X.fs
 funs:X.s₀.heap.FunFrames X.base X.outer
 frf: ∀b∈X.fs,X.H₀ b=none
structure Inv (X:Cx)(pins:List (Addr×Obj))(σ:List (Option V))(H:Hp)(s:Shared):Prop where
 ok:X.Ok
 os:s.os=X.s₀.os
 bare:AllBare s.gens
 base:Un X.fs X.ex X.H₀ H X.s₀.heap s.heap
 loc: ∃m,s.heap.Ns X.env.locals m/\∀(i:Nat) (x:Str) (v:V),X.N[i]? =some x->σ[i]? =some (some v)->wq X.env.scope x->∃u,RelV v u/\zh2 X.env s.heap m x u
 cell: ∀x c,X.env.cells.lookup x=some c->∃v,s.heap.IsCell c v
 free:H X.env.locals=none
 freeC: ∀x c,X.env.cells.lookup x=some c->H c=none
 pin: ∀p∈X.pn++pins,s.heap.get? p.1=some p.2/\H p.1=none/\p.1≠X.env.locals/\p.1∉X.fs/\∀v,p.2.data≠ .cell v
 hok:HOk X.prog X.w H s.heap
 len:σ.length=X.N.length
section
variable {X:Cx} {pins:List (Addr×Obj)} {σ:List (Option V)} {H H':Hp} {s:Shared} {h':Heap}
theorem Cx.Ok.nofr(ok:X.Ok){b:Addr}{o:Obj}(e:X.base.get? b=some o):b∉X.fs:=fun hb=>by
 have:=(ok.funs.mem hb).1;rw[e] at this;cases this
theorem Inv.bs(I:Inv X pins σ H s): ∀b o,X.base.get? b=some o->s.heap.get? b=some o/\H b=none:=fun b o e=>
 ⟨I.base.keep b o (I.ok.bs b o e).1 (I.ok.bs b o e).2 (I.ok.nofr e) (I.ok.noex b o e),I.base.free b o (I.ok.bs b o e).1 (I.ok.bs b o e).2 (I.ok.noex b o e)⟩
theorem Inv.bk(I:Inv X pins σ H s): ∀b o,X.base.get? b=some o->s.heap.get? b=some o:=fun b o e=>(I.bs b o e).1
theorem Inv.mod(I:Inv X pins σ H s):Mod X.K X.mg X.base:=I.ok.mod
theorem Inv.kIn(I:Inv X pins σ H s):X.K.In s.heap:=I.ok.mod.kin.keeps I.bk
theorem Inv.lt(I:Inv X pins σ H s):X.env.locals<s.heap.objs.size:=let ⟨_,hn,_⟩:=I.loc;hn.lt
theorem Inv.sz(I:Inv X pins σ H s):X.s₀.heap.objs.size<=s.heap.objs.size:=Kg I.ok.above (Nat.le_of_lt I.lt)
theorem Inv.nofs(I:Inv X pins σ H s){a:Addr}(h:s.heap.objs.size<=a):a∉X.fs:=fun hb=>by
 obtain⟨_,o,ho,_⟩:=I.ok.funs.mem hb;exact KC (Ki (Kk ho) (Kg I.sz h)) (Nat.lt_irrefl _)
theorem Inv.cne(I:Inv X pins σ H s): ∀x c,X.env.cells.lookup x=some c->c≠X.env.locals:=fun x c e z=>by
 obtain⟨v,o,ho,hd⟩:=I.cell x c e;obtain⟨m,⟨o',es,ep,ho',hd',_⟩,_⟩:=I.loc;rw[z,ho'] at ho;cases ho;rw[hd'] at hd;cases hd
theorem Inv.funs(I:Inv X pins σ H s):s.heap.FunFrames X.base X.outer:=by
 have all: ∀(l:List Env),(∀b∈wV l,b∈X.fs)->X.s₀.heap.FunFrames X.base l->s.heap.FunFrames X.base l:=by
  intro l
  induction l with
  |nil=>intro _ _;trivial
  |cons env r ih=>
   intro hs hl;obtain⟨hk,⟨L,o,hf,hn,ho,hd⟩,hr⟩:=hl;have hL:L∈X.fs:=hs L (by unfold wV;rw[List.filterMap_cons,hf];exact Ke);obtain⟨sl,e⟩:=I.base.slot L o ho (I.ok.frf L hL) hL fun z=>I.ok.exfs L z hL
   exact⟨hk,⟨L,_,hf,hn,e,hd⟩,ih (fun b hb=>hs b (by unfold wV;rw[List.filterMap_cons,hf];exact Kf _ hb)) hr⟩
 exact all X.outer (fun _ hb=>hb) I.ok.funs
theorem Inv.stack(I:Inv X pins σ H s):s.heap.FunFrames X.base X.stack:=by
 rcases I.ok.stk with e|⟨e,hf⟩
 ·rw[e];exact I.funs
 ·rw[e]
  obtain⟨m,hn,_⟩:=I.loc;refine .cons (by rw[I.ok.kind];decide) hf hn ?_ I.funs;exact Heap.get?_none_of_le (Kg I.ok.bsz I.ok.above)
theorem Inv.stkSub(I:Inv X pins σ H s): ∀b∈wV X.stack,b∈X.env.locals::X.fs:=fun b hb=>by
 rcases I.ok.stk with e|⟨e,hf⟩
 ·rw[e] at hb;exact Kf _ hb
 ·rw[e] at hb
  unfold wV at hb;rw[List.filterMap_cons,hf] at hb;exact hb
theorem Inv.stkFree(I:Inv X pins σ H s): ∀b∈wV X.stack,H b=none:=fun b hb=>by
 rcases List.mem_cons.mp (I.stkSub b hb) with e|hb
 ·rw[e];exact I.free
 ·obtain⟨_,o,ho,_⟩:=I.ok.funs.mem hb
  exact I.base.free b o ho (I.ok.frf b hb) fun z=>I.ok.exfs b z hb
theorem Inv.step{g':Array GenState}{t':Nat}{d':Drawn}{ch:List Addr}(I:Inv X pins σ H s)
  (hch: ∀b∈ch,(b∈X.ex\/X.s₀.heap.objs.size<=b)/\b≠X.env.locals/\(∀x c,X.env.cells.lookup x=some c->c≠b)/\∀p∈X.pn++pins,p.1≠b)
  (keep: ∀b o,b≠X.env.locals->b∉X.fs->b∉ch->s.heap.get? b=some o->H b=none->h'.get? b=some o)
  (slot: ∀b o,b≠X.env.locals->b∈X.fs->b∉ch->s.heap.get? b=some o->H b=none->∃sl,h'.get? b=some { o with slots:=sl }) (free: ∀b o,b∉ch->s.heap.get? b=some o->H b=none->H' b=none)
  (there: ∀b o,b∉ch->s.heap.get? b=some o->∃o',h'.get? b=some o')
  (tups: ∀b xs,H b=some (.tup xs)->H' b=some (.tup xs)) (frzs: ∀b o u,H b=some (.frz o u)->H' b=some (.frz o u)) (tbls: ∀b ps,H b=some (.tbl ps)->∃more,H' b=some (.tbl (ps++more)))
  (ns: ∀m,s.heap.Ns X.env.locals m->h'.Ns X.env.locals m) (hok:HOk X.prog X.w H' h') (hg:AllBare g'):
  Inv X pins σ H' { s with heap:=h',gens:=g',drawn:=d',toks:=t' }:=by
 have neL: ∀b o,X.s₀.heap.get? b=some o->b≠X.env.locals:=fun b o e=>Kh (Ki (Kk e) I.ok.above)
 have neC: ∀b o,X.s₀.heap.get? b=some o->b∉X.ex->b∉ch:=fun b o e hx hb=>by
  rcases (hch b hb).1 with z|z
  ·exact hx z
  ·exact KC (Ki (Kk e) z) (Nat.lt_irrefl _)
 have cellK: ∀x c,X.env.cells.lookup x=some c->∀v,s.heap.IsCell c v->h'.IsCell c v:=fun x c e v ⟨o,ho,hd⟩=>by
  have nch:c∉ch:=fun z=>(hch c z).2.2.1 x c e rfl
  by_cases hc:c∈X.fs
  ·obtain⟨sl,q⟩:=slot c o (I.cne x c e) hc nch ho (I.freeC x c e)
   exact⟨_,q,hd⟩
  ·exact⟨o,keep c o (I.cne x c e) hc nch ho (I.freeC x c e),hd⟩
 refine⟨I.ok,I.os,hg,⟨fun b o e n hb hx=>?_,fun b o e n hb hx=>?_,fun b o e n hx=>?_,fun b o e hx=>?_,fun b xs e=>tups b xs (I.base.tups b xs e),fun b o xs e=>frzs b o xs (I.base.frzs b o xs e),fun b ps e=>?_⟩,?_,fun x c e=>?_,?_,fun x c e=>?_,fun p hp=>?_,hok,I.len⟩
 ·exact keep b o (neL b o e) hb (neC b o e hx) (I.base.keep b o e n hb hx) (I.base.free b o e n hx)
 ·obtain⟨sl,e1⟩:=I.base.slot b o e n hb hx
  obtain⟨sl',e2⟩:=slot b _ (neL b o e) hb (neC b o e hx) e1 (I.base.free b o e n hx);exact⟨sl',e2⟩
 ·obtain⟨o',e1⟩:=I.base.there b o e hx
  exact free b o' (neC b o e hx) e1 (I.base.free b o e n hx)
 ·obtain⟨o',e1⟩:=I.base.there b o e hx
  exact there b o' (neC b o e hx) e1
 ·obtain⟨m1,e1⟩:=I.base.tbls b ps e
  obtain⟨m2,e2⟩:=tbls b _ e1;exact⟨m1++m2,by rw[e2,Array.append_assoc]⟩
 ·obtain⟨m,hn,hl⟩:=I.loc
  refine⟨m,ns m hn,fun i x v e1 e2 e3=>?_⟩;obtain⟨u,r,l⟩:=hl i x v e1 e2 e3;refine⟨u,r,?_⟩;rcases l with l|⟨k,c,e,z⟩
  ·exact .inl l
  ·exact .inr ⟨k,c,e,cellK x c e _ z⟩
 ·obtain⟨v,z⟩:=I.cell x c e
  exact⟨v,cellK x c e v z⟩
 ·obtain⟨m,⟨o,_,_,ho,_⟩,_⟩:=I.loc
  exact free _ o (fun z=>(hch _ z).2.1 rfl) ho I.free
 ·obtain⟨v,o,ho,hd⟩:=I.cell x c e
  exact free c o (fun z=>(hch c z).2.2.1 x c e rfl) ho (I.freeC x c e)
 ·obtain⟨e,n,ne,nf,d⟩:=I.pin p hp
  have nch:p.1∉ch:=fun z=>(hch p.1 z).2.2.2 p hp rfl
  exact⟨keep p.1 p.2 ne nf nch e n,free p.1 p.2 nch e n,ne,nf,d⟩
theorem Inv.un{t':Nat}(I:Inv X pins σ H s)(u:Un X.fs [] H H' s.heap h')(hok:HOk X.prog X.w H' h'):Inv X pins σ H' { s with heap:=h',toks:=t' }:=by
 obtain⟨m,⟨o,es,ep,ho,r⟩,_⟩:=id I.loc;obtain⟨sl,hL⟩:=u.any ho I.free (by simp)
 exact I.step (g':=s.gens) (d':=s.drawn) (ch:=[]) (fun _ z=>nomatch z) (fun b o _ hb _ e n=>u.keep b o e n hb (by simp)) (fun b o _ hb _ e n=>u.slot b o e n hb (by simp)) (fun b o _ e n=>u.free b o e n (by simp)) (fun b o _ e=>u.there b o e (by simp)) u.tups u.frzs u.tbls (fun m' hm=>by
  obtain⟨o',es',ep',ho',r'⟩:=hm;rw[ho] at ho';cases ho';exact⟨_,es',ep',hL,r'⟩) hok I.bare
theorem Inv.call{g':Array GenState}{t':Nat}{d':Drawn}{ch:List Addr}(I:Inv X pins σ H s)(u:Un (wV X.stack) ch H H' s.heap h')(hok:HOk X.prog X.w H' h')(hg:AllBare g')
  (hch: ∀b∈ch,(b∈X.ex\/X.s₀.heap.objs.size<=b)/\b≠X.env.locals/\(∀x c,X.env.cells.lookup x=some c->c≠b)/\∀p∈X.pn++pins,p.1≠b):
  Inv X pins σ H' { s with heap:=h',gens:=g',drawn:=d',toks:=t' }:=by
 obtain⟨m,⟨o,es,ep,ho,r⟩,_⟩:=id I.loc;obtain⟨sl,hL⟩:=u.any ho I.free fun z=>(hch _ z).2.1 rfl
 exact I.step (ch:=ch) hch (fun b o hL hb hc e n=>u.keep b o e n (fun z=>(List.mem_cons.mp (I.stkSub b z)).elim hL hb) hc) (fun b o _ _ hc e n=>u.any e n hc) (fun b o hc e n=>u.free b o e n hc) (fun b o hc e=>u.there b o e hc) u.tups u.frzs u.tbls (fun m' hm=>by
  obtain⟨o',es',ep',ho',r'⟩:=hm;rw[ho] at ho';cases ho';exact⟨_,es',ep',hL,r'⟩) hok hg
theorem Inv.turned{t':Nat}{it:Addr}(I:Inv X pins σ H s)(k: ∀b o,b≠it->s.heap.get? b=some o->h'.get? b=some o)(hn:H it=none)(hL:it≠X.env.locals)
  (h1:it∈X.ex\/X.s₀.heap.objs.size<=it) (h2: ∀x c,X.env.cells.lookup x=some c->c≠it) (h3: ∀p∈X.pn++pins,p.1≠it):Inv X pins σ H { s with heap:=h',toks:=t' }:=by
 have nit: ∀b u,H b=some u->b≠it:=fun b u e z=>by rw[z,hn] at e;cases e
 refine I.step (g':=s.gens) (d':=s.drawn) (ch:=[it]) (fun b hb=>?_) (fun b o _ _ hc e _=>k b o (fun z=>hc (by simp[z])) e) (fun b o _ _ hc e _=>⟨o.slots,k b o (fun z=>hc (by simp[z])) e⟩) (fun _ _ _ _ n=>n)
  (fun b o hc e=>⟨o,k b o (fun z=>hc (by simp[z])) e⟩) (fun _ _ e=>e) (fun _ _ _ e=>e) (fun b ps e=>⟨#[],by rw[e];simp⟩) (fun m hm=>?_) (fun b u e=>?_) I.bare
 ·have e:b=it:=by simpa using hb
  subst e;exact⟨h1,hL,h2,h3⟩
 ·obtain⟨o,es,ep,ho,r⟩:=hm
  exact⟨o,es,ep,k _ o (Ne.symm hL) ho,r⟩
 ·refine (I.hok b u e).stay (fun c v hc q=>k c v ?_ q) (fun _ q=>q) fun _ _ q=>q
  rcases hc with z|z
  ·rw[z];exact nit b u e
  ·exact nit c _ z
theorem Inv.tok(I:Inv X pins σ H s)(t:Nat):Inv X pins σ H { s with toks:=t }:=I.un (h':=s.heap) (t':=t) Un.refl I.hok
theorem Inv.kept{t':Nat}(I:Inv X pins σ H s)(k: ∀b u,s.heap.get? b=some u->h'.get? b=some u):Inv X pins σ H { s with heap:=h',toks:=t' }:=I.un (Un.kept k) (I.hok.kept k)
theorem Inv.laid{a:Addr}{o:HO}{t':Nat}(I:Inv X pins σ H s)(k: ∀b u,s.heap.get? b=some u->h'.get? b=some u)(hp:s.heap.objs.size<=a)(new:ObjOk X.prog X.w (zF H a o) h' a o):
  Inv X pins σ (zF H a o) { s with heap:=h',toks:=t' }:=I.un (Un.laid k hp (I.hok.fresh hp)) (I.hok.laid k hp new)
theorem Inv.write{x e:Addr}{o:HO}{t':Nat}(I:Inv X pins σ H s)(mu:Xb (H x))(he:e=x\/H e=some (.own x))(k: ∀b u,b≠e->s.heap.get? b=some u->h'.get? b=some u)(heo: ∃u,h'.get? e=some u)
  (new:ObjOk X.prog X.w (zF H x o) h' x o):Inv X pins σ (zF H x o) { s with heap:=h',toks:=t' }:=I.un (Un.write mu he k heo) (I.hok.write mu he k heo new)
theorem Inv.pins_of{pins':List (Addr×Obj)}(I:Inv X pins σ H s)(h: ∀p∈pins',s.heap.get? p.1=some p.2/\H p.1=none/\p.1≠X.env.locals/\p.1∉X.fs/\∀v,p.2.data≠ .cell v):Inv X pins' σ H s:=
 ⟨I.ok,I.os,I.bare,I.base,I.loc,I.cell,I.free,I.freeC,fun p hp=>(List.mem_append.mp hp).elim (fun z=>I.pin p (Kp _ z)) (h p),I.hok,I.len⟩
theorem zbu{N:List Str}(hN:N.Nodup){i j:Nat}{x:Str}(a:N[i]? =some x)(b:N[j]? =some x):i=j:=by
 obtain⟨h1,e1⟩:=List.getElem?_eq_some_iff.mp a;obtain⟨h2,e2⟩:=List.getElem?_eq_some_iff.mp b;exact (List.getElem_inj hN).mp (e1.trans e2.symm)
theorem zbv{M:Model}{A:Around}{E:Value->Shared->Prop}{i:Nat}{x:Str}{v:V}{u:Value}{Q:Unit->Shared->Prop}(I:Inv X pins σ H s)(hN:X.N.Nodup)(hi:X.N[i]? =some x)(hx:wM X.env.scope x)(r:RelV v u)
  (h: ∀s',Inv X pins (σ.set i (some v)) H s'->(∃a,Heap.SameBut a s.heap s'.heap/\(a=X.env.locals\/X.env.cells.lookup x=some a))->Q () s') (hf:X.fn x=true\/X.env.scope.names.lookup x=some .local:=by first|exact .inl rfl|exact .inr rfl|assumption):wpAny M A (storeName X.env x u) Q E s:=by
 obtain⟨m,hn,hl⟩:=id I.loc;have hcls:(X.env.scope.kind== .class||(X.env.scope.kind== .module&&X.env.locals != X.env.globals))=false:=by rw[I.ok.kind];rfl
 have hiσ:i<σ.length:=by rw[I.len];exact (List.getElem?_eq_some_iff.mp hi).1
 have cne:=I.cne
 have tracked: ∀{a:Addr} {h':Heap},(∃o,s.heap.get? a=some o/\H a=none)->Heap.SameBut a s.heap h'->HOk X.prog X.w H h':=fun {a h'} ha hs b ob e=>by
  obtain⟨_,_,hfree⟩:=ha;refine (I.hok b ob e).stay (fun c w' hc q=>(hs.2 c ?_).trans q) (fun _ q=>q) fun _ _ q=>q
  rintro rfl;rcases hc with rfl|hc
  ·rw[hfree] at e;cases e
  ·rw[hfree] at hc;cases hc
 rcases hx with hk|hk
 ·refine wpAny_storeName_local hk hn (fun h' hn' hs=>?_) hcls
  obtain⟨oL,_,_,hoL,_⟩:=id hn;refine h _ ⟨I.ok,I.os,I.bare,⟨fun b o e n hb hx=>?_,fun b o e n hb hx=>?_,I.base.free,fun b o e hx=>?_,I.base.tups,I.base.frzs,I.base.tbls⟩,⟨_,hn',fun j y v' e1 e2 e3=>?_⟩,fun y c e=>?_,I.free,I.freeC,fun p hp=>?_,tracked ⟨oL,hoL,I.free⟩ hs,by simpa using I.len⟩ ⟨_,hs,.inl rfl⟩
  ·exact (hs.2 b (Kh (Ki (Kk e) I.ok.above))).trans (I.base.keep b o e n hb hx)
  ·obtain⟨sl,e1⟩:=I.base.slot b o e n hb hx
   exact⟨sl,(hs.2 b (Kh (Ki (Kk e) I.ok.above))).trans e1⟩
  ·obtain⟨o',e1⟩:=I.base.there b o e hx
   exact⟨o',(hs.2 b (Kh (Ki (Kk e) I.ok.above))).trans e1⟩
  ·by_cases hj:j=i
   ·subst hj
    rw[hi] at e1;cases e1;rw[List.getElem?_set_self hiσ] at e2;cases e2;exact⟨u,r,.inl ⟨hk,by simp⟩⟩
   ·rw[List.getElem?_set_ne (Ne.symm hj)] at e2
    obtain⟨u',r',q⟩:=hl j y v' e1 e2 e3;refine⟨u',r',?_⟩;rcases q with ⟨k,e⟩|⟨k,c,e,z⟩
    ·refine .inl ⟨k,?_⟩
     have:y≠x:=fun e=>hj (zbu hN e1 (e▸hi))
     simp[this,e]
    ·exact .inr ⟨k,c,e,z.sameBut hs (cne y c e)⟩
  ·obtain⟨w',z⟩:=I.cell y c e
   exact⟨w',z.sameBut hs (cne y c e)⟩
  ·obtain⟨e,n,ne,nf,d⟩:=I.pin p hp
   exact⟨(hs.2 p.1 ne).trans e,n,ne,nf,d⟩
 ·have hfn:X.fn x=true:=by
   rcases hf with z|z
   ·exact z
   ·rw[z] at hk;cases hk
  obtain⟨c,hc⟩:=I.ok.has x (.inl hk);obtain⟨w',z⟩:=I.cell x c hc;refine wpAny_storeName_cell I.ok.kind hk hc z (fun h' hc' hs=>?_);obtain⟨oc,hoc,hocd⟩:=id z;refine h { s with heap:=h' } ⟨I.ok,I.os,I.bare,⟨fun b o e n hb hx=>?_,fun b o e n hb hx=>?_,I.base.free,fun b o e hx=>?_,I.base.tups,I.base.frzs,I.base.tbls⟩,⟨m,hn.sameBut hs (Ne.symm (cne x c hc)),fun j y v' e1 e2 e3=>?_⟩,fun y c' e=>?_,I.free,I.freeC,fun p hp=>?_,tracked ⟨oc,hoc,I.freeC x c hc⟩ hs,by simpa using I.len⟩ ⟨c,hs,.inr hc⟩
  ·exact (hs.2 b (Kh (Ki (Kk e) (I.ok.cab x c hfn hc)))).trans (I.base.keep b o e n hb hx)
  ·obtain⟨sl,e1⟩:=I.base.slot b o e n hb hx
   exact⟨sl,(hs.2 b (Kh (Ki (Kk e) (I.ok.cab x c hfn hc)))).trans e1⟩
  ·obtain⟨o',e1⟩:=I.base.there b o e hx
   exact⟨o',(hs.2 b (Kh (Ki (Kk e) (I.ok.cab x c hfn hc)))).trans e1⟩
  ·by_cases hj:j=i
   ·subst hj
    rw[hi] at e1;cases e1;rw[List.getElem?_set_self hiσ] at e2;cases e2;exact⟨u,r,.inr ⟨.inl hk,c,hc,hc'⟩⟩
   ·rw[List.getElem?_set_ne (Ne.symm hj)] at e2
    obtain⟨u',r',q⟩:=hl j y v' e1 e2 e3;refine⟨u',r',?_⟩;rcases q with q|⟨k,c',e,z'⟩
    ·exact .inl q
    ·refine .inr ⟨k,c',e,z'.sameBut hs ?_⟩
     rintro rfl;exact hj (zbu hN e1 (I.ok.inj _ _ _ e hc▸hi))
  ·by_cases hcc:c'=c
   ·subst hcc;exact⟨_,hc'⟩
   ·obtain⟨w2,z2⟩:=I.cell y c' e
    exact⟨w2,z2.sameBut hs hcc⟩
  ·obtain⟨e,n,ne,nf,d⟩:=I.pin p hp
   refine⟨(hs.2 p.1 ?_).trans e,n,ne,nf,d⟩;intro q;rw[q,hoc] at e;have q':oc=p.2:=Kn e;exact d w' (by rw[<-q'];exact hocd)
theorem zbw{M:Model}{A:Around}{E:Value->Shared->Prop}{i:Nat}{x:Str}{v:V}{u:Value}{Q:Unit->Shared->Prop}(I:Inv X pins σ H s)(hN:X.N.Nodup)(hi:X.N[i]? =some x)(hx:wM X.env.scope x)(r:RelV v u)
  (h: ∀s',Inv X pins (σ.set i (some v)) H s'->Q () s') (hf:X.fn x=true\/X.env.scope.names.lookup x=some .local:=by first|exact .inl rfl|exact .inr rfl|assumption):wpAny M A (storeName X.env x u) Q E s:=
 zbv I hN hi hx r (fun s' I' _=>h s' I') hf
theorem Inv.call'{s':Shared}{ch:List Addr}(I:Inv X pins σ H s)(ho:s'.os=s.os)(u:Un (wV X.stack) ch H H' s.heap s'.heap)(hok:HOk X.prog X.w H' s'.heap)(hg:AllBare s'.gens)
  (hch: ∀b∈ch,(b∈X.ex\/X.s₀.heap.objs.size<=b)/\b≠X.env.locals/\(∀x c,X.env.cells.lookup x=some c->c≠b)/\∀p∈X.pn++pins,p.1≠b):Inv X pins σ H' s':=by
 obtain⟨h',g',d',t',o'⟩:=s';have e:o'=s.os:=ho;subst e;exact I.call (g':=g') (t':=t') (d':=d') u hok hg hch
end
noncomputable abbrev XK:=Value->Option Addr->Hp->Prop
noncomputable abbrev St:=List (Option V)
noncomputable abbrev VK:=V->Hp->Prop
noncomputable abbrev TE:=St->Hp->VK->Prop
noncomputable abbrev TT:=St->Hp->(Bool->Hp->Prop)->Prop
noncomputable abbrev TA:=St->Hp->(List V->Hp->Prop)->Prop
structure Ends where
 nx:St->Hp->Prop
 rt:VK
 bk:St->Hp->Prop:=fun _ _=>False
 ct:St->Hp->Prop:=fun _ _=>False
noncomputable abbrev TS:=Ends->St->Hp->Prop
noncomputable def EP(X:Cx)(pins:List (Addr×Obj))(σ:St)(Q:VK)(u:Value)(s':Shared):Prop:=∃v H',Inv X pins σ H' s'/\RelV v u/\Q v H'
noncomputable def TP(X:Cx)(pins:List (Addr×Obj))(σ:St)(Q:Bool->Hp->Prop)(b:Bool)(s':Shared):Prop:=∃H',Inv X pins σ H' s'/\Q b H'
noncomputable def AP(X:Cx)(pins:List (Addr×Obj))(σ:St)(Q:List V->Hp->Prop)(us:List Value)(s':Shared):Prop:=∃vs H',Inv X pins σ H' s'/\Vals vs us/\Q vs H'
noncomputable def SP(X:Cx)(pins:List (Addr×Obj))(D:Ends)(f:Flow)(s':Shared):Prop:=
 match f with
 | .next=>∃σ' H',Inv X pins σ' H' s'/\D.nx σ' H'
 | .brk=>∃σ' H',Inv X pins σ' H' s'/\D.bk σ' H'
 | .cont=>∃σ' H',Inv X pins σ' H' s'/\D.ct σ' H'
 | .ret u=>∃v σ' H',Inv X pins σ' H' s'/\RelV v u/\D.rt v H'
noncomputable def PE(X:Cx)(e:Expr)(t:TE):Prop:=
 ∀(pins:List (Addr×Obj)) (s:Shared) (σ:St) (H:Hp) (Q:VK),Inv X pins σ H s->t σ H Q->wpAny (model X.prog X.w) X.A (eval e X.env) (EP X pins σ Q) X.xe s
noncomputable def PT(X:Cx)(e:Expr)(t:TT):Prop:=
 ∀(pins:List (Addr×Obj)) (s:Shared) (σ:St) (H:Hp) (Q:Bool->Hp->Prop),Inv X pins σ H s->t σ H Q->wpAny (model X.prog X.w) X.A (isTrue e X.env (eval e X.env)) (TP X pins σ Q) X.xe s
noncomputable def PW(X:Cx)(e:Expr)(t:TT):Prop:=
 ∀(whole:Sem Value) (pins:List (Addr×Obj)) (s:Shared) (σ:St) (H:Hp) (Q:Bool->Hp->Prop),Inv X pins σ H s->t σ H Q->wpAny (model X.prog X.w) X.A (isTrue e X.env whole) (TP X pins σ Q) X.xe s
theorem PW.pt{X:Cx}{e:Expr}{t:TT}(h:PW X e t):PT X e t:=h _
noncomputable def PA(X:Cx)(es:List Expr)(t:TA):Prop:=
 ∀(pos:Pos) (pins:List (Addr×Obj)) (s:Shared) (σ:St) (H:Hp) (Q:List V->Hp->Prop),Inv X pins σ H s->t σ H Q->wpAny (model X.prog X.w) X.A (spliced (backTo pos (starEach es X.env))) (AP X pins σ Q) X.xe s
noncomputable def PS(X:Cx)(st:Stmt)(t:TS):Prop:=
 ∀(pins:List (Addr×Obj)) (s:Shared) (σ:St) (H:Hp) (D:Ends),Inv X pins σ H s->t D σ H->wpAny (model X.prog X.w) X.A (exec st X.env) (SP X pins D) X.xe s
noncomputable def PSs(X:Cx)(st:List Stmt)(t:TS):Prop:=
 ∀(pins:List (Addr×Obj)) (s:Shared) (σ:St) (H:Hp) (D:Ends),Inv X pins σ H s->t D σ H->wpAny (model X.prog X.w) X.A (execs st X.env) (SP X pins D) X.xe s
theorem zt{α:Type}{t:Sem α}{Q Q':α->Shared->Prop}{M:Model}{A:Around}{E:Value->Shared->Prop}{s:Shared}(h:wpAny M A t Q E s)(hQ: ∀a s,Q a s->Q' a s):wpAny M A t Q' E s:=Kd h hQ fun _ _ x=>x
end L2
namespace L2
open PySem PySem.Spec PyProof.Rows
section
variable {X:Cx}
noncomputable def zh3(i:Nat):TE:=fun σ H Q=>∃v,σ[i]? =some (some v)/\Q v H
noncomputable def tC(v:V):TE:=fun _ H Q=>Q v H
theorem vG{i:Nat}{x:Str}{pos:Pos}(hN:X.N[i]? =some x)(hv:wq X.env.scope x)(hd:(x==("__debug__":Str))=false:=by decide)(hcd:(x==("__classdict__":Str))=false:=by decide):PE X (.Name x pos) (zh3 i):=by
 intro pins s σ H Q I h;obtain⟨v,e,h⟩:=h;obtain⟨m,hn,hl⟩:=I.loc;obtain⟨u,r,l⟩:=hl i x v hN e hv;have fin:EP X pins σ Q u s:=⟨v,H,I,r,h⟩;rcases l with ⟨hk,hm⟩|⟨hk,c,hc,vH⟩
 ·exact wpAny_Name (wpAny_loadName_local I.ok.kind hk hn hm fin) hd
 ·rcases hk with hk|hk
  ·exact wpAny_Name (wpAny_loadName_cell I.ok.kind hk hc vH fin) hd
  ·exact wpAny_Name (wpAny_loadName_free I.ok.kind hk hc vH fin hcd) hd
theorem zh4{i j pos}:PE X (.Constant (.int i) j pos) (tC (.int i)):=fun _ _ _ H _ I h=>wpAny_Constant_int ⟨.int i,H,I.tok _,⟨_,rfl⟩,h⟩
theorem zh5{b j pos}:PE X (.Constant (.bool b) j pos) (tC (.bl b)):=fun _ _ _ H _ I h=>Constant_bool ⟨.bl b,H,I,rfl,h⟩
theorem zh6{j pos}:PE X (.Constant .none j pos) (tC .non):=fun _ _ _ H _ I h=>Constant_none ⟨.non,H,I,rfl,h⟩
theorem zh7{x j pos}:PE X (.Constant (.str x) j pos) (tC (.str x)):=fun _ _ _ H _ I h=>Calls.Constant_str ⟨.str x,H,I.tok _,⟨_,rfl⟩,h⟩
noncomputable def Gl(X:Cx)(x:Str):Prop:=X.env.kindOf x=some .globalImplicit
theorem zbx{E:Value->Shared->Prop}{pins:List (Addr×Obj)}{s:Shared}{σ:St}{H:Hp}{x:Str}{u:Value}{pos:Pos}{Q:Value->Shared->Prop}(I:Inv X pins σ H s)(hg:Gl X x)(hm:X.mg x=some u)(h:Q u s)
  (hd:(x==("__debug__":Str))=false:=by decide):wpAny (model X.prog X.w) X.A (eval (.Name x pos) X.env) Q E s:=
 Calls.Name_function_global I.ok.kind hg (Calls.loadGlobal_global (by rw[I.ok.glob];exact I.mod.glob.keeps I.bk) hm h) hd
theorem Zh{E:Value->Shared->Prop}{pins:List (Addr×Obj)}{s:Shared}{σ:St}{H:Hp}{x:Str}{u:Value}{pos:Pos}{Q:Value->Shared->Prop}(I:Inv X pins σ H s)(hg:Gl X x)(hm:X.mg x=none)(hv:bootBuiltins x=some u)(h:Q u s)
  (hn:x≠"__name__":=by decide) (hd:(x==("__debug__":Str))=false:=by decide):wpAny (model X.prog X.w) X.A (eval (.Name x pos) X.env) Q E s:=by
 obtain⟨mb,h1,h2⟩:=I.mod.blt;exact Calls.Name_function_global I.ok.kind hg (Calls.loadGlobal_builtin (by rw[I.ok.glob];exact I.mod.glob.keeps I.bk) hm (by rw[I.ok.blt];exact h1.keeps I.bk) ((h2 x hn).trans hv) h) hd
theorem zh8{x:Str}{v:V}{u:Value}{pos:Pos}(hg:Gl X x)(hm:X.mg x=some u)(r:RelV v u)(hd:(x==("__debug__":Str))=false:=by decide):PE X (.Name x pos) (tC v):=
 fun _ _ _ H _ I h=>zbx I hg hm ⟨v,H,I,r,h⟩ hd
theorem zh9{x:Str}{v:V}{u:Value}{pos:Pos}(hg:Gl X x)(hm:X.mg x=none)(hv:bootBuiltins x=some u)(r:RelV v u)(hn:x≠"__name__":=by decide)(hd:(x==("__debug__":Str))=false:=by decide):PE X (.Name x pos) (tC v):=
 fun _ _ _ H _ I h=>Zh I hg hm hv ⟨v,H,I,r,h⟩ hn hd
variable {a b:Expr} {ta tb:TE} {pos:Pos}
noncomputable def PC(X:Cx)(op:CmpOp)(a b:Expr)(t:TE):Prop:=
 ∀(pins:List (Addr×Obj)) (s:Shared) (σ:St) (H:Hp) (Q:VK),Inv X pins σ H s->t σ H Q->
  wpAny (model X.prog X.w) X.A (eval a X.env) (fun v s₁=>wpAny (model X.prog X.w) X.A (eval b X.env) (fun u s₂=>wpAny (model X.prog X.w) X.A (compareOp op v u) (EP X pins σ Q) X.xe s₂) X.xe s₁) X.xe s
theorem zby(b:Expr){op:CmpOp}(h:op≠ .In)(h2:op≠ .NotIn):behindInMarks op b=false:=by
 have e1:(op==CmpOp.In)=false:=by cases op<;>first|rfl|exact KC rfl h
 have e2:(op==CmpOp.NotIn)=false:=by cases op<;>first|rfl|exact KC rfl h2
 cases b<;>simp[behindInMarks,e1,e2]
noncomputable def zia(ta:TE):TE:=fun σ H Q=>ta σ H fun x H1=>Q (.bl (decide (x= .non))) H1
noncomputable def zib(ta:TE):TE:=fun σ H Q=>ta σ H fun x H1=>Q (.bl (!decide (x= .non))) H1
theorem RelV.none_iff{x:V}{v:Value}(r:RelV x v):(v==Value.none)=decide (x= .non):=by
 cases x with
 |non=>cases r;rfl
 |bl _=>cases r;rfl
 |int _=>obtain⟨t,rfl⟩:=r;rfl
 |str _=>obtain⟨t,rfl⟩:=r;rfl
 |byt _=>obtain⟨t,rfl⟩:=r;rfl
 |flt _=>obtain⟨t,rfl⟩:=r;rfl
 |ref _=>cases r;rfl
 |ty _=>cases r;rfl
theorem zbz{j pos'}(ha:PE X a ta):PC X .Is a (.Constant .none j pos') (zia ta):=by
 intro pins s σ H Q I h;refine zt (ha pins s σ H _ I h) fun v s1 ⟨x,H1,I1,r1,q1⟩=>?_
 exact Constant_none (is_none_gen ⟨.bl _,H1,I1,by rw[r1.none_iff];rfl,q1⟩)
theorem zic{j pos'}(ha:PE X a ta):PC X .IsNot a (.Constant .none j pos') (zib ta):=by
 intro pins s σ H Q I h;refine zt (ha pins s σ H _ I h) fun v s1 ⟨x,H1,I1,r1,q1⟩=>?_
 exact Constant_none (isnot_none_gen ⟨.bl _,H1,I1,by rw[r1.none_iff];rfl,q1⟩)
noncomputable def tB(t:TE):TT:=fun σ H Q=>t σ H fun x H1=>∃c,x= .bl c/\Q c H1
theorem zid{op:CmpOp}{t:TE}(h:PC X op a b t)(h1:behindInMarks op b=false:=by first|exact zby _ (by decide) (by decide)|rfl):PE X (.Compare a [op] [b] pos) t:=fun pins s σ H Q I hw=>wpAny_Compare1 (h pins s σ H Q I hw) h1
theorem zbA{op:CmpOp}{t:TE}(h:PC X op a b t)(h1:behindInMarks op b=false:=by first|exact zby _ (by decide) (by decide)|rfl):PT X (.Compare a [op] [b] pos) (tB t):=by
 intro pins s σ H Q I hw;refine wpAny_isTrue_Compare1 (zt (h pins s σ H _ I hw) fun v s1 h1=>zt h1 fun u s2 h2=>zt h2 fun c s3 ⟨x,H1,I1,r1,q1⟩=>?_) h1;obtain⟨d,rfl,q⟩:=q1;cases r1;exact wpAny_truthy_bool ⟨H1,I1,q⟩
variable {tA tB':TT} {zP:List Expr}
noncomputable def zie(t u:TT):TT:=fun σ H Q=>t σ H fun c H1=>if c=true then u σ H1 Q else Q false H1
noncomputable def zif(t u:TT):TT:=fun σ H Q=>t σ H fun c H1=>if c=true then Q true H1 else u σ H1 Q
noncomputable def zig(t:TT):TT:=fun σ H Q=>t σ H fun c H1=>Q (!c) H1
theorem zih(ha:PT X a tA):PW X (.BoolOp .And [a] pos) tA:=by
 intro wh pins s σ H Q I h;refine isTrue_and (zt (ha pins s σ H Q I h) fun c s1 e=>?_)
 cases c with
 |true=>exact isTrue_and_nil e
 |false=>exact e
theorem zbB(ha:PT X a tA):PW X (.BoolOp .Or [a] pos) tA:=by
 intro wh pins s σ H Q I h;refine isTrue_or (zt (ha pins s σ H Q I h) fun c s1 e=>?_)
 cases c with
 |false=>exact isTrue_or_nil e
 |true=>exact e
theorem zii(ha:PT X a tA)(hb:PW X (.BoolOp .And (b::zP) pos) tB'):PW X (.BoolOp .And (a::b::zP) pos) (zie tA tB'):=by
 intro wh pins s σ H Q I h;refine isTrue_and (zt (ha pins s σ H _ I h) fun c s1 ⟨H1,I1,q1⟩=>?_)
 cases c with
 |true=>exact hb wh pins s1 σ H1 Q I1 q1
 |false=>exact⟨H1,I1,q1⟩
theorem zbC(ha:PT X a tA)(hb:PW X (.BoolOp .Or (b::zP) pos) tB'):PW X (.BoolOp .Or (a::b::zP) pos) (zif tA tB'):=by
 intro wh pins s σ H Q I h;refine isTrue_or (zt (ha pins s σ H _ I h) fun c s1 ⟨H1,I1,q1⟩=>?_)
 cases c with
 |true=>exact⟨H1,I1,q1⟩
 |false=>exact hb wh pins s1 σ H1 Q I1 q1
theorem zij(ha:PT X a tA):PT X (.UnaryOp .Not a pos) (zig tA):=by
 intro pins s σ H Q I h;exact isTrue_not (ha pins s σ H (fun c H1=>Q (!c) H1) I h)
noncomputable def zik(ta tb:TE):TE:=fun σ H Q=>ta σ H fun x H1=>∃c,x= .bl c/\if c=true then tb σ H1 Q else Q (.bl false) H1
theorem zil{op}{t:TE}(h:PE X a t):PE X (.BoolOp op [a] pos) t:=fun pins s σ H Q I hw=>BoolOp_one (h pins s σ H Q I hw)
theorem zim(ha:PE X a ta)(hb:PE X (.BoolOp .And (b::zP) pos) tb):PE X (.BoolOp .And (a::b::zP) pos) (zik ta tb):=by
 intro pins s σ H Q I h;refine BoolOp_and (zt (ha pins s σ H _ I h) fun v s1 ⟨x,H1,I1,r1,q1⟩=>?_);obtain⟨c,rfl,q1⟩:=q1;cases r1;refine wpAny_truthy_bool ?_
 cases c with
 |true=>exact hb pins s1 σ H1 Q I1 q1
 |false=>exact⟨.bl false,H1,I1,rfl,q1⟩
end
end L2
namespace L2
open PySem PySem.Spec PyProof.Rows
noncomputable def SqL(K:Ka)(H:Hp)(a:Addr)(xs:List V):Prop:=
 Rd H a (.lst xs)\/
  ∃(o:Obj) (its:Array Value) (n:Nat),K.lookup a=some o/\o.cls= .type "list"/\o.dict=none/\o.data= .seq its n/\its.size<=sizeLine/\Vals xs its.toList
noncomputable def SqT(K:Ka)(H:Hp)(a:Addr)(xs:List V):Prop:=
 Rd H a (.tup xs)\/
  ∃(o:Obj) (its:Array Value) (n:Nat),K.lookup a=some o/\o.cls= .type "tuple"/\o.data= .seq its n/\its.size<=sizeLine/\Vals xs its.toList
noncomputable def zin:Value->Option V
 | .none=>some .non
 | .bool b=>some (.bl b)
 | .int i _=>some (.int i)
 | .str x _=>some (.str x)
 | .bytes b _=>some (.byt b)
 | .float b _=>some (.flt b)
 | .ref a=>some (.ref a)
 | .type n=>some (.ty n)
 |_=>none
theorem RelV.abs{x:V}{u:Value}(r:RelV x u):zin u=some x:=by
 cases x with
 |non=>cases r;rfl
 |bl _=>cases r;rfl
 |int _=>obtain⟨t,rfl⟩:=r;rfl
 |str _=>obtain⟨t,rfl⟩:=r;rfl
 |byt _=>obtain⟨t,rfl⟩:=r;rfl
 |flt _=>obtain⟨t,rfl⟩:=r;rfl
 |ref _=>cases r;rfl
 |ty _=>cases r;rfl
theorem RelV.inj{x y:V}{u:Value}(r:RelV x u)(q:RelV y u):x=y:=Kn (r.abs.symm.trans q.abs)
theorem Vals.inj: ∀{xs ys:List V} {us:List Value},Vals xs us->Vals ys us->xs=ys
 |_,_,_,.nil,.nil=>rfl
 |_,_,_,.cons r t,.cons r' t'=>by rw[r.inj r',Vals.inj t t']
section
variable {X:Cx} {pins:List (Addr×Obj)} {σ:St} {H:Hp} {s:Shared} {a:Addr} {xs ys:List V}
theorem SqL.of{K:Ka}(h:H a=some (.lst xs)):SqL K H a xs:=.inl (.inl h)
theorem SqT.of{K:Ka}(h:H a=some (.tup xs)):SqT K H a xs:=.inl (.inl h)
theorem Inv.list(I:Inv X pins σ H s)(h:SqL X.K H a xs): ∃its:List Value,Vals xs its/\PlainL s.heap a its.toArray/\xs.length<=sizeLine:=by
 rcases h with h|⟨o,its,n,hk,hc,hd,hs,hz,r⟩
 ·obtain⟨z,its,n,r,e⟩:=h.ok I.hok
  exact⟨its,r,⟨_,n,e,rfl,rfl,rfl⟩,z⟩
 ·refine⟨its.toList,r,⟨o,n,I.kIn a o hk,hc,hd,by simpa using hs⟩,?_⟩
  have e:=r.length;simp only[Array.length_toList] at e;omega
theorem Inv.tuple(I:Inv X pins σ H s)(h:SqT X.K H a xs): ∃its:List Value,Vals xs its/\IsTup s.heap a its.toArray/\xs.length<=sizeLine:=by
 rcases h with h|⟨o,its,n,hk,hc,hs,hz,r⟩
 ·obtain⟨z,its,r,p⟩:=h.ok I.hok
  exact⟨its,r,p,z⟩
 ·refine⟨its.toList,r,⟨o,I.kIn a o hk,hc,n,by simpa using hs⟩,?_⟩
  have e:=r.length;simp only[Array.length_toList] at e;omega
theorem Inv.list_inj(I:Inv X pins σ H s)(h:SqL X.K H a xs)(h':SqL X.K H a ys):xs=ys:=by
 obtain⟨its,r,⟨o,n,e,_,_,d⟩,_⟩:=I.list h;obtain⟨its',r',⟨o',n',e',_,_,d'⟩,_⟩:=I.list h';rw[e] at e';cases e';rw[d] at d';injection d' with d1 _;have:its=its':=by simpa using congrArg Array.toList d1
 subst this;exact r.inj r'
theorem Inv.tuple_inj(I:Inv X pins σ H s)(h:SqT X.K H a xs)(h':SqT X.K H a ys):xs=ys:=by
 obtain⟨its,r,⟨o,e,_,n,d⟩,_⟩:=I.tuple h;obtain⟨its',r',⟨o',e',_,n',d'⟩,_⟩:=I.tuple h';rw[e] at e';cases e';rw[d] at d';injection d' with d1 _;have:its=its':=by simpa using congrArg Array.toList d1
 subst this;exact r.inj r'
end
noncomputable abbrev Cx.wish(X:Cx)(E:Value->Shared->Prop):Cx:={ X with xe:=E }
noncomputable abbrev Cx.nox(X:Cx):Cx:=X.wish fun _ _=>False
theorem Cx.Ok.wish{X:Cx}(ok:X.Ok)(E:Value->Shared->Prop):(X.wish E).Ok:=
 ⟨ok.mod,ok.kind,ok.glob,ok.blt,ok.above,ok.inj,ok.has,ok.cab,ok.hd,ok.frames,ok.stk,ok.exf,ok.bs,ok.bsz,ok.noex,ok.exfs,ok.funs,ok.frf⟩
theorem Cx.Ok.unwish{X:Cx}{E:Value->Shared->Prop}(ok:(X.wish E).Ok):X.Ok:=
 ⟨ok.mod,ok.kind,ok.glob,ok.blt,ok.above,ok.inj,ok.has,ok.cab,ok.hd,ok.frames,ok.stk,ok.exf,ok.bs,ok.bsz,ok.noex,ok.exfs,ok.funs,ok.frf⟩
section
variable {X:Cx} {pins:List (Addr×Obj)} {σ:St} {H:Hp} {s:Shared} {E:Value->Shared->Prop}
theorem Inv.wish(I:Inv X pins σ H s)(E:Value->Shared->Prop):Inv (X.wish E) pins σ H s:=⟨I.ok.wish E,I.os,I.bare,I.base,I.loc,I.cell,I.free,I.freeC,I.pin,I.hok,I.len⟩
theorem Inv.unwish(I:Inv (X.wish E) pins σ H s):Inv X pins σ H s:=⟨I.ok.unwish,I.os,I.bare,I.base,I.loc,I.cell,I.free,I.freeC,I.pin,I.hok,I.len⟩
theorem SP.unwish{D:Ends}{f:Flow}{s':Shared}(h:SP (X.wish E) pins D f s'):SP X pins D f s':=by
 cases f with
 |next=>obtain⟨σ',H',I,q⟩:=h;exact⟨σ',H',I.unwish,q⟩
 |brk=>obtain⟨σ',H',I,q⟩:=h;exact⟨σ',H',I.unwish,q⟩
 |cont=>obtain⟨σ',H',I,q⟩:=h;exact⟨σ',H',I.unwish,q⟩
 |ret u=>obtain⟨v,σ',H',I,r,q⟩:=h;exact⟨v,σ',H',I.unwish,r,q⟩
theorem PSs.nox{st:List Stmt}{t:TS}(h:PSs X.nox st t):PSs X st t:=fun pins s σ H D I hw=>
 Kd (h pins s σ H D (I.wish _) hw) (fun _ _ q=>q.unwish) fun _ _ z=>False.elim z
end
section
variable {X:Cx} {st:Stmt} {zP:List Stmt} {t u:TS} {e:Expr} {te:TE} {pos:Pos}
noncomputable def zio:TS:=fun D σ H=>D.nx σ H
noncomputable def ziq(t u:TS):TS:=fun D σ H=>t { D with nx:=u D } σ H
theorem zir:PSs X [] zio:=fun _ _ σ H _ I h=>wpAny_execs_nil ⟨σ,H,I,h⟩
theorem zis(h1:PS X st t)(h2:PSs X zP u):PSs X (st::zP) (ziq t u):=by
 intro pins s σ H D I h;refine wpAny_execs_cons (zt (h1 pins s σ H { D with nx:=u D } I h) fun f s1 q=>?_)
 cases f with
 |next=>
  obtain⟨σ',H',I',q⟩:=q;exact h2 pins s1 σ' H' D I' q
 |ret v=>exact q
 |brk=>exact q
 |cont=>exact q
theorem Inv.quiet{pins:List (Addr×Obj)}{σ:St}{H:Hp}{s:Shared}(I:Inv X pins σ H s):interactive X.env=false:=by simp[interactive,I.ok.kind]
noncomputable def zit(te:TE):TS:=fun D σ H=>te σ H fun _ H1=>D.nx σ H1
theorem JH(he:PE X e te)(hs:swapsWith e none pos.line X.env=pure false:=by rfl):PS X (.Expr e pos) (zit te):=by
 intro pins s σ H D I h;exact wpAny_Expr_any (zt (he pins s σ H _ I h) fun v s1 ⟨x,H1,I1,r1,q1⟩=>⟨σ,H1,I1,q1⟩) I.quiet hs
noncomputable def ziu(te:TE):TS:=fun D σ H=>te σ H D.rt
theorem zbD(he:PE X e te):PS X (.Return (some e) pos) (ziu te):=by
 intro pins s σ H D I h;exact wpAny_Return_some (zt (he pins s σ H _ I h) fun v s1 ⟨x,H1,I1,r1,q1⟩=>⟨x,σ,H1,I1,r1,q1⟩)
noncomputable def ziv(c:TT)(t u:TS):TS:=fun D σ H=>c σ H fun b H1=>if b=true then t D σ H1 else u D σ H1
theorem zbE{c:Expr}{a b:List Stmt}{tc:TT}(hc:PT X c tc)(ha:PSs X a t)(hb:PSs X b u):PS X (.If c a b pos) (ziv tc t u):=by
 intro pins s σ H D I h;refine wpAny_If (zt (hc pins s σ H _ I h) fun d s1 ⟨H1,I1,q1⟩=>?_)
 cases d with
 |true=>exact ha pins s1 σ H1 D I1 q1
 |false=>exact hb pins s1 σ H1 D I1 q1
noncomputable def ziw:TS:=fun _ _ _=>False
theorem zix:PS X st ziw:=fun _ _ _ _ _ _ h=>h.elim
end
noncomputable abbrev TG:=V->St->Hp->(St->Hp->Prop)->Prop
noncomputable abbrev Zi:=List V->St->Hp->(St->Hp->Prop)->Prop
noncomputable def PG(X:Cx)(target:Expr)(t:TG):Prop:=
 ∀(pins:List (Addr×Obj)) (s:Shared) (σ:St) (H:Hp) (v:V) (u:Value) (Q:St->Hp->Prop),Inv X pins σ H s->RelV v u->t v σ H Q->
  wpAny (model X.prog X.w) X.A (assign target X.env u) (fun _ s'=>∃σ' H',Inv X pins σ' H' s'/\Q σ' H') X.xe s
noncomputable def JI(X:Cx)(ts:List Expr)(t:Zi):Prop:=
 ∀(pins:List (Addr×Obj)) (s:Shared) (σ:St) (H:Hp) (vs:List V) (us:List Value) (Q:St->Hp->Prop),Inv X pins σ H s->Vals vs us->t vs σ H Q->
  wpAny (model X.prog X.w) X.A (assignInOrder ((assignEach ts X.env).map (·.2)) us) (fun _ s'=>∃σ' H',Inv X pins σ' H' s'/\Q σ' H') X.xe s
section
variable {X:Cx} {pos:Pos}
noncomputable def Xc(i:Nat):TG:=fun v σ H Q=>Q (σ.set i (some v)) H
theorem ZX{i:Nat}{x:Str}(hN:X.N.Nodup)(hi:X.N[i]? =some x)(hx:wM X.env.scope x)(hf:X.fn x=true\/X.env.scope.names.lookup x=some .local:=by first|exact .inl rfl|exact .inr rfl|assumption):PG X (.Name x pos) (Xc i):=by
 intro pins s σ H v u Q I r h;exact wpAny_assign_Name (zbw I hN hi hx r (fun s' I'=>⟨_,H,I',h⟩) hf)
noncomputable def zbF:Zi:=fun vs σ H Q=>vs=[]/\Q σ H
noncomputable def qu(t:TG)(u:Zi):Zi:=fun vs σ H Q=>∃v r,vs=v::r/\t v σ H fun σ' H'=>u r σ' H' Q
theorem ziy:JI X [] zbF:=by
 intro pins s σ H vs us Q I r h;obtain⟨e,h⟩:=h;subst e;cases r;exact assignInOrder_nil ⟨σ,H,I,h⟩
theorem zbG{e:Expr}{es:List Expr}{t:TG}{u:Zi}(h1:PG X e t)(h2:JI X es u)
  (hs:(assignEach (e::es) X.env).map (·.2)=assign e X.env::(assignEach es X.env).map (·.2):=by rfl):JI X (e::es) (qu t u):=by
 intro pins s σ H vs us Q I r h;obtain⟨v,vr,e1,h⟩:=h;subst e1
 cases r with
 |cons r rr=>
  rw[hs];refine assignInOrder_cons (zt (h1 pins s σ H _ _ _ I r h) fun _ s1 ⟨σ1,H1,I1,q1⟩=>?_);exact h2 pins s1 σ1 H1 _ _ Q I1 rr q1
noncomputable def zbH(K:Ka)(n:Nat)(t:Zi):TG:=fun v σ H Q=>∃a xs,v= .ref a/\SqT K H a xs/\xs.length=n/\t xs σ H Q
theorem ziz{es:List Expr}{k:Nat}{t:Zi}{n:Nat}(hc:X.calm=true)(h:JI X es t)
  (hn:(assignEach es X.env).length=n:=by rfl) (hst:(assignEach es X.env).findIdx? (·.1)=none:=by rfl):PG X (.Tuple es k pos) (zbH X.K n t):=by
 intro pins s σ H v u Q I r hw;obtain⟨a,xs,e1,hq,hl,hw⟩:=hw;subst e1;cases r;obtain⟨its,rv,ht,hz⟩:=I.tuple hq;refine assign_Tuple_tuple (I.ok.hd hc) ht (by simp[hn,<-hl,rv.length]) hst fun h' hx=>?_
 have I1:Inv X pins σ H { s with heap:=h' }:=I.kept (t':=s.toks) fun b o e=>hx b o (Kh (Kk e)) e
 exact h pins _ σ H xs _ Q I1 (by simpa using rv) hw
noncomputable def ziA(te:TE)(g:TG):TS:=fun D σ H=>te σ H fun x H1=>g x σ H1 D.nx
theorem zbI{i:Nat}{x:Str}{e:Expr}{te:TE}{pos':Pos}(hN:X.N.Nodup)(hi:X.N[i]? =some x)(hx:wM X.env.scope x)(he:PE X e te)(hs:swapsWith e (some (.Name x pos')) pos.line X.env=pure false:=by rfl)(hf:X.fn x=true\/X.env.scope.names.lookup x=some .local:=by first|exact .inl rfl|exact .inr rfl|assumption):
  PS X (.Assign [.Name x pos'] e pos) (ziA te (Xc i)):=by
 intro pins s σ H D I h;refine wpAny_Assign_Name (zt (he pins s σ H _ I h) fun v s1 ⟨y,H1,I1,r1,q1⟩=>?_) hs;exact zbw I1 hN hi hx r1 (fun s2 I2=>⟨_,H1,I2,q1⟩) hf
end
section
variable {X:Cx} {pos:Pos}
noncomputable def ziB(c:TT)(tb:TS):TS:=fun D σ H=>∃W:Nat->St->Hp->Prop,(∃m,W m σ H)/\∀m σ H,W m σ H->
 c σ H fun b H1=>if b=true then ∃N:St->Hp->Prop,(∀σ' H',N σ' H'->∃m',m'<m/\W m' σ' H')/\tb { D with nx:=N,ct:=N,bk:=D.nx } σ H1 else D.nx σ H1
theorem ziC{c:Expr}{body:List Stmt}{tc:TT}{tb:TS}(hp:PassesOwn (model X.prog X.w) X.A X.env X.xe)(hc:PT X c tc)(hb:PSs X body tb):PS X (.While c body [] pos) (ziB tc tb):=by
 intro pins s σ H D I h;obtain⟨W,⟨m0,w0⟩,turn⟩:=h;refine wpAny_While (codeAny_whileLoop (fun n s'=>∃σ' H',Inv X pins σ' H' s'/\W n σ' H') ?_ m0 ⟨σ,H,I,w0⟩);rintro n s1 ⟨σ1,H1,I1,w1⟩;refine wpAny_passesOwn hp (zt (hc pins s1 σ1 H1 _ I1 (turn n σ1 H1 w1)) fun b s2 ⟨H2,I2,q2⟩=>?_)
 cases b with
 |true=>
  obtain⟨N,hN,q2⟩:=q2;rw[if_pos rfl];refine wpAny_passesOwn hp (zt (hb pins s2 σ1 H2 _ I2 q2) fun f s3 q3=>?_)
  cases f with
  |next=>
   obtain⟨σ3,H3,I3,n3⟩:=q3;obtain⟨m',hm,w3⟩:=hN σ3 H3 n3;exact⟨m',hm,σ3,H3,I3,w3⟩
  |cont=>
   obtain⟨σ3,H3,I3,n3⟩:=q3;obtain⟨m',hm,w3⟩:=hN σ3 H3 n3;exact⟨m',hm,σ3,H3,I3,w3⟩
  |brk=>exact q3
  |ret v=>exact q3
 |false=>
  rw[if_neg Km];exact wpAny_execs_nil ⟨σ1,H2,I2,q2⟩
end
structure It where
 go:Nat->Hp->Prop
 yld:Nat->Hp->V->Hp->Prop
 stop:Nat->Hp->Prop
noncomputable def xU(X:Cx)(pins:List (Addr×Obj))(H:Hp)(b:Addr):Prop:=
 H b=none/\b≠X.env.locals/\b∉X.fs/\(b∈X.ex\/X.s₀.heap.objs.size<=b)/\(∀x c,X.env.cells.lookup x=some c->c≠b)/\∀p∈X.pn++pins,p.1≠b
theorem Inv.fpOk{X:Cx}{pins:List (Addr×Obj)}{σ:St}{H H':Hp}{s:Shared}{b:Addr}(I:Inv X pins σ H s)(hb:s.heap.objs.size<=b)(hn:H' b=none):xU X pins H' b:=by
 refine⟨hn,Nat.ne_of_gt (Ki I.lt hb),I.nofs hb,.inr (Kg I.sz hb),fun x c e z=>?_,fun p hp z=>?_⟩
 ·obtain⟨v,q⟩:=I.cell x c e
  exact KC (Ki q.lt (by rw[z];exact hb)) (Nat.lt_irrefl _)
 ·exact KC (Ki (Kk (I.pin p hp).1) (by rw[z];exact hb)) (Nat.lt_irrefl _)
structure Turn (P:Program)(w:World)(K:Ka)(tg:Expr)(J:It)(fp:List Addr)(it:Addr)(tn:Nat->Heap->Prop):Prop where
 mem:it∈fp
 obj: ∀i h,tn i h->∀b∈fp,∃o,h.get? b=some o/\∀v,o.data≠ .cell v
 keep: ∀i h h',tn i h->(∀b∈fp,∀o,h.get? b=some o->h'.get? b=some o)->tn i h'
 item: ∀(X:Cx),X.prog=P->X.w=w->X.K=K->X.calm=true->∀(i:Nat) (pins:List (Addr×Obj)) (s:Shared) (σ:St) (H:Hp) (E:Value->Shared->Prop),Inv X pins σ H s->(∀b∈fp,xU X pins H b)->tn i s.heap->J.go i H->
  wpAny (model P w) X.A (pyNext (.ref it)) (fun r s1=>∃u,r=some u/\
   wpAny (model P w) X.A (letOwnedTupleGo tg (.ref it) u) (fun _ s2=>∃x H',Inv X pins σ H' s2/\RelV x u/\J.yld i H x H'/\tn (i+1) s2.heap/\∀b∈fp,H' b=none) E s1) E s
 done: ∀(X:Cx),X.prog=P->X.w=w->X.K=K->X.calm=true->∀(i:Nat) (pins:List (Addr×Obj)) (s:Shared) (σ:St) (H:Hp) (E:Value->Shared->Prop),Inv X pins σ H s->(∀b∈fp,xU X pins H b)->tn i s.heap->J.stop i H->
  wpAny (model P w) X.A (pyNext (.ref it)) (fun r s1=>r=none/\Inv X pins σ H s1) E s
 self: ∀(A:Around) (i:Nat) (s:Shared) (Q:Value->Shared->Prop) (E:Value->Shared->Prop),tn i s.heap->Q (.ref it) s->wpAny (model P w) A (pyIter (.ref it)) Q E s
noncomputable abbrev TI:=St->Hp->(It->Hp->Prop)->Prop
noncomputable def zbJ(X:Cx)(pins:List (Addr×Obj))(σ:St)(tg:Expr)(R:It->Hp->Prop)(itv:Value)(s2:Shared):Prop:=
 ∃(it:Addr) (fp:List Addr) (tn:Nat->Heap->Prop) (J:It) (H':Hp),itv= .ref it/\Inv X pins σ H' s2/\Turn X.prog X.w X.K tg J fp it tn/\tn 0 s2.heap/\(∀b∈fp,xU X pins H' b)/\R J H'
noncomputable def PI(X:Cx)(tg iter:Expr)(wi:TI):Prop:=
 ∀(pins:List (Addr×Obj)) (s:Shared) (σ:St) (H:Hp) (R:It->Hp->Prop),Inv X pins σ H s->wi σ H R->
  wpAny (model X.prog X.w) X.A (eval iter X.env) (fun v s1=>wpAny (model X.prog X.w) X.A (pyIter v) (zbJ X pins σ tg R) X.xe s1) X.xe s
theorem Xd {M : Model} {A : Around} {E : Value → Shared → Prop} {s : Shared} {tg : Expr} {it : Addr} {u : Value} {o : Obj} {n : String} {vs : Array Value} {Q : Unit → Shared → Prop} (ho : s.heap.get? it = some o) (hc : o.cls = .type n) (hd : o.data = .fields vs)
    (hn : ["enumerate", "zip", "dict_itemiterator", "dict_reverseitemiterator", "odict_iterator", "itertools.zip_longest", "itertools.pairwise"].contains n = false) (hQ : Q () s) : wpAny M A (letOwnedTupleGo tg (.ref it) u) Q E s := by
  unfold letOwnedTupleGo
  cases tg <;> first
    | exact Kc hQ
    | (cases u <;> first
        | exact Kc hQ
        | (refine Kb (wpAny_load ho ?_)
           rw [hc, hd];show wpAny M A (if (["enumerate", "zip", "dict_itemiterator", "dict_reverseitemiterator", "odict_iterator", "itertools.zip_longest", "itertools.pairwise"].contains n && vs[0]? == some (rawInt _)) = true then _ else _) Q E s;rw [if_neg (by intro h; rw [hn, Bool.false_and] at h; cases h)];exact Kc hQ))
noncomputable def Xe(K:Ka)(a:Addr):It:=
 ⟨fun i H=>∃xs x,SqL K H a xs/\xs[i]? =some x,fun i H x H'=>H'=H/\∀xs,SqL K H a xs->xs[i]? =some x,fun i H=>∃xs,SqL K H a xs/\xs.length<=i⟩
noncomputable def Xf(K:Ka)(a:Addr):It:=
 ⟨fun i H=>∃xs x,SqT K H a xs/\xs[i]? =some x,fun i H x H'=>H'=H/\∀xs,SqT K H a xs->xs[i]? =some x,fun i H=>∃xs,SqT K H a xs/\xs.length<=i⟩
noncomputable def Zj(lo:Int)(n:Nat):It:=⟨fun i _=>i<n,fun i H x H'=>H'=H/\x= .int (lo+i),fun i _=>n<=i⟩
theorem ziD{P:Program}{w:World}{K:Ka}{tg:Expr}(a it:Addr):Turn P w K tg (Xe K a) [it] it (fun i h=>h.IsListIter it a i) where
 mem:=by simp
 obj:=fun i h st b hb=>by
  have e:b=it:=by simpa using hb
  subst e;obtain⟨o,e,c,d⟩:=st;exact⟨o,e,fun v z=>by rw[d] at z;cases z⟩
 keep:=fun i h h' st k=>st.at fun o e=>k it (by simp) o e
 item:=by
  intro X hP hw hK hc i pins s σ H E I hf st hg;subst hP hw hK;obtain⟨xs,x,hq,hx⟩:=hg;obtain⟨its,rv,p,hz⟩:=I.list hq;obtain⟨u,hu,ru⟩:=rv.get hx;obtain⟨f0,f1,f2,f3,f4,f5⟩:=hf it (by simp);refine wpAny_pyNext_list_item st p.isList (x:=u) (by simpa using hu) fun h' st' sb=>?_
  have I1:Inv X pins σ H { s with heap:=h' }:=I.turned (t':=s.toks) (fun b o hb e=>(sb.2 b hb).trans e) f0 f1 f3 f4 f5;obtain⟨o,e,c,d⟩:=id st';exact⟨u,rfl,Xd (s:={ s with heap:=h' }) e c d (by decide) ⟨x,H,I1,ru,⟨rfl,fun ys hy=>by rw[I.list_inj hy hq];exact hx⟩,st',fun b hb=>(hf b hb).1⟩⟩
 done:=by
  intro X hP hw hK hc i pins s σ H E I hf st hg;subst hP hw hK;obtain⟨xs,hq,hx⟩:=hg;obtain⟨its,rv,p,hz⟩:=I.list hq;obtain⟨f0,f1,f2,f3,f4,f5⟩:=hf it (by simp);have hl:=rv.length;exact wpAny_pyNext_list_end (I.ok.hd hc) st p.isList (by simp;omega) fun h' eb=>⟨rfl,I.turned (t':=s.toks) (fun b o hb e=>eb b o hb e) f0 f1 f3 f4 f5⟩
 self:=fun _ _ _ _ _ st h=>wpAny_pyIter_listiter st h
theorem ziE{P:Program}{w:World}{K:Ka}{tg:Expr}(a it:Addr):Turn P w K tg (Xf K a) [it] it (fun i h=>h.IsTupleIter it a i) where
 mem:=by simp
 obj:=fun i h st b hb=>by
  have e:b=it:=by simpa using hb
  subst e;obtain⟨o,e,c,d⟩:=st;exact⟨o,e,fun v z=>by rw[d] at z;cases z⟩
 keep:=fun i h h' st k=>st.at fun o e=>k it (by simp) o e
 item:=by
  intro X hP hw hK hc i pins s σ H E I hf st hg;subst hP hw hK;obtain⟨xs,x,hq,hx⟩:=hg;obtain⟨its,rv,p,hz⟩:=I.tuple hq;obtain⟨u,hu,ru⟩:=rv.get hx;obtain⟨f0,f1,f2,f3,f4,f5⟩:=hf it (by simp);refine wpAny_pyNext_tuple_item st (show s.heap.IsTuple a its.toArray from p) (x:=u) (by simpa using hu) fun h' st' sb=>?_
  have I1:Inv X pins σ H { s with heap:=h' }:=I.turned (t':=s.toks) (fun b o hb e=>(sb.2 b hb).trans e) f0 f1 f3 f4 f5;obtain⟨o,e,c,d⟩:=id st';exact⟨u,rfl,Xd (s:={ s with heap:=h' }) e c d (by decide) ⟨x,H,I1,ru,⟨rfl,fun ys hy=>by rw[I.tuple_inj hy hq];exact hx⟩,st',fun b hb=>(hf b hb).1⟩⟩
 done:=by
  intro X hP hw hK hc i pins s σ H E I hf st hg;subst hP hw hK;obtain⟨xs,hq,hx⟩:=hg;obtain⟨its,rv,p,hz⟩:=I.tuple hq;obtain⟨f0,f1,f2,f3,f4,f5⟩:=hf it (by simp);have hl:=rv.length;exact wpAny_pyNext_tuple_end (I.ok.hd hc) st (show s.heap.IsTuple a its.toArray from p) (by simp;omega) fun h' eb=>⟨rfl,I.turned (t':=s.toks) (fun b o hb e=>eb b o hb e) f0 f1 f3 f4 f5⟩
 self:=fun _ _ _ _ _ st h=>wpAny_pyIter_tupleiter st h
theorem ziF{P:Program}{w:World}{K:Ka}{tg:Expr}(it:Addr)(lo:Int)(n:Nat):Turn P w K tg (Zj lo n) [it] it (fun i h=>IsRangeIter h it (lo+(i:Nat)*1) ((n:Int)-(i:Nat)) 1) where
 mem:=by simp
 obj:=fun i h st b hb=>by
  have e:b=it:=by simpa using hb
  subst e
  exact⟨_,st,fun v z=>by
   have z':Data.fields _=Data.cell v:=z;cases z'⟩
 keep:=fun i h h' st k=>k it (by simp) _ st
 item:=by
  intro X hP hw hK hc i pins s σ H E I hf st hg;subst hP hw hK;obtain⟨f0,f1,f2,f3,f4,f5⟩:=hf it (by simp);have W:=Walks.range (prog:=X.prog) (w:=X.w) (I.ok.hd hc) it lo 1 n;refine W.item i s _ _ hg st fun v h' tk hv st' kk=>?_
  obtain⟨t,rfl⟩:=hv;have I1:Inv X pins σ H { s with heap:=h',toks:=tk }:=I.turned (fun b o hb e=>kk b o (by simpa using hb) e) f0 f1 f3 f4 f5;refine⟨_,rfl,Xd (s:={ s with heap:=h',toks:=tk }) (n:="range_iterator") st' rfl rfl (by decide) ⟨.int (lo+i),H,I1,⟨t,?_⟩,⟨rfl,rfl⟩,st',fun b hb=>(hf b hb).1⟩⟩;rw[Int.mul_one]
 done:=by
  intro X hP hw hK hc i pins s σ H E I hf st hg;subst hP hw hK;obtain⟨f0,f1,f2,f3,f4,f5⟩:=hf it (by simp);exact wpAny_pyNext_range_end (I.ok.hd hc) st (by have:n<=i:=hg;omega) fun h' eb=>⟨rfl,I.turned (t':=s.toks) (fun b o hb e=>eb b o hb e) f0 f1 f3 f4 f5⟩
 self:=fun _ _ _ _ _ st h=>wpAny_pyIter_rangeiter st h
end L2
namespace L2
open PySem PySem.Spec PyProof.Rows
section
variable {X:Cx} {tg:Expr}
theorem zbK{pins:List (Addr×Obj)}{σ:St}{H:Hp}{s:Shared}{R:It->Hp->Prop}{E:Value->Shared->Prop}{lo hi:Int}{t u v:Tok}{tk:Nat}(I:Inv X pins σ H s)(h1: -(2 ^ 62)<=lo)(h2:lo<2 ^ 62)(h3: -(2 ^ 62)<=hi)(h4:hi<2 ^ 62)
  (q:R (Zj lo (hi-lo).toNat) H):wpAny (model X.prog X.w) X.A (pyIter (.ref s.heap.objs.size)) (zbJ X pins σ tg R) E { s with heap:=s.heap.push { cls:=.type "range",data:=.fields #[.int lo t,.int hi u,.int 1 v] },toks:=tk }:=by
 refine wpAny_pyIter_range (IsRange.new ..) (small_one h1 h2 h3 h4) ?_;have I1:Inv X pins σ H { s with heap:=s.heap.push { cls:=.type "range",data:=.fields #[.int lo t,.int hi u,.int 1 v] },toks:=tk }:=I.kept fun b o e=>Kl _ e
 refine⟨(s.heap.push { cls:=.type "range",data:=.fields #[.int lo t,.int hi u,.int 1 v] }).objs.size,[(s.heap.push { cls:=.type "range",data:=.fields #[.int lo t,.int hi u,.int 1 v] }).objs.size],_,_,H,rfl,
  I1.kept (t':=tk) fun b o e=>Kl _ e,ziF _ lo (hi-lo).toNat,?_,fun b hb=>?_,q⟩
 ·have e1:lo+((0:Nat):Int)*1=lo:=by simp
  have e2:(((hi-lo).toNat:Nat):Int)-((0:Nat):Int)=Builtin.Range.rangeSize lo hi 1:=by rw[rangeSize_one];split<;>omega
  show IsRangeIter _ _ (lo+((0:Nat):Int)*1) ((((hi-lo).toNat:Nat):Int)-((0:Nat):Int)) 1;rw[e1,e2];exact Heap.get?_push_size _ rfl
 ·have e:b=(s.heap.push { cls:=.type "range",data:=.fields #[.int lo t,.int hi u,.int 1 v] }).objs.size:=by simpa using hb
  subst e;exact I1.fpOk (Nat.le_refl _) (I1.hok.fresh (Nat.le_refl _))
noncomputable def ziG(ta:TA):TI:=fun σ H R=>ta σ H fun vs H1=>∃j:Int,vs=[.int j]/\ -(2 ^ 62)<=j/\j<2 ^ 62/\R (Zj 0 j.toNat) H1
noncomputable def ziH(ta:TA):TI:=fun σ H R=>ta σ H fun vs H1=>∃i j:Int,vs=[.int i,.int j]/\(-(2 ^ 62)<=i/\i<2 ^ 62/\ -(2 ^ 62)<=j/\j<2 ^ 62)/\R (Zj i (j-i).toNat) H1
theorem ziI{a:Expr}{ta:TA}{p pos:Pos}(hg:Gl X "range")(hm:X.mg "range"=none)(ha:PA X [a] ta)(hs:starEach [a] X.env=[(false,eval a X.env)]:=by rfl):PI X tg (.Call (.Name "range" p) [a] [] pos) (ziG ta):=by
 intro pins s σ H R I h;refine Call_ (Zh I hg hm boot_range (PyProof.Rows.callWith_type1 (zt (ha pos pins s σ H _ I h) fun us s1 ⟨vs,H1,I1,r1,q1⟩=>?_) hs rfl));obtain⟨j,e,q1,q2,q⟩:=q1;subst e
 cases r1 with
 |cons r rr=>
  cases rr;obtain⟨t,rfl⟩:=r;exact call_range_1 (zbK I1 (by omega) (by omega) q1 q2 (by simpa using q))
theorem ziJ{a b:Expr}{ta:TA}{p pos:Pos}(hg:Gl X "range")(hm:X.mg "range"=none)(ha:PA X [a,b] ta)(hs:starEach [a,b] X.env=[(false,eval a X.env),(false,eval b X.env)]:=by rfl)(hs2:starEach [b] X.env=[(false,eval b X.env)]:=by rfl):
  PI X tg (.Call (.Name "range" p) [a,b] [] pos) (ziH ta):=by
 intro pins s σ H R I h;refine Call_ (Zh I hg hm boot_range (PyProof.Rows.callWith_type1 (zt (ha pos pins s σ H _ I h) fun us s1 ⟨vs,H1,I1,r1,q1⟩=>?_) (by rw[hs,hs2]) (by rw[hs2];rfl)));obtain⟨i,j,e,⟨q1,q2,q3,q4⟩,q⟩:=q1;subst e
 cases r1 with
 |cons r rr=>
  cases rr with
  |cons r' rr=>
   cases rr;obtain⟨t,rfl⟩:=r;obtain⟨t',rfl⟩:=r';exact call_range_2 (zbK I1 q1 q2 q3 q4 q)
noncomputable def ziK(wi:TI)(g:TG)(tb:TS):TS:=fun D σ H=>wi σ H fun J H1=>∃W:Nat->Nat->St->Hp->Prop,(∃m,W 0 m σ H1)/\∀i m σ H,W i m σ H->
 (J.stop i H/\D.nx σ H)\/(J.go i H/\∃N:St->Hp->Prop,(∀σ' H',N σ' H'->∃m',m'<m/\W (i+1) m' σ' H')/\∀x H',J.yld i H x H'->g x σ H' fun σ2 H2=>tb { D with nx:=N,ct:=N,bk:=D.nx } σ2 H2)
noncomputable def ZY(fp:List Addr)(h:Heap):List (Addr×Obj):=fp.filterMap fun b=>(h.get? b).map fun o=>(b,o)
theorem ZZ{fp:List Addr}{h:Heap}{b:Addr}{o:Obj}(hb:b∈fp)(e:h.get? b=some o):(b,o)∈ZY fp h:=List.mem_filterMap.mpr ⟨b,hb,by rw[e];rfl⟩
theorem ziL{fp:List Addr}{h:Heap}{p:Addr×Obj}(hp:p∈ZY fp h):p.1∈fp/\h.get? p.1=some p.2:=by
 obtain⟨b,hb,e⟩:=List.mem_filterMap.mp hp
 cases q:h.get? b with
 |none=>rw[q] at e;cases e
 |some o=>
  rw[q] at e;have e':(b,o)=p:=Kn e;subst e';exact⟨hb,q⟩
theorem Inv.pinned{pins:List (Addr×Obj)}{σ:St}{H:Hp}{s:Shared}{fp:List Addr}(I:Inv X pins σ H s)(hf: ∀b∈fp,xU X pins H b)(ho: ∀b∈fp,∃o,s.heap.get? b=some o/\∀v,o.data≠ .cell v):Inv X (pins++ZY fp s.heap) σ H s:=
 I.pins_of fun p hp=>(List.mem_append.mp hp).elim (fun z=>I.pin p (Ko _ z)) fun z=>by
  obtain⟨hb,e⟩:=ziL z;obtain⟨f0,f1,f2,_⟩:=hf p.1 hb;obtain⟨o,e',d⟩:=ho p.1 hb;rw[e] at e';cases e';exact⟨e,f0,f1,f2,d⟩
theorem Inv.unpinned{pins pl:List (Addr×Obj)}{σ:St}{H:Hp}{s:Shared}(I:Inv X (pins++pl) σ H s):Inv X pins σ H s:=I.pins_of fun p hp=>I.pin p (Ko _ (Kp _ hp))
theorem qv{iter:Expr}{body:List Stmt}{wi:TI}{g:TG}{tb:TS}{pos:Pos}(hp:PassesOwn (model X.prog X.w) X.A X.env X.xe)(hc:X.calm=true)(hi:PI X tg iter wi)(hg:PG X tg g)(hb:PSs X body tb)
  (hs: ∀x,foldedSetIterable iter X.env x=pure x:=by intro _;rfl):PS X (.For tg iter body [] pos) (ziK wi g tb):=by
 intro pins s σ H D I h;refine wpAny_For (zt (hi pins s σ H _ I h) fun v s1 h1=>zt h1 fun itv s2 h2=>?_) hs;obtain⟨it,fp,tn,J,H2,e,I2,T,st2,f2,W,⟨m0,w0⟩,turn⟩:=h2;subst e;have stat: ∀{H':Hp},(∀b∈fp,H' b=none)->∀b∈fp,xU X pins H' b:=fun hn b hb=>⟨hn b hb,(f2 b hb).2⟩
 refine codeAny_forLoop_any (fun n s'=>∃i σ' H',Inv X pins σ' H' s'/\tn i s'.heap/\(∀b∈fp,H' b=none)/\W i n σ' H') ?_ m0 ⟨0,σ,H2,I2,st2,fun b hb=>(f2 b hb).1,w0⟩;rintro n s3 ⟨i,σ3,H3,I3,st3,fr3,w3⟩;rcases turn i n σ3 H3 w3 with ⟨stop,qn⟩|⟨go,N,hN,step⟩
 ·refine wpAny_passesOwn hp (zt (T.done X rfl rfl rfl hc i pins s3 σ3 H3 X.xe I3 (stat fr3) st3 stop) fun r s4 ⟨hr,I4⟩=>?_)
  subst hr;exact wpAny_execs_nil ⟨σ3,H3,I4,qn⟩
 ·refine wpAny_passesOwn hp (zt (T.item X rfl rfl rfl hc i pins s3 σ3 H3 X.xe I3 (stat fr3) st3 go) fun r s4 ⟨u,hr,h4⟩=>?_)
  subst hr;refine wpAny_passesOwn hp (zt h4 fun _ s5 ⟨x,H5,I5,r5,y5,st5,fr5⟩=>?_);have I5':=I5.pinned (stat fr5) (T.obj _ _ st5);refine wpAny_passesOwn hp (zt (hg _ s5 σ3 H5 x u _ I5' r5 (step x H5 y5)) fun _ s6 ⟨σ6,H6,I6,q6⟩=>?_);refine wpAny_passesOwn hp (zt (hb _ s6 σ6 H6 _ I6 q6) fun f s7 q7=>?_)
  have again: ∀{σ7:St} {H7:Hp},Inv X (pins++ZY fp s5.heap) σ7 H7 s7->N σ7 H7->∃m,m<n/\∃i σ' H',Inv X pins σ' H' s7/\tn i s7.heap/\(∀b∈fp,H' b=none)/\W i m σ' H':=fun {σ7 H7} I7 n7=>by
   obtain⟨m',hm,w7⟩:=hN σ7 H7 n7;refine⟨m',hm,i+1,σ7,H7,I7.unpinned,T.keep _ _ _ st5 fun b hb o e=>(I7.pin (b,o) (Ko _ (Ko _ (ZZ hb e)))).1,fun b hb=>?_,w7⟩;obtain⟨o,e,d⟩:=T.obj _ _ st5 b hb;exact (I7.pin (b,o) (Ko _ (Ko _ (ZZ hb e)))).2.1
  cases f with
  |next=>obtain⟨σ7,H7,I7,n7⟩:=q7;exact again I7 n7
  |cont=>obtain⟨σ7,H7,I7,n7⟩:=q7;exact again I7 n7
  |brk=>obtain⟨σ7,H7,I7,q7⟩:=q7;exact⟨σ7,H7,I7.unpinned,q7⟩
  |ret v=>obtain⟨x7,σ7,H7,I7,r7,q7⟩:=q7;exact⟨x7,σ7,H7,I7.unpinned,r7,q7⟩
end
end L2
namespace L2
open PySem PySem.Spec PyProof.Rows
noncomputable abbrev R2:=V->V->Hp->VK->Prop
noncomputable def zS(X:Cx)(f:Value->Value->Sem Value)(r:R2):Prop:=
 ∀(pins:List (Addr×Obj)) (s:Shared) (σ:St) (H:Hp) (x y:V) (v u:Value) (Q:VK),Inv X pins σ H s->RelV x v->RelV y u->r x y H Q->
  wpAny (model X.prog X.w) X.A (f v u) (EP X pins σ Q) X.xe s
noncomputable def Xg(X:Cx)(f:Value->Sem Value)(r:V->Hp->VK->Prop):Prop:=
 ∀(pins:List (Addr×Obj)) (s:Shared) (σ:St) (H:Hp) (x:V) (v:Value) (Q:VK),Inv X pins σ H s->RelV x v->r x H Q->
  wpAny (model X.prog X.w) X.A (f v) (EP X pins σ Q) X.xe s
noncomputable def xt(X:Cx)(f:Value)(r:List V->Hp->VK->Prop):Prop:=
 ∀(pins:List (Addr×Obj)) (s:Shared) (σ:St) (H:Hp) (xs:List V) (us:List Value) (Q:VK),Inv X pins σ H s->Vals xs us->r xs H Q->
  wpAny (model X.prog X.w) X.A (call f us) (EP X pins σ Q) X.xe s
noncomputable def ziM(X:Cx)(r:V->Hp->(Bool->Hp->Prop)->Prop):Prop:=
 ∀(pins:List (Addr×Obj)) (s:Shared) (σ:St) (H:Hp) (x:V) (v:Value) (Q:Bool->Hp->Prop),Inv X pins σ H s->RelV x v->r x H Q->
  wpAny (model X.prog X.w) X.A (truthy v) (TP X pins σ Q) X.xe s
noncomputable def Xh(r:R2)(ta tb:TE):TE:=fun σ H Q=>ta σ H fun x H1=>tb σ H1 fun y H2=>r x y H2 Q
noncomputable def ziN(r:V->Hp->VK->Prop)(ta:TE):TE:=fun σ H Q=>ta σ H fun x H1=>r x H1 Q
noncomputable def rI(C:Int->Int->Prop)(g:Int->Int->V):R2:=fun x y H Q=>∃i j,x= .int i/\y= .int j/\C i j/\Q (g i j) H
noncomputable def vI(g:Int->Int->V):R2:=fun x y H Q=>∃i j,x= .int i/\y= .int j/\Q (g i j) H
noncomputable def rU(g:Int->V):V->Hp->VK->Prop:=fun x H Q=>∃i,x= .int i/\Q (g i) H
section
variable {X:Cx} {a b c:Expr} {ta tb tc:TE} {pos:Pos}
theorem qw(ha:PE X a ta)(hb:PE X b tb){pins:List (Addr×Obj)}{s:Shared}{σ:St}{H:Hp}{R:V->V->Hp->Prop}(I:Inv X pins σ H s)
  (h:ta σ H fun x H1=>tb σ H1 fun y H2=>R x y H2) {Q:Value->Shared->Prop} {f:Value->Value->Sem Value}
  (hf: ∀v u s2 x y H2,Inv X pins σ H2 s2->RelV x v->RelV y u->R x y H2->wpAny (model X.prog X.w) X.A (f v u) Q X.xe s2):
  wpAny (model X.prog X.w) X.A (eval a X.env) (fun v s₁=>wpAny (model X.prog X.w) X.A (eval b X.env) (fun u s₂=>wpAny (model X.prog X.w) X.A (f v u) Q X.xe s₂) X.xe s₁) X.xe s:=by
 refine zt (ha pins s σ H _ I h) fun v s1 ⟨x,H1,I1,r1,q1⟩=>?_
 refine zt (hb pins s1 σ H1 _ I1 q1) fun u s2 ⟨y,H2,I2,r2,q2⟩=>?_
 exact hf v u s2 x y H2 I2 r1 r2 q2
theorem ziO{op:Operator}{r:R2}(ho:zS X (binaryOp op) r)(ha:PE X a ta)(hb:PE X b tb):PE X (.BinOp a op b pos) (Xh r ta tb):=by
 intro pins s σ H Q I h;exact wpAny_BinOp (qw ha hb I h fun v u s2 x y H2 I2 rx ry q=>ho pins s2 σ H2 x y v u Q I2 rx ry q)
theorem ziP{op:UnaryOp}{r:V->Hp->VK->Prop}(ho:Xg X (unaryOp op) r)(ha:PE X a ta):PE X (.UnaryOp op a pos) (ziN r ta):=by
 intro pins s σ H Q I h;exact UnaryOp_ (zt (ha pins s σ H _ I h) fun v s1 ⟨x,H1,I1,r1,q1⟩=>ho pins s1 σ H1 x v Q I1 r1 q1)
theorem JJ{f:Value->Value->Sem Value}{C:Int->Int->Prop}{g:Int->Int->Int}
  (rule: ∀(i j:Int) (t u:Tok) (s:Shared) (Q:Value->Shared->Prop) (E:Value->Shared->Prop),C i j->Q (.int (g i j) s.toks) { s with toks:=s.toks+1 }->wpAny (model X.prog X.w) X.A (f (.int i t) (.int j u)) Q E s):
  zS X f (rI C fun i j=>.int (g i j)):=by
 intro pins s σ H x y v u Q I rx ry h;obtain⟨i,j,rfl,rfl,hc,q⟩:=h;obtain⟨t,rfl⟩:=rx;obtain⟨t',rfl⟩:=ry;exact rule i j t t' s _ _ hc ⟨.int (g i j),H,I.tok _,⟨_,rfl⟩,q⟩
theorem Xi{f:Value->Value->Sem Value}{g:Int->Int->Int}
  (rule: ∀(i j:Int) (t u:Tok) (s:Shared) (Q:Value->Shared->Prop) (E:Value->Shared->Prop),Q (.int (g i j) s.toks) { s with toks:=s.toks+1 }->wpAny (model X.prog X.w) X.A (f (.int i t) (.int j u)) Q E s):
  zS X f (vI fun i j=>.int (g i j)):=by
 intro pins s σ H x y v u Q I rx ry h;obtain⟨i,j,rfl,rfl,q⟩:=h;obtain⟨t,rfl⟩:=rx;obtain⟨t',rfl⟩:=ry;exact rule i j t t' s _ _ ⟨.int (g i j),H,I.tok _,⟨_,rfl⟩,q⟩
theorem qx{f:Value->Value->Sem Value}{g:Int->Int->Bool}
  (rule: ∀(i j:Int) (t u:Tok) (s:Shared) (Q:Value->Shared->Prop) (E:Value->Shared->Prop),Q (.bool (g i j)) s->wpAny (model X.prog X.w) X.A (f (.int i t) (.int j u)) Q E s):
  zS X f (vI fun i j=>.bl (g i j)):=by
 intro pins s σ H x y v u Q I rx ry h;obtain⟨i,j,rfl,rfl,q⟩:=h;obtain⟨t,rfl⟩:=rx;obtain⟨t',rfl⟩:=ry;exact rule i j t t' s _ _ ⟨.bl (g i j),H,I,rfl,q⟩
noncomputable def ziQ(i j:Int):Prop:=0<j/\j<1073741824
noncomputable def ziR(i j:Int):Prop:=0<=j/\j<=1000000/\i.natAbs<2 ^ 64
noncomputable def CMul(i j:Int):Prop:=(-(2 ^ 64)<i/\i<2 ^ 64)\/(-(2 ^ 64)<j/\j<2 ^ 64)
theorem CMul.ok{i j:Int}(h:CMul i j):IntMulOk i j:=by
 rcases h with ⟨h1,h2⟩|⟨h1,h2⟩
 ·exact .of_left (intBits_le_64 h1 h2)
 ·exact .of_right (intBits_le_64 h1 h2)
theorem ziS:zS X (binaryOp .Add) (vI fun i j=>.int (i+j)):=Xi fun _ _ _ _ _ _ _ q=>add_int q
theorem ziT:zS X (binaryOp .Sub) (vI fun i j=>.int (i-j)):=Xi fun _ _ _ _ _ _ _ q=>sub_int q
theorem ziU:zS X (binaryOp .Mult) (rI CMul fun i j=>.int (i*j)):=JJ fun _ _ _ _ _ _ _ hc q=>mul_int q hc.ok
theorem ziV:zS X (binaryOp .FloorDiv) (rI ziQ fun i j=>.int (i/j)):=JJ fun i j _ _ _ _ _ hc q=>by
 have h1:(0:Int)<j:=hc.1;have h2:j<1073741824:=hc.2;exact floordiv_int (by omega) (by rw[Int.fdiv_eq_ediv_of_nonneg i (by omega)];exact q) (.inl (PyProof.noPylong_small (by omega)))
theorem ziW:zS X (binaryOp .Mod) (rI (fun _ j=>0<j) fun i j=>.int (i%j)):=JJ fun i j _ _ _ _ _ hc q=>by
 have h1:(0:Int)<j:=hc;exact mod_int' (by omega) (by rw[Int.fmod_eq_emod_of_nonneg i (by omega)];exact q)
theorem ziX:zS X (binaryOp .LShift) (rI ziR fun i j=>.int (i*2 ^ j.toNat)):=JJ fun _ _ _ _ _ _ _ hc q=>lshift_int_small hc.1 hc.2.1 hc.2.2 q
theorem ziY:zS X (binaryOp .BitAnd) (vI fun i j=>.int (Builtin.bitAnd i j)):=Xi fun _ _ _ _ _ _ _ q=>and_int q
theorem ziZ:zS X (binaryOp .BitOr) (vI fun i j=>.int (Builtin.bitOr i j)):=Xi fun _ _ _ _ _ _ _ q=>or_int q
theorem zi0:zS X (binaryOp .BitXor) (vI fun i j=>.int (Builtin.bitXor i j)):=Xi fun _ _ _ _ _ _ _ q=>xor_int q
theorem zi1{f:Value->Sem Value}{g:Int->Int}
  (rule: ∀(i:Int) (t:Tok) (s:Shared) (Q:Value->Shared->Prop) (E:Value->Shared->Prop),Q (.int (g i) s.toks) { s with toks:=s.toks+1 }->wpAny (model X.prog X.w) X.A (f (.int i t)) Q E s):
  Xg X f (rU fun i=>.int (g i)):=by
 intro pins s σ H x v Q I rx h;obtain⟨i,rfl,q⟩:=h;obtain⟨t,rfl⟩:=rx;exact rule i t s _ _ ⟨.int (g i),H,I.tok _,⟨_,rfl⟩,q⟩
theorem zi2:Xg X (unaryOp .USub) (rU fun i=>.int (-i)):=zi1 fun _ _ _ _ _ q=>neg_int q
end
noncomputable def zi3:V->V->Bool
 | .non,.non=>true| .non,.int _=>true| .int _,.non=>true| .non,.bl _=>true| .bl _,.non=>true| .non,.str _=>true| .str _,.non=>true
 | .int _,.int _=>true| .bl _,.bl _=>true| .str _,.str _=>true| .byt _,.byt _=>true
 | .int _,.str _=>true| .str _,.int _=>true| .bl _,.str _=>true| .str _,.bl _=>true
 |_,_=>false
noncomputable def zi4:R2:=fun x y H Q=>zi3 x y=true/\Q (.bl (!decide (x=y))) H
theorem zi5{i j:Int}:decide (V.int i=V.int j)=(i==j):=by
 rw[Bool.eq_iff_iff];simp
theorem zi6{i j:Bool}:decide (V.bl i=V.bl j)=(i==j):=by
 rw[Bool.eq_iff_iff];simp
theorem zi7{i j:Str}:decide (V.str i=V.str j)=(i==j):=by
 rw[Bool.eq_iff_iff];simp
theorem zi8{i j:Array UInt8}:decide (V.byt i=V.byt j)=(i.toList==j.toList):=by
 rw[Bool.eq_iff_iff];cases i;cases j;simp
section
variable {X:Cx} {a b c:Expr} {ta tb tc:TE} {pos:Pos}
theorem wB{pins:List (Addr×Obj)}{σ:St}{H:Hp}{s:Shared}{Q:VK}{k k':Bool}(I:Inv X pins σ H s)(q:Q (.bl k) H)(e:k=k'):EP X pins σ Q (.bool k') s:=by
 subst e;exact⟨.bl k,H,I,rfl,q⟩
theorem zi9:zS X (compareOp .NotEq) zi4:=by
 intro pins s σ H x y v u Q I rx ry h;obtain⟨hs,q⟩:=h
 cases x with
 |non=>
  cases rx
  cases y with
  |non=>cases ry;exact PySem.EqNone.ne_none_none (wB I q (by simp))
  |bl j=>cases ry;exact PySem.EqNone.ne_none_bool (wB I q (by simp))
  |int j=>obtain⟨t',rfl⟩:=ry;exact PySem.EqNone.ne_none_int (wB I q (by simp))
  |str j=>obtain⟨t',rfl⟩:=ry;exact PySem.EqNone.ne_none_str (wB I q (by simp))
  |_=>exact KC (show false=true from hs) Km
 |bl i=>
  cases rx
  cases y with
  |non=>cases ry;exact PySem.EqNone.ne_bool_none (wB I q (by simp))
  |bl j=>cases ry;exact ne_bool (wB I q (congrArg not zi6))
  |str j=>obtain⟨t',rfl⟩:=ry;exact PySem.EqMixed.ne_bool_str (wB I q (by simp))
  |_=>exact KC (show false=true from hs) Km
 |int i=>
  obtain⟨t,rfl⟩:=rx
  cases y with
  |non=>cases ry;exact PySem.EqNone.ne_int_none (wB I q (by simp))
  |int j=>obtain⟨t',rfl⟩:=ry;exact ne_int (wB I q (congrArg not zi5))
  |str j=>obtain⟨t',rfl⟩:=ry;exact PySem.EqMixed.ne_int_str (wB I q (by simp))
  |_=>exact KC (show false=true from hs) Km
 |str i=>
  obtain⟨t,rfl⟩:=rx
  cases y with
  |non=>cases ry;exact PySem.EqNone.ne_str_none (wB I q (by simp))
  |bl j=>cases ry;exact PySem.EqMixed.ne_str_bool (wB I q (by simp))
  |int j=>obtain⟨t',rfl⟩:=ry;exact PySem.EqMixed.ne_str_int (wB I q (by simp))
  |str j=>obtain⟨t',rfl⟩:=ry;exact ne_str (wB I q (congrArg not zi7))
  |_=>exact KC (show false=true from hs) Km
 |byt i=>
  obtain⟨t,rfl⟩:=rx
  cases y with
  |byt j=>obtain⟨t',rfl⟩:=ry;exact PySem.W.ne_bytes (wB I q (congrArg not zi8))
  |_=>exact KC (show false=true from hs) Km
 |_=>cases y<;>exact KC (show false=true from hs) Km
theorem zja:zS X (compareOp .Lt) (vI fun i j=>.bl (decide (i<j))):=qx fun _ _ _ _ _ _ _ q=>lt_int q
theorem zjb:zS X (compareOp .LtE) (vI fun i j=>.bl (decide (i<=j))):=qx fun _ _ _ _ _ _ _ q=>le_int q
theorem zjc:zS X (compareOp .Gt) (vI fun i j=>.bl (decide (j<i))):=qx fun _ _ _ _ _ _ _ q=>gt_int q
theorem yv(b:Expr){op:CmpOp}(h:op≠ .In:=by decide)(h2:op≠ .NotIn:=by decide):behindInMarks op b=false:=by
 have e1:(op==CmpOp.In)=false:=by cases op<;>first|rfl|exact KC rfl h
 have e2:(op==CmpOp.NotIn)=false:=by cases op<;>first|rfl|exact KC rfl h2
 cases b<;>simp[behindInMarks,e1,e2]
theorem zjd{op:CmpOp}{r:R2}(ho:zS X (compareOp op) r)(ha:PE X a ta)(hb:PE X b tb)(hm:behindInMarks op b=false):PE X (.Compare a [op] [b] pos) (Xh r ta tb):=by
 intro pins s σ H Q I h;exact wpAny_Compare1 (qw ha hb I h fun v u s2 x y H2 I2 rx ry q=>ho pins s2 σ H2 x y v u Q I2 rx ry q) hm
noncomputable def zbL(t:TE):TT:=fun σ H Q=>t σ H fun x H'=>∃k,x= .bl k/\Q k H'
theorem zje{op:CmpOp}{r:R2}(ho:zS X (compareOp op) r)(ha:PE X a ta)(hb:PE X b tb)(hm:behindInMarks op b=false):PT X (.Compare a [op] [b] pos) (zbL (Xh r ta tb)):=by
 intro pins s σ H Q I h
 refine wpAny_isTrue_Compare1 (zt (ha pins s σ H _ I h) fun v s1 ⟨x,H1,I1,r1,q1⟩=>zt (hb pins s1 σ H1 _ I1 q1) fun u s2 ⟨y,H2,I2,r2,q2⟩=>
  zt (ho pins s2 σ H2 x y v u _ I2 r1 r2 q2) fun c s3 ⟨z,H3,I3,r3,k,e,q3⟩=>?_) hm
 subst e;cases r3;exact wpAny_truthy_bool ⟨H3,I3,q3⟩
noncomputable def zbM(r r':R2)(ta tb tc:TE):TE:=fun σ H Q=>ta σ H fun x H1=>tb σ H1 fun y H2=>r x y H2 fun z H3=>∃k,z= .bl k/\
 (if k=true then tc σ H3 fun w' H4=>r' y w' H4 Q else Q (.bl false) H3)
theorem zjf{op op':CmpOp}{r r':R2}(ho:zS X (compareOp op) r)(ho':zS X (compareOp op') r')(ha:PE X a ta)(hb:PE X b tb)(hc:PE X c tc)
  (hm:lastMarks [op,op'] [b,c]=false:=by with_unfolding_all rfl):PE X (.Compare a [op,op'] [b,c] pos) (zbM r r' ta tb tc):=by
 intro pins s σ H Q I h
 refine Compare_chain (zt (ha pins s σ H _ I h) fun v s1 ⟨x,H1,I1,r1,q1⟩=>chain_link (zt (hb pins s1 σ H1 _ I1 q1) fun u s2 ⟨y,H2,I2,r2,q2⟩=>
  zt (ho pins s2 σ H2 x y v u _ I2 r1 r2 q2) fun d s3 ⟨z,H3,I3,r3,k,e,q3⟩=>?_)) hm
 subst e;cases r3;refine wpAny_truthy_bool ?_
 cases k with
 |false=>exact ite_ff ⟨.bl false,H3,I3,rfl,q3⟩
 |true=>exact ite_tt (chain_last (zt (hc pins s3 σ H3 _ I3 q3) fun w' s4 ⟨z',H4,I4,r4,q4⟩=>ho' pins s4 σ H4 y z' u w' Q I4 r2 r4 q4))
theorem zjg{op op':CmpOp}{r r':R2}(ho:zS X (compareOp op) r)(ho':zS X (compareOp op') r')(ha:PE X a ta)(hb:PE X b tb)(hc:PE X c tc)
  (hm:lastMarks [op,op'] [b,c]=false:=by with_unfolding_all rfl):PT X (.Compare a [op,op'] [b,c] pos) (zbL (zbM r r' ta tb tc)):=by
 intro pins s σ H Q I h
 refine isTrue_chain (zt (ha pins s σ H _ I h) fun v s1 ⟨x,H1,I1,r1,q1⟩=>test_link (zt (hb pins s1 σ H1 _ I1 q1) fun u s2 ⟨y,H2,I2,r2,q2⟩=>
  zt (ho pins s2 σ H2 x y v u _ I2 r1 r2 q2) fun d s3 ⟨z,H3,I3,r3,k,e,q3⟩=>?_)) hm
 subst e;cases r3;refine wpAny_truthy_bool ?_
 cases k with
 |false=>
  obtain⟨k',e',q'⟩:=q3;cases e';exact ite_ff ⟨H3,I3,q'⟩
 |true=>
  refine ite_tt (test_last (zt (hc pins s3 σ H3 _ I3 q3) fun w' s4 ⟨z',H4,I4,r4,q4⟩=>zt (ho' pins s4 σ H4 y z' u w' _ I4 r2 r4 q4) fun d' s5 ⟨z2,H5,I5,r5,k2,e2,q5⟩=>?_));subst e2;cases r5;exact wpAny_truthy_bool ⟨H5,I5,q5⟩
noncomputable def qy(K:Ka)(x:V)(H:Hp)(k:Bool):Prop:=
 match x with
 | .non=>k=false
 | .bl b=>k=b
 | .int i=>k=(i != 0)
 | .str y=>y.length<=sizeLine/\k=((y.length:Int) != 0)
 | .byt y=>y.size<=sizeLine/\k=((y.size:Int) != 0)
 | .ref p=>(∃xs,SqL K H p xs/\k= !xs.isEmpty)\/(∃xs,SqT K H p xs/\k= !xs.isEmpty)\/∃kvs,H p=some (.dK kvs)/\k= !kvs.isEmpty
 |_=>False
theorem zjh{κ:Type}{kvs:List (κ×V)}{vs:List (κ×Value)}(r:KV kvs vs):(!vs.isEmpty)= !kvs.isEmpty:=by
 cases r<;>rfl
theorem zbN{xs:List V}{its:List Value}(r:Vals xs its):(!its.toArray.isEmpty)= !xs.isEmpty:=by
 cases r<;>simp
theorem JK:(sizeLine:Nat)<2 ^ 63:=by rw[sizeLine_eq];decide
theorem zji:ziM X (fun x H Q=>∃k,qy X.K x H k/\Q k H):=by
 intro pins s σ H x v Q I rx h;obtain⟨k,e,q⟩:=h;have hl:=JK;have hs:sizeLine=16777216:=sizeLine_eq
 cases x with
 |non=>
  cases rx;have e':k=false:=e;subst e';exact truthy_none ⟨H,I,q⟩
 |bl b=>
  cases rx;have e':k=b:=e;subst e';exact wpAny_truthy_bool ⟨H,I,q⟩
 |int i=>
  obtain⟨t,rfl⟩:=rx;have e':k=(i != 0):=e;subst e';exact PySem.P.truthy_int ⟨H,I,q⟩
 |str y=>
  obtain⟨t,rfl⟩:=rx;obtain⟨hy,e'⟩:y.length<=sizeLine/\k=((y.length:Int) != 0):=e;subst e';exact PySem.P.truthy_str (by omega) ⟨H,I.tok _,q⟩
 |byt y=>
  obtain⟨t,rfl⟩:=rx;obtain⟨hy,e'⟩:y.size<=sizeLine/\k=((y.size:Int) != 0):=e;subst e';exact PySem.W.truthy_bytes (by omega) ⟨H,I.tok _,q⟩
 |ref p=>
  cases rx;have e':(∃xs,SqL X.K H p xs/\k= !xs.isEmpty)\/(∃xs,SqT X.K H p xs/\k= !xs.isEmpty)\/∃kvs,H p=some (.dK kvs)/\k= !kvs.isEmpty:=e;rcases e' with ⟨xs,hx,e'⟩|⟨xs,hx,e'⟩|⟨kvs,hx,e'⟩
  ·subst e'
   obtain⟨its,r,pl,hz⟩:=I.list hx;have hlen:=r.length;exact wpAny_truthy_list pl.isList (by simp only[List.size_toArray];omega) ⟨H,I.tok _,by rw[zbN r];exact q⟩
  ·subst e'
   obtain⟨its,r,pl,hz⟩:=I.tuple hx;have hlen:=r.length;exact truthy_tuple pl (by simp only[List.size_toArray];omega) ⟨H,I.tok _,by rw[zbN r];exact q⟩
  ·subst e'
   obtain⟨hz,hS,vs,r,m⟩:kvs.length<=sizeLine/\(p==sysModules)=false/\∃vs,KV kvs vs/\s.heap.DictOf (zT X.prog X.w) p vs:=I.hok p _ hx;have hlen:kvs.length=vs.length:=Paired.length r;exact wpAny_truthy_dict hS m (by omega) ⟨H,I.tok _,by rw[zjh r];exact q⟩
 |_=>exact (show False from e).elim
theorem zbO(ha:PE X a ta)(he: ∀whole,isTrue a X.env whole=(do let v <-whole;standAt a.pos;holding [v] (truthy v))):
  PT X a (fun σ H Q=>ta σ H fun x H'=>∃k,qy X.K x H' k/\Q k H'):=by
 intro pins s σ H Q I h;exact isTrue_plain (zt (ha pins s σ H _ I h) fun v s1 ⟨x,H1,I1,r1,q1⟩=>zji pins s1 σ H1 x v Q I1 r1 q1) (he _)
theorem wW{x:V}{us:List Value}(r:Vals [x] us): ∃u,us=[u]/\RelV x u:=by
 cases r with
 |cons r1 r2=>cases r2;exact⟨_,rfl,r1⟩
theorem qz{x y:V}{us:List Value}(r:Vals [x,y] us): ∃u w',us=[u,w']/\RelV x u/\RelV y w':=by
 cases r with
 |cons r1 r2=>
  cases r2 with
  |cons r3 r4=>cases r4;exact⟨_,_,rfl,r1,r3⟩
theorem zjj:xt X (.builtin "abs") (fun xs H Q=>∃i,xs=[.int i]/\Q (.int (if i<0 then -i else i)) H):=by
 intro pins s σ H xs us Q I r h;obtain⟨i,rfl,q⟩:=h;obtain⟨u,rfl,t,rfl⟩:=wW r;exact call_abs_int fun u tk=>⟨.int (if i<0 then -i else i),H,I.tok _,⟨_,rfl⟩,q⟩
theorem zjk(hc:X.calm=true):xt X (.builtin "max") (fun xs H Q=>∃i j,xs=[.int i,.int j]/\Q (.int (if j>i then j else i)) H):=by
 intro pins s σ H xs us Q I r h;obtain⟨i,j,rfl,q⟩:=h;obtain⟨u,w',rfl,⟨t,rfl⟩,⟨t',rfl⟩⟩:=qz r;refine max_two_ints (I.ok.hd hc) fun h' tk k=>⟨_,H,I.kept k,?_,q⟩
 by_cases hj:j>i
 ·rw[if_pos hj,if_pos hj];exact⟨_,rfl⟩
 ·rw[if_neg hj,if_neg hj];exact⟨_,rfl⟩
theorem zjl(hc:X.calm=true):xt X (.builtin "min") (fun xs H Q=>∃i j,xs=[.int i,.int j]/\Q (.int (if j<i then j else i)) H):=by
 intro pins s σ H xs us Q I r h;obtain⟨i,j,rfl,q⟩:=h;obtain⟨u,w',rfl,⟨t,rfl⟩,⟨t',rfl⟩⟩:=qz r;refine min_two_ints (I.ok.hd hc) fun h' tk k=>⟨_,H,I.kept k,?_,q⟩
 by_cases hj:j<i
 ·rw[if_pos hj,if_pos hj];exact⟨_,rfl⟩
 ·rw[if_neg hj,if_neg hj];exact⟨_,rfl⟩
end
end L2
namespace L2
open PySem PySem.Spec PyProof.Rows
theorem RelO.some_of{v:V}{o:Option Value}(r:RelO (some v) o): ∃u,o=some u/\RelV v u:=by
 cases o with
 |none=>exact (show False from r).elim
 |some u=>exact⟨u,rfl,r⟩
end L2
namespace L2
open PySem PySem.Spec PyProof.Rows
structure Room (k:Nat)(A:Around):Prop where
 hd:A.handled=none
 dp:A.depth+3*k+5<recursionLimit
 un:A.units+16*k+200<cLine
theorem Room.deeper{k:Nat}{A:Around}(r:Room (k+1) A)(env:Env):Room k (A.deeper env):=
 ⟨r.hd,by have:=r.dp;show A.depth+1+3*k+5<_;omega,by have:=r.un;show A.units+3+16*k+200<_;omega⟩
theorem Room.depth{k:Nat}{A:Around}(r:Room k A):A.depth<recursionLimit:=by have:=r.dp;omega
theorem Room.units{k:Nat}{A:Around}(r:Room k A):A.units+64<cLine:=by have:=r.un;omega
noncomputable def zjm:TA:=fun _ H Q=>Q [] H
noncomputable def zjn(ta:TE)(tr:TA):TA:=fun σ H Q=>ta σ H fun x H1=>tr σ H1 fun xs H2=>Q (x::xs) H2
section
variable {X:Cx} {e:Expr} {es:List Expr} {te:TE} {t:TA} {pos:Pos}
theorem Zk:PA X [] zjm:=fun _ _ _ _ H Q I h=>Calls.spliced_nil ⟨[],H,I,.nil,h⟩
theorem vp(ha:PE X e te)(hr:PA X es t)(hs:starEach (e::es) X.env=(false,eval e X.env)::starEach es X.env:=by rfl):PA X (e::es) (zjn te t):=by
 intro pos pins s σ H Q I h;rw[hs];show wpAny _ _ (spliced ((false,eval e X.env)::backTo pos (starEach es X.env))) _ _ s;refine Calls.spliced_cons (zt (ha pins s σ H _ I h) fun u s1 ⟨x,H1,I1,r1,q1⟩=>?_);exact zt (hr pos pins s1 σ H1 _ I1 q1) fun us s2 ⟨xs,H2,I2,r2,q2⟩=>⟨x::xs,H2,I2,.cons r1 r2,q2⟩
noncomputable def zjo(t:TA):TE:=fun σ H Q=>t σ H fun xs H1=>xs.length<=sizeLine/\∀p,H1 p=none->Q (.ref p) (zF H1 p (.tup xs))
noncomputable def zjp(t:TA):TE:=fun σ H Q=>t σ H fun xs H1=>xs.length<=sizeLine/\∀p,H1 p=none->Q (.ref p) (zF H1 p (.lst xs))
theorem zjq{x1}(h:PA X es t):PE X (.Tuple es x1 pos) (zjo t):=by
 intro pins s σ H Q I hq;refine wpAny_Tuple_spliced (zt (h pos pins s σ H _ I hq) fun us s1 ⟨xs,H1,I1,r,z,q⟩=>⟨by rw[<-r.length];exact z,?_⟩);have hf:H1 s1.heap.objs.size=none:=I1.hok.fresh (Nat.le_refl _);refine⟨.ref s1.heap.objs.size,zF H1 s1.heap.objs.size (.tup xs),I1.laid (t':=s1.toks) (fun b u e=>Kl _ e) (Nat.le_refl _) ?_,rfl,q _ hf⟩;exact⟨z,us,r,⟨_,Heap.get?_push_size _ rfl,rfl,_,rfl⟩⟩
theorem zjr(h:PA X es t):PE X (.List es pos) (zjp t):=by
 intro pins s σ H Q I hq;refine wpAny_List_spliced (zt (h pos pins s σ H _ I hq) fun us s1 ⟨xs,H1,I1,r,z,q⟩=>⟨by rw[<-r.length];exact z,?_⟩);have hf:H1 s1.heap.objs.size=none:=I1.hok.fresh (Nat.le_refl _);refine⟨.ref s1.heap.objs.size,zF H1 s1.heap.objs.size (.lst xs),I1.laid (t':=s1.toks) (fun b u e=>Kl _ e) (Nat.le_refl _) ?_,rfl,q _ hf⟩;exact⟨z,us,0,r,Heap.get?_push_size _ rfl⟩
end
noncomputable abbrev Sp:=List V->Hp->VK->XK->Prop
noncomputable abbrev wN:=List Env->Hp->Shared->XK->Value->Shared->Prop
structure Env0 (P:Program)(w:World)(K:Ka)(mg:Str->Option Value)(base:Heap)(A:Around)(outer:List Env)(s:Shared)(H:Hp):Prop where
 frames:A.frames=some outer
 mod:Mod K mg base
 bs: ∀b o,base.get? b=some o->s.heap.get? b=some o/\H b=none
 bsz:base.objs.size<=s.heap.objs.size
 funs:s.heap.FunFrames base outer
 frf: ∀b∈wV outer,H b=none
 hok:HOk P w H s.heap
 bare:AllBare s.gens
noncomputable def CE(outer:List Env)(P:Program)(w:World)(H:Hp)(s:Shared)(Q:VK)(u:Value)(s':Shared):Prop:=
 ∃v H',s'.os=s.os/\AllBare s'.gens/\Un (wV outer) [] H H' s.heap s'.heap/\HOk P w H' s'.heap/\RelV v u/\Q v H'
noncomputable def CR(CX:wN)(outer:List Env)(P:Program)(w:World)(H:Hp)(s:Shared)(Q:VK)(E:XK)(r:Result)(s':Shared):Prop:=
 match r with
 | .ok (.ret u)=>CE outer P w H s Q u s'
 | .ok _=>False
 | .error e=>CX outer H s E e s'
structure FnOk (P:Program)(w:World)(K:Ka)(mg:Str->Option Value)(base:Heap)(CX:wN)(k:Nat)(f:Addr)(fd:FuncData)(ps:List Str)(sp:Sp):Prop where
 len: ∀vs H Q E,sp vs H Q E->vs.length=ps.length
 run: ∀(A:Around) (outer:List Env) (s:Shared) (H:Hp) (args:Args) (us:List Value) (vs:List V) (Q:VK) (E:XK),Room k A->Env0 P w K mg base A outer s H->BindsTo s fd args (ps.zip us)->Vals vs us->sp vs H Q E->
  codeAny (model P w) A (.call (.ref f) args) (CR CX outer P w H s Q E) s
theorem FnOk.imp{P:Program}{w:World}{K:Ka}{mg:Str->Option Value}{base:Heap}{CX:wN}{k:Nat}{f:Addr}{fd:FuncData}{ps:List Str}{sp sp':Sp}(F:FnOk P w K mg base CX k f fd ps sp)
  (h: ∀vs H Q E,sp' vs H Q E->sp vs H Q E):FnOk P w K mg base CX k f fd ps sp':=
 ⟨fun vs H Q E q=>F.len vs H Q E (h _ _ _ _ q),fun A outer s H args us vs Q E hr he hb hv hs=>F.run A outer s H args us vs Q E hr he hb hv (h _ _ _ _ hs)⟩
section
variable {X:Cx} {pins:List (Addr×Obj)} {σ:St} {H:Hp} {s s':Shared}
theorem Inv.env0(I:Inv X pins σ H s):Env0 X.prog X.w X.K X.mg X.base X.A X.stack s H:=
 ⟨I.ok.frames,I.ok.mod,I.bs,Kg I.ok.bsz I.sz,I.stack,I.stkFree,I.hok,I.bare⟩
theorem Inv.after{Q:VK}{u:Value}(I:Inv X pins σ H s)(h:CE X.stack X.prog X.w H s Q u s'):EP X pins σ Q u s':=by
 obtain⟨v,H',os,bare,un,hok,r,q⟩:=h;obtain⟨hh,g,d,t,os'⟩:=s';obtain rfl:os'=s.os:=os;exact⟨v,H',I.call (h':=hh) (g':=g) (d':=d) (t':=t) (ch:=[]) un hok bare (fun b z=>KC z (by simp)),r,q⟩
end
noncomputable def zjs(sp:Sp)(dvs:List V)(E:XK)(t:TA):TE:=fun σ H Q=>t σ H fun vs H1=>sp (vs++dvs) H1 Q E
noncomputable def Binds(K:Ka)(fd:FuncData)(ps:List Str)(ds:List Value):Prop:=
 ∀(s:Shared) (us:List Value),K.In s.heap->(us++ds).length=ps.length->BindsTo s fd ⟨us,[]⟩ (ps.zip (us++ds))
theorem Binds.all{K:Ka}{fd:FuncData}{ps:List Str}(h: ∀us:List Value,us.length=ps.length->bindArgs fd ⟨us,[]⟩=pure (ps.zip us)):Binds K fd ps []:=fun s us _ hl=>by
 rw[List.append_nil] at hl⊢;exact .of_eq (h us hl)
noncomputable def qA(CX:wN)(X:Cx)(E:XK):Prop:=∀(pins:List (Addr×Obj)) (σ:St) (H:Hp) (s:Shared) (e:Value) (s':Shared),Inv X pins σ H s->CX X.stack H s E e s'->X.xe e s'
section
variable {X:Cx} {CX:wN} {k:Nat} {f C:Addr} {fd:FuncData} {ps:List Str} {sp:Sp} {dvs:List V} {ds:List Value} {E:XK} {x m:Str} {p pos apos:Pos} {e o:Expr} {es:List Expr} {ta:TE} {t:TA}
theorem zjt{pins:List (Addr×Obj)}{σ:St}{H:Hp}{s:Shared}{Q:VK}{us:List Value}{vs:List V}(F:FnOk X.prog X.w X.K X.mg X.base CX k f fd ps sp)(hr:Room k X.A)(hb:Binds X.K fd ps ds)(hd:Vals dvs ds)(hx:qA CX X E)
  (I:Inv X pins σ H s) (r:Vals vs us) (h:sp (vs++dvs) H Q E):wpAny (model X.prog X.w) X.A (call (.ref f) us) (EP X pins σ Q) X.xe s:=by
 have r2:Vals (vs++dvs) (us++ds):=r.append hd;have hl:(us++ds).length=ps.length:=by rw[<-r2.length];exact F.len _ _ _ _ h
 refine wpAny_call (codeAny_mono (F.run X.A X.stack s H ⟨us,[]⟩ (us++ds) (vs++dvs) Q E hr I.env0 (hb s us I.kIn hl) r2 h) fun r s' hq=>?_)
 cases r with
 |error e=>exact hx pins σ H s e s' I hq
 |ok fl=>
  cases fl with
  |ret u=>exact I.after hq
  |next=>exact False.elim hq
  |brk=>exact False.elim hq
  |cont=>exact False.elim hq
theorem zbP(F:FnOk X.prog X.w X.K X.mg X.base CX k f fd ps sp)(hr:Room k X.A)(hg:Gl X x)(hm:X.mg x=some (.ref f))(hk:PySem.W.keepIn X.K (.ref f)=true)(hb:Binds X.K fd ps ds)(hd:Vals dvs ds)(hx:qA CX X E)
  (ha:PA X (e::es) t) (hdb:(x==("__debug__":Str))=false:=by decide) (he:starEach (e::es) X.env=(false,eval e X.env)::starEach es X.env:=by rfl) (hpl:(backTo pos (starEach es X.env)).any (·.1)=false:=by rfl):
  PE X (.Call (.Name x p) (e::es) [] pos) (zjs sp dvs E t):=by
 intro pins s σ H Q I h;refine wpAny_Call_Name_kw (zbx I hg hm ?_ hdb);refine PySem.W.callWith_K (h₀:=X.base) I.ok.mod.kin hk (zt (ha pos pins s σ H _ I h) fun us s1 ⟨vs,H1,I1,r,q⟩=>⟨I1.kIn,?_⟩) he hpl;exact zjt F hr hb hd hx I1 r q
end
structure FnScope (N P:List Str)(sc:Scope):Prop where
 kind:sc.kind= .function
 co:sc.isCoroutine=false
 gen:sc.isGenerator=false
 nd:N.Nodup
 pre:N.take P.length=P
 par: ∀x∈P,sc.names.lookup x=some .local\/sc.names.lookup x=some .cell
 nofree: ∀y∈sc.names,y.2≠ .free
theorem zbQ{kindOf:Str->Option NameKind}{x:Str}: ∀{binds:List (Str×Value)} {m:Str->Option Value},(∀v,(x,v)∉binds)->bindL kindOf binds m x=m x
 |[],_,_=>rfl
 |(n,v)::r,m,h=>by
  unfold bindL;rw[zbQ fun w hw=>h w (Kf _ hw)];split
  ·have:x≠n:=by rintro rfl;exact h v Ke
   simp[this]
  ·rfl
theorem zbR{kindOf:Str->Option NameKind}{x:Str}: ∀{binds:List (Str×Value)} {m:Str->Option Value},(∀v,(x,v)∉binds)->bindC kindOf binds m x=m x
 |[],_,_=>rfl
 |(n,v)::r,m,h=>by
  unfold bindC;rw[zbR fun w hw=>h w (Kf _ hw)];split
  ·rfl
  ·have:x≠n:=by rintro rfl;exact h v Ke
   simp[this]
theorem zbS{kindOf:Str->Option NameKind}{x:Str}{v:Value}: ∀{P:List Str} {vs:List Value} {i:Nat} {m:Str->Option Value},P.Nodup->P[i]? =some x->vs[i]? =some v->kindOf x=some .local->
  bindL kindOf (P.zip vs) m x=some v
 |[],_,_,_,_,h,_,_=>by simp at h
 |_::_,[],_,_,_,_,h,_=>by simp at h
 |p::P,w::vs,0,m,nd,h1,h2,hk=>by
  simp at h1 h2;subst h1;subst h2;show bindL kindOf ((p,w)::P.zip vs) m p=_;unfold bindL;rw[zbQ fun v hv=>(List.nodup_cons.mp nd).1 (List.of_mem_zip hv).1,if_pos hk];simp
 |p::P,w::vs,i+1,m,nd,h1,h2,hk=>by
  show bindL kindOf ((p,w)::P.zip vs) m x=_;unfold bindL;exact zbS (i:=i) (List.nodup_cons.mp nd).2 (by simpa using h1) (by simpa using h2) hk
theorem zbT{kindOf:Str->Option NameKind}{x:Str}{v:Value}: ∀{P:List Str} {vs:List Value} {i:Nat} {m:Str->Option Value},P.Nodup->P[i]? =some x->vs[i]? =some v->kindOf x≠some .local->
  bindC kindOf (P.zip vs) m x=some v
 |[],_,_,_,_,h,_,_=>by simp at h
 |_::_,[],_,_,_,_,h,_=>by simp at h
 |p::P,w::vs,0,m,nd,h1,h2,hk=>by
  simp at h1 h2;subst h1;subst h2;show bindC kindOf ((p,w)::P.zip vs) m p=_;unfold bindC;rw[zbR fun v hv=>(List.nodup_cons.mp nd).1 (List.of_mem_zip hv).1,if_neg hk];simp
 |p::P,w::vs,i+1,m,nd,h1,h2,hk=>by
  show bindC kindOf ((p,w)::P.zip vs) m x=_;unfold bindC;exact zbT (i:=i) (List.nodup_cons.mp nd).2 (by simpa using h1) (by simpa using h2) hk
noncomputable def wH(N:List Str)(vs:List V):St:=vs.map some++List.replicate (N.length-vs.length) none
noncomputable def jB(CX:wN)(P:Program)(w:World)(K:Ka)(mg:Str->Option Value)(base:Heap)(N:List Str)(qual:Str)(scope:Scope)(f:Addr)(cd:Value)(A:Around)(outer:List Env)(s:Shared)(H:Hp)(E:XK):Cx where
 prog:=P
 w:=w
 K:=K
 mg:=mg
 base:=base
 A:=A.deeper (envOfC qual scope s.heap.objs.size f cd)
 N:=N
 s₀:=s
 H₀:=H
 env:=envOfC qual scope s.heap.objs.size f cd
 outer:=outer
 stack:=envOfC qual scope s.heap.objs.size f cd::outer
 ex:=[]
 calm:=true
 fn:=fun _=>true
 pn:=[]
 xe:=fun e s'=>wpAny (model P w) (A.deeper (envOfC qual scope s.heap.objs.size f cd)) (leaving (envOfC qual scope s.heap.objs.size f cd) e) (fun _ s''=>CX outer H s E e s'') (fun e' s''=>CX outer H s E e' s'') s'
theorem zbU{sc:Scope}{n:Nat}{x:Str}(h:sc.names.lookup x=some .cell): ∃c,(cellsFrom n sc.names []).lookup x=some c:=by
 have q:=PySem.W.cellsFrom_some sc.names n [] (.inl h);exact Option.isSome_iff_exists.mp q
theorem zju{CX:wN}{P:Program}{w:World}{K:Ka}{mg:Str->Option Value}{base:Heap}{N ps:List Str}{qual:Str}{scope:Scope}{f:Addr}{cd:Value}{A:Around}{outer:List Env}{s s1:Shared}{H:Hp}{E:XK}{us:List Value}{vs:List V}
  (S:FnScope N ps scope) (hd:A.handled=none) (e0:Env0 P w K mg base A outer s H) (hl:vs.length=ps.length) (r:Vals vs us)
  (x:InCallC s s.heap.objs.size (bindL (envOfC qual scope s.heap.objs.size f cd).kindOf (ps.zip us) fun _=>none) (cellsFrom (s.heap.objs.size+1) scope.names []) (bindC (envOfC qual scope s.heap.objs.size f cd).kindOf (ps.zip us) fun _=>none) s1):
  Inv (jB CX P w K mg base N qual scope f cd A outer s H E) [] (wH N vs) H s1:=by
 have hpl:ps.length<=N.length:=by have:=congrArg List.length S.pre;rw[List.length_take] at this;omega
 obtain⟨h1,tk,rfl,hk⟩:=x.done;have noA: ∀b:Addr,b∉(jB CX P w K mg base N qual scope f cd A outer s H E).ex:=fun b z=>KC (show b∈([]:List Addr) from z) (by simp)
 refine⟨⟨e0.mod,S.kind,rfl,rfl,Nat.le_refl _,fun y z c h1 h2=>?_,fun y hy=>?_,fun y c _ h=>?_,fun _=>hd,Around.frames_deeper e0.frames,.inr ⟨rfl,rfl⟩,fun b z=>KC z (noA b),e0.bs,e0.bsz,fun b _ _=>noA b,fun b z=>KC z (noA b),e0.funs,e0.frf⟩,
  rfl,e0.bare,Un.kept hk,⟨_,x.toInCall.ns,fun i y v h1 h2 h3=>?_⟩,fun y c h=>⟨_,x.cell y c h⟩,e0.hok.fresh (Nat.le_refl _),fun y c h=>?_,fun p hp=>KC (show p∈([]:List (Addr×Obj)) from hp) (by simp),e0.hok.kept hk,?_⟩
 ·exact name_of_addr x.apart (PySem.mem_of_lookup h1) (PySem.mem_of_lookup h2)
 ·have hy:scope.names.lookup y=some .cell\/scope.names.lookup y=some .free:=hy
  rcases hy with hy|hy
  ·exact zbU hy
  ·exact KC rfl (S.nofree _ (PySem.mem_of_lookup hy))
 ·exact Nat.le_of_lt (x.above y c (PySem.mem_of_lookup h))
 ·have hi:i<vs.length:=by
   unfold wH at h2;by_cases hi:i<vs.length
   ·exact hi
   ·rw[List.getElem?_append_right (by simpa using hi)] at h2
    rw[List.getElem?_replicate] at h2;split at h2<;>cases h2
  have ha:vs[i]? =some v:=by
   unfold wH at h2;rw[List.getElem?_append_left (by simpa using hi),List.getElem?_map] at h2
   cases e:vs[i]? with
   |none=>rw[e] at h2;cases h2
   |some a=>rw[e] at h2;cases h2;rfl
  obtain⟨u,hu,rv⟩:=r.get ha
  have hp:ps[i]? =some y:=by
   rw[<-S.pre,List.getElem?_take_of_lt (by omega)];exact h1
  have ndP:ps.Nodup:=by rw[<-S.pre];exact S.nd.sublist (List.take_sublist _ _)
  refine⟨u,rv,?_⟩;rcases S.par y (Ky hp) with k|k
  ·exact .inl ⟨k,zbS ndP hp hu k⟩
  ·obtain⟨c,e⟩:=zbU (n:=s.heap.objs.size+1) k
   refine .inr ⟨.inl k,c,e,?_⟩;have q:=x.cell y c e;rw[zbT ndP hp hu (by show scope.names.lookup y≠_;rw[k];decide)] at q;exact q
 ·exact e0.hok.fresh (Nat.le_of_lt (x.above y c (PySem.mem_of_lookup h)))
 ·unfold wH
  show _=N.length;rw[List.length_append,List.length_map,List.length_replicate];omega
theorem zjv{CX:wN}{P:Program}{w:World}{K:Ka}{mg:Str->Option Value}{base:Heap}{k:Nat}{f:Addr}{name qual:Str}{params:Arguments}{body:List Stmt}{scope:Scope}{dV kV doc pm cdv ct oc:Value}{an od:Option Addr}
  {osl:Array (Option Value)} {N ps:List Str} {sp:Sp} (lk:K.lookup f=some ⟨oc,od,.func (PySem.W.fnOf name qual params body scope dV kV doc pm an cdv ct),osl⟩) (hcd:PySem.W.codeIn K cdv qual=true) (S:FnScope N ps scope)
  (len: ∀vs H Q E,sp vs H Q E->vs.length=ps.length)
  (hbody: ∀(A:Around) (outer:List Env) (s:Shared) (H:Hp) (vs:List V) (Q:VK) (E:XK),Room k (A.deeper (envOfC qual scope s.heap.objs.size f cdv))->sp vs H Q E->
   ∃t,PSs (jB CX P w K mg base N qual scope f cdv A outer s H E) body t/\t { nx:=fun _ H'=>Q .non H',rt:=Q } (wH N vs) H):
  FnOk P w K mg base CX (k+1) f (PySem.W.fnOf name qual params body scope dV kV doc pm an cdv ct) ps sp:=by
 refine⟨len,fun A outer s H args us vs Q E hr e0 hb r hsp=>?_⟩;have hl:=len _ _ _ _ hsp;have KX:K.In s.heap:=e0.mod.kin.keeps fun b o e=>(e0.bs b o e).1
 have lim:s.heap.NoLimit:=e0.mod.nolimit.keeps fun b o e=>(e0.bs b o e).1
 have hkind: ∀y∈ps.zip us,scope.names.lookup y.1=some .local\/(scope.names.lookup y.1=some .cell/\((cellsFrom (s.heap.objs.size+1) scope.names []).lookup y.1).isSome=true):=fun ⟨n,v⟩ hy=>by
  rcases S.par n (List.of_mem_zip hy).1 with q|q
  ·exact .inl q
  ·exact .inr ⟨q,PySem.W.cellsFrom_some _ _ _ (.inl q)⟩
 refine codeAny_call_function hr.depth (KX _ _ lk) rfl S.co S.gen rfl (PySem.W.codeRec_of KX hcd) (hb _ _ _ _ ?_);refine wpAny_newFunctionEnv_cells S.kind hkind fun env he s1 x=>?_
 subst he;refine⟨lim.keeps x.toInCall.keep,codeAny_func ?_⟩;obtain⟨t,ht,hq⟩:=hbody A outer s H vs Q E (hr.deeper _) hsp;have I:Inv (jB CX P w K mg base N qual scope f cdv A outer s H E) [] (wH N vs) H s1:=zju S hr.hd e0 hl r x;refine Kd (ht [] s1 (wH N vs) H _ I hq) (fun fl s' hs=>?_) fun e s' hs=>hs
 have fin: ∀{σ':St} {H':Hp} {v:V} {u:Value},Inv (jB CX P w K mg base N qual scope f cdv A outer s H E) [] σ' H' s'->RelV v u->Q v H'->CE outer P w H s Q u s':=
  fun {σ' H' v u} J rv q=>⟨v,H',J.os,J.bare,J.base,J.hok,rv,q⟩
 cases fl with
 |ret u=>
  obtain⟨v,σ',H',J,rv,q⟩:=hs;exact fin J rv q
 |next=>
  obtain⟨σ',H',J,q⟩:=hs;exact fin (v:=V.non) (u:=Value.none) J rfl q
 |brk=>
  obtain⟨_,_,_,q⟩:=hs;exact False.elim q
 |cont=>
  obtain⟨_,_,_,q⟩:=hs;exact False.elim q
end L2
namespace L2
open PySem PySem.Spec PyProof.Rows
section
variable {X:Cx} {x:Str} {p pos:Pos} {e:Expr} {es:List Expr} {t:TA} {id T:String} {r:List V->Hp->VK->Prop}
noncomputable def qB(r:List V->Hp->VK->Prop)(t:TA):TE:=fun σ H Q=>t σ H fun vs H1=>r vs H1 Q
theorem qD(hc:xt X (.builtin id) r)(hg:Gl X x)(hm:X.mg x=none)(hv:bootBuiltins x=some (.builtin id))(ha:PA X (e::es) t)(hn:x≠"__name__":=by decide)(hdb:(x==("__debug__":Str))=false:=by decide)
  (he:starEach (e::es) X.env=(false,eval e X.env)::starEach es X.env:=by rfl) (hpl:(backTo pos (starEach es X.env)).any (·.1)=false:=by rfl):PE X (.Call (.Name x p) (e::es) [] pos) (qB r t):=by
 intro pins s σ H Q I h;refine wpAny_Call_Name_kw (Zh I hg hm hv ?_ hn hdb);exact PyProof.Rows.callWith_builtin1 (zt (ha pos pins s σ H _ I h) fun us s1 ⟨vs,H1,I1,r1,q1⟩=>hc pins s1 σ H1 vs us Q I1 r1 q1) he hpl
theorem zjw(hc:xt X (.type T) r)(hg:Gl X x)(hm:X.mg x=none)(hv:bootBuiltins x=some (.type T))(ha:PA X (e::es) t)(hn:x≠"__name__":=by decide)(hdb:(x==("__debug__":Str))=false:=by decide)
  (he:starEach (e::es) X.env=(false,eval e X.env)::starEach es X.env:=by rfl) (hpl:(backTo pos (starEach es X.env)).any (·.1)=false:=by rfl):PE X (.Call (.Name x p) (e::es) [] pos) (qB r t):=by
 intro pins s σ H Q I h;refine wpAny_Call_Name_kw (Zh I hg hm hv ?_ hn hdb);exact PyProof.Rows.callWith_type1 (zt (ha pos pins s σ H _ I h) fun us s1 ⟨vs,H1,I1,r1,q1⟩=>hc pins s1 σ H1 vs us Q I1 r1 q1) he hpl
end
end L2
namespace HT
open PySem PyProof.Rows
noncomputable def lexLt:List Int->List Int->Bool
 |[],[]=>false
 |[],_::_=>true
 |_::_,[]=>false
 |x::xs,y::ys=>if x=y then lexLt xs ys else decide (x<y)
theorem lexLt_cons(x y:Int)(xs ys:List Int):lexLt (x::xs) (y::ys)=if x=y then lexLt xs ys else decide (x<y):=rfl
theorem zbV:lexLt [] []=false:=rfl
theorem zbW(y:Int)(ys:List Int):lexLt [] (y::ys)=true:=rfl
theorem zbX(x:Int)(xs:List Int):lexLt (x::xs) []=false:=rfl
theorem zbY(A:Around)(s:Shared)(a:Int)(t:Tok)(c:Int)(u:Tok): ∃e,SeqAt.EqAt A s (.int a t) (.int c u) e/\(e=true↔a=c):=
 ⟨(a==c),SeqAt.EqAt.int_int a t c u,by simp⟩
theorem zjx(A:Around)(s:Shared)(a:Int)(t:Tok)(c:Int)(u:Tok)(prog:Program)(w:World)(E:Value->Shared->Prop)(Q:Value->Shared->Prop)(h:Q (.bool (decide (a<c))) s):
  wpAny (model prog w) A (richCompare .Lt (.int a t) (.int c u)) Q E s:=
 (PyProof.Rows.lt_int h:wpAny (model prog w) A (compareOp .Lt (.int a t) (.int c u)) Q E s)
section
open PySem.SeqAt
open PySem.AutoSeq1 (wpAny_loadPart')
open PySem.MeetsSeq PySem.MeetsSeq2 PySem.MeetsSeq3
theorem zjy(l b:Addr)(items items2:Array Value)(n n2:Nat)(dd dd2:Option Addr)(sl sl2:Array (Option Value))(ns ms:List Int)(hi:IntsAre items.toList ns)(hj:IntsAre items2.toList ms):
  Meets (Builtin.«tuple.__lt__» ⟨[.ref l,.ref b],[]⟩)
   (fun _ R s=>s.heap.get? l=some { cls:=.type "tuple",dict:=dd,data:=.seq items n,slots:=sl }/\s.heap.get? b=some { cls:=.type "tuple",dict:=dd2,data:=.seq items2 n2,slots:=sl2 }/\
    R (.ok (.ret (.bool (lexLt ns ms)))) s):=
 .of_wp fun prog w A R s h=>by
  obtain⟨hp,g,d,tk,os⟩:=s;obtain⟨hl,hb,h⟩:=h;have f2:=AutoSeq1.sub_tuple_tuple;have z1:items.size=ns.length:=by rw[<-hi.length];simp
  have z2:items2.size=ms.length:=by rw[<-hj.length];simp
  wp_walk using wpAny_loadPart' hl,wpAny_loadPart' hb,wpAny_forIn_list _ (fun zP b s'=>b.1=none/\s'=⟨hp,g,d,tk,os⟩/\∃(vs ws:List Value) (ns' ms':List Int),zP=vs.zip ws/\
   IntsAre vs ns'/\IntsAre ws ms'/\ns'.length+items2.size=ms'.length+items.size/\R (.ok (.ret (.bool (lexLt ns' ms')))) ⟨hp,g,d,tk,os⟩) _
  case turn=>
   rintro⟨y,x⟩ zP b s' ⟨hb',rfl,vs,ws,ns',ms',hz,hvi,hwi,hlen,hR⟩
   cases hvi with
   |nil=>rw[List.zip_nil_left] at hz;cases hz
   |cons a t hvi'=>
    cases hwi with
    |nil=>rw[List.zip_nil_right] at hz;cases hz
    |cons c u hwi'=>
     rw[List.zip_cons_cons] at hz;injection hz with hyx hrest;injection hyx with hy hx;subst hy hx;rw[lexLt_cons] at hR;simp only[List.length_cons] at hlen;obtain⟨e,he,hiff⟩:=zbY A.in1 ⟨hp,g,d,tk,os⟩ a t c u;refine Kb (he prog w _ _ ?_)
     cases e with
     |true=>
      rw[if_pos (hiff.mp rfl)] at hR
      wp_walk
      exact⟨rfl,rfl,_,_,_,_,hrest,hvi',hwi',by omega,hR⟩
     |false=>
      rw[if_neg (fun q=>KC (hiff.mpr q) Km)] at hR;have hri:=zjx A.in1 ⟨hp,g,d,tk,os⟩ a t c u prog w
      wp_walk using hri
      exact⟨_,rfl,by simpa using hR⟩
  case fin=>
   rintro⟨b1,b2⟩ s' ⟨hb',rfl,vs,ws,ns',ms',hz,hvi,hwi,hlen,hR⟩;simp only at hb';subst hb'
   have hv:lexLt ns' ms'=decide (items.size<items2.size):=by
    cases hvi with
    |nil=>
     cases hwi with
     |nil=>
      simp only[List.length_nil] at hlen;rw[zbV];exact (KH (by omega)).symm
     |cons c u hw=>
      simp only[List.length_nil,List.length_cons] at hlen;rw[zbW];exact (decide_eq_true (by omega)).symm
    |cons a t hv=>
     cases hwi with
     |nil=>
      simp only[List.length_nil,List.length_cons] at hlen;rw[zbX];exact (KH (by omega)).symm
     |cons c u hw=>
      rw[List.zip_cons_cons] at hz;cases hz
   rw[hv] at hR
   wp_walk
   exact⟨_,rfl,by simpa [Builtin.Tuple.tupleCompareSizes] using hR⟩
  case h=>
   exact⟨rfl,rfl,items.toList,items2.toList,ns,ms,rfl,hi,hj,by omega,h⟩
end
section
variable {prog:Program} {w:World} {A:Around} {E:Value->Shared->Prop} {s:Shared}
theorem lt_tupInts{l b:Addr}{items items2:Array Value}{ns ms:List Int}{Q:Value->Shared->Prop}(hl:IsTup s.heap l items)(hb:IsTup s.heap b items2)(hi:IntsAre items.toList ns)(hj:IntsAre items2.toList ms)
  (hu:A.units<cLine) (h:Q (.bool (lexLt ns ms)) s):wpAny (model prog w) A (compareOp .Lt (.ref l) (.ref b)) Q E s:=by
 obtain⟨⟨cls,dd,data,sl⟩,ho,hc,n,hd⟩:=id hl;obtain⟨⟨cls2,dd2,data2,sl2⟩,ho2,hc2,n2,hd2⟩:=id hb;simp only at hc hd hc2 hd2;subst hc hd hc2 hd2
 exact richCompare_meets_room (op:=.Lt) ⟨_,ho,rfl⟩ ⟨_,ho2,rfl⟩ PySem.F.slot_tuple_lt PySem.F.entry_tuple_lt (PySem.F.args_tuple_lt_2 _ _) (zjy l b items items2 n n2 dd dd2 sl sl2 ns ms hi hj)
  ⟨ho,ho2,show Value.bool (lexLt ns ms)≠Value.notImplemented/\Q (.bool (lexLt ns ms)) s from ⟨(fun x=>nomatch x),h⟩⟩ hu
noncomputable def sIx(n d:Nat):Option Int->Nat
 |none=>d
 |some v=>if v<0 then (v+(n:Int)).toNat else min v.toNat n
theorem sIx_none(n d:Nat):sIx n d none=d:=rfl
theorem sIx_nat(n d k:Nat):sIx n d (some (k:Int))=min k n:=by
 show (if (k:Int)<0 then ((k:Int)+(n:Int)).toNat else min (k:Int).toNat n)=min k n;rw[if_neg (by omega),Int.toNat_natCast]
end
end HT
namespace L2
open PySem PySem.Spec PyProof.Rows
noncomputable abbrev TO:=St->Hp->(Option Int->Hp->Prop)->Prop
noncomputable def PO(X:Cx)(e:Option Expr)(t:TO):Prop:=
 ∀(pins:List (Addr×Obj)) (s:Shared) (σ:St) (H:Hp) (Q:Option Int->Hp->Prop),Inv X pins σ H s->t σ H Q->
  wpAny (model X.prog X.w) X.A (evalPart e X.env) (fun u s'=>∃o H',Inv X pins σ H' s'/\IsPart u o/\Q o H') X.xe s
noncomputable def zjz:TO:=fun _ H Q=>Q none H
noncomputable def zjA(t:TE):TO:=fun σ H Q=>t σ H fun x H1=>∃i,x= .int i/\Q (some i) H1
theorem je{ns:List Int}: ∀{us:List Value},Vals (ns.map V.int) us->IntsAre us ns:=by
 induction ns with
 |nil=>intro us r;rw[List.map_nil] at r;cases r;exact .nil
 |cons n ns ih=>
  intro us r;rw[List.map_cons] at r
  cases r with
  |cons r1 r2=>
   obtain⟨t,e⟩:=r1;subst e;exact .cons n t (ih r2)
section
variable {X:Cx} {e:Expr} {te:TE} {lo hi:Option Expr} {tl th:TO} {pos p2:Pos}
theorem zjB:PO X none zjz:=by
 intro pins s σ H Q I h;rw[evalPart_none];exact Kc ⟨none,H,I,.none,h⟩
theorem zjC(h:PE X e te):PO X (some e) (zjA te):=by
 intro pins s σ H Q I hw;rw[evalPart_some];refine zt (h pins s σ H _ I hw) fun u s1 ⟨x,H1,I1,r1,q1⟩=>?_
 obtain⟨i,rfl,q⟩:=q1;obtain⟨t,rfl⟩:=r1;exact⟨some i,H1,I1,.int i t,q⟩
noncomputable def zbZ(X:Cx)(r:V->Option Int->Option Int->Hp->VK->Prop):Prop:=
 ∀(pins:List (Addr×Obj)) (s:Shared) (σ:St) (H:Hp) (x:V) (v vl vu:Value) (lo hi:Option Int) (sl:Addr) (Q:VK),Inv X pins σ H s->RelV x v->s.heap.IsSliceOf sl vl vu .none->IsPart vl lo->IsPart vu hi->r x lo hi H Q->
  ∃T id,typeLookup (.type T) "__getitem__"=pure (some (.builtin id))/\s.TypeIs v T/\wpAny (model X.prog X.w) X.A (getItem v (.ref sl)) (EP X pins σ Q) X.xe s
noncomputable def zjD(r:V->Option Int->Option Int->Hp->VK->Prop)(te:TE)(tl th:TO):TE:=fun σ H Q=>te σ H fun x H1=>tl σ H1 fun l H2=>th σ H2 fun u H3=>r x l u H3 Q
theorem zjE{r:V->Option Int->Option Int->Hp->VK->Prop}(hr:zbZ X r)(he:PE X e te)(hl:PO X lo tl)(hu:PO X hi th):PE X (.Subscript e (.Slice lo hi none p2) pos) (zjD r te tl th):=by
 intro pins s σ H Q I h;refine Subscript_ (zt (he pins s σ H _ I h) fun v s1 ⟨x,H1,I1,r1,q1⟩=>?_);refine wpAny_Slice (zt (hl pins s1 σ H1 _ I1 q1) fun vl s2 ⟨l,H2,I2,pl,q2⟩=>zt (hu pins s2 σ H2 _ I2 q2) fun vu s3 ⟨u,H3,I3,pu,q3⟩=>?_);rw[evalPart_none];refine Kc ?_;have I4:Inv X pins σ H3 { s3 with heap:=s3.heap.push { cls:=.type "slice",data:=.fields #[vl,vu,.none] } }:=I3.kept (t':=s3.toks) fun b ob q=>Kl _ q
 obtain⟨T,id,hT,ht,hg⟩:=hr pins { s3 with heap:=s3.heap.push { cls:=.type "slice",data:=.fields #[vl,vu,.none] } } σ H3 x v vl vu l u s3.heap.objs.size Q I4 r1 (Heap.IsSliceOf.new ..) pl pu q3;show wpAny (model X.prog X.w) X.A (subscriptTail e (.Slice lo hi none p2) v (.ref s3.heap.objs.size)) (EP X pins σ Q) X.xe { s3 with heap:=s3.heap.push { cls:=.type "slice",data:=.fields #[vl,vu,.none] } };exact tail_any (ops:=[.ref s3.heap.objs.size,v]) ht hT hg (by with_unfolding_all rfl)
noncomputable def Yb(xs:List V)(lo hi:Option Int):List V:=(xs.drop (HT.sIx xs.length 0 lo)).take (HT.sIx xs.length xs.length hi-HT.sIx xs.length 0 lo)
theorem zjF(xs:List V)(lo hi:Option Int):(Yb xs lo hi).length<=xs.length:=by
 unfold Yb;rw[List.length_take,List.length_drop];omega
noncomputable def zjG(K:Ka):R2:=fun x y H Q=>∃a b ns ms,x= .ref a/\y= .ref b/\SqT K H a (ns.map V.int)/\SqT K H b (ms.map V.int)/\Q (.bl (HT.lexLt ns ms)) H
theorem zjH(hu:X.A.units<cLine):zS X (compareOp .Lt) (zjG X.K):=by
 intro pins s σ H x y v u Q I rx ry h;obtain⟨a,b,ns,ms,rfl,rfl,ha,hb,q⟩:=h;cases rx;cases ry;obtain⟨its,r1,p1,_⟩:=I.tuple ha;obtain⟨its2,r2,p2,_⟩:=I.tuple hb;have i1:IntsAre its.toArray.toList ns:=je r1;have i2:IntsAre its2.toArray.toList ms:=je r2;exact HT.lt_tupInts p1 p2 i1 i2 hu ⟨.bl (HT.lexLt ns ms),H,I,rfl,q⟩
end
end L2
namespace L2
open PySem PySem.Spec PyProof.Rows
noncomputable def ixN(n:Nat)(i:Int):Option Nat:=if 0<=i then (if i<n then some i.toNat else none) else if -(n:Int)<=i then some (i+n).toNat else none
noncomputable def atI{α:Type}(xs:List α)(i:Int):Option α:=(ixN xs.length i).bind fun j=>xs[j]?
theorem zjI{n:Nat}{i:Int}{j:Nat}(h:ixN n i=some j):seqIndex? i n=some j/\j<n/\ -(n:Int)<=i/\i<n:=by
 unfold ixN at h;by_cases h0:0<=i
 ·rw[if_pos h0] at h
  by_cases h1:i<n
  ·rw[if_pos h1] at h
   have e:i.toNat=j:=Kn h;exact⟨by rw[seqIndex_of h0 h1,e],by omega,by omega,h1⟩
  ·rw[if_neg h1] at h;cases h
 ·rw[if_neg h0] at h
  by_cases h1: -(n:Int)<=i
  ·rw[if_pos h1] at h
   have e:(i+n).toNat=j:=Kn h;exact⟨by rw[seqIndex_neg (by omega) h1,e],by omega,h1,by omega⟩
  ·rw[if_neg h1] at h;cases h
theorem zb0{α:Type}{xs:List α}{i:Int}{v:α}(h:atI xs i=some v): ∃j,seqIndex? i xs.length=some j/\xs[j]? =some v/\j<xs.length/\ -(xs.length:Int)<=i/\i<xs.length:=by
 unfold atI at h
 cases e:ixN xs.length i with
 |none=>rw[e] at h;cases h
 |some j=>
  rw[e] at h;obtain⟨h1,h2,h3,h4⟩:=zjI e;exact⟨j,h1,h,h2,h3,h4⟩
theorem atI_nat{α:Type}{xs:List α}{j:Nat}{v:α}(h:xs[j]? =some v):atI xs (j:Int)=some v:=by
 have hj:j<xs.length:=(List.getElem?_eq_some_iff.mp h).1
 have e:ixN xs.length (j:Int)=some j:=by
  unfold ixN;rw[if_pos (by omega),if_pos (by omega)];simp
 unfold atI;rw[e];exact h
noncomputable def zb1(b:Expr):Prop:=∀o i,subscripted b false o i=operate [o,i] (getItem o i)
noncomputable def JL(X:Cx)(r:R2):Prop:=
 ∀(value slice:Expr) (pins:List (Addr×Obj)) (s:Shared) (σ:St) (H:Hp) (x y:V) (v u:Value) (Q:VK),Inv X pins σ H s->RelV x v->RelV y u->r x y H Q->
  subscripted slice false v u=operate [v,u] (getItem v u)->wpAny (model X.prog X.w) X.A (subscriptTail value slice v u) (EP X pins σ Q) X.xe s
noncomputable def Xj(X:Cx)(id:String)(r:V->List V->Hp->VK->Prop):Prop:=
 ∀(pins:List (Addr×Obj)) (s:Shared) (σ:St) (H:Hp) (x:V) (xs:List V) (v:Value) (us:List Value) (Q:VK),Inv X pins σ H s->RelV x v->Vals xs us->r x xs H Q->
  wpAny (model X.prog X.w) X.A (call (.builtin id) (v::us)) (EP X pins σ Q) X.xe s
section
variable {X:Cx} {a b:Expr} {ta tb:TE} {pos:Pos}
theorem zjJ{r:R2}(hr:JL X r)(ha:PE X a ta)(hb:PE X b tb)(hs:zb1 b):PE X (.Subscript a b pos) (Xh r ta tb):=by
 intro pins s σ H Q I h;exact Subscript_ (qw ha hb I h fun v u s2 x y H2 I2 rx ry q=>hr a b pins s2 σ H2 x y v u Q I2 rx ry q (hs _ _))
noncomputable def zjK(K:Ka):R2:=fun x y H Q=>∃p xs i v,x= .ref p/\y= .int i/\SqL K H p xs/\atI xs i=some v/\Q v H
noncomputable def zjL(K:Ka):R2:=fun x y H Q=>∃p xs i v,x= .ref p/\y= .int i/\SqT K H p xs/\atI xs i=some v/\Q v H
theorem zjM:JL X (zjK X.K):=by
 intro value slice pins s σ H x y v u Q I rx ry h hs;obtain⟨p,xs,i,z,rfl,rfl,hq,he,q⟩:=h;cases rx;obtain⟨t,rfl⟩:=ry;obtain⟨its,r,pl,hz⟩:=I.list hq;obtain⟨j,h1,h2,h3,h4,h5⟩:=zb0 he;obtain⟨w,ew,rw'⟩:=r.get h2;have hl:=r.length;have hn:=JK;have fin:EP X pins σ Q w s:=⟨z,H,I,rw',q⟩;by_cases h0:0<=i
 ·have hj:i.toNat=j:=by
   rw[seqIndex_of h0 h5] at h1;exact Kn h1
  exact item_listR pl.isList h0 (by omega) (by rw[hj];simpa using ew) fin hs
 ·have hj:(i+(its.toArray.size:Int)).toNat=j:=by
   rw[seqIndex_neg (by omega) h4] at h1;rw[List.size_toArray,<-hl];exact Kn h1
  exact subscriptTail_builtinR (x:=w) pl.isList.typeIs slot_list_getitem.lookup
   (wpAny_getItem_list_neg (Q:=fun r s'=>r=w/\EP X pins σ Q r s') pl.isList (by omega) (by rw[List.size_toArray]<;>omega) (by omega) (by rw[hj];simpa using ew) ⟨rfl,fin⟩) hs
theorem zjN:JL X (zjL X.K):=by
 intro value slice pins s σ H x y v u Q I rx ry h hs;obtain⟨p,xs,i,z,rfl,rfl,hq,he,q⟩:=h;cases rx;obtain⟨t,rfl⟩:=ry;obtain⟨its,r,pl,hz⟩:=I.tuple hq;obtain⟨j,h1,h2,h3,h4,h5⟩:=zb0 he;obtain⟨w,ew,rw'⟩:=r.get h2;have hl:=r.length;have hn:=JK;have fin:EP X pins σ Q w s:=⟨z,H,I,rw',q⟩
 exact subscriptTail_builtinR (x:=w) pl.typeIs slot_tuple_getitem.lookup
  (getItem_tuple (j:=j) (Q:=fun r s'=>r=w/\EP X pins σ Q r s') pl (by omega) (by omega) (by rw[List.size_toArray,<-hl];exact h1) (by simpa using ew) ⟨rfl,fin⟩) hs
theorem zjO(lo hi:Option Int)(n:Nat):(sliceBounds lo hi none n).1=((HT.sIx n 0 lo:Nat):Int)/\(sliceBounds lo hi none n).2.1=((HT.sIx n n hi:Nat):Int)/\(sliceBounds lo hi none n).2.2=1:=by
 refine⟨?_,?_,rfl⟩
 ·cases lo with
  |none=>simp[sliceBounds,HT.sIx]
  |some i=>
   simp only[sliceBounds,HT.sIx,Option.getD_none,show (1:Int)>0 by decide,if_true];by_cases h:i<0
   ·simp only[h,if_true]<;>omega
   ·simp only[h,if_false]<;>omega
 ·cases hi with
  |none=>simp[sliceBounds,HT.sIx]
  |some i=>
   simp only[sliceBounds,HT.sIx,Option.getD_none,show (1:Int)>0 by decide,if_true];by_cases h:i<0
   ·simp only[h,if_true]<;>omega
   ·simp only[h,if_false]<;>omega
theorem zjP(its:List Value)(lo hi:Option Int):slicePick its.toArray lo hi none=((its.drop (HT.sIx its.length 0 lo)).take (HT.sIx its.length its.length hi-HT.sIx its.length 0 lo)).toArray:=by
 obtain⟨h1,h2,h3⟩:=zjO lo hi its.toArray.size;unfold slicePick;rw[h1,h2,h3];simp only[sliceRange_one,pick_run,List.size_toArray]<;>rfl
noncomputable def zjQ(K:Ka):V->Option Int->Option Int->Hp->VK->Prop:=fun x lo hi H Q=>∃a xs,x= .ref a/\SqL K H a xs/\∀p,H p=none->Q (.ref p) (zF H p (.lst (Yb xs lo hi)))
theorem zjR:zbZ X (zjQ X.K):=by
 intro pins s σ H x v vl vu lo hi sl Q I rx hs pl pu h;obtain⟨a,xs,rfl,hx,q⟩:=h;cases rx;obtain⟨its,r,ht,hz⟩:=I.list hx;have hlen:=r.length;refine⟨"list",_,slot_list_getitem.lookup,ht.isList.typeIs,?_⟩;refine wpAny_getItem_list_slice ht.isList hs pl pu .none (by simp) ?_ (by rw[List.size_toArray]<;>omega);rw[zjP,<-hlen];refine⟨.ref s.heap.objs.size,_,I.laid (t':=s.toks) (o:=.lst (Yb xs lo hi)) (fun b ob q=>Kl _ q) (Nat.le_refl _) ?_,rfl,q _ (I.hok.fresh (Nat.le_refl _))⟩;exact⟨Kg (zjF xs lo hi) hz,_,0,(r.drop (HT.sIx xs.length 0 lo)).take (HT.sIx xs.length xs.length hi-HT.sIx xs.length 0 lo),Heap.get?_push_size _ rfl⟩
theorem zb2:xt X (.builtin "len") (fun xs H Q=>∃p ys,xs=[.ref p]/\(SqL X.K H p ys\/SqT X.K H p ys)/\Q (.int ys.length) H):=by
 intro pins s σ H xs us Q I r h;obtain⟨p,ys,rfl,hq,q⟩:=h;obtain⟨u,rfl,rx⟩:=wW r;cases rx;have hn:=JK;rcases hq with hq|hq
 ·obtain⟨its,r',pl,hz⟩:=I.list hq
  have hlen:=r'.length;exact Calls.call_len_list pl.isList (by simp only[List.size_toArray]<;>omega) ⟨.int ys.length,H,I.tok _,⟨s.toks+1,by rw[List.size_toArray,hlen]⟩,q⟩
 ·obtain⟨its,r',pl,hz⟩:=I.tuple hq
  have hlen:=r'.length;exact len_tuple pl (by simp only[List.size_toArray]<;>omega) ⟨.int ys.length,H,I.tok _,⟨s.toks+1,by rw[List.size_toArray,hlen]⟩,q⟩
theorem zb3:xt X (.type "tuple") (fun xs H Q=>∃p ys,xs=[.ref p]/\((SqL X.K H p ys/\∀l,H l=none->Q (.ref l) (zF H l (.tup ys)))\/(SqT X.K H p ys/\Q (.ref p) H))):=by
 intro pins s σ H xs us Q I r h;obtain⟨p,ys,rfl,h⟩:=h;obtain⟨u,rfl,rx⟩:=wW r;cases rx;rcases h with ⟨hq,q⟩|⟨hq,q⟩
 ·obtain⟨its,r',pl,hz⟩:=I.list hq
  have hlen:=r'.length;refine call_tuple_list pl.isList (fun h' kp=>?_) (by simp only[List.size_toArray]<;>omega);have I1:Inv X pins σ H { s with heap:=h' }:=I.kept (t':=s.toks) kp
  have I2:Inv X pins σ (zF H h'.objs.size (.tup ys)) { s with heap:=h'.push { cls:=.type "tuple",data:=.seq its.toArray } }:=
   I1.laid (t':=s.toks) (fun b o e=>Kl _ e) (Nat.le_refl _) (show ObjOk X.prog X.w _ _ _ (.tup ys) from ⟨hz,its,r',IsTup.new _ _⟩)
  exact⟨.ref h'.objs.size,_,I2,rfl,q _ (I1.hok.fresh (Nat.le_refl _))⟩
 ·obtain⟨its,r',pl,hz⟩:=I.tuple hq
  exact call_tuple_same pl ⟨.ref p,H,I,rfl,q⟩
noncomputable def qE(K:Ka)(T:String)(x:V)(H:Hp):Prop:=match x with
 | .str _=>T="str"
 | .int _=>T="int"
 | .ref p=>(T="list"/\∃xs,SqL K H p xs)\/(T="tuple"/\∃o,K.lookup p=some o/\o.cls= .type "tuple"/\o.dict=none)\/
   (T="dict"/\((∃kvs,H p=some (.dK kvs))\/∃kvs,H p=some (.dT kvs)))\/(T="set"/\∃S n,H p=some (.set S n))
 |_=>False
theorem zb4{pins:List (Addr×Obj)}{σ:St}{H:Hp}{s:Shared}{T:String}{x:V}{v:Value}(I:Inv X pins σ H s)(r:RelV x v)(ty:qE X.K T x H):
  s.TypeIs v T/\∀a,v= .ref a->∃ob,s.heap.get? a=some ob/\ob.dict=none:=by
 cases x with
 |str z=>
  obtain⟨t,rfl⟩:=r;cases (show T="str" from ty);exact⟨typeIs_str s z t,fun _ e=>nomatch e⟩
 |int i=>
  obtain⟨t,rfl⟩:=r;cases (show T="int" from ty);exact⟨typeIs_int s i t,fun _ e=>nomatch e⟩
 |ref p=>
  cases r;rcases ty with ⟨rfl,xs,hq⟩|⟨rfl,o,hk,hc,hd⟩|⟨rfl,hk⟩|⟨rfl,S,n,hk⟩
  ·obtain⟨its,_,pl,_⟩:=I.list hq
   refine⟨pl.isList.typeIs,fun a e=>?_⟩;cases e;obtain⟨o,n,e,c,hd,_⟩:=pl;exact⟨o,e,hd⟩
  ·refine⟨⟨o,I.kIn p o hk,hc⟩,fun a e=>?_⟩
   cases e;exact⟨o,I.kIn _ o hk,hd⟩
  ·have z: ∃o,s.heap.get? p=some o/\o.ExactDict:=by
    rcases hk with ⟨kvs,hk⟩|⟨kvs,hk⟩
    ·obtain⟨_,_,_,_,o,_,_,e,ex,_⟩:=I.hok p _ hk
     exact⟨o,e,ex⟩
    ·obtain⟨_,_,_,_,o,_,_,e,ex,_⟩:=I.hok p _ hk
     exact⟨o,e,ex⟩
   obtain⟨o,e,ex⟩:=z;refine⟨⟨o,e,ex.1⟩,fun a e2=>?_⟩;cases e2;exact⟨o,e,ex.2.1⟩
  ·obtain⟨o,_,_,_,e,ex,_⟩:=I.hok p _ hk
   refine⟨⟨o,e,ex.1⟩,fun a e2=>?_⟩;cases e2;exact⟨o,e,ex.2.1⟩
 |_=>exact False.elim ty
noncomputable def zjS(K:Ka)(T:String)(r:V->List V->Hp->VK->Prop)(to:TE):TE:=fun σ H Q=>to σ H fun x H1=>qE K T x H1/\r x [] H1 Q
noncomputable def zjT(K:Ka)(T:String)(r:V->List V->Hp->VK->Prop)(to:TE)(t:TA):TE:=fun σ H Q=>to σ H fun x H1=>qE K T x H1/\t σ H1 fun xs H2=>r x xs H2 Q
variable {o e:Expr} {es:List Expr} {to:TE} {t:TA} {name:Str} {apos cpos:Pos} {T id:String} {r:V->List V->Hp->VK->Prop}
theorem zb5(pa:PlainAttrs T)(slot:Slot T name id)(hty:typeOf (.builtin id)=pure (.type "method_descriptor"))(hm:Xj X id r)(ho:PE X o to)
  (hbase:attributeBase o name X.env (eval o X.env)=eval o X.env:=by rfl) (hline:(apos.endLine==cpos.line)=true:=by rfl):PE X (.Call (.Attribute o name apos) [] [] cpos) (zjS X.K T r to):=by
 intro pins s σ H Q I h;refine wpAny_Call_method0_late hbase hline (zt (ho pins s σ H _ I h) fun v s1 ⟨x,H1,I1,r1,ty,q1⟩=>?_);obtain⟨h1,h2⟩:=zb4 I1 r1 ty;exact⟨T,id,pa,slot,hty,h1,h2,Calls.callWith_builtin rfl (PySem.evalArgs_none (hm pins s1 σ H1 x [] v [] Q I1 r1 .nil q1))⟩
theorem zb6(pa:PlainAttrs T)(slot:Slot T name id)(hty:typeOf (.builtin id)=pure (.type "method_descriptor"))(hm:Xj X id r)(ho:PE X o to)(ha:PA X (e::es) t)
  (hbase:attributeBase o name X.env (eval o X.env)=eval o X.env:=by rfl)
  (hfew:((backTo cpos (starEach (e::es) X.env)).all (fun x=> !x.1)&&(backToKw cpos (keywordEach [] X.env)).all (fun x=>x.1.isSome)
   &&decide ((e::es).length+([]:List Keyword).length+(if ([]:List Keyword).isEmpty then 0 else 1)<30))=true:=by rfl)
  (hline:(apos.endLine==cpos.line)=true:=by rfl) (hs:starEach (e::es) X.env=(false,eval e X.env)::starEach es X.env:=by rfl) (hplain:(backTo cpos (starEach es X.env)).any (·.1)=false:=by rfl):
  PE X (.Call (.Attribute o name apos) (e::es) [] cpos) (zjT X.K T r to t):=by
 intro pins s σ H Q I h;refine wpAny_Call_method_late hbase hfew hline rfl (zt (ho pins s σ H _ I h) fun v s1 ⟨x,H1,I1,r1,ty,q1⟩=>?_);obtain⟨h1,h2⟩:=zb4 I1 r1 ty;refine⟨T,id,pa,slot,hty,h1,h2,?_⟩;have hA:=ha cpos pins s1 σ H1 _ I1 q1;rw[hs] at hA⊢;refine Calls.callWith_builtin (by show (false||(backTo cpos (starEach es X.env)).any (·.1))=false;rw[hplain]<;>rfl) (Calls.evalArgs_plain ?_);exact zt hA fun us s2 ⟨vs,H2,I2,r2,q2⟩=>hm pins s2 σ H2 x vs v us Q I2 r1 r2 q2
end
end L2
namespace L2
open PySem PySem.Spec PyProof.Rows
noncomputable def zjU(X:Cx)(id:String)(r:V->List V->Hp->VK->Prop):Prop:=
 ∀(pins:List (Addr×Obj)) (s:Shared) (σ:St) (H:Hp) (x:V) (xs:List V) (v:Value) (us:List Value) (Q:VK),Inv X pins σ H s->RelV x v->Vals xs us->r x xs H Q->
  wpAny (model X.prog X.w) X.A (call (.builtin id) (v::us)) (EP X pins σ Q) X.xe s
theorem Vals.one: ∀{x:V} {us:List Value},Vals [x] us->∃u,us=[u]/\RelV x u
 |_,_,.cons r .nil=>⟨_,rfl,r⟩
theorem Vals.rep{xs:List V}{us:List Value}(h:Vals xs us): ∀k:Nat,Vals (List.replicate k xs).flatten (List.replicate k us).flatten
 |0=>.nil
 |k+1=>by
  rw[List.replicate_succ,List.replicate_succ,List.flatten_cons,List.flatten_cons];exact Vals.append h (Vals.rep h k)
section
variable {X:Cx} {pins:List (Addr×Obj)} {σ:St} {H:Hp} {s:Shared} {l b:Addr} {xs ys zs:List V}
theorem Inv.lset{its its':List Value}{n:Nat}{f:Array Value->Array Value}{t':Nat}(I:Inv X pins σ H s)(hH:H l=some (.lst xs))
  (e:s.heap.get? l=some { cls:=.type "list",data:=.seq its.toArray n }) (hf:f its.toArray=its'.toArray) (hv:Vals ys its') (hz:ys.length<=sizeLine):
  Inv X pins σ (zF H l (.lst ys)) { s with heap:=s.heap.update l (Obj.mapSeq f),toks:=t' }:=by
 have q:=PySem.IsL.update e f;rw[hf] at q;refine I.write (x:=l) (e:=l) (by rw[hH];exact trivial) (.inl rfl) (fun b' u hb hu=>(Heap.get?_update_other s.heap (Obj.mapSeq f) (Ne.symm hb)).trans hu) ⟨_,q⟩ ?_;exact⟨hz,its',_,hv,q⟩
theorem Inv.lnew{its:List Value}{t':Nat}(I:Inv X pins σ H s)(hv:Vals ys its)(hz:ys.length<=sizeLine):
  Inv X pins σ (zF H s.heap.objs.size (.lst ys)) { s with heap:=s.heap.push { cls:=.type "list",data:=.seq its.toArray },toks:=t' }:=
 I.laid (fun _ _ q=>Kl _ q) (Nat.le_refl _) ⟨hz,its,0,hv,Heap.get?_push_size _ rfl⟩
theorem Inv.fresh(I:Inv X pins σ H s):H s.heap.objs.size=none:=I.hok.fresh (Nat.le_refl _)
theorem Inv.lstM(I:Inv X pins σ H s)(hH:H l=some (.lst xs)):xs.length<=sizeLine/\∃(its:List Value) (n:Nat),Vals xs its/\xs.length=its.length/\s.heap.get? l=some { cls:=.type "list",data:=.seq its.toArray n }:=by
 obtain⟨z,its,n,r,e⟩:=I.hok l _ hH;exact⟨z,its,n,r,r.length,e⟩
end
section
variable {X:Cx}
noncomputable def zjV:V->List V->Hp->VK->Prop:=fun x vs H Q=>∃l xs y,x= .ref l/\vs=[y]/\H l=some (.lst xs)/\xs.length<sizeLine/\Q .non (zF H l (.lst (xs++[y])))
theorem qF:zjU X "list.append" zjV:=by
 intro pins s σ H x vs v us Q I rx rv h;obtain⟨l,xs,y,rfl,rfl,hH,hz,q⟩:=h;cases rx;obtain⟨u,rfl,ru⟩:=rv.one;obtain⟨z,its,n,r,hl,e⟩:=I.lstM hH;refine call_meets F.slot_list_append ⟨_,e,rfl⟩ F.entry_list_append (F.args_list_append_2 _ _) (PySem.list_append l its.toArray n u (by rw[List.size_toArray];omega)) ⟨e,?_⟩;refine⟨.non,_,I.lset (its':=its++[u]) hH e (by simp) (r.append (.cons ru .nil)) ?_,rfl,q⟩;rw[List.length_append,List.length_singleton];omega
end
end L2
namespace L2
open PySem PySem.Spec PyProof.Rows
section
variable {κ:Type} [DecidableEq κ]
noncomputable def xn(kvs:List (κ×V))(k:κ):Option V:=(kvs.find? fun kv=>decide (kv.1=k)).map (·.2)
noncomputable def xB(kvs:List (κ×V))(k:κ)(v:V):List (κ×V):=
 if (kvs.any fun kv=>decide (kv.1=k))=true then kvs.map (fun kv=>if kv.1=k then (kv.1,v) else kv) else kvs++[(k,v)]
theorem Xk{p:κ×V}{r:List (κ×V)}{k:κ}(e:p.1=k):xn (p::r) k=some p.2:=by simp[xn,List.find?_cons,e]
theorem Xl{p:κ×V}{r:List (κ×V)}{k:κ}(e: ¬p.1=k):xn (p::r) k=xn r k:=by simp[xn,List.find?_cons,e]
theorem JM(k:κ): ∀kvs:List (κ×V),(kvs.any fun kv=>decide (kv.1=k))=(xn kvs k).isSome
 |[]=>rfl
 |p::r=>by
  rw[List.any_cons];by_cases e:p.1=k
  ·simp only[Xk e,decide_eq_true e,Bool.true_or,Option.isSome_some]
  ·rw[Xl e,KH e,Bool.false_or];exact JM k r
theorem zb7(kvs:List (κ×V))(k:κ)(v:V):(xB kvs k v).length<=kvs.length+1:=by
 unfold xB;split
 ·rw[List.length_map];omega
 ·rw[List.length_append,List.length_cons,List.length_nil];omega
theorem RelO.isSome_eq{o:Option V}{u:Option Value}(r:RelO o u):o.isSome=u.isSome:=by
 cases o with
 |none=>cases u with
  |none=>rfl
  |some _=>exact (show False from r).elim
 |some _=>cases u with
  |none=>exact (show False from r).elim
  |some _=>rfl
theorem RelO.getD{o:Option V}{u:Option Value}{d:V}{d':Value}(r:RelO o u)(rd:RelV d d'):RelV (o.getD d) (u.getD d'):=by
 cases o with
 |none=>cases u with
  |none=>exact rd
  |some _=>exact (show False from r).elim
 |some _=>cases u with
  |none=>exact (show False from r).elim
  |some _=>exact r
theorem KV.val{kvs:List (κ×V)}{vs:List (κ×Value)}(r:KV kvs vs)(k:κ):RelO (xn kvs k) (valueAt vs k):=by
 unfold KV at r
 induction r with
 |nil=>exact True.intro
 | @cons p q ps qs h t ih=>
  obtain⟨h1,h2⟩:=h;by_cases e:p.1=k
  ·have e':q.1=k:=h1.symm.trans e
   have b:valueAt (q::qs) k=some q.2:=by simp[valueAt,List.find?_cons,e']
   rw[Xk e,b];exact h2
  ·have e': ¬q.1=k:=fun z=>e (h1.trans z)
   have b:valueAt (q::qs) k=valueAt qs k:=by simp[valueAt,List.find?_cons,e']
   rw[Xl e,b];exact ih
theorem KV.any{kvs:List (κ×V)}{vs:List (κ×Value)}(r:KV kvs vs)(k:κ):(kvs.any fun kv=>decide (kv.1=k))=vs.any fun kv=>decide (kv.1=k):=by
 unfold KV at r
 induction r with
 |nil=>rfl
 |cons h t ih=>rw[List.any_cons,List.any_cons,ih,h.1]
theorem KV.repl{kvs:List (κ×V)}{vs:List (κ×Value)}(r:KV kvs vs)(k:κ){y:V}{u:Value}(ry:RelV y u):
  KV (kvs.map fun kv=>if kv.1=k then (kv.1,y) else kv) (vs.map fun kv=>if kv.1=k then (kv.1,u) else kv):=by
 unfold KV at r⊢
 induction r with
 |nil=>exact .nil
 | @cons p q ps qs h t ih=>
  rw[List.map_cons,List.map_cons];refine .cons ?_ ih;obtain⟨h1,h2⟩:=h;by_cases e:p.1=k
  ·rw[if_pos e,if_pos (h1.symm.trans e)];exact⟨h1,ry⟩
  ·rw[if_neg e,if_neg (fun z=>e (h1.trans z))];exact⟨h1,h2⟩
theorem KV.put{kvs:List (κ×V)}{vs:List (κ×Value)}(r:KV kvs vs)(k:κ){y:V}{u:Value}(ry:RelV y u):KV (xB kvs k y) (stored vs k u):=by
 unfold xB stored;rw[r.any k];by_cases e:(vs.any fun kv=>decide (kv.1=k))=true
 ·rw[if_pos e,if_pos e];exact r.repl k ry
 ·rw[if_neg e,if_neg e];exact Paired.snoc r ⟨rfl,ry⟩
theorem KV.length{kvs:List (κ×V)}{vs:List (κ×Value)}(r:KV kvs vs):kvs.length=vs.length:=Paired.length r
end
theorem Yc{P:Program}{w:World}{k:zy}{u:Value}(r:RelV (kV k) u):(zT P w).is k u=true:=by
 cases k with
 |inl i=>obtain⟨t,e⟩:=(show ∃t,u=Value.int i t from r);subst e;exact zhW P w i t
 |inr x=>obtain⟨t,e⟩:=(show ∃t,u=Value.str x t from r);subst e;exact zhX P w x t
theorem zb8{P:Program}{w:World}: ∀{ks:List zy} {us:List Value},Vals (ks.map kV) us->ItemsAre (zT P w) ks us
 |[],_,r=>by rw[List.map_nil] at r;cases r;exact .nil
 |k::ks,_,r=>by
  rw[List.map_cons] at r
  cases r with
  |cons h t=>exact .cons (Yc h) (zb8 t)
noncomputable abbrev KT(H:Hp):List (List zy×V)->List (List zy×Addr×Value)->Prop:=Paired fun p q=>p.1=q.1/\H q.2.1=some (.tup (p.1.map kV))/\RelV p.2 q.2.2
theorem KT.val{H:Hp}{kvs:List (List zy×V)}{xs:List (List zy×Addr×Value)}(r:KT H kvs xs)(k:List zy):RelO (xn kvs k) ((atKey xs k).map (·.2)):=by
 induction r with
 |nil=>exact True.intro
 | @cons p q ps qs h t ih=>
  obtain⟨h1,_,h2⟩:=h;by_cases e:p.1=k
  ·have e':q.1=k:=h1.symm.trans e
   have b:atKey (q::qs) k=some q.2:=by simp[atKey,List.find?_cons,e']
   rw[Xk e,b];exact h2
  ·have e': ¬q.1=k:=fun z=>e (h1.trans z)
   have b:atKey (q::qs) k=atKey qs k:=by simp[atKey,List.find?_cons,e']
   rw[Xl e,b];exact ih
theorem KT.repl{H:Hp}{kvs:List (List zy×V)}{xs:List (List zy×Addr×Value)}(r:KT H kvs xs)(k:List zy){y:V}{u:Value}(ry:RelV y u):
  KT H (kvs.map fun kv=>if kv.1=k then (kv.1,y) else kv) (xs.map (putAt k u)):=by
 induction r with
 |nil=>exact .nil
 | @cons p q ps qs h t ih=>
  rw[List.map_cons,List.map_cons];refine .cons ?_ ih;obtain⟨h1,h2,h3⟩:=h;unfold putAt;by_cases e:p.1=k
  ·rw[if_pos e,if_pos (h1.symm.trans e)];exact⟨h1,h2,ry⟩
  ·rw[if_neg e,if_neg (fun z=>e (h1.trans z))];exact⟨h1,h2,h3⟩
theorem KT.put{H:Hp}{kvs:List (List zy×V)}{xs:List (List zy×Addr×Value)}(r:KT H kvs xs)(k:List zy){b:Addr}{y:V}{u:Value}(hb:H b=some (.tup (k.map kV)))(ry:RelV y u):
  KT H (xB kvs k y) (storedH xs k b u):=by
 have e:(kvs.any fun kv=>decide (kv.1=k))=(atKey xs k).isSome:=by
  rw[JM,(r.val k).isSome_eq,Option.isSome_map]
 unfold xB storedH;rw[e];by_cases q:(atKey xs k).isSome=true
 ·rw[if_pos q,if_pos q];exact r.repl k ry
 ·rw[if_neg q,if_neg q];exact Paired.snoc r ⟨rfl,hb,ry⟩
theorem KT.keeps{H H':Hp}{kvs:List (List zy×V)}{xs:List (List zy×Addr×Value)}(r:KT H kvs xs)(ht: ∀b ys,H b=some (.tup ys)->H' b=some (.tup ys)):KT H' kvs xs:=
 Paired.mapP r fun _ _ z=>⟨z.1,ht _ _ z.2.1,z.2.2⟩
section
variable {P:Program} {w:World} {H:Hp} {h:Heap} {a:Addr}
theorem zb9{u:HO}(ok:HOk P w H h)(e:Rd H a u):ObjOk P w H h a u:=e.ok ok
theorem jC{kvs:List (zy×V)}(ok:HOk P w H h)(e:Rd H a (.dK kvs)):kvs.length<=sizeLine/\(a==sysModules)=false/\∃vs,KV kvs vs/\h.DictOf (zT P w) a vs:=
 show ObjOk P w H h a (.dK kvs) from zb9 ok e
theorem zjW{kvs:List (zy×V)}(ok:HOk P w H h)(e:H a=some (.dK kvs)):kvs.length<=sizeLine/\(a==sysModules)=false/\∃vs,KV kvs vs/\h.DictOf (zT P w) a vs:=jC ok (.inl e)
theorem Zl{ks:List zy}(ok:HOk P w H h)(e:H a=some (.tup (ks.map kV))):(tupleKind (zT P w)).is h ks a:=by
 obtain⟨_,its,r,o,h1,h2,n,h3⟩:=(show ObjOk P w H h a (.tup (ks.map kV)) from ok a _ e);exact⟨o,its.toArray,n,h1,h2,h3,by simpa using zb8 r⟩
theorem jD{kvs:List (List zy×V)}(ok:HOk P w H h)(e:Rd H a (.dT kvs)):kvs.length<=sizeLine/\(a==sysModules)=false/\
  ∃xs,KT H kvs xs/\h.DictOfH (tupleKind (zT P w)) a xs:=by
 obtain⟨z,y,xs,r,o,es,ep,h1,h2,h3,h4,h5⟩:=(show ObjOk P w H h a (.dT kvs) from zb9 ok e);refine⟨z,y,xs,r,o,es,ep,h1,h2,h3,h4,fun x hx=>?_,h5⟩
 have all: ∀{l:List (List zy×V)} {m:List (List zy×Addr×Value)},KT H l m->∀x∈m,(tupleKind (zT P w)).is h x.1 x.2.1:=by
  intro l m q
  induction q with
  |nil=>intro x hx;exact nomatch hx
  | @cons p q ps qs hq t ih=>
   intro x hx;rcases List.mem_cons.mp hx with e|hx
   ·subst e
    exact Zl ok (by rw[<-hq.1];exact hq.2.1)
   ·exact ih x hx
 exact all r x hx
theorem Xm{kvs:List (List zy×V)}(ok:HOk P w H h)(e:H a=some (.dT kvs)):kvs.length<=sizeLine/\(a==sysModules)=false/\
  ∃xs,KT H kvs xs/\h.DictOfH (tupleKind (zT P w)) a xs:=jD ok (.inl e)
end
noncomputable def DGet(H:Hp)(a:Addr)(y:V)(r:Option V):Prop:=
 (∃kvs k,Rd H a (.dK kvs)/\y=kV k/\r=xn kvs k)\/∃kvs k b,Rd H a (.dT kvs)/\y= .ref b/\H b=some (.tup (k.map kV))/\r=xn kvs k
noncomputable def DPut(H:Hp)(a:Addr)(y v:V)(H':Hp):Prop:=
 (∃kvs k,H a=some (.dK kvs)/\y=kV k/\kvs.length<sizeLine/\H'=zF H a (.dK (xB kvs k v)))\/
 ∃kvs k b,H a=some (.dT kvs)/\y= .ref b/\H b=some (.tup (k.map kV))/\kvs.length<sizeLine/\H'=zF H a (.dT (xB kvs k v))
theorem DGet.t{H:Hp}{a b:Addr}{kvs:List (List zy×V)}{k:List zy}(e:H a=some (.dT kvs))(eb:H b=some (.tup (k.map kV))):DGet H a (.ref b) (xn kvs k):=.inr ⟨kvs,k,b,.inl e,rfl,eb,rfl⟩
theorem DPut.k{H:Hp}{a:Addr}{kvs:List (zy×V)}{k:zy}{v:V}(e:H a=some (.dK kvs))(hl:kvs.length<sizeLine):DPut H a (kV k) v (zF H a (.dK (xB kvs k v))):=.inl ⟨kvs,k,e,rfl,hl,rfl⟩
theorem DPut.t{H:Hp}{a b:Addr}{kvs:List (List zy×V)}{k:List zy}{v:V}(e:H a=some (.dT kvs))(eb:H b=some (.tup (k.map kV)))(hl:kvs.length<sizeLine):
  DPut H a (.ref b) v (zF H a (.dT (xB kvs k v))):=.inr ⟨kvs,k,b,e,rfl,eb,hl,rfl⟩
section
variable {X:Cx} {pins:List (Addr×Obj)} {σ:St} {H:Hp} {s:Shared} {a:Addr} {y v:V} {u r:Value} {o:Option V} {A:Around} {E:Value->Shared->Prop}
theorem Inv.big(I:Inv X pins σ H s):sysModules<s.heap.objs.size:=by
 have h:mainGlobals<s.heap.objs.size:=(I.mod.glob.keeps I.bk).lt;exact Nat.lt_trans (by decide) h
theorem zjX{Q:Value->Shared->Prop}(hu:A.units+1<cLine)(I:Inv X pins σ H s)(g:DGet H a y (some v))(ry:RelV y u)(h: ∀w' s',Inv X pins σ H s'->RelV v w'->Q w' s'):
  wpAny (model X.prog X.w) A (getItem (.ref a) u) Q E s:=by
 rcases g with ⟨kvs,k,e,ey,l⟩|⟨kvs,k,b,e,ey,eb,l⟩
 ·subst ey
  obtain⟨z,hd,vs,rel,dd⟩:=jC I.hok e;obtain⟨w',hw,rw'⟩:=RelO.some_of (v:=v) (o:=valueAt vs k) (by rw[l];exact rel.val k);exact wpAny_getItem_of (Yc ry) dd.mapOf hw (h w' _ (I.tok _) rw')
 ·subst ey
  cases (show u=Value.ref b from ry);obtain⟨z,hd,xs,rel,dd⟩:=jD I.hok e;obtain⟨w',hw,rw'⟩:=RelO.some_of (v:=v) (o:=(atKey xs k).map (·.2)) (by rw[l];exact rel.val k);obtain⟨p,hp,hp2⟩:=jo2.mp hw;refine wpAny_getItem_heap (tupleKind_room_in1 hu) (Zl I.hok eb) dd hp ?_;rw[hp2];exact h w' _ (I.tok _) rw'
theorem zca{Q:Value->Shared->Prop}(hu:A.units+1<cLine)(I:Inv X pins σ H s)(g:DGet H a y o)(ry:RelV y u)(h: ∀s',Inv X pins σ H s'->Q (.bool o.isSome) s'):
  wpAny (model X.prog X.w) A (compareOp .In u (.ref a)) Q E s:=by
 rcases g with ⟨kvs,k,e,ey,l⟩|⟨kvs,k,b,e,ey,eb,l⟩
 ·subst ey
  obtain⟨z,hd,vs,rel,dd⟩:=jC I.hok e;refine wpAny_in_of (Yc ry) hd dd.mapOf ?_;rw[<-(rel.val k).isSome_eq,<-l];exact h _ (I.tok _)
 ·subst ey
  cases (show u=Value.ref b from ry);obtain⟨z,hd,xs,rel,dd⟩:=jD I.hok e;refine wpAny_in_heap (tupleKind_room_in1 hu) (Zl I.hok eb) hd dd ?_;have q:=(rel.val k).isSome_eq;rw[Option.isSome_map] at q;rw[<-q,<-l];exact h _ (I.tok _)
theorem zcb{Q:Value->Shared->Prop}(hu:A.units+1<cLine)(I:Inv X pins σ H s)(g:DGet H a y o)(ry:RelV y u)(h: ∀s',Inv X pins σ H s'->Q (.bool (!o.isSome)) s'):
  wpAny (model X.prog X.w) A (compareOp .NotIn u (.ref a)) Q E s:=by
 rcases g with ⟨kvs,k,e,ey,l⟩|⟨kvs,k,b,e,ey,eb,l⟩
 ·subst ey
  obtain⟨z,hd,vs,rel,dd⟩:=jC I.hok e;refine wpAny_notIn_of (Yc ry) hd dd.mapOf ?_;rw[<-(rel.val k).isSome_eq,<-l];exact h _ (I.tok _)
 ·subst ey
  cases (show u=Value.ref b from ry);obtain⟨z,hd,xs,rel,dd⟩:=jD I.hok e;refine wpAny_notIn_heap (tupleKind_room_in1 hu) (Zl I.hok eb) hd dd ?_;have q:=(rel.val k).isSome_eq;rw[Option.isSome_map] at q;rw[<-q,<-l];exact h _ (I.tok _)
theorem JN{h':Heap}{t':Nat}{ob:HO}(I:Inv X pins σ H s)(mu:Xb (H a))(hs:Heap.SameBut a s.heap h')(he: ∃q,h'.get? a=some q)(new:ObjOk X.prog X.w (zF H a ob) h' a ob):
  Inv X pins σ (zF H a ob) { s with heap:=h',toks:=t' }:=
 I.write (x:=a) (e:=a) mu (.inl rfl) (fun b q hb z=>(hs.2 b hb).trans z) he new
theorem zjY{P:Program}{w:World}{H':Hp}{h':Heap}{kvs:List (zy×V)}{vs:List (zy×Value)}(z:kvs.length<=sizeLine)(hd:(a==sysModules)=false)(rel:KV kvs vs)(dd:h'.DictOf (zT P w) a vs):
  ObjOk P w H' h' a (.dK kvs):=⟨z,hd,vs,rel,dd⟩
theorem zjZ{H':Hp}{Q:Unit->Shared->Prop}(hu:A.units+1<cLine)(I:Inv X pins σ H s)(g:DPut H a y v H')(ry:RelV y u)(rv:RelV v r)(h: ∀s',Inv X pins σ H' s'->Q () s'):
  wpAny (model X.prog X.w) A (setItem (.ref a) u r) Q E s:=by
 rcases g with ⟨kvs,k,e,ey,l,eH⟩|⟨kvs,k,b,e,ey,eb,l,eH⟩
 ·subst ey eH
  obtain⟨z,hd,vs,rel,dd⟩:=zjW I.hok e;have hz:vs.length<=sizeLine:=by rw[<-rel.length];exact z
  have hl:(xB kvs k v).length<=sizeLine:=by have:=zb7 kvs k v;omega
  refine wpAny_setItem_pairs (hsz:=hz) (Yc ry) dd fun h' dd' hs=>h _ ?_
  have he: ∃q,h'.get? a=some q:=let ⟨q,_,_,hq,_⟩:=dd';⟨q,hq⟩;exact JN I (by rw[e];exact True.intro) hs he (zjY hl hd (rel.put k rv) dd')
 ·subst ey eH
  cases (show u=Value.ref b from ry);obtain⟨z,hd,xs,rel,dd⟩:=Xm I.hok e;have hz:xs.length<=sizeLine:=by rw[<-Paired.length rel];exact z
  have hl:(xB kvs k v).length<=sizeLine:=by have:=zb7 kvs k v;omega
  refine wpAny_setItem_heap (hsz:=hz) (tupleKind_room_in1 hu) (Zl I.hok eb) dd fun h' dd' hs=>h _ ?_
  obtain⟨q,es,ep,hq,h2,h3,h4,_,h5⟩:=dd';refine JN I (by rw[e];exact True.intro) hs ⟨q,hq⟩ ⟨hl,hd,_,(rel.put k eb rv).keeps fun c ys ec=>?_,q,es,ep,hq,h2,h3,h4,h5⟩;rw[zE (qt ec e (fun z=>nomatch z))];exact ec
end
theorem zj0{X:Cx}{pins:List (Addr×Obj)}{σ:St}{H:Hp}{s:Shared}{a:Addr}{y:V}{o:Option V}(I:Inv X pins σ H s)(g:DGet H a y o):s.TypeIs (.ref a) "dict":=by
 rcases g with ⟨kvs,k,e,_,_⟩|⟨kvs,k,b,e,_,_,_⟩
 ·obtain⟨_,_,vs,_,dd⟩:=jC I.hok e
  exact dd.typeIs
 ·obtain⟨_,_,xs,_,dd⟩:=jD I.hok e
  exact dd.typeIs
noncomputable def zj1(td ty tv:TE):TS:=fun D σ H=>tv σ H fun v H1=>td σ H1 fun x H2=>ty σ H2 fun y H3=>∃a H4,x= .ref a/\DPut H3 a y v H4/\D.nx σ H4
section
variable {X:Cx} {o i e value:Expr} {pos pos' tpos:Pos} {td ty tv:TE}
theorem zj2(hu:X.A.units+1<cLine)(ho:PE X o td)(hi:PE X i ty)(hv:PE X value tv)(hs:swapsWith value (some (.Subscript o i pos')) pos.line X.env=pure false):
  PS X (.Assign [.Subscript o i pos'] value pos) (zj1 td ty tv):=by
 intro pins s σ H D I h;refine wpAny_Assign_Subscript (zt (hv pins s σ H _ I h) fun r s1 ⟨v,H1,I1,rv,q1⟩=>zt (ho pins s1 σ H1 _ I1 q1) fun u s2 ⟨x,H2,I2,rx,q2⟩=>zt (hi pins s2 σ H2 _ I2 q2) fun iv s3 ⟨y,H3,I3,ry,a,H4,ex,g,q3⟩=>?_) hs;subst ex;obtain rfl:u=Value.ref a:=rx;exact zjZ hu I3 g ry rv fun s4 I4=>⟨σ,H4,I4,q3⟩
end
theorem zj3{P:Program}{w:World}{H:Hp}(h:Heap)(hb:sysModules<h.objs.size):ObjOk P w H (h.push { cls:=.type "dict",data:=.dict #[] }) h.objs.size (.dK []):=
 ⟨Nat.zero_le _,beq_eq_false_iff_ne.mpr (Ne.symm (Kh hb)),[],.nil,Heap.DictOf.new h⟩
theorem zcc{P:Program}{w:World}{H:Hp}(h:Heap)(hb:sysModules<h.objs.size):ObjOk P w H (h.push { cls:=.type "dict",data:=.dict #[] }) h.objs.size (.dT []):=
 ⟨Nat.zero_le _,beq_eq_false_iff_ne.mpr (Ne.symm (Kh hb)),[],.nil,_, #[],0,Heap.get?_push_size _ rfl,⟨rfl,rfl,rfl⟩,rfl,rfl,List.nodup_nil⟩
noncomputable def zj4:TE:=fun _ H Q=>∀p,H p=none->Q (.ref p) (zF H p (.dK []))
noncomputable def zj5:TE:=fun _ H Q=>∀p,H p=none->Q (.ref p) (zF H p (.dT []))
section
variable {X:Cx} {pos:Pos}
theorem zcd:PE X (.Dict [] [] pos) zj4:=fun pins s σ H Q I h=>
 wpAny_Dict_empty ⟨.ref s.heap.objs.size,_,I.laid (a:=s.heap.objs.size) (o:=.dK []) (t':=s.toks) (fun _ _ q=>Kl _ q) (Nat.le_refl _) (zj3 s.heap I.big),rfl,h _ (I.hok.fresh (Nat.le_refl _))⟩
theorem zce:PE X (.Dict [] [] pos) zj5:=fun pins s σ H Q I h=>
 wpAny_Dict_empty ⟨.ref s.heap.objs.size,_,I.laid (a:=s.heap.objs.size) (o:=.dT []) (t':=s.toks) (fun _ _ q=>Kl _ q) (Nat.le_refl _) (zcc s.heap I.big),rfl,h _ (I.hok.fresh (Nat.le_refl _))⟩
end
structure M2 (X:Cx)(o:Expr)(m:Str)(apos:Pos)(e f:Expr)(cpos:Pos):Prop where
 base:attributeBase o m X.env (eval o X.env)=eval o X.env
 few:((backTo cpos (starEach [e,f] X.env)).all (fun x=> !x.1)&&(backToKw cpos (keywordEach [] X.env)).all (fun x=>x.1.isSome)
  &&decide (([e,f]:List Expr).length+([]:List Keyword).length+(if ([]:List Keyword).isEmpty then 0 else 1)<30))=true
 line:(apos.endLine==cpos.line)=true
 trees:backTo cpos (starEach [e,f] X.env)=[(false,eval e X.env),(false,eval f X.env)]
noncomputable def zcf(H:Hp)(a:Addr):Prop:=(∃kvs,Rd H a (.dK kvs))\/∃kvs,Rd H a (.dT kvs)
theorem zj6{X:Cx}{pins:List (Addr×Obj)}{σ:St}{H:Hp}{s:Shared}{a:Addr}(I:Inv X pins σ H s)(d:zcf H a):
  s.TypeIs (.ref a) "dict"/\(∀b,Value.ref a= .ref b->∃ob,s.heap.get? b=some ob/\ob.dict=none)/\(a==sysModules)=false:=by
 rcases d with ⟨kvs,e⟩|⟨kvs,e⟩
 ·obtain⟨_,hd,vs,_,dd⟩:=jC I.hok e
  refine⟨dd.typeIs,fun b q=>?_,hd⟩;cases q;obtain⟨ob,_,_,h1,h2,_⟩:=dd;exact⟨ob,h1,h2.2.1⟩
 ·obtain⟨_,hd,xs,_,dd⟩:=jD I.hok e
  refine⟨dd.typeIs,fun b q=>?_,hd⟩;cases q;obtain⟨ob,_,_,h1,h2,_⟩:=dd;exact⟨ob,h1,h2.2.1⟩
section
variable {X:Cx} {pins:List (Addr×Obj)} {σ:St} {H:Hp} {s:Shared} {a:Addr} {y d:V} {u r:Value} {o:Option V} {A:Around} {E:Value->Shared->Prop}
theorem zj7{Q:Value->Shared->Prop}(hu:A.units+1<cLine)(I:Inv X pins σ H s)(g:DGet H a y o)(ry:RelV y u)(rd:RelV d r)(h: ∀w' s',Inv X pins σ H s'->RelV (o.getD d) w'->Q w' s'):
  wpAny (model X.prog X.w) A (call (.builtin "dict.get") [.ref a,u,r]) Q E s:=by
 rcases g with ⟨kvs,k,e,ey,l⟩|⟨kvs,k,b,e,ey,eb,l⟩
 ·subst ey
  obtain⟨z,hd,vs,rel,dd⟩:=jC I.hok e;refine call_meetsIn PySem.F.slot_dict_get dd.typeIs PySem.F.entry_dict_get (PySem.F.args_dict_get_3 _ _ _) (meets_dict_get_default (zT X.prog X.w) a (Yc ry) hd r) ⟨_,dd.mapOf,h _ _ (I.tok _) ?_⟩;rw[l];exact (rel.val k).getD rd
 ·subst ey
  cases (show u=Value.ref b from ry);obtain⟨z,hd,xs,rel,dd⟩:=jD I.hok e;refine call_meetsIn PySem.F.slot_dict_get dd.typeIs PySem.F.entry_dict_get (PySem.F.args_dict_get_3 _ _ _) (meetsH_dict_get_default (tupleKind (zT X.prog X.w)) a b hd r) ⟨tupleKind_room_in1 hu,k,xs,Zl I.hok eb,dd,h _ _ (I.tok _) ?_⟩;rw[l];exact (rel.val k).getD rd
end
noncomputable def zj8(td ty tx:TE):TE:=fun σ H Q=>td σ H fun x H1=>∃a,x= .ref a/\zcf H1 a/\ty σ H1 fun y H2=>tx σ H2 fun z H3=>∃o,DGet H3 a y o/\Q (o.getD z) H3
section
variable {X:Cx} {o e f:Expr} {apos cpos:Pos} {td ty tx:TE}
theorem zj9(hu:X.A.units+1<cLine)(ho:PE X o td)(he:PE X e ty)(hf:PE X f tx)(m:M2 X o "get" apos e f cpos):PE X (.Call (.Attribute o "get" apos) [e,f] [] cpos) (zj8 td ty tx):=by
 intro pins s σ H Q I h;refine wpAny_Call_method m.base m.few m.line PySem.F.plainAttrs_dict PySem.F.slot_dict_get PySem.F.type_dict_get (zt (ho pins s σ H _ I h) fun u s1 ⟨x,H1,I1,rx,a,ex,d,q1⟩=>?_);subst ex;obtain rfl:u=Value.ref a:=rx;obtain⟨t1,t2,_⟩:=zj6 I1 d;refine⟨t1,t2,?_⟩;rw[m.trees]
 refine Calls.callWith_builtin rfl (Calls.evalArgs_plain (Calls.spliced_cons (zt (he pins s1 σ H1 _ I1 q1) fun iv s2 ⟨y,H2,I2,ry,q2⟩=>
  Calls.spliced_cons (zt (hf pins s2 σ H2 _ I2 q2) fun fv s3 ⟨z,H3,I3,rz,ov,g,q3⟩=>Calls.spliced_nil ?_))))
 exact zj7 hu I3 g ry rz fun w' s4 I4 rw'=>⟨_,H3,I4,rw',q3⟩
end
end L2
namespace Att
open PySem PySem.W PySem.Calls PyProof.Rows
theorem zka{P:Params}{h:Heap}: ∀(ns:List Int) (vs:List Value),WellAll P h vs (ns.map WData.int)->IntsAre vs ns:=by
 intro ns
 induction ns with
 |nil=>
  intro vs w;rw[List.map_nil] at w;cases w;exact .nil
 |cons n ns ih=>
  intro vs w;rw[List.map_cons] at w
  cases w with
  |cons a b=>
   cases a;exact .cons _ _ (ih _ b)
theorem zkb{l:OpenLaw}{n:Nat}(hn:l.most=some n){P:Params}{h:Heap}{args:List WData}{vals:List Value}
  (hpre:l.row.toRowW.claim.pre args=true) (hwl:WellAll P h vals args):
  ∃a vs ns,vals=[Value.ref a]/\args=[WData.list (ns.map WData.int)]/\h.get? a=some { cls:=.type "list",data:=.seq vs.toArray }/\IntsAre vs ns/\ns.length<=n:=by
 have hsh:WShape.hasAll [] args [.list .int]=true:=(pre_splitW hpre).1;have hc:l.pre.holds [] { args:=args }=true:=(pre_splitW hpre).2;obtain⟨d,r,rfl,h1,h2⟩:=hasAllW_cons hsh;obtain rfl:=hasAllW_nil h2;obtain⟨xs,rfl,h3⟩:=hasW_list h1;obtain⟨ns,rfl⟩:=items_int h3
 have hlen:ns.length<=n:=by
  unfold OpenLaw.pre at hc
  have h4:(WTm.not (.lt (.lit (.int (n:Int))) (.len (.arg 0)))).holds [] { args:=[.list (ns.map .int)] }=true:=by
   have h4:=(holds_andW hc).1;rw[hn] at h4;exact h4
  have h5:=condW_of h4 (w_not (w_lt w_lit (w_len_list (w_arg rfl))));rw[List.length_map] at h5;refine Nat.le_of_not_lt fun q=>?_
  have q':(n:Int)<((ns.length:Nat):Int):=by omega
  first
   |(rw[decide_eq_true q'] at h5;exact KC h5 (by decide))
   |(simp at h5;omega)
 cases hwl with
 |cons w1 w2=>
  cases w2
  cases w1 with
  |list ho hall=>exact⟨_,_,ns,rfl,rfl,ho,zka ns _ hall,hlen⟩
theorem zkc(l:OpenLaw)(args:List WData):l.row.toRowW.claim.post args (.bool true) args=true:=
 postW_of (r:=l.row.toRowW) (X:=(true==true))
  (show WShape.has [] (.bool true) .bool=true by first|rfl|decide|simp[WShape.has,WShape.arms,WShape.armsAll])
  (show (WTm.eq .res (.lit (.bool true))).value [] { args:=args,res:=some (.bool true),after:=args }=some (.bool (true==true)) from w_eq_bool (w_res rfl) w_lit) rfl
theorem attach_call{l:OpenLaw}{n:Nat}{q:Program}{loose:List Str}{XP:(Str->Option Value)->Heap->Prop}{YP:World->Heap->Prop}{d:DefRec}
  (hn:l.most=some n) (hdf:d.params.defaults=[])
  (call: ∀(w:World) (s₀ s₁:Shared) (mg mb:Str->Option Value) (fa:Addr) (o:Obj) (pm cd doc:Value) (a:Addr) (vs:List Value) (ns:List Int),
   Ground q loose [] XP w s₀ mg mb s₁.heap->YP w s₁.heap->
   s₁.heap.get? fa=some o->o.data= .func (docDef d.name d.params d.body d.scope pm cd doc)->s₁.heap.CodeRec cd d.name->mg d.name=some (.ref fa)->
   s₁.heap.get? a=some { cls:=.type "list",data:=.seq vs.toArray }->IntsAre vs ns->ns.length<=n->s₁.gens= #[]->
   codeAny (model l.prog w) callerA (.call (.ref fa) ⟨[.ref a],[]⟩) (fun r s'=>r= .ok (.ret (.bool true))/\OldK s₁.heap s'.heap/\s'.os=s₁.os/\AllBare s'.gens) s₁):
  WalkO q loose XP YP l.row.toRowW d [] (fun f vs=>PySem.call f vs):=by
 intro w s₀ s₁ mg mb G Y fa o pm cd doc dV kV ho hd hcd hD hmg hg args vals as hpre hlay hrd hwl hlo;obtain rfl:dV= .none:=Dflts.none hD hdf;obtain rfl:kV= .none:=Dflts.noKw hD;obtain⟨a,vs,ns,rfl,rfl,hobj,hints,hlen⟩:=zkb hn hpre hwl;refine enter_call (codeAny_mono (call w s₀ s₁ mg mb fa o pm cd doc a vs ns G Y ho (fd_plain hd) hcd hmg hobj hints hlen hg) fun r s' hq=>?_);obtain⟨rfl,h2,h3,h4⟩:=hq;exact⟨.inl ⟨.bool true,.bool true,[],rfl,fun _=>rfl,.bool true,zkc l _,fun _=>⟨List.Pairwise.nil,fun _ hm=>(nomatch hm)⟩⟩,h2,h3,h4⟩
end Att
namespace L2
open PySem PySem.Spec PyProof.Rows
theorem qG: ∀{vs:List Value} {ns:List Int},IntsAre vs ns->Vals (ns.map V.int) vs
 |_,_,.nil=>.nil
 |_,_,.cons n t h=>.cons ⟨t,rfl⟩ (qG h)
noncomputable def JO(H:Hp):Prop:=∀b,H b=none\/∃o xs,H b=some (.frz o (.lst xs))
theorem zkd{P:Program}{w:World}{K:Ka}{mg mb:Str->Option Value}{CX:wN}{k:Nat}{fa a:Addr}{fd:FuncData}{x:Str}{sp:Sp}{s₁:Shared}{vs:List Value}{ns:List Int}
  (KX:K.In s₁.heap) (hns:s₁.heap.Ns mainGlobals mg) (hb:s₁.heap.Ns builtinsNs mb) (hbb: ∀x:Str,x≠"__name__"->mb x=bootBuiltins x) (hlim:s₁.heap.NoLimit) (hg:s₁.gens= #[])
  (ha:s₁.heap.get? a=some { cls:=.type "list",data:=.seq vs.toArray }) (hi:IntsAre vs ns) (hl:ns.length<=sizeLine) (hr:Room k callerA)
  (F: ∀base:Heap,K.In base->base.Ns mainGlobals mg->FnOk P w K mg base CX k fa fd [x] sp) (hbind: ∀(s:Shared) (u:Value),BindsTo s fd ⟨[u],[]⟩ [(x,u)])
  (hsp: ∀H:Hp,JO H->SqL K H a (ns.map V.int)->sp [.ref a] H (fun v _=>v= .bl true) fun _ _ _=>False)
  (hCX: ∀H e s',CX [] H s₁ (fun _ _ _=>False) e s'->False):
  codeAny (model P w) callerA (.call (.ref fa) ⟨[.ref a],[]⟩) (fun r s'=>r= .ok (.ret (.bool true))/\OldK s₁.heap s'.heap/\s'.os=s₁.os/\AllBare s'.gens) s₁:=by
 have rv:=qG hi;have lenV:=hi.length
 have core: ∀H:Hp,JO H->SqL K H a (ns.map V.int)->HOk P w H s₁.heap->(∀b,H b≠none->b=a)->(H a≠none->K.lookup a=none)->
   codeAny (model P w) callerA (.call (.ref fa) ⟨[.ref a],[]⟩) (fun r s'=>r= .ok (.ret (.bool true))/\OldK s₁.heap s'.heap/\s'.os=s₁.os/\AllBare s'.gens) s₁:=by
  intro H hO hS hok hA hK;have base_of: ∀{b:Addr} {o:Obj},s₁.heap.get? b=some o->H b=none->(jd s₁.heap H).get? b=some o:=fun e n=>zhZ e n
  have noA: ∀{b:Addr} {o:Obj} {es:Array DictEntry} {ep:Nat},s₁.heap.get? b=some o->o.data= .dict es ep->H b=none:=fun {b o es ep} e d=>by
   cases q:H b with
   |none=>rfl
   |some u=>
    have e':b=a:=hA b (by rw[q];simp);subst e';rw[ha] at e;cases e;have d':Data.seq vs.toArray _=Data.dict es ep:=d;cases d'
  have nsK: ∀{b:Addr} {m:Str->Option Value},s₁.heap.Ns b m->(jd s₁.heap H).Ns b m:=fun {b m} ⟨o,es,ep,e,d,r⟩=>⟨o,es,ep,base_of e (noA e d),d,r⟩
  have hKb:K.In (jd s₁.heap H):=fun b o e=>base_of (KX b o e) (by
   cases q:H b with
   |none=>rfl
   |some u=>
    have e':b=a:=hA b (by rw[q];simp);subst e';rw[hK (by rw[q];simp)] at e;cases e)
  have hM:Mod K mg (jd s₁.heap H):=⟨hKb,nsK hns,⟨mb,nsK hb,hbb⟩,let ⟨mc,h1,h2⟩:=hlim;⟨mc,nsK h1,h2⟩⟩;have e0:Env0 P w K mg (jd s₁.heap H) callerA [] s₁ H:=⟨rfl,hM,fun b o e=>zh0 e,Nat.le_of_eq (zhY _ _),trivial,fun b hb=>KC (show b∈([]:List Addr) from hb) (by simp),hok,.of_eq hg⟩;refine codeAny_mono ((F _ hKb (nsK hns)).run callerA [] s₁ H ⟨[.ref a],[]⟩ [.ref a] [.ref a] _ _ hr e0 (hbind s₁ (.ref a)) (.cons rfl .nil) (hsp H hO hS)) fun r s' h=>?_
  cases r with
  |error e=>exact (hCX H e s' h).elim
  |ok fl=>
   cases fl with
   |next=>exact False.elim h
   |brk=>exact False.elim h
   |cont=>exact False.elim h
   |ret u=>
    obtain⟨v,H',os,bare,un,hok',r',q⟩:=h;have q':v= .bl true:=q;subst q';obtain rfl:u=Value.bool true:=r';refine⟨rfl,OldK.of_keep fun b o e=>?_,os,bare⟩
    cases q:H b with
    |none=>exact un.keep b o e q (by intro z;exact KC (show b∈([]:List Addr) from z) (by simp)) (by simp)
    |some u=>
     rcases hO b with z|⟨ob,xs,z⟩
     ·rw[q] at z;cases z
     ·have z2:=un.frzs b ob _ z
      obtain⟨e1,_⟩:=hok b _ z;obtain⟨e2,_⟩:=hok' b _ z2;rw[e] at e1;cases e1;exact e2
 cases hk:K.lookup a with
 |some o=>
  have e:=KX a o hk;rw[ha] at e;cases e;refine core (fun _=>none) (fun _=>.inl rfl) (.inr ⟨_,vs.toArray,_,hk,rfl,rfl,rfl,by rw[List.size_toArray,lenV];exact hl,by simpa using rv⟩) (fun b u z=>by have z':(none:Option HO)=some u:=z;cases z') (fun b z=>KC rfl z) fun z=>KC rfl z
 |none=>
  refine core (fun b=>if b=a then some (.frz { cls:=.type "list",data:=.seq vs.toArray } (.lst (ns.map V.int))) else none) (fun b=>?_) (.inl (.inr ⟨{ cls:=.type "list",data:=.seq vs.toArray },if_pos rfl⟩)) (fun b u z=>?_) (fun b z=>?_) fun _=>hk
  ·by_cases hb:b=a
   ·exact .inr ⟨_,_,if_pos hb⟩
   ·exact .inl (if_neg hb)
  ·by_cases hb:b=a
   ·have z':=(if_pos hb).symm.trans z
    cases z';subst hb;exact⟨ha,by rw[List.length_map];exact hl,vs,_,rv,ha⟩
   ·have z':=(if_neg hb).symm.trans z
    cases z'
  ·by_cases hb:b=a
   ·exact hb
   ·exact KC (if_neg hb) z
end L2
namespace L2
open PySem PySem.Spec PyProof.Rows
theorem zke{l:PySem.W.OpenLaw}{n k:Nat}{q:Program}{loose:List Str}{XP:(Str->Option Value)->Heap->Prop}{YP:World->Heap->Prop}{d:DefRec}{K:Params->Ka}{CX:World->wN}{sp:World->Sp}{x:Str}
  (hn:l.most=some n) (hn2:n<=sizeLine) (hdf:d.params.defaults=[]) (hr:Room k callerA)
  (hY: ∀(w:World) (h:Heap),YP w h->(K w.params).In h)
  (F: ∀(w:World) (mg:Str->Option Value) (fa:Addr) (h:Heap),(K w.params).In h->h.Ns mainGlobals mg->mg d.name=some (.ref fa)->
   ∃fd:FuncData,(∀(s:Shared) (u:Value),BindsTo s fd ⟨[u],[]⟩ [(x,u)])/\
    ∀base:Heap,(K w.params).In base->base.Ns mainGlobals mg->FnOk l.prog w (K w.params) mg base (CX w) k fa fd [x] (sp w))
  (hsp: ∀(w:World) (H:Hp) (a:Addr) (ns:List Int),ns.length<=n->JO H->SqL (K w.params) H a (ns.map V.int)->sp w [.ref a] H (fun v _=>v= .bl true) fun _ _ _=>False)
  (hCX: ∀(w:World) (H:Hp) (s:Shared) (e:Value) (s':Shared),CX w [] H s (fun _ _ _=>False) e s'->False):
  PySem.W.WalkO q loose XP YP l.row.toRowW d [] (fun f vs=>PySem.call f vs):=by
 refine Att.attach_call hn hdf fun w s₀ s₁ mg mb fa o pm cd doc a vs ns G Y ho hd hcd hmg hobj hints hlen hg=>?_
 have KX:=hY w _ Y;obtain⟨fd,hb,hF⟩:=F w mg fa _ KX G.T.g hmg;exact zkd KX G.T.g G.T.b G.T.builtins G.T.nolimit hg hobj hints (Kg hlen hn2) hr hF hb (fun H hO hS=>hsp w H a ns hlen hO hS) fun H e s'=>hCX w H s₁ e s'
theorem zkf{l:PySem.W.OpenLaw}{n k:Nat}{q:Program}{loose:List Str}{XP:(Str->Option Value)->Heap->Prop}{YP:World->Heap->Prop}{d:DefRec}{K:Params->Ka}{CX:wN}{sp:Ka->Sp}{x:Str}
  (hn:l.most=some n) (hn2:n<=sizeLine) (hdf:d.params.defaults=[]) (hr:Room k callerA)
  (hY: ∀(w:World) (h:Heap),YP w h->(K w.params).In h)
  (F: ∀(w:World) (mg:Str->Option Value) (fa:Addr) (h:Heap),(K w.params).In h->h.Ns mainGlobals mg->mg d.name=some (.ref fa)->
   ∃fd:FuncData,(∀(s:Shared) (u:Value),BindsTo s fd ⟨[u],[]⟩ [(x,u)])/\
    ∀base:Heap,(K w.params).In base->base.Ns mainGlobals mg->FnOk l.prog w (K w.params) mg base CX k fa fd [x] (sp (K w.params)))
  (hsp: ∀(K:Ka) (H:Hp) (a:Addr) (ns:List Int),ns.length<=n->JO H->SqL K H a (ns.map V.int)->sp K [.ref a] H (fun v _=>v= .bl true) fun _ _ _=>False)
  (hCX: ∀(H:Hp) (s:Shared) (e:Value) (s':Shared),CX [] H s (fun _ _ _=>False) e s'->False):
  PySem.W.WalkO q loose XP YP l.row.toRowW d [] (fun f vs=>PySem.call f vs):=
 zke (K:=K) (CX:=fun _=>CX) (sp:=fun w=>sp (K w.params)) hn hn2 hdf hr hY F (fun w H a ns h1 h2 h3=>hsp (K w.params) H a ns h1 h2 h3) fun _ H s e s'=>hCX H s e s'
end L2
namespace L2
open PySem PySem.Spec PyProof.Rows
noncomputable def Yd(s:Stmt):Arguments:=match s with
 | .FunctionDef _ a _ _ _ _ _ _ _ _=>a
 |_=>{ posonlyargs:=[],args:=[],vararg:=none,kwonlyargs:=[],kw_defaults:=[],kwarg:=none,defaults:=[] }
noncomputable def jf(s:Stmt):List Stmt:=match s with
 | .FunctionDef _ _ b _ _ _ _ _ _ _=>b
 |_=>[]
noncomputable def zu(s:Stmt):Scope:=match s with
 | .FunctionDef _ _ _ _ _ _ sc _ _ _=>sc
 |_=>{ kind:=.function,names:=[],isGenerator:=false,isCoroutine:=false }
noncomputable abbrev wr:wN:=fun _ _ _ _ _ _=>False
noncomputable abbrev E0:XK:=fun _ _ _=>False
theorem zcg{X:Cx}:qA wr X E0:=fun _ _ _ _ _ _ _ h=>h.elim
structure Fun (K:Ka)(x qual:Str)(st:Stmt)(f:Addr)(fd:FuncData):Prop where
 ex: ∃(oc:Value) (od:Option Addr) (kV doc pm:Value) (an:Option Addr) (cdv ct:Value) (osl:Array (Option Value)),
  fd=PySem.W.fnOf x qual (Yd st) (jf st) (zu st) .none kV doc pm an cdv ct/\K.lookup f=some ⟨oc,od,.func fd,osl⟩/\PySem.W.codeIn K cdv qual=true
 kp:PySem.W.keepIn K (.ref f)=true
section
variable {P:Program} {w:World} {K:Ka} {mg:Str->Option Value} {base:Heap}
theorem Fun.ok{x qual:Str}{st:Stmt}{f:Addr}{fd:FuncData}{N ps:List Str}{k:Nat}{sp:Sp}(F:Fun K x qual st f fd)(S:FnScope N ps (zu st))(len: ∀vs H Q E,sp vs H Q E->vs.length=ps.length)
  (hbody: ∀(cdv:Value) (A:Around) (outer:List Env) (s:Shared) (H:Hp) (vs:List V) (Q:VK) (E:XK),Room k (A.deeper (envOfC qual (zu st) s.heap.objs.size f cdv))->sp vs H Q E->
   ∃t,PSs (jB wr P w K mg base N qual (zu st) f cdv A outer s H E).nox (jf st) t/\t { nx:=fun _ H'=>Q .non H',rt:=Q } (wH N vs) H):FnOk P w K mg base wr (k+1) f fd ps sp:=by
 obtain⟨oc,od,kV,doc,pm,an,cdv,ct,osl,rfl,lk,hcd⟩:=F.ex;refine zjv lk hcd S len fun A outer s H vs Q E hr hsp=>?_
 obtain⟨t,h,q⟩:=hbody cdv A outer s H vs Q E hr hsp;exact⟨t,h.nox,q⟩
theorem Fun.binds{x qual:Str}{st:Stmt}{f:Addr}{fd:FuncData}{ps:List Str}(F:Fun K x qual st f fd)
  (h: ∀(kV doc pm:Value) (an:Option Addr) (cdv ct:Value) (us:List Value),us.length=ps.length->bindArgs (PySem.W.fnOf x qual (Yd st) (jf st) (zu st) .none kV doc pm an cdv ct) ⟨us,[]⟩=pure (ps.zip us)):Binds K fd ps []:=by
 obtain⟨oc,od,kV,doc,pm,an,cdv,ct,osl,rfl,lk,hcd⟩:=F.ex;exact .all (h kV doc pm an cdv ct)
theorem zkg{x qual:Str}{st:Stmt}{f:Addr}{oc:Value}{od an:Option Addr}{osl:Array (Option Value)}{kV doc pm cdv ct:Value}(l:K.lookup f=some ⟨oc,od,.func (PySem.W.fnOf x qual (Yd st) (jf st) (zu st) .none kV doc pm an cdv ct),osl⟩)
  (c:PySem.W.codeIn K cdv qual=true) (k:PySem.W.keepIn K (.ref f)=true):Fun K x qual st f (PySem.W.fnOf x qual (Yd st) (jf st) (zu st) .none kV doc pm an cdv ct):=⟨⟨oc,od,kV,doc,pm,an,cdv,ct,osl,rfl,l,c⟩,k⟩
end
theorem Xn{n:Nat}(h:n<=1000):n<sizeLine:=Nat.lt_of_le_of_lt h (by decide)
theorem qH{A B:Prop}(h:B):if false=true then A else B:=by
 rw[if_neg Km];exact h
theorem JP{A B:Prop}(h:A):if true=true then A else B:=by
 rw[if_pos rfl];exact h
noncomputable def Same(H H':Hp):Prop:=∀b o,H b=some o->H' b=some o
theorem Same.refl(H:Hp):Same H H:=fun _ _ h=>h
theorem Same.trans{H H1 H2:Hp}(a:Same H H1)(b:Same H1 H2):Same H H2:=fun c o h=>b c o (a c o h)
theorem Same.free{H H':Hp}(e:Same H H'){l:Addr}(h:H' l=Option.none):H l=Option.none:=by
 cases q:H l with
 |none=>rfl
 |some o=>
  rw[e l o q] at h;cases h
theorem Same.seq{K:Ka}{H H':Hp}{a:Addr}{xs:List V}(e:Same H H')(h:SqL K H a xs):SqL K H' a xs:=by
 rcases h with (h|⟨o,h⟩)|h
 ·exact .inl (.inl (e _ _ h))
 ·exact .inl (.inr ⟨o,e _ _ h⟩)
 ·exact .inr h
end L2
namespace L2.LW
open PySem
set_option genSizeOf false
inductive D where
 |int (i:Int)|bl (b:Bool)|non|str (x:Str)|tup (l:List D)|lst (l:List D)
 |dct (t:Bool) (ks vs:List D)
mutual
noncomputable def zN:D->D->Bool
 | .int a,.int b=>a==b
 | .bl a,.bl b=>a==b
 | .int a,.bl b=>a==(if b then 1 else 0)
 | .bl a,.int b=>(if a then 1 else 0)==b
 | .non,.non=>true
 | .str a,.str b=>a==b
 | .tup xs,.tup ys=>wI xs ys
 | .lst xs,.lst ys=>wI xs ys
 |_,_=>false
noncomputable def wI:List D->List D->Bool
 |[],[]=>true
 |x::xs,y::ys=>zN x y&&wI xs ys
 |_,_=>false
end
mutual
noncomputable def plain:D->Bool
 | .lst _=>false
 | .dct _ _ _=>false
 | .tup l=>xu l
 |_=>true
noncomputable def xu:List D->Bool
 |[]=>true
 |x::xs=>plain x&&xu xs
end
inductive SV where
 |val (d:D)|obj (o:Bool) (d:D)|io (d:D)
noncomputable abbrev SV.lis(o:Bool)(ds:List D):SV:=.obj o (.lst ds)
noncomputable def toD:SV->Option D
 | .val d=>some d
 | .obj true d=>some d
 |_=>none
noncomputable def zI:SV->D
 | .val d=>d
 | .obj _ d=>d
 | .io d=>d
noncomputable def SV.lent:SV->Bool
 | .val _=>false
 | .obj true _=>false
 |_=>true
noncomputable def wX:D->Bool
 | .lst ds=>xu ds
 | .dct _ _ vs=>xu vs
 |d=>plain d
noncomputable def SV.plain:SV->Bool
 | .val d=>LW.plain d
 | .obj _ d=>wX d
 | .io _=>false
noncomputable abbrev Env:=List (Option SV)
inductive Ty where
 |bool|int|str|list|tuple
 deriving DecidableEq
inductive Prim where
 |add|sub|mul|fdiv|mod|neg|eq|ne|lt|le|gt|isN|notN|inn|nin|idx|len|abs|min2|max2|sorted|skeys|shl|band|bor|bxor|blen|dget|neS|toTup|all|inst (t:Ty)|cutTo|maxL|sumL
set_option genInjectivity false
mutual
inductive E where
 |int (i:Int)|bl (b:Bool)|non|str (x:Str)
 |var (i:Nat)
 |prim (p:Prim) (es:Es)
 |tup (es:Es)|lst (es:Es)
 |and (a b:E)|or (a b:E)|not (a:E)
 |chain (p q:Prim) (a b c:E)
 |ite (c a b:E)
 |call (f:Nat) (es:Es)
 |comp (rng:Bool) (src:Es) (cond elt:E)
 |dnew (t:Bool)|done (t:Bool) (k v:E)
 |compE (src cond elt:E)
inductive Es where
 |nil|cons (e:E) (es:Es)
end
set_option genInjectivity true
noncomputable def jE:Ty->D->Bool
 | .bool,.bl _=>true
 | .int,.int _=>true
 | .int,.bl _=>true
 | .str,.str _=>true
 | .list,.lst _=>true
 | .tuple,.tup _=>true
 |_,_=>false
noncomputable def ints? :List D->Option (List Int)
 |[]=>some []
 | .int i::r=>(ints? r).map (i:: ·)
 |_=>none
noncomputable def lexLt:List Int->List Int->Bool
 |_,[]=>false
 |[],_::_=>true
 |x::xs,y::ys=>if x=y then lexLt xs ys else decide (x<y)
noncomputable def ixN(n:Nat)(i:Int):Option Nat:=if 0<=i then (if i<n then some i.toNat else none) else if -(n:Int)<=i then some (i+n).toNat else none
noncomputable def atI{α:Type}(xs:List α)(i:Int):Option α:=(ixN xs.length i).bind fun j=>xs[j]?
noncomputable def bools? :List D->Option (List Bool)
 |[]=>some []
 | .bl i::r=>(bools? r).map (i:: ·)
 |_=>none
noncomputable def line:Nat:=16777216
noncomputable def xW:D->Option (List D)
 | .tup l=>some l
 | .lst l=>some l
 |_=>none
noncomputable def tups? :List D->Option (List (List Int))
 |[]=>some []
 | .tup l::r=>(ints? l).bind fun x=>(tups? r).map (x:: ·)
 |_=>none
noncomputable def Zm(x:List Int):List (List Int)->List (List Int)
 |[]=>[x]
 |y::r=>if lexLt x y then x::y::r else y::Zm x r
noncomputable def vJ:List (List Int)->List (List Int)
 |[]=>[]
 |x::r=>Zm x (vJ r)
noncomputable def Ye(l:List Int):List Int:=l.mergeSort (fun a b=>decide (a<=b))
noncomputable def zO:Nat->D->Bool
 |_,.int _=>true
 |_,.bl _=>true
 |_,.non=>true
 |_,.str _=>false
 |0,_=>false
 |n+1,.tup l=>l.all (zO n)
 |n+1,.lst l=>l.all (zO n)
 |_+1,.dct _ _ _=>false
noncomputable def yK:Bool->D->Bool
 |false,.int _=>true
 |true,.tup l=>(ints? l).isSome
 |_,_=>false
noncomputable def yR(ks:List D)(k:D):Option Nat:=ks.findIdx? fun x=>zN x k
noncomputable def dget(ks vs:List D)(k:D):Option D:=(yR ks k).bind fun i=>vs[i]?
noncomputable def xo(t:Bool)(ks vs:List D)(k v:D):D:=if (yR ks k).isSome then .dct t ks (List.zipWith (fun k' v'=>if zN k' k then v else v') ks vs) else .dct t (ks++[k]) (vs++[v])
noncomputable def yo(r:Int):Option SV:=some (.val (.int r))
noncomputable def yN(r:Bool):Option SV:=some (.val (.bl r))
noncomputable def JQ:List D->Option SV
 |[.int a,.int b]=>yo (a+b)
 |[.lst a,.lst b]=>if a.length+b.length<=line then some (SV.obj true (.lst (a++b))) else none
 |_=>none
noncomputable def qI:List D->Option SV
 |[.int a,.int b]=>yo (a-b)
 |_=>none
noncomputable def Xo:List D->Option SV
 |[.int a,.int b]=>if (-(2 ^ 64)<a/\a<2 ^ 64)\/(-(2 ^ 64)<b/\b<2 ^ 64) then yo (a*b) else none
 |_=>none
noncomputable def JR:List D->Option SV
 |[.int a,.int b]=>if 0<b/\b<1073741824 then yo (a/b) else none
 |_=>none
noncomputable def JS:List D->Option SV
 |[.int a,.int b]=>if 0<b then yo (a%b) else none
 |_=>none
noncomputable def qJ:List D->Option SV
 |[.int a]=>yo (-a)
 |_=>none
noncomputable def Xp:List D->Option SV
 |[a,b]=>if zO 8 a&&zO 8 b then yN (zN a b) else none
 |_=>none
noncomputable def Xq:List D->Option SV
 |[a,b]=>if zO 8 a&&zO 8 b then yN (!zN a b) else none
 |_=>none
noncomputable def Xr:List D->Option SV
 |[.int a,.int b]=>yN (decide (a<b))
 |[.tup a,.tup b]=>(ints? a).bind fun x=>(ints? b).bind fun y=>yN (lexLt x y)
 |_=>none
noncomputable def JT:List D->Option SV
 |[.int a,.int b]=>yN (decide (a<=b))
 |_=>none
noncomputable def JU:List D->Option SV
 |[.int a,.int b]=>yN (decide (b<a))
 |[.tup a,.tup b]=>(ints? a).bind fun x=>(ints? b).bind fun y=>yN (lexLt y x)
 |_=>none
noncomputable def Zn:D->Bool
 | .non=>true
 |_=>false
noncomputable def zch:List D->Option SV
 |[d]=>yN (Zn d)
 |_=>none
noncomputable def zci:List D->Option SV
 |[d]=>yN (!Zn d)
 |_=>none
noncomputable def Xs:List D->Option SV
 |[x,.dct t ks _]=>if yK t x then yN (yR ks x).isSome else none
 |[x,.tup l]=>if zO 8 x&&l.all (zO 8) then yN (l.any fun y=>zN y x) else none
 |[x,.lst l]=>if zO 8 x&&l.all (zO 8) then yN (l.any fun y=>zN y x) else none
 |_=>none
noncomputable def jg:List D->Option SV
 |[x,.dct t ks _]=>if yK t x then yN (!(yR ks x).isSome) else none
 |[x,.tup l]=>if zO 8 x&&l.all (zO 8) then yN (!l.any fun y=>zN y x) else none
 |[x,.lst l]=>if zO 8 x&&l.all (zO 8) then yN (!l.any fun y=>zN y x) else none
 |_=>none
noncomputable def jF:List D->Option SV
 |[.dct t ks vs,k]=>if yK t k then (dget ks vs k).map .val else none
 |[.tup l,.int i]=>(atI l i).map .val
 |[.lst l,.int i]=>(atI l i).map .val
 |_=>none
noncomputable def qK:List D->Option SV
 |[.tup l]=>yo l.length
 |[.lst l]=>yo l.length
 |_=>none
noncomputable def qL:List D->Option SV
 |[.int i]=>yo (if i<0 then -i else i)
 |_=>none
noncomputable def qM:List D->Option SV
 |[.int i,.int j]=>yo (if j<i then j else i)
 |_=>none
noncomputable def qO:List D->Option SV
 |[.int i,.int j]=>yo (if j>i then j else i)
 |_=>none
noncomputable def JV(l:List D):Option SV:=match ints? l with
 |some ns=>if ns.length<64 then some (.obj true (.lst ((Ye ns).map .int))) else none
 |none=>(tups? l).bind fun ks=>if ks.length<64/\ks.Nodup/\ks.all (fun k=> !k.isEmpty)=true then some (.obj true (.lst ((vJ ks).map fun k=>.tup (k.map .int)))) else none
noncomputable def qP:List D->Option SV
 |[.lst l]=>JV l
 |_=>none
noncomputable def Xu(l:List D):Option SV:=(tups? l).bind fun ks=>if ks.length<64/\ks.Nodup/\ks.all (fun k=> !k.isEmpty)=true then some (.obj true (.lst ((vJ ks).map fun k=>.tup (k.map .int)))) else none
noncomputable def Xv:List D->Option SV
 |[.dct true ks _]=>Xu ks
 |_=>none
noncomputable def JW:List D->Option SV
 |[.str a,.str b]=>some (.val (.bl (!decide (a=b))))
 |_=>none
noncomputable def qQ:List D->Option SV
 |[.tup l]=>some (.val (.tup l))
 |[.lst l]=>some (.val (.tup l))
 |_=>none
noncomputable def JX:List D->Option SV
 |[.lst l]=>(bools? l).bind fun bs=>yN (bs.all id)
 |_=>none
noncomputable def zcj(t:Ty):List D->Option SV
 |[d]=>yN (jE t d)
 |_=>none
noncomputable def JY:List D->Option SV
 |[.lst l,.int k]=>if 0<=k then some (SV.obj true (.lst (l.take k.toNat))) else none
 |_=>none
noncomputable def JZ:List D->Option SV
 |[.lst l]=>(ints? l).bind fun ns=>match ns with
  |[]=>none
  |n::r=>yo (r.foldl max n)
 |_=>none
noncomputable def Qa:List D->Option SV
 |[.lst l]=>(ints? l).bind fun ns=>yo ns.sum
 |[.tup l]=>(ints? l).bind fun ns=>yo ns.sum
 |_=>none
noncomputable def vt(n:Nat):Nat:=if n=0 then 0 else n.log2+1
noncomputable def Xw:List D->Option SV
 |[.int a,.int n]=>if 0<=a/\a<1048576/\0<=n/\n<64 then yo (a*2 ^ n.toNat) else none
 |_=>none
noncomputable def Xx:List D->Option SV
 |[.int a,.int b]=>if 0<=a/\0<=b then yo ((a.toNat&&& b.toNat:Nat):Int) else none
 |_=>none
noncomputable def Xy:List D->Option SV
 |[.int a,.int b]=>if 0<=a/\0<=b then yo ((a.toNat|||b.toNat:Nat):Int) else none
 |_=>none
noncomputable def Xz:List D->Option SV
 |[.int a,.int b]=>if 0<=a/\0<=b then yo ((a.toNat ^^^ b.toNat:Nat):Int) else none
 |_=>none
noncomputable def XA:List D->Option SV
 |[.int a]=>if 0<=a then yo (vt a.toNat:Nat) else none
 |_=>none
noncomputable def XB:List D->Option SV
 |[.dct false ks vs,.int k,.int i]=>match dget ks vs (.int k) with
  |some (.int v)=>yo v
  |none=>yo i
  |_=>none
 |_=>none
noncomputable def zg:Prim->List D->Option SV
 | .add=>JQ| .sub=>qI| .mul=>Xo| .fdiv=>JR| .mod=>JS| .neg=>qJ| .eq=>Xp| .ne=>Xq| .lt=>Xr| .le=>JT| .gt=>JU
 | .isN=>zch| .notN=>zci| .inn=>Xs| .nin=>jg| .idx=>jF| .len=>qK| .abs=>qL| .min2=>qM| .max2=>qO
 | .sorted=>qP| .skeys=>Xv| .shl=>Xw| .band=>Xx| .bor=>Xy| .bxor=>Xz| .blen=>XA| .dget=>XB| .neS=>JW| .toTup=>qQ| .all=>JX| .inst t=>zcj t| .cutTo=>JY| .maxL=>JZ| .sumL=>Qa
noncomputable def yG:SV->Option Bool
 | .val (.bl b)=>some b
 | .val (.int i)=>some (i != 0)
 | .val .non=>some false
 | .val (.tup l)=>some (!l.isEmpty)
 | .val (.lst l)=>some (!l.isEmpty)
 | .obj _ (.lst l)=>some (!l.isEmpty)
 |_=>none
noncomputable def look(ρ:Env)(i:Nat):Option SV:=match ρ[i]? with
 |some (some (.val d))=>some (.val d)
 |some (some (.obj _ d))=>some (.obj false d)
 |some (some (.io d))=>some (.obj false d)
 |_=>none
noncomputable def free(ρ:Env)(i:Nat):Bool:=match ρ[i]? with
 |some (some (.io _))=>false
 |_=>true
noncomputable def SV.cell:SV->Option D
 | .obj true d=>some d
 | .io d=>some d
 |_=>none
noncomputable def SV.put:SV->D->SV
 | .io _,d=>.io d
 |_,d=>.obj true d
noncomputable def vK(j:Int):Prop:= -(2 ^ 62)<=j/\j<2 ^ 62
noncomputable instance (j:Int):Decidable (vK j):=by unfold vK;exact inferInstance
noncomputable def yw:Bool->List SV->Option (List D)
 |false,[r]=>xW (zI r)
 |false,[.val (.lst l),.val .non]=>some l.reverse
 |true,[.val (.int n)]=>if vK n then some ((List.range n.toNat).map fun (k:Nat)=>D.int (0+(k:Int))) else none
 |true,[.val (.int a),.val (.int b)]=>if vK a/\vK b then some ((List.range (b-a).toNat).map fun (k:Nat)=>D.int (a+(k:Int))) else none
 |_,_=>none
noncomputable def yS(test:D->Option Bool)(elt:D->Option SV):List D->Option (List D)
 |[]=>some []
 |d::r=>(test d).bind fun b=>match b with
  |true=>(elt d).bind fun x=>(toD x).bind fun y=>(yS test elt r).map (y:: ·)
  |false=>yS test elt r
noncomputable def vL{α:Type}(p:D)(f:D->D->Option α):Option α:=match p with
 | .tup [a,b]=>f a b
 |_=>none
noncomputable def XC:SV->Option (List D)
 | .val (.tup l)=>some l
 |_=>none
noncomputable def xE:Nat->List D->List D
 |_,[]=>[]
 |k,d::r=>.tup [.int k,d]::xE (k+1) r
noncomputable def wO(rs:List SV)(r:Option SV):Option SV:=r.bind fun x=>if rs.any SV.lent&& !x.plain then none else some x
noncomputable def xX:List SV->Option (List D)
 |[]=>some []
 |r::rs=>(toD r).bind fun d=>(xX rs).map (d:: ·)
mutual
noncomputable def zk(fn:Nat->List D->Option SV):E->Env->Option SV
 | .int i,_=>some (.val (.int i))
 | .bl b,_=>some (.val (.bl b))
 | .non,_=>some (.val .non)
 | .str x,_=>some (.val (.str x))
 | .var i,ρ=>look ρ i
 | .prim p es,ρ=>(yi fn es ρ).bind fun rs=>zg p (rs.map zI)
 | .tup es,ρ=>(yi fn es ρ).bind fun rs=>(xX rs).map fun ds=>.val (.tup ds)
 | .lst es,ρ=>(yi fn es ρ).bind fun rs=>(xX rs).map fun ds=>SV.obj true (.lst ds)
 | .and a b,ρ=>(zk fn a ρ).bind fun r=>match r with
  | .val (.bl true)=>zk fn b ρ
  | .val (.bl false)=>some (.val (.bl false))
  |_=>none
 | .or a b,ρ=>(zk fn a ρ).bind fun r=>match r with
  | .val (.bl true)=>some (.val (.bl true))
  | .val (.bl false)=>zk fn b ρ
  |_=>none
 | .not a,ρ=>(zk fn a ρ).bind fun r=>match r with
  | .val (.bl b)=>some (.val (.bl (!b)))
  |_=>none
 | .chain p q a b c,ρ=>(zk fn a ρ).bind fun x=>(zk fn b ρ).bind fun y=>(zg p [zI x,zI y]).bind fun z=>match z with
  | .val (.bl true)=>(zk fn c ρ).bind fun w=>zg q [zI y,zI w]
  | .val (.bl false)=>some (.val (.bl false))
  |_=>none
 | .ite c a b,ρ=>(zB fn c ρ).bind fun k=>if k then zk fn a ρ else zk fn b ρ
 | .call f es,ρ=>(yi fn es ρ).bind fun rs=>wO rs (fn f (rs.map zI))
 | .dnew t,_=>some (.obj true (.dct t [] []))
 | .done t k v,ρ=>(zk fn k ρ).bind fun x=>(zk fn v ρ).bind fun y=>(toD x).bind fun a=>(toD y).bind fun b=>if yK t a then some (.obj true (.dct t [a] [b])) else none
 | .comp rng src cond elt,ρ=>(yi fn src ρ).bind fun rs=>(yw rng rs).bind fun ds=>
  if ds.length<=line then (yS (fun d=>zB fn cond (some (.val d)::ρ)) (fun d=>zk fn elt (some (.val d)::ρ)) ds).map fun l=>SV.obj true (.lst l) else none
 | .compE src cond elt,ρ=>(zk fn src ρ).bind fun r=>(XC r).bind fun ds=>
  if ds.length<=line then (yS (fun p=>vL p fun a b=>zB fn cond (some (.val a)::some (.val b)::ρ)) (fun p=>vL p fun a b=>zk fn elt (some (.val a)::some (.val b)::ρ)) (xE 0 ds)).map fun l=>SV.obj true (.lst l) else none
noncomputable def yi(fn:Nat->List D->Option SV):Es->Env->Option (List SV)
 | .nil,_=>some []
 | .cons e es,ρ=>(zk fn e ρ).bind fun r=>(yi fn es ρ).map (r:: ·)
noncomputable def zB(fn:Nat->List D->Option SV):E->Env->Option Bool
 | .and a b,ρ=>(zB fn a ρ).bind fun k=>if k then zB fn b ρ else some false
 | .or a b,ρ=>(zB fn a ρ).bind fun k=>if k then some true else zB fn b ρ
 | .not a,ρ=>(zB fn a ρ).map (!·)
 | .int i,_=>some (i != 0)
 | .bl b,_=>some b
 | .non,_=>some false
 | .str _,_=>none
 | .var i,ρ=>(look ρ i).bind yG
 | .prim p es,ρ=>(yi fn es ρ).bind fun rs=>(zg p (rs.map zI)).bind yG
 | .tup _,_=>none
 | .lst _,_=>none
 | .chain p q a b c,ρ=>(zk fn a ρ).bind fun x=>(zk fn b ρ).bind fun y=>(zg p [zI x,zI y]).bind fun z=>match z with
  | .val (.bl true)=>(zk fn c ρ).bind fun w=>(zg q [zI y,zI w]).bind yG
  | .val (.bl false)=>some false
  |_=>none
 | .ite _ _ _,_=>none
 | .call f es,ρ=>(yi fn es ρ).bind fun rs=>(wO rs (fn f (rs.map zI))).bind yG
 | .comp rng src cond elt,ρ=>(yi fn src ρ).bind fun rs=>(yw rng rs).bind fun ds=>
  if ds.length<=line then (yS (fun d=>zB fn cond (some (.val d)::ρ)) (fun d=>zk fn elt (some (.val d)::ρ)) ds).map fun l=> !l.isEmpty else none
 | .dnew _,_=>none
 | .done _ _ _,_=>none
 | .compE _ _ _,_=>none
end
inductive Ans where
 |ok (r:SV) (outs:List D)
 |ex (c:Nat)
noncomputable def zJ(fa:Nat->List D->Option Ans)(f:Nat)(ds:List D):Option SV:=match fa f ds with
 |some (.ok r [])=>some r
 |_=>none
set_option genInjectivity false
inductive MA where
 |nil|e (c:E) (r:MA)|s (i:Nat) (r:MA)|n (t:Bool) (r:MA)
inductive AV where
 |e (d:D)|l (ds:List D)|s (i:Nat) (d:D)|n (t:Bool)
inductive M where
 |call (f:Nat) (ma:MA)
 |op (p:Prim) (a:E) (m:M)
set_option genInjectivity true
noncomputable def vM:D->Bool
 | .dct _ _ vs=>xu vs
 |_=>false
noncomputable def SV.fine:SV->Bool
 | .val d=>LW.plain d
 | .obj true d=>wX d
 |_=>false
noncomputable def jG:SV->Option AV
 | .val (.lst ds)=>if xu ds then some (.l ds) else none
 | .val d=>if plain d then some (.e d) else none
 | .obj _ (.lst ds)=>if xu ds then some (.l ds) else none
 |_=>none
noncomputable def jH(ρ:Env)(i:Nat):Option D:=match ρ[i]? with
 |some (some x)=>x.cell
 |_=>none
noncomputable def xg(fn:Nat->List D->Option SV):MA->Env->Option (List AV)
 | .nil,_=>some []
 | .e c r,ρ=>(zk fn c ρ).bind fun x=>(jG x).bind fun a=>(xg fn r ρ).map (a:: ·)
 | .s i r,ρ=>(jH ρ i).bind fun d=>if vM d then (xg fn r ρ).map (.s i d:: ·) else none
 | .n t r,ρ=>(xg fn r ρ).map (.n t:: ·)
noncomputable def Zo:AV->D
 | .e d=>d
 | .l ds=>.lst ds
 | .s _ d=>d
 | .n t=>.dct t [] []
noncomputable def Yg(ρ:Env)(i:Nat)(d:D):Env:=match ρ[i]? with
 |some (some x)=>ρ.set i (some (x.put d))
 |_=>ρ
noncomputable def xp(ρ:Env):List AV->List D->Option Env
 |[],[]=>some ρ
 | .s i _::r,d::ds=>xp (Yg ρ i d) r ds
 | .n _::r,_::ds=>xp ρ r ds
 | .e _::r,ds=>xp ρ r ds
 | .l _::r,ds=>xp ρ r ds
 |_,_=>none
noncomputable def vv(fa:Nat->List D->Option Ans):M->Env->Option (SV×Env)
 | .call f ma,ρ=>(xg (zJ fa) ma ρ).bind fun xs=>(fa f (xs.map Zo)).bind fun a=>match a with
  | .ok r outs=>if r.fine&&outs.all wX then (xp ρ xs outs).map fun ρ'=>(r,ρ') else none
  | .ex _=>none
 | .op p a m,ρ=>(zk (zJ fa) a ρ).bind fun x=>match x with
  | .val d=>if plain d then (vv fa m ρ).bind fun y=>(zg p [d,zI y.1]).map fun z=>(z,y.2) else none
  |_=>none
set_option genInjectivity false
mutual
inductive S where
 |expr (e:E)|asg (i:Nat) (e:E)|mov (i j:Nat)|app (i:Nat) (e:E)|dset (i:Nat) (k v:E)|dupd (i j:Nat)|exprM (m:M)|ifO (c:E) (m:M) (a b:Ss)|ret (e:E)|retV (i:Nat)|ifs (c:E) (a b:Ss)|for_ (i:Nat) (rng:Bool) (src:Es) (body:Ss)|forV (i j:Nat) (body:Ss)|forK (i j:Nat) (body:Ss)|while_ (c:E) (body:Ss)|frz (js:List Nat) (s:S)|stop
inductive Ss where
 |nil|cons (s:S) (ss:Ss)
end
set_option genInjectivity true
inductive Fl where
 |nx|br|ct|rt (r:SV)
noncomputable def yx(i:Nat)(body:Env->Option (Fl×Env)):List D->Env->Option (Fl×Env)
 |[],ρ=>some (.nx,ρ)
 |d::r,ρ=>(body (ρ.set i (some (.val d)))).bind fun x=>match x.1 with
  | .nx=>yx i body r x.2
  | .ct=>yx i body r x.2
  | .br=>some (.nx,x.2)
  | .rt v=>some (.rt v,x.2)
noncomputable def XD:D->Bool
 | .tup [.int a,.int b]=>decide (0<=a/\a<=7/\0<=b/\b<=7)
 |_=>false
noncomputable def vw(ks vs:List D):List D->List D->List D×List D
 |k::ks2,v::vs2=>match xo true ks vs k v with
  | .dct _ a b=>vw a b ks2 vs2
  |_=>(ks,vs)
 |_,_=>(ks,vs)
noncomputable def Qb(ρ:Env)(i:Nat)(x:SV):Option D->Option D->Option (Fl×Env)
 |some (.dct true ks vs),some (.dct true ks2 vs2)=>if ks2.all XD&&decide (ks.length+ks2.length<line) then some (.nx,ρ.set i (some (x.put (.dct true (vw ks vs ks2 vs2).1 (vw ks vs ks2 vs2).2)))) else none
 |_,_=>none
noncomputable def XE(ρ:Env)(i j:Nat):Option (Fl×Env):=if i=j then none else match ρ[i]? with
 |some (some x)=>Qb ρ i x x.cell (jH ρ j)
 |_=>none
noncomputable def wt(test:Env->Option Bool)(body:Env->Option (Fl×Env)):Nat->Env->Option (Fl×Env)
 |0,_=>none
 |n+1,ρ=>(test ρ).bind fun b=>if b then (body ρ).bind fun x=>(match x.1 with
  | .nx=>wt test body n x.2
  | .ct=>wt test body n x.2
  | .br=>some (.nx,x.2)
  | .rt v=>some (.rt v,x.2)) else some (.nx,ρ)
noncomputable def Yh(ρ:Env)(j:Nat):Option (List D×Env):=match ρ[j]? with
 |some (some (.val d))=>(xW d).map fun l=>(l,ρ)
 |some (some (.obj _ (.lst ds)))=>some (ds,ρ.set j (some (.val (.lst ds))))
 |_=>none
noncomputable def XF(ρ:Env)(j:Nat):Option (List D):=match ρ[j]? with
 |some (some (.val (.dct false ks _)))=>some ks
 |_=>none
noncomputable def Qc:Fl×Env->Option (Fl×Env)
 |(.nx,ρ)=>some (.nx,ρ)
 |_=>none
noncomputable def jI(ρ:Env)(j:Nat):Env:=match ρ[j]? with
 |some (some (.obj true d))=>ρ.set j (some (.val d))
 |_=>ρ
mutual
noncomputable def zH(fa:Nat->List D->Option Ans)(fuel:Nat):S->Env->Option (Fl×Env)
 | .expr e,ρ=>(zk (zJ fa) e ρ).map fun _=>(.nx,ρ)
 | .asg i e,ρ=>(zk (zJ fa) e ρ).bind fun r=>if r.lent|| !free ρ i then none else some (.nx,ρ.set i (some r))
 | .mov i j,ρ=>if free ρ i then (match ρ[j]? with
  |some (some (.val d))=>some (.nx,ρ.set i (some (.val d)))
  |some (some (.obj _ d))=>some (.nx,(ρ.set j (some (.val d))).set i (some (.val d)))
  |_=>none) else none
 | .app i e,ρ=>match ρ[i]? with
  |some (some x)=>(match x.cell with
   |some (.lst ds)=>(zk (zJ fa) e ρ).bind fun r=>(toD r).bind fun d=>if ds.length<line then some (.nx,ρ.set i (some (x.put (.lst (ds++[d]))))) else none
   |_=>none)
  |_=>none
 | .dupd i j,ρ=>XE ρ i j
 | .dset i k v,ρ=>match ρ[i]? with
  |some (some x)=>(match x.cell with
   |some (.dct t ks vs)=>(zk (zJ fa) v ρ).bind fun r=>(toD r).bind fun d=>(zk (zJ fa) k ρ).bind fun r=>(toD r).bind fun a=>if yK t a&&decide (ks.length<line) then some (.nx,ρ.set i (some (x.put (xo t ks vs a d)))) else none
   |_=>none)
  |_=>none
 | .exprM m,ρ=>(vv fa m ρ).map fun x=>(.nx,x.2)
 | .ifO c m a b,ρ=>(zB (zJ fa) c ρ).bind fun k=>if k then zp fa fuel a ρ else (vv fa m ρ).bind fun x=>(yG x.1).bind fun k=>if k then zp fa fuel a x.2 else zp fa fuel b x.2
 | .ret e,ρ=>(zk (zJ fa) e ρ).bind fun r=>if r.lent then none else some (.rt r,ρ)
 | .retV i,ρ=>match ρ[i]? with
  |some (some (.val d))=>some (.rt (.val d),ρ)
  |some (some (.obj _ d))=>some (.rt (.obj true d),ρ.set i none)
  |_=>none
 | .ifs c a b,ρ=>(zB (zJ fa) c ρ).bind fun k=>if k then zp fa fuel a ρ else zp fa fuel b ρ
 | .for_ i rng src body,ρ=>(yi (zJ fa) src ρ).bind fun rs=>if rs.any SV.lent|| !free ρ i then none else (yw rng rs).bind fun ds=>yx i (zp fa fuel body) ds ρ
 | .forV i j body,ρ=>if free ρ i then (Yh ρ j).bind fun x=>yx i (zp fa fuel body) x.1 x.2 else none
 | .forK i j body,ρ=>if free ρ i then (XF ρ j).bind fun ks=>(yx i (zp fa fuel body) ks ρ).bind Qc else none
 | .while_ c body,ρ=>wt (zB (zJ fa) c) (zp fa fuel body) fuel ρ
 | .frz js s,ρ=>zH fa fuel s (js.foldl jI ρ)
 | .stop,_=>none
noncomputable def zp(fa:Nat->List D->Option Ans)(fuel:Nat):Ss->Env->Option (Fl×Env)
 | .nil,ρ=>some (.nx,ρ)
 | .cons s ss,ρ=>(zH fa fuel s ρ).bind fun x=>match x.1 with
  | .nx=>zp fa fuel ss x.2
  |_=>some x
end
abbrev Ts:=Empty
inductive FlX where
 |fl (f:Fl)|ex (c:Nat)
def zkh(fa:Nat->List D->Option Ans)(fuel:Nat)(t:Ts)(_:Env):Option (FlX×Env):=nomatch t
structure Fn where
 np:Nat
 nl:Nat
 body:Ss
 io:List Nat:=[]
 xb:Option Ts:=none
noncomputable def zki:Option (FlX×Env)->Option Ans
 |some (.fl (.rt r),_)=>some (.ok r [])
 |some (.fl .nx,_)=>some (.ok (.val .non) [])
 |some (.ex c,_)=>some (.ex c)
 |_=>none
noncomputable def wY(ρ:Env):List Nat->Option (List D)
 |[]=>some []
 |i::r=>match ρ[i]? with
  |some (some (.io d))=>(wY ρ r).map (d:: ·)
  |_=>none
noncomputable def jh(io:List Nat):Option (Fl×Env)->Option Ans
 |some (.rt r,ρ)=>(wY ρ io).map (Ans.ok r)
 |some (.nx,ρ)=>(wY ρ io).map (Ans.ok (.val .non))
 |_=>none
noncomputable def wC(io:List Nat):Nat->List D->Env
 |_,[]=>[]
 |k,d::r=>some (if io.contains k then .io d else .val d)::wC io (k+1) r
noncomputable def zD(P:Nat->Option Fn)(fuel:Nat):Nat->Nat->List D->Option Ans
 |0,_,_=>none
 |n+1,f,ds=>(P f).bind fun F=>if ds.length=F.np then (match F.xb with
  |none=>jh F.io (zp (zD P fuel n) fuel F.body (wC F.io 0 ds++List.replicate (F.nl-F.np) none))
  |some t=>zki (zkh (zD P fuel n) fuel t (wC [] 0 ds++List.replicate (F.nl-F.np) none))) else none
noncomputable def zv(P:Nat->Option Fn)(fuel n:Nat):Nat->List D->Option SV:=zJ (zD P fuel n)
theorem zck{fn i ρ}:zk fn (E.int i) ρ=(some (.val (.int i))):=id rfl
theorem zkj{fn b ρ}:zk fn (E.bl b) ρ=(some (.val (.bl b))):=id rfl
theorem zkk{fn ρ}:zk fn (E.non) ρ=(some (.val .non)):=id rfl
theorem zkl{fn x ρ}:zk fn (E.str x) ρ=(some (.val (.str x))):=id rfl
theorem zkm{fn i ρ}:zk fn (E.var i) ρ=(look ρ i):=id rfl
theorem wZ{fn p es ρ}:zk fn (E.prim p es) ρ=((yi fn es ρ).bind fun rs=>zg p (rs.map zI)):=id rfl
theorem zkn{fn es ρ}:zk fn (E.tup es) ρ=((yi fn es ρ).bind fun rs=>(xX rs).map fun ds=>.val (.tup ds)):=id rfl
theorem zko{fn es ρ}:zk fn (E.lst es) ρ=((yi fn es ρ).bind fun rs=>(xX rs).map fun ds=>SV.obj true (.lst ds)):=id rfl
theorem zkp{fn a b ρ}:zk fn (E.and a b) ρ=((zk fn a ρ).bind fun r=>match r with
  | .val (.bl true)=>zk fn b ρ
  | .val (.bl false)=>some (.val (.bl false))
  |_=>none):=id rfl
theorem zkq{fn p q a b c ρ}:zk fn (E.chain p q a b c) ρ=((zk fn a ρ).bind fun x=>(zk fn b ρ).bind fun y=>(zg p [zI x,zI y]).bind fun z=>match z with
  | .val (.bl true)=>(zk fn c ρ).bind fun w=>zg q [zI y,zI w]
  | .val (.bl false)=>some (.val (.bl false))
  |_=>none):=id rfl
theorem zcl{fn f es ρ}:zk fn (E.call f es) ρ=((yi fn es ρ).bind fun rs=>wO rs (fn f (rs.map zI))):=id rfl
theorem zcm{fn t ρ}:zk fn (E.dnew t) ρ=(some (.obj true (.dct t [] []))):=id rfl
theorem zkr{fn t k v ρ}:zk fn (E.done t k v) ρ=((zk fn k ρ).bind fun x=>(zk fn v ρ).bind fun y=>(toD x).bind fun a=>(toD y).bind fun b=>if yK t a then some (.obj true (.dct t [a] [b])) else none):=id rfl
theorem zks{fn src cond elt ρ}:zk fn (E.compE src cond elt) ρ=((zk fn src ρ).bind fun r=>(XC r).bind fun ds=>
  if ds.length<=line then (yS (fun p=>vL p fun a b=>zB fn cond (some (.val a)::some (.val b)::ρ)) (fun p=>vL p fun a b=>zk fn elt (some (.val a)::some (.val b)::ρ)) (xE 0 ds)).map fun l=>SV.obj true (.lst l) else none):=id rfl
theorem Qd{fn rng src cond elt ρ}:zk fn (E.comp rng src cond elt) ρ=((yi fn src ρ).bind fun rs=>(yw rng rs).bind fun ds=>
  if ds.length<=line then (yS (fun d=>zB fn cond (some (.val d)::ρ)) (fun d=>zk fn elt (some (.val d)::ρ)) ds).map fun l=>SV.obj true (.lst l) else none):=id rfl
theorem xY{fn ρ}:yi fn (Es.nil) ρ=(some []):=id rfl
theorem xZ{fn e es ρ}:yi fn (Es.cons e es) ρ=((zk fn e ρ).bind fun r=>(yi fn es ρ).map (r:: ·)):=id rfl
theorem zkt{fn a b ρ}:zB fn (E.and a b) ρ=((zB fn a ρ).bind fun k=>if k then zB fn b ρ else some false):=id rfl
theorem zku{fn a b ρ}:zB fn (E.or a b) ρ=((zB fn a ρ).bind fun k=>if k then some true else zB fn b ρ):=id rfl
theorem zkv{fn a ρ}:zB fn (E.not a) ρ=((zB fn a ρ).map (!·)):=id rfl
theorem zkw{fn b ρ}:zB fn (E.bl b) ρ=(some b):=id rfl
theorem Qf{fn p es ρ}:zB fn (E.prim p es) ρ=((yi fn es ρ).bind fun rs=>(zg p (rs.map zI)).bind yG):=id rfl
theorem zkx{fn p q a b c ρ}:zB fn (E.chain p q a b c) ρ=((zk fn a ρ).bind fun x=>(zk fn b ρ).bind fun y=>(zg p [zI x,zI y]).bind fun z=>match z with
  | .val (.bl true)=>(zk fn c ρ).bind fun w=>(zg q [zI y,zI w]).bind yG
  | .val (.bl false)=>some false
  |_=>none):=id rfl
theorem zky{fn f es ρ}:zB fn (E.call f es) ρ=((yi fn es ρ).bind fun rs=>(wO rs (fn f (rs.map zI))).bind yG):=id rfl
theorem zcn{fn rng src cond elt ρ}:zB fn (E.comp rng src cond elt) ρ=((yi fn src ρ).bind fun rs=>(yw rng rs).bind fun ds=>
  if ds.length<=line then (yS (fun d=>zB fn cond (some (.val d)::ρ)) (fun d=>zk fn elt (some (.val d)::ρ)) ds).map fun l=> !l.isEmpty else none):=id rfl
theorem zco{fn ρ}:xg fn (MA.nil) ρ=(some []):=id rfl
theorem zcp{fn c r ρ}:xg fn (MA.e c r) ρ=((zk fn c ρ).bind fun x=>(jG x).bind fun a=>(xg fn r ρ).map (a:: ·)):=id rfl
theorem zcq{fn i r ρ}:xg fn (MA.s i r) ρ=((jH ρ i).bind fun d=>if vM d then (xg fn r ρ).map (.s i d:: ·) else none):=id rfl
theorem qR{fn t r ρ}:xg fn (MA.n t r) ρ=((xg fn r ρ).map (.n t:: ·)):=id rfl
theorem zkz{fa f ma ρ}:vv fa (M.call f ma) ρ=((xg (zJ fa) ma ρ).bind fun xs=>(fa f (xs.map Zo)).bind fun a=>match a with
  | .ok r outs=>if r.fine&&outs.all wX then (xp ρ xs outs).map fun ρ'=>(r,ρ') else none
  | .ex _=>none):=id rfl
theorem zkA{fa fuel e ρ}:zH fa fuel (S.expr e) ρ=((zk (zJ fa) e ρ).map fun _=>(.nx,ρ)):=id rfl
theorem zcr{fa fuel i e ρ}:zH fa fuel (S.asg i e) ρ=((zk (zJ fa) e ρ).bind fun r=>if r.lent|| !free ρ i then none else some (.nx,ρ.set i (some r))):=id rfl
theorem zcs{fa fuel i j ρ}:zH fa fuel (S.mov i j) ρ=(if free ρ i then (match ρ[j]? with
  |some (some (.val d))=>some (.nx,ρ.set i (some (.val d)))
  |some (some (.obj _ d))=>some (.nx,(ρ.set j (some (.val d))).set i (some (.val d)))
  |_=>none) else none):=id rfl
theorem zct{fa fuel i e ρ}:zH fa fuel (S.app i e) ρ=(match ρ[i]? with
  |some (some x)=>(match x.cell with
   |some (.lst ds)=>(zk (zJ fa) e ρ).bind fun r=>(toD r).bind fun d=>if ds.length<line then some (.nx,ρ.set i (some (x.put (.lst (ds++[d]))))) else none
   |_=>none)
  |_=>none):=id rfl
theorem zkB{fa fuel i j ρ}:zH fa fuel (S.dupd i j) ρ=(XE ρ i j):=id rfl
theorem zcu{fa fuel i k v ρ}:zH fa fuel (S.dset i k v) ρ=(match ρ[i]? with
  |some (some x)=>(match x.cell with
   |some (.dct t ks vs)=>(zk (zJ fa) v ρ).bind fun r=>(toD r).bind fun d=>(zk (zJ fa) k ρ).bind fun r=>(toD r).bind fun a=>if yK t a&&decide (ks.length<line) then some (.nx,ρ.set i (some (x.put (xo t ks vs a d)))) else none
   |_=>none)
  |_=>none):=id rfl
theorem zkC{fa fuel m ρ}:zH fa fuel (S.exprM m) ρ=((vv fa m ρ).map fun x=>(.nx,x.2)):=id rfl
theorem zkD{fa fuel c m a b ρ}:zH fa fuel (S.ifO c m a b) ρ=((zB (zJ fa) c ρ).bind fun k=>if k then zp fa fuel a ρ else (vv fa m ρ).bind fun x=>(yG x.1).bind fun k=>if k then zp fa fuel a x.2 else zp fa fuel b x.2):=id rfl
theorem zkE{fa fuel e ρ}:zH fa fuel (S.ret e) ρ=((zk (zJ fa) e ρ).bind fun r=>if r.lent then none else some (.rt r,ρ)):=id rfl
theorem zcv{fa fuel i ρ}:zH fa fuel (S.retV i) ρ=(match ρ[i]? with
  |some (some (.val d))=>some (.rt (.val d),ρ)
  |some (some (.obj _ d))=>some (.rt (.obj true d),ρ.set i none)
  |_=>none):=id rfl
theorem zkF{fa fuel c a b ρ}:zH fa fuel (S.ifs c a b) ρ=((zB (zJ fa) c ρ).bind fun k=>if k then zp fa fuel a ρ else zp fa fuel b ρ):=id rfl
theorem zkG{fa fuel i rng src body ρ}:zH fa fuel (S.for_ i rng src body) ρ=((yi (zJ fa) src ρ).bind fun rs=>if rs.any SV.lent|| !free ρ i then none else (yw rng rs).bind fun ds=>yx i (zp fa fuel body) ds ρ):=id rfl
theorem zkH{fa fuel i j body ρ}:zH fa fuel (S.forK i j body) ρ=(if free ρ i then (XF ρ j).bind fun ks=>(yx i (zp fa fuel body) ks ρ).bind Qc else none):=id rfl
theorem zkI{fa fuel i j body ρ}:zH fa fuel (S.forV i j body) ρ=(if free ρ i then (Yh ρ j).bind fun x=>yx i (zp fa fuel body) x.1 x.2 else none):=id rfl
theorem zkJ{fa fuel c body ρ}:zH fa fuel (S.while_ c body) ρ=(wt (zB (zJ fa) c) (zp fa fuel body) fuel ρ):=id rfl
theorem zkK{fa fuel js s ρ}:zH fa fuel (S.frz js s) ρ=(zH fa fuel s (js.foldl jI ρ)):=id rfl
theorem zkL{fa fuel ρ}:zH fa fuel (S.stop) ρ=(none):=id rfl
theorem zkM{fa fuel ρ}:zp fa fuel (Ss.nil) ρ=(some (.nx,ρ)):=id rfl
theorem zkN{fa fuel s ss ρ}:zp fa fuel (Ss.cons s ss) ρ=((zH fa fuel s ρ).bind fun x=>match x.1 with
  | .nx=>zp fa fuel ss x.2
  |_=>some x):=id rfl
theorem vx{α:Type}{P:List α->Prop}(h: ∀a0,P [a0])(us:List α)(hl:us.length=1):P us:=by
 cases us with
 |nil=>cases hl
 |cons a0 r0=>
  cases r0 with
  |nil=>exact h a0
  |cons _ _=>simp at hl
theorem wc{α:Type}{P:List α->Prop}(h: ∀a0 a1,P [a0,a1])(us:List α)(hl:us.length=2):P us:=by
 cases us with
 |nil=>cases hl
 |cons a0 r0=>
  cases r0 with
  |nil=>cases hl
  |cons a1 r1=>
   cases r1 with
   |nil=>exact h a0 a1
   |cons _ _=>simp at hl
theorem vN{α:Type}{P:List α->Prop}(h: ∀a0 a1 a2,P [a0,a1,a2])(us:List α)(hl:us.length=3):P us:=by
 cases us with
 |nil=>cases hl
 |cons a0 r0=>
  cases r0 with
  |nil=>cases hl
  |cons a1 r1=>
   cases r1 with
   |nil=>cases hl
   |cons a2 r2=>
    cases r2 with
    |nil=>exact h a0 a1 a2
    |cons _ _=>simp at hl
theorem qS{α:Type}{P:List α->Prop}(h: ∀a0 a1 a2 a3,P [a0,a1,a2,a3])(us:List α)(hl:us.length=4):P us:=by
 cases us with
 |nil=>cases hl
 |cons a0 r0=>
  cases r0 with
  |nil=>cases hl
  |cons a1 r1=>
   cases r1 with
   |nil=>cases hl
   |cons a2 r2=>
    cases r2 with
    |nil=>cases hl
    |cons a3 r3=>
     cases r3 with
     |nil=>exact h a0 a1 a2 a3
     |cons _ _=>simp at hl
theorem zkO{α:Type}{P:List α->Prop}(h: ∀a0 a1 a2 a3 a4,P [a0,a1,a2,a3,a4])(us:List α)(hl:us.length=5):P us:=by
 cases us with
 |nil=>cases hl
 |cons a0 r0=>
  cases r0 with
  |nil=>cases hl
  |cons a1 r1=>
   cases r1 with
   |nil=>cases hl
   |cons a2 r2=>
    cases r2 with
    |nil=>cases hl
    |cons a3 r3=>
     cases r3 with
     |nil=>cases hl
     |cons a4 r4=>
      cases r4 with
      |nil=>exact h a0 a1 a2 a3 a4
      |cons _ _=>simp at hl
end L2.LW
set_option maxHeartbeats 4000000
namespace L2.LW
open PySem PySem.Spec PyProof.Rows
noncomputable def XG(K:Ka)(a:Addr)(xs:List V):Prop:=
 ∃(o:Obj) (its:Array Value) (n:Nat),K.lookup a=some o/\o.cls= .type "list"/\o.dict=Option.none/\o.data= .seq its n/\its.size<=sizeLine/\Vals xs its.toList
noncomputable def yA(ns:List Int)(ys:List V):List (zy×V):=(ns.map Sum.inl).zip ys
noncomputable def yH(ns:List (List Int))(ys:List V):List (List zy×V):=(ns.map fun l=>l.map Sum.inl).zip ys
noncomputable def kT(l:List Int):D:=.tup (l.map D.int)
mutual
inductive Rep (K:Ka)(W:Addr->Prop)(H:Hp):D->V->Prop where
 |int (i:Int):Rep K W H (.int i) (.int i)
 |bl (b:Bool):Rep K W H (.bl b) (.bl b)
 |non:Rep K W H .non .non
 |str (x:Str):Rep K W H (.str x) (.str x)
 |tup {a:Addr} {xs:List V} {ds:List D} (h:H a=some (.tup xs)) (r:Reps K W H ds xs):Rep K W H (.tup ds) (.ref a)
 |lst {a:Addr} {xs:List V} {ds:List D} (h:(¬W a/\Rd H a (.lst xs))\/XG K a xs) (r:Reps K W H ds xs):Rep K W H (.lst ds) (.ref a)
 |dK {a:Addr} {ns:List Int} {ys:List V} {vs:List D} (n: ¬W a) (h:Rd H a (.dK (yA ns ys))) (l:ns.length=ys.length) (r:Reps K W H vs ys):Rep K W H (.dct false (ns.map D.int) vs) (.ref a)
 |dT {a:Addr} {ns:List (List Int)} {ys:List V} {vs:List D} (n: ¬W a) (h:H a=some (.dT (yH ns ys))) (l:ns.length=ys.length) (r:Reps K W H vs ys):Rep K W H (.dct true (ns.map kT) vs) (.ref a)
inductive Reps (K:Ka)(W:Addr->Prop)(H:Hp):List D->List V->Prop where
 |nil:Reps K W H [] []
 |cons {d:D} {v:V} {ds:List D} {vs:List V} (h:Rep K W H d v) (t:Reps K W H ds vs):Reps K W H (d::ds) (v::vs)
end
inductive ORep (K:Ka)(W:Addr->Prop)(H:Hp):D->HO->Prop where
 |lst {xs:List V} {ds:List D} (r:Reps K W H ds xs):ORep K W H (.lst ds) (.lst xs)
 |dK {ns:List Int} {ys:List V} {vs:List D} (l:ns.length=ys.length) (r:Reps K W H vs ys):ORep K W H (.dct false (ns.map D.int) vs) (.dK (yA ns ys))
 |dT {ns:List (List Int)} {ys:List V} {vs:List D} (l:ns.length=ys.length) (r:Reps K W H vs ys):ORep K W H (.dct true (ns.map kT) vs) (.dT (yH ns ys))
structure Ext (W:Addr->Prop)(H:Hp)(W':Addr->Prop)(H':Hp):Prop where
 keep: ∀a o,H a=some o->¬W a->H' a=some o
 tup: ∀a xs,H a=some (.tup xs)->H' a=some (.tup xs)
 frz: ∀a o u,H a=some (.frz o u)->H' a=some (.frz o u)
 win: ∀a,W' a->W a\/H a=Option.none
theorem Ext.refl(W:Addr->Prop)(H:Hp):Ext W H W H:=⟨fun _ _ h _=>h,fun _ _ h=>h,fun _ _ _ h=>h,fun _ h=>.inl h⟩
theorem Ext.out{W W':Addr->Prop}{H H':Hp}(x:Ext W H W' H'){a:Addr}{o:HO}(h:H a=some o)(n: ¬W a): ¬W' a:=fun w=>by
 rcases x.win a w with q|q
 ·exact n q
 ·rw[h] at q;cases q
theorem zkP{W W':Addr->Prop}{H H':Hp}(x:Ext W H W' H'){a:Addr}{u:HO}(h:Rd H a u)(n: ¬W a):Rd H' a u:=by
 rcases h with h|⟨o,h⟩
 ·exact .inl (x.keep _ _ h n)
 ·exact .inr ⟨o,x.keep _ _ h n⟩
theorem zkQ{W W':Addr->Prop}{H H':Hp}(x:Ext W H W' H'){a:Addr}{u:HO}(h:Rd H a u)(n: ¬W a): ¬W' a:=by
 rcases h with h|⟨o,h⟩
 ·exact x.out h n
 ·exact x.out h n
theorem Ext.same{W:Addr->Prop}{H H':Hp}(s:Same H H'):Ext W H W H':=⟨fun a o h _=>s a o h,fun a xs h=>s a _ h,fun a o u h=>s a _ h,fun _ w=>.inl w⟩
section
variable {K:Ka} {W W':Addr->Prop} {H H':Hp}
mutual
theorem Rep.ext(x:Ext W H W' H'): ∀{d:D} {v:V},Rep K W H d v->Rep K W' H' d v
 |_,_,.int i=>.int i
 |_,_,.bl b=>.bl b
 |_,_,.non=>.non
 |_,_,.str s=>.str s
 |_,_,.dK n h l r=>.dK (zkQ x h n) (zkP x h n) l (Reps.ext x r)
 |_,_,.dT n h l r=>.dT (x.out h n) (x.keep _ _ h n) l (Reps.ext x r)
 |_,_,.tup h r=>.tup (x.tup _ _ h) (Reps.ext x r)
 |_,_,.lst h r=>.lst (by
   rcases h with ⟨n,h|⟨o,h⟩⟩|h
   ·exact .inl ⟨x.out h n,.inl (x.keep _ _ h n)⟩
   ·exact .inl ⟨x.out h n,.inr ⟨o,x.keep _ _ h n⟩⟩
   ·exact .inr h) (Reps.ext x r)
theorem Reps.ext(x:Ext W H W' H'): ∀{ds:List D} {vs:List V},Reps K W H ds vs->Reps K W' H' ds vs
 |_,_,.nil=>.nil
 |_,_,.cons h t=>.cons (Rep.ext x h) (Reps.ext x t)
end
mutual
theorem Rep.less(x: ∀a,W' a->W a): ∀{d:D} {v:V},Rep K W H d v->Rep K W' H d v
 |_,_,.int i=>.int i
 |_,_,.bl b=>.bl b
 |_,_,.non=>.non
 |_,_,.str s=>.str s
 |_,_,.dK n h l r=>.dK (fun w=>n (x _ w)) h l (Reps.less x r)
 |_,_,.dT n h l r=>.dT (fun w=>n (x _ w)) h l (Reps.less x r)
 |_,_,.tup h r=>.tup h (Reps.less x r)
 |_,_,.lst h r=>.lst (by
   rcases h with ⟨n,h⟩|h
   ·exact .inl ⟨fun w=>n (x _ w),h⟩
   ·exact .inr h) (Reps.less x r)
theorem Reps.less(x: ∀a,W' a->W a): ∀{ds:List D} {vs:List V},Reps K W H ds vs->Reps K W' H ds vs
 |_,_,.nil=>.nil
 |_,_,.cons h t=>.cons (Rep.less x h) (Reps.less x t)
end
mutual
theorem Rep.plain: ∀{d:D} {v:V},Rep K W H d v->LW.plain d=true->Rep K W' H d v
 |_,_,.int i,_=>.int i
 |_,_,.bl b,_=>.bl b
 |_,_,.non,_=>.non
 |_,_,.str s,_=>.str s
 |_,_,.tup h r,p=>.tup h (Reps.plain r (by simpa [LW.plain] using p))
 |_,_,.lst h r,p=>by simp[LW.plain] at p
 |_,_,.dK _ _ _ _,p=>by simp[LW.plain] at p
 |_,_,.dT _ _ _ _,p=>by simp[LW.plain] at p
theorem Reps.plain: ∀{ds:List D} {vs:List V},Reps K W H ds vs->xu ds=true->Reps K W' H ds vs
 |_,_,.nil,_=>.nil
 |_,_,.cons h t,p=>by
  simp only[xu,Bool.and_eq_true] at p;exact .cons (Rep.plain h p.1) (Reps.plain t p.2)
end
theorem Reps.length: ∀{ds:List D} {vs:List V},Reps K W H ds vs->ds.length=vs.length
 |_,_,.nil=>rfl
 |_,_,.cons _ t=>by simp[Reps.length t]
theorem Reps.get: ∀{ds:List D} {vs:List V} {i:Nat} {d:D},Reps K W H ds vs->ds[i]? =some d->∃v,vs[i]? =some v/\Rep K W H d v
 |_,_,_,_,.nil,e=>by simp at e
 |_,_,0,_,.cons h _,e=>by simp at e;subst e;exact⟨_,rfl,h⟩
 |_,_,i+1,d,.cons _ t,e=>by
  obtain⟨v,h1,h2⟩:=Reps.get (i:=i) (d:=d) t (by simpa using e);exact⟨v,by simpa using h1,h2⟩
theorem Reps.append: ∀{ds es:List D} {vs us:List V},Reps K W H ds vs->Reps K W H es us->Reps K W H (ds++es) (vs++us)
 |_,_,_,_,.nil,s=>s
 |_,_,_,_,.cons h t,s=>.cons h (Reps.append t s)
theorem Reps.take: ∀{ds:List D} {vs:List V} (n:Nat),Reps K W H ds vs->Reps K W H (ds.take n) (vs.take n)
 |_,_,0,_=>.nil
 |_,_,_+1,.nil=>.nil
 |_,_,n+1,.cons h t=>.cons h (Reps.take n t)
theorem Reps.ints: ∀(ns:List Int),Reps K W H (ns.map D.int) (ns.map V.int)
 |[]=>.nil
 |i::r=>.cons (.int i) (Reps.ints r)
theorem Reps.ofInts: ∀{ds:List D} {vs:List V} {ns:List Int},Reps K W H ds vs->ints? ds=some ns->vs=ns.map V.int
 |_,_,ns,.nil,e=>by simp[ints?] at e;subst e;rfl
 |_,_,ns,.cons (d:=d) h t,e=>by
  cases h with
  |int i=>
   simp only[ints?,jo2] at e;obtain⟨ms,e1,rfl⟩:=e;rw[Reps.ofInts t e1];rfl
  |_=>simp[ints?] at e
theorem ORep.ext{d:D}{o:HO}(h:ORep K W H d o)(x:Ext W H W' H'):ORep K W' H' d o:=by
 cases h with
 |lst r=>exact .lst (r.ext x)
 |dK l r=>exact .dK l (r.ext x)
 |dT l r=>exact .dT l (r.ext x)
theorem ORep.less{d:D}{o:HO}(h:ORep K W H d o)(x: ∀a,W' a->W a):ORep K W' H d o:=by
 cases h with
 |lst r=>exact .lst (r.less x)
 |dK l r=>exact .dK l (r.less x)
 |dT l r=>exact .dT l (r.less x)
theorem ORep.plain{d:D}{o:HO}(h:ORep K W H d o)(p:wX d=true):ORep K W' H d o:=by
 cases h with
 |lst r=>exact .lst (r.plain p)
 |dK l r=>exact .dK l (r.plain p)
 |dT l r=>exact .dT l (r.plain p)
theorem ORep.rep{d:D}{o:HO}{a:Addr}(h:ORep K W H d o)(n: ¬W a)(e:H a=some o):Rep K W H d (.ref a):=by
 cases h with
 |lst r=>exact .lst (.inl ⟨n,.inl e⟩) r
 |dK l r=>exact .dK n (.inl e) l r
 |dT l r=>exact .dT n e l r
theorem ORep.kind{d:D}{o:HO}(h:ORep K W H d o):(∀xs,o≠ .tup xs)/\(∀b u,o≠ .frz b u):=by
 cases h<;>exact⟨fun _ z=>(nomatch z),fun _ _ z=>(nomatch z)⟩
noncomputable def add(W:Addr->Prop)(a:Addr):Addr->Prop:=fun b=>W b\/b=a
inductive Frz (K:Ka)(W:Addr->Prop)(H:Hp):SV->V->Prop where
 |val {d:D} {v:V} (h:Rep K W H d v):Frz K W H (.val d) v
 |lis {d:D} {a:Addr} {o:HO} (h: ¬W a) (e:H a=some o) (r:ORep K W H d o):Frz K W H (.obj true d) (.ref a)
 |see {d:D} {a:Addr} {o:HO} (h:W a) (e:H a=some o) (r:ORep K W H d o):Frz K W H (.obj false d) (.ref a)
inductive Res (K:Ka)(W:Addr->Prop)(H H':Hp):SV->V->Prop where
 |val {d:D} {v:V} (h:Rep K W H' d v):Res K W H H' (.val d) v
 |new {d:D} {a:Addr} {o:HO} (h:H a=Option.none) (e:H' a=some o) (r:ORep K (add W a) H' d o):Res K W H H' (.obj true d) (.ref a)
 |see {d:D} {a:Addr} {o:HO} (h:W a) (e:H' a=some o) (r:ORep K W H' d o):Res K W H H' (.obj false d) (.ref a)
noncomputable def Wf(W:Addr->Prop)(H:Hp):Prop:=∀a,W a->H a≠Option.none
theorem Res.frz{r:SV}{v:V}(h:Res K W H H' r v)(wf:Wf W H):Frz K W H' r v:=by
 cases h with
 |val h=>exact .val h
 |new h e r=>exact .lis (fun w=>wf _ w h) e (r.less fun b w=>.inl w)
 |see h e r=>exact .see h e r
theorem Frz.same{r:SV}{v:V}(h:Frz K W H r v)(s:Same H H'):Frz K W H' r v:=by
 cases h with
 |val h=>exact .val (h.ext (.same s))
 |lis h e r=>exact .lis h (s _ _ e) (r.ext (.same s))
 |see h e r=>exact .see h (s _ _ e) (r.ext (.same s))
noncomputable def Sees(K:Ka)(W:Addr->Prop)(H:Hp)(d:D)(v:V):Prop:=
 Rep K W H d v\/∃a o,v= .ref a/\H a=some o/\ORep K W H d o
theorem Frz.sees{r:SV}{v:V}(h:Frz K W H r v):Sees K W H (zI r) v:=by
 cases h with
 |val h=>exact .inl h
 |lis h e r=>exact .inr ⟨_,_,rfl,e,r⟩
 |see h e r=>exact .inr ⟨_,_,rfl,e,r⟩
theorem Sees.lst{ds:List D}{v:V}(h:Sees K W H (.lst ds) v): ∃a xs,v= .ref a/\SqL K H a xs/\Reps K W H ds xs:=by
 rcases h with h|⟨a,o,rfl,e,r⟩
 ·cases h with
  |lst h r=>
   rcases h with ⟨_,h⟩|h
   ·exact⟨_,_,rfl,.inl h,r⟩
   ·exact⟨_,_,rfl,.inr h,r⟩
 ·cases r with
  |lst r=>exact⟨_,_,rfl,.of e,r⟩
theorem Sees.tupH{ds:List D}{v:V}(h:Sees K W H (.tup ds) v): ∃a xs,v= .ref a/\H a=some (.tup xs)/\Reps K W H ds xs:=by
 rcases h with h|⟨a,o,rfl,e,r⟩
 ·cases h with
  |tup h r=>exact⟨_,_,rfl,h,r⟩
 ·cases r
theorem Sees.tup{ds:List D}{v:V}(h:Sees K W H (.tup ds) v): ∃a xs,v= .ref a/\SqT K H a xs/\Reps K W H ds xs:=by
 obtain⟨a,xs,e,h,r⟩:=h.tupH;exact⟨a,xs,e,.of h,r⟩
theorem Sees.dK{ks vs:List D}{v:V}(h:Sees K W H (.dct false ks vs) v): ∃a ns ys,v= .ref a/\ks=ns.map D.int/\Rd H a (.dK (yA ns ys))/\ns.length=ys.length/\Reps K W H vs ys:=by
 rcases h with h|⟨a,o,rfl,e,r⟩
 ·cases h with
  |dK n h l r=>exact⟨_,_,_,rfl,rfl,h,l,r⟩
 ·cases r with
  |dK l r=>exact⟨_,_,_,rfl,rfl,.inl e,l,r⟩
theorem Sees.dT{ks vs:List D}{v:V}(h:Sees K W H (.dct true ks vs) v): ∃a ns ys,v= .ref a/\ks=ns.map kT/\H a=some (.dT (yH ns ys))/\ns.length=ys.length/\Reps K W H vs ys:=by
 rcases h with h|⟨a,o,rfl,e,r⟩
 ·cases h with
  |dT n h l r=>exact⟨_,_,_,rfl,rfl,h,l,r⟩
 ·cases r with
  |dT l r=>exact⟨_,_,_,rfl,rfl,e,l,r⟩
theorem Sees.int{i:Int}{v:V}(h:Sees K W H (.int i) v):v= .int i:=by
 rcases h with h|⟨a,o,rfl,e,r⟩
 ·cases h;rfl
 ·cases r
theorem Sees.bl{i:Bool}{v:V}(h:Sees K W H (.bl i) v):v= .bl i:=by
 rcases h with h|⟨a,o,rfl,e,r⟩
 ·cases h;rfl
 ·cases r
theorem Sees.str{i:Str}{v:V}(h:Sees K W H (.str i) v):v= .str i:=by
 rcases h with h|⟨a,o,rfl,e,r⟩
 ·cases h;rfl
 ·cases r
theorem Sees.non{v:V}(h:Sees K W H .non v):v= .non:=by
 rcases h with h|⟨a,o,rfl,e,r⟩
 ·cases h;rfl
 ·cases r
theorem Frz.toD{r:SV}{v:V}{d:D}(h:Frz K W H r v)(e:LW.toD r=some d):Rep K W H d v:=by
 cases h with
 |val h=>simp[LW.toD] at e;subst e;exact h
 |lis h e' r=>simp[LW.toD] at e;subst e;exact r.rep h e'
 |see h e' r=>simp[LW.toD] at e
noncomputable def wd(ρ:LW.Env)(σ:St)(a:Addr):Prop:=∃(i:Nat) (x:SV) (d:D),ρ[i]? =some (some x)/\x.cell=some d/\σ[i]? =some (some (.ref a))
structure R (K:Ka)(W:Addr->Prop)(ρ:LW.Env)(σ:St)(H:Hp):Prop where
 val: ∀(i:Nat) (d:D),ρ[i]? =some (some (.val d))->∃v,σ[i]? =some (some v)/\Rep K W H d v
 nol: ∀(i:Nat) (d:D),ρ[i]? ≠some (some (.obj false d))
 own: ∀(i:Nat) (x:SV) (d:D),ρ[i]? =some (some x)->x.cell=some d->∃a o,σ[i]? =some (some (.ref a))/\W a/\H a=some o/\ORep K W H d o
 inj: ∀(i j:Nat) (x y:SV) (d e:D) (a:Addr),ρ[i]? =some (some x)->ρ[j]? =some (some y)->x.cell=some d->y.cell=some e->σ[i]? =some (some (.ref a))->σ[j]? =some (some (.ref a))->i=j
 wf:Wf W H
 len:ρ.length=σ.length
theorem R.ownW{ρ:LW.Env}{σ:St}(r:R K W ρ σ H){a:Addr}(o:wd ρ σ a):W a/\∃o d,H a=some o/\ORep K W H d o:=by
 obtain⟨i,x,d,h1,h2,h3⟩:=o;obtain⟨b,o,e,w,q,z⟩:=r.own i x d h1 h2;rw[h3] at e;cases e;exact⟨w,o,d,q,z⟩
theorem R.same{ρ:LW.Env}{σ:St}(r:R K W ρ σ H)(s:Same H H'):R K W ρ σ H':=by
 refine⟨fun i d h=>?_,r.nol,fun i x d h h'=>?_,r.inj,fun a w=>?_,r.len⟩
 ·obtain⟨v,h1,h2⟩:=r.val i d h
  exact⟨v,h1,h2.ext (.same s)⟩
 ·obtain⟨a,o,h1,h2,h3,h4⟩:=r.own i x d h h'
  exact⟨a,o,h1,h2,s _ _ h3,h4.ext (.same s)⟩
 ·cases e:H a with
  |none=>exact KC e (r.wf a w)
  |some o=>rw[s a o e];exact fun z=>nomatch z
theorem R.look{ρ:LW.Env}{σ:St}(r:R K W ρ σ H){i:Nat}{x:SV}(h:look ρ i=some x): ∃v,σ[i]? =some (some v)/\Frz K W H x v/\Res K W H H x v:=by
 unfold LW.look at h;split at h
 ·rename_i d e
  cases h;obtain⟨v,h1,h2⟩:=r.val i d e;exact⟨v,h1,.val h2,.val h2⟩
 ·rename_i o d e
  cases h
  cases o with
  |false=>exact KC e (r.nol i d)
  |true=>
   obtain⟨a,o,h1,h2,h3,h4⟩:=r.own i _ d e rfl;exact⟨_,h1,.see h2 h3 h4,.see h2 h3 h4⟩
 ·rename_i d e
  cases h;obtain⟨a,o,h1,h2,h3,h4⟩:=r.own i _ d e rfl;exact⟨_,h1,.see h2 h3 h4,.see h2 h3 h4⟩
 ·cases h
noncomputable def xJ(ρ:LW.Env)(i:Nat):Prop:=∃d,ρ[i]? =some (some (.io d))
theorem jJ{ρ:LW.Env}{i:Nat}(h:LW.free ρ i=true): ¬xJ ρ i:=fun zz0=>by
 obtain⟨d,e⟩:=zz0;unfold LW.free at h;rw[e] at h;cases h
structure SPost (K:Ka)(W:Addr->Prop)(ρ:LW.Env)(σ:St)(H:Hp)(W':Addr->Prop)(ρ':LW.Env)(σ':St)(H':Hp):Prop where
 r:R K W' ρ' σ' H'
 keep: ∀a o,H a=some o->¬wd ρ σ a->H' a=some o
 win: ∀a,W' a->W a\/H a=Option.none
 wout: ∀a,W a->¬wd ρ σ a->W' a/\¬wd ρ' σ' a
 io: ∀i,(xJ ρ' i↔xJ ρ i)/\(xJ ρ i->σ'[i]? =σ[i]?)
theorem SPost.trans{W1 W2:Addr->Prop}{ρ ρ1 ρ2:LW.Env}{σ σ1 σ2:St}{H1 H2:Hp}(x:SPost K W ρ σ H W1 ρ1 σ1 H1)(y:SPost K W1 ρ1 σ1 H1 W2 ρ2 σ2 H2)(r0:R K W ρ σ H):SPost K W ρ σ H W2 ρ2 σ2 H2:=by
 have no1: ∀a o,H a=some o->¬wd ρ σ a->¬wd ρ1 σ1 a:=fun a o h n z=>by
  rcases x.win a (x.r.ownW z).1 with w|w
  ·exact (x.wout a w n).2 z
  ·rw[h] at w;cases w
 refine⟨y.r,fun a o h n=>y.keep a o (x.keep a o h n) (no1 a o h n),fun a w=>?_,fun a w n=>?_,fun i=>⟨(y.io i).1.trans (x.io i).1,fun z=>((y.io i).2 ((x.io i).1.mpr z)).trans ((x.io i).2 z)⟩⟩
 ·rcases y.win a w with q|q
  ·exact x.win a q
  ·cases e:H a with
   |none=>exact .inr rfl
   |some o=>
    by_cases n:wd ρ σ a
    ·exact .inl (r0.ownW n).1
    ·rw[x.keep a o e n] at q;cases q
 ·obtain⟨w1,n1⟩:=x.wout a w n
  exact y.wout a w1 n1
theorem SPost.ext{W1:Addr->Prop}{ρ ρ1:LW.Env}{σ σ1:St}{H1:Hp}(x:SPost K W ρ σ H W1 ρ1 σ1 H1)(r0:R K W ρ σ H):Ext W H W1 H1:=by
 refine⟨fun a o h n=>x.keep a o h fun z=>n (r0.ownW z).1,fun a xs h=>x.keep a _ h fun z=>?_,fun a o u h=>x.keep a _ h fun z=>?_,x.win⟩
 ·obtain⟨_,o,d,e,q⟩:=r0.ownW z
  rw[h] at e;cases e;exact q.kind.1 xs rfl
 ·obtain⟨_,o,d,e,q⟩:=r0.ownW z
  rw[h] at e;cases e;exact q.kind.2 _ _ rfl
theorem SPost.same{ρ:LW.Env}{σ:St}(r0:R K W ρ σ H)(s:Same H H'):SPost K W ρ σ H W ρ σ H':=
 ⟨r0.same s,fun a o h _=>s a o h,fun a w=>.inl w,fun a w n=>⟨w,n⟩,fun _=>⟨.rfl,fun _=>rfl⟩⟩
end
noncomputable def zkR(ρ:LW.Env)(σ:St)(a:Addr):Prop:=∃i,xJ ρ i/\σ[i]? =some (some (.ref a))
inductive Ret (K:Ka)(W:Addr->Prop)(ρ:LW.Env)(σ:St)(W':Addr->Prop)(H':Hp):SV->V->Prop where
 |val {d:D} {v:V} (h:Rep K W' H' d v):Ret K W ρ σ W' H' (.val d) v
 |new {d:D} {a:Addr} {o:HO} (h:W' a) (n: ¬(W a/\¬wd ρ σ a)) (n': ¬zkR ρ σ a) (e:H' a=some o) (r:ORep K W' H' d o):Ret K W ρ σ W' H' (.obj true d) (.ref a)
noncomputable def tE(K:Ka)(fn:Nat->List D->Option SV)(c:E):TE:=fun σ H Q=>∃W ρ r,R K W ρ σ H/\zk fn c ρ=some r/\∀v H',Same H H'->Res K W H H' r v->Q v H'
noncomputable def tV(K:Ka)(fn:Nat->List D->Option SV)(c:E):TE:=fun σ H Q=>∃W ρ r,R K W ρ σ H/\zk fn c ρ=some r/\∀v H',Same H H'->Frz K W H' r v->Q v H'
noncomputable def zcw(K:Ka)(fn:Nat->List D->Option SV)(cs:Es):TA:=fun σ H Q=>∃W ρ rs,R K W ρ σ H/\yi fn cs ρ=some rs/\∀vs H',Same H H'->Paired (Frz K W H') rs vs->Q vs H'
noncomputable def tT(K:Ka)(fn:Nat->List D->Option SV)(c:E):TT:=fun σ H Q=>∃W ρ b,R K W ρ σ H/\zB fn c ρ=some b/\∀H',Same H H'->Q b H'
noncomputable def FlOk(K:Ka)(W:Addr->Prop)(ρ:LW.Env)(σ:St)(W':Addr->Prop)(ρ':LW.Env)(σ':St)(H':Hp)(D:Ends):Fl->Prop
 | .nx=>D.nx σ' H'
 | .br=>D.bk σ' H'
 | .ct=>D.ct σ' H'
 | .rt r=>∀v,Ret K W ρ σ W' H' r v->D.rt v H'
noncomputable def XH(K:Ka)(ex:LW.Env->Option (Fl×LW.Env)):TS:=fun D σ H=>∃W ρ x,R K W ρ σ H/\ex ρ=some x/\∀W' σ' H',SPost K W ρ σ H W' x.2 σ' H'->FlOk K W ρ σ W' x.2 σ' H' D x.1
theorem _root_.L2.PE.imp{X:Cx}{e:Expr}{t t':TE}(h:PE X e t)(i: ∀σ H Q,t' σ H Q->t σ H Q):PE X e t':=fun pins s σ H Q I q=>h pins s σ H Q I (i σ H Q q)
theorem _root_.L2.PT.imp{X:Cx}{e:Expr}{t t':TT}(h:PT X e t)(i: ∀σ H Q,t' σ H Q->t σ H Q):PT X e t':=fun pins s σ H Q I q=>h pins s σ H Q I (i σ H Q q)
theorem _root_.L2.PW.imp{X:Cx}{e:Expr}{t t':TT}(h:PW X e t)(i: ∀σ H Q,t' σ H Q->t σ H Q):PW X e t':=fun wh pins s σ H Q I q=>h wh pins s σ H Q I (i σ H Q q)
theorem _root_.L2.PA.imp{X:Cx}{e:List Expr}{t t':TA}(h:PA X e t)(i: ∀σ H Q,t' σ H Q->t σ H Q):PA X e t':=fun pos pins s σ H Q I q=>h pos pins s σ H Q I (i σ H Q q)
theorem _root_.L2.PS.imp{X:Cx}{e:Stmt}{t t':TS}(h:PS X e t)(i: ∀D σ H,t' D σ H->t D σ H):PS X e t':=fun pins s σ H D I q=>h pins s σ H D I (i D σ H q)
theorem _root_.L2.PSs.imp{X:Cx}{e:List Stmt}{t t':TS}(h:PSs X e t)(i: ∀D σ H,t' D σ H->t D σ H):PSs X e t':=fun pins s σ H D I q=>h pins s σ H D I (i D σ H q)
end L2.LW
set_option maxHeartbeats 4000000
namespace HT
open PySem PyProof.Rows
theorem zkS:Slot "tuple" (cmpInfo .Gt).2.1 "tuple.__gt__":=
 .of (owner:="tuple") (n:="__gt__") (by rw[typeLookup_type,builtinLookup_eq_fast];kernel_rfl) (by decide+kernel) (by decide+kernel) (by decide+kernel)
  (by first|exact .inl (by decide+kernel)|exact .inr (by decide+kernel)) (by rw[isSubtype_type];kernel_rfl)
theorem zkT:entryFor table "tuple.__gt__"=some Builtin.«tuple.__gt__»:=entryFor_of_tree (by kernel_rfl)
theorem zkU(a b:Value):argsOk "tuple.__gt__" ⟨[a,b],[]⟩:=by
 unfold argsOk;rw[signature?_of (id:="tuple.__gt__") (n:=['_','_','t','g','_','_']) (o:=['e','l','p','u','t']) (by kernel_rfl) PySem.F.owner_tuple];kernel_rfl
theorem zkV(A:Around)(s:Shared)(a:Int)(t:Tok)(c:Int)(u:Tok)(prog:Program)(w:World)(E:Value->Shared->Prop)(Q:Value->Shared->Prop)(h:Q (.bool (decide (c<a))) s):
  wpAny (model prog w) A (richCompare .Gt (.int a t) (.int c u)) Q E s:=
 (PyProof.Rows.gt_int h:wpAny (model prog w) A (compareOp .Gt (.int a t) (.int c u)) Q E s)
section
open PySem.SeqAt
open PySem.AutoSeq1 (wpAny_loadPart')
open PySem.MeetsSeq PySem.MeetsSeq2 PySem.MeetsSeq3
theorem zkW(l b:Addr)(items items2:Array Value)(n n2:Nat)(dd dd2:Option Addr)(sl sl2:Array (Option Value))(ns ms:List Int)(hi:IntsAre items.toList ns)(hj:IntsAre items2.toList ms):
  Meets (Builtin.«tuple.__gt__» ⟨[.ref l,.ref b],[]⟩)
   (fun _ R s=>s.heap.get? l=some { cls:=.type "tuple",dict:=dd,data:=.seq items n,slots:=sl }/\s.heap.get? b=some { cls:=.type "tuple",dict:=dd2,data:=.seq items2 n2,slots:=sl2 }/\
    R (.ok (.ret (.bool (lexLt ms ns)))) s):=
 .of_wp fun prog w A R s h=>by
  obtain⟨hp,g,d,tk,os⟩:=s;obtain⟨hl,hb,h⟩:=h;have f2:=AutoSeq1.sub_tuple_tuple;have z1:items.size=ns.length:=by rw[<-hi.length];simp
  have z2:items2.size=ms.length:=by rw[<-hj.length];simp
  wp_walk using wpAny_loadPart' hl,wpAny_loadPart' hb,wpAny_forIn_list _ (fun zP b s'=>b.1=none/\s'=⟨hp,g,d,tk,os⟩/\∃(vs ws:List Value) (ns' ms':List Int),zP=vs.zip ws/\
   IntsAre vs ns'/\IntsAre ws ms'/\ns'.length+items2.size=ms'.length+items.size/\R (.ok (.ret (.bool (lexLt ms' ns')))) ⟨hp,g,d,tk,os⟩) _
  case turn=>
   rintro⟨y,x⟩ zP b s' ⟨hb',rfl,vs,ws,ns',ms',hz,hvi,hwi,hlen,hR⟩
   cases hvi with
   |nil=>rw[List.zip_nil_left] at hz;cases hz
   |cons a t hvi'=>
    cases hwi with
    |nil=>rw[List.zip_nil_right] at hz;cases hz
    |cons c u hwi'=>
     rw[List.zip_cons_cons] at hz;injection hz with hyx hrest;injection hyx with hy hx;subst hy hx;rw[lexLt_cons] at hR;simp only[List.length_cons] at hlen;obtain⟨e,he,hiff⟩:=zbY A.in1 ⟨hp,g,d,tk,os⟩ a t c u;refine Kb (he prog w _ _ ?_)
     cases e with
     |true=>
      rw[if_pos (hiff.mp rfl).symm] at hR
      wp_walk
      exact⟨rfl,rfl,_,_,_,_,hrest,hvi',hwi',by omega,hR⟩
     |false=>
      rw[if_neg (fun q=>KC (hiff.mpr q.symm) Km)] at hR;have hri:=zkV A.in1 ⟨hp,g,d,tk,os⟩ a t c u prog w
      wp_walk using hri
      exact⟨_,rfl,by simpa using hR⟩
  case fin=>
   rintro⟨b1,b2⟩ s' ⟨hb',rfl,vs,ws,ns',ms',hz,hvi,hwi,hlen,hR⟩;simp only at hb';subst hb'
   have hv:(lexLt ms' ns')=decide (items.size>items2.size):=by
    cases hvi with
    |nil=>
     cases hwi with
     |nil=>
      simp only[List.length_nil] at hlen;rw[zbV];exact (KH (by omega)).symm
     |cons c u hw=>
      simp only[List.length_nil,List.length_cons] at hlen;rw[zbX];exact (KH (by omega)).symm
    |cons a t hv=>
     cases hwi with
     |nil=>
      simp only[List.length_nil,List.length_cons] at hlen;rw[zbW];exact (decide_eq_true (by omega)).symm
     |cons c u hw=>
      rw[List.zip_cons_cons] at hz;cases hz
   rw[hv] at hR
   wp_walk
   exact⟨_,rfl,by simpa [Builtin.Tuple.tupleCompareSizes] using hR⟩
  case h=>
   exact⟨rfl,rfl,items.toList,items2.toList,ns,ms,rfl,hi,hj,by omega,h⟩
end
section
variable {prog:Program} {w:World} {A:Around} {E:Value->Shared->Prop} {s:Shared}
theorem gt_tupInts{l b:Addr}{items items2:Array Value}{ns ms:List Int}{Q:Value->Shared->Prop}(hl:IsTup s.heap l items)(hb:IsTup s.heap b items2)(hi:IntsAre items.toList ns)(hj:IntsAre items2.toList ms)
  (hu:A.units<cLine) (h:Q (.bool (lexLt ms ns)) s):wpAny (model prog w) A (compareOp .Gt (.ref l) (.ref b)) Q E s:=by
 obtain⟨⟨cls,dd,data,sl⟩,ho,hc,n,hd⟩:=id hl;obtain⟨⟨cls2,dd2,data2,sl2⟩,ho2,hc2,n2,hd2⟩:=id hb;simp only at hc hd hc2 hd2;subst hc hd hc2 hd2
 exact richCompare_meets_room (op:=.Gt) ⟨_,ho,rfl⟩ ⟨_,ho2,rfl⟩ zkS zkT (zkU _ _) (zkW l b items items2 n n2 dd dd2 sl sl2 ns ms hi hj)
  ⟨ho,ho2,show Value.bool (lexLt ms ns)≠Value.notImplemented/\Q (.bool (lexLt ms ns)) s from ⟨(fun x=>nomatch x),h⟩⟩ hu
end
end HT
set_option maxHeartbeats 4000000
namespace L2.LW
open PySem PySem.Spec PyProof.Rows
noncomputable def VR(K:Ka)(f:List D->Option SV)(vs:List V)(H:Hp)(Q:VK):Prop:=
 ∃W ds r,Wf W H/\Paired (Sees K W H) ds vs/\f ds=some r/\∀v H',Same H H'->Res K W H H' r v->Q v H'
noncomputable def yO(K:Ka)(f:List D->Option SV):R2:=fun x y H Q=>VR K f [x,y] H Q
noncomputable def zcx(K:Ka)(f:List D->Option SV):V->Hp->VK->Prop:=fun x H Q=>VR K f [x] H Q
theorem XI{α β:Type}{F:α->β->Prop}{ds:List α}{x:β}(h:Paired F ds [x]): ∃d,ds=[d]/\F d x:=by
 cases h with
 |cons h t=>cases t;exact⟨_,rfl,h⟩
theorem xK{α β:Type}{F:α->β->Prop}{ds:List α}{x y:β}(h:Paired F ds [x,y]): ∃d e,ds=[d,e]/\F d x/\F e y:=by
 cases h with
 |cons h t=>
  obtain⟨e,rfl,h2⟩:=XI t;exact⟨_,e,rfl,h,h2⟩
mutual
noncomputable def zZ:D->PyData
 | .int i=>.int i
 | .bl b=>.bool b
 | .non=>.none
 | .str x=>.str x
 | .tup l=>.tuple (xw l)
 | .lst l=>.list (xw l)
 | .dct _ _ _=>.dict []
noncomputable def xw:List D->List PyData
 |[]=>[]
 |x::xs=>zZ x::xw xs
end
mutual
theorem Qg: ∀d e:D,PyData.eqv (zZ d) (zZ e)=zN d e
 | .int a,e=>by cases e<;>simp[zZ,PyData.eqv,zN]
 | .bl a,e=>by cases e<;>simp[zZ,PyData.eqv,zN]
 | .non,e=>by cases e<;>simp[zZ,PyData.eqv,zN]
 | .str a,e=>by cases e<;>simp[zZ,PyData.eqv,zN]
 | .tup l,e=>by
  cases e with
  |tup m=>simp only[zZ,PyData.eqv,zN];exact qT l m
  |_=>simp[zZ,PyData.eqv,zN]
 | .lst l,e=>by
  cases e with
  |lst m=>simp only[zZ,PyData.eqv,zN];exact qT l m
  |_=>simp[zZ,PyData.eqv,zN]
 | .dct t a b,e=>by cases e<;>simp[zZ,PyData.eqv,zN]
theorem qT: ∀ds es:List D,PyData.eqvAll (xw ds) (xw es)=wI ds es
 |[],[]=>by simp[xw,PyData.eqvAll,wI]
 |[],_::_=>by simp[xw,PyData.eqvAll,wI]
 |_::_,[]=>by simp[xw,PyData.eqvAll,wI]
 |x::xs,y::ys=>by simp only[xw,PyData.eqvAll,wI];rw[Qg x y,qT xs ys]
end
theorem Zp{n:Nat}(ih: ∀d,zO n d=true->(zZ d).canLay0=true/\(zZ d).depth<=n): ∀l:List D,l.all (zO n)=true->PyData.canLayAll0 (xw l)=true/\PyData.depthAll (xw l)<=n
 |[],_=>by simp[xw,PyData.canLayAll0,PyData.depthAll]
 |x::xs,h=>by
  simp only[List.all_cons,Bool.and_eq_true] at h;obtain⟨h1,h2⟩:=ih x h.1;obtain⟨h3,h4⟩:=Zp ih xs h.2;refine⟨by simp[xw,PyData.canLayAll0,h1,h3],?_⟩;simp only[xw,PyData.depthAll];omega
theorem wu: ∀(n:Nat) (d:D),zO n d=true->(zZ d).canLay0=true/\(zZ d).depth<=n
 |_,.int _,_=>by simp[zZ,PyData.canLay0,PyData.depth]
 |_,.bl _,_=>by simp[zZ,PyData.canLay0,PyData.depth]
 |_,.non,_=>by simp[zZ,PyData.canLay0,PyData.depth]
 |_,.str _,h=>by simp[zO] at h
 |0,.dct _ _ _,h=>by simp[zO] at h
 |_+1,.dct _ _ _,h=>by simp[zO] at h
 |0,.tup _,h=>by simp[zO] at h
 |0,.lst _,h=>by simp[zO] at h
 |n+1,.tup l,h=>by
  obtain⟨h1,h2⟩:=Zp (wu n) l (by simpa [zO] using h);exact⟨by simpa [zZ,PyData.canLay0] using h1,by simp only[zZ,PyData.depth];omega⟩
 |n+1,.lst l,h=>by
  obtain⟨h1,h2⟩:=Zp (wu n) l (by simpa [zO] using h);exact⟨by simpa [zZ,PyData.canLay0] using h1,by simp only[zZ,PyData.depth];omega⟩
theorem XJ(d:D): ∀l:List D,((xw l).any fun y=>PyData.eqv y (zZ d))=l.any fun y=>zN y d
 |[]=>by simp[xw]
 |x::xs=>by simp only[xw,List.any_cons];rw[Qg x d,XJ d xs]
section
variable {X:Cx} {pins:List (Addr×Obj)} {σ:St} {H:Hp} {s:Shared} {W:Addr->Prop}
mutual
theorem Rep.reads(I:Inv X pins σ H s): ∀{n:Nat} {d:D} {x:V} {v:Value},zO n d=true->Rep X.K W H d x->RelV x v->∃as,Reads s.heap v (zZ d) as
 |_,_,_,_,_,.int i,r=>by obtain⟨t,rfl⟩:=r;exact⟨_,.int _ _⟩
 |_,_,_,_,_,.bl b,r=>by cases r;exact⟨_,.bool _⟩
 |_,_,_,_,_,.non,r=>by cases r;exact⟨_,.none⟩
 |_,_,_,_,_,.str x,r=>by obtain⟨t,rfl⟩:=r;exact⟨_,.str _ _⟩
 |0,_,_,_,n,.tup h rs,r=>by simp[zO] at n
 |0,_,_,_,n,.lst h rs,r=>by simp[zO] at n
 |_+1,_,_,_,n,.tup h rs,r=>by
  cases r;obtain⟨its,rv,⟨o,ho,hc,m,hd⟩,hz⟩:=I.tuple (.of h);obtain⟨as,q⟩:=Reps.reads I (by simpa [zO] using n) rs rv;exact⟨as,by simp only[zZ];exact .tuple ho hc hd (by simpa using q)⟩
 |_+1,_,_,_,n,.lst h rs,r=>by
  cases r;obtain⟨its,rv,⟨o,m,ho,hc,_,hd⟩,hz⟩:=I.list (show SqL X.K H _ _ from h.elim (fun z=>.inl z.2) fun z=>.inr z);obtain⟨as,q⟩:=Reps.reads I (by simpa [zO] using n) rs rv;exact⟨_,by simp only[zZ];exact .list ho hc hd (by simpa using q)⟩
 |0,_,_,_,n,.dK _ _ _ _,r=>by simp[zO] at n
 |0,_,_,_,n,.dT _ _ _ _,r=>by simp[zO] at n
 |_+1,_,_,_,n,.dK _ _ _ _,r=>by simp[zO] at n
 |_+1,_,_,_,n,.dT _ _ _ _,r=>by simp[zO] at n
theorem Reps.reads(I:Inv X pins σ H s): ∀{n:Nat} {ds:List D} {xs:List V} {vs:List Value},ds.all (zO n)=true->Reps X.K W H ds xs->Vals xs vs->∃as,ReadsAll s.heap vs (xw ds) as
 |_,_,_,_,_,.nil,r=>by cases r;exact⟨_,by simp only[xw];exact .nil⟩
 |_,_,_,_,n,.cons h t,r=>by
  cases r with
  |cons r1 r2=>
   simp only[List.all_cons,Bool.and_eq_true] at n;obtain⟨as,q1⟩:=Rep.reads I n.1 h r1;obtain⟨bs,q2⟩:=Reps.reads I n.2 t r2;exact⟨_,by simp only[xw];exact .cons q1 q2⟩
end
theorem Sees.reads(I:Inv X pins σ H s){n:Nat}{d:D}{x:V}{v:Value}(hn:zO n d=true)(h:Sees X.K W H d x)(r:RelV x v): ∃as,Reads s.heap v (zZ d) as:=by
 rcases h with h|⟨a,o,rfl,e,rs⟩
 ·exact h.reads I hn r
 ·cases r
  cases rs with
  |lst rs=>
   obtain⟨its,rv,⟨o,m,ho,hc,_,hd⟩,hz⟩:=I.list (show SqL X.K H _ _ from .of e)
   cases n with
   |zero=>simp[zO] at hn
   |succ n=>
    obtain⟨as,q⟩:=rs.reads I (n:=n) (by simpa [zO] using hn) rv;exact⟨_,by simp only[zZ];exact .list ho hc hd (by simpa using q)⟩
  |dK l r=>cases n<;>simp[zO] at hn
  |dT l r=>cases n<;>simp[zO] at hn
theorem Sees.readsL(I:Inv X pins σ H s){n:Nat}{l:List D}{x:V}{v:Value}(hn:l.all (zO n)=true)(h:Sees X.K W H (.lst l) x)(r:RelV x v): ∃as,Reads s.heap v (zZ (.lst l)) as:=
 h.reads I (n:=n+1) (by simpa [zO] using hn) r
theorem Sees.readsT(I:Inv X pins σ H s){n:Nat}{l:List D}{x:V}{v:Value}(hn:l.all (zO n)=true)(h:Sees X.K W H (.tup l) x)(r:RelV x v): ∃as,Reads s.heap v (zZ (.tup l)) as:=
 h.reads I (n:=n+1) (by simpa [zO] using hn) r
end
theorem xh{H:Hp}{p:Addr}(h:H p=Option.none)(o:HO):Same H (zF H p o):=fun b u q=>by rw[zE (jA q h)];exact q
theorem Yi{K:Ka}{W:Addr->Prop}{H:Hp}{p:Addr}{ds:List D}{xs:List V}(hp:H p=Option.none)(r:Reps K W H ds xs):Res K W H (zF H p (.lst xs)) (.lis true ds) (.ref p):=by
 refine .new hp yJ (.lst (r.ext ⟨fun a o h _=>xh hp _ a o h,fun a xs h=>xh hp _ a _ h,fun a o u h=>xh hp _ a _ h,fun a w=>?_⟩));rcases w with w|rfl
 ·exact .inl w
 ·exact .inr hp
theorem zcy{K:Ka}{W:Addr->Prop}{H:Hp}{p:Addr}{ds:List D}{xs:List V}(hp:H p=Option.none)(r:Reps K W H ds xs):Res K W H (zF H p (.tup xs)) (.val (.tup ds)) (.ref p):=
 .val (.tup yJ (r.ext (.same (xh hp _))))
section
variable {X:Cx}
theorem Yj:line=sizeLine:=by rw[sizeLine_eq];rfl
theorem Zq: ∀{l:List D} {ns:List Int},ints? l=some ns->l=ns.map D.int
 |[],ns,e=>by simp[ints?] at e;subst e;rfl
 |d::r,ns,e=>by
  cases d with
  |int i=>
   simp only[ints?,jo2] at e;obtain⟨ms,e1,rfl⟩:=e;rw[Zq e1];rfl
  |_=>simp[ints?] at e
theorem Yk(ns:List Int):(ns.map Sum.inl).map kV=ns.map V.int:=by
 rw[List.map_map];rfl
theorem Qh: ∀(a b:List Int),wI (a.map D.int) (b.map D.int)=decide (a=b)
 |[],[]=>by simp[wI]
 |[],_::_=>by simp[wI]
 |_::_,[]=>by simp[wI]
 |x::xs,y::ys=>by
  rw[Bool.eq_iff_iff];simp[wI,zN,Qh xs ys]
theorem zcz{a b:List Int}(h:(a.map Sum.inl:List zy)=b.map Sum.inl):a=b:=(List.map_inj_right (fun _ _ z=>Sum.inl.inj z)).mp h
theorem zcA(k d:D)(ks:List D):yR (d::ks) k=if zN d k then some 0 else (yR ks k).map (· +1):=by
 unfold yR;rw[List.findIdx?_cons]
theorem Qi: ∀{ns:List Int} {ys:List V},ns.length=ys.length->∀i:Int,xn (yA ns ys) (.inl i)=(yR (ns.map D.int) (.int i)).bind fun j=>ys[j]?
 |[],[],_,i=>rfl
 |n::ns,y::ys,h,i=>by
  have ih:=Qi (ns:=ns) (ys:=ys) (by simpa using h) i;show xn ((Sum.inl n,y)::yA ns ys) (.inl i)=_;rw[List.map_cons,zcA];by_cases e:n=i
  ·rw[Xk (by simp[e])];simp[zN,e]
  ·rw[Xl (by simp[e]),ih]
   have:zN (.int n) (.int i)=false:=by simp[zN,e]
   rw[this];cases yR (ns.map D.int) (.int i)<;>simp
theorem qU: ∀{ns:List (List Int)} {ys:List V},ns.length=ys.length->∀i:List Int,xn (yH ns ys) (i.map Sum.inl)=(yR (ns.map kT) (kT i)).bind fun j=>ys[j]?
 |[],[],_,i=>rfl
 |n::ns,y::ys,h,i=>by
  have ih:=qU (ns:=ns) (ys:=ys) (by simpa using h) i;show xn ((n.map Sum.inl,y)::yH ns ys) (i.map Sum.inl)=_;rw[List.map_cons,zcA];by_cases e:n=i
  ·rw[Xk (by simp[e])]
   have:zN (kT n) (kT i)=true:=by simp[kT,zN,Qh,e]
   rw[this];rfl
  ·rw[Xl (fun z=>e (zcz z)),ih]
   have:zN (kT n) (kT i)=false:=by simp[kT,zN,Qh,e]
   rw[this];cases yR (ns.map kT) (kT i)<;>simp
theorem zcB{ks:List D}{k:D}{j:Nat}(h:yR ks k=some j):j<ks.length:=by
 unfold yR at h;obtain⟨h1,_⟩:=List.findIdx?_eq_some_iff_getElem.mp h;exact h1
theorem qV{ns:List Int}{ys:List V}(h:ns.length=ys.length){i:Int}:(xn (yA ns ys) (.inl i)).isSome=(yR (ns.map D.int) (.int i)).isSome:=by
 rw[Qi h]
 cases e:yR (ns.map D.int) (.int i) with
 |none=>rfl
 |some j=>have:=zcB e;simp at this;simp;omega
theorem qW{ns:List (List Int)}{ys:List V}(h:ns.length=ys.length){i:List Int}:(xn (yH ns ys) (i.map Sum.inl)).isSome=(yR (ns.map kT) (kT i)).isSome:=by
 rw[qU h]
 cases e:yR (ns.map kT) (kT i) with
 |none=>rfl
 |some j=>have:=zcB e;simp at this;simp;omega
theorem zcC{K:Ka}{W:Addr->Prop}{H:Hp}{ns:List Int}{ys:List V}{vs:List D}{i:Int}{d:D}(h:ns.length=ys.length)(r:Reps K W H vs ys)(e:dget (ns.map D.int) vs (.int i)=some d): ∃y,xn (yA ns ys) (.inl i)=some y/\Rep K W H d y:=by
 unfold dget at e;rw[jo1] at e;obtain⟨j,e1,e2⟩:=e;obtain⟨y,e3,e4⟩:=r.get e2;exact⟨y,by rw[Qi h,e1];exact e3,e4⟩
theorem zkX{K:Ka}{W:Addr->Prop}{H:Hp}{ns:List (List Int)}{ys:List V}{vs:List D}{i:List Int}{d:D}(h:ns.length=ys.length)(r:Reps K W H vs ys)(e:dget (ns.map kT) vs (kT i)=some d): ∃y,xn (yH ns ys) (i.map Sum.inl)=some y/\Rep K W H d y:=by
 unfold dget at e;rw[jo1] at e;obtain⟨j,e1,e2⟩:=e;obtain⟨y,e3,e4⟩:=r.get e2;exact⟨y,by rw[qU h,e1];exact e3,e4⟩
theorem xF:zS X (binaryOp .Add) (yO X.K (zg .add)):=by
 rintro pins s σ H x y v u Q I rx ry ⟨W,ds,r,wf,hs,hf,q⟩;obtain⟨d,e,rfl,h1,h2⟩:=xK hs;replace hf:JQ [d,e]=some r:=hf;unfold JQ at hf;split at hf
 ·rename_i a b z;cases z;cases hf
  cases h1.int;cases h2.int;exact ziS pins s σ H _ _ v u Q I rx ry ⟨_,_,rfl,rfl,q _ H (.refl H) (.val (.int _))⟩
 ·rename_i a b z;cases z
  split at hf
  ·rename_i hl
   cases hf;obtain⟨p,xs,rfl,hp,rp⟩:=h1.lst;obtain⟨p2,xs2,rfl,hp2,rp2⟩:=h2.lst;cases rx;cases ry;obtain⟨its,rv,⟨⟨c1,d1,da1,sl1⟩,n,ho,hc,hdd,hd⟩,hz⟩:=I.list hp;obtain⟨its2,rv2,⟨⟨c2,d2,da2,sl2⟩,n2,ho2,hc2,hdd2,hd2⟩,hz2⟩:=I.list hp2;simp only at hc hd hdd hc2 hd2 hdd2;subst hc hd hdd hc2 hd2 hdd2;have l1:=rv.length;have l2:=rv2.length;have l3:=rp.length;have l4:=rp2.length;have le:=Yj;refine concat_meets ⟨_,ho,rfl⟩ ⟨_,ho2,rfl⟩ noFill_list_add seq_list_add PySem.F.slot_list_add PySem.F.entry_list_add (PySem.F.args_list_add_2 _ _) (list_addW p p2 its.toArray its2.toArray n n2 Option.none Option.none sl1 sl2 (by simp;omega)) ⟨ho,ho2,?_⟩;have e:its.toArray++its2.toArray=(its++its2).toArray:=by simp
   rw[e];exact⟨.ref _,_,I.lnew (t':=s.toks) (rv.append rv2) (by rw[List.length_append];omega),rfl,q _ _ (xh I.fresh _) (Yi I.fresh (rp.append rp2))⟩
  ·cases hf
 ·cases hf
theorem vO:zS X (binaryOp .Sub) (yO X.K (zg .sub)):=by
 rintro pins s σ H x y v u Q I rx ry ⟨W,ds,r,wf,hs,hf,q⟩;obtain⟨d,e,rfl,h1,h2⟩:=xK hs;replace hf:qI [d,e]=some r:=hf;unfold qI at hf;split at hf
 ·rename_i a b z;cases z;cases hf
  cases h1.int;cases h2.int;exact ziT pins s σ H _ _ v u Q I rx ry ⟨_,_,rfl,rfl,q _ H (.refl H) (.val (.int _))⟩
 ·cases hf
theorem Zr:zS X (binaryOp .Mult) (yO X.K (zg .mul)):=by
 rintro pins s σ H x y v u Q I rx ry ⟨W,ds,r,wf,hs,hf,q⟩;obtain⟨d,e,rfl,h1,h2⟩:=xK hs;replace hf:Xo [d,e]=some r:=hf;unfold Xo at hf;split at hf
 ·rename_i a b z;cases z
  split at hf
  ·rename_i hc
   cases hf;cases h1.int;cases h2.int;exact ziU pins s σ H _ _ v u Q I rx ry ⟨_,_,rfl,rfl,hc,q _ H (.refl H) (.val (.int _))⟩
  ·cases hf
 ·cases hf
theorem XM:zS X (binaryOp .FloorDiv) (yO X.K (zg .fdiv)):=by
 rintro pins s σ H x y v u Q I rx ry ⟨W,ds,r,wf,hs,hf,q⟩;obtain⟨d,e,rfl,h1,h2⟩:=xK hs;replace hf:JR [d,e]=some r:=hf;unfold JR at hf;split at hf
 ·rename_i a b z;cases z
  split at hf
  ·rename_i hc
   cases hf;cases h1.int;cases h2.int;exact ziV pins s σ H _ _ v u Q I rx ry ⟨_,_,rfl,rfl,hc,q _ H (.refl H) (.val (.int _))⟩
  ·cases hf
 ·cases hf
theorem ji:zS X (binaryOp .Mod) (yO X.K (zg .mod)):=by
 rintro pins s σ H x y v u Q I rx ry ⟨W,ds,r,wf,hs,hf,q⟩;obtain⟨d,e,rfl,h1,h2⟩:=xK hs;replace hf:JS [d,e]=some r:=hf;unfold JS at hf;split at hf
 ·rename_i a b z;cases z
  split at hf
  ·rename_i hc
   cases hf;cases h1.int;cases h2.int;exact ziW pins s σ H _ _ v u Q I rx ry ⟨_,_,rfl,rfl,hc,q _ H (.refl H) (.val (.int _))⟩
  ·cases hf
 ·cases hf
theorem qX:Xg X (unaryOp .USub) (zcx X.K (zg .neg)):=by
 rintro pins s σ H x v Q I rx ⟨W,ds,r,wf,hs,hf,q⟩;obtain⟨d,rfl,h1⟩:=XI hs;replace hf:qJ [d]=some r:=hf;unfold qJ at hf;split at hf
 ·rename_i a z;cases z;cases hf
  cases h1.int;exact zi2 pins s σ H _ v Q I rx ⟨_,rfl,q _ H (.refl H) (.val (.int _))⟩
 ·cases hf
theorem zcD{A:Around}(hu:A.units+64<cLine){d e:D}(h:zO 8 d=true):A.units+min (zZ d).depth (zZ e).depth<cLine:=by
 have h1:=(wu 8 d h).2;have h2:min (zZ d).depth (zZ e).depth<=(zZ d).depth:=Nat.min_le_left _ _;omega
theorem vc(hu:X.A.units+64<cLine):zS X (compareOp .Eq) (yO X.K (zg .eq)):=by
 rintro pins s σ H x y v u Q I rx ry ⟨W,ds,r,wf,hs,hf,q⟩;obtain⟨d,e,rfl,h1,h2⟩:=xK hs;replace hf:Xp [d,e]=some r:=hf;simp only[Xp] at hf;split at hf
 ·rename_i hc
  rw[Bool.and_eq_true] at hc;cases hf;obtain⟨as,ra⟩:=h1.reads I hc.1 rx;obtain⟨bs,rb⟩:=h2.reads I hc.2 ry;refine SeqAt.compareEq_reads ra rb (wu 8 d hc.1).1 (wu 8 e hc.2).1 (zcD hu hc.1) ?_;rw[Qg];exact⟨.bl _,H,I,rfl,q _ H (.refl H) (.val (.bl _))⟩
 ·cases hf
theorem XN(hu:X.A.units+64<cLine):zS X (compareOp .NotEq) (yO X.K (zg .ne)):=by
 rintro pins s σ H x y v u Q I rx ry ⟨W,ds,r,wf,hs,hf,q⟩;obtain⟨d,e,rfl,h1,h2⟩:=xK hs;replace hf:Xq [d,e]=some r:=hf;simp only[Xq] at hf;split at hf
 ·rename_i hc
  rw[Bool.and_eq_true] at hc;cases hf;obtain⟨as,ra⟩:=h1.reads I hc.1 rx;obtain⟨bs,rb⟩:=h2.reads I hc.2 ry;refine SeqAt.compareNe_reads ra rb (wu 8 d hc.1).1 (wu 8 e hc.2).1 (zcD hu hc.1) ?_;rw[Qg];exact⟨.bl _,H,I,rfl,q _ H (.refl H) (.val (.bl _))⟩
 ·cases hf
theorem Qj{A:Around}(hu:A.units+64<cLine){d:D}{l:List PyData}(h:zO 8 d=true):A.units+1+min (PyData.depthAll l) (zZ d).depth<cLine:=by
 have h1:=(wu 8 d h).2;have h2:min (PyData.depthAll l) (zZ d).depth<=(zZ d).depth:=Nat.min_le_right _ _;omega
theorem zkY(hu:X.A.units+64<cLine):zS X (compareOp .In) (yO X.K (zg .inn)):=by
 rintro pins s σ H x y v u Q I rx ry ⟨W,ds,r,wf,hs,hf,q⟩;obtain⟨d,e,rfl,h1,h2⟩:=xK hs;replace hf:Xs [d,e]=some r:=hf;unfold Xs at hf;split at hf
 ·rename_i x t ks vs z;cases z
  split at hf
  ·rename_i hk
   cases hf
   cases t with
   |false=>
    cases d with
    |int i=>
     cases h1.int;obtain⟨a,ns,ys,rfl,rfl,hH,hl,_⟩:=h2.dK;cases ry;exact zca (by omega) I (.inl ⟨_,.inl i,hH,rfl,rfl⟩) rx fun s' I'=>⟨.bl _,H,I',rfl,q _ H (.refl H) (.val (by rw[qV hl];exact .bl _))⟩
    |_=>simp[yK] at hk
   |true=>
    cases d with
    |tup l=>
     obtain⟨ms,hms⟩: ∃ms,ints? l=some ms:=by simp only[yK,Option.isSome_iff_exists] at hk;exact hk
     obtain⟨b,xs,rfl,hb,rp⟩:=h1.tupH;obtain⟨a,ns,ys,rfl,rfl,hH,hl,_⟩:=h2.dT;cases ry;have e1:=rp.ofInts hms;have e2:=Zq hms;subst e1 e2;exact zca (by omega) I (DGet.t (k:=ms.map Sum.inl) hH (by rw[hb,Yk])) rx fun s' I'=>⟨.bl _,H,I',rfl,q _ H (.refl H) (.val (by rw[qW hl];exact .bl _))⟩
    |_=>simp[yK] at hk
  ·cases hf
 ·rename_i d l z;cases z
  split at hf
  ·rename_i hc
   rw[Bool.and_eq_true] at hc;cases hf;obtain⟨as,ra⟩:=h1.reads I hc.1 rx;obtain⟨bs,rb⟩:=h2.readsT I hc.2 ry;simp only[zZ] at rb;refine SeqAt.in_tuple_reads rb ra (Zp (wu 8) l hc.2).1 (wu 8 d hc.1).1 (Qj hu hc.1) ?_;rw[XJ];exact⟨.bl _,H,I,rfl,q _ H (.refl H) (.val (.bl _))⟩
  ·cases hf
 ·rename_i d l z;cases z
  split at hf
  ·rename_i hc
   rw[Bool.and_eq_true] at hc;cases hf;obtain⟨as,ra⟩:=h1.reads I hc.1 rx;obtain⟨bs,rb⟩:=h2.readsL I hc.2 ry;simp only[zZ] at rb;refine SeqAt.in_list_reads rb ra (Zp (wu 8) l hc.2).1 (wu 8 d hc.1).1 (Qj hu hc.1) ?_;rw[XJ];exact⟨.bl _,H,I,rfl,q _ H (.refl H) (.val (.bl _))⟩
  ·cases hf
 ·cases hf
theorem jj(hu:X.A.units+64<cLine):zS X (compareOp .NotIn) (yO X.K (zg .nin)):=by
 rintro pins s σ H x y v u Q I rx ry ⟨W,ds,r,wf,hs,hf,q⟩;obtain⟨d,e,rfl,h1,h2⟩:=xK hs;replace hf:jg [d,e]=some r:=hf;unfold jg at hf;split at hf
 ·rename_i x t ks vs z;cases z
  split at hf
  ·rename_i hk
   cases hf
   cases t with
   |false=>
    cases d with
    |int i=>
     cases h1.int;obtain⟨a,ns,ys,rfl,rfl,hH,hl,_⟩:=h2.dK;cases ry;exact zcb (by omega) I (.inl ⟨_,.inl i,hH,rfl,rfl⟩) rx fun s' I'=>⟨.bl _,H,I',rfl,q _ H (.refl H) (.val (by rw[qV hl];exact .bl _))⟩
    |_=>simp[yK] at hk
   |true=>
    cases d with
    |tup l=>
     obtain⟨ms,hms⟩: ∃ms,ints? l=some ms:=by simp only[yK,Option.isSome_iff_exists] at hk;exact hk
     obtain⟨b,xs,rfl,hb,rp⟩:=h1.tupH;obtain⟨a,ns,ys,rfl,rfl,hH,hl,_⟩:=h2.dT;cases ry;have e1:=rp.ofInts hms;have e2:=Zq hms;subst e1 e2;exact zcb (by omega) I (DGet.t (k:=ms.map Sum.inl) hH (by rw[hb,Yk])) rx fun s' I'=>⟨.bl _,H,I',rfl,q _ H (.refl H) (.val (by rw[qW hl];exact .bl _))⟩
    |_=>simp[yK] at hk
  ·cases hf
 ·rename_i d l z;cases z
  split at hf
  ·rename_i hc
   rw[Bool.and_eq_true] at hc;cases hf;obtain⟨as,ra⟩:=h1.reads I hc.1 rx;obtain⟨bs,rb⟩:=h2.readsT I hc.2 ry;simp only[zZ] at rb;refine SeqAt.notIn_tuple_reads rb ra (Zp (wu 8) l hc.2).1 (wu 8 d hc.1).1 (Qj hu hc.1) ?_;rw[XJ];exact⟨.bl _,H,I,rfl,q _ H (.refl H) (.val (.bl _))⟩
  ·cases hf
 ·rename_i d l z;cases z
  split at hf
  ·rename_i hc
   rw[Bool.and_eq_true] at hc;cases hf;obtain⟨as,ra⟩:=h1.reads I hc.1 rx;obtain⟨bs,rb⟩:=h2.readsL I hc.2 ry;simp only[zZ] at rb;refine SeqAt.notIn_list_reads rb ra (Zp (wu 8) l hc.2).1 (wu 8 d hc.1).1 (Qj hu hc.1) ?_;rw[XJ];exact⟨.bl _,H,I,rfl,q _ H (.refl H) (.val (.bl _))⟩
  ·cases hf
 ·cases hf
theorem qY: ∀x y:List Int,LW.lexLt x y=HT.lexLt x y
 |[],[]=>rfl
 |[],_::_=>rfl
 |_::_,[]=>rfl
 |a::x,b::y=>by rw[HT.lexLt_cons,LW.lexLt,qY x y]
theorem Zs(hu:X.A.units+64<cLine):zS X (compareOp .Lt) (yO X.K (zg .lt)):=by
 rintro pins s σ H x y v u Q I rx ry ⟨W,ds,r,wf,hs,hf,q⟩;obtain⟨d,e,rfl,h1,h2⟩:=xK hs;replace hf:Xr [d,e]=some r:=hf;unfold Xr at hf;split at hf
 ·rename_i a b z;cases z;cases hf
  cases h1.int;cases h2.int;exact zja pins s σ H _ _ v u Q I rx ry ⟨_,_,rfl,rfl,q _ H (.refl H) (.val (.bl _))⟩
 ·rename_i a b z;cases z
  simp only[jo1] at hf;obtain⟨ns,e1,ms,e2,hf⟩:=hf;cases hf;obtain⟨p,xs,rfl,hp,rp⟩:=h1.tup;obtain⟨p2,xs2,rfl,hp2,rp2⟩:=h2.tup;rw[rp.ofInts e1] at hp;rw[rp2.ofInts e2] at hp2;refine zjH (by omega) pins s σ H _ _ v u Q I rx ry ⟨_,_,ns,ms,rfl,rfl,hp,hp2,?_⟩;rw[<-qY];exact q _ H (.refl H) (.val (.bl _))
 ·cases hf
theorem Qk:zS X (compareOp .LtE) (yO X.K (zg .le)):=by
 rintro pins s σ H x y v u Q I rx ry ⟨W,ds,r,wf,hs,hf,q⟩;obtain⟨d,e,rfl,h1,h2⟩:=xK hs;replace hf:JT [d,e]=some r:=hf;unfold JT at hf;split at hf
 ·rename_i a b z;cases z;cases hf
  cases h1.int;cases h2.int;exact zjb pins s σ H _ _ v u Q I rx ry ⟨_,_,rfl,rfl,q _ H (.refl H) (.val (.bl _))⟩
 ·cases hf
theorem zkZ(hu:X.A.units<cLine){pins:List (Addr×Obj)}{s:Shared}{σ:St}{H:Hp}{a b:Addr}{ns ms:List Int}{Q:VK}(I:Inv X pins σ H s)(ha:SqT X.K H a (ns.map V.int))(hb:SqT X.K H b (ms.map V.int))(q:Q (.bl (HT.lexLt ms ns)) H):
  wpAny (model X.prog X.w) X.A (compareOp .Gt (.ref a) (.ref b)) (EP X pins σ Q) X.xe s:=by
 obtain⟨its,r1,p1,_⟩:=I.tuple ha;obtain⟨its2,r2,p2,_⟩:=I.tuple hb;have i1:IntsAre its.toArray.toList ns:=je r1;have i2:IntsAre its2.toArray.toList ms:=je r2;exact HT.gt_tupInts p1 p2 i1 i2 hu ⟨.bl (HT.lexLt ms ns),H,I,rfl,q⟩
theorem jK(hu:X.A.units+64<cLine):zS X (compareOp .Gt) (yO X.K (zg .gt)):=by
 rintro pins s σ H x y v u Q I rx ry ⟨W,ds,r,wf,hs,hf,q⟩;obtain⟨d,e,rfl,h1,h2⟩:=xK hs;replace hf:JU [d,e]=some r:=hf;unfold JU at hf;split at hf
 ·rename_i a b z;cases z;cases hf
  cases h1.int;cases h2.int;exact zjc pins s σ H _ _ v u Q I rx ry ⟨_,_,rfl,rfl,q _ H (.refl H) (.val (.bl _))⟩
 ·rename_i a b z;cases z
  simp only[jo1] at hf;obtain⟨ns,e1,ms,e2,hf⟩:=hf;cases hf;obtain⟨p,xs,rfl,hp,rp⟩:=h1.tup;obtain⟨p2,xs2,rfl,hp2,rp2⟩:=h2.tup;rw[rp.ofInts e1] at hp;rw[rp2.ofInts e2] at hp2;cases rx;cases ry;refine zkZ (by omega) I hp hp2 ?_;rw[<-qY];exact q _ H (.refl H) (.val (.bl _))
 ·cases hf
theorem zcE{K:Ka}{W:Addr->Prop}{H:Hp}{ds:List D}{xs:List V}{i:Int}{d:D}(r:Reps K W H ds xs)(h:LW.atI ds i=some d): ∃x,L2.atI xs i=some x/\Rep K W H d x:=by
 unfold LW.atI at h;unfold L2.atI;rw[jo1] at h;obtain⟨j,h1,h2⟩:=h;obtain⟨x,e,q⟩:=r.get h2;refine⟨x,?_,q⟩;rw[<-r.length];rw[jo1];exact⟨j,h1,e⟩
theorem zcF{value slice:Expr}{pins:List (Addr×Obj)}{s:Shared}{σ:St}{H:Hp}{a:Addr}{y v:V}{u:Value}{Q:VK}(hu:X.A.units+64<cLine)(I:Inv X pins σ H s)(g:DGet H a y (some v))(ry:RelV y u)(q:Q v H)
  (hs:subscripted slice false (.ref a) u=operate [.ref a,u] (getItem (.ref a) u)):wpAny (model X.prog X.w) X.A (subscriptTail value slice (.ref a) u) (EP X pins σ Q) X.xe s:=by
 have hT:=zj0 I g;unfold subscriptTail;refine Kb ?_;rw[getitemInPython_of_ne hT.not_modules];refine Kb (wpAny_specialOf hT PySem.F.slot_dict_getitem.lookup ?_)
 have fin:wpAny (model X.prog X.w) X.A (subscripted slice false (.ref a) u) (fun r s₃=>wpAny (model X.prog X.w) X.A (letTemporaryGo value (.ref a) r >>= fun _=>pure r) (EP X pins σ Q) X.xe s₃) X.xe s:=by
  rw[hs];refine wpAny_operating (Kd (zjX (Q:=EP X pins σ Q) (by omega) I g ry fun w' s' I' rv=>⟨v,H,I',rv,q⟩) (fun r s₃ h₃=>Kb (wpAny_letTemporaryGo (Kc h₃))) fun _ _ x=>x)
 first
  |exact Kc (Kb fin)
  |exact Kb (Kc (Kb fin))
  |exact Kc (Kb (Kc (Kb fin)))
  |exact Kb (Kb (Kc fin))
theorem zk0(hu:X.A.units+64<cLine):JL X (yO X.K (zg .idx)):=by
 rintro value slice pins s σ H x y v u Q I rx ry ⟨W,ds,r,wf,hs,hf,q⟩ hsub;obtain⟨d,e,rfl,h1,h2⟩:=xK hs;replace hf:jF [d,e]=some r:=hf;unfold jF at hf;split at hf
 ·rename_i t ks vs k z;cases z
  split at hf
  ·rename_i hk
   rw[jo2] at hf;obtain⟨d',e1,rfl⟩:=hf
   cases t with
   |false=>
    cases e with
    |int i=>
     cases h2.int;obtain⟨a,ns,ys,rfl,rfl,hH,hl,rp⟩:=h1.dK;cases rx;obtain⟨y,e2,ry'⟩:=zcC hl rp e1;exact zcF hu I (by rw[<-e2];exact .inl ⟨_,.inl i,hH,rfl,rfl⟩) ry (q _ H (.refl H) (.val ry')) hsub
    |_=>simp[yK] at hk
   |true=>
    cases e with
    |tup l=>
     obtain⟨ms,hms⟩: ∃ms,ints? l=some ms:=by simp only[yK,Option.isSome_iff_exists] at hk;exact hk
     obtain⟨b,xs,rfl,hb,rpb⟩:=h2.tupH;obtain⟨a,ns,ys,rfl,rfl,hH,hl,rp⟩:=h1.dT;cases rx;have z1:=rpb.ofInts hms;have z2:=Zq hms;subst z1 z2;obtain⟨y,e2,ry'⟩:=zkX hl rp e1;exact zcF hu I (by rw[<-e2];exact DGet.t (k:=ms.map Sum.inl) hH (by rw[hb,Yk])) ry (q _ H (.refl H) (.val ry')) hsub
    |_=>simp[yK] at hk
  ·cases hf
 ·rename_i l i z;cases z
  rw[jo2] at hf;obtain⟨d,e1,rfl⟩:=hf;obtain⟨p,xs,rfl,hp,rp⟩:=h1.tup;cases h2.int;obtain⟨z,e2,rz⟩:=zcE rp e1;exact zjN value slice pins s σ H _ _ v u Q I rx ry ⟨p,xs,i,z,rfl,rfl,hp,e2,q _ H (.refl H) (.val rz)⟩ hsub
 ·rename_i l i z;cases z
  rw[jo2] at hf;obtain⟨d,e1,rfl⟩:=hf;obtain⟨p,xs,rfl,hp,rp⟩:=h1.lst;cases h2.int;obtain⟨z,e2,rz⟩:=zcE rp e1;exact zjM value slice pins s σ H _ _ v u Q I rx ry ⟨p,xs,i,z,rfl,rfl,hp,e2,q _ H (.refl H) (.val rz)⟩ hsub
 ·cases hf
theorem yV:xt X (.builtin "len") (VR X.K (zg .len)):=by
 rintro pins s σ H xs us Q I rv ⟨W,ds,r,wf,hs,hf,q⟩;replace hf:qK ds=some r:=hf;unfold qK at hf;split at hf
 ·cases hf
  cases hs with
  |cons h1 t=>
   cases t;obtain⟨p,ys,rfl,hp,rp⟩:=h1.tup;refine zb2 pins s σ H _ us Q I rv ⟨p,ys,rfl,.inr hp,?_⟩;rw[<-rp.length];exact q _ H (.refl H) (.val (.int _))
 ·cases hf
  cases hs with
  |cons h1 t=>
   cases t;obtain⟨p,ys,rfl,hp,rp⟩:=h1.lst;refine zb2 pins s σ H _ us Q I rv ⟨p,ys,rfl,.inl hp,?_⟩;rw[<-rp.length];exact q _ H (.refl H) (.val (.int _))
 ·cases hf
theorem XO:xt X (.builtin "abs") (VR X.K (zg .abs)):=by
 rintro pins s σ H xs us Q I rv ⟨W,ds,r,wf,hs,hf,q⟩;replace hf:qL ds=some r:=hf;unfold qL at hf;split at hf
 ·cases hf
  cases hs with
  |cons h1 t=>
   cases t;cases h1.int;exact zjj pins s σ H _ us Q I rv ⟨_,rfl,q _ H (.refl H) (.val (.int _))⟩
 ·cases hf
theorem zk1(hc:X.calm=true):xt X (.builtin "min") (VR X.K (zg .min2)):=by
 rintro pins s σ H xs us Q I rv ⟨W,ds,r,wf,hs,hf,q⟩;replace hf:qM ds=some r:=hf;unfold qM at hf;split at hf
 ·cases hf
  cases hs with
  |cons h1 t=>
   cases t with
   |cons h2 t=>
    cases t;cases h1.int;cases h2.int;exact zjl hc pins s σ H _ us Q I rv ⟨_,_,rfl,q _ H (.refl H) (.val (.int _))⟩
 ·cases hf
theorem zk2(hc:X.calm=true):xt X (.builtin "max") (VR X.K (zg .max2)):=by
 rintro pins s σ H xs us Q I rv ⟨W,ds,r,wf,hs,hf,q⟩;replace hf:qO ds=some r:=hf;unfold qO at hf;split at hf
 ·cases hf
  cases hs with
  |cons h1 t=>
   cases t with
   |cons h2 t=>
    cases t;cases h1.int;cases h2.int;exact zjk hc pins s σ H _ us Q I rv ⟨_,_,rfl,q _ H (.refl H) (.val (.int _))⟩
 ·cases hf
theorem zcG:xt X (.type "tuple") (VR X.K (zg .toTup)):=by
 rintro pins s σ H xs us Q I rv ⟨W,ds,r,wf,hs,hf,q⟩;replace hf:qQ ds=some r:=hf;unfold qQ at hf;split at hf
 ·cases hf
  cases hs with
  |cons h1 t=>
   cases t;obtain⟨p,ys,rfl,hp,rp⟩:=h1.tupH;exact zb3 pins s σ H _ us Q I rv ⟨p,ys,rfl,.inr ⟨.of hp,q _ H (.refl H) (.val (.tup hp rp))⟩⟩
 ·cases hf
  cases hs with
  |cons h1 t=>
   cases t;obtain⟨p,ys,rfl,hp,rp⟩:=h1.lst;exact zb3 pins s σ H _ us Q I rv ⟨p,ys,rfl,.inl ⟨hp,fun l hl=>q _ _ (xh hl _) (zcy hl rp)⟩⟩
 ·cases hf
end
end L2.LW
set_option maxHeartbeats 4000000
namespace L2.LW
open PySem PySem.Spec PyProof.Rows
structure IE (X:Cx)(fn:Nat->List D->Option SV)(e:Expr)(c:E):Prop where
 h:PE X e (tE X.K fn c)
structure IA (X:Cx)(fn:Nat->List D->Option SV)(es:List Expr)(cs:Es):Prop where
 h:PA X es (zcw X.K fn cs)
structure IT (X:Cx)(fn:Nat->List D->Option SV)(e:Expr)(c:E):Prop where
 h:PT X e (tT X.K fn c)
structure IW (X:Cx)(fn:Nat->List D->Option SV)(e:Expr)(c:E):Prop where
 h:PW X e (tT X.K fn c)
theorem Res.back{K:Ka}{W:Addr->Prop}{H H1 H2:Hp}{r:SV}{v:V}(h:Res K W H1 H2 r v)(s:Same H H1):Res K W H H2 r v:=by
 cases h with
 |val h=>exact .val h
 |new h e r=>exact .new (s.free h) e r
 |see h e r=>exact .see h e r
theorem R.wf'{K:Ka}{W:Addr->Prop}{ρ:LW.Env}{σ:St}{H H':Hp}(r:R K W ρ σ H)(s:Same H H'):Wf W H':=(r.same s).wf
theorem qZ{K:Ka}{W:Addr->Prop}{H:Hp}: ∀{rs:List SV} {vs:List V},Paired (Frz K W H) rs vs->Paired (Sees K W H) (rs.map zI) vs
 |_,_,.nil=>.nil
 |_,_,.cons h t=>.cons h.sees (qZ t)
theorem ga{K:Ka}{W:Addr->Prop}{H:Hp}: ∀{rs:List SV} {vs:List V} {ds:List D},Paired (Frz K W H) rs vs->xX rs=some ds->Reps K W H ds vs
 |_,_,_,.nil,e=>by simp[xX] at e;subst e;exact .nil
 |_,_,_,.cons h t,e=>by
  simp only[xX,jo1,jo2] at e;obtain⟨d,e1,ds,e2,rfl⟩:=e;exact .cons (h.toD e1) (ga t e2)
section
variable {es:List Expr} {env:PySem.Env}
theorem zb{a b}:starEach (.Name a b::es) env=(false,eval (.Name a b) env)::starEach es env:=rfl
theorem zq{a b c}:starEach (.Constant a b c::es) env=(false,eval (.Constant a b c) env)::starEach es env:=rfl
theorem yW{a b c d}:starEach (.BinOp a b c d::es) env=(false,eval (.BinOp a b c d) env)::starEach es env:=rfl
theorem yd{a b c d}:starEach (.Call a b c d::es) env=(false,eval (.Call a b c d) env)::starEach es env:=rfl
theorem yB{a b c}:starEach (.Subscript a b c::es) env=(false,eval (.Subscript a b c) env)::starEach es env:=rfl
theorem xq{a b c}:starEach (.Tuple a b c::es) env=(false,eval (.Tuple a b c) env)::starEach es env:=rfl
theorem zk3{a b c}:starEach (.Dict a b c::es) env=(false,eval (.Dict a b c) env)::starEach es env:=rfl
theorem zk4{a b}:starEach (.List a b::es) env=(false,eval (.List a b) env)::starEach es env:=rfl
theorem vP{a b c d}:starEach (.ListComp a b c d::es) env=(false,eval (.ListComp a b c d) env)::starEach es env:=rfl
theorem zm{pos:Pos}:(backTo pos (starEach [] env)).any (·.1)=false:=rfl
theorem zo{pos:Pos}{e:Expr}(h:starEach (e::es) env=(false,eval e env)::starEach es env)(t:(backTo pos (starEach es env)).any (·.1)=false):(backTo pos (starEach (e::es) env)).any (·.1)=false:=by
 rw[h];simpa [backTo] using t
theorem zk5{a b}: ∀whole,isTrue (.Name a b) env whole=(do let v <-whole;standAt (Expr.Name a b).pos;holding [v] (truthy v)):=fun _=>rfl
theorem vd{a b c d}: ∀whole,isTrue (.Call a b c d) env whole=(do let v <-whole;standAt (Expr.Call a b c d).pos;holding [v] (truthy v)):=fun _=>rfl
end
section
variable {X:Cx} {fn:Nat->List D->Option SV} {a b c e:Expr} {ca cb cc ce:E} {es:List Expr} {cs:Es} {pos p:Pos} {x:Str}
theorem IE.v(h:IE X fn e ce):PE X e (tV X.K fn ce):=h.h.imp fun σ H Q ⟨W,ρ,r,hR,he,q⟩=>⟨W,ρ,r,hR,he,fun v H' s x=>q v H' s (x.frz hR.wf)⟩
theorem zj{i:Int}{j:Nat}:IE X fn (.Constant (.int i) j pos) (.int i):=.mk <| zh4.imp fun σ H Q zz3=>by
 obtain⟨W,ρ,r,hR,he,q⟩:=zz3;simp only[zck] at he;cases he;exact q _ H (.refl H) (.val (.int i))
theorem ve{i:Bool}{j:Nat}:IE X fn (.Constant (.bool i) j pos) (.bl i):=.mk <| zh5.imp fun σ H Q zz3=>by
 obtain⟨W,ρ,r,hR,he,q⟩:=zz3;simp only[zkj] at he;cases he;exact q _ H (.refl H) (.val (.bl i))
theorem Ql{j:Nat}:IE X fn (.Constant .none j pos) .non:=.mk <| zh6.imp fun σ H Q zz3=>by
 obtain⟨W,ρ,r,hR,he,q⟩:=zz3;simp only[zkk] at he;cases he;exact q _ H (.refl H) (.val .non)
theorem gb{i:Str}{j:Nat}:IE X fn (.Constant (.str i) j pos) (.str i):=.mk <| zh7.imp fun σ H Q zz3=>by
 obtain⟨W,ρ,r,hR,he,q⟩:=zz3;simp only[zkl] at he;cases he;exact q _ H (.refl H) (.val (.str i))
theorem zd(i:Nat)(hN:X.N[i]? =some x)(hv:wq X.env.scope x)(hd:(x==("__debug__":Str))=false:=by decide)(hcd:(x==("__classdict__":Str))=false:=by decide):IE X fn (.Name x pos) (.var i):=
 .mk <| (vG hN hv hd hcd).imp fun σ H Q zz3=>by
  obtain⟨W,ρ,r,hR,he,q⟩:=zz3;simp only[zkm] at he;obtain⟨v,h1,_,h3⟩:=hR.look he;exact⟨v,h1,q v H (.refl H) h3⟩
theorem Zt{i:Int}{t:Tok}(hg:Gl X x)(hm:X.mg x=some (.int i t))(hd:(x==("__debug__":Str))=false:=by decide):IE X fn (.Name x pos) (.int i):=
 .mk <| (zh8 hg hm (v:=.int i) ⟨t,rfl⟩ hd).imp fun σ H Q zz3=>by
  obtain⟨W,ρ,r,hR,he,q⟩:=zz3;simp only[zck] at he;cases he;exact q _ H (.refl H) (.val (.int i))
theorem zi:IA X fn [] .nil:=.mk <| Zk.imp fun σ H Q zz3=>by
 obtain⟨W,ρ,rs,hR,he,q⟩:=zz3;simp only[xY] at he;cases he;exact q _ H (.refl H) .nil
theorem ze(ha:IE X fn e ce)(hr:IA X fn es cs)(hs:starEach (e::es) X.env=(false,eval e X.env)::starEach es X.env:=by rfl):IA X fn (e::es) (.cons ce cs):=
 .mk <| (vp ha.v hr.h hs).imp fun σ H Q zz3=>by
  obtain⟨W,ρ,rs,hR,he,q⟩:=zz3;simp only[xZ,jo1,jo2] at he;obtain⟨r,e1,rs',e2,rfl⟩:=he;exact⟨W,ρ,r,hR,e1,fun v H1 s1 f1=>⟨W,ρ,rs',hR.same s1,e2,fun vs H2 s2 f2=>q _ H2 (s1.trans s2) (.cons (f1.same s2) f2)⟩⟩
theorem XQ{K:Ka}{p:Prim}{W:Addr->Prop}{ρ:LW.Env}{σ:St}{H H1:Hp}{Q:VK}{rs:List SV}{vs:List V}{r:SV}(hR:R K W ρ σ H)(s1:Same H H1)(f:Paired (Frz K W H1) rs vs)
  (e:zg p (rs.map zI)=some r) (q: ∀v H',Same H H'->Res K W H H' r v->Q v H'):VR K (zg p) vs H1 Q:=
 ⟨W,rs.map zI,r,hR.wf' s1,qZ f,e,fun v H' s2 h=>q v H' (s1.trans s2) (h.back s1)⟩
theorem Qm{K:Ka}{p:Prim}{ρ:LW.Env}{σ:St}{H:Hp}{Q:VK}{W:Addr->Prop}{r:SV}(hR:R K W ρ σ H)(he:zk fn (.prim p (.cons ca (.cons cb .nil))) ρ=some r)(q: ∀v H',Same H H'->Res K W H H' r v->Q v H'):
  Xh (yO K (zg p)) (tV K fn ca) (tV K fn cb) σ H Q:=by
 simp only[wZ,xY,xZ,jo1,jo2] at he;obtain⟨rs,⟨r1,e1,rs',⟨r2,e2,rs'',e3,rfl⟩,rfl⟩,e4⟩:=he;cases e3;exact⟨W,ρ,r1,hR,e1,fun v1 H1 s1 f1=>⟨W,ρ,r2,hR.same s1,e2,fun v2 H2 s2 f2=>XQ hR (s1.trans s2) (.cons (f1.same s2) (.cons f2 .nil)) e4 q⟩⟩
theorem zG{op:Operator}{pr:Prim}(ho:zS X (binaryOp op) (yO X.K (zg pr)))(ha:IE X fn a ca)(hb:IE X fn b cb):IE X fn (.BinOp a op b pos) (.prim pr (.cons ca (.cons cb .nil))):=
 .mk <| (ziO ho ha.v hb.v).imp fun σ H Q ⟨W,ρ,r,hR,he,q⟩=>Qm hR he q
theorem gc{op:UnaryOp}{pr:Prim}(ho:Xg X (unaryOp op) (zcx X.K (zg pr)))(ha:IE X fn a ca):IE X fn (.UnaryOp op a pos) (.prim pr (.cons ca .nil)):=
 .mk <| (ziP ho ha.v).imp fun σ H Q zz3=>by
  obtain⟨W,ρ,r,hR,he,q⟩:=zz3;simp only[wZ,xY,xZ,jo1,jo2] at he;obtain⟨rs,⟨r1,e1,rs',e3,rfl⟩,e4⟩:=he;cases e3;exact⟨W,ρ,r1,hR,e1,fun v1 H1 s1 f1=>XQ hR s1 (.cons f1 .nil) e4 q⟩
theorem Zu{op:CmpOp}{pr:Prim}(ho:zS X (compareOp op) (yO X.K (zg pr)))(ha:IE X fn a ca)(hb:IE X fn b cb)(hm:behindInMarks op b=false):IE X fn (.Compare a [op] [b] pos) (.prim pr (.cons ca (.cons cb .nil))):=
 .mk <| (zjd ho ha.v hb.v hm).imp fun σ H Q ⟨W,ρ,r,hR,he,q⟩=>Qm hR he q
theorem zY(hu:X.A.units+64<cLine)(ha:IE X fn a ca)(hb:IE X fn b cb)(hs:zb1 b):IE X fn (.Subscript a b pos) (.prim .idx (.cons ca (.cons cb .nil))):=
 .mk <| (zjJ (zk0 hu) ha.v hb.v hs).imp fun σ H Q ⟨W,ρ,r,hR,he,q⟩=>Qm hR he q
theorem zcH{K:Ka}{pr:Prim}{ρ:LW.Env}{σ:St}{H:Hp}{Q:VK}{W:Addr->Prop}{r:SV}(hR:R K W ρ σ H)(he:zk fn (.prim pr cs) ρ=some r)(q: ∀v H',Same H H'->Res K W H H' r v->Q v H'):
  qB (VR K (zg pr)) (zcw K fn cs) σ H Q:=by
 simp only[wZ,jo1] at he;obtain⟨rs,e1,e2⟩:=he;exact⟨W,ρ,rs,hR,e1,fun vs H1 s1 f=>XQ hR s1 f e2 q⟩
theorem ym{id:String}{pr:Prim}(hc:xt X (.builtin id) (VR X.K (zg pr)))(hg:Gl X x)(hm:X.mg x=none)(hv:bootBuiltins x=some (.builtin id))(ha:IA X fn (e::es) cs)(hn:x≠"__name__":=by decide)(hdb:(x==("__debug__":Str))=false:=by decide)
  (he:starEach (e::es) X.env=(false,eval e X.env)::starEach es X.env:=by rfl) (hpl:(backTo pos (starEach es X.env)).any (·.1)=false:=by rfl):IE X fn (.Call (.Name x p) (e::es) [] pos) (.prim pr cs):=
 .mk <| (qD hc hg hm hv ha.h hn hdb he hpl).imp fun σ H Q ⟨W,ρ,r,hR,h,q⟩=>zcH hR h q
theorem zcI{T:String}{pr:Prim}(hc:xt X (.type T) (VR X.K (zg pr)))(hg:Gl X x)(hm:X.mg x=none)(hv:bootBuiltins x=some (.type T))(ha:IA X fn (e::es) cs)(hn:x≠"__name__":=by decide)(hdb:(x==("__debug__":Str))=false:=by decide)
  (he:starEach (e::es) X.env=(false,eval e X.env)::starEach es X.env:=by rfl) (hpl:(backTo pos (starEach es X.env)).any (·.1)=false:=by rfl):IE X fn (.Call (.Name x p) (e::es) [] pos) (.prim pr cs):=
 .mk <| (zjw hc hg hm hv ha.h hn hdb he hpl).imp fun σ H Q ⟨W,ρ,r,hR,h,q⟩=>zcH hR h q
theorem gf{K:Ka}{W:Addr->Prop}{H:Hp}: ∀{rs:List SV} {ds:List D},xX rs=some ds->ds.length=rs.length
 |[],_,e=>by simp[xX] at e;subst e;rfl
 |r::rs,_,e=>by
  simp only[xX,jo1,jo2] at e;obtain⟨d,e1,ds,e2,rfl⟩:=e;simp[gf (K:=K) (W:=W) (H:=H) e2]
noncomputable def XR:Es->Nat
 | .nil=>0
 | .cons _ r=>XR r+1
theorem gg: ∀{cs:Es} {ρ:LW.Env} {rs:List SV},yi fn cs ρ=some rs->rs.length=XR cs
 | .nil,_,_,e=>by simp only[xY] at e;cases e;rfl
 | .cons c cs,_,_,e=>by
  simp only[xZ,jo1,jo2] at e;obtain⟨r,e1,rs',e2,rfl⟩:=e;simp[XR,gg e2]
theorem yL{k:Nat}(h:IA X fn es cs)(hl:XR cs<=1000:=by decide):IE X fn (.Tuple es k pos) (.tup cs):=
 .mk <| (zjq h.h).imp fun σ H Q zz3=>by
  obtain⟨W,ρ,r,hR,he,q⟩:=zz3;simp only[zkn,jo1,jo2] at he;obtain⟨rs,e1,ds,e2,rfl⟩:=he;refine⟨W,ρ,rs,hR,e1,fun vs H1 s1 f=>?_⟩;have r1:=ga f e2;have l1:=r1.length;have l2:=gf (K:=X.K) (W:=W) (H:=H) e2;have l3:=gg e1;exact⟨Nat.le_of_lt (Xn (by omega)),fun p hp=>q _ _ (s1.trans (xh hp _)) ((zcy hp r1).back s1)⟩
theorem we(h:IA X fn es cs)(hl:XR cs<=1000:=by decide):IE X fn (.List es pos) (.lst cs):=
 .mk <| (zjr h.h).imp fun σ H Q zz3=>by
  obtain⟨W,ρ,r,hR,he,q⟩:=zz3;simp only[zko,jo1,jo2] at he;obtain⟨rs,e1,ds,e2,rfl⟩:=he;refine⟨W,ρ,rs,hR,e1,fun vs H1 s1 f=>?_⟩;have r1:=ga f e2;have l1:=r1.length;have l2:=gf (K:=X.K) (W:=W) (H:=H) e2;have l3:=gg e1;exact⟨Nat.le_of_lt (Xn (by omega)),fun p hp=>q _ _ (s1.trans (xh hp _)) ((Yi hp r1).back s1)⟩
theorem XS{op:BoolOp}(h:IE X fn a ca):IE X fn (.BoolOp op [a] pos) ca:=.mk (zil h.h)
theorem Zv{zP:List Expr}(ha:IE X fn a ca)(hb:IE X fn (.BoolOp .And (b::zP) pos) cb):IE X fn (.BoolOp .And (a::b::zP) pos) (.and ca cb):=
 .mk <| (zim ha.h hb.h).imp fun σ H Q zz3=>by
  obtain⟨W,ρ,r,hR,he,q⟩:=zz3;simp only[zkp,jo1] at he;obtain⟨r1,e1,e2⟩:=he;refine⟨W,ρ,r1,hR,e1,fun v H1 s1 f=>?_⟩;split at e2
  ·cases f with
   |val h=>
    cases h;exact⟨true,rfl,by rw[if_pos rfl];exact⟨W,ρ,r,hR.same s1,e2,fun v H2 s2 h=>q v H2 (s1.trans s2) (h.back s1)⟩⟩
  ·cases f with
   |val h=>
    cases h;cases e2;exact⟨false,rfl,by rw[if_neg Km];exact q _ H1 s1 (.val (.bl false))⟩
  ·cases e2
theorem zk6{op op':CmpOp}{p q:Prim}(ho:zS X (compareOp op) (yO X.K (zg p)))(ho':zS X (compareOp op') (yO X.K (zg q)))(ha:IE X fn a ca)(hb:IE X fn b cb)(hc:IE X fn c cc)
  (hm:lastMarks [op,op'] [b,c]=false:=by with_unfolding_all rfl):IE X fn (.Compare a [op,op'] [b,c] pos) (.chain p q ca cb cc):=
 .mk <| (zjf ho ho' ha.v hb.v hc.v hm).imp fun σ H Q zz3=>by
  obtain⟨W,ρ,r,hR,he,hq⟩:=zz3;simp only[zkq,jo1] at he;obtain⟨r1,e1,r2,e2,z,e3,e4⟩:=he;refine⟨W,ρ,r1,hR,e1,fun v1 H1 s1 f1=>⟨W,ρ,r2,hR.same s1,e2,fun v2 H2 s2 f2=>?_⟩⟩;refine⟨W,_,z,hR.wf' (s1.trans s2),.cons (f1.same s2).sees (.cons f2.sees .nil),e3,fun v H3 s3 h3=>?_⟩;split at e4
  ·cases h3 with
   |val h3=>
    cases h3;simp only[jo1] at e4;obtain⟨r3,e5,e6⟩:=e4;refine⟨true,rfl,?_⟩;rw[if_pos rfl];have s13:=(s1.trans s2).trans s3;refine⟨W,ρ,r3,hR.same s13,e5,fun v4 H4 s4 f4=>?_⟩;exact⟨W,_,r,hR.wf' (s13.trans s4),.cons ((f2.same s3).same s4).sees (.cons f4.sees .nil),e6,fun v5 H5 s5 h5=>hq v5 H5 (s13.trans (s4.trans s5)) (h5.back (s13.trans s4))⟩
  ·cases h3 with
   |val h3=>
    cases h3;cases e4;exact⟨false,rfl,by rw[if_neg Km];exact hq _ H3 ((s1.trans s2).trans s3) (.val (.bl false))⟩
  ·cases e4
theorem IW.t(h:IW X fn e ce):IT X fn e ce:=.mk (PW.pt h.h)
theorem gh(h:IT X fn a ca):IW X fn (.BoolOp .And [a] pos) ca:=.mk (zih h.h)
theorem Zw(h:IT X fn a ca):IW X fn (.BoolOp .Or [a] pos) ca:=.mk (zbB h.h)
theorem gk{zP:List Expr}(ha:IT X fn a ca)(hb:IW X fn (.BoolOp .And (b::zP) pos) cb):IW X fn (.BoolOp .And (a::b::zP) pos) (.and ca cb):=
 .mk <| (zii ha.h hb.h).imp fun σ H Q zz3=>by
  obtain⟨W,ρ,k,hR,he,q⟩:=zz3;simp only[zkt,jo1] at he;obtain⟨k1,e1,e2⟩:=he;refine⟨W,ρ,k1,hR,e1,fun H1 s1=>?_⟩
  cases k1 with
  |true=>rw[if_pos rfl] at e2⊢;exact⟨W,ρ,k,hR.same s1,e2,fun H2 s2=>q H2 (s1.trans s2)⟩
  |false=>rw[if_neg Km] at e2⊢;cases e2;exact q H1 s1
theorem Zx{zP:List Expr}(ha:IT X fn a ca)(hb:IW X fn (.BoolOp .Or (b::zP) pos) cb):IW X fn (.BoolOp .Or (a::b::zP) pos) (.or ca cb):=
 .mk <| (zbC ha.h hb.h).imp fun σ H Q zz3=>by
  obtain⟨W,ρ,k,hR,he,q⟩:=zz3;simp only[zku,jo1] at he;obtain⟨k1,e1,e2⟩:=he;refine⟨W,ρ,k1,hR,e1,fun H1 s1=>?_⟩
  cases k1 with
  |true=>rw[if_pos rfl] at e2⊢;cases e2;exact q H1 s1
  |false=>rw[if_neg Km] at e2⊢;exact⟨W,ρ,k,hR.same s1,e2,fun H2 s2=>q H2 (s1.trans s2)⟩
theorem jL(ha:IT X fn a ca):IT X fn (.UnaryOp .Not a pos) (.not ca):=
 .mk <| (zij ha.h).imp fun σ H Q zz3=>by
  obtain⟨W,ρ,k,hR,he,q⟩:=zz3;simp only[zkv,jo2] at he;obtain⟨k1,e1,rfl⟩:=he;exact⟨W,ρ,k1,hR,e1,fun H1 s1=>q H1 s1⟩
noncomputable def Qn:Prim->Bool
 | .eq=>true| .ne=>true| .lt=>true| .le=>true| .gt=>true| .inn=>true| .nin=>true| .isN=>true| .notN=>true| .neS=>true
 |_=>false
theorem gn{b:Bool}{r:SV}(h:yN b=some r):r= .val (.bl b):=by cases h;rfl
theorem zcJ{p:Prim}(hp:Qn p=true){ds:List D}{r:SV}(h:zg p ds=some r): ∃b,r= .val (.bl b):=by
 cases p<;>first|cases hp|skip
 all_goals
  simp only[zg] at h
  first|unfold JW at h|unfold Xp at h|unfold Xq at h|unfold Xr at h|unfold JT at h|unfold JU at h|unfold Xs at h|unfold jg at h|unfold zch at h|unfold zci at h
  split at h
  all_goals first
   |exact⟨_,gn h⟩
   |cases h
   |(split at h<;>first|exact⟨_,gn h⟩|cases h)
   |(simp only[jo1] at h;obtain⟨_,_,_,_,h⟩:=h;exact⟨_,gn h⟩)
theorem yp{op:CmpOp}{pr:Prim}(hp:Qn pr=true)(ho:zS X (compareOp op) (yO X.K (zg pr)))(ha:IE X fn a ca)(hb:IE X fn b cb)(hm:behindInMarks op b=false):IT X fn (.Compare a [op] [b] pos) (.prim pr (.cons ca (.cons cb .nil))):=
 .mk <| (zje ho ha.v hb.v hm).imp fun σ H Q zz3=>by
  obtain⟨W,ρ,k,hR,he,q⟩:=zz3
  have he':(zk fn (.prim pr (.cons ca (.cons cb .nil))) ρ).bind yG=some k:=by
   rw[Qf] at he;rw[wZ];simp only[jo1] at he⊢;obtain⟨rs,e1,r,e2,e3⟩:=he;exact⟨r,⟨rs,e1,e2⟩,e3⟩
  rw[jo1] at he';obtain⟨r,e1,e2⟩:=he';have e1':=e1;rw[wZ] at e1';simp only[jo1] at e1';obtain⟨rs,_,e3⟩:=e1';obtain⟨b,rfl⟩:=zcJ hp e3;simp only[yG] at e2;cases e2
  exact Qm hR e1 fun v H' s h=>by
   cases h with
   |val h=>cases h;exact⟨_,rfl,q H' s⟩
theorem zk7{op op':CmpOp}{p q:Prim}(hp:Qn p=true)(hq':Qn q=true)(ho:zS X (compareOp op) (yO X.K (zg p)))(ho':zS X (compareOp op') (yO X.K (zg q)))(ha:IE X fn a ca)(hb:IE X fn b cb)(hc:IE X fn c cc)
  (hm:lastMarks [op,op'] [b,c]=false:=by with_unfolding_all rfl):IT X fn (.Compare a [op,op'] [b,c] pos) (.chain p q ca cb cc):=
 .mk <| (zjg ho ho' ha.v hb.v hc.v hm).imp fun σ H Q zz3=>by
  obtain⟨W,ρ,k,hR,he,hq⟩:=zz3;simp only[zkx,jo1] at he;obtain⟨r1,e1,r2,e2,z,e3,e4⟩:=he;refine⟨W,ρ,r1,hR,e1,fun v1 H1 s1 f1=>⟨W,ρ,r2,hR.same s1,e2,fun v2 H2 s2 f2=>?_⟩⟩;refine⟨W,_,z,hR.wf' (s1.trans s2),.cons (f1.same s2).sees (.cons f2.sees .nil),e3,fun v H3 s3 h3=>?_⟩;split at e4
  ·cases h3 with
   |val h3=>
    cases h3;simp only[jo1] at e4;obtain⟨r3,e5,r4,e6,e7⟩:=e4;refine⟨true,rfl,?_⟩;rw[if_pos rfl];have s13:=(s1.trans s2).trans s3;refine⟨W,ρ,r3,hR.same s13,e5,fun v4 H4 s4 f4=>?_⟩;refine⟨W,_,r4,hR.wf' (s13.trans s4),.cons ((f2.same s3).same s4).sees (.cons f4.sees .nil),e6,fun v5 H5 s5 h5=>?_⟩;obtain⟨b5,rfl⟩:=zcJ hq' e6;simp only[yG] at e7;cases e7
    cases h5 with
    |val h5=>cases h5;exact⟨_,rfl,hq H5 (s13.trans (s4.trans s5))⟩
  ·cases h3 with
   |val h3=>
    cases h3;cases e4;exact⟨false,rfl,by rw[if_neg Km];exact⟨false,rfl,hq H3 ((s1.trans s2).trans s3)⟩⟩
  ·cases e4
theorem zcK{K:Ka}{W:Addr->Prop}{H:Hp}{r:SV}{v:V}{k:Bool}(f:Frz K W H r v)(h:yG r=some k):qy K v H k:=by
 unfold yG at h;split at h
 ·cases h;cases f with|val f=>cases f;rfl
 ·cases h;cases f with|val f=>cases f;rfl
 ·cases h;cases f with|val f=>cases f;rfl
 ·rename_i l
  cases h;obtain⟨a,xs,rfl,hq,rp⟩:=Frz.sees f |>.tup;refine .inr (.inl ⟨xs,hq,?_⟩);cases rp<;>rfl
 ·cases h
  obtain⟨a,xs,rfl,hq,rp⟩:=Frz.sees f |>.lst;refine .inl ⟨xs,hq,?_⟩;cases rp<;>rfl
 ·cases h
  obtain⟨a,xs,rfl,hq,rp⟩:=Frz.sees f |>.lst;refine .inl ⟨xs,hq,?_⟩;cases rp<;>rfl
 ·cases h
theorem wP(hE:IE X fn e ce)(hev: ∀ρ,zB fn ce ρ=(zk fn ce ρ).bind yG)(he: ∀whole,isTrue e X.env whole=(do let v <-whole;standAt e.pos;holding [v] (truthy v)):=by intro _;rfl):IT X fn e ce:=
 .mk <| (zbO hE.v he).imp fun σ H Q zz3=>by
  obtain⟨W,ρ,k,hR,ht,q⟩:=zz3;rw[hev,jo1] at ht;obtain⟨r,e1,e2⟩:=ht;exact⟨W,ρ,r,hR,e1,fun v H1 s1 f=>⟨k,zcK f e2,q H1 s1⟩⟩
theorem zk8(i:Nat): ∀ρ,zB fn (.var i) ρ=(zk fn (.var i) ρ).bind yG:=fun ρ=>id rfl
theorem gp(p:Prim)(cs:Es): ∀ρ,zB fn (.prim p cs) ρ=(zk fn (.prim p cs) ρ).bind yG:=fun ρ=>by rw[Qf,wZ,Option.bind_assoc]
theorem jM(f:Nat)(cs:Es): ∀ρ,zB fn (.call f cs) ρ=(zk fn (.call f cs) ρ).bind yG:=fun ρ=>by rw[zky,zcl,Option.bind_assoc]
end
end L2.LW
set_option maxHeartbeats 4000000
namespace L2.LW
open PySem PySem.Spec PyProof.Rows
noncomputable def gr(K:Ka)(fn:Nat->List D->Option SV)(i:Nat):Sp:=fun vs H Q _=>∃W ds r,Wf W H/\Reps K W H ds vs/\fn i ds=some r/\∀v H',Same H H'->Res K W H H' r v->Q v H'
structure ARep (K:Ka)(W:Addr->Prop)(H:Hp)(io:List Nat)(ds:List D)(vs:List V):Prop where
 len:ds.length=vs.length
 val: ∀(k:Nat) (d:D),ds[k]? =some d->k∉io->∃v,vs[k]? =some v/\Rep K W H d v
 obj: ∀(k:Nat) (d:D),ds[k]? =some d->k∈io->∃a o,vs[k]? =some (.ref a)/\W a/\H a=some o/\ORep K W H d o
 inj: ∀(j k:Nat) (a:Addr),j∈io->k∈io->vs[j]? =some (.ref a)->vs[k]? =some (.ref a)->j=k
noncomputable def XT(io:List Nat)(vs:List V)(a:Addr):Prop:=∃k∈io,vs[k]? =some (.ref a)
noncomputable def Qo(K:Ka)(W:Addr->Prop)(H:Hp)(io:List Nat)(vs:List V)(outs:List D):Prop:=
 Paired (fun k d=>∃a o,vs[k]? =some (.ref a)/\H a=some o/\ORep K W H d o) io outs
noncomputable def vf(K:Ka)(fa:Nat->List D->Option Ans)(i:Nat)(io:List Nat):Sp:=fun vs H Q _=>∃W ds r outs,Wf W H/\ARep K W H io ds vs/\fa i ds=some (.ok r outs)/\
 ∀v H',(∀a o,H a=some o->¬XT io vs a->H' a=some o)->Qo K W H' io vs outs->Res K W H H' r v->Q v H'
theorem Reps.get'{K:Ka}{W:Addr->Prop}{H:Hp}{ds:List D}{vs:List V}(r:Reps K W H ds vs):ARep K W H [] ds vs:=
 ⟨r.length,fun k d h _=>r.get h,fun k d _ h=>(by cases h),fun j k a h=>(by cases h)⟩
theorem zcL{fa:Nat->List D->Option Ans}{i:Nat}{ds:List D}{r:SV}(h:zJ fa i ds=some r):fa i ds=some (.ok r []):=by
 unfold zJ at h;split at h
 ·rename_i r' e;cases h;exact e
 ·cases h
theorem zw{Pg:Program}{w:World}{K:Ka}{mg:Str->Option Value}{base:Heap}{k:Nat}{f:Addr}{fd:FuncData}{ps:List Str}{fa:Nat->List D->Option Ans}{i:Nat}{io:List Nat}
  (F:FnOk Pg w K mg base wr k f fd ps (vf K fa i io)) (h:io=[]):FnOk Pg w K mg base wr k f fd ps (gr K (zJ fa) i):=by
 subst h;exact F.imp fun vs H Q E ⟨W,ds,r,wf,rp,e,q⟩=>⟨W,ds,r,[],wf,rp.get',zcL e,fun v H' k _ res=>q v H' (fun a o h=>k a o h fun ⟨_,z,_⟩=>by cases z) res⟩
theorem zcM{K:Ka}{W:Addr->Prop}{H:Hp}: ∀{rs:List SV} {vs:List V},Paired (Frz K W H) rs vs->rs.any SV.lent=false->Reps K W H (rs.map zI) vs
 |_,_,.nil,_=>.nil
 |_,_,.cons h t,e=>by
  simp only[List.any_cons,Bool.or_eq_false_iff] at e;refine .cons ?_ (zcM t e.2)
  cases h with
  |val h=>exact h
  |lis h e' r=>exact r.rep h e'
  |see h e' r=>simp[SV.lent] at e
theorem zcN{K:Ka}{W:Addr->Prop}{H:Hp}: ∀{rs:List SV} {vs:List V},Paired (Frz K W H) rs vs->Reps K (fun _=>False) H (rs.map zI) vs
 |_,_,.nil=>.nil
 |_,_,.cons h t=>by
  refine .cons ?_ (zcN t)
  cases h with
  |val h=>exact h.less fun _ z=>z.elim
  |lis h e' r=>exact (r.less fun _ z=>z.elim).rep (fun z=>z) e'
  |see h e' r=>exact (r.less fun _ z=>z.elim).rep (fun z=>z) e'
theorem Res.plain{K:Ka}{W W':Addr->Prop}{H H':Hp}{r:SV}{v:V}(h:Res K W' H H' r v)(wf: ∀a,W' a->W a)(p:r.plain=true):Res K W H H' r v:=by
 cases h with
 |val h=>exact .val (h.plain p)
 |new h e r=>exact .new h e (r.plain p)
 |see h e r=>exact .see (wf _ h) e (r.plain p)
section
variable {X:Cx} {fn:Nat->List D->Option SV} {fuel:Nat} {a b c e:Expr} {ca cb cc ce:E} {es:List Expr} {cs:Es} {pos p:Pos} {x:Str}
theorem zx{k:Nat}{f:Addr}{fd:FuncData}{ps:List Str}{i:Nat}(F:FnOk X.prog X.w X.K X.mg X.base wr k f fd ps (gr X.K fn i))(hr:Room k X.A)(hg:Gl X x)(hm:X.mg x=some (.ref f))(hk:PySem.W.keepIn X.K (.ref f)=true)
  (hb:Binds X.K fd ps []) (ha:IA X fn (e::es) cs) (hdb:(x==("__debug__":Str))=false:=by decide) (he:starEach (e::es) X.env=(false,eval e X.env)::starEach es X.env:=by rfl)
  (hpl:(backTo pos (starEach es X.env)).any (·.1)=false:=by rfl):IE X fn (.Call (.Name x p) (e::es) [] pos) (.call i cs):=
 .mk <| (zbP F hr hg hm hk hb .nil zcg ha.h hdb he hpl).imp fun σ H Q zz3=>by
  obtain⟨W,ρ,r,hR,h,q⟩:=zz3;simp only[zcl,jo1,wO] at h;obtain⟨rs,e1,r',e2,e3⟩:=h;split at e3
  ·cases e3
  ·rename_i hc
   cases e3;refine⟨W,ρ,rs,hR,e1,fun vs H1 s1 f=>?_⟩;show gr X.K fn i (vs++[]) H1 Q E0;rw[List.append_nil]
   cases hl:rs.any SV.lent with
   |false=>exact⟨W,_,r,hR.wf' s1,zcM f hl,e2,fun v H' s2 h=>q v H' (s1.trans s2) (h.back s1)⟩
   |true=>
    have hp:r.plain=true:=by
     cases hp:r.plain with
     |true=>rfl
     |false=>exact KC (by rw[hl,hp];rfl) hc
    exact⟨fun _=>False,_,r,fun _ z=>z.elim,zcN f,e2,fun v H' s2 h=>q v H' (s1.trans s2) ((h.plain (fun _ z=>z.elim) hp).back s1)⟩
section
variable {K:Ka} {W:Addr->Prop} {ρ:LW.Env} {σ:St} {H H':Hp} {i j:Nat} {d:D} {v:V}
theorem yT{α:Type}{l:List α}{i j:Nat}{x y:α}(h:(l.set i x)[j]? =some y):(i=j/\y=x/\j<l.length)\/(i≠j/\l[j]? =some y):=by
 rw[List.getElem?_set] at h;split at h
 ·rename_i e
  subst e;split at h
  ·cases h;exact .inl ⟨rfl,rfl,by assumption⟩
  ·cases h
 ·exact .inr ⟨by assumption,h⟩
theorem jN{α:Type}{l:List α}{i:Nat}{x:α}(h:i<l.length):(l.set i x)[i]? =some x:=by simp[h]
theorem xx{α:Type}{l:List α}{i j:Nat}{x:α}(h:i≠j):(l.set i x)[j]? =l[j]? :=List.getElem?_set_ne h
theorem R.set_val(r:R K W ρ σ H)(h:Rep K W H d v):R K W (ρ.set i (some (.val d))) (σ.set i (some v)) H:=by
 refine⟨fun j e hj=>?_,fun j e hj=>?_,fun j x e hj hc=>?_,fun j k x y e1 e2 a h1 h2 c1 c2 h3 h4=>?_,r.wf,by simpa using r.len⟩
 ·rcases yT hj with ⟨rfl,z,hl⟩|⟨n,z⟩
  ·cases z
   exact⟨v,jN (by rw[<-r.len];exact hl),h⟩
  ·obtain⟨u,h1,h2⟩:=r.val j e z
   exact⟨u,by rw[xx n];exact h1,h2⟩
 ·rcases yT hj with ⟨rfl,z,hl⟩|⟨n,z⟩
  ·cases z
  ·exact r.nol j e z
 ·rcases yT hj with ⟨rfl,z,hl⟩|⟨n,z⟩
  ·cases z;cases hc
  ·obtain⟨a,o,h1,h2⟩:=r.own j x e z hc
   exact⟨a,o,by rw[xx n];exact h1,h2⟩
 ·rcases yT h1 with ⟨rfl,z,hl⟩|⟨n,z⟩
  ·cases z;cases c1
  ·rcases yT h2 with ⟨rfl,z',hl⟩|⟨n',z'⟩
   ·cases z';cases c2
   ·rw[xx n] at h3
    rw[xx n'] at h4;exact r.inj j k x y e1 e2 a z z' c1 c2 h3 h4
theorem zk9{a:Addr}(h:wd (ρ.set i (some (.val d))) (σ.set i (some v)) a):wd ρ σ a:=by
 obtain⟨j,x,e,h1,hc,h2⟩:=h;rcases yT h1 with ⟨rfl,z,hl⟩|⟨n,z⟩
 ·cases z;cases hc
 ·rw[xx n] at h2
  exact⟨j,x,e,z,hc,h2⟩
theorem XU{x:SV}(hx: ∀d,x≠ .io d)(hf: ¬xJ ρ i)(j:Nat):(xJ (ρ.set i (some x)) j↔xJ ρ j)/\(xJ ρ j->i≠j):=by
 refine⟨⟨fun ⟨d,h⟩=>?_,fun ⟨d,h⟩=>?_⟩,fun h e=>hf (by rw[e];exact h)⟩
 ·rcases yT h with ⟨rfl,z,hl⟩|⟨n,z⟩
  ·cases z;exact KC rfl (hx d)
  ·exact⟨d,z⟩
 ·exact⟨d,by rw[xx (fun e=>hf (by rw[e];exact⟨d,h⟩))];exact h⟩
theorem Qp(r:R K W ρ σ H)(s:Same H H')(h:Rep K W H' d v)(hf: ¬xJ ρ i):SPost K W ρ σ H W (ρ.set i (some (.val d))) (σ.set i (some v)) H':=
 ⟨(r.same s).set_val h,fun a o q _=>s a o q,fun a w=>.inl w,fun a w n=>⟨w,fun z=>n (zk9 z)⟩,fun j=>⟨(XU (x:=.val d) (fun _ z=>(nomatch z)) hf j).1,fun z=>xx ((XU (x:=.val d) (fun _ z=>(nomatch z)) hf j).2 z)⟩⟩
theorem zla{a:Addr}(wf:Wf W H)(s:Same H H'){o:HO}(e:H' a=some o):Wf (add W a) H':=fun b w=>by
 rcases w with w|rfl
 ·cases q:H b with
  |none=>exact KC q (wf b w)
  |some u=>rw[s b u q];exact fun z=>nomatch z
 ·rw[e];exact fun z=>nomatch z
theorem Qq{a:Addr}(s:Same H H')(h:H a=Option.none):Ext W H (add W a) H':=
 ⟨fun b o q _=>s b o q,fun b xs q=>s b _ q,fun b o u q=>s b _ q,fun b w=>by
  rcases w with w|rfl
  ·exact .inl w
  ·exact .inr h⟩
theorem R.add{a:Addr}{o:HO}(r:R K W ρ σ H)(s:Same H H')(h:H a=Option.none)(e:H' a=some o):R K (LW.add W a) ρ σ H':=by
 refine⟨fun j d hj=>?_,r.nol,fun j x d hj hc=>?_,r.inj,zla r.wf s e,r.len⟩
 ·obtain⟨u,h1,h2⟩:=r.val j d hj
  exact⟨u,h1,h2.ext (Qq s h)⟩
 ·obtain⟨b,o,h1,h2,h3,h4⟩:=r.own j x d hj hc
  exact⟨b,o,h1,.inl h2,s _ _ h3,h4.ext (Qq s h)⟩
theorem R.noOwn{a:Addr}(r:R K W ρ σ H)(h:H a=Option.none): ¬wd ρ σ a:=fun z=>by
 obtain⟨_,o,d,e,_⟩:=r.ownW z;rw[h] at e;cases e
theorem zcO{a:Addr}{o:HO}(r:R K W ρ σ H)(s:Same H H')(h:H a=Option.none)(e:H' a=some o)(rp:ORep K (LW.add W a) H' d o)(hf: ¬xJ ρ i):
  SPost K W ρ σ H (LW.add W a) (ρ.set i (some (.obj true d))) (σ.set i (some (.ref a))) H':=by
 have ra:=r.add s h e
 refine⟨⟨fun j d hj=>?_,fun j d hj=>?_,fun j x es hj hc=>?_,fun j k x y e1 e2 b h1 h2 c1 c2 h3 h4=>?_,ra.wf,by simpa using r.len⟩,fun b o q _=>s b o q,(Qq (W:=W) s h).win,fun b w n=>⟨.inl w,fun z=>?_⟩,
  fun j=>⟨(XU (x:=.obj true d) (fun _ z=>(nomatch z)) hf j).1,fun z=>xx ((XU (x:=.obj true d) (fun _ z=>(nomatch z)) hf j).2 z)⟩⟩
 ·rcases yT hj with ⟨rfl,z,hl⟩|⟨n,z⟩
  ·cases z
  ·obtain⟨u,h1,h2⟩:=ra.val j d z
   exact⟨u,by rw[xx n];exact h1,h2⟩
 ·rcases yT hj with ⟨rfl,z,hl⟩|⟨n,z⟩
  ·cases z
  ·exact r.nol j d z
 ·rcases yT hj with ⟨rfl,z,hl⟩|⟨n,z⟩
  ·cases z;cases hc
   exact⟨a,o,jN (by rw[<-r.len];exact hl),.inr rfl,e,rp⟩
  ·obtain⟨b,ys,h1,h2⟩:=ra.own j x es z hc
   exact⟨b,ys,by rw[xx n];exact h1,h2⟩
 ·have other: ∀{k:Nat} {x:SV} {e:D},ρ[k]? =some (some x)->x.cell=some e->σ[k]? =some (some (.ref a))->False:=fun {k x e} q1 q3 q2=>r.noOwn h ⟨k,x,e,q1,q3,q2⟩
  rcases yT h1 with ⟨rfl,z,hl⟩|⟨n,z⟩
  ·rcases yT h2 with ⟨rfl,_,_⟩|⟨n',z'⟩
   ·rfl
   ·rw[jN (by rw[<-r.len];exact hl)] at h3
    cases h3;rw[xx n'] at h4;exact (other z' c2 h4).elim
  ·rcases yT h2 with ⟨rfl,z',hl⟩|⟨n',z'⟩
   ·rw[jN (by rw[<-r.len];exact hl)] at h4
    cases h4;rw[xx n] at h3;exact (other z c1 h3).elim
   ·rw[xx n] at h3
    rw[xx n'] at h4;exact r.inj j k x y e1 e2 b z z' c1 c2 h3 h4
 ·obtain⟨j,x,es,h1,hc,h2⟩:=z
  rcases yT h1 with ⟨rfl,_,hl⟩|⟨n',z'⟩
  ·rw[jN (by rw[<-r.len];exact hl)] at h2
   cases h2;exact r.wf _ w h
  ·rw[xx n'] at h2
   exact n ⟨j,x,es,z',hc,h2⟩
noncomputable def Qr(W:Addr->Prop)(a:Addr):Addr->Prop:=fun b=>W b/\b≠a
theorem gu{a:Addr}: ∀b,Qr W a b->W b:=fun _ h=>h.1
theorem gv{a:Addr}{o:Bool}(r:R K W ρ σ H)(h:ρ[j]? =some (some (.obj o d)))(h':σ[j]? =some (some (.ref a))):
  SPost K W ρ σ H (Qr W a) (ρ.set j (some (.val d))) σ H/\Rep K (Qr W a) H d (.ref a):=by
 cases o with
 |false=>exact KC h (r.nol j d)
 |true=>
 obtain⟨a',o,e1,e2,e3,e4⟩:=r.own j _ d h rfl;rw[h'] at e1;cases e1;have rp:Rep K (Qr W a) H d (.ref a):=(e4.less gu).rep (fun z=>z.2 rfl) e3;have nio: ¬xJ ρ j:=fun ⟨d',z⟩=>by rw[h] at z;cases z
 refine⟨⟨⟨fun k d' hk=>?_,fun k d' hk=>?_,fun k x es hk hc=>?_,fun k l x y e1 e2 b h1 h2 c1 c2 h3 h4=>?_,fun b w=>r.wf b w.1,by simpa using r.len⟩,fun b o q _=>q,fun b w=>.inl w.1,fun b w n=>⟨⟨w,fun z=>?_⟩,fun z=>?_⟩,
  fun k=>⟨(XU (x:=.val d) (fun _ z=>(nomatch z)) nio k).1,fun _=>rfl⟩⟩,rp⟩
 ·rcases yT hk with ⟨rfl,z,hl⟩|⟨n,z⟩
  ·cases z;exact⟨_,h',rp⟩
  ·obtain⟨u,h1,h2⟩:=r.val k d' z
   exact⟨u,h1,h2.less gu⟩
 ·rcases yT hk with ⟨rfl,z,hl⟩|⟨n,z⟩
  ·cases z
  ·exact r.nol k d' z
 ·rcases yT hk with ⟨rfl,z,hl⟩|⟨n,z⟩
  ·cases z;cases hc
  ·obtain⟨b,ys,h1,h2,h3,h4⟩:=r.own k x es z hc
   refine⟨b,ys,h1,⟨h2,fun z'=>?_⟩,h3,h4.less gu⟩;subst z';exact n (r.inj j k _ x d es b h z rfl hc h' h1)
 ·rcases yT h1 with ⟨rfl,z,hl⟩|⟨n,z⟩
  ·cases z;cases c1
  ·rcases yT h2 with ⟨rfl,z',hl⟩|⟨n',z'⟩
   ·cases z';cases c2
   ·exact r.inj k l x y e1 e2 b z z' c1 c2 h3 h4
 ·subst z
  exact n ⟨j,_,d,h,rfl,h'⟩
 ·obtain⟨k,x,es,h1,hc,h2⟩:=z
  rcases yT h1 with ⟨rfl,z,hl⟩|⟨n',z⟩
  ·cases z;cases hc
  ·exact n ⟨k,x,es,z,hc,h2⟩
theorem zcP(x:SV)(d:D):(x.put d).cell=some d:=by cases x<;>rfl
theorem zcQ(x:SV)(d d':D):x.put d≠ .val d':=by cases x<;>exact fun z=>nomatch z
theorem zcR(x:SV)(d d':D):x.put d≠ .obj false d':=by
 cases x<;>intro z<;>first|cases z|(simp[SV.put] at z)
theorem Qs{x:SV}{d:D}:(∃d',x.put d= .io d')↔∃d',x= .io d':=by
 cases x with
 |io y=>exact⟨fun _=>⟨_,rfl⟩,fun _=>⟨_,rfl⟩⟩
 |_=>exact⟨fun ⟨_,z⟩=>(nomatch z),fun ⟨_,z⟩=>(nomatch z)⟩
theorem Qt{a:Addr}{x:SV}{d0 d':D}{o o':HO}(r:R K W ρ σ H)(h:ρ[i]? =some (some x))(hc:x.cell=some d0)(h':σ[i]? =some (some (.ref a)))(s:Same H H')(e:H' a=some o)(hk:(∀xs,o≠ .tup xs)/\(∀b u,o≠ .frz b u))
  (rp:ORep K W H' d' o'):SPost K W ρ σ H W (ρ.set i (some (x.put d'))) σ (zF H' a o'):=by
 have r':=r.same s;have hO:wd ρ σ a:=⟨i,x,d0,h,hc,h'⟩;have hW:W a:=(r.ownW hO).1
 have ext:Ext W H' W (zF H' a o'):=by
  refine⟨fun b o q n=>?_,fun b ys q=>?_,fun b o u q=>?_,fun b w=>.inl w⟩
  ·rw[zE (fun z=>n (by rw[z];exact hW))];exact q
  ·rw[zE (fun z=>by rw[z,e] at q;cases q;exact hk.1 _ rfl)];exact q
  ·rw[zE (fun z=>by rw[z,e] at q;cases q;exact hk.2 _ _ rfl)];exact q
 have old: ∀{k:Nat} {y:SV} {es:D},(ρ.set i (some (x.put d')))[k]? =some (some y)->y.cell=some es->∃y' es',ρ[k]? =some (some y')/\y'.cell=some es':=fun {k y es} q c=>by
  rcases yT q with ⟨rfl,_,_⟩|⟨_,z⟩
  ·exact⟨_,_,h,hc⟩
  ·exact⟨_,_,z,c⟩
 refine⟨⟨fun k d' hk=>?_,fun k d' hk=>?_,fun k y es hk hc'=>?_,fun k l x y e1 e2 b h1 h2 c1 c2 h3 h4=>?_,fun b w=>?_,by simpa using r.len⟩,fun b o q n=>?_,fun b w=>.inl w,fun b w n=>⟨w,fun z=>?_⟩,fun j=>⟨?_,fun _=>rfl⟩⟩
 ·rcases yT hk with ⟨rfl,z,hl⟩|⟨n,z⟩
  ·exact KC (Kn z).symm (zcQ _ _ _)
  ·obtain⟨u,h1,h2⟩:=r'.val k d' z
   exact⟨u,h1,h2.ext ext⟩
 ·rcases yT hk with ⟨rfl,z,hl⟩|⟨n,z⟩
  ·exact KC (Kn z).symm (zcR _ _ _)
  ·exact r.nol k d' z
 ·rcases yT hk with ⟨rfl,z,hl⟩|⟨n,z⟩
  ·cases z
   rw[zcP] at hc';cases hc';exact⟨a,_,h',hW,yJ,rp.ext ext⟩
  ·obtain⟨b,ys,h1,h2,h3,h4⟩:=r'.own k y es z hc'
   refine⟨b,ys,h1,h2,?_,h4.ext ext⟩;rw[zE (fun z'=>by subst z';exact n (r.inj i k x y d0 es b h z hc hc' h' h1))];exact h3
 ·obtain⟨_,_,z1,w1⟩:=old h1 c1
  obtain⟨_,_,z2,w2⟩:=old h2 c2;exact r.inj k l _ _ _ _ b z1 z2 w1 w2 h3 h4
 ·by_cases z:b=a
  ·subst z;rw[yJ];exact fun z=>nomatch z
  ·rw[zE z];exact r'.wf b w
 ·rw[zE (fun z=>n (by rw[z];exact hO))]
  exact s b o q
 ·obtain⟨k,y,es,h1,hc',h2⟩:=z
  obtain⟨_,_,z,w⟩:=old h1 hc';exact n ⟨k,_,_,z,w,h2⟩
 ·by_cases e:i=j
  ·subst e
   have hl:i<ρ.length:=by
    obtain⟨z,_⟩:=List.getElem?_eq_some_iff.mp h;exact z
   constructor
   ·rintro⟨d',z⟩
    rw[jN hl] at z;have z:=Kn (Kn z);obtain⟨d2,w⟩:=Qs.mp ⟨d',z⟩;exact⟨d2,by rw[h,w]⟩
   ·rintro⟨d2,z⟩
    rw[h] at z;obtain⟨d3,w⟩:=Qs (d:=d').mpr ⟨d2,Kn (Kn z)⟩;exact⟨d3,by rw[jN hl,w]⟩
  ·unfold xJ;rw[xx e]
end
theorem Ret.back{K:Ka}{W W1 W2:Addr->Prop}{ρ ρ1:LW.Env}{σ σ1:St}{H H1 H2:Hp}{r:SV}{v:V}(p:SPost K W ρ σ H W1 ρ1 σ1 H1)(h:Ret K W1 ρ1 σ1 W2 H2 r v):Ret K W ρ σ W2 H2 r v:=by
 cases h with
 |val h=>exact .val h
 |new h n n' e r=>exact .new h (fun ⟨w,z⟩=>n (p.wout _ w z)) (fun ⟨i,z1,z2⟩=>n' ⟨i,(p.io i).1.mpr z1,by rw[(p.io i).2 z1];exact z2⟩) e r
theorem FlOk.back{K:Ka}{W W1 W2:Addr->Prop}{ρ ρ1 ρ2:LW.Env}{σ σ1 σ2:St}{H H1 H2:Hp}{D:Ends}{fl:Fl}(p:SPost K W ρ σ H W1 ρ1 σ1 H1)(h:FlOk K W ρ σ W2 ρ2 σ2 H2 D fl):FlOk K W1 ρ1 σ1 W2 ρ2 σ2 H2 D fl:=by
 cases fl with
 |rt r=>exact fun v q=>h v (q.back p)
 |_=>exact h
structure IS (X:Cx)(ex:LW.Env->Option (Fl×LW.Env))(st:Stmt):Prop where
 h:PS X st (XH X.K ex)
structure ISs (X:Cx)(ex:LW.Env->Option (Fl×LW.Env))(st:List Stmt):Prop where
 h:PSs X st (XH X.K ex)
variable {fa:Nat->List D->Option Ans} {st:Stmt} {sts:List Stmt} {s:S} {ss s1 s2:Ss}
theorem zn:ISs X (zp fa fuel .nil) []:=.mk <| zir.imp fun D σ H zz3=>by
 obtain⟨W,ρ,x,hR,hx,q⟩:=zz3;simp only[zkM] at hx;cases hx;exact q W σ H (.same hR (.refl H))
theorem zf(h1:IS X (zH fa fuel s) st)(h2:ISs X (zp fa fuel ss) sts):ISs X (zp fa fuel (.cons s ss)) (st::sts):=
 .mk <| (zis h1.h h2.h).imp fun D σ H zz3=>by
  obtain⟨W,ρ,x,hR,hx,q⟩:=zz3;simp only[zkN,jo1] at hx;obtain⟨⟨fl,ρ1⟩,e1,e2⟩:=hx;refine⟨W,ρ,(fl,ρ1),hR,e1,fun W1 σ1 H1 p1=>?_⟩
  cases fl with
  |nx=>exact⟨W1,ρ1,x,p1.r,e2,fun W2 σ2 H2 p2=>FlOk.back p1 (q W2 σ2 H2 (p1.trans p2 hR))⟩
  |br=>cases e2;exact q W1 σ1 H1 p1
  |ct=>cases e2;exact q W1 σ1 H1 p1
  |rt r=>cases e2;exact q W1 σ1 H1 p1
theorem xM(he:IE X (zJ fa) e ce)(hs:swapsWith e Option.none pos.line X.env=pure false:=by rfl):IS X (zH fa fuel (.expr ce)) (.Expr e pos):=
 .mk <| (JH he.h hs).imp fun D σ H zz3=>by
  obtain⟨W,ρ,x,hR,hx,q⟩:=zz3;simp only[zkA,jo2] at hx;obtain⟨r,e1,rfl⟩:=hx;exact⟨W,ρ,r,hR,e1,fun v H1 s1 _=>q W σ H1 (.same hR s1)⟩
theorem zV(i:Nat){pos':Pos}(hN:X.N.Nodup)(hi:X.N[i]? =some x)(hx:wM X.env.scope x)(he:IE X (zJ fa) e ce)(hs:swapsWith e (some (.Name x pos')) pos.line X.env=pure false:=by rfl)
  (hf:X.fn x=true\/X.env.scope.names.lookup x=some .local:=by first|exact .inl rfl|exact .inr rfl|assumption):IS X (zH fa fuel (.asg i ce)) (.Assign [.Name x pos'] e pos):=
 .mk <| (zbI hN hi hx he.h hs hf).imp fun D σ H zz3=>by
  obtain⟨W,ρ,y,hR,hy,q⟩:=zz3;simp only[zcr,jo1] at hy;obtain⟨r,e1,e2⟩:=hy;split at e2
  ·cases e2
  ·rename_i hl
   cases e2;simp only[Bool.not_eq_true,Bool.or_eq_false_iff,Bool.not_eq_false'] at hl;refine⟨W,ρ,r,hR,e1,fun v H1 s1 h=>?_⟩
   cases h with
   |val h=>exact q W _ H1 (Qp hR s1 h (jJ hl.2))
   |new h e r=>exact q _ _ H1 (zcO hR s1 h e r (jJ hl.2))
   |see h e r=>simp[SV.lent] at hl
theorem gw(i j:Nat){y:Str}{pos':Pos}(hN:X.N.Nodup)(hi:X.N[i]? =some x)(hx:wM X.env.scope x)(hj:X.N[j]? =some y)(hv:wq X.env.scope y)(hs:swapsWith (.Name y p) (some (.Name x pos')) pos.line X.env=pure false:=by rfl)
  (hf:X.fn x=true\/X.env.scope.names.lookup x=some .local:=by first|exact .inl rfl|exact .inr rfl|assumption) (hd:(y==("__debug__":Str))=false:=by decide) (hcd:(y==("__classdict__":Str))=false:=by decide):
  IS X (zH fa fuel (.mov i j)) (.Assign [.Name x pos'] (.Name y p) pos):=
 .mk <| (zbI hN hi hx (vG hj hv hd hcd) hs hf).imp fun D σ H zz3=>by
  obtain⟨W,ρ,z,hR,hz,q⟩:=zz3;simp only[zcs] at hz;split at hz
  ·rename_i hfr
   split at hz
   ·rename_i d h
    cases hz;obtain⟨v,h1,h2⟩:=hR.val j d h;exact⟨v,h1,q W _ H (Qp hR (.refl H) h2 (jJ hfr))⟩
   ·rename_i o ds h
    cases hz
    cases o with
    |false=>exact KC h (hR.nol j ds)
    |true=>
    obtain⟨a,xs,h1,_⟩:=hR.own j _ ds h rfl;obtain⟨p1,rp⟩:=gv hR h h1;exact⟨_,h1,q _ _ H (p1.trans (Qp p1.r (.refl H) rp fun z=>jJ hfr ((p1.io _).1.mp z)) hR)⟩
   ·cases hz
  ·cases hz
theorem zW(he:IE X (zJ fa) e ce):IS X (zH fa fuel (.ret ce)) (.Return (some e) pos):=
 .mk <| (zbD he.h).imp fun D σ H zz3=>by
  obtain⟨W,ρ,y,hR,hy,q⟩:=zz3;simp only[zkE,jo1] at hy;obtain⟨r,e1,e2⟩:=hy;split at e2
  ·cases e2
  ·rename_i hl
   cases e2;refine⟨W,ρ,r,hR,e1,fun v H1 s1 h=>?_⟩
   cases h with
   |val h=>exact q W σ H1 (.same hR s1) v (.val h)
   |new h e r=>
    refine q _ σ H1 ⟨hR.add s1 h e,fun b o q _=>s1 b o q,(Qq (W:=W) s1 h).win,fun b w n=>⟨.inl w,n⟩,fun _=>⟨.rfl,fun _=>rfl⟩⟩ _ (.new (.inr rfl) (fun z=>hR.wf _ z.1 h) (fun ⟨i,⟨d,z1⟩,z2⟩=>hR.noOwn h ⟨i,_,d,z1,rfl,z2⟩) e r)
   |see h e r=>simp[SV.lent] at hl
theorem vg(i:Nat)(hN:X.N[i]? =some x)(hv:wq X.env.scope x)(hd:(x==("__debug__":Str))=false:=by decide)(hcd:(x==("__classdict__":Str))=false:=by decide):IS X (zH fa fuel (.retV i)) (.Return (some (.Name x p)) pos):=
 .mk <| (zbD (vG hN hv hd hcd)).imp fun D σ H zz3=>by
  obtain⟨W,ρ,y,hR,hy,q⟩:=zz3;simp only[zcv] at hy;split at hy
  ·rename_i d h
   cases hy;obtain⟨v,h1,h2⟩:=hR.val i d h;exact⟨v,h1,q W σ H (.same hR (.refl H)) v (.val h2)⟩
  ·rename_i o ds h
   cases hy
   cases o with
   |false=>exact KC h (hR.nol i ds)
   |true=>
   obtain⟨a,xs,h1,h2,h3,h4⟩:=hR.own i _ ds h rfl
   refine⟨_,h1,q W σ H ?_ _ (.new h2 (fun z=>z.2 ⟨i,_,ds,h,rfl,h1⟩) (fun zz0=>by
    obtain⟨j,⟨d',z1⟩,z2⟩:=zz0;have:=hR.inj i j _ _ ds d' a h z1 rfl rfl h1 z2;subst this;rw[h] at z1;cases z1) h3 h4)⟩
   have old: ∀{k:Nat} {z:SV},(ρ.set i Option.none)[k]? =some (some z)->ρ[k]? =some (some z):=fun {k z} q=>by
    rcases yT q with ⟨_,w,_⟩|⟨_,w⟩
    ·cases w
    ·exact w
   exact⟨⟨fun k d hk=>hR.val k d (old hk),fun k d hk=>hR.nol k d (old hk),fun k o es hk=>hR.own k o es (old hk),fun k l x y e1 e2 b z1 z2=>hR.inj k l x y e1 e2 b (old z1) (old z2),hR.wf,by simpa using hR.len⟩,fun b o q _=>q,fun b w=>.inl w,fun b w n=>⟨w,fun ⟨k,x,es,z1,c,z2⟩=>n ⟨k,x,es,old z1,c,z2⟩⟩,
    fun k=>⟨⟨fun ⟨d',z⟩=>⟨d',old z⟩,fun ⟨d',z⟩=>⟨d',by rw[xx (fun e=>by subst e;rw[h] at z;cases z)];exact z⟩⟩,fun _=>rfl⟩⟩
  ·cases hy
theorem XV:IS X (zH fa fuel .stop) st:=.mk <| zix.imp fun D σ H zz3=>by
 obtain⟨W,ρ,y,hR,hy,q⟩:=zz3;simp only[zkL] at hy;cases hy
theorem yC(hc:IT X (zJ fa) c cc)(h1:ISs X (zp fa fuel s1) sts)(h2:ISs X (zp fa fuel s2) sts'):IS X (zH fa fuel (.ifs cc s1 s2)) (.If c sts sts' pos):=
 .mk <| (zbE hc.h h1.h h2.h).imp fun D σ H zz3=>by
  obtain⟨W,ρ,y,hR,hy,q⟩:=zz3;simp only[zkF,jo1] at hy;obtain⟨k,e1,e2⟩:=hy;refine⟨W,ρ,k,hR,e1,fun H1 w1=>?_⟩;have p1:=SPost.same hR w1;show if k=true then XH X.K (zp fa fuel s1) D σ H1 else XH X.K (zp fa fuel s2) D σ H1
  cases k with
  |true=>rw[if_pos rfl] at e2⊢;exact⟨W,ρ,y,p1.r,e2,fun W2 σ2 H2 p2=>FlOk.back p1 (q W2 σ2 H2 (p1.trans p2 hR))⟩
  |false=>rw[if_neg Km] at e2⊢;exact⟨W,ρ,y,p1.r,e2,fun W2 σ2 H2 p2=>FlOk.back p1 (q W2 σ2 H2 (p1.trans p2 hR))⟩
theorem jO(i:Nat){apos cpos:Pos}(hN:X.N[i]? =some x)(hv:wq X.env.scope x)(he:IE X (zJ fa) e ce)(hst:starEach [e] X.env=(false,eval e X.env)::starEach [] X.env)(hd:(x==("__debug__":Str))=false)(hcd:(x==("__classdict__":Str))=false)
  (hs:swapsWith (.Call (.Attribute (.Name x p) "append" apos) [e] [] cpos) Option.none pos.line X.env=pure false:=by rfl)
  (hbase:attributeBase (.Name x p) "append" X.env (eval (.Name x p) X.env)=eval (.Name x p) X.env:=by rfl)
  (hline:(apos.endLine==cpos.line)=true:=by rfl):
  IS X (zH fa fuel (.app i ce)) (.Expr (.Call (.Attribute (.Name x p) "append" apos) [e] [] cpos) pos):=
 .mk <| (JH (zb6 PySem.F.plainAttrs_list PySem.F.slot_list_append PySem.F.type_list_append qF (vG hN hv hd hcd) (vp he.v Zk hst) hbase (by rw[hst];rfl) hline hst zm) hs).imp fun D σ H zz3=>by
  obtain⟨W,ρ,y,hR,hy,q⟩:=zz3;simp only[zct] at hy;split at hy
  ·rename_i x h
   split at hy
   ·rename_i ds hc
    simp only[jo1] at hy;obtain⟨r,e1,d,e2,e3⟩:=hy;split at e3
    ·rename_i hl
     cases e3;obtain⟨a,o,h1,h2,h3,h4⟩:=hR.own i _ _ h hc
     cases h4 with
     |lst h4=>
     rename_i xs;refine⟨_,h1,.inl ⟨rfl,xs,.of h3⟩,?_⟩;refine⟨W,ρ,r,hR,e1,fun v H1 w1 f=>?_⟩;refine⟨a,xs,v,rfl,rfl,w1 _ _ h3,?_,?_⟩
     ·rw[<-h4.length,<-Yj];exact hl
     ·exact q W σ _ (Qt hR h hc h1 w1 (w1 _ _ h3) ⟨fun _ z=>(nomatch z),fun _ _ z=>(nomatch z)⟩ (.lst ((h4.ext (.same w1)).append (.cons (f.toD e2) .nil))))
    ·cases e3
   ·cases hy
  ·cases hy
end
end L2.LW
set_option maxHeartbeats 4000000
namespace L2.LW
open PySem PySem.Spec PyProof.Rows
noncomputable def Yl(K:Ka)(J:It)(W:Addr->Prop)(H:Hp)(ds:List D):Prop:=
 ∀W' H',Ext W H W' H'->∀k:Nat,(k=ds.length->J.stop k H')/\∀d,ds[k]? =some d->J.go k H'/\∀x H'',J.yld k H' x H''->H''=H'/\Rep K W' H' d x
noncomputable def Ys(K:Ka)(J:It)(W:Addr->Prop)(H:Hp)(ds:List D):Prop:=
 ∀W' H',Same H H'->(∀a,W' a->W a\/H a=Option.none)->∀k:Nat,(k=ds.length->J.stop k H')/\∀d,ds[k]? =some d->J.go k H'/\∀x H'',J.yld k H' x H''->H''=H'/\Rep K W' H' d x
theorem Ext.sameW{W W':Addr->Prop}{H H':Hp}(s:Same H H')(w: ∀a,W' a->W a\/H a=Option.none):Ext W H W' H':=⟨fun a o h _=>s a o h,fun a xs h=>s a _ h,fun a o u h=>s a _ h,w⟩
section
variable {K:Ka} {W:Addr->Prop} {H:Hp} {a:Addr} {xs:List V} {ds:List D}
theorem XW{H':Hp}{W':Addr->Prop}(hq:SqL K H' a xs)(rp:Reps K W' H' ds xs)(k:Nat):
  (k=ds.length->(Xe K a).stop k H')/\∀d,ds[k]? =some d->(Xe K a).go k H'/\∀x H'',(Xe K a).yld k H' x H''->H''=H'/\Rep K W' H' d x:=by
 refine⟨fun e=>⟨xs,hq,by rw[<-rp.length,e];exact Nat.le_refl _⟩,fun d e=>?_⟩;obtain⟨v,e1,e2⟩:=rp.get e;refine⟨⟨xs,v,hq,e1⟩,fun x H'' ⟨z,y⟩=>⟨z,?_⟩⟩;have:=y xs hq;rw[e1] at this;cases this;exact e2
theorem gx{H':Hp}{W':Addr->Prop}(hq:SqT K H' a xs)(rp:Reps K W' H' ds xs)(k:Nat):
  (k=ds.length->(Xf K a).stop k H')/\∀d,ds[k]? =some d->(Xf K a).go k H'/\∀x H'',(Xf K a).yld k H' x H''->H''=H'/\Rep K W' H' d x:=by
 refine⟨fun e=>⟨xs,hq,by rw[<-rp.length,e];exact Nat.le_refl _⟩,fun d e=>?_⟩;obtain⟨v,e1,e2⟩:=rp.get e;refine⟨⟨xs,v,hq,e1⟩,fun x H'' ⟨z,y⟩=>⟨z,?_⟩⟩;have:=y xs hq;rw[e1] at this;cases this;exact e2
theorem Qu{H':Hp}{W':Addr->Prop}{lo:Int}{n:Nat}(k:Nat):
  (k=((List.range n).map fun (k:Nat)=>D.int (lo+(k:Int))).length->(Zj lo n).stop k H')/\
   ∀d,((List.range n).map fun (k:Nat)=>D.int (lo+(k:Int)))[k]? =some d->(Zj lo n).go k H'/\∀x H'',(Zj lo n).yld k H' x H''->H''=H'/\Rep K W' H' d x:=by
 refine⟨fun e=>?_,fun d e=>?_⟩
 ·rw[List.length_map,List.length_range] at e
  exact Nat.le_of_eq e.symm
 ·rw[List.getElem?_map,jo2] at e
  obtain⟨j,e1,rfl⟩:=e;obtain⟨h1,h2⟩:=List.getElem?_eq_some_iff.mp e1;rw[List.length_range] at h1;rw[List.getElem_range] at h2;subst h2;exact⟨h1,fun x H'' ⟨z,y⟩=>⟨z,by rw[y];exact .int _⟩⟩
theorem Ym{W':Addr->Prop}{H':Hp}(h:(¬W a/\Rd H a (.lst xs))\/XG K a xs)(x:Ext W H W' H'):SqL K H' a xs:=by
 rcases h with ⟨n,h|⟨o,h⟩⟩|h
 ·exact .inl (.inl (x.keep _ _ h n))
 ·exact .inl (.inr ⟨o,x.keep _ _ h n⟩)
 ·exact .inr h
end
noncomputable def zlb(K:Ka)(tl:TE):TI:=fun σ H R=>tl σ H fun x H1=>∃a,x= .ref a/\(((∃xs,SqL K H1 a xs)/\R (Xe K a) H1)\/((∃xs,SqT K H1 a xs)/\R (Xf K a) H1))
section
variable {X:Cx} {tg l:Expr}
theorem zcS{tl:TE}(hl:PE X l tl):PI X tg l (zlb X.K tl):=by
 intro pins s σ H R I h;refine zt (hl pins s σ H _ I h) fun v s1 ⟨x,H1,I1,r1,q1⟩=>?_
 obtain⟨a,e,q⟩:=q1;subst e;cases r1;rcases q with ⟨⟨xs,hq⟩,q⟩|⟨⟨xs,hq⟩,q⟩
 ·obtain⟨its,rv,p,hz⟩:=I1.list hq
  refine wpAny_pyIter_list p.isList ?_;refine⟨s1.heap.objs.size,[s1.heap.objs.size],_,_,H1,rfl,I1.kept (t':=s1.toks) fun b o e=>Kl _ e,ziD a _,⟨_,Heap.get?_push_size _ rfl,rfl,rfl⟩,fun b hb=>?_,q⟩;have e:b=s1.heap.objs.size:=by simpa using hb
  subst e;exact I1.fpOk (Nat.le_refl _) (I1.hok.fresh (Nat.le_refl _))
 ·obtain⟨its,rv,p,hz⟩:=I1.tuple hq
  refine wpAny_pyIter_tuple (show s1.heap.IsTuple a its.toArray from p) ?_;refine⟨s1.heap.objs.size,[s1.heap.objs.size],_,_,H1,rfl,I1.kept (t':=s1.toks) fun b o e=>Kl _ e,ziE a _,⟨_,Heap.get?_push_size _ rfl,rfl,rfl⟩,fun b hb=>?_,q⟩;have e:b=s1.heap.objs.size:=by simpa using hb
  subst e;exact I1.fpOk (Nat.le_refl _) (I1.hok.fresh (Nat.le_refl _))
end
noncomputable def tI(K:Ka)(fn:Nat->List D->Option SV)(rng:Bool)(src:Es):TI:=fun σ H R0=>∃W ρ rs ds,R K W ρ σ H/\yi fn src ρ=some rs/\yw rng rs=some ds/\
 ∀J H',Same H H'->Ys K J W H' ds->(rs.any SV.lent=false->Yl K J W H' ds)->R0 J H'
structure Src (X:Cx)(fn:Nat->List D->Option SV)(tg e:Expr)(rng:Bool)(src:Es):Prop where
 h:PI X tg e (tI X.K fn rng src)
theorem _root_.L2.PI.imp{X:Cx}{tg l:Expr}{t t':TI}(h:PI X tg l t)(i: ∀σ H Q,t' σ H Q->t σ H Q):PI X tg l t':=fun pins s σ H Q I q=>h pins s σ H Q I (i σ H Q q)
section
variable {X:Cx} {fn:Nat->List D->Option SV} {fuel:Nat} {a b c e tg:Expr} {ca cb cc ce:E} {es:List Expr} {cs:Es} {pos p:Pos} {x:Str}
theorem wv(he:IE X fn e ce):Src X fn tg e false (.cons ce .nil):=
 .mk <| (zcS he.v).imp fun σ H R0 zz3=>by
  obtain⟨W,ρ,rs,ds,hR,h1,h2,q⟩:=zz3;simp only[xY,xZ,jo1,jo2] at h1;obtain⟨r,e1,rs',e3,rfl⟩:=h1;cases e3;simp only[yw] at h2;refine⟨W,ρ,r,hR,e1,fun v H1 s1 f=>?_⟩;unfold xW at h2;split at h2
  ·rename_i l hd
   cases h2;have hs:=f.sees;rw[hd] at hs;obtain⟨a,xs,rfl,hq,rp⟩:=hs.tupH;refine⟨a,rfl,.inr ⟨⟨xs,.of hq⟩,q _ H1 s1 (fun W' H' s w k=>gx (.of (s _ _ hq)) (rp.ext (.sameW s w)) k) fun _ W' H' x k=>gx (.of (x.tup _ _ hq)) (rp.ext x) k⟩⟩
  ·rename_i l hd
   cases h2;have hs:=f.sees;rw[hd] at hs;obtain⟨a,xs,rfl,hq,rp⟩:=hs.lst;refine⟨a,rfl,.inl ⟨⟨xs,hq⟩,q _ H1 s1 (fun W' H' s w k=>XW (s.seq hq) (rp.ext (.sameW s w)) k) fun hl W' H' x k=>?_⟩⟩;have hl':r.lent=false:=by simpa using hl
   cases f with
   |val h=>
    change _=D.lst _ at hd;subst hd
    cases h with
    |lst h r'=>exact XW (Ym h x) (r'.ext x) k
   |lis h e r'=>
    change _=D.lst _ at hd;subst hd
    cases r' with
    |lst r'=>exact XW (.of (x.keep _ _ e h)) (r'.ext x) k
   |see h e r'=>simp[SV.lent] at hl'
  ·cases h2
theorem Qv(hg:Gl X "range")(hm:X.mg "range"=Option.none)(ha:IA X fn [a] (.cons ca .nil))(hs:starEach [a] X.env=(false,eval a X.env)::starEach [] X.env):Src X fn tg (.Call (.Name "range" p) [a] [] pos) true (.cons ca .nil):=
 .mk <| (ziI hg hm ha.h hs).imp fun σ H R0 zz3=>by
  obtain⟨W,ρ,rs,ds,hR,h1,h2,q⟩:=zz3;refine⟨W,ρ,rs,hR,h1,fun vs H1 s1 f=>?_⟩;simp only[xY,xZ,jo1,jo2] at h1;obtain⟨r,e1,rs',e3,rfl⟩:=h1;cases e3
  obtain⟨v,rfl,g⟩: ∃v,vs=[v]/\Frz X.K W H1 r v:=by
   cases f with
   |cons f t=>cases t;exact⟨_,rfl,f⟩
  clear f
  cases g with
  |val g=>
   cases g with
   |int n=>
    simp only[yw] at h2;split at h2
    ·rename_i hn
     cases h2;exact⟨n,rfl,hn.1,hn.2,q _ H1 s1 (fun W' H' s w k=>Qu k) fun _ W' H' x k=>Qu k⟩
    ·cases h2
   |_=>simp[yw] at h2
  |_=>simp[yw] at h2
theorem zcT(hg:Gl X "range")(hm:X.mg "range"=Option.none)(ha:IA X fn [a,b] (.cons ca (.cons cb .nil)))(hs:starEach [a,b] X.env=(false,eval a X.env)::starEach [b] X.env)(hs2:starEach [b] X.env=(false,eval b X.env)::starEach [] X.env):
  Src X fn tg (.Call (.Name "range" p) [a,b] [] pos) true (.cons ca (.cons cb .nil)):=
 .mk <| (ziJ hg hm ha.h (by rw[hs,hs2];rfl) hs2).imp fun σ H R0 zz3=>by
  obtain⟨W,ρ,rs,ds,hR,h1,h2,q⟩:=zz3;refine⟨W,ρ,rs,hR,h1,fun vs H1 s1 f=>?_⟩;simp only[xY,xZ,jo1,jo2] at h1;obtain⟨r,e1,rs',⟨r2,e2,rs'',e3,rfl⟩,rfl⟩:=h1;cases e3
  obtain⟨v,v2,rfl,g,f2⟩: ∃v v2,vs=[v,v2]/\Frz X.K W H1 r v/\Frz X.K W H1 r2 v2:=by
   cases f with
   |cons f t=>cases t with
    |cons f' t=>cases t;exact⟨_,_,rfl,f,f'⟩
  clear f
  cases g with
  |val g=>
   cases f2 with
   |val f2=>
    cases g with
    |int n=>
     cases f2 with
     |int m=>
      simp only[yw] at h2;split at h2
      ·rename_i hn
       cases h2;exact⟨n,m,rfl,⟨hn.1.1,hn.1.2,hn.2.1,hn.2.2⟩,q _ H1 s1 (fun W' H' s w k=>Qu k) fun _ W' H' x k=>Qu k⟩
      ·cases h2
     |_=>simp[yw] at h2
    |_=>simp[yw] at h2
   |_=>simp[yw] at h2
  |_=>simp[yw] at h2
theorem gy{α:Type}{l:List α}{k:Nat}{d:α}(h:l[k]? =some d):l.drop k=d::l.drop (k+1):=by
 obtain⟨h1,h2⟩:=List.getElem?_eq_some_iff.mp h;rw[List.drop_eq_getElem_cons h1,h2]
theorem XX{K:Ka}{J:It}{ds:List D}{i:Nat}{ex:LW.Env->Option (Fl×LW.Env)}{W:Addr->Prop}{ρ:LW.Env}{σ:St}{H:Hp}{x:Fl×LW.Env}{D0:Ends}(hR:R K W ρ σ H)(hfr: ¬xJ ρ i)(hy:Yl K J W H ds)
  (hx:yx i ex ds ρ=some x) (q: ∀W' σ' H',SPost K W ρ σ H W' x.2 σ' H'->FlOk K W ρ σ W' x.2 σ' H' D0 x.1):
  ∃Wv:Nat->Nat->St->Hp->Prop,(∃m,Wv 0 m σ H)/\∀k m σ' H',Wv k m σ' H'->
   (J.stop k H'/\D0.nx σ' H')\/(J.go k H'/\∃N:St->Hp->Prop,(∀σ2 H2,N σ2 H2->∃m',m'<m/\Wv (k+1) m' σ2 H2)/\∀v H2,J.yld k H' v H2->Xc i v σ' H2 fun σ2 H2=>XH K ex { D0 with nx:=N,ct:=N,bk:=D0.nx } σ2 H2):=by
 refine⟨fun k m σ' H'=>m=ds.length-k/\k<=ds.length/\∃W' ρ',SPost K W ρ σ H W' ρ' σ' H'/\yx i ex (ds.drop k) ρ'=some x,⟨_,rfl,Nat.zero_le _,W,ρ,.same hR (.refl H),hx⟩,?_⟩;rintro k m σ' H' ⟨rfl,hk,W',ρ',p,hf⟩;obtain⟨hstop,hgo⟩:=hy W' H' (p.ext hR) k;by_cases hlt:k<ds.length
 ·have hd:ds[k]? =some ds[k]:=by simp[hlt]
  obtain⟨g1,g2⟩:=hgo _ hd;rw[gy hd,yx,jo1] at hf;obtain⟨⟨fl,ρ2⟩,e1,e2⟩:=hf;refine .inr ⟨g1,fun σ2 H2=>(ds.length-(k+1))=ds.length-(k+1)/\k+1<=ds.length/\∃W' ρ',SPost K W ρ σ H W' ρ' σ2 H2/\yx i ex (ds.drop (k+1)) ρ'=some x,fun σ2 H2 h=>⟨_,by omega,h⟩,fun v H2 y=>?_⟩;obtain⟨rfl,rv⟩:=g2 v H2 y;have p1:=Qp (i:=i) p.r (.refl H2) rv fun z=>hfr ((p.io i).1.mp z)
  have p01:=p.trans p1 hR;refine⟨W',_,(fl,ρ2),p1.r,e1,fun W3 σ3 H3 p3=>?_⟩;have p03:=p01.trans p3 hR
  cases fl with
  |nx=>exact⟨rfl,hlt,W3,ρ2,p03,e2⟩
  |ct=>exact⟨rfl,hlt,W3,ρ2,p03,e2⟩
  |br=>cases e2;exact q W3 σ3 H3 p03
  |rt r=>cases e2;exact fun v hv=>q W3 σ3 H3 p03 v (hv.back p01)
 ·have e:k=ds.length:=by omega
  rw[List.drop_of_length_le (by omega),yx] at hf;cases hf;exact .inl ⟨hstop e,q W' σ' H' p⟩
variable {fa:Nat->List D->Option Ans} {sts:List Stmt} {ss:Ss}
theorem jk(i:Nat){rng:Bool}{src:Es}{px:Pos}(hp:PassesOwn (model X.prog X.w) X.A X.env X.xe)(hc:X.calm=true)(hN:X.N.Nodup)(hi:X.N[i]? =some x)(hx:wM X.env.scope x)(hs:Src X (zJ fa) (.Name x px) e rng src)(hb:ISs X (zp fa fuel ss) sts)
  (hf:X.fn x=true\/X.env.scope.names.lookup x=some .local:=by first|exact .inl rfl|exact .inr rfl|assumption) (hfo: ∀x,foldedSetIterable e X.env x=pure x:=by intro _;rfl):IS X (zH fa fuel (.for_ i rng src ss)) (.For (.Name x px) e sts [] pos):=
 .mk <| (qv hp hc hs.h (ZX hN hi hx hf) hb.h hfo).imp fun D0 σ H zz3=>by
  obtain⟨W,ρ,y,hR,hy,q⟩:=zz3;simp only[zkG,jo1] at hy;obtain⟨rs,e1,e2⟩:=hy;split at e2
  ·cases e2
  ·rename_i hl
   simp only[Bool.not_eq_true,Bool.or_eq_false_iff,Bool.not_eq_false'] at hl;rw[jo1] at e2;obtain⟨ds,e3,e4⟩:=e2;refine⟨W,ρ,rs,ds,hR,e1,e3,fun J H1 s1 _ hyl=>?_⟩;have p1:=SPost.same hR s1;exact XX p1.r (jJ hl.2) (hyl hl.1) e4 fun W' σ' H' p=>FlOk.back p1 (q W' σ' H' (p1.trans p hR))
theorem Yn(i j:Nat){y:Str}{px:Pos}(hp:PassesOwn (model X.prog X.w) X.A X.env X.xe)(hc:X.calm=true)(hN:X.N.Nodup)(hi:X.N[i]? =some x)(hx:wM X.env.scope x)(hj:X.N[j]? =some y)(hv:wq X.env.scope y)(hb:ISs X (zp fa fuel ss) sts)
  (hf:X.fn x=true\/X.env.scope.names.lookup x=some .local:=by first|exact .inl rfl|exact .inr rfl|assumption) (hd:(y==("__debug__":Str))=false:=by decide) (hcd:(y==("__classdict__":Str))=false:=by decide)
  (hfo: ∀x,foldedSetIterable (.Name y p) X.env x=pure x:=by intro _;rfl):IS X (zH fa fuel (.forV i j ss)) (.For (.Name x px) (.Name y p) sts [] pos):=
 .mk <| (qv hp hc (zcS (vG hj hv hd hcd)) (ZX hN hi hx hf) hb.h hfo).imp fun D0 σ H zz3=>by
  obtain⟨W,ρ,z,hR,hz,q⟩:=zz3;simp only[zkI] at hz;split at hz
  case isFalse=>cases hz
  rename_i hfr;have hfr:=jJ hfr;simp only[jo1,Yh] at hz;obtain⟨⟨ds,ρ1⟩,e1,e2⟩:=hz;split at e1
  ·rename_i d h
   rw[jo2] at e1;obtain⟨l,e3,e4⟩:=e1;cases e4;obtain⟨v,h1,h2⟩:=hR.val j d h;refine⟨v,h1,?_⟩;unfold xW at e3;split at e3
   ·cases e3
    cases h2 with
    |tup hq rp=>exact⟨_,rfl,.inr ⟨⟨_,.of hq⟩,XX hR hfr (fun W' H' x k=>gx (.of (x.tup _ _ hq)) (rp.ext x) k) e2 q⟩⟩
   ·cases e3
    cases h2 with
    |lst hq rp=>exact⟨_,rfl,.inl ⟨⟨_,hq.elim (fun z=>.inl z.2) fun z=>.inr z⟩,XX hR hfr (fun W' H' x k=>XW (Ym hq x) (rp.ext x) k) e2 q⟩⟩
   ·cases e3
  ·rename_i o es h
   cases e1
   cases o with
   |false=>exact KC h (hR.nol j _)
   |true=>
   obtain⟨a,xs,h1,h2,h3,h4⟩:=hR.own j _ _ h rfl
   cases h4 with
   |lst h4=>
   obtain⟨p1,rp⟩:=gv hR h h1;refine⟨_,h1,a,rfl,.inl ⟨⟨_,.of h3⟩,?_⟩⟩;refine XX p1.r (fun z=>hfr ((p1.io i).1.mp z)) (fun W' H' x k=>?_) e2 fun W' σ' H' p=>FlOk.back p1 (q W' σ' H' (p1.trans p hR))
   cases rp with
   |lst hq rp=>exact XW (Ym hq x) (rp.ext x) k
  ·cases e1
theorem Qw(hp:PassesOwn (model X.prog X.w) X.A X.env X.xe)(hc:IT X (zJ fa) c cc)(hb:ISs X (zp fa fuel ss) sts):IS X (zH fa fuel (.while_ cc ss)) (.While c sts [] pos):=
 .mk <| (ziC hp hc.h hb.h).imp fun D0 σ H zz3=>by
  obtain⟨W,ρ,y,hR,hy,q⟩:=zz3;simp only[zkJ] at hy;refine⟨fun m σ' H'=>∃W' ρ',SPost X.K W ρ σ H W' ρ' σ' H'/\wt (zB (zJ fa) cc) (zp fa fuel ss) m ρ'=some y,⟨fuel,W,ρ,.same hR (.refl H),hy⟩,?_⟩;rintro m σ' H' ⟨W',ρ',p,hw⟩
  cases m with
  |zero=>simp[wt] at hw
  |succ m=>
   rw[wt,jo1] at hw;obtain⟨k,e1,e2⟩:=hw;refine⟨W',ρ',k,p.r,e1,fun H1 s1=>?_⟩;have p1:=SPost.same p.r s1;have p01:=p.trans p1 hR
   cases k with
   |false=>
    rw[if_neg Km] at e2;cases e2;exact qH (q W' σ' H1 p01)
   |true=>
    rw[if_pos rfl] at e2;rw[jo1] at e2;obtain⟨⟨fl,ρ2⟩,e3,e4⟩:=e2;refine JP ⟨fun σ2 H2=>∃W' ρ',SPost X.K W ρ σ H W' ρ' σ2 H2/\wt (zB (zJ fa) cc) (zp fa fuel ss) m ρ'=some y,fun σ2 H2 h=>⟨m,Nat.lt_succ_self m,h⟩,?_⟩;refine⟨W',ρ',(fl,ρ2),p1.r,e3,fun W3 σ3 H3 p3=>?_⟩;have p03:=p01.trans p3 hR
    cases fl with
    |nx=>exact⟨W3,ρ2,p03,e4⟩
    |ct=>exact⟨W3,ρ2,p03,e4⟩
    |br=>cases e4;exact q W3 σ3 H3 p03
    |rt r=>cases e4;exact fun v hv=>q W3 σ3 H3 p03 v (hv.back p01)
end
theorem zcU(io:List Nat): ∀(ds:List D) (k i:Nat),(wC io k ds)[i]? =(ds[i]?).map fun d=>some (if io.contains (k+i) then SV.io d else .val d)
 |[],k,i=>by simp[wC]
 |d::r,k,0=>by simp[wC]
 |d::r,k,i+1=>by
  rw[wC,List.getElem?_cons_succ,zcU io r (k+1) i,List.getElem?_cons_succ];have:k+1+i=k+(i+1):=by omega
  rw[this]
theorem Qx(io:List Nat): ∀(ds:List D) (k:Nat),(wC io k ds).length=ds.length
 |[],k=>rfl
 |d::r,k=>by simp[wC,Qx io r (k+1)]
theorem zlc{io:List Nat}{ds:List D}{n:Nat}{i:Nat}{x:SV}(h:(wC io 0 ds++List.replicate n Option.none)[i]? =some (some x)):
  ∃d,ds[i]? =some d/\x=if io.contains i then SV.io d else .val d:=by
 by_cases hi:i<ds.length
 ·rw[List.getElem?_append_left (by rw[Qx];exact hi),zcU,jo2] at h
  obtain⟨d,e1,e2⟩:=h;rw[Nat.zero_add] at e2;exact⟨d,e1,(Kn e2).symm⟩
 ·rw[List.getElem?_append_right (by rw[Qx];omega)] at h
  rw[List.getElem?_replicate] at h;split at h<;>cases h
theorem Yo{N:List Str}{vs:List V}{i:Nat}{v:V}(h:vs[i]? =some v):(wH N vs)[i]? =some (some v):=by
 have hi:i<vs.length:=(List.getElem?_eq_some_iff.mp h).1;unfold wH;rw[List.getElem?_append_left (by simpa using hi),List.getElem?_map,h];rfl
theorem gz{K:Ka}{W W':Addr->Prop}{H':Hp}{ρ':LW.Env}{σ':St}{vs:List V}(hR:R K W' ρ' σ' H')(sub: ∀b,W b->W' b): ∀{io:List Nat} {outs:List D},wY ρ' io=some outs->(∀k∈io,xJ ρ' k->∃a,σ'[k]? =some (some (.ref a))/\vs[k]? =some (.ref a))->Qo K W H' io vs outs
 |[],outs,e,_=>by simp only[wY] at e;cases e;exact .nil
 |k::r,outs,e,hs=>by
  simp only[wY] at e;split at e
  ·rename_i d h
   rw[jo2] at e;obtain⟨l,e1,rfl⟩:=e;obtain⟨a,h1,h2⟩:=hs k Ke ⟨d,h⟩;obtain⟨a',o,h3,_,h5,h6⟩:=hR.own k _ d h rfl;rw[h1] at h3;cases h3;exact .cons ⟨a,o,h2,h5,h6.less sub⟩ (gz hR sub e1 fun j hj=>hs j (Kf _ hj))
  ·cases e
theorem ye{Pg:Program}{w:World}{K:Ka}{mg:Str->Option Value}{base:Heap}{x qual:Str}{st:Stmt}{f:Addr}{fd:FuncData}{N ps:List Str}{k n i:Nat}{P:Nat->Option Fn}{fuel:Nat}{F0:Fn}{io:List Nat}
  (F:Fun K x qual st f fd) (S:FnScope N ps (zu st)) (hP:P i=some F0) (hnp:F0.np=ps.length) (hnl:F0.nl=N.length) (hio:F0.io=io) (hiop:io.all (fun k=>decide (k<F0.np))=true) (hxb:F0.xb=Option.none)
  (hbody: ∀(cdv:Value) (A:Around) (outer:List PySem.Env) (s:Shared) (H:Hp) (E:XK),Room k (A.deeper (envOfC qual (zu st) s.heap.objs.size f cdv))->
   ISs (jB wr Pg w K mg base N qual (zu st) f cdv A outer s H E).nox (zp (zD P fuel n) fuel F0.body) (jf st)):
  FnOk Pg w K mg base wr (k+1) f fd ps (vf K (zD P fuel (n+1)) i io):=by
 subst hio
 have dec: ∀{ds:List D} {r:Ans},zD P fuel (n+1) i ds=some r->ds.length=F0.np/\jh F0.io (zp (zD P fuel n) fuel F0.body (wC F0.io 0 ds++List.replicate (F0.nl-F0.np) Option.none))=some r:=fun {ds r} h=>by
  rw[zD,hP] at h;simp only[Option.bind_some,hxb] at h;split at h
  ·exact⟨by assumption,h⟩
  ·cases h
 refine F.ok S (fun vs H Q E h=>?_) (fun cdv A outer s H vs Q E hr h=>⟨_,(hbody cdv A outer s H E hr).h,?_⟩)
 ·obtain⟨W,ds,r,outs,wf,rp,e,_⟩:=h
  rw[<-rp.len,(dec e).1,hnp]
 ·obtain⟨W,ds,r,outs,wf,rp,e,q⟩:=h
  obtain⟨hl,he⟩:=dec e;have hlv:=rp.len;have hplN:ps.length<=N.length:=by have:=congrArg List.length S.pre;rw[List.length_take] at this;omega
  generalize hρ:wC F0.io 0 ds++List.replicate (F0.nl-F0.np) Option.none=ρ at he;have at_: ∀{j:Nat} {x:SV},ρ[j]? =some (some x)->∃d,ds[j]? =some d/\x=if F0.io.contains j then SV.io d else .val d:=fun {j x} h=>by rw[<-hρ] at h;exact zlc h
  have own_io: ∀a,wd ρ (wH N vs) a->XT F0.io vs a:=fun a zz1=>by
   obtain⟨j,x,d,h1,hc,h2⟩:=zz1;obtain⟨d',e1,e2⟩:=at_ h1;split at e2
   ·rename_i hj
    have hj:j∈F0.io:=by simpa using hj
    obtain⟨b,o,h3,_⟩:=rp.obj j d' e1 hj;rw[Yo h3] at h2;cases h2;exact⟨j,hj,h3⟩
   ·subst e2;cases hc
  have hR:R K W ρ (wH N vs) H:=by
   refine⟨fun j d h=>?_,fun j d h=>?_,fun j x d h hc=>?_,fun j k x y d e a h1 h2 c1 c2 h3 h4=>?_,wf,?_⟩
   ·obtain⟨d',e1,e2⟩:=at_ h
    split at e2
    ·cases e2
    ·rename_i hj
     cases e2;obtain⟨v,h1,h2⟩:=rp.val j d e1 (by simpa using hj);exact⟨v,Yo h1,h2⟩
   ·obtain⟨d',e1,e2⟩:=at_ h
    split at e2<;>cases e2
   ·obtain⟨d',e1,e2⟩:=at_ h
    split at e2
    ·rename_i hj
     subst e2;cases hc;obtain⟨b,o,h3,h4,h5,h6⟩:=rp.obj j d e1 (by simpa using hj);exact⟨b,o,Yo h3,h4,h5,h6⟩
    ·subst e2;cases hc
   ·obtain⟨d1,e1,e2⟩:=at_ h1
    obtain⟨d2,e3,e4⟩:=at_ h2;split at e2
    ·rename_i hj
     split at e4
     ·rename_i hk
      have hj:j∈F0.io:=by simpa using hj
      have hk:k∈F0.io:=by simpa using hk
      obtain⟨b,o,z1,_⟩:=rp.obj j d1 e1 hj;obtain⟨b',o',z2,_⟩:=rp.obj k d2 e3 hk;rw[Yo z1] at h3;cases h3;rw[Yo z2] at h4;cases h4;exact rp.inj j k _ hj hk z1 z2
     ·subst e4;cases c2
    ·subst e2;cases c1
   ·rw[<-hρ]
    unfold wH;rw[List.length_append,List.length_append,Qx,List.length_map,List.length_replicate,List.length_replicate];omega
  cases hx:zp (zD P fuel n) fuel F0.body ρ with
  |none=>rw[hx] at he;cases he
  |some y=>
   rw[hx] at he;obtain⟨fl,ρ'⟩:=y;refine⟨W,ρ,(fl,ρ'),hR,hx,fun W' σ' H' p=>?_⟩;have kp: ∀a o,H a=some o->¬XT F0.io vs a->H' a=some o:=fun b o h n=>p.keep b o h fun z=>n (own_io b z)
   have io_at: ∀k∈F0.io,xJ ρ' k->∃a,σ'[k]? =some (some (.ref a))/\vs[k]? =some (.ref a):=fun j hj z=>by
    have z0:=(p.io j).1.mp z;obtain⟨d0,z1⟩:=z0;obtain⟨d',e1,e2⟩:=at_ z1;obtain⟨b,o,h3,_⟩:=rp.obj j d' e1 hj;exact⟨b,by rw[(p.io j).2 ⟨d0,z1⟩,Yo h3],h3⟩
   have sub: ∀b,W b->W' b:=fun b w=>by
    by_cases hb:wd ρ (wH N vs) b
    ·obtain⟨j,x,d,h1,hc,h2⟩:=hb
     obtain⟨d',e1,e2⟩:=at_ h1;split at e2
     ·subst e2
      obtain⟨d2,z⟩:=(p.io j).1.mpr ⟨d',h1⟩;obtain⟨a',o,h3,h4,_⟩:=p.r.own j _ d2 z rfl;rw[(p.io j).2 ⟨d',h1⟩,h2] at h3;cases h3;exact h4
     ·subst e2;cases hc
    ·exact (p.wout b w hb).1
   cases fl with
   |br=>cases he
   |ct=>cases he
   |nx=>
    simp only[jh,jo2] at he;obtain⟨l,e1,e2⟩:=he;cases e2;exact q _ H' kp (gz p.r sub e1 io_at) (.val .non)
   |rt r'=>
    simp only[jh,jo2] at he;obtain⟨l,e1,e2⟩:=he;cases e2;intro v hv;have ho:=gz p.r sub e1 io_at
    cases hv with
    |val h=>exact q v H' kp ho (.val (h.less sub))
    |new h nn n' eL rr=>
     have ha:=(p.win _ h).resolve_left fun w=>nn ⟨w,fun zz0=>by
      obtain⟨j,x,d,h1,hc,h2⟩:=zz0;obtain⟨d',e1,e2⟩:=at_ h1;split at e2
      ·subst e2;exact n' ⟨j,⟨d',h1⟩,h2⟩
      ·subst e2;cases hc⟩
     refine q _ H' kp ho (.new ha eL (rr.less fun b w=>?_));rcases w with w|rfl
     ·exact sub b w
     ·exact h
end L2.LW
set_option maxHeartbeats 4000000
namespace L2.LW
open PySem PySem.Spec PyProof.Rows
noncomputable def ww(env:PySem.Env):List (Str×NameKind)->List (Str×Addr)->List (Str×Addr)
 |[],acc=>acc
 |(n,k)::r,acc=>if k== .free then ww env r ((n,(env.cells.lookup n).getD 0)::acc) else ww env r acc
theorem zcV(env:PySem.Env): ∀(names:List (Str×NameKind)) (acc:List (Str×Addr)),(∀y∈names,y.2= .free->(env.cells.lookup y.1).isSome=true)->
  (forIn names acc fun (x:Str×NameKind) (cs:List (Str×Addr))=>(if (x.2==NameKind.free)=true then (do let c <-cellOf env x.1;pure (ForInStep.yield ((x.1,c)::cs)):Sem (ForInStep (List (Str×Addr)))) else pure (ForInStep.yield cs)))=(pure (ww env names acc):Sem (List (Str×Addr)))
 |[],acc,_=>rfl
 |(n,k)::r,acc,h=>by
  have ih:=fun acc=>zcV env r acc fun y hy=>h y (Kf _ hy)
  rw[List.forIn_cons];by_cases hk:(k==NameKind.free)=true
  ·have hs:=h (n,k) Ke (by simpa using hk)
   obtain⟨c,hc⟩:=Option.isSome_iff_exists.mp hs;have hc:env.cells.lookup n=some c:=hc;simp only[hk,if_true,cellOf,hc,ww,Option.getD_some];show (forIn r ((n,c)::acc) _:Sem _)=_;exact ih _
  ·simp only[hk,if_false,ww]
   show (forIn r acc _:Sem _)=_;exact ih _
theorem zcW{scope:Scope}{env:PySem.Env}(h: ∀y∈scope.names,y.2= .free->(env.cells.lookup y.1).isSome=true):closureFor scope env=pure (ww env scope.names []):=by
 have key:closureFor scope env=((forIn scope.names ([]:List (Str×Addr)) fun (x:Str×NameKind) (cs:List (Str×Addr))=>
  (if (x.2==NameKind.free)=true then (do let c <-cellOf env x.1;pure (ForInStep.yield ((x.1,c)::cs)):Sem (ForInStep (List (Str×Addr)))) else pure (ForInStep.yield cs))) >>= fun cs=>pure cs):=rfl
 rw[key,zcV env scope.names [] h];rfl
theorem Qy{env:PySem.Env}{y:Str}{c:Addr}: ∀{names:List (Str×NameKind)} {acc:List (Str×Addr)},(∀z∈names,z.2= .free->(env.cells.lookup z.1).isSome=true)->(ww env names acc).lookup y=some c->
  acc.lookup y=some c\/env.cells.lookup y=some c
 |[],_,_,e=>.inl e
 |(n,k)::r,acc,h,e=>by
  unfold ww at e;split at e
  ·rename_i hk
   rcases Qy (fun z hz=>h z (Kf _ hz)) e with q|q
   ·rw[List.lookup_cons] at q
    split at q
    ·rename_i hy
     have hy:y=n:=by simpa using hy
     subst hy;obtain⟨c',hc⟩:=Option.isSome_iff_exists.mp (h (y,k) Ke (by simpa using hk));have hc:env.cells.lookup y=some c':=hc;rw[hc] at q;cases q;exact .inr hc
    ·exact .inl q
   ·exact .inr q
  ·exact Qy (fun z hz=>h z (Kf _ hz)) e
theorem gA{env:PySem.Env}{y:Str}: ∀{names:List (Str×NameKind)} {acc:List (Str×Addr)},((acc.lookup y).isSome=true\/(y,NameKind.free)∈names)->((ww env names acc).lookup y).isSome=true
 |[],acc,h=>by
  rcases h with h|h
  ·exact h
  ·cases h
 |(n,k)::r,acc,h=>by
  unfold ww;split
  ·rename_i hk
   refine gA ?_;by_cases e:y=n
   ·subst e;exact .inl (by simp)
   ·have hb:(y==n)=false:=by simpa using e
    rcases h with h|h
    ·exact .inl (by rw[List.lookup_cons,hb];exact h)
    ·rcases List.mem_cons.mp h with z|z
     ·cases z;exact KC rfl e
     ·exact .inr z
  ·rename_i hk
   refine gA ?_;rcases h with h|h
   ·exact .inl h
   ·rcases List.mem_cons.mp h with z|z
    ·cases z;exact KC rfl hk
    ·exact .inr z
noncomputable def wJ(x:Str)(N:List Str):List Str:=N.map fun y=>if y=x then ("":Str) else y
noncomputable def vQ(scope:Scope)(x:Str)(c:Addr)(cl:List (Str×Addr)):List (Str×Addr):=if scope.names.lookup x=some .cell then (x,c)::cl else cl
noncomputable def yy(X:Cx)(scope:Scope)(x:Str)(s₃:Shared)(H₃:Hp)(fp:List Addr)(pins:List (Addr×Obj)):Cx:=
 { X with N:=x::wJ x X.N,s₀:=s₃,H₀:=H₃,env:=compEnvC scope (vQ scope x (s₃.heap.objs.size+1) (ww X.env scope.names [])) s₃.heap.objs.size X.env,outer:=X.stack,stack:=X.stack,ex:=fp,fn:=fun y=>decide (y=x)&&decide (scope.names.lookup x=some .cell),pn:=X.pn++pins,xe:=fun _ _=>False }
structure CompSc (X:Cx)(scope:Scope)(x:Str):Prop where
 kind:scope.kind= .function
 loc:scope.names.lookup x=some .local\/scope.names.lookup x=some .cell
 names: ∀y∈scope.names,y.2= .local->scope.names.lookup y.1=some .local
 cell1:scope.names.filter (fun y=>y.2== .cell)=if scope.names.lookup x=some .cell then [(x,.cell)] else []
 free: ∀y∈scope.names,y.2= .free->X.env.scope.names.lookup y.1=some .cell\/X.env.scope.names.lookup y.1=some .free
 own: ∀y∈X.N,scope.names.lookup y=some .local->y=x
 none:scope.names.lookup ("":Str)=Option.none
 nd:(x::wJ x X.N).Nodup
theorem Qz{y:Str}{k:NameKind}: ∀{l:List (Str×NameKind)},l.lookup y=some k->(y,k)∈l
 |[],h=>by cases h
 |(n,j)::r,h=>by
  rw[List.lookup_cons] at h;split at h
  ·rename_i e
   have e:y=n:=by simpa using e
   cases h;subst e;exact Ke
  ·exact Kf _ (Qz h)
theorem Yp{env:PySem.Env}{y:Str}{k:NameKind}: ∀{names:List (Str×NameKind)},
  (names.map fun (z:Str×NameKind)=>match z with|(n,k)=>if (k==NameKind.free&&env.scope.kind== .function&&env.kindOf n==some .cell)=true then (n,NameKind.cell) else (n,k)).lookup y=some k->
  names.lookup y=some k\/(k= .cell/\names.lookup y=some .free)
 |[],h=>by cases h
 |(n,j)::r,h=>by
  rw[List.map_cons,List.lookup_cons] at h;rw[List.lookup_cons];by_cases hc:(j==NameKind.free&&env.scope.kind== .function&&env.kindOf n==some .cell)=true
  ·simp only[hc,if_true] at h
   cases e:y==n with
   |true=>
    rw[e] at h;cases h
    have hj:j= .free:=by
     simp only[Bool.and_eq_true] at hc;simpa using hc.1.1
    exact .inr ⟨rfl,by rw[hj]⟩
   |false=>rw[e] at h;exact Yp h
  ·simp only[hc,Bool.false_eq_true,if_false] at h
   cases e:y==n with
   |true=>rw[e] at h;exact .inl h
   |false=>rw[e] at h;exact Yp h
section
variable {X:Cx} {scope:Scope} {x:Str} {s₃:Shared} {H₃:Hp} {fp:List Addr} {pins:List (Addr×Obj)} {σ:St}
theorem CompSc.onlyC(S:CompSc X scope x){y:Str}(h:scope.names.lookup y=some .cell):y=x/\scope.names.lookup x=some .cell:=by
 have hm:(y,NameKind.cell)∈scope.names.filter (fun y=>y.2== .cell):=List.mem_filter.mpr ⟨Qz h,rfl⟩;rw[S.cell1] at hm;split at hm
 ·simp at hm;subst hm;exact⟨rfl,h⟩
 ·cases hm
theorem zcX{x:Str}: ∀(names:List (Str×NameKind)) (a:Nat) (acc:List (Str×Addr)) (h:Heap),names.filter (fun y=>y.2== .cell)=[(x,.cell)]->cellsFrom a names acc=(x,a)::acc/\pushCells h names=h.push { cls:=.type "cell",data:=.cell Option.none }
 |[],_,_,_,e=>by cases e
 |(n,k)::r,a,acc,h,e=>by
  have none_: ∀(names:List (Str×NameKind)) (a:Nat) (acc:List (Str×Addr)) (h:Heap),names.filter (fun y=>y.2== .cell)=[]->cellsFrom a names acc=acc/\pushCells h names=h:=by
   intro names
   induction names with
   |nil=>intro a acc h _;exact⟨rfl,rfl⟩
   |cons y r ih=>
    intro a acc h e;obtain⟨n,k⟩:=y;rw[List.filter_cons] at e;split at e
    ·cases e
    ·rename_i hk
     have hk:(k==NameKind.cell)=false:=by simpa using hk
     unfold cellsFrom pushCells;rw[hk];exact ih a acc h e
  rw[List.filter_cons] at e;split at e
  ·rename_i hk
   injection e with e1 e2;cases e1;unfold cellsFrom pushCells;simp only[beq_self_eq_true,if_true];exact none_ r _ _ _ e2
  ·rename_i hk
   have hk:(k==NameKind.cell)=false:=by simpa using hk
   unfold cellsFrom pushCells;rw[hk];exact zcX r a acc h e
theorem zcY: ∀(names:List (Str×NameKind)) (a:Nat) (acc:List (Str×Addr)) (h:Heap),names.filter (fun y=>y.2== .cell)=[]->cellsFrom a names acc=acc/\pushCells h names=h
 |[],_,_,_,_=>⟨rfl,rfl⟩
 |(n,k)::r,a,acc,h,e=>by
  rw[List.filter_cons] at e;split at e
  ·cases e
  ·rename_i hk
   have hk:(k==NameKind.cell)=false:=by simpa using hk
   unfold cellsFrom pushCells;rw[hk];exact zcY r a acc h e
theorem zcZ{M:Model}{A:Around}{E:Value->Shared->Prop}{s:Shared}{globals:Addr}{cl:List (Str×Addr)}{qual:Str}{env:PySem.Env}{Q:PySem.Env->Shared->Prop}(S:CompSc X scope x)
  (h: ∀h₁,h₁.Ns s.heap.objs.size (fun _=>Option.none)->(∀b o,s.heap.get? b=some o->h₁.get? b=some o)->(scope.names.lookup x=some .cell->h₁.IsCell (s.heap.objs.size+1) Option.none)->
   Q (newEnv scope s.heap.objs.size globals (vQ scope x (s.heap.objs.size+1) cl) qual Option.none .none (some env) builtinsNs) { s with heap:=h₁ }):
  wpAny M A (newFunctionEnv scope globals cl [] qual Option.none .none (some env)) Q E s:=by
 simp only[newFunctionEnv,Option.isSome_some,if_true];refine Kb (wpAny_alloc ?_);refine Kb (wpAny_layCells _ (fun name kind cells=>by cases hkc:kind==NameKind.cell<;>simp[hkc]) _ _ _ _ ?_);rw[List.forIn_nil];refine Kb (Kc (Kc ?_));rw[show ({ s with heap:=s.heap.push { cls:=.type "dict",data:=.dict #[] } }:Shared).heap.objs.size=s.heap.objs.size+1 from Heap.size_push ..];have hc:=S.cell1;by_cases hx:scope.names.lookup x=some .cell
 ·rw[if_pos hx] at hc
  obtain⟨e1,e2⟩:=zcX (x:=x) scope.names (s.heap.objs.size+1) cl (s.heap.push { cls:=.type "dict",data:=.dict #[] }) hc
  have h':=h (pushCells (s.heap.push { cls:=.type "dict",data:=.dict #[] }) scope.names) ((Heap.Ns.new s.heap (.type "dict")).keeps (pushCells_keeps _ _)) (fun b o e=>pushCells_keeps _ _ b o (Kl _ e)) (fun _=>by
   rw[e2];have:(s.heap.push { cls:=.type "dict",data:=.dict #[] }).objs.size=s.heap.objs.size+1:=Heap.size_push ..;rw[<-this];exact⟨_,Heap.get?_push_size _ rfl,rfl⟩)
  rw[e1];unfold vQ at h';rw[if_pos hx] at h';exact h'
 ·rw[if_neg hx] at hc
  obtain⟨e1,e2⟩:=zcY scope.names (s.heap.objs.size+1) cl (s.heap.push { cls:=.type "dict",data:=.dict #[] }) hc;have h':=h (pushCells (s.heap.push { cls:=.type "dict",data:=.dict #[] }) scope.names) ((Heap.Ns.new s.heap (.type "dict")).keeps (pushCells_keeps _ _)) (fun b o e=>pushCells_keeps _ _ b o (Kl _ e)) (fun z=>KC z hx);rw[e1];unfold vQ at h';rw[if_neg hx] at h';exact h'
theorem CompSc.cells(S:CompSc X scope x)(ok:X.Ok): ∀y∈scope.names,y.2= .free->(X.env.cells.lookup y.1).isSome=true:=fun y hy hk=>by
 obtain⟨c,hc⟩:=ok.has y.1 (S.free y hy hk);rw[hc];rfl
theorem CompSc.look(S:CompSc X scope x)(ok:X.Ok){y:Str}{c:Addr}(h:(yy X scope x s₃ H₃ fp pins).env.cells.lookup y=some c):
  (y=x/\scope.names.lookup x=some .cell/\c=s₃.heap.objs.size+1)\/((y≠x\/scope.names.lookup x≠some .cell)/\X.env.cells.lookup y=some c):=by
 have h:(vQ scope x (s₃.heap.objs.size+1) (ww X.env scope.names [])).lookup y=some c:=h
 have old:(ww X.env scope.names []).lookup y=some c->X.env.cells.lookup y=some c:=fun h=>by
  rcases Qy (S.cells ok) h with q|q
  ·cases q
  ·exact q
 unfold vQ at h;split at h
 ·rename_i hc
  rw[List.lookup_cons] at h;split at h
  ·rename_i e
   cases h;exact .inl ⟨by simpa using e,hc,rfl⟩
  ·rename_i e
   exact .inr ⟨.inl (by simpa using e),old h⟩
 ·rename_i hc
  exact .inr ⟨.inr hc,old h⟩
theorem CompSc.kindOf(S:CompSc X scope x){y:Str}(h:(yy X scope x s₃ H₃ fp pins).env.kindOf y=some .cell\/(yy X scope x s₃ H₃ fp pins).env.kindOf y=some .free):scope.names.lookup y=some .free\/(y=x/\scope.names.lookup x=some .cell):=by
 rcases h with h|h
 ·rcases Yp (show _=_ from h) with q|⟨_,q⟩
  ·exact .inr (S.onlyC q)
  ·exact .inl q
 ·rcases Yp (show _=_ from h) with q|⟨z,q⟩
  ·exact .inl q
  ·cases z
theorem CompSc.has(S:CompSc X scope x){y:Str}(h:scope.names.lookup y=some .free): ∃c,(yy X scope x s₃ H₃ fp pins).env.cells.lookup y=some c/\(ww X.env scope.names []).lookup y=some c:=by
 obtain⟨c,hc⟩:=Option.isSome_iff_exists.mp (gA (env:=X.env) (names:=scope.names) (acc:=[]) (y:=y) (.inr (Qz h)));refine⟨c,?_,hc⟩;show (vQ scope x (s₃.heap.objs.size+1) (ww X.env scope.names [])).lookup y=some c;unfold vQ;split
 ·rename_i hx
  have:(y==x)=false:=by
   cases e:y==x with
   |false=>rfl
   |true=>
    have e:y=x:=by simpa using e
    subst e;rw[h] at hx;cases hx
  rw[List.lookup_cons,this];exact hc
 ·exact hc
theorem gB{env:PySem.Env}{y:Str}: ∀{names:List (Str×NameKind)},names.lookup y=some .cell->
  (names.map fun (z:Str×NameKind)=>match z with|(n,k)=>if (k==NameKind.free&&env.scope.kind== .function&&env.kindOf n==some .cell)=true then (n,NameKind.cell) else (n,k)).lookup y=some .cell
 |[],h=>by cases h
 |(n,j)::r,h=>by
  rw[List.lookup_cons] at h;rw[List.map_cons,List.lookup_cons];by_cases hc:(j==NameKind.free&&env.scope.kind== .function&&env.kindOf n==some .cell)=true
  ·simp only[hc,if_true]
   cases e:y==n with
   |true=>rfl
   |false=>rw[e] at h;exact gB h
  ·simp only[hc,Bool.false_eq_true,if_false]
   cases e:y==n with
   |true=>rw[e] at h;exact h
   |false=>rw[e] at h;exact gB h
theorem CompSc.locX(S:CompSc X scope x):wM (yy X scope x s₃ H₃ fp pins).env.scope x:=by
 rcases S.loc with h|h
 ·exact .inl (lookup_relabel_local h)
 ·exact .inr (gB h)
theorem CompSc.fnX(S:CompSc X scope x):(yy X scope x s₃ H₃ fp pins).fn x=true\/(yy X scope x s₃ H₃ fp pins).env.scope.names.lookup x=some .local:=by
 rcases S.loc with h|h
 ·exact .inr (lookup_relabel_local h)
 ·left
  show (decide (x=x)&&decide (scope.names.lookup x=some .cell))=true;simp[h]
theorem zc0(S:CompSc X scope x)(I:Inv X pins σ H₃ s₃)(hf: ∀b∈fp,xU X pins H₃ b)(hlt: ∀b∈fp,b<s₃.heap.objs.size):(yy X scope x s₃ H₃ fp pins).Ok where
 mod:=I.ok.mod
 kind:=S.kind
 glob:=I.ok.glob
 blt:=I.ok.blt
 above:=Nat.le_refl _
 inj:=fun y z c h1 h2=>by
  have old: ∀{y:Str} {c:Addr},X.env.cells.lookup y=some c->c<s₃.heap.objs.size:=fun {y c} h=>by
   obtain⟨v,o,ho,_⟩:=I.cell y c h;exact Kk ho
  rcases S.look I.ok h1 with ⟨e1,_,e2⟩|⟨_,q1⟩
  ·rcases S.look I.ok h2 with ⟨e3,_,e4⟩|⟨_,q2⟩
   ·rw[e1,e3]
   ·have:=old q2;rw[e2] at this;exact KC this (Nat.not_lt.mpr (Kj _))
  ·rcases S.look I.ok h2 with ⟨e3,_,e4⟩|⟨_,q2⟩
   ·have:=old q1;rw[e4] at this;exact KC this (Nat.not_lt.mpr (Kj _))
   ·exact I.ok.inj y z c q1 q2
 has:=fun y h=>by
  rcases S.kindOf h with q|⟨q1,q2⟩
  ·obtain⟨c,hc,_⟩:=S.has (s₃:=s₃) (H₃:=H₃) (fp:=fp) (pins:=pins) q
   exact⟨c,hc⟩
  ·refine⟨s₃.heap.objs.size+1,?_⟩
   show (vQ scope x (s₃.heap.objs.size+1) (ww X.env scope.names [])).lookup y=_;unfold vQ;rw[if_pos q2,q1,List.lookup_cons,beq_self_eq_true]
 cab:=fun y c h hc=>by
  have h:(decide (y=x)&&decide (scope.names.lookup x=some .cell))=true:=h;rw[Bool.and_eq_true,decide_eq_true_iff,decide_eq_true_iff] at h;rcases S.look I.ok hc with ⟨_,_,e⟩|⟨q,_⟩
  ·rw[e];exact Kj _
  ·exact KC h (fun z=>q.elim (fun w=>w z.1) fun w=>w z.2)
 hd:=I.ok.hd
 frames:=I.ok.frames
 stk:=.inl rfl
 exf:=fun b hb=>⟨Kh (hlt b hb),fun y c h=>by
  rcases S.look I.ok h with ⟨_,_,e⟩|⟨_,q⟩
  ·rw[e];exact fun z=>KC (z▸hlt b hb) (Nat.not_lt.mpr (Kj _))
  ·exact (hf b hb).2.2.2.2.1 y c q⟩
 bs:=I.bs
 bsz:=Kg I.ok.bsz I.sz
 noex:=fun b o e hb=>by
  obtain⟨_,_,_,h,_⟩:=hf b hb;rcases h with h|h
  ·exact I.ok.noex b o e h
  ·exact KC (Ki (Kk e) (Kg I.ok.bsz h)) (Nat.lt_irrefl _)
 exfs:=fun b hb hz=>by
  obtain⟨_,h1,h2,_⟩:=hf b hb;rcases List.mem_cons.mp (I.stkSub b hz) with e|e
  ·exact h1 e
  ·exact h2 e
 funs:=I.stack
 frf:=I.stkFree
theorem zld{N:List Str}{i:Nat}{y:Str}(h:(wJ x N)[i]? =some y): ∃z,N[i]? =some z/\((z=x/\y="")\/(z≠x/\y=z)):=by
 unfold wJ at h;rw[List.getElem?_map,jo2] at h;obtain⟨z,e1,e2⟩:=h;refine⟨z,e1,?_⟩;split at e2
 ·exact .inl ⟨by assumption,e2.symm⟩
 ·exact .inr ⟨by assumption,e2.symm⟩
theorem zc1{h₁:Heap}{tk:Nat}(S:CompSc X scope x)(I:Inv X pins σ H₃ s₃)(hf: ∀b∈fp,xU X pins H₃ b)(hlt: ∀b∈fp,b<s₃.heap.objs.size)(hns:h₁.Ns s₃.heap.objs.size fun _=>Option.none)
  (hk: ∀b o,s₃.heap.get? b=some o->h₁.get? b=some o) (vH:scope.names.lookup x=some .cell->h₁.IsCell (s₃.heap.objs.size+1) Option.none):Inv (yy X scope x s₃ H₃ fp pins) [] (Option.none::σ) H₃ { s₃ with heap:=h₁,toks:=tk }:=by
 refine⟨zc0 S I hf hlt,rfl,I.bare,Un.kept hk,⟨_,hns,fun i y v h1 h2 h3=>?_⟩,fun y c h=>?_,I.hok.fresh (Nat.le_refl _),fun y c h=>?_,fun p hp=>?_,I.hok.kept hk,?_⟩
 ·cases i with
  |zero=>cases h2
  |succ i=>
   have h1:(wJ x X.N)[i]? =some y:=h1;have h2:σ[i]? =some (some v):=h2;obtain⟨z,e1,e2⟩:=zld h1
   have vis:scope.names.lookup y=some .local\/scope.names.lookup y=some .free:=by
    rcases h3 with q|q
    ·rcases Yp (show _=_ from q) with q|⟨z,q⟩
     ·exact .inl q
     ·cases z
    ·rcases S.kindOf q with q|⟨q,_⟩
     ·exact .inr q
     ·exfalso
      rcases e2 with ⟨_,z⟩|⟨ne,z⟩
      ·have hx:x="":=q.symm.trans z
       have hn:=S.none;rw[<-hx] at hn;rcases S.loc with w|w<;>rw[hn] at w<;>cases w
      ·exact ne (z.symm.trans q)
   rcases e2 with ⟨rfl,rfl⟩|⟨ne,rfl⟩
   ·rw[S.none] at vis
    rcases vis with q|q<;>cases q
   ·rcases vis with q|q
    ·exact KC (S.own y (Ky e1) q) ne
    ·have kx:=S.free _ (Qz q) rfl
     obtain⟨m,_,hl⟩:=I.loc;obtain⟨u,ru,l⟩:=hl i y v e1 h2 (.inr kx);refine⟨u,ru,.inr ⟨?_,?_⟩⟩
     ·rcases h3 with q'|q'
      ·rcases Yp (show _=_ from q') with q'|⟨z,_⟩
       ·rw[q] at q';cases q'
       ·cases z
      ·exact q'
     ·rcases l with ⟨k,_⟩|⟨_,c,hc,hcell'⟩
      ·have k:X.env.scope.names.lookup y=some .local:=k
       rcases kx with z|z
       ·have z:X.env.scope.names.lookup y=some .cell:=z
        rw[z] at k;cases k
       ·have z:X.env.scope.names.lookup y=some .free:=z
        rw[z] at k;cases k
      ·obtain⟨c',hc',hc2⟩:=S.has (s₃:=s₃) (H₃:=H₃) (fp:=fp) (pins:=pins) q
       have e:X.env.cells.lookup y=some c':=by
        rcases Qy (S.cells I.ok) hc2 with q|q
        ·cases q
        ·exact q
       rw[hc] at e;cases e;obtain⟨o,ho,hd⟩:=hcell';exact⟨c,hc',o,hk _ _ ho,hd⟩
 ·rcases S.look I.ok h with ⟨_,q,e⟩|⟨_,q⟩
  ·rw[e];exact⟨Option.none,vH q⟩
  ·obtain⟨v,o,ho,hd⟩:=I.cell y c q
   exact⟨v,o,hk _ _ ho,hd⟩
 ·rcases S.look I.ok h with ⟨_,q,e⟩|⟨_,q⟩
  ·rw[e];exact I.hok.fresh (Kj _)
  ·exact I.freeC y c q
 ·have hp:p∈X.pn++pins:=by simpa [yy] using hp
  obtain⟨e,n,ne,nf,d⟩:=I.pin p hp;refine⟨hk _ _ e,n,Kh (Kk e),fun z=>?_,d⟩;rcases List.mem_cons.mp (I.stkSub _ z) with q|q
  ·exact ne q
  ·exact nf q
 ·show σ.length+1=(x::wJ x X.N).length
  unfold wJ;rw[List.length_cons,List.length_map,I.len]
theorem zc2{s':Shared}{h':Heap}{H':Hp}{σ':St}{ps:List (Addr×Obj)}(I:Inv X pins σ H₃ s₃)(hf: ∀b∈fp,xU X pins H₃ b)(J:Inv (yy X scope x s₃ H₃ fp pins) ps σ' H' s')(hs:Heap.SameBut s₃.heap.objs.size s'.heap h'):
  Inv X pins σ H' { s' with heap:=h' }:=by
 have ne: ∀b o,s₃.heap.get? b=some o->b≠s₃.heap.objs.size:=fun b o e=>Kh (Kk e)
 have fr:H' s₃.heap.objs.size=Option.none:=J.free;have same: ∀b,b≠s₃.heap.objs.size->h'.get? b=s'.heap.get? b:=fun b hb=>hs.2 b hb
 refine I.call' (s':={ s' with heap:=h' }) (ch:=fp) J.os ⟨fun b o e n hb hx=>?_,fun b o e n hb hx=>?_,fun b o e n hx=>J.base.free b o e n hx,fun b o e hx=>?_,J.base.tups,J.base.frzs,J.base.tbls⟩ (fun b o e=>?_) J.bare fun b hb=>?_
 ·exact (same b (ne b o e)).trans (J.base.keep b o e n hb hx)
 ·obtain⟨sl,q⟩:=J.base.slot b o e n hb hx
  exact⟨sl,(same b (ne b o e)).trans q⟩
 ·obtain⟨o',q⟩:=J.base.there b o e hx
  exact⟨o',(same b (ne b o e)).trans q⟩
 ·refine (J.hok b o e).stay (fun c v hc q=>(same c ?_).trans q) (fun _ q=>q) fun _ _ q=>q
  intro z;rcases hc with w|w
  ·rw[<-w,z,fr] at e;cases e
  ·rw[z,fr] at w;cases w
 ·obtain⟨_,h1,_,h3,h4,h5⟩:=hf b hb
  exact⟨h3,h1,h4,h5⟩
end
theorem zc3{prog:Program}{w:World}{A:Around}{E:Result->Shared->Prop}{s:Shared}{elt target iter:Expr}{ifs:List Expr}{scope:Scope}{pos:Pos}{it acc:Value}{env:PySem.Env}(J:Nat->Shared->Prop)
  (turn: ∀n s,J n s->wpAny (model prog w) A (pyNext it) (fun r s1=>match r with
   |Option.none=>E (.ok .next) s1
   |some v=>wpAny (model prog w) A (letOwnedTupleGo target it v) (fun _ s2=>wpAny (model prog w) A (assign target env v) (fun _ s3=>
     wpAny (model prog w) A (forIn ifs true fun c r=>if r=true then do let ok <-isTrue c env (eval c env);pure (ForInStep.yield ok) else pure (ForInStep.yield r)) (fun ok s4=>
      if ok=true then wpAny (model prog w) A (eval elt env) (fun y s5=>wpAny (model prog w) A (call (.builtin "list.append") [acc,y]) (fun _ s6=>∃m,m<n/\J m s6) (fun _ _=>False) s5) (fun _ _=>False) s4
      else ∃m,m<n/\J m s4) (fun _ _=>False) s3) (fun _ _=>False) s2) (fun _ _=>False) s1) (fun _ _=>False) s)
  (n:Nat) (h:J n s):codeAny (model prog w) A (.compLoop (.ListComp elt [⟨target,iter,ifs,0⟩] scope pos) 0 it acc env) E s:=by
 refine codeAny_loop rfl J (fun n s hJ=>?_) n h;show wpAny _ _ ((compTurn (.ListComp elt [⟨target,iter,ifs,0⟩] scope pos) 0 it acc env).onRaise _) _ _ s;refine wpAny_noted ?_;rw[compTurn_list];have no: ∀(e:Value) (s':Shared),False->notedBy (model prog w) A env (fun e s'=>E (.error e) s') e s':=fun _ _ z=>z.elim
 refine Kb (wpAny_standAt (Kb (Kd (turn n s hJ) (fun r s1 h1=>?_) no)))
 cases r with
 |none=>exact Kc h1
 |some v=>
  refine Kb (Kd h1 (fun _ s2 h2=>?_) no);refine Kb (Kd h2 (fun _ s3 h3=>Kb (Kd h3 (fun ok s4 h4=>?_) no)) no)
  cases ok with
  |false=>exact Kc ⟨rfl,h4⟩
  |true=>exact Kb (Kb (Kd h4 (fun y s5 h5=>Kb (Kd h5 (fun _ s6 h6=>Kc (Kc ⟨rfl,h6⟩)) no)) no))
theorem R.cons{K:Ka}{W:Addr->Prop}{ρ:LW.Env}{σ:St}{H:Hp}{d:D}{v:V}(r:R K W ρ σ H)(h:Rep K W H d v):R K W (some (.val d)::ρ) (some v::σ) H:=by
 refine⟨fun i e hi=>?_,fun i e hi=>?_,fun i x e hi hc=>?_,fun i j x y d e a h1 h2 c1 c2 h3 h4=>?_,r.wf,by simpa using r.len⟩
 ·cases i with
  |zero=>cases hi;exact⟨v,rfl,h⟩
  |succ i=>exact r.val i e hi
 ·cases i with
  |zero=>cases hi
  |succ i=>exact r.nol i e hi
 ·cases i with
  |zero=>cases hi;cases hc
  |succ i=>exact r.own i x e hi hc
 ·cases i with
  |zero=>cases h1;cases c1
  |succ i=>
   cases j with
   |zero=>cases h2;cases c2
   |succ j=>rw[r.inj i j x y d e a h1 h2 c1 c2 h3 h4]
noncomputable def QA(X:Cx)(fn:Nat->List D->Option SV)(scope:Scope)(x:Str)(ifs:List Expr)(cond:E):Prop:=
 (ifs=[]/\cond= .bl true)\/∃c,ifs=[c]/\∀s₃ H₃ fp pins,IT (yy X scope x s₃ H₃ fp pins) fn c cond
section
variable {X:Cx} {fn:Nat->List D->Option SV}
theorem zle{scope:Scope}{x:Str}{ifs:List Expr}{cond:E}{s₃:Shared}{H₃:Hp}{fp:List Addr}{pins ps:List (Addr×Obj)}{σ:St}{H:Hp}{s:Shared}{W:Addr->Prop}{ρ:LW.Env}{k:Bool}{Q:Bool->Hp->Prop}
  (hc:QA X fn scope x ifs cond) (I:Inv (yy X scope x s₃ H₃ fp pins) ps σ H s) (hR:R X.K W ρ σ H) (he:zB fn cond ρ=some k) (q: ∀H',Same H H'->Q k H'):
  wpAny (model X.prog X.w) X.A (forIn ifs true fun c r=>if r=true then do let ok <-isTrue c (yy X scope x s₃ H₃ fp pins).env (eval c (yy X scope x s₃ H₃ fp pins).env);pure (ForInStep.yield ok) else pure (ForInStep.yield r))
   (TP (yy X scope x s₃ H₃ fp pins) ps σ Q) (fun _ _=>False) s:=by
 rcases hc with ⟨rfl,rfl⟩|⟨c,rfl,hc⟩
 ·simp only[zkw] at he
  cases he;exact wpAny_tests_nil ⟨H,I,q H (.refl H)⟩
 ·exact wpAny_tests_one ((hc s₃ H₃ fp pins).h ps s σ H Q I ⟨W,ρ,k,hR,he,q⟩)
theorem QB{test:D->Option Bool}{elt:D->Option SV}: ∀{ds out:List D},yS test elt ds=some out->out.length<=ds.length
 |[],_,h=>by simp only[yS] at h;cases h;exact Nat.le_refl _
 |d::r,out,h=>by
  simp only[yS,jo1] at h;obtain⟨b,e1,e2⟩:=h
  cases b with
  |true=>
   simp only[jo1,jo2] at e2;obtain⟨_,_,_,_,l,e3,rfl⟩:=e2;have:=QB e3;simp;omega
  |false=>have:=QB e2;simp;omega
theorem zc4{scope:Scope}{x:Str}{s₃:Shared}{H₃ H':Hp}{fp:List Addr}{pins:List (Addr×Obj)}{σ:St}(S:CompSc X scope x)(I:Inv X pins σ H₃ s₃)(hf: ∀b∈fp,xU X pins H₃ b)(hlt: ∀b∈fp,b<s₃.heap.objs.size)
  (hn: ∀b∈fp,H' b=Option.none): ∀b∈fp,xU (yy X scope x s₃ H₃ fp pins) [] H' b:=fun b hb=>by
 have ok:=zc0 S I hf hlt;refine⟨hn b hb,(ok.exf b hb).1,ok.exfs b hb,.inl hb,(ok.exf b hb).2,fun p hp=>?_⟩;have hp:p∈X.pn++pins:=by simpa [yy] using hp
 exact (hf b hb).2.2.2.2.2 p hp
structure CSt (X:Cx)(scope:Scope)(x:Str)(s₃:Shared)(H₃:Hp)(fp:List Addr)(pins:List (Addr×Obj))(σ:St)(tn:Nat->Heap->Prop)(H2:Hp)(W:Addr->Prop)(L:Addr)(test:D->Option Bool)(elt:D->Option SV)(ds out:List D)
  (n k:Nat) (y:Option V) (H':Hp) (ys:List V) (out1 zP:List D) (s':Shared):Prop where
 inv:Inv (yy X scope x s₃ H₃ fp pins) [] (y::σ) H' s'
 htn:tn k s'.heap
 hfp: ∀b∈fp,H' b=Option.none
 hn:n=ds.length+1-k
 hk:k<=ds.length
 same:Same H2 H'
 lst:H' L=some (.lst ys)
 reps:Reps X.K (add W L) H' out1 ys
 hrest:yS test elt (ds.drop k)=some zP
 hout:out=out1++zP
theorem zc5{iter elt:Expr}{x:Str}{px pos pos2:Pos}{ifs:List Expr}{scope:Scope}{rng:Bool}{src:Es}{cond ce:E}{pins:List (Addr×Obj)}{s:Shared}{σ:St}{H:Hp}{W:Addr->Prop}{ρ:LW.Env}{rs:List SV}{ds out:List D}{use:Option (Value->Sem Unit)}{Qe:Value->Shared->Prop}
  (hcalm:X.calm=true) (S:CompSc X scope x) (hsrc:Src X fn (.Name x px) iter rng src)
  (hcond:QA X fn scope x ifs cond) (helt: ∀s₃ H₃ fp pins,IE (yy X scope x s₃ H₃ fp pins) fn elt ce) (hfo: ∀y,foldedSetIterable iter X.env y=pure y) (I:Inv X pins σ H s) (hR:R X.K W ρ σ H)
  (e1:yi fn src ρ=some rs) (e2:yw rng rs=some ds) (hline:ds.length<=line) (e3:yS (fun d=>zB fn cond (some (.val d)::ρ)) (fun d=>zk fn ce (some (.val d)::ρ)) ds=some out)
  (fin: ∀(s4:Shared) (fl:Flow) (m:Str->Option Value) (C L:Addr) (H':Hp),s4.heap.Ns C m->(∀h',Heap.SameBut C s4.heap h'->Inv X pins σ H' { s4 with heap:=h' })->(X.s₀.heap.objs.size<=C/\C≠X.env.locals/\(∀y c,X.env.cells.lookup y=some c->c≠C)/\(∀p∈X.pn++pins,p.1≠C)/\H' C=Option.none)->Same H H'->
   Res X.K W H H' (.obj true (.lst out)) (.ref L)->compPost (model X.prog X.w) X.A X.xe use Qe (.ref L) C (.ok fl) s4):
  wpAny (model X.prog X.w) X.A (comprehension (.ListComp elt [⟨.Name x px,iter,ifs,0⟩] scope pos) scope X.env pos2 (newList []) false (eval iter X.env) use) Qe X.xe s:=by
 have hclos:=zcW (scope:=scope) (env:=X.env) (S.cells I.ok);refine wpAny_comprehension_free (use:=use) rfl hfo hclos S.kind S.names ?_;refine zt (hsrc.h pins s σ H (fun J H2=>Same H H2/\Ys X.K J W H2 ds) I ⟨W,ρ,rs,ds,hR,e1,e2,fun J H' s1 y _=>⟨s1,y⟩⟩) fun v s1 h1=>zt h1 fun itv s2 h2=>?_
 obtain⟨it,fp,tn,J,H2,rfl,I2,T,st2,f2,sm,hy⟩:=h2;refine wpAny_newObj_type (zcZ S fun h₁ hns₁ hk₁ hc₁=>?_);have I3:=I2.lnew (t':=s2.toks) (ys:=[]) (its:=[]) .nil (Nat.zero_le _);have hD:H2 s2.heap.objs.size=Option.none:=I2.fresh;generalize hL:s2.heap.objs.size=L at hD;generalize hs3:({ s2 with heap:=s2.heap.push { cls:=.type "list",data:=.seq ([]:List Value).toArray },toks:=s2.toks }:Shared)=s₃ at I3;have hs3h:s₃.heap=s2.heap.push { cls:=.type "list",data:=.seq ([]:List Value).toArray }:=by rw[<-hs3]
 rw[hL] at I3;generalize hH3:zF H2 L (.lst [])=H₃ at I3
 have blt: ∀b∈fp,b<s2.heap.objs.size:=fun b hb=>by
  obtain⟨o,e,_⟩:=T.obj _ _ st2 b hb;exact Kk e
 have hlt: ∀b∈fp,b<s₃.heap.objs.size:=fun b hb=>by rw[hs3h,Heap.size_push];exact KD (blt b hb)
 have hf: ∀b∈fp,xU X pins H₃ b:=fun b hb=>by
  refine⟨?_,(f2 b hb).2⟩;rw[<-hH3,zE (by rw[<-hL];exact Kh (blt b hb))];exact (f2 b hb).1
 have keep1: ∀b o,s₃.heap.get? b=some o->h₁.get? b=some o:=fun b o e=>by
  rw[hs3h] at e;exact hk₁ b o e
 have ns1:h₁.Ns s₃.heap.objs.size fun _=>Option.none:=by rw[hs3h];exact hns₁
 have Ic:=zc1 (tk:=s2.toks) S I3 hf hlt ns1 keep1 (by rw[hs3h];exact hc₁);have fpc:=fun {H':Hp} hn=>zc4 (H':=H') S I3 hf hlt hn
 have win: ∀b,add W L b->W b\/H2 b=Option.none:=fun b w=>by
  rcases w with w|rfl
  ·exact .inl w
  ·exact .inr hD
 have hRL: ∀{H':Hp} {ys:List V},Same H2 H'->H' L=some (.lst ys)->R X.K (add W L) ρ σ H':=fun {H' ys} sm' e=>(hR.same sm).add sm' hD e
 have lenO:out.length<=ds.length:=QB e3
 have loop: ∀s':Shared,s'={ s₃ with heap:=h₁,toks:=s2.toks }->codeAny (model X.prog X.w) X.A (.compLoop (.ListComp elt [⟨.Name x px,iter,ifs,0⟩] scope pos) 0 (.ref it) (.ref L) (yy X scope x s₃ H₃ fp pins).env)
   (compPost (model X.prog X.w) X.A X.xe use Qe (.ref L) s₃.heap.objs.size) s':=by
  rintro s' rfl
  refine zc3 (fun n s'=>∃k y H' ys out1 zP,CSt X scope x s₃ H₃ fp pins σ tn H2 W L (fun d=>zB fn cond (some (.val d)::ρ)) (fun d=>zk fn ce (some (.val d)::ρ)) ds out n k y H' ys out1 zP s') ?_ (ds.length+1)
   ⟨0,Option.none,H₃,[],[],out,Ic,T.keep _ _ _ st2 (fun b hb o e=>keep1 b o (by rw[hs3h];exact Kl _ e)),fun b hb=>(hf b hb).1,rfl,Nat.zero_le _,by rw[<-hH3];exact xh hD _,by rw[<-hH3];exact yJ,.nil,e3,rfl⟩
  rintro n s' ⟨k,y,H',ys,out1,zP,c⟩;obtain⟨hstop,hgo⟩:=hy (add W L) H' c.same win k;by_cases hk:k<ds.length
  ·have hd:ds[k]? =some ds[k]:=by simp[hk]
   obtain⟨g1,g2⟩:=hgo _ hd;have crest:=c.hrest;rw[gy hd] at crest;simp only[yS,jo1] at crest;obtain⟨b,t1,t2⟩:=crest;refine zt (T.item (yy X scope x s₃ H₃ fp pins) rfl rfl rfl hcalm k [] s' (y::σ) H' _ c.inv (fpc c.hfp) c.htn g1) fun r s4 ⟨u,hr,h4⟩=>?_
   subst hr;refine zt h4 fun _ s5 ⟨xv,H5,I5,r5,y5,st5,fr5⟩=>?_
   obtain⟨rfl,rv⟩:=g2 xv H5 y5;have I5':=I5.pinned (fpc fr5) (T.obj _ _ st5);refine zt (ZX (X:=yy X scope x s₃ H₃ fp pins) (i:=0) S.nd rfl S.locX S.fnX _ s5 (y::σ) H5 xv u (fun σ' H'=>σ'=some xv::σ/\H'=H5) I5' r5 ⟨rfl,rfl⟩) fun _ s6 ⟨σ6,H6,I6,q6,q7⟩=>?_
   subst q6 q7;have hRc:=(hRL c.same c.lst).cons rv;refine zt (zle (Q:=fun b' H7=>b'=b/\Same H6 H7) hcond I6 hRc t1 fun H7 s7=>⟨rfl,s7⟩) fun ok s7 ⟨H7,I7,q7,m7⟩=>?_
   subst q7
   have back: ∀{s':Shared} {H':Hp},Inv (yy X scope x s₃ H₃ fp pins) ([]++ZY fp s5.heap) (some xv::σ) H' s'->tn (k+1) s'.heap/\∀b∈fp,H' b=Option.none:=fun {s' H'} J=>by
    refine⟨T.keep _ _ _ st5 fun b hb o e=>(J.pin (b,o) (Ko _ (Ko _ (ZZ hb e)))).1,fun b hb=>?_⟩;obtain⟨o,e,d⟩:=T.obj _ _ st5 b hb;exact (J.pin (b,o) (Ko _ (Ko _ (ZZ hb e)))).2.1
   cases ok with
   |false=>
    rw[if_neg Km];have bk:=back I7;exact⟨_,by have:=c.hn;omega,k+1,some xv,H7,ys,out1,zP,I7.unpinned,bk.1,bk.2,rfl,hk,c.same.trans m7,m7 _ _ c.lst,c.reps.ext (.same m7),t2,c.hout⟩
   |true=>
    rw[if_pos rfl];simp only[jo1,jo2] at t2;obtain⟨r8,t3,d8,t4,rest',t5,rfl⟩:=t2;have hR7:=hRc.same m7;refine zt ((helt s₃ H₃ fp pins).h _ s7 _ H7 (fun v H8=>Same H7 H8/\Rep X.K (add W L) H8 d8 v) I7 ⟨add W L,_,r8,hR7,t3,fun v8 H8 m8 res=>⟨m8,(res.frz hR7.wf).toD t4⟩⟩) fun u8 s8 ⟨v8,H8,I8,rl8,m8,rp8⟩=>?_
    have lst8:=m8 _ _ (m7 _ _ c.lst);have lenY:=c.reps.length;have lenT:=congrArg List.length c.hout;rw[List.length_append,List.length_cons] at lenT;have le:=Yj;refine zt (qF (X:=yy X scope x s₃ H₃ fp pins) _ s8 _ H8 (.ref L) [v8] (.ref L) [u8] (fun _ H9=>H9=zF H8 L (.lst (ys++[v8]))) I8 rfl (.cons rl8 .nil) ⟨L,ys,v8,rfl,rfl,lst8,by omega,rfl⟩) fun _ s9 ⟨_,H9,I9,_,q9⟩=>?_
    subst q9;have bk:=back I9
    have ext:Ext (add W L) H8 (add W L) (zF H8 L (.lst (ys++[v8]))):=by
     refine⟨fun b o q n=>?_,fun b zs q=>?_,fun b o u q=>?_,fun b w=>.inl w⟩
     ·rw[zE (fun z=>n (.inr z))];exact q
     ·rw[zE (fun z=>by rw[z,lst8] at q;cases q)];exact q
     ·rw[zE (fun z=>by rw[z,lst8] at q;cases q)];exact q
    have smL:Same H2 (zF H8 L (.lst (ys++[v8]))):=fun b o q=>by
     rw[zE (fun z=>by rw[z,hD] at q;cases q)];exact m8 _ _ (m7 _ _ (c.same _ _ q))
    exact⟨_,by have:=c.hn;omega,k+1,some xv,_,ys++[v8],out1++[d8],rest',I9.unpinned,bk.1,bk.2,rfl,hk,smL,yJ,((c.reps.ext (.same (m7.trans m8))).ext ext).append (.cons (rp8.ext ext) .nil),t5,by rw[c.hout];simp⟩
  ·have ek:k=ds.length:=by have:=c.hk;omega
   refine zt (T.done (yy X scope x s₃ H₃ fp pins) rfl rfl rfl hcalm k [] s' (y::σ) H' _ c.inv (fpc c.hfp) c.htn (hstop ek)) fun r s4 ⟨hr,I4⟩=>?_
   subst hr;obtain⟨m,hn,_⟩:=I4.loc;have er:=c.hrest;rw[List.drop_of_length_le (by omega),yS] at er;cases er;have eo:=c.hout;rw[List.append_nil] at eo;refine fin s4 _ m _ L H' hn (fun h' hs=>zc2 I3 hf I4 hs) ⟨I3.sz,(Kh I3.lt).symm,fun y cc hc=>?_,fun p hp=>?_,I4.free⟩ (sm.trans c.same) (by rw[eo];exact .new (sm.free hD) c.lst (.lst c.reps))
   ·obtain⟨v,o,ho,_⟩:=I3.cell y cc hc
    exact Kh (Kk ho)
   ·exact Kh (Kk (I3.pin p hp).1)
 have st0:tn 0 h₁:=T.keep _ _ _ st2 (fun b hb o e=>keep1 b o (by rw[hs3h];exact Kl _ e));subst hs3 hL;exact codeAny_compStart_list (loop _ rfl) (T.self X.A 0 _ _ _ st0 (loop _ rfl))
theorem jP{iter elt:Expr}{x:Str}{px pos:Pos}{ifs:List Expr}{scope:Scope}{rng:Bool}{src:Es}{cond ce:E}(hcalm:X.calm=true)(S:CompSc X scope x)(hsrc:Src X fn (.Name x px) iter rng src)
  (hcond:QA X fn scope x ifs cond) (helt: ∀s₃ H₃ fp pins,IE (yy X scope x s₃ H₃ fp pins) fn elt ce) (hfo: ∀y,foldedSetIterable iter X.env y=pure y:=by intro _;rfl):
  IE X fn (.ListComp elt [⟨.Name x px,iter,ifs,0⟩] scope pos) (.comp rng src cond ce):=by
 refine .mk ?_;rintro pins s σ H Q I ⟨W,ρ,r,hR,he,q⟩;simp only[Qd,jo1] at he;obtain⟨rs,e1,ds,e2,e3⟩:=he;split at e3
 case isFalse=>cases e3
 rename_i hline;rw[jo2] at e3;obtain⟨out,e3,rfl⟩:=e3;rw[eval_ListComp];refine zc5 (use:=Option.none) hcalm S hsrc hcond helt hfo I hR e1 e2 hline e3 fun s4 fl m C L H' hn back _ sm res=>?_
 exact⟨m,hn,fun h' hs=>⟨.ref L,H',back h' hs,rfl,q _ H' sm res⟩⟩
theorem Yq(i:Nat){fa:Nat->List D->Option Ans}{fuel:Nat}{iter elt:Expr}{x y:Str}{px py pos spos:Pos}{ifs:List Expr}{scope:Scope}{rng:Bool}{src:Es}{cond ce:E}(hcalm:X.calm=true)(hN:X.N.Nodup)(hi:X.N[i]? =some y)(hy:X.env.scope.names.lookup y=some .local)(S:CompSc X scope x)(hsrc:Src X (zJ fa) (.Name x px) iter rng src)
  (hcond:QA X (zJ fa) scope x ifs cond) (helt: ∀s₃ H₃ fp pins,IE (yy X scope x s₃ H₃ fp pins) (zJ fa) elt ce)
  (hsw:swapsWith (.ListComp elt [⟨.Name x px,iter,ifs,0⟩] scope pos) (some (.Name y py)) spos.line X.env=pure true:=by rfl) (hfo: ∀y,foldedSetIterable iter X.env y=pure y:=by intro _;rfl):
  IS X (zH fa fuel (.asg i (.comp rng src cond ce))) (.Assign [.Name y py] (.ListComp elt [⟨.Name x px,iter,ifs,0⟩] scope pos) spos):=by
 refine .mk ?_;rintro pins s σ H D0 I ⟨W,ρ,z,hR,hz,q⟩;simp only[zcr,jo1] at hz;obtain⟨r,he,hz⟩:=hz;split at hz
 case isTrue=>cases hz
 rename_i hl;cases hz;simp only[Bool.not_eq_true,Bool.or_eq_false_iff,Bool.not_eq_false'] at hl;simp only[Qd,jo1] at he;obtain⟨rs,e1,ds,e2,e3⟩:=he;split at e3
 case isFalse=>cases e3
 rename_i hline;rw[jo2] at e3;obtain⟨out,e3,rfl⟩:=e3;rw[exec_Assign_Name_used _ _ _ _ hsw];refine Kb (wpAny_standAt (Kb ?_));show wpAny _ X.A (do let _ <-comprehension (.ListComp elt [⟨.Name x px,iter,ifs,0⟩] scope pos) scope X.env _ (newList []) false (eval iter X.env) (some (assign (.Name y py) X.env))) _ _ s;refine Kb (Kd (zc5 (use:=some (assign (.Name y py) X.env)) (Qe:=fun _ s'=>SP X pins D0 .next s') hcalm S hsrc hcond helt hfo I hR e1 e2 hline e3 fun s4 fl m C L H' hn back cf sm res=>?_) (fun _ s' hq=>Kc (Kc hq)) fun _ _ e=>e);have I4:Inv X pins σ H' s4:=back s4.heap ⟨rfl,fun _ _=>rfl⟩;refine wpAny_assign_Name (zbv I4 hN hi (.inl hy) (v:=.ref L) rfl (fun s5 I5 ⟨a,hs5,ha⟩=>?_) (.inr hy))
 have haC:a≠C:=by
  rcases ha with rfl|ha
  ·exact fun z=>cf.2.1 z.symm
  ·exact cf.2.2.1 _ _ ha
 have hnC:s5.heap.Ns C m:=by
  obtain⟨o,es,ep,ho,hrest⟩:=hn;exact⟨o,es,ep,(hs5.2 C (Ne.symm haC)).trans ho,hrest⟩
 refine⟨m,hnC,fun h' hs=>?_⟩
 have I6:Inv X pins (σ.set i (some (.ref L))) H' { s5 with heap:=h' }:=by
  refine I5.call' (s':={ s5 with heap:=h' }) (ch:=[C]) rfl ⟨fun b o e n hb hx=>?_,fun b o e n hb hx=>?_,fun b o e n hx=>n,fun b o e hx=>?_,fun _ _ q=>q,fun _ _ _ q=>q,fun _ ps q=>⟨#[],by simpa using q⟩⟩ ?_ I5.bare fun b hb=>?_
  ·exact (hs.2 b (by simpa using hx)).trans e
  ·exact⟨o.slots,(hs.2 b (by simpa using hx)).trans e⟩
  ·exact⟨o,(hs.2 b (by simpa using hx)).trans e⟩
  ·intro b o e
   refine (I5.hok b o e).stay (fun c v hc q=>(hs.2 c ?_).trans q) (fun _ q=>q) fun _ _ q=>q
   intro z;rcases hc with w|w
   ·rw[<-w,z,cf.2.2.2.2] at e;cases e
   ·rw[z,cf.2.2.2.2] at w;cases w
  ·have e:b=C:=by simpa using hb
   subst e;exact⟨.inr cf.1,cf.2.1,cf.2.2.1,cf.2.2.2.1⟩
 cases res with
 |new h e r=>exact⟨_,H',I6,q _ _ H' (zcO hR sm h e r (jJ hl.2))⟩
end
end L2.LW
set_option maxHeartbeats 4000000
namespace L2.LW
open PySem PySem.Spec PyProof.Rows
noncomputable def XY:Ty->String
 | .bool=>"bool"| .int=>"int"| .str=>"str"| .list=>"list"| .tuple=>"tuple"
noncomputable def zlf:D->String
 | .int _=>"int"| .bl _=>"bool"| .non=>"NoneType"| .str _=>"str"| .tup _=>"tuple"| .lst _=>"list"| .dct _ _ _=>"dict"
theorem zlg(K:Ka)(d:D)(t:Ty):PySem.W.kitOne K (.type (zlf d)) (.type (XY t))=some (jE t d):=by
 cases d<;>cases t<;>rfl
section
variable {X:Cx} {fn:Nat->List D->Option SV}
theorem zlh{pins:List (Addr×Obj)}{σ:St}{H:Hp}{s:Shared}{W:Addr->Prop}{A:Around}{E Q:Value->Shared->Prop}{d:D}{x:V}{u:Value}{t:Ty}(I:Inv X pins σ H s)(h:Sees X.K W H d x)(r:RelV x u)
  (q: ∀tk,Q (.bool (jE t d)) { s with toks:=tk }):wpAny (model X.prog X.w) A (call (.builtin "isinstance") [u,.type (XY t)]) Q E s:=by
 have e:=zlg X.K d t
 cases d with
 |int i=>cases h.int;obtain⟨tk,rfl⟩:=r;exact PySem.W.kia_one PySem.W.kitx_int I.kIn True.intro e (fun z=>nomatch z) q
 |bl b=>cases h.bl;cases r;exact PySem.W.kia_one PySem.W.kitx_bool I.kIn True.intro e (fun z=>nomatch z) q
 |non=>cases h.non;cases r;exact PySem.W.kia_one PySem.W.kitx_none I.kIn True.intro e (fun z=>nomatch z) q
 |str y=>cases h.str;obtain⟨tk,rfl⟩:=r;exact PySem.W.kia_one PySem.W.kitx_str I.kIn True.intro e (fun z=>nomatch z) q
 |tup l=>
  obtain⟨a,xs,rfl,hq,_⟩:=h.tup;cases r;obtain⟨its,rv,⟨o,ho,hc,n,hd⟩,hz⟩:=I.tuple hq;exact PySem.W.kia_one PySem.W.kitx_tuple I.kIn ⟨o,ho,hc⟩ e (fun z=>nomatch z) q
 |lst l=>
  obtain⟨a,xs,rfl,hq,_⟩:=h.lst;cases r;obtain⟨its,rv,⟨o,n,ho,hc,_,hd⟩,hz⟩:=I.list hq;exact PySem.W.kia_one PySem.W.kitx_list I.kIn ⟨o,ho,hc⟩ e (fun z=>nomatch z) q
 |dct b ks vs=>
  cases b with
  |false=>
   obtain⟨a,ns,ys,rfl,_,hH,_⟩:=h.dK;cases r;obtain⟨_,_,vs,_,ob,_,_,h1,h2,_⟩:=jC I.hok hH;exact PySem.W.kia_one PySem.W.kitx_dict I.kIn ⟨ob,h1,h2.1⟩ e (fun z=>nomatch z) q
  |true=>
   obtain⟨a,ns,ys,rfl,_,hH,_⟩:=h.dT;cases r;obtain⟨_,_,xs,_,ob,_,_,h1,h2,_⟩:=jD I.hok (.inl hH);exact PySem.W.kia_one PySem.W.kitx_dict I.kIn ⟨ob,h1,h2.1⟩ e (fun z=>nomatch z) q
theorem zli(t:Ty):xt X (.builtin "isinstance") (fun xs H Q=>∃x,xs=[x,.ty (XY t)]/\VR X.K (zg (.inst t)) [x] H Q):=by
 rintro pins s σ H xs us Q I rv ⟨x,rfl,W,ds,r,wf,hs,hf,q⟩;obtain⟨d,rfl,h1⟩:=XI hs;replace hf:zcj t [d]=some r:=hf;cases hf;obtain⟨u,w',rfl,r1,r2⟩:=qz rv;cases r2;exact zlh I h1 r1 fun tk=>⟨.bl _,H,I.tok tk,rfl,q _ H (.refl H) (.val (.bl _))⟩
theorem QC{a:Expr}{ca:E}{t:Ty}{y:Str}{p p2 pos:Pos}(hg:Gl X "isinstance")(hm:X.mg "isinstance"=Option.none)(hg2:Gl X y)(hm2:X.mg y=Option.none)(hv:bootBuiltins y=some (.type (XY t)))(ha:IE X fn a ca)
  (hn:y≠"__name__":=by decide) (hdb:(y==("__debug__":Str))=false:=by decide)
  (h1:starEach [a,.Name y p2] X.env=(false,eval a X.env)::starEach [.Name y p2] X.env:=by rfl) (h2:starEach [.Name y p2] X.env=(false,eval (.Name y p2) X.env)::starEach [] X.env:=by rfl)
  (hpl:(backTo pos (starEach [.Name y p2] X.env)).any (·.1)=false:=by rfl):
  IE X fn (.Call (.Name "isinstance" p) [a,.Name y p2] [] pos) (.prim (.inst t) (.cons ca .nil)):=
 .mk <| (qD (zli t) hg hm PyProof.Rows.boot_isinstance (vp ha.v (vp (zh9 hg2 hm2 hv (v:=.ty (XY t)) rfl hn hdb) Zk h2) h1) (by decide) (by decide) h1 hpl).imp fun σ H Q zz3=>by
  obtain⟨W,ρ,r,hR,he,q⟩:=zz3;simp only[wZ,xY,xZ,jo1,jo2] at he;obtain⟨rs,⟨r1,e1,rs',e3,rfl⟩,e4⟩:=he;cases e3;exact⟨W,ρ,r1,hR,e1,fun v1 H1 s1 f1=>⟨v1,rfl,XQ hR s1 (.cons f1 .nil) e4 q⟩⟩
theorem gC{K:Ka}{W:Addr->Prop}{H:Hp}{d:D}{v:V}(h:Sees K W H d v):decide (v= .non)=Zn d:=by
 cases d with
 |int i=>cases h.int;rfl
 |bl i=>cases h.bl;rfl
 |str i=>cases h.str;rfl
 |non=>cases h.non;rfl
 |tup l=>obtain⟨a,xs,rfl,_⟩:=h.tup;rfl
 |lst l=>obtain⟨a,xs,rfl,_⟩:=h.lst;rfl
 |dct b ks vs=>
  cases b with
  |false=>obtain⟨a,ns,ys,rfl,_⟩:=h.dK;rfl
  |true=>obtain⟨a,ns,ys,rfl,_⟩:=h.dT;rfl
theorem QD{a:Expr}{ca:E}{j:Nat}{p pos:Pos}(ha:IE X fn a ca):IE X fn (.Compare a [.Is] [.Constant .none j p] pos) (.prim .isN (.cons ca .nil)):=
 .mk <| (zid (zbz ha.v)).imp fun σ H Q zz3=>by
  obtain⟨W,ρ,r,hR,he,q⟩:=zz3;simp only[wZ,xY,xZ,jo1,jo2] at he;obtain⟨rs,⟨r1,e1,rs',e3,rfl⟩,e4⟩:=he;cases e3;cases e4;refine⟨W,ρ,r1,hR,e1,fun v1 H1 s1 f1=>?_⟩;show Q (.bl (decide (v1= .non))) H1;rw[gC f1.sees];exact q _ H1 s1 (.val (.bl _))
theorem zlj{a:Expr}{ca:E}{j:Nat}{p pos:Pos}(ha:IE X fn a ca):IT X fn (.Compare a [.Is] [.Constant .none j p] pos) (.prim .isN (.cons ca .nil)):=
 .mk <| (zbA (zbz ha.v)).imp fun σ H Q zz3=>by
  obtain⟨W,ρ,k,hR,he,q⟩:=zz3;simp only[Qf,xY,xZ,jo1,jo2] at he;obtain⟨rs,⟨r1,e1,rs',e3,rfl⟩,r2,e4,e5⟩:=he;cases e3;cases e4;cases e5;refine⟨W,ρ,r1,hR,e1,fun v1 H1 s1 f1=>⟨_,rfl,?_⟩⟩;rw[gC f1.sees];exact q H1 s1
theorem QE{a:Expr}{ca:E}{j:Nat}{p pos:Pos}(ha:IE X fn a ca):IT X fn (.Compare a [.IsNot] [.Constant .none j p] pos) (.prim .notN (.cons ca .nil)):=
 .mk <| (zbA (zic ha.v)).imp fun σ H Q zz3=>by
  obtain⟨W,ρ,k,hR,he,q⟩:=zz3;simp only[Qf,xY,xZ,jo1,jo2] at he;obtain⟨rs,⟨r1,e1,rs',e3,rfl⟩,r2,e4,e5⟩:=he;cases e3;cases e4;cases e5;refine⟨W,ρ,r1,hR,e1,fun v1 H1 s1 f1=>⟨_,rfl,?_⟩⟩;rw[gC f1.sees];exact q H1 s1
theorem zc6(l:List Int):(Ye l).Perm l:=List.mergeSort_perm _ _
theorem zlk(l:List Int):(Ye l).Pairwise (· <= ·):=by
 have h:=List.pairwise_mergeSort (le:=fun (a b:Int)=>decide (a<=b)) (fun a b c h1 h2=>by simp at*;omega) (fun a b=>by simp;omega) l;exact h.imp fun h=>by simpa using h
theorem zll{ds:List D}{ns:List Int}{pins:List (Addr×Obj)}{s:Shared}{σ:St}{H:Hp}{xs:List V}{us:List Value}{Q:VK}(I:Inv X pins σ H s)(rv:Vals xs us)
  {W:Addr->Prop} {l:List D} (hs:Paired (Sees X.K W H) [.lst l] xs) (e1:ints? l=some ns) (h64:ns.length<64) (q: ∀v H',Same H H'->Res X.K W H H' (.obj true (.lst ((Ye ns).map .int))) v->Q v H'):
  wpAny (model X.prog X.w) X.A (call (.builtin "sorted") us) (EP X pins σ Q) X.xe s:=by
 cases hs with
 |cons h1 t=>
  cases t;obtain⟨p,ys,rfl,hp,rp⟩:=h1.lst;have ey:=rp.ofInts e1;subst ey;obtain⟨u,rfl,ru⟩:=wW rv;cases ru;obtain⟨its,rv',pl,hz⟩:=I.list hp;have hi:=je rv';have hlen:=rv'.length;rw[List.length_map] at hlen;refine sorted_ints pl.isList hi (by omega) fun out ns' a1 a2 a3=>?_
  have en:ns'=Ye ns:=PySem.W.ksm_same (a2.trans (zc6 ns).symm) a3 (zlk ns);subst en;obtain⟨e,he⟩:=sortedAll_at s.heap its out;have hl2:=(zc6 ns).length_eq;have fr:H (s.heap.objs.size+1)=Option.none:=I.hok.fresh (Kj _);refine⟨.ref (s.heap.objs.size+1),zF H (s.heap.objs.size+1) (.lst ((Ye ns).map V.int)),I.laid (t':=s.toks) (fun _ _=>sortedAll_old) (Kj _) ⟨?_,out.toList,e,qG a1,?_⟩,rfl,q _ _ (xh fr _) (Yi fr (.ints _))⟩
  ·rw[List.length_map];exact Nat.le_of_lt (Xn (by omega))
  ·simpa [seqObj] using he
theorem zc7{K:Ka}{W:Addr->Prop}{H:Hp}: ∀{ds:List D} {xs:List V} {bs:List Bool},Reps K W H ds xs->bools? ds=some bs->xs=bs.map V.bl
 |_,_,bs,.nil,e=>by simp[bools?] at e;subst e;rfl
 |_,_,bs,.cons h t,e=>by
  cases h with
  |bl i=>
   simp only[bools?,jo2] at e;obtain⟨ms,e1,rfl⟩:=e;rw[zc7 t e1];rfl
  |_=>simp[bools?] at e
theorem zc8: ∀{bs:List Bool} {us:List Value},Vals (bs.map V.bl) us->us=bs.map Value.bool
 |[],us,r=>by cases r;rfl
 |b::bs,us,r=>by
  cases r with
  |cons h t=>cases h;rw[zc8 t];rfl
theorem zlm(bs:List Bool):((List.range bs.length).all fun i=>bs.getD i true)=bs.all id:=by
 induction bs with
 |nil=>rfl
 |cons b r ih=>
  rw[List.length_cons,List.range_succ_eq_map,List.all_cons,List.all_map,List.all_cons];simp only[Function.comp_def,List.getD_cons_succ,List.getD_cons_zero];rw[ih];rfl
theorem zc9(hc:X.calm=true):xt X (.builtin "all") (VR X.K (zg .all)):=by
 rintro pins s σ H xs us Q I rv ⟨W,ds,r,wf,hs,hf,q⟩;replace hf:JX ds=some r:=hf;unfold JX at hf;split at hf
 ·rename_i l
  rw[jo1] at hf;obtain⟨bs,e1,hf⟩:=hf;cases hf
  cases hs with
  |cons h1 t=>
   cases t;obtain⟨p,ys,rfl,hp,rp⟩:=h1.lst;have ey:=zc7 rp e1;subst ey;obtain⟨u,rfl,ru⟩:=wW rv;cases ru;obtain⟨its,rv',pl,hz⟩:=I.list hp;have ei:=zc8 rv';subst ei;obtain⟨o,n,ho,hcl,hdi,hda⟩:=id pl;have hne:p≠s.heap.objs.size:=Kh (Kk ho);refine call_all_walk (wpAny_pyIter_list pl.isList ?_);refine⟨s.heap.objs.size,_,_,_,_,_,fun i=>bs.getD i true,rfl,Walks.list (A:=X.A.in1) (I.ok.hd hc) s.heap.objs.size p hne (bs.map Value.bool).toArray,⟨⟨_,Heap.get?_push_size _ rfl,rfl,rfl⟩,⟨o,Kl _ ho,hcl,n,hda⟩⟩,?_,fun h' tk hk=>?_⟩
   ·intro i v s' Q' E' hv hQ
    have hv:(bs.map Value.bool).toArray[i]? =some v:=hv;rw[List.getElem?_toArray,List.getElem?_map,jo2] at hv;obtain⟨b,e2,rfl⟩:=hv;have e3:bs.getD i true=b:=by rw[List.getD_eq_getElem?_getD,e2];rfl
    have hQ:Q' (bs.getD i true) s':=hQ;rw[e3] at hQ;exact wpAny_truthy_bool hQ
   ·rw[List.size_toArray,List.length_map,zlm]
    refine⟨.bl _,H,I.kept (t':=tk) (fun b o' e=>?_),rfl,q _ H (.refl H) (.val (.bl _))⟩;exact hk b o' (by simpa using Kh (Kk e)) (Kl _ e)
 ·cases hf
theorem zln(xs:List V)(k:Int)(hk:0<=k):Yb xs Option.none (some k)=xs.take k.toNat:=by
 obtain⟨n,rfl⟩:=Int.eq_ofNat_of_zero_le hk;unfold Yb;rw[HT.sIx_none,HT.sIx_nat,List.drop_zero,Nat.sub_zero,Int.toNat_natCast];rcases Nat.le_total n xs.length with h|h
 ·rw[Nat.min_eq_left h]
 ·rw[Nat.min_eq_right h,KL (Nat.le_refl _),KL h]
theorem zlo{a b:Expr}{ca cb:E}{p pos:Pos}(ha:IE X fn a ca)(hb:IE X fn b cb):IE X fn (.Subscript a (.Slice Option.none (some b) Option.none p) pos) (.prim .cutTo (.cons ca (.cons cb .nil))):=
 .mk <| (zjE zjR ha.v zjB (zjC hb.v)).imp fun σ H Q zz3=>by
  obtain⟨W,ρ,r,hR,he,q⟩:=zz3;simp only[wZ,xY,xZ,jo1,jo2] at he;obtain⟨rs,⟨r1,e1,rs',⟨r2,e2,rs'',e3,rfl⟩,rfl⟩,e4⟩:=he;cases e3;refine⟨W,ρ,r1,hR,e1,fun v1 H1 s1 f1=>⟨W,ρ,r2,hR.same s1,e2,fun v2 H2 s2 f2=>?_⟩⟩;replace e4:JY [zI r1,zI r2]=some r:=e4;unfold JY at e4;split at e4
  ·rename_i l k z
   have h1:=(f1.same s2).sees;have h2:=f2.sees;injection z with z1 z2;injection z2 with z2 _;rw[z1] at h1;rw[z2] at h2;split at e4
   ·rename_i hk
    cases e4;obtain⟨p,xs,rfl,hp,rp⟩:=h1.lst;cases h2.int;refine⟨k,rfl,p,xs,rfl,hp,fun p' hp'=>?_⟩;rw[zln xs k hk];have s12:=s1.trans s2;exact q _ _ (s12.trans (xh hp' _)) ((Yi hp' (rp.take _)).back s12)
   ·cases e4
  ·cases e4
theorem xi{scope:Scope}{env:PySem.Env}{y:Str}(h:scope.names.lookup y=some .free):wq (relabel scope env) y:=by
 unfold wq relabel
 have key: ∀(names:List (Str×NameKind)),names.lookup y=some .free->
   (names.map fun (z:Str×NameKind)=>match z with|(n,k)=>if (k==NameKind.free&&env.scope.kind== .function&&env.kindOf n==some .cell)=true then (n,NameKind.cell) else (n,k)).lookup y=some .cell\/
   (names.map fun (z:Str×NameKind)=>match z with|(n,k)=>if (k==NameKind.free&&env.scope.kind== .function&&env.kindOf n==some .cell)=true then (n,NameKind.cell) else (n,k)).lookup y=some .free:=by
  intro names
  induction names with
  |nil=>intro h;cases h
  |cons z r ih=>
   obtain⟨n,j⟩:=z;intro h;rw[List.lookup_cons] at h;rw[List.map_cons,List.lookup_cons];by_cases hc:(j==NameKind.free&&env.scope.kind== .function&&env.kindOf n==some .cell)=true
   ·simp only[hc,if_true]
    cases e:y==n with
    |true=>exact .inl rfl
    |false=>rw[e] at h;exact ih h
   ·simp only[hc,Bool.false_eq_true,if_false]
    cases e:y==n with
    |true=>rw[e] at h;exact .inr h
    |false=>rw[e] at h;exact ih h
 exact .inr (key scope.names h)
theorem yF{scope:Scope}{env:PySem.Env}{y:Str}(h:scope.names.lookup y=some .local):wq (relabel scope env) y:=.inl (lookup_relabel_local h)
theorem jl{scope:Scope}{env:PySem.Env}{y:Str}(h:scope.names.lookup y=some .globalImplicit):(relabel scope env).names.lookup y=some .globalImplicit:=by
 unfold relabel
 have key: ∀(names:List (Str×NameKind)),names.lookup y=some .globalImplicit->
   (names.map fun (z:Str×NameKind)=>match z with|(n,k)=>if (k==NameKind.free&&env.scope.kind== .function&&env.kindOf n==some .cell)=true then (n,NameKind.cell) else (n,k)).lookup y=some .globalImplicit:=by
  intro names
  induction names with
  |nil=>intro h;cases h
  |cons z r ih=>
   obtain⟨n,j⟩:=z;intro h;rw[List.lookup_cons] at h;rw[List.map_cons,List.lookup_cons];by_cases hc:(j==NameKind.free&&env.scope.kind== .function&&env.kindOf n==some .cell)=true
   ·simp only[hc,if_true]
    cases e:y==n with
    |true=>
     rw[e] at h;have h:j= .globalImplicit:=Kn h;rw[h] at hc;simp at hc
    |false=>rw[e] at h;exact ih h
   ·simp only[hc,Bool.false_eq_true,if_false]
    cases e:y==n with
    |true=>rw[e] at h;exact h
    |false=>rw[e] at h;exact ih h
 exact key scope.names h
noncomputable def gD(sc:Scope)(N:List Str)(scope:Scope)(x:Str):Bool:=
 decide (scope.kind= .function)&&(decide (scope.names.lookup x=some .local)||decide (scope.names.lookup x=some .cell))&&scope.names.all (fun y=> !decide (y.2= .local)||decide (scope.names.lookup y.1=some .local))&&
 decide (scope.names.filter (fun y=>y.2== .cell)=if scope.names.lookup x=some .cell then [(x,.cell)] else [])&&
 scope.names.all (fun y=> !decide (y.2= .free)||(decide (sc.names.lookup y.1=some .cell)||decide (sc.names.lookup y.1=some .free)))&&N.all (fun y=> !decide (scope.names.lookup y=some .local)||decide (y=x))&&
 decide (scope.names.lookup ("":Str)=Option.none)&&decide ((x::wJ x N).Nodup)
theorem wD{scope sc:Scope}{N:List Str}{x:Str}(hs:X.env.scope=sc)(hN:X.N=N)(h:gD sc N scope x=true):CompSc X scope x:=by
 subst hs hN;simp only[gD,Bool.and_eq_true,decide_eq_true_eq,List.all_eq_true,Bool.or_eq_true,Bool.not_eq_true',decide_eq_false_iff_not] at h;obtain⟨⟨⟨⟨⟨⟨⟨h1,h2⟩,h3⟩,h4⟩,h5⟩,h6⟩,h7⟩,h8⟩:=h;exact⟨h1,h2,fun y hy e=>(h3 y hy).resolve_left fun z=>z e,h4,fun y hy e=>(h5 y hy).resolve_left fun z=>z e,fun y hy e=>(h6 y hy).resolve_left fun z=>z e,h7,h8⟩
end
end L2.LW
set_option maxHeartbeats 4000000
namespace L2.LW
open PySem PySem.Spec PyProof.Rows
section
variable {Pg:Program} {w:World} {K:Ka} {mg:Str->Option Value} {base:Heap} {f:Addr} {fd:FuncData} {ps:List Str} {P:Nat->Option Fn} {fuel i n k:Nat}
theorem zda{io:List Nat}(h: ∀ds,zD P fuel n i ds=Option.none):FnOk Pg w K mg base wr k f fd ps (vf K (zD P fuel n) i io):=by
 have no: ∀vs H Q E,¬vf K (zD P fuel n) i io vs H Q E:=fun vs H Q E zz4=>by
  obtain⟨W,ds,r,outs,_,_,e,_⟩:=zz4;rw[h ds] at e;cases e
 exact⟨fun vs H Q E z=>KC z (no vs H Q E),fun A outer s H args us vs Q E _ _ _ _ z=>KC z (no vs H Q E)⟩
theorem zlp{io:List Nat}:FnOk Pg w K mg base wr k f fd ps (vf K (zD P fuel 0) i io):=zda fun _=>rfl
theorem yn{io:List Nat}(h:P i=Option.none):FnOk Pg w K mg base wr k f fd ps (vf K (zD P fuel (n+1)) i io):=zda fun ds=>by rw[zD,h];rfl
theorem zlq{H:Hp}{a:Addr}{ns:List Int}{E:XK}(h:zv P fuel n i [.lst (ns.map D.int)]=some (.val (.bl true)))(hS:SqL K H a (ns.map V.int)):vf K (zD P fuel n) i [] [.ref a] H (fun v _=>v= .bl true) E:=by
 refine⟨fun _=>False,[.lst (ns.map D.int)],.val (.bl true),[],fun _ z=>z.elim,(Reps.cons (.lst ?_ (.ints ns)) .nil).get',zcL h,fun v H' _ _ r=>?_⟩
 ·rcases hS with hS|hS
  ·exact .inl ⟨fun z=>z,hS⟩
  ·exact .inr hS
 ·cases r with
  |val r=>cases r;rfl
end
end L2.LW
set_option maxHeartbeats 4000000
namespace L2.LW
open PySem PySem.Spec PyProof.Rows
noncomputable def zlr(tk tv:TE):TE:=fun σ H Q=>∀p,H p=Option.none->tk σ (zF H p (.dT [])) fun x H1=>tv σ H1 fun y H2=>H2 p=some (.dT [])/\∃b ks,x= .ref b/\H2 b=some (.tup (ks.map kV))/\Q (.ref p) (zF H2 p (.dT [(ks,y)]))
theorem zls{X:Cx}{pos:Pos}{k v:Expr}{tk tv:TE}(hu:X.A.units+64<cLine)(hk:PE X k tk)(hv:PE X v tv):PE X (.Dict [some k] [v] pos) (zlr tk tv):=by
 intro pins s σ H Q I q;have hn:=I.hok.fresh (Nat.le_refl s.heap.objs.size);have I1:=I.laid (a:=s.heap.objs.size) (o:=.dT []) (h':=s.heap.push { cls:=.type "dict",data:=.dict #[] }) (t':=s.toks) (fun _ _ q=>Kl _ q) (Nat.le_refl _) (zcc s.heap I.big);refine wpAny_Dict_any rfl rfl (by simp) (by simp) (pairTrees_cons_walk (zt (hk pins _ σ _ _ I1 (q _ hn)) fun u s1 ⟨x,H1,I2,rx,q1⟩=>zt (hv pins s1 σ H1 _ I2 q1) fun w2 s2 ⟨y,H2,I3,ry,e,b,ks,ex,eb,q2⟩=>pairTrees_nil_walk ?_));subst ex;cases rx;unfold storeAll;rw[List.forIn_cons];obtain⟨z,hd,xs,rel,dd⟩:=Xm I3.hok e;cases rel;refine Kb (Kb (wpAny_dictSet_heap (hsz:=by simp) (knd:=tupleKind (zT X.prog X.w)) (show X.A.units<cLine by omega) (Zl I3.hok eb) dd fun h' dd' hs=>Kc ?_));refine Kc ⟨.ref s.heap.objs.size,_,?_,rfl,q2⟩;obtain⟨q,es,ep,hq,h2,h3,h4,_,h5⟩:=dd';refine JN I3 (by rw[e];exact True.intro) hs ⟨q,hq⟩ ⟨by simp[sizeLine_eq],hd,_,((KT.put (H:=H2) (kvs:=[]) (xs:=[]) .nil ks eb ry)).keeps fun c ys ec=>?_,q,es,ep,hq,h2,h3,h4,h5⟩;rw[zE (qt ec e (fun z=>nomatch z))];exact ec
section
variable {X:Cx} {fn:Nat->List D->Option SV} {fa:Nat->List D->Option Ans} {fuel:Nat} {a b c e:Expr} {ca cb cc ce:E} {es:List Expr} {cs:Es} {pos p:Pos} {x:Str} {st:Stmt} {sts:List Stmt} {s:S} {ss s1 s2:Ss}
theorem QF(t:Bool):IE X fn (.Dict [] [] pos) (.dnew t):=by
 cases t with
 |false=>
  refine .mk (zcd.imp fun σ H Q ⟨W,ρ,r,hR,he,q⟩=>?_);simp only[zcm] at he;cases he;exact fun p hp=>q _ _ (xh hp _) (.new hp yJ (.dK (ns:=[]) (ys:=[]) rfl .nil))
 |true=>
  refine .mk (zce.imp fun σ H Q ⟨W,ρ,r,hR,he,q⟩=>?_);simp only[zcm] at he;cases he;exact fun p hp=>q _ _ (xh hp _) (.new hp yJ (.dT (ns:=[]) (ys:=[]) rfl .nil))
theorem zlt{H H1:Hp}{p:Addr}{o o':HO}(hp:H p=Option.none)(s:Same (zF H p o) H1):Same H (zF H1 p o'):=fun b u q=>by
 rw[zE (jA q hp)];exact s b u (by rw[zE (jA q hp)];exact q)
theorem zlu(hu:X.A.units+64<cLine)(ha:IE X fn a ca)(hb:IE X fn b cb):IE X fn (.Dict [some a] [b] pos) (.done true ca cb):=
 .mk <| (zls hu ha.v hb.v).imp fun σ H Q zz3=>by
  obtain⟨W,ρ,r,hR,he,q⟩:=zz3;simp only[zkr,jo1] at he;obtain⟨x,e1,y,e2,da,e3,db,e4,e5⟩:=he;split at e5
  ·rename_i hk
   cases e5;intro p hp;have s0:=xh hp (.dT []);have hR0:=hR.add s0 hp yJ;refine⟨_,ρ,x,hR0,e1,fun v1 H1 s1 f1=>⟨_,ρ,y,hR0.same s1,e2,fun v2 H2 s2 f2=>⟨s2 _ _ (s1 _ _ yJ),?_⟩⟩⟩;have r1:=(f1.same s2).toD e3;have r2:=f2.toD e4
   cases da with
   |tup l=>
    obtain⟨ms,hms⟩: ∃ms,ints? l=some ms:=by simp only[yK,Option.isSome_iff_exists] at hk;exact hk
    cases r1 with
    |tup h1 rp=>
     have z1:=rp.ofInts hms;have z2:=Zq hms;subst z1 z2;refine⟨_,ms.map Sum.inl,rfl,by rw[Yk];exact h1,q _ _ (zlt hp (s1.trans s2)) (.new hp yJ (.dT (ns:=[ms]) (ys:=[v2]) rfl (.cons ?_ .nil)))⟩;have e2p:=s2 _ _ (s1 _ _ (yJ (H:=H) (a:=p) (o:=.dT [])));refine r2.ext ⟨fun b o q n=>?_,fun b ys q=>?_,fun b o u q=>?_,fun b w=>.inl w⟩
     ·rw[zE (fun z=>n (.inr z))];exact q
     ·rw[zE (fun z=>by rw[z,e2p] at q;cases q)];exact q
     ·rw[zE (fun z=>by rw[z,e2p] at q;cases q)];exact q
   |_=>simp[yK] at hk
  ·cases e5
theorem zdb(i:Int)(v:V): ∀{ns:List Int} {ys:List V},ns.length=ys.length->(yA ns ys).map (fun kv=>if kv.1=Sum.inl i then (kv.1,v) else kv)=yA ns (List.zipWith (fun n y=>if n=i then v else y) ns ys)
 |[],[],_=>rfl
 |n::ns,y::ys,h=>by
  have ih:=zdb i v (ns:=ns) (ys:=ys) (by simpa using h);show (if (Sum.inl n:zy)=Sum.inl i then ((Sum.inl n:zy),v) else (Sum.inl n,y))::(yA ns ys).map _=(Sum.inl n,if n=i then v else y)::yA ns _;rw[ih];by_cases e:n=i<;>simp[e]
theorem zdc(i:List Int)(v:V): ∀{ns:List (List Int)} {ys:List V},ns.length=ys.length->(yH ns ys).map (fun kv=>if kv.1=i.map Sum.inl then (kv.1,v) else kv)=yH ns (List.zipWith (fun n y=>if n=i then v else y) ns ys)
 |[],[],_=>rfl
 |n::ns,y::ys,h=>by
  have ih:=zdc i v (ns:=ns) (ys:=ys) (by simpa using h);show (if (n.map Sum.inl:List zy)=i.map Sum.inl then ((n.map Sum.inl:List zy),v) else (n.map Sum.inl,y))::(yH ns ys).map _=(n.map Sum.inl,if n=i then v else y)::yH ns _;rw[ih];by_cases e:n=i
  ·simp[e]
  ·have: ¬((n.map Sum.inl:List zy)=i.map Sum.inl):=fun z=>e (zcz z)
   simp[e,this]
theorem zdd{K:Ka}{W:Addr->Prop}{H:Hp}{d:D}{v:V}(rv:Rep K W H d v)(i:Int): ∀{ns:List Int} {vs:List D} {ys:List V},Reps K W H vs ys->Reps K W H (List.zipWith (fun k' v'=>if zN k' (.int i) then d else v') (ns.map D.int) vs) (List.zipWith (fun n y=>if n=i then v else y) ns ys)
 |[],_,_,_=>by simp;exact .nil
 |n::ns,_,_,.nil=>by simp;exact .nil
 |n::ns,_,_,.cons h t=>by
  have ih:=zdd rv i (ns:=ns) t;simp only[List.map_cons,List.zipWith_cons_cons];refine .cons ?_ ih;by_cases e:n=i
  ·simp[e,zN];exact rv
  ·simp[e,zN];exact h
theorem zde{K:Ka}{W:Addr->Prop}{H:Hp}{d:D}{v:V}(rv:Rep K W H d v)(i:List Int): ∀{ns:List (List Int)} {vs:List D} {ys:List V},Reps K W H vs ys->Reps K W H (List.zipWith (fun k' v'=>if zN k' (kT i) then d else v') (ns.map kT) vs) (List.zipWith (fun n y=>if n=i then v else y) ns ys)
 |[],_,_,_=>by simp;exact .nil
 |n::ns,_,_,.nil=>by simp;exact .nil
 |n::ns,_,_,.cons h t=>by
  have ih:=zde rv i (ns:=ns) t;simp only[List.map_cons,List.zipWith_cons_cons];refine .cons ?_ ih;have:zN (kT n) (kT i)=decide (n=i):=by simp[kT,zN,Qh]
  rw[this];by_cases e:n=i
  ·simp[e];exact rv
  ·simp[e];exact h
theorem zlv{K:Ka}{W:Addr->Prop}{H:Hp}{ns:List Int}{ys:List V}{vs:List D}{d:D}{v:V}(h:ns.length=ys.length)(r:Reps K W H vs ys)(i:Int)(rv:Rep K W H d v):
  ORep K W H (xo false (ns.map D.int) vs (.int i) d) (.dK (xB (yA ns ys) (.inl i) v)):=by
 unfold xB xo;rw[JM,qV h];split
 ·rw[zdb i v h]
  exact .dK (by simp[h]) (zdd rv i r)
 ·have e:yA ns ys++[(Sum.inl i,v)]=yA (ns++[i]) (ys++[v]):=by
   unfold yA;rw[List.map_append,List.zip_append (by simpa using h)];rfl
  rw[e];have:=ORep.dK (K:=K) (W:=W) (H:=H) (ns:=ns++[i]) (ys:=ys++[v]) (by simp[h]) (r.append (.cons rv .nil));rw[List.map_append] at this;exact this
theorem zdf{K:Ka}{W:Addr->Prop}{H:Hp}{ns:List (List Int)}{ys:List V}{vs:List D}{d:D}{v:V}(h:ns.length=ys.length)(r:Reps K W H vs ys)(i:List Int)(rv:Rep K W H d v):
  ORep K W H (xo true (ns.map kT) vs (kT i) d) (.dT (xB (yH ns ys) (i.map Sum.inl) v)):=by
 unfold xB xo;rw[JM,qW h];split
 ·rw[zdc i v h]
  exact .dT (by simp[h]) (zde rv i r)
 ·have e:yH ns ys++[(i.map Sum.inl,v)]=yH (ns++[i]) (ys++[v]):=by
   unfold yH;rw[List.map_append,List.zip_append (by simpa using h)];rfl
  rw[e];have:=ORep.dT (K:=K) (W:=W) (H:=H) (ns:=ns++[i]) (ys:=ys++[v]) (by simp[h]) (r.append (.cons rv .nil));rw[List.map_append] at this;exact this
theorem zdg{ns:List Int}{ys:List V}(h:ns.length=ys.length):(yA ns ys).length=ns.length:=by simp[yA,h]
theorem gE{ns:List (List Int)}{ys:List V}(h:ns.length=ys.length):(yH ns ys).length=ns.length:=by simp[yH,h]
theorem Yr(i:Nat){pos':Pos}(hu:X.A.units+64<cLine)(hN:X.N[i]? =some x)(hv:wq X.env.scope x)(ha:IE X (zJ fa) a ca)(hb:IE X (zJ fa) b cb)(hd:(x==("__debug__":Str))=false)(hcd:(x==("__classdict__":Str))=false)
  (hs:swapsWith b (some (.Subscript (.Name x p) a pos')) pos.line X.env=pure false:=by rfl):IS X (zH fa fuel (.dset i ca cb)) (.Assign [.Subscript (.Name x p) a pos'] b pos):=
 .mk <| (zj2 (by omega) (vG hN hv hd hcd) ha.v hb.v hs).imp fun D0 σ H zz3=>by
  obtain⟨W,ρ,y,hR,hy,q⟩:=zz3;simp only[zcu] at hy;split at hy
  ·rename_i x h
   split at hy
   ·rename_i t ks vs hc
    simp only[jo1] at hy;obtain⟨r,e1,d,e2,r',e3,d',e4,e5⟩:=hy;split at e5
    ·rename_i hk
     cases e5;rw[Bool.and_eq_true,decide_eq_true_iff] at hk;refine⟨W,ρ,r,hR,e1,fun v H1 s1 f1=>?_⟩;have hR1:=hR.same s1;obtain⟨a,o,h1,h2,h3,h4⟩:=hR1.own i _ _ h hc;refine⟨_,h1,W,ρ,r',hR1,e3,fun v2 H2 s2 f2=>?_⟩;have rv:=(f1.same s2).toD e2;have rk:=f2.toD e4;have le:=Yj
     cases h4 with
     |dK l rp=>
      rename_i ns ys
      cases d' with
      |int n=>
       cases rk;refine⟨a,_,rfl,DPut.k (k:=.inl n) (s2 _ _ h3) (by rw[zdg l];simp at hk;omega),q W σ _ (Qt hR h hc h1 (s1.trans s2) (s2 _ _ h3) ⟨fun _ z=>(nomatch z),fun _ _ z=>(nomatch z)⟩ (zlv l (rp.ext (.same s2)) n rv))⟩
      |_=>simp[yK] at hk
     |dT l rp=>
      rename_i ns ys
      cases d' with
      |tup kl=>
       obtain⟨ms,hms⟩: ∃ms,ints? kl=some ms:=by have:=hk.1;simp only[yK,Option.isSome_iff_exists] at this;exact this
       cases rk with
       |tup hb rpb=>
       have z1:=rpb.ofInts hms;have z2:=Zq hms;subst z1 z2;refine⟨a,_,rfl,DPut.t (k:=ms.map Sum.inl) (s2 _ _ h3) (by rw[hb,Yk]) (by rw[gE l];simp at hk;omega),q W σ _ (Qt hR h hc h1 (s1.trans s2) (s2 _ _ h3) ⟨fun _ z=>(nomatch z),fun _ _ z=>(nomatch z)⟩ (zdf l (rp.ext (.same s2)) ms rv))⟩
      |_=>simp[yK] at hk
    ·cases e5
   ·cases hy
  ·cases hy
end
end L2.LW
set_option maxHeartbeats 4000000
namespace L2.LW
open PySem PySem.Spec PyProof.Rows
inductive ArgOk (K:Ka)(ρ:LW.Env)(σ:St)(H H':Hp):AV->V->Prop where
 |e {d:D} {v:V} (h: ∀W,Rep K W H' d v):ArgOk K ρ σ H H' (.e d) v
 |l {ds:List D} {a:Addr} {xs:List V} (e:SqL K H' a xs/\Rd H' a (.lst xs)\/XG K a xs) (r: ∀W,Reps K W H' ds xs):ArgOk K ρ σ H H' (.l ds) (.ref a)
 |s {i:Nat} {x:SV} {d:D} {a:Addr} (h:ρ[i]? =some (some x)) (c:x.cell=some d) (k:vM d=true) (e:σ[i]? =some (some (.ref a))):ArgOk K ρ σ H H' (.s i d) (.ref a)
 |n {t:Bool} {a:Addr} {o:HO} (h:H a=Option.none) (e:H' a=some o) (r: ∀W,ORep K W H' (.dct t [] []) o):ArgOk K ρ σ H H' (.n t) (.ref a)
noncomputable def zlw(K:Ka)(fn:Nat->List D->Option SV)(ma:MA):TA:=fun σ H Q=>∃W ρ xs,R K W ρ σ H/\xg fn ma ρ=some xs/\∀vs H',Same H H'->Paired (ArgOk K ρ σ H H') xs vs->Q vs H'
structure IMA (X:Cx)(fn:Nat->List D->Option SV)(es:List Expr)(ma:MA):Prop where
 h:PA X es (zlw X.K fn ma)
noncomputable def tM(K:Ka)(fa:Nat->List D->Option Ans)(m:M):TE:=fun σ H Q=>∃W ρ r ρ',R K W ρ σ H/\vv fa m ρ=some (r,ρ')/\∀v H',SPost K W ρ σ H W ρ' σ H'->Res K W H H' r v->Q v H'
structure IM (X:Cx)(fa:Nat->List D->Option Ans)(e:Expr)(m:M):Prop where
 h:PE X e (tM X.K fa m)
theorem ArgOk.back{K:Ka}{ρ:LW.Env}{σ:St}{H H' H'':Hp}{x:AV}{v:V}(h:ArgOk K ρ σ H' H'' x v)(s:Same H H'):ArgOk K ρ σ H H'' x v:=by
 cases h with
 |e h=>exact .e h
 |l e r=>exact .l e r
 |s h c k e=>exact .s h c k e
 |n h e r=>exact .n (s.free h) e r
theorem QG{K:Ka}{ρ:LW.Env}{σ:St}{H H' H'':Hp}: ∀{xs:List AV} {vs:List V},Paired (ArgOk K ρ σ H' H'') xs vs->Same H H'->Paired (ArgOk K ρ σ H H'') xs vs
 |_,_,.nil,_=>.nil
 |_,_,.cons h t,s=>.cons (h.back s) (QG t s)
section
variable {X:Cx} {fn:Nat->List D->Option SV} {fa:Nat->List D->Option Ans} {fuel:Nat} {a b c e:Expr} {ca cb cc ce:E} {es:List Expr} {cs:Es} {ma:MA} {m:M} {pos p:Pos} {x:Str} {st:Stmt} {sts sts':List Stmt} {s:S} {ss s1 s2:Ss}
theorem zdh:IMA X fn [] .nil:=.mk <| Zk.imp fun σ H Q zz3=>by
 obtain⟨W,ρ,rs,hR,he,q⟩:=zz3;simp only[zco] at he;cases he;exact q _ H (.refl H) .nil
theorem Yt(he:IE X fn e ce)(h:IMA X fn es ma)(hs:starEach (e::es) X.env=(false,eval e X.env)::starEach es X.env:=by rfl):IMA X fn (e::es) (.e ce ma):=
 .mk <| (vp he.v h.h hs).imp fun σ H Q zz3=>by
  obtain⟨W,ρ,rs,hR,hx,q⟩:=zz3;simp only[zcp,jo1,jo2] at hx;obtain⟨r,e1,av,e2,xs,e3,rfl⟩:=hx;refine⟨W,ρ,r,hR,e1,fun v H1 s1 f=>⟨W,ρ,xs,hR.same s1,e3,fun vs H2 s2 fs=>q _ H2 (s1.trans s2) (.cons ?_ (QG fs s1))⟩⟩;unfold jG at e2;split at e2
  ·rename_i ds
   split at e2
   ·rename_i hp
    cases e2
    cases f with
    |val f=>
     cases f with
     |lst h r=>
      refine .l ?_ fun W'=>(r.plain hp).ext (.same s2)
      rcases h with ⟨_,h⟩|h
      ·refine .inl ⟨s2.seq (.inl h),?_⟩
       rcases h with h|⟨o,h⟩
       ·exact .inl (s2 _ _ h)
       ·exact .inr ⟨o,s2 _ _ h⟩
      ·exact .inr h
   ·cases e2
  ·rename_i d _
   split at e2
   ·rename_i hp
    cases e2
    cases f with
    |val f=>exact .e fun W'=>(f.plain hp).ext (.same s2)
   ·cases e2
  ·rename_i o ds
   split at e2
   ·rename_i hp
    cases e2
    cases f with
    |lis h e r=>
     cases r with
     |lst r=>exact .l (.inl ⟨.of (s2 _ _ e),.inl (s2 _ _ e)⟩) fun W'=>(r.plain hp).ext (.same s2)
    |see h e r=>
     cases r with
     |lst r=>exact .l (.inl ⟨.of (s2 _ _ e),.inl (s2 _ _ e)⟩) fun W'=>(r.plain hp).ext (.same s2)
   ·cases e2
  ·cases e2
theorem gF(i:Nat)(hN:X.N[i]? =some x)(hv:wq X.env.scope x)(h:IMA X fn es ma)(hd:(x==("__debug__":Str))=false)(hcd:(x==("__classdict__":Str))=false):IMA X fn (.Name x p::es) (.s i ma):=
 .mk <| (vp (vG hN hv hd hcd) h.h rfl).imp fun σ H Q zz3=>by
  obtain⟨W,ρ,rs,hR,hx,q⟩:=zz3;simp only[zcq,jo1] at hx;obtain⟨d,e1,e2⟩:=hx;split at e2
  ·rename_i hk
   rw[jo2] at e2;obtain⟨xs,e3,rfl⟩:=e2;unfold jH at e1;split at e1
   ·rename_i y h1
    obtain⟨a,o,h2,_⟩:=hR.own i y d h1 e1;exact⟨_,h2,W,ρ,xs,hR,e3,fun vs H2 s2 fs=>q _ H2 s2 (.cons (.s h1 e1 hk h2) fs)⟩
   ·cases e1
  ·cases e2
theorem zlx(t:Bool)(h:IMA X fn es ma):IMA X fn (.Dict [] [] p::es) (.n t ma):=by
 refine .mk ?_
 cases t with
 |false=>
  refine (vp zcd h.h rfl).imp fun σ H Q ⟨W,ρ,rs,hR,hx,q⟩=>?_
  simp only[qR,jo2] at hx;obtain⟨xs,e3,rfl⟩:=hx;intro p hp;have s1:=xh hp (.dK []);exact⟨W,ρ,xs,hR.same s1,e3,fun vs H2 s2 fs=>q _ H2 (s1.trans s2) (.cons (.n hp (s2 _ _ yJ) fun W=>.dK (ns:=[]) (ys:=[]) rfl .nil) (QG fs s1))⟩
 |true=>
  refine (vp zce h.h rfl).imp fun σ H Q ⟨W,ρ,rs,hR,hx,q⟩=>?_
  simp only[qR,jo2] at hx;obtain⟨xs,e3,rfl⟩:=hx;intro p hp;have s1:=xh hp (.dT []);exact⟨W,ρ,xs,hR.same s1,e3,fun vs H2 s2 fs=>q _ H2 (s1.trans s2) (.cons (.n hp (s2 _ _ yJ) fun W=>.dT (ns:=[]) (ys:=[]) rfl .nil) (QG fs s1))⟩
end
noncomputable def Zy:MA->Nat->List Nat
 | .nil,_=>[]
 | .e _ r,k=>Zy r (k+1)
 | .s _ r,k=>k::Zy r (k+1)
 | .n _ r,k=>k::Zy r (k+1)
noncomputable def Yu:MA->List Nat
 | .nil=>[]
 | .e _ r=>Yu r
 | .s i r=>i::Yu r
 | .n _ r=>Yu r
noncomputable def Yv:MA->Nat
 | .nil=>0
 | .e _ r=>Yv r
 | .s _ r=>Yv r
 | .n _ r=>Yv r+1
noncomputable def yX:List AV->Nat->List Nat
 |[],_=>[]
 | .e _::r,k=>yX r (k+1)
 | .l _::r,k=>yX r (k+1)
 | .s _ _::r,k=>k::yX r (k+1)
 | .n _::r,k=>k::yX r (k+1)
noncomputable def yP:List AV->List Nat
 |[]=>[]
 | .s i _::r=>i::yP r
 |_::r=>yP r
noncomputable def vh:List AV->Nat
 |[]=>0
 | .n _::r=>vh r+1
 |_::r=>vh r
theorem QH{fn:Nat->List D->Option SV}{ρ:LW.Env}: ∀{ma:MA} {xs:List AV},xg fn ma ρ=some xs->(∀k,yX xs k=Zy ma k)/\yP xs=Yu ma/\vh xs=Yv ma
 | .nil,xs,h=>by simp only[zco] at h;cases h;exact⟨fun _=>rfl,rfl,rfl⟩
 | .e c r,xs,h=>by
  simp only[zcp,jo1,jo2] at h;obtain⟨x,_,av,e2,ys,e3,rfl⟩:=h;obtain⟨h1,h2,h3⟩:=QH e3;unfold jG at e2;split at e2
  ·split at e2
   ·cases e2;exact⟨fun k=>h1 (k+1),h2,h3⟩
   ·cases e2
  ·split at e2
   ·cases e2;exact⟨fun k=>h1 (k+1),h2,h3⟩
   ·cases e2
  ·split at e2
   ·cases e2;exact⟨fun k=>h1 (k+1),h2,h3⟩
   ·cases e2
  ·cases e2
 | .s i r,xs,h=>by
  simp only[zcq,jo1] at h;obtain⟨d,_,e2⟩:=h;split at e2
  ·rw[jo2] at e2
   obtain⟨ys,e3,rfl⟩:=e2;obtain⟨h1,h2,h3⟩:=QH e3;exact⟨fun k=>by simp only[yX,Zy,h1],by simp only[yP,Yu,h2],h3⟩
  ·cases e2
 | .n t r,xs,h=>by
  simp only[qR,jo2] at h;obtain⟨ys,e3,rfl⟩:=h;obtain⟨h1,h2,h3⟩:=QH e3;exact⟨fun k=>by simp only[yX,Zy,h1],h2,by simp only[vh,Yv,h3]⟩
noncomputable def Yw:AV->Bool
 | .s _ _=>true
 | .n _=>true
 |_=>false
theorem XZ: ∀{xs:List AV} {j k:Nat},k∈yX xs j↔j<=k/\∃x,xs[k-j]? =some x/\Yw x=true
 |[],j,k=>by simp[yX]
 |x::r,j,k=>by
  have ih:=XZ (xs:=r) (j:=j+1) (k:=k)
  have key:k∈yX r (j+1)↔j<=k/\k≠j/\∃y,(x::r)[k-j]? =some y/\Yw y=true:=by
   rw[ih];constructor
   ·rintro⟨h1,y,h2,h3⟩
    refine⟨by omega,by omega,y,?_,h3⟩;have e:k-j=(k-(j+1))+1:=by omega
    rw[e,List.getElem?_cons_succ];exact h2
   ·rintro⟨h1,h0,y,h2,h3⟩
    have e:k-j=(k-(j+1))+1:=by omega
    rw[e,List.getElem?_cons_succ] at h2;exact⟨by omega,y,h2,h3⟩
  have no:Yw x=false->(k∈yX r (j+1)↔j<=k/\∃y,(x::r)[k-j]? =some y/\Yw y=true):=fun hx=>by
   rw[key];constructor
   ·rintro⟨h1,_,h2⟩;exact⟨h1,h2⟩
   ·rintro⟨h1,y,h2,h3⟩
    refine⟨h1,fun e=>?_,y,h2,h3⟩;subst e;rw[Nat.sub_self] at h2;cases h2;rw[hx] at h3;cases h3
  have yes:Yw x=true->(k=j\/k∈yX r (j+1)↔j<=k/\∃y,(x::r)[k-j]? =some y/\Yw y=true):=fun hx=>by
   rw[key];constructor
   ·rintro (rfl|⟨h1,_,h2⟩)
    ·exact⟨Nat.le_refl _,x,by rw[Nat.sub_self];rfl,hx⟩
    ·exact⟨h1,h2⟩
   ·rintro⟨h1,h2⟩
    by_cases e:k=j
    ·exact .inl e
    ·exact .inr ⟨h1,e,h2⟩
  cases x with
  |e d=>exact no rfl
  |l d=>exact no rfl
  |s i d=>rw[yX,List.mem_cons];exact yes rfl
  |n t=>rw[yX,List.mem_cons];exact yes rfl
theorem QI{α β:Type}{F:α->β->Prop}: ∀{xs:List α} {vs:List β} {k:Nat} {x:α},Paired F xs vs->xs[k]? =some x->∃v,vs[k]? =some v/\F x v
 |_,_,_,_,.nil,e=>by simp at e
 |_,_,0,_,.cons h _,e=>by simp at e;subst e;exact⟨_,rfl,h⟩
 |_,_,k+1,x,.cons _ t,e=>by
  obtain⟨v,h1,h2⟩:=QI (k:=k) (x:=x) t (by simpa using e);exact⟨v,by simpa using h1,h2⟩
theorem QJ: ∀{xs:List AV} {i:Nat},i∈yP xs↔∃(k:Nat) (d:D),xs[k]? =some (AV.s i d)
 |[],i=>by simp[yP]
 |x::r,i=>by
  have ih:=QJ (xs:=r) (i:=i);have up:(∃(k:Nat) (d:D),r[k]? =some (AV.s i d))->∃(k:Nat) (d:D),(x::r)[k]? =some (AV.s i d):=fun ⟨k,d,h⟩=>⟨k+1,d,by simpa using h⟩
  have dn:(∀d,x≠ .s i d)->(∃(k:Nat) (d:D),(x::r)[k]? =some (AV.s i d))->∃(k:Nat) (d:D),r[k]? =some (AV.s i d):=fun hx zz1=>by
   obtain⟨k,d,h⟩:=zz1
   cases k with
   |zero=>cases h;exact KC rfl (hx d)
   |succ k=>exact⟨k,d,by simpa using h⟩
  cases x with
  |s j d0=>
   rw[yP,List.mem_cons,ih];constructor
   ·rintro (rfl|h)
    ·exact⟨0,d0,rfl⟩
    ·exact up h
   ·intro h
    by_cases e:i=j
    ·exact .inl e
    ·exact .inr (dn (fun d z=>by cases z;exact e rfl) h)
  |e d=>show i∈yP r↔_;rw[ih];exact⟨up,dn fun _ z=>nomatch z⟩
  |l d=>show i∈yP r↔_;rw[ih];exact⟨up,dn fun _ z=>nomatch z⟩
  |n d=>show i∈yP r↔_;rw[ih];exact⟨up,dn fun _ z=>nomatch z⟩
theorem zdi: ∀{xs:List AV} {j k i:Nat} {d e:D},(yP xs).Nodup->xs[j]? =some (.s i d)->xs[k]? =some (.s i e)->j=k
 |[],_,_,_,_,_,_,h,_=>by simp at h
 |x::r,j,k,i,d,e,hn,h1,h2=>by
  have hr:(yP r).Nodup:=by
   cases x with
   |s i d=>rw[yP,List.nodup_cons] at hn;exact hn.2
   |_=>exact hn
  cases j with
  |zero=>
   cases k with
   |zero=>rfl
   |succ k=>
    cases h1;rw[yP,List.nodup_cons] at hn;exact KC (QJ.mpr ⟨k,e,by simpa using h2⟩) hn.1
  |succ j=>
   cases k with
   |zero=>
    cases h2;rw[yP,List.nodup_cons] at hn;exact KC (QJ.mpr ⟨j,d,by simpa using h1⟩) hn.1
   |succ k=>rw[zdi (j:=j) (k:=k) hr (by simpa using h1) (by simpa using h2)]
theorem zdj: ∀{xs:List AV} {j k:Nat} {t u:Bool},vh xs<=1->xs[j]? =some (.n t)->xs[k]? =some (.n u)->j=k
 |[],_,_,_,_,_,h,_=>by simp at h
 |x::r,j,k,t,u,hn,h1,h2=>by
  have pos: ∀{r:List AV} {k:Nat} {u:Bool},r[k]? =some (AV.n u)->0<vh r:=by
   intro r
   induction r with
   |nil=>intro k u h;simp at h
   |cons y r ih=>
    intro k u h
    cases k with
    |zero=>cases h;simp[vh]
    |succ k=>
     have:=ih (k:=k) (u:=u) (by simpa using h);cases y<;>simp[vh]<;>omega
  cases j with
  |zero=>
   cases k with
   |zero=>rfl
   |succ k=>
    cases h1;have:=pos (k:=k) (u:=u) (r:=r) (by simpa using h2);simp[vh] at hn;omega
  |succ j=>
   cases k with
   |zero=>
    cases h2;have:=pos (k:=j) (u:=t) (r:=r) (by simpa using h1);simp[vh] at hn;omega
   |succ k=>
    have hr:vh r<=1:=by cases x<;>simp[vh] at hn<;>omega
    rw[zdj (j:=j) (k:=k) hr (by simpa using h1) (by simpa using h2)]
inductive OutsX (K:Ka)(W:Addr->Prop)(H:Hp):List AV->List V->List D->Prop where
 |nil:OutsX K W H [] [] []
 |e {d:D} {v:V} {xs:List AV} {vs:List V} {os:List D} (t:OutsX K W H xs vs os):OutsX K W H (.e d::xs) (v::vs) os
 |l {d:List D} {v:V} {xs:List AV} {vs:List V} {os:List D} (t:OutsX K W H xs vs os):OutsX K W H (.l d::xs) (v::vs) os
 |s {i:Nat} {d:D} {a:Addr} {o:HO} {d':D} {xs:List AV} {vs:List V} {os:List D} (e:H a=some o) (r:ORep K W H d' o) (t:OutsX K W H xs vs os):OutsX K W H (.s i d::xs) (.ref a::vs) (d'::os)
 |n {b:Bool} {v:V} {d':D} {xs:List AV} {vs:List V} {os:List D} (t:OutsX K W H xs vs os):OutsX K W H (.n b::xs) (v::vs) (d'::os)
theorem zdk{K:Ka}{W:Addr->Prop}{H:Hp}{F:AV->V->Prop}: ∀{xs:List AV} {vs pre:List V} {os:List D},Paired F xs vs->Qo K W H (yX xs pre.length) (pre++vs) os->OutsX K W H xs vs os
 |_,_,pre,os,.nil,h=>by
  simp only[yX] at h;cases h;exact .nil
 |_,_,pre,os,.cons (a:=x) (b:=v) (l₁:=xs) (l₂:=vs) _ t,h=>by
  have step: ∀{os:List D},Qo K W H (yX xs (pre.length+1)) (pre++v::vs) os->OutsX K W H xs vs os:=fun {os} h=>
   zdk (pre:=pre++[v]) t (by simpa using h)
  cases x with
  |e d=>exact .e (step h)
  |l d=>exact .l (step h)
  |s i d=>
   simp only[yX] at h
   cases h with
   |cons h r=>
    obtain⟨a,o,e1,e2,e3⟩:=h;simp at e1;subst e1;exact .s e2 e3 (step r)
  |n b=>
   simp only[yX] at h
   cases h with
   |cons h r=>exact .n (step r)
structure Upd (K:Ka)(W:Addr->Prop)(ρ:LW.Env)(σ:St)(H:Hp)(ρ':LW.Env)(sl:List Nat):Prop where
 len:ρ'.length=ρ.length
 other: ∀i,i∉sl->ρ'[i]? =ρ[i]?
 at_: ∀i∈sl,∃x d a o,ρ[i]? =some (some x)/\x.cell.isSome=true/\ρ'[i]? =some (some (x.put d))/\σ[i]? =some (some (.ref a))/\H a=some o/\ORep K W H d o
theorem Va{K:Ka}{W:Addr->Prop}{ρ0:LW.Env}{σ:St}{H0 H1 H':Hp}: ∀{xs:List AV} {vs:List V} {os:List D} {ρ ρ':LW.Env},Paired (ArgOk K ρ0 σ H0 H1) xs vs->(yP xs).Nodup->(∀i∈yP xs,ρ[i]? =ρ0[i]?)->OutsX K W H' xs vs os->xp ρ xs os=some ρ'->Upd K W ρ σ H' ρ' (yP xs)
 |_,_,_,ρ,ρ',.nil,_,_,h,e=>by
  cases h;simp only[xp] at e;cases e;exact⟨rfl,fun _ _=>rfl,fun i h=>(by cases h)⟩
 |_,_,_,ρ,ρ',.cons (a:=x) (b:=v) (l₁:=xs) (l₂:=vs) hx t,hn,hs,h,e=>by
  cases h with
  |e h=>simp only[xp] at e;show Upd K W ρ σ H' ρ' (yP xs);exact Va (xs:=xs) t hn hs h e
  |l h=>simp only[xp] at e;show Upd K W ρ σ H' ρ' (yP xs);exact Va (xs:=xs) t hn hs h e
  |n h=>simp only[xp] at e;show Upd K W ρ σ H' ρ' (yP xs);exact Va (xs:=xs) t hn hs h e
  |s e1 r h=>
   rename_i i d a o d' os;simp only[xp] at e;rw[yP,List.nodup_cons] at hn
   cases hx with
   |s h1 c k e2=>
    rename_i y;have h1':ρ[i]? =some (some y):=by rw[hs i (by simp[yP])];exact h1
    have ep:Yg ρ i d'=ρ.set i (some (y.put d')):=by unfold Yg;rw[h1']
    rw[ep] at e;have hl:i<ρ.length:=(List.getElem?_eq_some_iff.mp h1').1
    obtain⟨l,ot,at_⟩:=Va t hn.2 (fun j hj=>by
     rw[xx (fun z=>hn.1 (by rw[z];exact hj))];exact hs j (by rw[yP];exact Kf _ hj)) h e
    refine⟨by simpa using l,fun j hj=>?_,fun j hj=>?_⟩
    ·rw[yP,List.mem_cons] at hj
     rw[ot j (fun z=>hj (.inr z)),xx (fun z=>hj (.inl z.symm))]
    ·rw[yP,List.mem_cons] at hj
     by_cases ej:j=i
     ·subst ej
      refine⟨y,d',a,o,h1',by rw[c];rfl,?_,e2,e1,r⟩;rw[ot j hn.1,jN hl]
     ·obtain⟨x,d,a,o,z1,z2⟩:=at_ j (hj.resolve_left ej)
      rw[xx (fun z=>ej z.symm)] at z1;exact⟨x,d,a,o,z1,z2⟩
theorem zly{K:Ka}{W:Addr->Prop}{ρ ρ':LW.Env}{σ:St}{H H':Hp}{sl:List Nat}(r:R K W ρ σ H)(u:Upd K W ρ σ H' ρ' sl)(keep: ∀a o,H a=some o->(∀i∈sl,σ[i]? ≠some (some (.ref a)))->H' a=some o):SPost K W ρ σ H W ρ' σ H':=by
 have cellOf: ∀{x:SV},x.cell.isSome=true->∃d,x.cell=some d:=fun {x} h=>Option.isSome_iff_exists.mp h
 have ownSl: ∀{i:Nat} {a:Addr},i∈sl->σ[i]? =some (some (.ref a))->wd ρ σ a:=fun {i a} hi e=>by
  obtain⟨x,d,a',o,h1,h2,_⟩:=u.at_ i hi;obtain⟨d0,hc⟩:=cellOf h2;exact⟨i,x,d0,h1,hc,e⟩
 have kp: ∀a o,H a=some o->¬wd ρ σ a->H' a=some o:=fun a o h n=>keep a o h fun i hi e=>n (ownSl hi e)
 have ext:Ext W H W H':=by
  refine⟨fun a o h n=>kp a o h fun z=>n (r.ownW z).1,fun a xs h=>kp a _ h fun z=>?_,fun a o w h=>kp a _ h fun z=>?_,fun a w=>.inl w⟩
  ·obtain⟨_,o,d,e,q⟩:=r.ownW z
   rw[h] at e;cases e;exact q.kind.1 xs rfl
  ·obtain⟨_,o,d,e,q⟩:=r.ownW z
   rw[h] at e;cases e;exact q.kind.2 _ _ rfl
 have old: ∀{k:Nat} {y:SV} {es:D},ρ'[k]? =some (some y)->y.cell=some es->∃y' es',ρ[k]? =some (some y')/\y'.cell=some es':=fun {k y es} q c=>by
  by_cases hk:k∈sl
  ·obtain⟨x,d,a',o,h1,h2,_⟩:=u.at_ k hk
   obtain⟨d0,hc⟩:=cellOf h2;exact⟨x,d0,h1,hc⟩
  ·rw[u.other k hk] at q;exact⟨y,es,q,c⟩
 refine⟨⟨fun k d hk=>?_,fun k d hk=>?_,fun k y es hk hc=>?_,fun k l x y e1 e2 b h1 h2 c1 c2 h3 h4=>?_,fun b w=>?_,by rw[u.len];exact r.len⟩,kp,fun b w=>.inl w,fun b w n=>⟨w,fun ⟨k,y,es,z1,c,z2⟩=>?_⟩,fun j=>⟨?_,fun _=>rfl⟩⟩
 ·by_cases hs:k∈sl
  ·obtain⟨x,d',a',o,h1,h2,h3,_⟩:=u.at_ k hs
   rw[h3] at hk;exact KC (Kn (Kn hk)) (zcQ _ _ _)
  ·rw[u.other k hs] at hk
   obtain⟨v,h1,h2⟩:=r.val k d hk;exact⟨v,h1,h2.ext ext⟩
 ·by_cases hs:k∈sl
  ·obtain⟨x,d',a',o,h1,h2,h3,_⟩:=u.at_ k hs
   rw[h3] at hk;exact KC (Kn (Kn hk)) (zcR _ _ _)
  ·rw[u.other k hs] at hk
   exact r.nol k d hk
 ·by_cases hs:k∈sl
  ·obtain⟨x,d',a',o,h1,h2,h3,h4,h5,h6⟩:=u.at_ k hs
   rw[h3] at hk;cases hk;rw[zcP] at hc;cases hc;obtain⟨d0,hc0⟩:=cellOf h2;exact⟨a',o,h4,(r.ownW ⟨k,x,d0,h1,hc0,h4⟩).1,h5,h6⟩
  ·rw[u.other k hs] at hk
   obtain⟨b,ys,h1,h2,h3,h4⟩:=r.own k y es hk hc;refine⟨b,ys,h1,h2,keep b ys h3 fun i hi e=>hs ?_,h4.ext ext⟩;obtain⟨x,d',a',o,g1,g2,_⟩:=u.at_ i hi;obtain⟨d0,hc0⟩:=cellOf g2;rw[r.inj k i y x es d0 b hk g1 hc hc0 h1 e];exact hi
 ·obtain⟨_,_,z1,w1⟩:=old h1 c1
  obtain⟨_,_,z2,w2⟩:=old h2 c2;exact r.inj k l _ _ _ _ b z1 z2 w1 w2 h3 h4
 ·cases e:H b with
  |none=>exact KC e (r.wf b w)
  |some o=>
   by_cases hz: ∃i∈sl,σ[i]? =some (some (.ref b))
   ·obtain⟨i,hi,e'⟩:=hz
    obtain⟨x,d',a',o,g1,g2,g3,g4,g5,_⟩:=u.at_ i hi;rw[e'] at g4;cases g4;rw[g5];exact fun z=>nomatch z
   ·rw[keep b o e fun i hi e'=>hz ⟨i,hi,e'⟩];exact fun z=>nomatch z
 ·obtain⟨_,_,z,w'⟩:=old z1 c
  exact n ⟨k,_,_,z,w',z2⟩
 ·by_cases hs:j∈sl
  ·obtain⟨x,d',a',o,h1,h2,h3,_⟩:=u.at_ j hs
   unfold xJ;rw[h1,h3];constructor
   ·rintro⟨d2,z⟩
    obtain⟨d3,w⟩:=Qs.mp ⟨d2,Kn (Kn z)⟩;exact⟨d3,by rw[w]⟩
   ·rintro⟨d2,z⟩
    obtain⟨d3,w⟩:=Qs (d:=d') |>.mpr ⟨d2,Kn (Kn z)⟩;exact⟨d3,by rw[w]⟩
  ·unfold xJ;rw[u.other j hs]
section
variable {X:Cx} {fn:Nat->List D->Option SV} {fa:Nat->List D->Option Ans} {fuel:Nat} {a b c e:Expr} {ca cb cc ce:E} {es:List Expr} {cs:Es} {ma:MA} {m:M} {pos p:Pos} {x:Str} {st:Stmt} {sts sts':List Stmt} {s:S} {ss s1 s2:Ss}
theorem zdl{K:Ka}{W:Addr->Prop}{H:Hp}{d:D}{o:HO}(h:ORep K W H d o)(k:vM d=true): ∀xs,o≠ .lst xs:=by
 cases h with
 |lst r=>cases k
 |dK l r=>exact fun _ z=>nomatch z
 |dT l r=>exact fun _ z=>nomatch z
theorem zlz{d:D}(k:vM d=true):wX d=true:=by
 cases d with
 |dct t ks vs=>exact k
 |_=>cases k
theorem OutsX.plain{K:Ka}{W W':Addr->Prop}{H:Hp}{xs:List AV}{vs:List V}{os:List D}(h:OutsX K W H xs vs os)(p:os.all wX=true):OutsX K W' H xs vs os:=by
 induction h with
 |nil=>exact .nil
 |e _ ih=>exact .e (ih p)
 |l _ ih=>exact .l (ih p)
 |s e r _ ih=>
  simp only[List.all_cons,Bool.and_eq_true] at p;exact .s e (r.plain p.1) (ih p.2)
 |n _ ih=>
  simp only[List.all_cons,Bool.and_eq_true] at p;exact .n (ih p.2)
theorem Res.fine{K:Ka}{W W':Addr->Prop}{H H':Hp}{r:SV}{v:V}(h:Res K W' H H' r v)(p:r.fine=true):Res K W H H' r v:=by
 cases h with
 |val h=>exact .val (h.plain p)
 |new h e r=>exact .new h e (r.plain p)
 |see h e r=>cases p
theorem zdm{k:Nat}{f:Addr}{fd:FuncData}{ps:List Str}{i:Nat}{io:List Nat}(F:FnOk X.prog X.w X.K X.mg X.base wr k f fd ps (vf X.K fa i io))(hio:io=Zy ma 0)(hnd:(Yu ma).Nodup)(hnw:Yv ma<=1)
  (hr:Room k X.A) (hg:Gl X x) (hm:X.mg x=some (.ref f)) (hk:PySem.W.keepIn X.K (.ref f)=true)
  (hb:Binds X.K fd ps []) (ha:IMA X (zJ fa) (e::es) ma) (hdb:(x==("__debug__":Str))=false:=by decide) (he:starEach (e::es) X.env=(false,eval e X.env)::starEach es X.env:=by rfl)
  (hpl:(backTo pos (starEach es X.env)).any (·.1)=false:=by rfl):IM X fa (.Call (.Name x p) (e::es) [] pos) (.call i ma):=
 .mk <| (zbP F hr hg hm hk hb .nil zcg ha.h hdb he hpl).imp fun σ H Q zz3=>by
  obtain⟨W,ρ,r,ρ',hR,h,q⟩:=zz3;simp only[zkz,jo1] at h;obtain⟨xs,e1,an,e2,e3⟩:=h
  obtain⟨r',outs,rfl⟩: ∃r' outs,an=Ans.ok r' outs:=by
   cases an with
   |ok r o=>exact⟨r,o,rfl⟩
   |ex c=>cases e3
  simp only at e3;split at e3
  case isFalse=>cases e3
  rename_i hp;rw[Bool.and_eq_true] at hp;rw[jo2] at e3;obtain⟨ρ2,e3,e4⟩:=e3;cases e4;refine⟨W,ρ,xs,hR,e1,fun vs H1 s1 f=>?_⟩;show vf X.K fa i io (vs++[]) H1 Q E0;rw[List.append_nil];obtain⟨t1,t2,t3⟩:=QH e1;have hio':io=yX xs 0:=by rw[hio,t1]
  subst hio';rw[<-t2] at hnd;rw[<-t3] at hnw
  have at_: ∀{k:Nat} {a:Addr},k∈yX xs 0->vs[k]? =some (.ref a)->(∃i d y,xs[k]? =some (.s i d)/\ρ[i]? =some (some y)/\y.cell=some d/\vM d=true/\σ[i]? =some (some (.ref a)))\/(∃t,xs[k]? =some (.n t)/\H a=Option.none/\∃o,H1 a=some o/\∀W,ORep X.K W H1 (.dct t [] []) o):=fun {k a} hk hv=>by
   obtain⟨_,x,hx,hi⟩:=XZ.mp hk;rw[Nat.sub_zero] at hx;obtain⟨v,h1,h2⟩:=QI f hx;rw[hv] at h1;cases h1
   cases h2 with
   |e _=>cases hi
   |l _ _=>cases hi
   |s g1 g2 g3 g4=>exact .inl ⟨_,_,_,hx,g1,g2,g3,g4⟩
   |n g1 g2 g3=>exact .inr ⟨_,hx,g1,_,g2,g3⟩
  have hR1:=hR.same s1
  have ioD: ∀a,XT (yX xs 0) vs a->∃o,H1 a=some o/\∀zs,o≠ .lst zs:=fun a zz1=>by
   obtain⟨k,hk,hv⟩:=zz1;rcases at_ hk hv with ⟨i,d,y,_,g1,g2,g3,g4⟩|⟨t,_,_,o,g2,g3⟩
   ·obtain⟨b,o,z1,z2,z3,z4⟩:=hR1.own i y d g1 g2
    rw[g4] at z1;cases z1;exact⟨o,z3,zdl z4 g3⟩
   ·exact⟨o,g2,zdl (g3 W) rfl⟩
  have ar:ARep X.K (XT (yX xs 0) vs) H1 (yX xs 0) (xs.map Zo) vs:=by
   refine⟨by rw[List.length_map];exact Paired.length f,fun k d hd hk=>?_,fun k d hd hk=>?_,fun j k a hj hk h1 h2=>?_⟩
   ·rw[List.getElem?_map,jo2] at hd
    obtain⟨x,hx,rfl⟩:=hd;obtain⟨v,h1,h2⟩:=QI f hx;refine⟨v,h1,?_⟩
    cases h2 with
    |e g=>exact g _
    |l g1 g2=>
     refine .lst ?_ (g2 _);rcases g1 with ⟨_,g1⟩|g1
     ·refine .inl ⟨fun z=>?_,g1⟩
      obtain⟨o,z1,z2⟩:=ioD _ z;rcases g1 with g1|⟨ob,g1⟩
      ·rw[g1] at z1;cases z1;exact z2 _ rfl
      ·rw[g1] at z1;cases z1
       obtain⟨k',hk',hv'⟩:=z;rcases at_ hk' hv' with ⟨i,d,y,_,c1,c2,c3,c4⟩|⟨t,_,_,o,c2,c3⟩
       ·obtain⟨b,o,y1,y2,y3,y4⟩:=hR1.own i y d c1 c2
        rw[c4] at y1;cases y1;rw[g1] at y3;cases y3;exact y4.kind.2 _ _ rfl
       ·rw[g1] at c2;cases c2
        exact (c3 W).kind.2 _ _ rfl
     ·exact .inr g1
    |s _ _ _ _=>exact KC (XZ.mpr ⟨Nat.zero_le _,_,by rw[Nat.sub_zero];exact hx,rfl⟩) hk
    |n _ _ _=>exact KC (XZ.mpr ⟨Nat.zero_le _,_,by rw[Nat.sub_zero];exact hx,rfl⟩) hk
   ·rw[List.getElem?_map,jo2] at hd
    obtain⟨x,hx,rfl⟩:=hd;obtain⟨v,h1,h2⟩:=QI f hx;have hio:=XZ.mp hk;obtain⟨_,x',hx',hi'⟩:=hio;rw[Nat.sub_zero,hx] at hx';cases hx'
    cases h2 with
    |e _=>cases hi'
    |l _ _=>cases hi'
    |s g1 g2 g3 g4=>
     obtain⟨b,o,z1,z2,z3,z4⟩:=hR1.own _ _ _ g1 g2;rw[g4] at z1;cases z1;exact⟨_,o,h1,⟨k,hk,h1⟩,z3,z4.plain (zlz g3)⟩
    |n g1 g2 g3=>exact⟨_,_,h1,⟨k,hk,h1⟩,g2,g3 _⟩
   ·rcases at_ hj h1 with ⟨i,d,y,w0,c1,c2,c3,c4⟩|⟨t,w0,c1,_⟩
    ·rcases at_ hk h2 with ⟨i',d',y',w0',c1',c2',c3',c4'⟩|⟨t',w0',c1',_⟩
     ·have:=hR.inj i i' y y' d d' a c1 c1' c2 c2' c4 c4'
      subst this;exact zdi hnd w0 w0'
     ·exact KC c1' (hR.wf _ (hR.ownW ⟨i,y,d,c1,c2,c4⟩).1)
    ·rcases at_ hk h2 with ⟨i',d',y',w0',c1',c2',c3',c4'⟩|⟨t',w0',c1',_⟩
     ·exact KC c1 (hR.wf _ (hR.ownW ⟨i',y',d',c1',c2',c4'⟩).1)
     ·exact zdj hnw w0 w0'
  refine⟨_,_,r,outs,fun a ha=>?_,ar,e2,fun v H' kp ho res=>?_⟩
  ·obtain⟨o,z,_⟩:=ioD a ha
   rw[z];exact fun z=>nomatch z
  ·refine q v H' (zly hR (Va f hnd (fun _ _=>rfl) ((zdk (pre:=[]) f ho).plain hp.2) e3) fun a o h n=>kp a o (s1 _ _ h) fun ⟨k,hk,hv⟩=>?_) ((res.fine hp.1).back s1)
   rcases at_ hk hv with ⟨i,d,y,w0,c1,c2,c3,c4⟩|⟨t,w0,c1,_⟩
   ·exact n i (QJ.mpr ⟨k,d,w0⟩) c4
   ·rw[h] at c1;cases c1
theorem zlA(he:IM X fa e m)(hs:swapsWith e Option.none pos.line X.env=pure false:=by rfl):IS X (zH fa fuel (.exprM m)) (.Expr e pos):=
 .mk <| (JH he.h hs).imp fun D σ H zz3=>by
  obtain⟨W,ρ,x,hR,hx,q⟩:=zz3;simp only[zkC,jo2] at hx;obtain⟨⟨r,ρ'⟩,e1,rfl⟩:=hx;exact⟨W,ρ,r,ρ',hR,e1,fun v H1 p1 _=>q W σ H1 p1⟩
theorem zlB(hE:IM X fa e m)(he: ∀whole,isTrue e X.env whole=(do let v <-whole;standAt e.pos;holding [v] (truthy v))):PT X e fun σ H Q=>∃W ρ r ρ' k,R X.K W ρ σ H/\vv fa m ρ=some (r,ρ')/\yG r=some k/\∀H',SPost X.K W ρ σ H W ρ' σ H'->Q k H':=
 (zbO hE.h he).imp fun σ H Q ⟨W,ρ,r,ρ',k,hR,e1,e2,q⟩=>⟨W,ρ,r,ρ',hR,e1,fun v H1 p1 f=>⟨k,zcK (f.frz hR.wf) e2,q H1 p1⟩⟩
theorem zlC(hc:IT X (zJ fa) c cc)(hm:IM X fa b m)(hb: ∀whole,isTrue b X.env whole=(do let v <-whole;standAt b.pos;holding [v] (truthy v)))(h1:ISs X (zp fa fuel s1) sts)(h2:ISs X (zp fa fuel s2) sts'):
  IS X (zH fa fuel (.ifO cc m s1 s2)) (.If (.BoolOp .Or [c,b] p) sts sts' pos):=
 .mk <| (zbE (PW.pt (zbC hc.h (zbB (zlB hm hb)))) h1.h h2.h).imp fun D σ H zz3=>by
  obtain⟨W,ρ,y,hR,hy,q⟩:=zz3;simp only[zkD,jo1] at hy;obtain⟨k,e1,e2⟩:=hy;refine⟨W,ρ,k,hR,e1,fun H1 w1=>?_⟩;have p1:=SPost.same hR w1
  cases k with
  |true=>
   rw[if_pos rfl] at e2;exact JP (JP ⟨W,ρ,y,p1.r,e2,fun W2 σ2 H2 p2=>FlOk.back p1 (q W2 σ2 H2 (p1.trans p2 hR))⟩)
  |false=>
   rw[if_neg Km] at e2;rw[jo1] at e2;obtain⟨⟨r,ρ'⟩,e3,e4⟩:=e2;rw[jo1] at e4;obtain⟨k,e5,e6⟩:=e4;refine qH ⟨W,ρ,r,ρ',k,p1.r,e3,e5,fun H2 p2=>?_⟩;have p02:=p1.trans p2 hR
   cases k with
   |true=>rw[if_pos rfl] at e6;exact JP ⟨W,ρ',y,p02.r,e6,fun W3 σ3 H3 p3=>FlOk.back p02 (q W3 σ3 H3 (p02.trans p3 hR))⟩
   |false=>rw[if_neg Km] at e6;exact qH ⟨W,ρ',y,p02.r,e6,fun W3 σ3 H3 p3=>FlOk.back p02 (q W3 σ3 H3 (p02.trans p3 hR))⟩
end
end L2.LW
set_option maxHeartbeats 4000000
namespace L2.LW
open PySem PySem.Spec PyProof.Rows
noncomputable def zlD(sc scope:Scope)(y:Str)(l1 l2:Nat):Bool:=(if sc.kind.isAnnotationScope then ScopeKind.function else sc.kind)== .function&&sc.names.lookup y==some .local&&l1==l2&& !(scope.names.any fun (n,k)=>n==y&&(k== .local||k== .cell))
theorem Yx{env:PySem.Env}{sc scope:Scope}{elt:Expr}{gens:List Comprehension}{y:Str}{py pos:Pos}{l:Nat}{b:Bool}(hs:env.scope=sc)(h:zlD sc scope y py.line pos.line=b):
  swapsWith (.ListComp elt gens scope pos) (some (.Name y py)) l env=pure b:=by
 subst hs;subst h;rfl
theorem zlE{K:Ka}{W:Addr->Prop}{ρ:LW.Env}{σ:St}{H:Hp}(r:R K W ρ σ H)(j:Nat): ∃W',SPost K W ρ σ H W' (jI ρ j) σ H:=by
 unfold jI;split
 ·rename_i d h
  obtain⟨a,o,h1,_⟩:=r.own j _ d h rfl;exact⟨_,(gv r h h1).1⟩
 ·exact⟨W,.same r (.refl H)⟩
theorem zdn{K:Ka}{σ:St}{H:Hp}: ∀(js:List Nat) {W:Addr->Prop} {ρ:LW.Env},R K W ρ σ H->∃W',SPost K W ρ σ H W' (js.foldl jI ρ) σ H
 |[],W,ρ,r=>⟨W,.same r (.refl H)⟩
 |j::js,W,ρ,r=>by
  obtain⟨W1,p1⟩:=zlE r j;obtain⟨W2,p2⟩:=zdn js p1.r;exact⟨W2,p1.trans p2 r⟩
section
variable {X:Cx} {fn:Nat->List D->Option SV} {fa:Nat->List D->Option Ans} {fuel:Nat} {st:Stmt} {s:S}
theorem QK(js:List Nat)(h:IS X (zH fa fuel s) st):IS X (zH fa fuel (.frz js s)) st:=
 .mk <| h.h.imp fun D σ H zz3=>by
  obtain⟨W,ρ,x,hR,hx,q⟩:=zz3;simp only[zkK] at hx;obtain⟨W1,p1⟩:=zdn js hR;exact⟨W1,_,x,p1.r,hx,fun W2 σ2 H2 p2=>FlOk.back p1 (q W2 σ2 H2 (p1.trans p2 hR))⟩
theorem zlF(g:Bool)(src:Es)(cond elt:E): ∀ρ,zB fn (.comp g src cond elt) ρ=(zk fn (.comp g src cond elt) ρ).bind yG:=fun ρ=>by
 rw[zcn,Qd]
 cases yi fn src ρ with
 |none=>rfl
 |some rs=>
  simp only[Option.bind_some]
  cases yw g rs with
  |none=>rfl
  |some ds=>
   simp only[Option.bind_some];split
   ·cases yS (fun d=>zB fn cond (some (.val d)::ρ)) (fun d=>zk fn elt (some (.val d)::ρ)) ds<;>rfl
   ·rfl
theorem zlG{env:PySem.Env}{a b c d}: ∀whole,PySem.isTrue (.ListComp a b c d) env whole=(do let v <-whole;standAt (Expr.ListComp a b c d).pos;holding [v] (truthy v)):=fun _=>rfl
theorem zdo: ∀(r:List Int) (n:Int),(∀x∈n::r,x<=r.foldl max n)/\r.foldl max n∈n::r
 |[],n=>by simp
 |x::r,n=>by
  obtain⟨h1,h2⟩:=zdo r (max n x);rw[List.foldl_cons];refine⟨fun y hy=>?_,?_⟩
  ·have h0:=h1 (max n x) Ke
   rcases List.mem_cons.mp hy with rfl|hy
   ·omega
   ·rcases List.mem_cons.mp hy with rfl|hy
    ·omega
    ·exact h1 y (Kf _ hy)
  ·rcases List.mem_cons.mp h2 with e|e
   ·rw[e]
    rcases Int.le_total n x with q|q
    ·rw[Int.max_eq_right q];simp
    ·rw[Int.max_eq_left q];simp
   ·exact Kf _ (Kf _ e)
theorem zlH{its:List Value}{ns:List Int}(hi:IntsAre its ns): ∃ps:List (Int×Tok),its=ps.map (fun p=>Value.int p.1 p.2)/\ns=ps.map (·.1):=by
 induction hi with
 |nil=>exact⟨[],rfl,rfl⟩
 |cons n t h ih=>
  obtain⟨ps,e1,e2⟩:=ih;exact⟨(n,t)::ps,by rw[e1];rfl,by rw[e2];rfl⟩
theorem gG{its:List Value}{ns:List Int}(hi:IntsAre its ns): ∃xs:Array (Int×Tok),its.toArray=intItems xs/\xs.size=ns.length/\∀i,(h:i<ns.length)->numAt xs i=ns[i]:=by
 obtain⟨ps,rfl,rfl⟩:=zlH hi;refine⟨ps.toArray,by simp[intItems],by simp,fun i h=>?_⟩;have h':i<ps.length:=by simpa using h
 simp[numAt,h']
theorem zlI(hc:X.calm=true):xt X (.builtin "max") (VR X.K (zg .maxL)):=by
 rintro pins s σ H xs us Q I rv ⟨W,ds,r,wf,hs,hf,q⟩;replace hf:JZ ds=some r:=hf;unfold JZ at hf;split at hf
 ·rename_i l
  rw[jo1] at hf;obtain⟨ns,e1,hf⟩:=hf
  cases ns with
  |nil=>cases hf
  |cons n ns=>
   cases hf
   cases hs with
   |cons h1 t=>
    cases t;obtain⟨p,ys,rfl,hp,rp⟩:=h1.lst;have ey:=rp.ofInts e1;subst ey;obtain⟨u,rfl,ru⟩:=wW rv;cases ru;obtain⟨its,rv',pl,hz⟩:=I.list hp;obtain⟨xs,x1,x2,x3⟩:=gG (je rv');have hpl:=pl.isList;rw[x1] at hpl;refine max_intList (I.ok.hd hc) hpl (by rw[x2];simp) fun v h' tk hv hk=>?_
    obtain⟨t,rfl⟩:=intItems_at hv;obtain⟨g1,g2⟩:=argBest_gt (numAt xs) (xs.size-1);have hlen:xs.size-1=ns.length:=by rw[x2];simp
    rw[hlen] at g1 g2⊢;generalize argBest (fun i j=>decide (numAt xs i>numAt xs j)) ns.length=b at g1 g2⊢
    have eb:numAt xs b=ns.foldl max n:=by
     obtain⟨m1,m2⟩:=zdo ns n;have hb:b<(n::ns).length:=by simp;omega
     obtain⟨j,hj,ej⟩:=List.getElem_of_mem m2;have q1:=m1 _ (Kt hb);have q2:=g2 j (by simp at hj;omega);rw[x3 j hj,ej] at q2;rw[x3 b hb] at q2⊢;omega
    rw[eb];exact⟨.int _,H,I.kept (t':=tk) hk,⟨_,rfl⟩,q _ H (.refl H) (.val (.int _))⟩
 ·cases hf
end
end L2.LW
set_option maxHeartbeats 4000000
namespace L2.LW
open PySem PySem.W PyProof.Rows
section
variable {n:Nat} {r:Nat->Int} {cmp:Nat->Nat->(Bool->Shared->Prop)->Shared->Prop} {I:Shared->Prop}
noncomputable def kk(r:Nat->Int)(p:Array Nat)(i:Nat):Int:=r (p.getD i 0)
structure Pm (n:Nat)(r:Nat->Int)(p:Array Nat):Prop where
 perm:p.Perm (List.range n).toArray
 size:p.size=n
 lt: ∀i,i<n->p.getD i 0<n
 inj: ∀i j,i<n->j<n->i≠j->kk r p i≠kk r p j
theorem Pm.of{p:Array Nat}(hr: ∀i j,i<n->j<n->i≠j->r i≠r j)(h:p.Perm (List.range n).toArray):Pm n r p:=by
 have hs:p.size=n:=by have:=h.size_eq;simpa using this
 have hl:p.toList.Perm (List.range n):=Array.perm_iff_toList_perm.mp h
 have hlt: ∀i,i<n->p.getD i 0<n:=fun i hi=>by
  have hi':i<p.size:=by omega
  have:p[i]∈p.toList:=by simp
  have:=hl.mem_iff.mp this;rw[List.mem_range] at this;simpa [Array.getD,hi'] using this
 have hnd:p.toList.Nodup:=hl.nodup_iff.mpr List.nodup_range;refine⟨h,hs,hlt,fun i j hi hj ne=>hr _ _ (hlt i hi) (hlt j hj) fun e=>ne ?_⟩;have hi':i<p.size:=by omega
 have hj':j<p.size:=by omega
 simp only[Array.getD,hi',hj',dif_pos] at e;have e':p.toList[i]'(by simpa using hi')=p.toList[j]'(by simpa using hj'):=by simpa using e
 exact (List.getElem_inj hnd).mp e'
noncomputable def Up(r:Nat->Int)(p:Array Nat)(k:Nat):Prop:=∀i j,i<j->j<k->kk r p i<kk r p j
noncomputable def Dn(r:Nat->Int)(p:Array Nat)(k:Nat):Prop:=∀i j,i<j->j<k->kk r p j<kk r p i
theorem Up.one{p:Array Nat}{k:Nat}(h:k<=1):Up r p k:=fun i j h1 h2=>by omega
theorem Dn.one{p:Array Nat}{k:Nat}(h:k<=1):Dn r p k:=fun i j h1 h2=>by omega
theorem Up.next{p:Array Nat}{k:Nat}(h:Up r p k)(hk:1<=k)(e:kk r p (k-1)<kk r p k):Up r p (k+1):=fun i j h1 h2=>by
 by_cases hj:j=k
 ·subst hj
  by_cases hi:i=j-1
  ·rw[hi];exact e
  ·exact Int.lt_trans (h i (j-1) (by omega) (by omega)) e
 ·exact h i j h1 (by omega)
theorem Dn.next{p:Array Nat}{k:Nat}(h:Dn r p k)(hk:1<=k)(e:kk r p k<kk r p (k-1)):Dn r p (k+1):=fun i j h1 h2=>by
 by_cases hj:j=k
 ·subst hj
  by_cases hi:i=j-1
  ·rw[hi];exact e
  ·exact Int.lt_trans e (h i (j-1) (by omega) (by omega))
 ·exact h i j h1 (by omega)
theorem Pm.lt'{p:Array Nat}(P:Pm n r p){i j:Nat}(hi:i<n)(hj:j<n)(ne:i≠j)(h: ¬kk r p i<kk r p j):kk r p j<kk r p i:=by
 have:=P.inj i j hi hj ne;omega
variable (hc: ∀i j C s,i<n->j<n->I s->(∀s',I s'->C (decide (r i<r j)) s')->cmp i j C s)
include hc
theorem gH{p:Array Nat}(P:Pm n r p){Q:Nat->Shared->Prop}: ∀(f m:Nat) (s:Shared),1<=m->m+f=n->I s->Up r p m->(∀k s',I s'->m<=k->k<=n->Up r p k->(k=n\/kk r p k<kk r p (k-1))->(k=m\/kk r p m>kk r p (m-1))->Q k s')->(kas_asc p f m).kasWp cmp Q s
 |0,m,s,h1,h2,hI,hu,q=>q m s hI (Nat.le_refl _) (by omega) hu (.inl (by omega)) (.inl rfl)
 |f+1,m,s,h1,h2,hI,hu,q=>by
  refine hc _ _ _ s (P.lt m (by omega)) (P.lt (m-1) (by omega)) hI fun s' hI'=>?_
  by_cases h:kk r p m<kk r p (m-1)
  ·have e:decide (r (p.getD m 0)<r (p.getD (m-1) 0))=true:=decide_eq_true h
   simp only[e,if_true];exact q m s' hI' (Nat.le_refl _) (by omega) hu (.inr h) (.inl rfl)
  ·have e:decide (r (p.getD m 0)<r (p.getD (m-1) 0))=false:=KH h
   simp only[e,Bool.false_eq_true,if_false];have hlt:=P.lt' (by omega) (by omega) (by omega) h;exact gH P f (m+1) s' (by omega) (by omega) hI' (hu.next h1 hlt) fun k s'' hs h3 h4 h5 h6 _=>q k s'' hs (by omega) h4 h5 h6 (.inr hlt)
theorem zdp{p:Array Nat}(P:Pm n r p){Q:Array Nat×Nat×Nat->Shared->Prop}: ∀(f m:Nat) (s:Shared),1<=m->m+f=n->I s->Dn r p m->(∀k s',I s'->m<=k->k<=n->Dn r p k->Q (p,k,0) s')->(kas_desc f p m 0).kasWp cmp Q s
 |0,m,s,h1,h2,hI,hu,q=>q m s hI (Nat.le_refl _) (by omega) hu
 |f+1,m,s,h1,h2,hI,hu,q=>by
  refine hc _ _ _ s (P.lt m (by omega)) (P.lt (m-1) (by omega)) hI fun s' hI'=>?_
  by_cases h:kk r p m<kk r p (m-1)
  ·have e:decide (r (p.getD m 0)<r (p.getD (m-1) 0))=true:=decide_eq_true h
   simp only[e,if_true,Nat.lt_irrefl,if_false,gt_iff_lt];exact zdp P f (m+1) s' (by omega) (by omega) hI' (hu.next h1 h) fun k s'' hs h3 h4 h5=>q k s'' hs (by omega) h4 h5
  ·have e:decide (r (p.getD m 0)<r (p.getD (m-1) 0))=false:=KH h
   simp only[e,Bool.false_eq_true,if_false];have hlt:=P.lt' (by omega) (by omega) (by omega) h;refine hc _ _ _ s' (P.lt (m-1) (by omega)) (P.lt m (by omega)) hI' fun s'' hI''=>?_
   have e2:decide (r (p.getD (m-1) 0)<r (p.getD m 0))=true:=decide_eq_true hlt;simp only[e2,if_true];exact q m s'' hI'' (Nat.le_refl _) (by omega) hu
omit hc in
theorem Pm.rev{p:Array Nat}(hr: ∀i j,i<n->j<n->i≠j->r i≠r j)(P:Pm n r p)(i j:Nat):Pm n r (kas_rev p i j):=Pm.of hr ((mirror_perm p i j _).trans P.perm)
omit hc in
theorem zdq{p:Array Nat}{m k:Nat}(hm:m<=p.size):kk r (kas_rev p 0 m) k=if k<m then kk r p (m-1-k) else kk r p k:=by
 have e:=getElem?_mirror_all (i:=0) hm k;simp only[Nat.zero_le,true_and,Nat.zero_add] at e;by_cases h:k<m
 ·rw[if_pos h] at e⊢
  simp only[kk,kas_rev,Array.getD_eq_getD_getElem?,e]
 ·rw[if_neg h] at e⊢
  simp only[kk,kas_rev,Array.getD_eq_getD_getElem?,e]
omit hc in
theorem Dn.rev{p:Array Nat}{m:Nat}(hm:m<=p.size)(h:Dn r p m):Up r (kas_rev p 0 m) m:=fun i j h1 h2=>by
 rw[zdq hm,zdq hm,if_pos (by omega),if_pos h2];exact h _ _ (by omega) (by omega)
theorem zlJ(hr: ∀i j,i<n->j<n->i≠j->r i≠r j){p:Array Nat}(P:Pm n r p){m:Nat}{s:Shared}{Q:Nat×Array Nat->Shared->Prop}(h1:1<=m)(h2:m<=n)(hI:I s)(hd:Dn r p m)
  (q: ∀k p' s',I s'->k<=n->1<=k->Pm n r p'->Up r p' k->Q (k,p') s'):(kas_tail3 m n p).kasWp cmp Q s:=by
 unfold kas_tail3;rw[KasT.kasWp_bind];have P':=P.rev hr 0 m;refine gH hc P' (n-m) m s h1 (by omega) hI (hd.rev (by rw[P.size];exact h2)) fun k s' hs h3 h4 h5 _ _=>?_
 exact q k _ s' hs h4 (by omega) P' h5
theorem zlK(hr: ∀i j,i<n->j<n->i≠j->r i≠r j){p:Array Nat}(P:Pm n r p){s:Shared}{Q:Nat×Array Nat->Shared->Prop}(h2:2<=n)(hI:I s)(hd:kk r p 1<kk r p 0)
  (q: ∀k p' s',I s'->k<=n->1<=k->Pm n r p'->Up r p' k->Q (k,p') s'):(kas_descPart 1 n p).kasWp cmp Q s:=by
 unfold kas_descPart;rw[KasT.kasWp_bind];refine zdp hc P (n-2) 2 s (by omega) (by omega) hI ((Dn.one (k:=1) (Nat.le_refl _)).next (Nat.le_refl _) hd) fun k s' hs h3 h4 h5=>?_
 simp only[Nat.lt_irrefl,if_false,gt_iff_lt];exact zlJ hc hr P (by omega) h4 hs h5 q
theorem zlL(hr: ∀i j,i<n->j<n->i≠j->r i≠r j){p:Array Nat}(P:Pm n r p){s:Shared}{Q:Nat×Array Nat->Shared->Prop}(h2:2<=n)(hI:I s)
  (q: ∀k p' s',I s'->k<=n->1<=k->Pm n r p'->Up r p' k->Q (k,p') s'):(kas_count n p).kasWp cmp Q s:=by
 unfold kas_count;rw[KasT.kasWp_bind];refine gH hc P (n-1) 1 s (Nat.le_refl _) (by omega) hI (Up.one (Nat.le_refl _)) fun k s' hs h3 h4 h5 h6 h7=>?_
 by_cases hk:k=n
 ·subst hk
  simp only[beq_self_eq_true,if_true];exact q _ p s' hs (Nat.le_refl _) h3 P h5
 ·have e:(k==n)=false:=by simpa using hk
  simp only[e,Bool.false_eq_true,if_false];by_cases h1:k>1
  ·simp only[h1,if_true]
   refine hc _ _ _ s' (P.lt 0 (by omega)) (P.lt (k-1) (by omega)) hs fun s'' hs'=>?_
   have e2:decide (r (p.getD 0 0)<r (p.getD (k-1) 0))=true:=decide_eq_true (h5 0 (k-1) (by omega) (by omega));simp only[e2,if_true];exact q _ p s'' hs' h4 h3 P h5
  ·have ek:k=1:=by omega
   subst ek;simp only[Nat.lt_irrefl,if_false,gt_iff_lt];exact zlK hc hr P h2 hs (h6.resolve_left hk) q
theorem gI{p:Array Nat}(P:Pm n r p){k:Nat}(hk:k<n){Q:Nat->Shared->Prop}: ∀(f l h:Nat) (s:Shared),h-l<=f->l<=h->h<=k->I s->(∀i,i<l->kk r p i<kk r p k)->(∀i,h<=i->i<k->kk r p k<kk r p i)->Up r p k->
  (∀l s',I s'->l<=k->(∀i,i<l->kk r p i<kk r p k)->(∀i,l<=i->i<k->kk r p k<kk r p i)->Q l s')->(kas_place p k f l h).kasWp cmp Q s
 |0,l,h,s,hf,h1,h2,hI,hl,hh,hu,q=>q l s hI (by omega) hl fun i h3 h4=>hh i (by omega) h4
 |f+1,l,h,s,hf,h1,h2,hI,hl,hh,hu,q=>by
  unfold kas_place;by_cases hge:l>=h
  ·rw[if_pos hge]
   exact q l s hI (by omega) hl fun i h3 h4=>hh i (by omega) h4
  ·rw[if_neg hge]
   refine hc _ _ _ s (P.lt k hk) (P.lt _ (by omega)) hI fun s' hI'=>?_
   by_cases hm:kk r p k<kk r p ((l+h)/2)
   ·have e:decide (r (p.getD k 0)<r (p.getD ((l+h)/2) 0))=true:=decide_eq_true hm
    simp only[e,if_true];refine gI P hk f l ((l+h)/2) s' (by omega) (by omega) (by omega) hI' hl (fun i h3 h4=>?_) hu q;by_cases hi:i=(l+h)/2
    ·rw[hi];exact hm
    ·exact Int.lt_trans hm (hu _ _ (by omega) h4)
   ·have e:decide (r (p.getD k 0)<r (p.getD ((l+h)/2) 0))=false:=KH hm
    simp only[e,Bool.false_eq_true,if_false];have hlt:=P.lt' hk (by omega) (by omega) hm;refine gI P hk f ((l+h)/2+1) h s' (by omega) (by omega) h2 hI' (fun i h3=>?_) hh hu q;by_cases hi:i=(l+h)/2
    ·rw[hi];exact hlt
    ·exact Int.lt_trans (hu i ((l+h)/2) (by omega) (by omega)) hlt
omit hc in
theorem zdr{p:Array Nat}{k d:Nat}(hk:k<p.size)(hd:d<=k)(i:Nat):kk r (bubble p k d) i=if i=k-d then kk r p k else if k-d<i/\i<=k then kk r p (i-1) else kk r p i:=by
 have e:=getElem?_bubble hk d hd i;by_cases h:i=k-d
 ·rw[if_pos h] at e⊢
  simp only[kk,Array.getD_eq_getD_getElem?,e]
 ·rw[if_neg h] at e⊢
  by_cases h':k-d<i/\i<=k
  ·rw[if_pos h'] at e⊢
   simp only[kk,Array.getD_eq_getD_getElem?,e]
  ·rw[if_neg h'] at e⊢
   simp only[kk,Array.getD_eq_getD_getElem?,e]
theorem zds(hr: ∀i j,i<n->j<n->i≠j->r i≠r j){Q:Array Nat->Shared->Prop}: ∀(f:Nat) (p:Array Nat) (k:Nat) (s:Shared),1<=k->k+f=n->Pm n r p->I s->Up r p k->(∀p' s',I s'->Pm n r p'->Up r p' n->Q p' s')->(kas_bin f p k).kasWp cmp Q s
 |0,p,k,s,h1,h2,P,hI,hu,q=>q p s hI P (by rw[<-h2];exact hu)
 |f+1,p,k,s,h1,h2,P,hI,hu,q=>by
  unfold kas_bin;rw[KasT.kasWp_bind];have hk:k<n:=by omega
  refine gI hc P hk k 0 k s (by omega) (Nat.zero_le _) (Nat.le_refl _) hI (fun i h=>by omega) (fun i h3 h4=>by omega) hu fun l s' hI' hl h3 h4=>?_
  have hks:k<p.size:=by rw[P.size];exact hk
  have P':Pm n r (bubble p k (k-l)):=Pm.of hr ((bubble_perm p k _).trans P.perm);refine zds hr f _ (k+1) s' (by omega) (by omega) P' hI' (fun i j hij hj=>?_) q;rw[zdr hks (by omega),zdr hks (by omega)];have ekl:k-(k-l)=l:=by omega
  rw[ekl];by_cases hi:i=l
  ·rw[if_pos hi,if_neg (by omega)]
   rw[if_pos (by omega)];exact h4 _ (by omega) (by omega)
  ·rw[if_neg hi]
   by_cases hjl:j=l
   ·rw[if_pos hjl,if_neg (by omega)]
    exact h3 i (by omega)
   ·rw[if_neg hjl]
    by_cases hi2:l<i/\i<=k
    ·rw[if_pos hi2,if_pos (by omega)]
     exact hu _ _ (by omega) (by omega)
    ·rw[if_neg hi2]
     by_cases hj2:l<j/\j<=k
     ·rw[if_pos hj2]
      by_cases he:i=j-1
      ·omega
      ·exact hu _ _ (by omega) (by omega)
     ·rw[if_neg hj2]
      exact hu _ _ (by omega) (by omega)
theorem zlM(hr: ∀i j,i<n->j<n->i≠j->r i≠r j){s:Shared}{Q:Array Nat->Shared->Prop}(h2:2<=n)(hI:I s)(q: ∀p s',I s'->Pm n r p->Up r p n->Q p s'):(kas_sort n).kasWp cmp Q s:=by
 unfold kas_sort;rw[KasT.kasWp_bind];have P0:Pm n r (List.toArray (List.range n)):=Pm.of hr (Array.Perm.refl _);refine zlL hc hr P0 h2 hI fun k p s' hI' hk h1 P hu=>?_
 by_cases hlt:k<n
 ·simp only[hlt,if_true]
  have e:max k 1=k:=by omega
  rw[e];exact zds hc hr (n-k) p k s' h1 (by omega) P hI' hu q
 ·simp only[hlt,if_false]
  have e:k=n:=by omega
  exact q p s' hI' P (by rw[<-e];exact hu)
end
end L2.LW
set_option maxHeartbeats 4000000
namespace L2.LW
open PySem PySem.Spec PySem.W PyProof.Rows
section
variable {prog:Program} {w:World} {A:Around} {E:Value->Shared->Prop} {s:Shared}
theorem zdt{a:Addr}{vs:List Value}{n:Nat}{P:PySem.Fin->Shared->Prop}{κ:SortKind}(ho:s.heap.get? a=some (seqObj "list" vs.toArray n))(h64:vs.length<64){r:Nat->Int}(hr: ∀i j,i<vs.length->j<vs.length->i≠j->r i≠r j)
  (hk:2<=vs.length->∀h' tk,(∀b o,b≠a->s.heap.get? b=some o->h'.get? b=some o)->wpAny (model prog w) A (keyKind' vs.toArray) (fun κ' s'=>κ'=κ/\∃tk',s'={ s with heap:=h',toks:=tk' }) (fun _ _=>False) { s with heap:=h',toks:=tk })
  (hc: ∀i j h' tk (C:Bool->Shared->Prop),i<vs.length->j<vs.length->(∀b o,b≠a->s.heap.get? b=some o->h'.get? b=some o)->(∀tk',C (decide (r i<r j)) { s with heap:=h',toks:=tk' })->
   wpAny (model prog w) A (keyLt' κ (vs.getD i Value.none) (vs.getD j Value.none)) C (fun _ _=>False) { s with heap:=h',toks:=tk })
  (h: ∀p tk,Pm vs.length r p->Up r p vs.length->P (.done (.ret .none)) { s with heap:=sortedHeap s.heap a vs (p.toList.map fun i=>vs.getD i Value.none).toArray,toks:=tk }):
  wpAny (model prog w) A (Builtin.«list.sort» ⟨[.ref a],[]⟩) P E s:=by
 rw[list_sort_plain];have ha:a<s.heap.objs.size:=Kk ho;refine Kb (listItems_at ho rfl ?_);refine Kb (listUpdate_at ho rfl ?_ (by rw[List.size_toArray,sizeLine_eq];omega) (Nat.zero_le _));obtain⟨e1,ho1⟩: ∃e1,(s.heap.update a (Obj.mapSeq fun _=> #[])).get? a=some (seqObj "list" #[] e1):=⟨_,get?_update_seq ho (fun _=> #[])⟩;refine Kb (seqEpoch_at ho1 rfl ?_);refine Kb (wpAny_newTuple ?_ (by show vs.length<=_;rw[sizeLine_eq];omega));refine Kb (wpAny_newList ?_ (Nat.zero_le _));refine wpAny_holding ?_
 have ho6:(((s.heap.update a (Obj.mapSeq fun _=> #[])).push (seqObj "tuple" vs.toArray 0)).push (seqObj "list" #[] 0)).get? a=some (seqObj "list" #[] e1):=by
  rw[Heap.get?_push_ne _ _ _ (by rw[size_push',Heap.size_update];exact Kh (KD ha)),Heap.get?_push_ne _ _ _ (by rw[Heap.size_update];exact Kh ha)];exact ho1
 have keep: ∀b o,b≠a->s.heap.get? b=some o->(((s.heap.update a (Obj.mapSeq fun _=> #[])).push (seqObj "tuple" vs.toArray 0)).push (seqObj "list" #[] 0)).get? b=some o:=fun b o hb e=>
  Kl _ (Kl _ (by rw[Heap.get?_update_ne _ _ _ _ hb];exact e))
 show wpAny (model prog w) A _ P E { s with heap:=((s.heap.update a (Obj.mapSeq fun _=> #[])).push (seqObj "tuple" vs.toArray 0)).push (seqObj "list" #[] 0) };dsimp only;have hsz:vs.toArray.size=vs.length:=by simp
 have hid:Pm vs.length r (List.range vs.length).toArray:=Pm.of hr (Array.Perm.refl _);by_cases h2:vs.toArray.size<2
 ·rw[if_pos h2,if_pos h2]
  refine Kb (Kc ?_);rw[StateT.run_pure];refine Kb (Kc ?_);dsimp only;refine Kb (seqEpoch_at ho6 rfl ?_);refine Kb (listUpdate_at ho6 rfl ?_ (Nat.zero_le _) (by rw[Array.size_map];show (pairsOf vs).size<=_;rw[pairsOf_size,sizeLine_eq];omega));simp only[bne_self_eq_false,Bool.false_eq_true,if_false];have hh:=h (List.range vs.length).toArray s.toks hid (Up.one (by omega))
  have e:((List.range vs.length).toArray.toList.map fun i=>vs.getD i Value.none).toArray=(arrOf (SortSt.mk' general' (vs.toArray.zip vs.toArray) #[] 7 none)).map (·.2):=by
   show _=(vs.toArray.zip vs.toArray).map (·.2);apply Array.toList_inj.mp;simp;apply List.ext_getElem
   ·simp
   ·intro i h1 h2;simp at h1;simp[h1]
  rw[e] at hh;exact Kc hh
 ·rw[if_neg h2,if_neg h2]
  rw[hsz] at h2;have h2':2<=vs.length:=by omega
  refine Kb (Kd (hk h2' _ s.toks keep) (fun κ' s0 ⟨hκ,tk0,hs0⟩=>?_) fun _ _ x=>x.elim);subst hκ hs0
  refine Kb (Kd (kat_run (ks:=vs) (Q:=fun st' s'=>∃(p:Array Nat) (tk:Nat),Pm vs.length r p/\Up r p vs.length/\arrOf st'=p.map (kas_item (vs.toArray.zip vs.toArray))/\failedOf st'=Option.none/\
    s'={ s with heap:=((s.heap.update a (Obj.mapSeq fun _=> #[])).push (seqObj "tuple" vs.toArray 0)).push (seqObj "list" #[] 0),toks:=tk })
   (G:=fun p s'=>∃tk,Pm vs.length r p/\Up r p vs.length/\s'={ s with heap:=((s.heap.update a (Obj.mapSeq fun _=> #[])).push (seqObj "tuple" vs.toArray 0)).push (seqObj "list" #[] 0),toks:=tk })
   rfl h2' h64 (fun p st' s' a1 a2 a3 ⟨tk,a4,a5,a6⟩=>⟨p,tk,a4,a5,a2,a3,a6⟩) ?_) ?_ fun _ _ e=>e)
  ·exact zlM (I:=fun s'=>∃tk,s'={ s with heap:=((s.heap.update a (Obj.mapSeq fun _=> #[])).push (seqObj "tuple" vs.toArray 0)).push (seqObj "list" #[] 0),toks:=tk })
    (fun i j C s' hi hj zz6 q=>by
     obtain⟨tk,hs'⟩:=zz6;subst hs';exact hc i j _ tk C hi hj keep fun tk'=>q _ ⟨tk',rfl⟩) hr h2' ⟨tk0,rfl⟩ fun p s' ⟨tk,hs'⟩ hp hu=>⟨tk,hp,hu,hs'⟩
  ·rintro⟨⟨⟩,st'⟩ s' ⟨p,tk,hp,hu,har,hf,rfl⟩
   dsimp only;have hout:=kat_snds (ks:=vs) (vs:=vs) rfl har;rw[hout];refine Kb (seqEpoch_at ho6 rfl ?_);refine Kb (listUpdate_at ho6 rfl ?_ (Nat.zero_le _) (by rw[List.size_toArray,List.length_map,Array.length_toList,hp.size,sizeLine_eq];omega));rw[hf];simp only[bne_self_eq_false,Bool.false_eq_true,if_false];exact Kc (h p tk hp hu)
theorem zlN{l:Addr}{vs:List Value}{Q:Value->Shared->Prop}{κ:SortKind}(hl:s.heap.IsList l vs.toArray)(h64:vs.length<64){r:Nat->Int}(hr: ∀i j,i<vs.length->j<vs.length->i≠j->r i≠r j)
  (hk:2<=vs.length->∀h' tk,(∀b o,s.heap.get? b=some o->h'.get? b=some o)->wpAny (model prog w) A.in1.in1 (keyKind' vs.toArray) (fun κ' s'=>κ'=κ/\∃tk',s'={ s with heap:=h',toks:=tk' }) (fun _ _=>False) { s with heap:=h',toks:=tk })
  (hc: ∀i j h' tk (C:Bool->Shared->Prop),i<vs.length->j<vs.length->(∀b o,s.heap.get? b=some o->h'.get? b=some o)->(∀tk',C (decide (r i<r j)) { s with heap:=h',toks:=tk' })->
   wpAny (model prog w) A.in1.in1 (keyLt' κ (vs.getD i Value.none) (vs.getD j Value.none)) C (fun _ _=>False) { s with heap:=h',toks:=tk })
  (h: ∀p tk,Pm vs.length r p->Up r p vs.length->Q (.ref (s.heap.objs.size+1)) { s with heap:=sortedAll s.heap vs (p.toList.map fun i=>vs.getD i Value.none).toArray,toks:=tk }):
  wpAny (model prog w) A (call (.builtin "sorted") [.ref l]) Q E s:=by
 refine Calls.call_function_entry kind_sorted plain_sorted entry_sorted (args_sorted1 _) ?_;unfold Builtin.«sorted»;refine Kb (m:=checkCount "sorted" 1 1 _) (Kc ?_);refine Kb (collect_list hl ?_ (by rw[sizeLine_eq];omega));refine Kb (wpAny_newList ?_ (by rw[sizeLine_eq];omega))
 have hsz:((s.heap.push (seqObj "list" #[] 0)).update s.heap.objs.size (Obj.mapSeq (· ++vs.toArray))).objs.size=s.heap.objs.size+1:=by
  rw[Heap.size_update,size_push']
 have hoL:(((s.heap.push (seqObj "list" #[] 0)).update s.heap.objs.size (Obj.mapSeq (· ++vs.toArray))).push (seqObj "list" vs.toArray 0)).get? (s.heap.objs.size+1)=some (seqObj "list" vs.toArray 0):=by
  rw[<-hsz];exact Heap.get?_push_size _ rfl
 have keep: ∀b o,s.heap.get? b=some o->(((s.heap.push (seqObj "list" #[] 0)).update s.heap.objs.size (Obj.mapSeq (· ++vs.toArray))).push (seqObj "list" vs.toArray 0)).get? b=some o:=fun b o q=>by
  have hlt:b<s.heap.objs.size:=Kk q;rw[Heap.get?_push_ne _ _ _ (by rw[hsz];exact Kh (KD hlt)),Heap.get?_update_ne _ _ _ _ (Kh hlt),Heap.get?_push_ne _ _ _ (Kh hlt)];exact q
 have nea: ∀b o,s.heap.get? b=some o->b≠s.heap.objs.size+1:=fun b o e=>Kh (KD (Kk e))
 show wpAny _ _ _ _ _ { s with heap:=((s.heap.push (seqObj "list" #[] 0)).update s.heap.objs.size (Obj.mapSeq (· ++vs.toArray))).push (seqObj "list" vs.toArray 0) };rw[hsz];refine Kb (wpAny_holding (wpAny_call_entry slot_list_sort ⟨_,hoL,rfl⟩ entry_list_sort (zdt (κ:=κ) (r:=r) hoL h64 hr (fun h2 h' tk hk'=>?_) (fun i j h' tk C hi hj hk' q=>?_) fun p tk hp hu=>⟨_,rfl,?_⟩) (args_list_sort _)))
 ·exact hk h2 h' tk fun b o e=>hk' b o (nea b o e) (keep b o e)
 ·exact hc i j h' tk C hi hj (fun b o e=>hk' b o (nea b o e) (keep b o e)) q
 ·exact Kc ⟨_,rfl,h p tk hp hu⟩
end
theorem jQ: ∀x:List Int,LW.lexLt x x=false
 |[]=>rfl
 |a::x=>by rw[LW.lexLt,if_pos rfl];exact jQ x
theorem Yy: ∀{x y z:List Int},LW.lexLt x y=true->LW.lexLt y z=true->LW.lexLt x z=true
 |x,[],_,h,_=>by cases x<;>simp[LW.lexLt] at h
 |_,_::_,[],_,h=>by cases h
 |[],_::_,_::_,_,_=>rfl
 |a::x,b::y,c::z,h1,h2=>by
  rw[LW.lexLt] at h1 h2⊢;by_cases e1:a=b
  ·by_cases e2:b=c
   ·rw[if_pos e1] at h1
    rw[if_pos e2] at h2;rw[if_pos (e1.trans e2)];exact Yy h1 h2
   ·rw[if_neg e2,decide_eq_true_iff] at h2
    rw[if_neg (by omega),decide_eq_true_iff];omega
  ·rw[if_neg e1,decide_eq_true_iff] at h1
   by_cases e2:b=c
   ·rw[if_neg (by omega),decide_eq_true_iff];omega
   ·rw[if_neg e2,decide_eq_true_iff] at h2
    rw[if_neg (by omega),decide_eq_true_iff];omega
theorem Vb: ∀{x y:List Int},x≠y->LW.lexLt x y=true\/LW.lexLt y x=true
 |[],[],h=>KC rfl h
 |[],_::_,_=>.inl rfl
 |_::_,[],_=>.inr rfl
 |a::x,b::y,h=>by
  rw[LW.lexLt,LW.lexLt];by_cases e:a=b
  ·rw[if_pos e,if_pos e.symm]
   exact Vb fun z=>h (by rw[e,z])
  ·rw[if_neg e,if_neg (fun z=>e z.symm),decide_eq_true_iff,decide_eq_true_iff]
   omega
noncomputable abbrev vi(x y:List Int):Prop:=LW.lexLt x y=true
theorem gJ(x:List Int): ∀l,(Zm x l).Perm (x::l)
 |[]=>.refl _
 |y::r=>by
  unfold Zm;split
  ·exact .refl _
  ·exact ((gJ x r).cons y).trans (.swap x y r)
theorem Vc: ∀l,(vJ l).Perm l
 |[]=>.refl _
 |x::r=>(gJ x _).trans ((Vc r).cons x)
theorem zdu{x:List Int}: ∀{l:List (List Int)},l.Pairwise vi->(∀y∈l,x≠y)->(Zm x l).Pairwise vi
 |[],_,_=>by simp[Zm]
 |y::r,h,hn=>by
  rw[List.pairwise_cons] at h;unfold Zm;split
  ·rename_i hx
   rw[List.pairwise_cons,List.pairwise_cons];refine⟨fun z hz=>?_,h⟩;rcases List.mem_cons.mp hz with rfl|hz
   ·exact hx
   ·exact Yy hx (h.1 z hz)
  ·rename_i hx
   have hyx:vi y x:=(Vb (hn y Ke)).resolve_left hx;rw[List.pairwise_cons];refine⟨fun z hz=>?_,zdu h.2 fun z hz=>hn z (Kf _ hz)⟩;rcases List.mem_cons.mp ((gJ x r).mem_iff.mp hz) with rfl|hz
   ·exact hyx
   ·exact h.1 z hz
theorem QL: ∀{l:List (List Int)},l.Nodup->(vJ l).Pairwise vi
 |[],_=>List.Pairwise.nil
 |x::r,h=>by
  rw[List.nodup_cons] at h;exact zdu (QL h.2) fun y hy e=>h.1 ((Vc r).mem_iff.mp (e▸hy))
theorem gK: ∀{l m:List (List Int)},l.Perm m->l.Pairwise vi->m.Pairwise vi->l=m
 |[],m,h,_,_=>(List.Perm.nil_eq h)
 |x::l,[],h,_,_=>by have:=h.length_eq;simp at this
 |x::l,y::m,h,h1,h2=>by
  rw[List.pairwise_cons] at h1 h2
  have e:x=y:=by
   rcases List.mem_cons.mp (h.mem_iff.mp Ke) with e|hx
   ·exact e
   ·rcases List.mem_cons.mp (h.mem_iff.mpr Ke) with e|hy
    ·exact e.symm
    ·have q1:=h2.1 x hx
     have q2:=h1.1 y hy;have:=Yy q1 q2;rw[jQ] at this;cases this
  subst e;rw[gK (List.Perm.cons_inv h) h1.2 h2.2]
noncomputable def xH(ks:List (List Int))(x:List Int):Int:=((ks.filter fun y=>LW.lexLt y x).length:Nat)
theorem Yz{ks:List (List Int)}{x y:List Int}(hx:x∈ks)(h:vi x y):xH ks x<xH ks y:=by
 unfold xH
 have key: ∀l:List (List Int),(l.filter fun z=>LW.lexLt z x).length<=(l.filter fun z=>LW.lexLt z y).length/\(x∈l->(l.filter fun z=>LW.lexLt z x).length<(l.filter fun z=>LW.lexLt z y).length):=by
  intro l
  induction l with
  |nil=>exact⟨Nat.le_refl _,fun z=>by cases z⟩
  |cons z l ih=>
   rw[List.filter_cons,List.filter_cons];by_cases h1:LW.lexLt z x=true
   ·have h2:=Yy h1 h
    rw[if_pos h1,if_pos h2];simp only[List.length_cons];refine⟨by omega,fun hz=>?_⟩;rcases List.mem_cons.mp hz with rfl|hz
    ·rw[jQ] at h1;cases h1
    ·have:=ih.2 hz;omega
   ·rw[if_neg h1]
    by_cases h2:LW.lexLt z y=true
    ·rw[if_pos h2]
     simp only[List.length_cons];exact⟨by omega,fun _=>by omega⟩
    ·rw[if_neg h2]
     refine⟨ih.1,fun hz=>?_⟩;rcases List.mem_cons.mp hz with rfl|hz
     ·exact KC h h2
     ·exact ih.2 hz
 have:=(key ks).2 hx;omega
theorem QM{ks:List (List Int)}{x y:List Int}(hx:x∈ks)(hy:y∈ks)(hne:x≠y):decide (xH ks x<xH ks y)=LW.lexLt x y:=by
 rcases Vb hne with h|h
 ·have:=Yz hx h
  rw[h,decide_eq_true_iff];exact this
 ·have h1:=Yz hy h
  have h2:LW.lexLt x y=false:=by
   cases e:LW.lexLt x y with
   |false=>rfl
   |true=>have:=Yy e h;rw[jQ] at this;cases this
  rw[h2,decide_eq_false_iff_not];omega
section
variable {X:Cx} {pins:List (Addr×Obj)} {σ:St} {H:Hp} {s:Shared} {W:Addr->Prop}
noncomputable def Zz(h:Heap)(v:Value)(k:List Int):Prop:=∃a o its n,v= .ref a/\h.get? a=some o/\o.cls= .type "tuple"/\o.data= .seq its n/\IntsAre its.toList k
theorem gL(I:Inv X pins σ H s): ∀{ds:List D} {xs:List V} {us:List Value} {ks:List (List Int)},Reps X.K W H ds xs->Vals xs us->tups? ds=some ks->Paired (Zz s.heap) us ks
 |_,_,_,ks,.nil,r,e=>by cases r;simp[tups?] at e;subst e;exact .nil
 |_,_,_,ks,.cons h t,r,e=>by
  cases r with
  |cons r1 r2=>
   cases h with
   |tup hH rp=>
    simp only[tups?,jo1,jo2] at e;obtain⟨k,e1,ks',e2,rfl⟩:=e;refine .cons ?_ (gL I t r2 e2);cases r1;obtain⟨its,rv,⟨o,ho,hc,n,hd⟩,_⟩:=I.tuple (.of hH);rw[rp.ofInts e1] at rv;exact⟨_,o,its.toArray,n,rfl,ho,hc,hd,by simpa using je rv⟩
   |_=>simp[tups?] at e
theorem Vd{α β:Type}{F:α->β->Prop}: ∀{xs:List α} {ys:List β} {i:Nat},Paired F xs ys->i<xs.length->∃x y,xs[i]? =some x/\ys[i]? =some y/\F x y
 |_,_,_,.nil,h=>by simp at h
 |_,_,0,.cons h _,_=>⟨_,_,rfl,rfl,h⟩
 |_,_,i+1,.cons _ t,h=>by
  obtain⟨x,y,h1,h2,h3⟩:=Vd (i:=i) t (by simpa using h);exact⟨x,y,by simpa using h1,by simpa using h2,h3⟩
theorem gM{h:Heap}: ∀{us:List Value} {ks:List (List Int)},Paired (Zz h) us ks->(∀k∈ks,k≠[])->∃fs,KatTups h us fs/\fs.length=us.length/\∀v∈fs,∃i t,v=Value.int i t
 |_,_,.nil,_=>⟨[],.nil,rfl,fun _ z=>by cases z⟩
 |_,_,.cons hx t,hn=>by
  obtain⟨fs,h1,h2,h3⟩:=gM t fun k hk=>hn k (Kf _ hk)
  obtain⟨a,o,its,n,rfl,ho,hc,hd,hi⟩:=hx;have hne:=hn _ Ke
  cases hi':its.toList with
  |nil=>rw[hi'] at hi;cases hi;exact KC rfl hne
  |cons v r=>
   rw[hi'] at hi
   cases hi with
   |cons i t' hr=>
    refine⟨.int i t'::fs,.cons ho hc hd (by rw[<-Array.getElem?_toList,hi'];rfl) h1,by simp[h2],fun v hv=>?_⟩;rcases List.mem_cons.mp hv with rfl|hv
    ·exact⟨_,_,rfl⟩
    ·exact h3 v hv
theorem gN{prog:Program}{w:World}{A:Around}{Q:Bool->Shared->Prop}{s:Shared}{fin:Bool}: ∀{us vs:List Value} {x y:List Int} (i:Nat),IntsAre us x->IntsAre vs y->(fin=decide (us.length<vs.length))->Q (LW.lexLt x y) s->KatLex prog w A true fin Q (us.zip vs) i s
 |_,_,_,_,i,.nil,hv,hf,q=>by
  cases hv with
  |nil=>subst hf;exact kat_nil q
  |cons j t hv=>subst hf;exact kat_nil q
 |_,_,_,_,i,.cons a t hu,hv,hf,q=>by
  cases hv with
  |nil=>subst hf;exact kat_nil q
  |cons b t' hv=>
   refine kat_cons (wpAny_eqBool_int ?_);by_cases e:a=b
   ·subst e
    have:(a==a)=true:=by simp
    rw[this];refine kat_yes (gN (i+1) hu hv (by rw[hf];simp) ?_);rw[LW.lexLt,if_pos rfl] at q;exact q
   ·have:(a==b)=false:=by simpa using e
    rw[this];refine kat_no ?_;rw[LW.lexLt,if_neg e] at q
    cases i with
    |zero=>exact oneLt_int q
    |succ i=>
     have e2:(true&&(i+1==0))=false:=rfl;rw[e2];exact kat_one _ _ (lt_int q)
theorem yQ{α:Type}{l:List α}{i:Nat}{x d:α}(h:l[i]? =some x):l.getD i d=x:=by
 rw[List.getD_eq_getElem?_getD,h];rfl
theorem zdv{xs:List V}{us:List Value}(r:Vals xs us)(p:List Nat)(hp: ∀i∈p,i<us.length):Vals (p.map fun i=>xs.getD i .non) (p.map fun i=>us.getD i Value.none):=by
 induction p with
 |nil=>exact .nil
 |cons i p ih=>
  refine .cons ?_ (ih fun j hj=>hp j (Kf _ hj));have hi:=hp i Ke;have hl:=r.length;obtain⟨u,h1,h2⟩:=r.get (i:=i) (x:=xs[i]'(by omega)) (by simp);show RelV (xs.getD i .non) (us.getD i Value.none);rw[yQ h1,yQ (x:=xs[i]'(by omega)) (by simp)];exact h2
theorem zdw{ds:List D}{xs:List V}(r:Reps X.K W H ds xs)(p:List Nat)(hp: ∀i∈p,i<ds.length):Reps X.K W H (p.map fun i=>ds.getD i .non) (p.map fun i=>xs.getD i .non):=by
 induction p with
 |nil=>exact .nil
 |cons i p ih=>
  refine .cons ?_ (ih fun j hj=>hp j (Kf _ hj));have hi:=hp i Ke;obtain⟨x,h1,h2⟩:=r.get (i:=i) (d:=ds[i]) (by simp);show Rep X.K W H (ds.getD i .non) (xs.getD i .non);rw[yQ h1,yQ (x:=ds[i]) (by simp)];exact h2
theorem zdx: ∀{ds:List D} {ks:List (List Int)},tups? ds=some ks->ds=ks.map kT
 |[],ks,e=>by simp[tups?] at e;subst e;rfl
 |d::r,ks,e=>by
  cases d with
  |tup l=>
   simp only[tups?,jo1,jo2] at e;obtain⟨k,e1,ks',e2,rfl⟩:=e;rw[zdx e2,Zq e1];rfl
  |_=>simp[tups?] at e
theorem zdy:xt X (.builtin "sorted") (VR X.K (zg .sorted)):=by
 rintro pins s σ H xs us Q I rv ⟨W,ds,r,wf,hs,hf,q⟩;replace hf:qP ds=some r:=hf;unfold qP at hf;split at hf
 case h_2=>cases hf
 rename_i l;unfold JV at hf;split at hf
 ·rename_i ns e1
  split at hf
  ·rename_i h64
   cases hf;exact zll (ds:=[.lst l]) I rv hs e1 h64 q
  ·cases hf
 ·rw[jo1] at hf
  obtain⟨ks,e1,hf⟩:=hf;split at hf
  case isFalse=>cases hf
  rename_i hcond;cases hf;obtain⟨h64,hnd,hne⟩:=hcond
  have hne': ∀k∈ks,k≠[]:=fun k hk e=>by
   have:=List.all_eq_true.mp hne k hk;rw[e] at this;cases this
  cases hs with
  |cons h1 t=>
   cases t;obtain⟨p,ys,rfl,hp,rp⟩:=h1.lst;obtain⟨u,rfl,ru⟩:=wW rv;cases ru;obtain⟨its,rv',pl,hz⟩:=I.list hp;have hT:=gL I rp rv' e1;have hlen:its.length=ks.length:=Paired.length hT;have hl2:=rp.length;have hl3:=rv'.length
   let r:Nat->Int:=fun i=>xH ks (ks.getD i [])
   have memk: ∀i,i<its.length->ks.getD i []∈ks:=fun i hi=>by
    rw[yQ (x:=ks[i]'(by omega)) (by simp)];exact Kt _
   have injk: ∀i j,i<its.length->j<its.length->i≠j->ks.getD i []≠ks.getD j []:=fun i j hi hj ne e=>by
    rw[yQ (x:=ks[i]'(by omega)) (by simp),yQ (x:=ks[j]'(by omega)) (by simp)] at e;exact ne ((List.getElem_inj hnd).mp e)
   have ZA: ∀{h':Heap},(∀b o,s.heap.get? b=some o->h'.get? b=some o)->∀{v:Value} {k:List Int},Zz s.heap v k->Zz h' v k:=by
    intro h' hk v k ⟨a,o,i,n,h1,h2,h3⟩;exact⟨a,o,i,n,h1,hk _ _ h2,h3⟩
   refine zlN (κ:=tuples' (Value.type "int" != Value.type "tuple")) (r:=r) pl.isList (by omega) (fun i j hi hj ne e=>?_) (fun h2 h' tk hk=>?_) (fun i j h' tk C hi hj hk qC=>?_) fun pm tk hpm hup=>?_
   ·rcases Vb (injk i j hi hj ne) with z|z
    ·have:=Yz (memk i hi) z
     have e:xH ks (ks.getD i [])=xH ks (ks.getD j []):=e;omega
    ·have:=Yz (memk j hj) z
     have e:xH ks (ks.getD i [])=xH ks (ks.getD j []):=e;omega
   ·obtain⟨fs,f1,f2,f3⟩:=gM (Paired.imp' (fun v k z=>ZA hk z) hT) hne'
    exact kat_kind (s:={ s with heap:=h',toks:=tk }) f1 (by omega) (fun v hv=>by obtain⟨i,t,rfl⟩:=f3 v hv;exact Looks.of_pure rfl) (by simp) ⟨rfl,tk,rfl⟩
   ·obtain⟨x1,k1,a1,a2,a3⟩:=Vd hT hi
    obtain⟨x2,k2,b1,b2,b3⟩:=Vd hT hj;rw[yQ a1,yQ b1];obtain⟨a,o,i1,n,rfl,c1,c2,c3,c4⟩:=ZA hk a3;obtain⟨b,o',i2,n',rfl,d1,d2,d3,d4⟩:=ZA hk b3
    have er:decide (r i<r j)=LW.lexLt k1 k2:=by
     show decide (xH ks (ks.getD i [])<xH ks (ks.getD j []))=_;by_cases e:i=j
     ·subst e
      rw[a2] at b2;cases b2;rw[jQ];simp
     ·have:=QM (memk i hi) (memk j hj) (injk i j hi hj e)
      rw[yQ a2,yQ b2] at this;rw[yQ a2,yQ b2];exact this
    rw[er] at qC;refine kat_lt (s:={ s with heap:=h',toks:=tk }) c1 c3 d1 d3 ?_;exact gN 0 c4 d4 (by simp) (qC tk)
   ·obtain⟨e,he⟩:=sortedAll_at s.heap its (pm.toList.map fun i=>its.getD i Value.none).toArray
    have hlt: ∀i∈pm.toList,i<its.length:=fun i hi=>by
     have:=(Array.perm_iff_toList_perm.mp hpm.perm).mem_iff.mp hi;simpa using this
    have fr:H (s.heap.objs.size+1)=Option.none:=I.hok.fresh (Kj _)
    have hperm:(pm.toList.map fun i=>ks.getD i []).Perm ks:=by
     have h1:=(Array.perm_iff_toList_perm.mp hpm.perm).map fun i=>ks.getD i []
     refine h1.trans (List.Perm.of_eq ?_);apply List.ext_getElem
     ·simp[hlen]
     ·intro i h1 h2;simp at h1;simp[h1,h2]
    have hupk:(pm.toList.map fun i=>ks.getD i []).Pairwise vi:=by
     rw[List.pairwise_iff_getElem];intro i j hi hj hij;rw[List.length_map,Array.length_toList,hpm.size] at hi hj;have h1:=hup i j hij (by omega);have li:=hpm.lt i hi;have lj:=hpm.lt j hj;simp only[List.getElem_map,Array.getElem_toList];have gi:pm.getD i 0=pm[i]'(by rw[hpm.size];exact hi):=by simp[Array.getD,hpm.size,hi]
     have gj:pm.getD j 0=pm[j]'(by rw[hpm.size];exact hj):=by simp[Array.getD,hpm.size,hj]
     unfold kk at h1;rw[gi] at h1 li;rw[gj] at h1 lj;have hne:pm[i]'(by rw[hpm.size];exact hi)≠pm[j]'(by rw[hpm.size];exact hj):=fun z=>by rw[z] at h1;omega
     have:=QM (memk _ li) (memk _ lj) (injk _ _ li lj hne);show LW.lexLt _ _=true;rw[<-this,decide_eq_true_iff];exact h1
    have heq:(pm.toList.map fun i=>ks.getD i [])=vJ ks:=gK (hperm.trans (Vc ks).symm) hupk (QL hnd)
    have hds:(pm.toList.map fun i=>l.getD i .non)=(vJ ks).map kT:=by
     rw[<-heq,List.map_map];apply List.map_congr_left;intro i hi;have hi':=hlt i hi;rw[zdx e1];show (ks.map kT).getD i .non=kT (ks.getD i []);rw[yQ (x:=kT (ks[i]'(by omega))) (by simp[show i<ks.length by omega]),yQ (x:=ks[i]'(by omega)) (by simp)]
    have hrep:=zdw rp pm.toList fun i hi=>by have:=hlt i hi;omega
    rw[hds] at hrep;have hvals:=zdv rv' pm.toList fun i hi=>hlt i hi
    refine⟨.ref (s.heap.objs.size+1),zF H (s.heap.objs.size+1) (.lst (pm.toList.map fun i=>ys.getD i .non)),I.laid (t':=tk) (fun _ _=>sortedAll_old) (Kj _) ⟨?_,_,e,hvals,?_⟩,rfl,q _ _ (xh fr _) (Yi fr hrep)⟩
    ·rw[List.length_map,Array.length_toList,hpm.size];exact Nat.le_of_lt (Xn (by omega))
    ·simpa [seqObj] using he
end
end L2.LW
set_option maxHeartbeats 4000000
namespace L2.LW
open PySem PySem.Spec PySem.W PyProof.Rows
section
variable {X:Cx} {fn:Nat->List D->Option SV} {fa:Nat->List D->Option Ans} {fuel:Nat} {e:Expr} {pos:Pos} {sts:List Stmt} {ss:Ss}
theorem zdz{xs:Array (Int×Tok)}{ns:List Int}(h1:xs.size=ns.length)(h2: ∀i,(h:i<ns.length)->numAt xs i=ns[i]):preSum (numAt xs) xs.size=ns.sum:=by
 rw[h1]
 have key: ∀k,k<=ns.length->preSum (numAt xs) k=(ns.take k).sum:=by
  intro k
  induction k with
  |zero=>intro _;rfl
  |succ k ih=>
   intro hk;show preSum (numAt xs) k+numAt xs k=_;rw[ih (by omega),h2 k (by omega),List.take_succ_eq_append_getElem (by omega),List.sum_append];simp only[List.sum_cons,List.sum_nil];omega
 have:=key ns.length (Nat.le_refl _)
 rwa [List.take_length] at this
theorem zlO(hc:X.calm=true):xt X (.builtin "sum") (VR X.K (zg .sumL)):=by
 rintro pins s σ H xs us Q I rv ⟨W,ds,r,wf,hs,hf,q⟩;replace hf:Qa ds=some r:=hf;unfold Qa at hf;split at hf
 ·rw[jo1] at hf
  obtain⟨ns,e1,hf⟩:=hf;cases hf
  cases hs with
  |cons h1 t=>
   cases t;obtain⟨p,ys,rfl,hp,rp⟩:=h1.lst;have ey:=rp.ofInts e1;subst ey;obtain⟨u,rfl,ru⟩:=wW rv;cases ru;obtain⟨its,rv',pl,hz⟩:=I.list hp;obtain⟨xs,x1,x2,x3⟩:=gG (je rv');have hpl:=pl.isList;rw[x1] at hpl;refine sum_intListG (I.ok.hd hc) hpl fun h' tk t' hk=>?_
   rw[zdz x2 x3];exact⟨.int _,H,I.kept (t':=tk) hk,⟨_,rfl⟩,q _ H (.refl H) (.val (.int _))⟩
 ·rw[jo1] at hf
  obtain⟨ns,e1,hf⟩:=hf;cases hf
  cases hs with
  |cons h1 t=>
   cases t;obtain⟨p,ys,rfl,hp,rp⟩:=h1.tup;have ey:=rp.ofInts e1;subst ey;obtain⟨u,rfl,ru⟩:=wW rv;cases ru;obtain⟨its,rv',pl,hz⟩:=I.tuple hp;obtain⟨xs,x1,x2,x3⟩:=gG (je rv');rw[x1] at pl;refine ktm_sumG (I.ok.hd hc) pl fun h' tk t' hk=>?_
   rw[zdz x2 x3];exact⟨.int _,H,I.kept (t':=tk) hk,⟨_,rfl⟩,q _ H (.refl H) (.val (.int _))⟩
 ·cases hf
end
end L2.LW
set_option maxHeartbeats 4000000
namespace L2.LW
open PySem PySem.Spec PySem.W PySem.Calls PyProof.Rows
noncomputable def RawD(h:Heap)(d:Addr)(tb:Array DictEntry)(ep:Nat):Prop:=∃o,h.get? d=some o/\o.ExactDict/\o.data= .dict tb ep
section
variable {prog:Program} {w:World} {A:Around} {E:Value->Shared->Prop} {s:Shared} {it d:Addr} {k ep:Nat} {tb:Array DictEntry} {Q:Option Value->Shared->Prop}
theorem zlP(hi:s.heap.IsKeyIter it d k tb.size ep)(hr:RawD s.heap d tb ep)(lt:k<tb.size)
  (q: ∀h2,h2.IsKeyIter it d (k+1) tb.size ep->Heap.SameBut it s.heap h2->Q (some tb[k].key) { s with heap:=h2 }):wpAny (model prog w) A (pyNext (.ref it)) Q E s:=by
 obtain⟨oi,ei,ci,di⟩:=id hi;obtain⟨ot,et,ct,dt⟩:=id hr;unfold pyNext;refine Kb (wpAny_attempt (wpAny_callSpecial?_slot (name:=Str.ofString "__next__") hi.typeIs PySem.F.slot_dict_keyiterator_next (wpAny_call_entry PySem.F.slot_dict_keyiterator_next hi.typeIs PySem.F.entry_dict_keyiterator_next ?_ (PySem.F.args_dict_keyiterator_next_1 _))));refine Kb (Kc (Kb (Kb ?_)))
 first|refine Kb (wpAny_typeNameOfWhole_keyiter hi.typeIs (Kc (Kb (wpAny_fieldsOf ei di ?_))))|refine Kb (wpAny_typeNameOf_keyiter hi.typeIs (Kc (Kb (wpAny_fieldsOf ei di ?_))))
 have own:Builtin.Dict_items.ownsTuple "dict_keyiterator"=false:=rfl;simp only[own,Bool.false_eq_true,if_false];show wpAny _ _ (if (Value.ref d==Value.none)=true then _ else _) _ _ s;rw[if_neg (by intro z;cases z)];refine Kb (Kc (Kb (wpAny_dictEntries et dt ?_)));rw[if_neg (by simp)];refine Kb (Kc (Kb (wpAny_dictEpoch et dt ?_)));rw[if_neg (by simp)];have nn: ¬((k:Int)<0):=by omega
 refine Kc ?_;simp only[nn,if_false,Int.toNat_natCast,Array.getElem?_eq_getElem lt];refine Kb ?_
 first|refine Kb (wpAny_typeNameOfWhole_keyiter hi.typeIs (Kc (Kb (wpAny_isOneOf_keyiter hi.typeIs ?_))))|refine Kb (wpAny_typeNameOf_keyiter hi.typeIs (Kc (Kb (wpAny_isOneOf_keyiter hi.typeIs ?_))))
 show wpAny _ _ (setField (.ref it) 1 (rawInt ((k:Int)+1)) >>= _) _ _ s
 have hi2:(s.heap.update it (Obj.mapFields fun fs=>fs.setIfInBounds 1 (rawInt ((k:Int)+1)))).IsKeyIter it d (k+1) tb.size ep:=
  ⟨_,Heap.get?_update_self _ ei (Obj.isFreed_of_fields (Obj.data_mapFields di _)),(Obj.cls_mapFields ..).trans ci,by rw[Obj.data_mapFields di];simp[rawInt]⟩
 refine Kb (wpAny_setField ei di (by simp) (Kb (wpAny_holding (Kb (wpAny_isOneOf_keyiter (s:={ s with heap:=s.heap.update it (Obj.mapFields fun fs=>fs.setIfInBounds 1 (rawInt ((k:Int)+1))) }) hi2.typeIs ?_)))));show wpAny _ _ (pure tb[k].key) _ _ _;exact Kc (Kc ⟨_,rfl,Kc (q _ hi2 (Heap.SameBut.update ..))⟩)
theorem zlQ(hh:A.handled=none)(hi:s.heap.IsKeyIter it d tb.size tb.size ep)(hr:RawD s.heap d tb ep)(q: ∀h2,Heap.ExtBut it s.heap h2->Q none { s with heap:=h2 }):wpAny (model prog w) A (pyNext (.ref it)) Q E s:=by
 obtain⟨oi,ei,ci,di⟩:=id hi;obtain⟨ot,et,ct,dt⟩:=id hr;unfold pyNext;refine Kb (wpAny_attempt (wpAny_callSpecial?_slot (name:=Str.ofString "__next__") hi.typeIs PySem.F.slot_dict_keyiterator_next (wpAny_call_entry PySem.F.slot_dict_keyiterator_next hi.typeIs PySem.F.entry_dict_keyiterator_next ?_ (PySem.F.args_dict_keyiterator_next_1 _))));refine Kb (Kc (Kb (Kb ?_)))
 first|refine Kb (wpAny_typeNameOfWhole_keyiter hi.typeIs (Kc (Kb (wpAny_fieldsOf ei di ?_))))|refine Kb (wpAny_typeNameOf_keyiter hi.typeIs (Kc (Kb (wpAny_fieldsOf ei di ?_))))
 have own:Builtin.Dict_items.ownsTuple "dict_keyiterator"=false:=rfl;simp only[own,Bool.false_eq_true,if_false];show wpAny _ _ (if (Value.ref d==Value.none)=true then _ else _) _ _ s;rw[if_neg (by intro z;cases z)];refine Kb (Kc (Kb (wpAny_dictEntries et dt ?_)));rw[if_neg (by simp)];refine Kb (Kc (Kb (wpAny_dictEpoch et dt ?_)));rw[if_neg (by simp)];have nn: ¬((tb.size:Int)<0):=by omega
 refine Kc ?_;simp only[nn,if_false,Int.toNat_natCast,Array.getElem?_eq_none (Nat.le_refl tb.size)];refine Kb ?_
 first|refine Kb (wpAny_typeNameOfWhole_keyiter hi.typeIs (Kc ?_))|refine Kb (wpAny_typeNameOf_keyiter hi.typeIs (Kc ?_))
 show wpAny _ _ (setField (.ref it) 0 .none >>= _) _ _ s;refine Kb (wpAny_setField ei di (by simp) ?_);show wpAny _ _ (newExc (.type "StopIteration") [] >>= _) _ _ _;simp only[newExc,newTuple];refine Kb (Kb (wpAny_newObj_type (Kb (m:=firstArgMember _ _) (wpAny_of_eq (a:=Value.none) (by first|rfl|(simp only[firstArgMember];rfl)) (wpAny_newObj_type ?_ (by size_fits)))) (by size_fits)));simp only[raiseNew];refine Kb (wpAny_handled ?_);rw[show A.in1.handled=none from hh];refine Kb (Kc (wpAny_throw ?_));refine Kb (wpAny_isInstance (b:=true) (T:="StopIteration") ⟨_,Heap.get?_push_size _ rfl,rfl⟩ isSubtype_stop ?_);exact Kc (q _ (((Heap.SameBut.update ..).extBut.push _).push _))
end
theorem RawD.at{h h2:Heap}{d:Addr}{tb:Array DictEntry}{ep:Nat}(x:RawD h d tb ep)(e: ∀o,h.get? d=some o->h2.get? d=some o):RawD h2 d tb ep:=let ⟨o,ho,r⟩:=x;⟨o,e _ ho,r⟩
theorem RawD.lt{h:Heap}{d:Addr}{tb:Array DictEntry}{ep:Nat}(x:RawD h d tb ep):d<h.objs.size:=let ⟨_,ho,_⟩:=x;Kk ho
section
variable {prog:Program} {w:World}
theorem zlR{A:Around}(hh:A.handled=none)(I d:Addr)(hne:d≠I)(tb:Array DictEntry)(ep:Nat):
  Walks prog w A I [I,d] [I] tb.size (fun i v=>∃e,tb[i]? =some e/\v=e.key) (fun i h=>h.IsKeyIter I d i tb.size ep/\RawD h d tb ep) where
 sub:=fun b hb=>by rw[List.mem_singleton] at hb;rw[hb];exact Ke
 frame:=fun _ _ _ st hk=>⟨st.1.at fun o e=>hk I Ke o e,st.2.at fun o e=>hk d (Kf _ Ke) o e⟩
 item:=fun i s Q E lt st q=>zlP st.1 st.2 lt fun h2 hi2 sb=>
  q _ h2 s.toks ⟨tb[i],Array.getElem?_eq_getElem lt,rfl⟩ ⟨hi2,st.2.at fun o e=>sb.extBut d o hne e⟩ fun b o hb e=>sb.extBut b o (fun z=>hb (by rw[z];exact Ke)) e
 done:=fun s Q E st q=>zlQ hh st.1 st.2 fun h2 eb=>q h2 s.toks fun b o hb e=>eb b o (fun z=>hb (by rw[z];exact Ke)) e
 self:=fun _ _ _ _ st q=>wpAny_pyIter_keyiter st.1 q
theorem zlS{A:Around}{E:Value->Shared->Prop}{s:Shared}{v d:Addr}{tb:Array DictEntry}{ep:Nat}{Q:Value->Shared->Prop}(hv:KdlKeysView s.heap v d)(hr:RawD s.heap d tb ep)
  (q:Q (.ref s.heap.objs.size) { s with heap:=s.heap.push { cls:=.type "dict_keyiterator",data:=.fields #[.ref d,.int 0 0,.int tb.size 0,.int ep 0] } }):wpAny (model prog w) A (pyIter (.ref v)) Q E s:=by
 obtain⟨ov,e1,c1,d1⟩:=id hv;obtain⟨ot,et,ct,dt⟩:=id hr;refine wpAny_pyIter_slot hv.typeIs kdl_slot_keys_iter (wpAny_call_entry kdl_slot_keys_iter hv.typeIs kdl_entry_keys_iter ?_ (kdl_args_keys_iter _));unfold Builtin.«dict_keys.__iter__»;refine Kb (Kc (Kb ?_));unfold Builtin.Dict_items.dictOf;refine Kb (wpAny_field e1 d1 (x:=.ref d) rfl (Kc (Kb ?_)));unfold Builtin.Dict_items.newIterator;refine Kb (wpAny_dictEntries et dt (Kb (wpAny_dictEpoch et dt ?_)));have own:Builtin.Dict_items.ownsTuple "dict_keyiterator"=false:=rfl;simp only[own,Bool.false_eq_true,if_false];exact wpAny_newObj_type (Kc ⟨_,rfl,"dict_keyiterator",_,⟨_,Heap.get?_push_size _ rfl,rfl⟩,PySem.F.slot_dict_keyiterator_next.lookup,q⟩)
theorem zlT{r d:Addr}{tb:Array DictEntry}{ep:Nat}:KdlSrc prog w "dict_keys" r d tb.size (fun i v=>∃e,tb[i]? =some e/\v=e.key) (fun h=>KdlKeysView h r d/\RawD h d tb ep) where
 type:=fun _ x=>x.1.typeIs
 there:=fun _ x=>⟨let ⟨_,ho,_⟩:=x.1;Kk ho,x.2.lt⟩
 keep:=fun _ _ x hk=>⟨let ⟨o,ho,y⟩:=x.1;⟨o,hk r (.inl rfl) o ho,y⟩,x.2.at fun o e=>hk d (.inr rfl) o e⟩
 notList:=rfl
 notTuple:=rfl
 hint:=fun _ _ _ _ x q=>kdl_hint_keys x.1.typeIs q
 iter:=fun _ _ hh x=>⟨_,_,fun _ _ q=>zlS x.1 x.2 q,zlR hh _ d (Kh x.2.lt) tb ep,⟨_,Heap.get?_push_size _ rfl,rfl,rfl⟩,x.2.at fun o e=>Kl _ e⟩
end
end L2.LW
set_option maxHeartbeats 4000000
namespace L2.LW
open PySem PySem.Spec PySem.W PySem.Calls PyProof.Rows
theorem ZA{h h':Heap}(hk: ∀b o,h.get? b=some o->h'.get? b=some o){v:Value}{k:List Int}:Zz h v k->Zz h' v k:=fun ⟨a,o,i,n,h1,h2,h3⟩=>⟨a,o,i,n,h1,hk _ _ h2,h3⟩
theorem zlU{prog:Program}{w:World}{A:Around}{s:Shared}{its:List Value}{ks:List (List Int)}(hT:Paired (Zz s.heap) its ks)(hnd:ks.Nodup)(hne': ∀k∈ks,k≠[]):
  ∃r:Nat->Int,(∀i j,i<its.length->j<its.length->i≠j->r i≠r j)/\
   (2<=its.length->∀h' tk,(∀b o,s.heap.get? b=some o->h'.get? b=some o)->wpAny (model prog w) A (keyKind' its.toArray) (fun κ' s'=>κ'=tuples' (Value.type "int" != Value.type "tuple")/\∃tk',s'={ s with heap:=h',toks:=tk' }) (fun _ _=>False) { s with heap:=h',toks:=tk })/\
   (∀i j h' tk (C:Bool->Shared->Prop),i<its.length->j<its.length->(∀b o,s.heap.get? b=some o->h'.get? b=some o)->(∀tk',C (decide (r i<r j)) { s with heap:=h',toks:=tk' })->
    wpAny (model prog w) A (keyLt' (tuples' (Value.type "int" != Value.type "tuple")) (its.getD i Value.none) (its.getD j Value.none)) C (fun _ _=>False) { s with heap:=h',toks:=tk })/\
   ∀pm,Pm its.length r pm->Up r pm its.length->(pm.toList.map fun i=>ks.getD i [])=vJ ks/\∀i∈pm.toList,i<its.length:=by
 have hlen:its.length=ks.length:=Paired.length hT
 let r:Nat->Int:=fun i=>xH ks (ks.getD i [])
 have memk: ∀i,i<its.length->ks.getD i []∈ks:=fun i hi=>by
  rw[yQ (x:=ks[i]'(by omega)) (by simp)];exact Kt _
 have injk: ∀i j,i<its.length->j<its.length->i≠j->ks.getD i []≠ks.getD j []:=fun i j hi hj ne e=>by
  rw[yQ (x:=ks[i]'(by omega)) (by simp),yQ (x:=ks[j]'(by omega)) (by simp)] at e;exact ne ((List.getElem_inj hnd).mp e)
 refine⟨r,fun i j hi hj ne e=>?_,fun h2 h' tk hk=>?_,fun i j h' tk C hi hj hk qC=>?_,fun pm hpm hup=>?_⟩
 ·rcases Vb (injk i j hi hj ne) with z|z
  ·have:=Yz (memk i hi) z
   have e:xH ks (ks.getD i [])=xH ks (ks.getD j []):=e;omega
  ·have:=Yz (memk j hj) z
   have e:xH ks (ks.getD i [])=xH ks (ks.getD j []):=e;omega
 ·obtain⟨fs,f1,f2,f3⟩:=gM (Paired.imp' (fun v k z=>ZA hk z) hT) hne'
  exact kat_kind (s:={ s with heap:=h',toks:=tk }) f1 (by omega) (fun v hv=>by obtain⟨i,t,rfl⟩:=f3 v hv;exact Looks.of_pure rfl) (by simp) ⟨rfl,tk,rfl⟩
 ·obtain⟨x1,k1,a1,a2,a3⟩:=Vd hT hi
  obtain⟨x2,k2,b1,b2,b3⟩:=Vd hT hj;rw[yQ a1,yQ b1];obtain⟨a,o,i1,n,rfl,c1,c2,c3,c4⟩:=ZA hk a3;obtain⟨b,o',i2,n',rfl,d1,d2,d3,d4⟩:=ZA hk b3
  have er:decide (r i<r j)=LW.lexLt k1 k2:=by
   show decide (xH ks (ks.getD i [])<xH ks (ks.getD j []))=_;by_cases e:i=j
   ·subst e
    rw[a2] at b2;cases b2;rw[jQ];simp
   ·have:=QM (memk i hi) (memk j hj) (injk i j hi hj e)
    rw[yQ a2,yQ b2] at this;rw[yQ a2,yQ b2];exact this
  rw[er] at qC;refine kat_lt (s:={ s with heap:=h',toks:=tk }) c1 c3 d1 d3 ?_;exact gN 0 c4 d4 (by simp) (qC tk)
 ·have hlt: ∀i∈pm.toList,i<its.length:=fun i hi=>by
   have:=(Array.perm_iff_toList_perm.mp hpm.perm).mem_iff.mp hi;simpa using this
  have hperm:(pm.toList.map fun i=>ks.getD i []).Perm ks:=by
   have h1:=(Array.perm_iff_toList_perm.mp hpm.perm).map fun i=>ks.getD i []
   refine h1.trans (List.Perm.of_eq ?_);apply List.ext_getElem
   ·simp[hlen]
   ·intro i h1 h2;simp at h1;simp[h1,h2]
  have hupk:(pm.toList.map fun i=>ks.getD i []).Pairwise vi:=by
   rw[List.pairwise_iff_getElem];intro i j hi hj hij;rw[List.length_map,Array.length_toList,hpm.size] at hi hj;have h1:=hup i j hij (by omega);have li:=hpm.lt i hi;have lj:=hpm.lt j hj;simp only[List.getElem_map,Array.getElem_toList];have gi:pm.getD i 0=pm[i]'(by rw[hpm.size];exact hi):=by simp[Array.getD,hpm.size,hi]
   have gj:pm.getD j 0=pm[j]'(by rw[hpm.size];exact hj):=by simp[Array.getD,hpm.size,hj]
   unfold kk at h1;rw[gi] at h1 li;rw[gj] at h1 lj;have hne:pm[i]'(by rw[hpm.size];exact hi)≠pm[j]'(by rw[hpm.size];exact hj):=fun z=>by rw[z] at h1;omega
   have:=QM (memk _ li) (memk _ lj) (injk _ _ li lj hne);show LW.lexLt _ _=true;rw[<-this,decide_eq_true_iff];exact h1
  exact⟨gK (hperm.trans (Vc ks).symm) hupk (QL hnd),hlt⟩
noncomputable def QN(p d:Addr):HO:=.ext fun h=>KdlKeysView h p d
section
variable {X:Cx}
theorem zlV:Xj X "dict.keys" (fun x xs H Q=>∃a kvs,x= .ref a/\xs=[]/\H a=some (.dT kvs)/\∀p,H p=Option.none->Q (.ref p) (zF H p (QN p a))):=by
 rintro pins s σ H x xs v us Q I rx rs ⟨a,kvs,rfl,rfl,e,q⟩;cases rx;cases rs;obtain⟨_,hd,zs,_,dd⟩:=Xm I.hok e;refine wpAny_call_entry PySem.F.slot_dict_keys dd.typeIs PySem.F.entry_dict_keys ?_ (PySem.F.args_dict_keys_1 _);unfold Builtin.«dict.keys»;refine Kb ?_;unfold Builtin.Dict.noArgs;refine Kb (wpAny_notOrdered_dict dd.typeIs ?_);show wpAny _ _ (pure a) _ _ s;refine Kc ?_;show wpAny _ _ (Builtin.Dict.showsAll a >>= _) _ _ s;unfold Builtin.Dict.showsAll;rw[if_neg (by rw[hd];exact Km)];refine Kb (Kc (Kb (wpAny_newObj_type (Kc ⟨_,rfl,?_⟩))));have hv:KdlKeysView (s.heap.push { cls:=.type "dict_keys",data:=.fields #[.ref a] }) s.heap.objs.size a:=⟨_,Heap.get?_push_size _ rfl,rfl,rfl⟩
 exact⟨.ref s.heap.objs.size,_,I.laid (a:=s.heap.objs.size) (o:=QN s.heap.objs.size a) (t':=s.toks) (fun _ _ q=>Kl _ q) (Nat.le_refl _)
  ⟨hv,⟨_,Heap.get?_push_size _ rfl⟩,fun h1 h2 ⟨o,z1,z2⟩ k=>⟨o,k o z1,z2⟩⟩,rfl,q _ (I.hok.fresh (Nat.le_refl _))⟩
theorem zdA{K:Ka}{W:Addr->Prop}{H:Hp}: ∀l:List Int,Reps K W H (l.map D.int) (l.map V.int)
 |[]=>.nil
 |i::r=>.cons (.int i) (zdA r)
theorem zdB{K:Ka}{W:Addr->Prop}{H:Hp}: ∀{ns:List (List Int)} {ys:List V} {zs:List (List zy×Addr×Value)},ns.length=ys.length->
  Paired (fun (p:List zy×V) (q:List zy×Addr×Value)=>p.1=q.1/\H q.2.1=some (.tup (p.1.map kV))/\RelV p.2 q.2.2) (yH ns ys) zs->
  Reps K W H (ns.map kT) (zs.map fun x=>V.ref x.2.1)/\Vals (zs.map fun x=>V.ref x.2.1) (zs.map fun x=>Value.ref x.2.1)/\zs.length=ns.length
 |[],[],_,_,.nil=>⟨.nil,.nil,rfl⟩
 |n::ns,y::ys,_,hl,.cons h t=>by
  obtain⟨h1,h2,h3⟩:=zdB (ns:=ns) (ys:=ys) (by simpa using hl) t;refine⟨.cons (.tup (xs:=n.map V.int) ?_ (zdA n)) h1,.cons rfl h2,by simp[h3]⟩;have:=h.2.1;rw[Yk] at this;exact this
theorem zlW(hc:X.calm=true):xt X (.builtin "sorted") (fun xs H Q=>∃p a,xs=[.ref p]/\H p=some (QN p a)/\VR X.K (zg .skeys) [.ref a] H Q):=by
 rintro pins s σ H xs us Q I rv ⟨p,a,rfl,hp,W,ds,r,wf,hs,hf,q⟩;obtain⟨d,rfl,h1⟩:=XI hs;replace hf:Xv [d]=some r:=hf;unfold Xv at hf;split at hf
 case h_2=>cases hf
 rename_i ks vs z;cases z;obtain⟨a',ns,ys,e,rfl,hH,hl,_⟩:=h1.dT;cases e;obtain⟨u,rfl,ru⟩:=wW rv;cases ru
 have hks:tups? (ns.map kT)=some ns:=by
  clear hf hs h1 hl hH
  induction ns with
  |nil=>rfl
  |cons n r ih=>
   have: ∀l:List Int,ints? (l.map D.int)=some l:=fun l=>by induction l with
    |nil=>rfl
    |cons x l ih=>simp[ints?,ih]
   simp[tups?,kT,this,ih]
 unfold Xu at hf;rw[hks] at hf;simp only[Option.bind_some] at hf;split at hf
 case isFalse=>cases hf
 rename_i hcond;cases hf;obtain⟨h64,hnd,hne⟩:=hcond
 have hne': ∀k∈ns,k≠[]:=fun k hk e=>by
  have:=List.all_eq_true.mp hne k hk;rw[e] at this;cases this
 obtain⟨_,hd,zs,rel,o,es,ep,g1,g2,g3,g4,g5⟩:=(show ObjOk X.prog X.w H s.heap a (.dT (yH ns ys)) from I.hok a _ hH);have hview:KdlKeysView s.heap p a:=(show ObjOk X.prog X.w H s.heap p (QN p a) from I.hok p _ hp).1;obtain⟨rp,rv',zl⟩:=zdB (K:=X.K) (W:=W) hl rel;have hT:=gL I rp rv' hks;obtain⟨r,f1,f2,f3,f4⟩:=zlU (prog:=X.prog) (w:=X.w) (A:=X.A.in1.in1) hT hnd hne';have il:(zs.map fun x=>Value.ref x.2.1).length=ns.length:=by rw[List.length_map,zl]
 have esz:es.size=ns.length:=by rw[<-Array.length_toList,g4,List.length_map,zl]
 refine Calls.call_function_entry kind_sorted plain_sorted entry_sorted (args_sorted1 _) ?_;unfold Builtin.«sorted»;refine Kb (m:=checkCount "sorted" 1 1 _) (Kc ?_);refine Kb (kdu_collect (A:=X.A.in1) zlT (I.ok.hd hc) ⟨hview,o,g1,g2,g3⟩ (by rw[sizeLine_eq];omega) fun h2 tk acc hk hacc=>?_)
 have ea:acc.toList=zs.map fun x=>Value.ref x.2.1:=by
  apply List.ext_getElem?;intro j;have sz:acc.size=es.size:=hacc.1;by_cases hj:j<acc.size
  ·have h3:acc.toList[j]? =some acc[j]:=by simp[hj]
   obtain⟨e,e1,e2⟩:=hacc.2 j acc[j] (by simp[hj]);rw[h3,e2];rw[<-Array.getElem?_toList,g4,List.getElem?_map,jo2] at e1;obtain⟨x,e3,e4⟩:=e1;rw[List.getElem?_map,e3,<-e4];rfl
  ·rw[List.getElem?_eq_none (by simpa using hj),List.getElem?_eq_none (by rw[il];omega)]
 rw[ea];refine Kb (wpAny_newList ?_ (by rw[il,sizeLine_eq];omega));generalize hits:(zs.map fun x=>Value.ref x.2.1)=its at*;have hoL:(h2.push (seqObj "list" its.toArray 0)).get? h2.objs.size=some (seqObj "list" its.toArray 0):=Heap.get?_push_size _ rfl;have keep: ∀b q,s.heap.get? b=some q->(h2.push (seqObj "list" its.toArray 0)).get? b=some q:=fun b q e=>Kl _ (hk b q e)
 have nea: ∀b q,s.heap.get? b=some q->b≠h2.objs.size:=fun b q e=>Kh (Kk (hk b q e))
 have I2:=I.kept (t':=tk) hk;show wpAny _ _ _ _ _ { s with heap:=h2.push (seqObj "list" its.toArray 0),toks:=tk };refine Kb (wpAny_holding (wpAny_call_entry slot_list_sort ⟨_,hoL,rfl⟩ entry_list_sort (zdt (s:={ s with heap:=h2.push (seqObj "list" its.toArray 0),toks:=tk }) (κ:=tuples' (Value.type "int" != Value.type "tuple")) (r:=r) hoL (by omega) f1 (fun z2 h' tk hk'=>?_) (fun i j h' tk C hi hj hk' q=>?_) fun pm tk hp hu=>⟨_,rfl,?_⟩) (args_list_sort _)))
 ·exact f2 z2 h' tk fun b o e=>hk' b o (nea b o e) (keep b o e)
 ·exact f3 i j h' tk C hi hj (fun b o e=>hk' b o (nea b o e) (keep b o e)) q
 ·obtain⟨heq,hlt⟩:=f4 pm hp hu
  refine Kc ⟨_,rfl,?_⟩;obtain⟨e,he⟩:=sortedHeap_at (out:=(pm.toList.map fun i=>its.getD i Value.none).toArray) hoL;have fr:H h2.objs.size=Option.none:=I2.hok.fresh (Nat.le_refl _)
  have hds:(pm.toList.map fun i=>(ns.map kT).getD i .non)=(vJ ns).map kT:=by
   rw[<-heq,List.map_map];apply List.map_congr_left;intro i hi;have hi':=hlt i hi;show (ns.map kT).getD i .non=kT (ns.getD i []);rw[yQ (x:=kT (ns[i]'(by omega))) (by simp[show i<ns.length by omega]),yQ (x:=ns[i]'(by omega)) (by simp)]
  have hrep:=zdw rp pm.toList fun i hi=>by have:=hlt i hi;simp;omega
  rw[hds] at hrep;have hvals:=zdv rv' pm.toList fun i hi=>hlt i hi
  have rn:=Yi fr hrep;refine⟨.ref h2.objs.size,_,I2.laid (a:=h2.objs.size) (h':=sortedHeap (h2.push (seqObj "list" its.toArray 0)) h2.objs.size its (pm.toList.map fun i=>its.getD i Value.none).toArray) (o:=.lst (pm.toList.map fun i=>(zs.map fun x=>V.ref x.2.1).getD i .non)) (t':=tk) (fun b o q=>?_) (Nat.le_refl _) ⟨?_,_,e,hvals,?_⟩,rfl,q _ _ (xh fr _) rn⟩
  ·have lt:b<h2.objs.size:=Kk q
   have q':=Kl (seqObj "list" its.toArray 0) q;rw[sortedHeap_old (Kh lt) (Kk q')];exact q'
  ·rw[List.length_map,Array.length_toList,hp.size];exact Nat.le_of_lt (Xn (by omega))
  ·simpa [seqObj] using he
end
end L2.LW
set_option maxHeartbeats 4000000
namespace L2.LW
open PySem PySem.Spec PySem.W PySem.Calls PyProof.Rows
section
variable {X:Cx} {fn:Nat->List D->Option SV} {fa:Nat->List D->Option Ans} {fuel:Nat} {a b c e:Expr} {ca cb cc ce:E} {pos p:Pos} {x:Str}
theorem zlX{apos cpos:Pos}(hc:X.calm=true)(hg:Gl X "sorted")(hm:X.mg "sorted"=Option.none)(ha:IE X fn a ca)
  (hst:starEach [Expr.Call (.Attribute a "keys" apos) [] [] cpos] X.env=(false,eval (Expr.Call (.Attribute a "keys" apos) [] [] cpos) X.env)::starEach [] X.env:=by rfl)
  (hbase:attributeBase a "keys" X.env (eval a X.env)=eval a X.env:=by rfl) (hline:(apos.endLine==cpos.line)=true:=by rfl):
  IE X fn (.Call (.Name "sorted" p) [.Call (.Attribute a "keys" apos) [] [] cpos] [] pos) (.prim .skeys (.cons ca .nil)):=
 .mk <| (qD (zlW hc) hg hm PyProof.Rows.boot_sorted (vp (zb5 PySem.F.plainAttrs_dict PySem.F.slot_dict_keys PySem.F.type_dict_keys zlV ha.v hbase hline) Zk hst) (by decide) (by decide) hst zm).imp fun σ H Q zz3=>by
  obtain⟨W,ρ,r,hR,he,q⟩:=zz3;simp only[wZ,xY,xZ,jo1,jo2] at he;obtain⟨rs,⟨r1,e1,rs',e3,rfl⟩,e4⟩:=he;cases e3;refine⟨W,ρ,r1,hR,e1,fun v1 H1 s1 f1=>?_⟩;have hsee:=qZ (.cons f1 .nil);have e5:Xv [zI r1]=some r:=e4;unfold Xv at e5;split at e5
  case h_2=>cases e5
  rename_i ks vs z;have z1:zI r1= .dct true ks vs:=by simpa using z
  obtain⟨d0,ed,hs⟩:=XI hsee;simp at ed;subst ed;rw[z1] at hs;obtain⟨a0,ns,ys,rfl,rfl,hH,hl,_⟩:=hs.dT;refine⟨.inr (.inr (.inl ⟨rfl,.inr ⟨_,hH⟩⟩)),a0,_,rfl,rfl,hH,fun p0 hp0=>?_⟩;exact⟨p0,a0,rfl,yJ,XQ hR (s1.trans (xh hp0 _)) (.cons (f1.same (xh hp0 _)) .nil) e4 q⟩
end
end L2.LW
set_option maxHeartbeats 4000000
namespace L2.LW
open PySem PySem.Spec PySem.W PySem.Calls PyProof.Rows
noncomputable def vH(i:Nat):Int:=reduceHash (Builtin.Tuple.tupleHashOf [hashInt ((i/8:Nat):Int),hashInt ((i%8:Nat):Int)])
theorem zlY:((List.range 64).map vH).Nodup:=by decide+kernel
theorem zdC{P:Program}{w:World}{a b:Int}(h:0<=a/\a<=7/\0<=b/\b<=7):(a*8+b).toNat<64/\tupleKeyHash (zT P w) [Sum.inl a,Sum.inl b]=vH (a*8+b).toNat:=by
 refine⟨by omega,?_⟩;unfold vH;rw[show (((a*8+b).toNat/8:Nat):Int)=a by omega,show (((a*8+b).toNat%8:Nat):Int)=b by omega];rfl
noncomputable def ZB(k:List zy):Prop:=∃a b:Int,k=[Sum.inl a,Sum.inl b]/\0<=a/\a<=7/\0<=b/\b<=7
theorem zlZ{P:Program}{w:World}{k k':List zy}(h:ZB k)(h':ZB k')(e:tupleKeyHash (zT P w) k=tupleKeyHash (zT P w) k'):k=k':=by
 obtain⟨a,b,rfl,r⟩:=h;obtain⟨c,d,rfl,r'⟩:=h';obtain⟨l1,e1⟩:=zdC (P:=P) (w:=w) r;obtain⟨l2,e2⟩:=zdC (P:=P) (w:=w) r';rw[e1,e2] at e;have e3:((List.range 64).map vH)[(a*8+b).toNat]'(by rw[List.length_map,List.length_range];exact l1)=((List.range 64).map vH)[(c*8+d).toNat]'(by rw[List.length_map,List.length_range];exact l2):=by simpa using e
 have:=(List.getElem_inj zlY).mp e3;have ea:a=c:=by omega
 have eb:b=d:=by omega
 rw[ea,eb]
section
variable {prog:Program} {w:World} {K:Type} [DecidableEq K] {knd:HeapKind prog w K} {A:Around} {E:Value->Shared->Prop} {s:Shared}
theorem zdD{d a:Addr}{xs:List (K×Addr×Value)}{k:K}{v:Value}{Q:Unit->Shared->Prop}(hu:knd.room A)(hkey:knd.is s.heap k a)(hm:s.heap.DictOfH knd d xs)(hsz:xs.length<=sizeLine)
  (q: ∀h2,h2.DictOfH knd d (storedH xs k a v)->Heap.SameBut d s.heap h2->Q () { s with heap:=h2 }):wpAny (model prog w) A (dictSetHashed d (.ref a) (knd.hash k) v) Q E s:=by
 obtain⟨ob,tb,ep,e1,ex,e2,e3,al,nd⟩:=hm;have lz:=size_of_entries e3;unfold dictSetHashed
 try with_reducible refine wpAny_holding ?_
 refine Kb (wpAny_dictFind_heap hu hkey e1 e2 e3 al nd (fun no=>?_) fun j p hj=>?_)
 ·have ak:=atKey_none_of_get no
  have nm:=not_mem_keys_of_get no;refine Kb (wpAny_rule (wpAny_updateDictKeys (hz:=by omega) e1 e2 (q _ ?_ (Heap.SameBut.update ..))));rw[storedH_new ak];refine⟨_,_,ep+1,Heap.get?_update_self _ e1 (Obj.isFreed_of_dict (Obj.data_mapDictKeys e2 _)),ex.mapDictKeys _,Obj.data_mapDictKeys e2 _,by simp[e3,entryOfKey],fun z hz=>?_,?_⟩
  ·rcases List.mem_append.mp hz with hz|hz
   ·exact knd.keeps (al z hz) e1 e2 (Heap.SameBut.update ..)
   ·rw[List.mem_singleton] at hz
    rw[hz];exact knd.keeps hkey e1 e2 (Heap.SameBut.update ..)
  ·rw[List.map_append,List.nodup_append]
   exact⟨nd,by simp,fun y hy z hz e=>nm (by simp at hz;rw[<-hz,<-e];exact hy)⟩
 ·have ak:=atKey_of_get nd hj
  refine Kb (wpAny_rule (Kb (wpAny_updateDict e1 e2 (wpAny_point (q _ ?_ (Heap.SameBut.update ..))))));rw[storedH_old ak];refine⟨_,_,ep,Heap.get?_update_self _ e1 (Obj.isFreed_of_dict (Obj.data_mapDict e2 _)),ex.mapDict _,Obj.data_mapDict e2 _,?_,fun z hz=>?_,?_⟩
  ·have mm:=modify_map_putAt (entryOfKey knd) (fun t:DictEntry=>{ t with val:=v }) k v (fun _ _=>rfl) nd hj
   rw[<-e3] at mm;obtain⟨l⟩:=tb;simpa using mm
  ·obtain⟨y,hy,rfl⟩:=List.mem_map.mp hz
   unfold putAt;split<;>exact knd.keeps (al y hy) e1 e2 (Heap.SameBut.update ..)
  ·rw[keys_map_putAt];exact nd
noncomputable def wx(xs zs:List (K×Addr×Value)):List (K×Addr×Value):=zs.foldl (fun acc z=>storedH acc z.1 z.2.1 z.2.2) xs
theorem zl0(xs:List (K×Addr×Value))(k:K)(a:Addr)(v:Value):(storedH xs k a v).length<=xs.length+1:=by
 unfold storedH;split<;>simp
theorem gO(xs:List (K×Addr×Value)): ∀zs:List (K×Addr×Value),(wx xs zs).length<=xs.length+zs.length:=fun zs=>by
 induction zs generalizing xs with
 |nil=>simp[wx]
 |cons z r ih=>
  have h1:=ih (storedH xs z.1 z.2.1 z.2.2);have h2:=zl0 xs z.1 z.2.1 z.2.2;show (wx (storedH xs z.1 z.2.1 z.2.2) r).length<=_;simp;omega
theorem zdE: ∀(zs xs:List (K×Addr×Value)),((xs++zs).map (·.1)).Nodup->wx xs zs=xs++zs
 |[],xs,_=>by simp[wx]
 |z::r,xs,h=>by
  have ak:atKey xs z.1=none:=atKey_none_of_get fun j p hj=>by
   rw[List.map_append,List.map_cons,List.nodup_append] at h;exact h.2.2 z.1 (List.mem_map.mpr ⟨(z.1,p),Ky hj,rfl⟩) z.1 Ke rfl
  show wx (storedH xs z.1 z.2.1 z.2.2) r=_;rw[storedH_new ak,zdE r _ (by simpa using h)];simp
theorem zdF(xs zs:List (K×Addr×Value))(i:Nat)(z:K×Addr×Value)(h:zs[i]? =some z):wx xs (zs.take (i+1))=storedH (wx xs (zs.take i)) z.1 z.2.1 z.2.2:=by
 simp[wx,List.take_add_one,h,List.foldl_append]
end
section
variable {P:Program} {w:World} {A:Around} {E:Value->Shared->Prop} {s:Shared}
theorem zl1{id:String}{d:Addr}{ob:Obj}{tb:Array DictEntry}{ep:Nat}{zs:List (List zy×Addr×Value)}{Q:Array DictEntry->Shared->Prop}(e1:s.heap.get? d=some ob)(e2:ob.data= .dict tb ep)(e3:tb.toList=zs.map (entryOfKey (tupleKind (zT P w))))
  (al: ∀z∈zs,(tupleKind (zT P w)).is s.heap z.1 z.2.1) (nd:(zs.map (·.1)).Nodup) (sm: ∀z∈zs,ZB z.1) (q:Q tb s):wpAny (model P w) A (Builtin.Dict.entriesForEmpty id d) Q E s:=by
 unfold Builtin.Dict.entriesForEmpty;refine Kb (wpAny_dictEntries e1 e2 (Kb ?_));rw[<-Array.forIn_toList];refine wpAny_forIn_list _ (fun zP _ s'=>s'=s/\∀t∈zP,t∈tb.toList) _ (fun t zP b s' ⟨hs,hall⟩=>?_) (fun b s' ⟨hs,_⟩=>?_) _ _ ⟨rfl,fun t ht=>ht⟩
 ·subst hs
  have ht:=hall t Ke;have ht2:=ht;rw[e3] at ht2;obtain⟨z,hz,rfl⟩:=List.mem_map.mp ht2;have tq:=al z hz;have nxt:(s'=s'/\∀t∈zP,t∈tb.toList):=⟨rfl,fun y hy=>hall y (Kf _ hy)⟩;refine Kb ?_;show wpAny _ _ (Builtin.Dict.quietEq (.ref z.2.1)) _ _ _;unfold Builtin.Dict.quietEq;refine Kb (wpAny_specialOf (IsTupleKey.typeIs tq) PySem.F.slot_tuple_eq.lookup (Kc ?_))
  have one: ¬(tb.filter fun y=>y.hash==(entryOfKey (tupleKind (zT P w)) z).hash).size>1:=by
   intro big
   have:(tb.toList.filter fun y=>y.hash==(entryOfKey (tupleKind (zT P w)) z).hash).length>1:=by
    have:=big;rw[<-Array.length_toList,Array.toList_filter] at this;exact this
   rw[e3,List.filter_map,List.length_map] at this;have nd2:zs.Nodup:=(List.pairwise_map.mp nd).imp fun h e=>h (by rw[e])
   have le:(zs.filter ((fun y=>y.hash==(entryOfKey (tupleKind (zT P w)) z).hash)∘entryOfKey (tupleKind (zT P w)))).length<=[z].length:=by
    have key: ∀y∈zs.filter ((fun y=>y.hash==(entryOfKey (tupleKind (zT P w)) z).hash)∘entryOfKey (tupleKind (zT P w))),y=z:=fun y hy=>by
     rw[List.mem_filter] at hy;obtain⟨hy1,hy2⟩:=hy;have eh:tupleKeyHash (zT P w) y.1=tupleKeyHash (zT P w) z.1:=by simpa [entryOfKey,tupleKind] using hy2
     have ek:=zlZ (sm y hy1) (sm z hz) eh;obtain⟨i,hi,rfl⟩:=List.getElem_of_mem hy1;obtain⟨j,hj,rfl⟩:=List.getElem_of_mem hz;have:i=j:=(List.getElem_inj nd (h₀:=by simpa using hi) (h₁:=by simpa using hj)).mp (by simpa using ek);subst this;rfl
    have nf:=nd2.filter ((fun y=>y.hash==(entryOfKey (tupleKind (zT P w)) z).hash)∘entryOfKey (tupleKind (zT P w)));generalize zs.filter ((fun y=>y.hash==(entryOfKey (tupleKind (zT P w)) z).hash)∘entryOfKey (tupleKind (zT P w)))=L at key nf
    match L,nf,key with
    |[],_,_=>simp
    |[_],_,_=>simp
    |x::y::r,nf,key=>
     have h1:=key x (by simp);have h2:=key y (by simp);rw[h1,h2] at nf;simp at nf
   simp at le;omega
  have ne:((some (Value.builtin "tuple.__eq__")==some (Value.builtin "object.__eq__"))=false):=by decide
  rw[ne];simp only[Bool.not_false,if_true];rw[if_neg one];exact Kc nxt
 ·subst hs
  exact Kc q
theorem zl2{nm:String}{d o:Addr}{xs zs:List (List zy×Addr×Value)}{Q:Unit->Shared->Prop}(hu:A.units<cLine)(ne:d≠o)(hoS:(o==sysModules)=false)
  (hd:s.heap.DictOfH (tupleKind (zT P w)) d xs) (ho:s.heap.DictOfH (tupleKind (zT P w)) o zs) (sm: ∀z∈zs,ZB z.1) (hsz:xs.length+zs.length<sizeLine)
  (q: ∀h2,h2.DictOfH (tupleKind (zT P w)) d (wx xs zs)->Heap.SameBut d s.heap h2->Q () { s with heap:=h2 }):wpAny (model P w) A (Builtin.Dict.mergeDict nm d o) Q E s:=by
 obtain⟨od,td,pd,d1,d2,d3,d4,d5,d6⟩:=id hd;obtain⟨oo,to,po,o1,o2,o3,o4,o5,o6⟩:=id ho;have lz:=size_of_entries o4;have lx:=size_of_entries d4;unfold Builtin.Dict.mergeDict;rw[if_neg (by simpa using ne)];unfold Builtin.Dict.showsAll;rw[if_neg (by rw[hoS];exact Km)];refine Kb (Kc (Kb (wpAny_dictEntries o1 o3 ?_)));dsimp only;split
 ·refine Kb (wpAny_dictEntries d1 d3 ?_)
  split
  ·rename_i em
   have x0:xs=[]:=List.length_eq_zero_iff.mp (by rw[<-lx,Array.isEmpty_iff.mp em];rfl);subst x0;refine Kb (zl1 o1 o3 o4 o5 o6 sm ?_);split
   ·refine Kb (wpAny_updateDictKeysTo d1 d3 (Kc (q _ ?_ (Heap.SameBut.update ..))) (by omega))
    rw[zdE zs [] (by simpa using o6)];exact⟨_,_,pd+1,Heap.get?_update_self _ d1 (Obj.isFreed_of_dict (Obj.data_mapDictKeys d3 _)),d2.mapDictKeys _,Obj.data_mapDictKeys d3 _,o4,fun z hz'=>(tupleKind (zT P w)).keeps (o5 z hz') d1 d3 (Heap.SameBut.update ..),o6⟩
   ·rename_i h0
    have e0:to.size=0:=by
     have:to.isEmpty=true:=by simpa using h0
     rw[Array.isEmpty_iff.mp this];rfl
    have z0:zs=[]:=List.length_eq_zero_iff.mp (by omega);subst z0;exact Kc (q _ (by simpa [wx] using hd) (Heap.SameBut.refl _ _))
  ·refine Kb (wpAny_dictEpoch o1 o3 (Kb (wpAny_dictEntries o1 o3 (Kb ?_))))
   rw[Std.Legacy.Range.forIn_eq_forIn_range'];simp only[Nat.div_one,Nat.add_sub_cancel,Nat.sub_zero,Std.Legacy.Range.size]
   refine wpAny_forIn_list _ (fun zP _ s'=>∃h2 i,s'={ s with heap:=h2 }/\zP=List.range' i (to.size-i)/\i<=to.size/\h2.DictOfH (tupleKind (zT P w)) d (wx xs (zs.take i))/\h2.get? o=some oo/\Heap.SameBut d s.heap h2)
    _ (fun x zP b s'=>?_) (fun b s'=>?_) _ _ ⟨s.heap,0,rfl,by simp,Nat.zero_le _,by simpa [wx] using hd,o1,Heap.SameBut.refl _ _⟩
   ·rintro⟨h2,i,rfl,er,hi,hd2,oh,sb⟩
    have lt:i<to.size:=by
     by_cases z:i<to.size
     ·exact z
     ·rw[show to.size-i=0 by omega] at er;simp at er
    rw[show to.size-i=(to.size-(i+1))+1 by omega,List.range'_succ] at er;injection er with ex erest;subst ex;refine Kb (wpAny_dictEntries oh o3 ?_);obtain⟨z,ez⟩: ∃z,zs[x]? =some z:=⟨zs[x]'(by omega),List.getElem?_eq_getElem _⟩;have et:to[x]? =some (entryOfKey (tupleKind (zT P w)) z):=by rw[entry_at o4 x,ez];rfl
    rw[et];show wpAny _ _ (holding [Value.ref z.2.1,z.2.2] (dictSetHashed d (.ref z.2.1) ((tupleKind (zT P w)).hash z.1) z.2.2) >>= _) _ _ _;have hz:=Ky ez;have ml:=gO xs (zs.take x);have tl:(zs.take x).length<=zs.length:=by rw[List.length_take];omega
    refine Kb (wpAny_holding (zdD (s:={ s with heap:=h2 }) hu ((tupleKind (zT P w)).keeps (o5 z hz) d1 d3 sb) hd2 (by omega) fun h3 hd3 sb3=>?_));have oh3:h3.get? o=some oo:=(sb3.2 o (Ne.symm ne)).trans oh;refine Kb (wpAny_dictEpoch (s:={ s with heap:=h3 }) oh3 o3 ?_);rw[if_neg (by simp)];exact Kc ⟨h3,x+1,rfl,erest,lt,by rw[zdF xs zs x z ez];exact hd3,oh3,sb.trans sb3⟩
   ·rintro⟨h2,i,rfl,er,hi,hd2,oh,sb⟩
    have:i=to.size:=by
     by_cases z:i<to.size
     ·rw[show to.size-i=(to.size-(i+1))+1 by omega,List.range'_succ] at er;cases er
     ·omega
    rw[this,lz,List.take_length] at hd2;exact Kc (q h2 hd2 sb)
 ·refine Kb (wpAny_dictEpoch o1 o3 (Kb (wpAny_dictEntries o1 o3 (Kb ?_))))
  rw[Std.Legacy.Range.forIn_eq_forIn_range'];simp only[Nat.div_one,Nat.add_sub_cancel,Nat.sub_zero,Std.Legacy.Range.size]
  refine wpAny_forIn_list _ (fun zP _ s'=>∃h2 i,s'={ s with heap:=h2 }/\zP=List.range' i (to.size-i)/\i<=to.size/\h2.DictOfH (tupleKind (zT P w)) d (wx xs (zs.take i))/\h2.get? o=some oo/\Heap.SameBut d s.heap h2)
   _ (fun x zP b s'=>?_) (fun b s'=>?_) _ _ ⟨s.heap,0,rfl,by simp,Nat.zero_le _,by simpa [wx] using hd,o1,Heap.SameBut.refl _ _⟩
  ·rintro⟨h2,i,rfl,er,hi,hd2,oh,sb⟩
   have lt:i<to.size:=by
    by_cases z:i<to.size
    ·exact z
    ·rw[show to.size-i=0 by omega] at er;simp at er
   rw[show to.size-i=(to.size-(i+1))+1 by omega,List.range'_succ] at er;injection er with ex erest;subst ex;refine Kb (wpAny_dictEntries oh o3 ?_);obtain⟨z,ez⟩: ∃z,zs[x]? =some z:=⟨zs[x]'(by omega),List.getElem?_eq_getElem _⟩;have et:to[x]? =some (entryOfKey (tupleKind (zT P w)) z):=by rw[entry_at o4 x,ez];rfl
   rw[et];show wpAny _ _ (holding [Value.ref z.2.1,z.2.2] (dictSetHashed d (.ref z.2.1) ((tupleKind (zT P w)).hash z.1) z.2.2) >>= _) _ _ _;have hz:=Ky ez;have ml:=gO xs (zs.take x);have tl:(zs.take x).length<=zs.length:=by rw[List.length_take];omega
   refine Kb (wpAny_holding (zdD (s:={ s with heap:=h2 }) hu ((tupleKind (zT P w)).keeps (o5 z hz) d1 d3 sb) hd2 (by omega) fun h3 hd3 sb3=>?_));have oh3:h3.get? o=some oo:=(sb3.2 o (Ne.symm ne)).trans oh;refine Kb (wpAny_dictEpoch (s:={ s with heap:=h3 }) oh3 o3 ?_);rw[if_neg (by simp)];exact Kc ⟨h3,x+1,rfl,erest,lt,by rw[zdF xs zs x z ez];exact hd3,oh3,sb.trans sb3⟩
  ·rintro⟨h2,i,rfl,er,hi,hd2,oh,sb⟩
   have:i=to.size:=by
    by_cases z:i<to.size
    ·rw[show to.size-i=(to.size-(i+1))+1 by omega,List.range'_succ] at er;cases er
    ·omega
   rw[this,lz,List.take_length] at hd2;exact Kc (q h2 hd2 sb)
end
end L2.LW
set_option maxHeartbeats 4000000
namespace L2.LW
open PySem PySem.Spec PySem.W PySem.Calls PyProof.Rows
noncomputable def YA(kvs kvs2:List (List zy×V)):List (List zy×V):=kvs2.foldl (fun acc p=>xB acc p.1 p.2) kvs
theorem KT.merge{H:Hp}: ∀{kvs2:List (List zy×V)} {zs:List (List zy×Addr×Value)},KT H kvs2 zs->∀{kvs:List (List zy×V)} {xs:List (List zy×Addr×Value)},KT H kvs xs->KT H (YA kvs kvs2) (wx xs zs)
 |_,_,.nil,_,_,r=>r
 |_,_,.cons (a:=p) (b:=z) h t,kvs,xs,r=>by
  have r1:KT H (xB kvs p.1 p.2) (storedH xs z.1 z.2.1 z.2.2):=by
   have e:p.1=z.1:=h.1;rw[e];exact KT.put r z.1 (by rw[<-e];exact h.2.1) h.2.2
  exact KT.merge t r1
section
variable {X:Cx}
theorem zl3(hu:X.A.units+64<cLine):Xj X "dict.update" (fun x xs H Q=>∃a b kvs kvs2,x= .ref a/\xs=[.ref b]/\a≠b/\H a=some (.dT kvs)/\H b=some (.dT kvs2)/\(∀p∈kvs2,ZB p.1)/\kvs.length+kvs2.length<sizeLine/\Q .non (zF H a (.dT (YA kvs kvs2)))):=by
 rintro pins s σ H x xs v us Q I rx rs ⟨a,b,kvs,kvs2,rfl,rfl,ne,ea,eb,sm,hsz,q⟩;cases rx;obtain⟨u,rfl,ru⟩:=wW rs;cases ru;obtain⟨_,hd,zs,rel,dd⟩:=Xm I.hok ea;obtain⟨-,hd2,zs2,rel2,dd2⟩:=Xm I.hok eb;have l1:zs.length=kvs.length:=(Paired.length rel).symm;have l2:zs2.length=kvs2.length:=(Paired.length rel2).symm
 have sm2: ∀z∈zs2,ZB z.1:=by
  clear q hsz l2 dd2 eb
  induction rel2 with
  |nil=>intro z hz;cases hz
  |cons h t ih=>
   intro z hz;rcases List.mem_cons.mp hz with rfl|hz
   ·rw[<-h.1];exact sm _ Ke
   ·exact ih (fun p hp=>sm p (Kf _ hp)) z hz
 refine wpAny_call_entry PySem.F.slot_dict_update dd.typeIs PySem.F.entry_dict_update ?_ (PySem.F.args_dict_update_2 _ _);unfold Builtin.«dict.update»;refine Kb ?_;unfold Builtin.Dict.selfAndRest;refine Kb (wpAny_notOrdered_dict dd.typeIs ?_);show wpAny _ _ (pure (a,[Value.ref b])) _ _ s;refine Kc ?_;show wpAny _ _ (Builtin.Dict.updateFrom "dict.update" a (.ref b) [] .none) _ _ s;unfold Builtin.Dict.updateFrom;refine Kb (wpAny_typeOf dd2.typeIs ?_);rw[if_neg (by decide)];refine Kb ?_;unfold Builtin.Dict.merge;refine Kb ?_;unfold Builtin.Dict.readDirectly;refine Kb (wpAny_isInstance dd2.typeIs isSubtype_dict_dict ?_);simp only[Bool.not_true,Bool.false_eq_true,if_false];refine Kb (wpAny_specialOf dd2.typeIs PySem.F.slot_dict_iter.lookup (Kc ?_));simp only[if_true,beq_self_eq_true];refine Kb (Kc (zl2 (show X.A.in1.units<cLine from Nat.lt_of_le_of_lt (Nat.le_refl _) (by show X.A.units+1<cLine;omega)) ne hd2 dd dd2 sm2 (by omega) fun h2 dd3 sb=>?_));show wpAny _ _ (Builtin.Dict.addKeywords a [] >>= _) _ _ _;refine Kb (Kc (Kc ⟨.none,rfl,.non,_,?_,rfl,q⟩));obtain⟨ob,es,ep,q1,q2,q3,q4,_,q5⟩:=dd3;have ml:=gO zs zs2;refine JN (t':=s.toks) I (by rw[ea];exact True.intro) sb ⟨ob,q1⟩ ⟨?_,hd,_,(KT.merge rel2 rel).keeps fun c ys ec=>?_,ob,es,ep,q1,q2,q3,q4,q5⟩
 ·have:=Paired.length (KT.merge rel2 rel)
  omega
 ·rw[zE (qt ec ea (fun z=>nomatch z))]
  exact ec
end
theorem zdG{K:Ka}{W:Addr->Prop}{H:Hp}: ∀{ns2:List (List Int)} {ys2:List V} {vs2:List D},ns2.length=ys2.length->Reps K W H vs2 ys2->∀{ns:List (List Int)} {ys:List V} {vs:List D},ns.length=ys.length->Reps K W H vs ys->
  ORep K W H (.dct true (vw (ns.map kT) vs (ns2.map kT) vs2).1 (vw (ns.map kT) vs (ns2.map kT) vs2).2) (.dT (YA (yH ns ys) (yH ns2 ys2)))
 |[],[],_,_,.nil,ns,ys,vs,l,r=>.dT l r
 |n::ns2,y::ys2,_,l2,.cons (d:=d) (ds:=dt) h t,ns,ys,vs,l,r=>by
  have o1:=zdf l r n h
  have st: ∀{D0:D} {P0:List (List zy×V)},ORep K W H D0 (.dT P0)->∃ns' ys' vs',D0= .dct true (ns'.map kT) vs'/\P0=yH ns' ys'/\ns'.length=ys'.length/\Reps K W H vs' ys':=by
   intro D0 P0 o
   cases o with
   |dT l r=>exact⟨_,_,_,rfl,rfl,l,r⟩
  obtain⟨ns',ys',vs',e1,e2,l',r'⟩:=st o1;have ih:=zdG (ns2:=ns2) (ys2:=ys2) (by simpa using l2) t l' r'
  have e3:vw (ns.map kT) vs ((n::ns2).map kT) (d::dt)=vw (ns'.map kT) vs' (ns2.map kT) dt:=by
   rw[List.map_cons,vw,e1]
  have e4:YA (yH ns ys) (yH (n::ns2) (y::ys2))=YA (yH ns' ys') (yH ns2 ys2):=by
   show YA (xB (yH ns ys) (n.map Sum.inl) y) (yH ns2 ys2)=_;rw[e2]
  rw[e3,e4];exact ih
theorem zl4{ns:List (List Int)}{ys:List V}(h:(ns.map kT).all XD=true): ∀p∈yH ns ys,ZB p.1:=by
 intro p hp;have h1:=(List.of_mem_zip (show (p.1,p.2)∈_ from hp)).1;rw[List.mem_map] at h1;obtain⟨n,hn,e⟩:=h1;have h2:=List.all_eq_true.mp h (kT n) (List.mem_map.mpr ⟨n,hn,rfl⟩);rw[<-e];unfold kT XD at h2
 match n,h2 with
 |[],h2=>simp at h2
 |[_],h2=>simp at h2
 |[a,b],h2=>exact⟨a,b,rfl,by simpa using h2⟩
 |_::_::_::_,h2=>simp at h2
section
variable {X:Cx} {fn:Nat->List D->Option SV} {fa:Nat->List D->Option Ans} {fuel:Nat} {pos p p2:Pos} {x y:Str}
theorem zl5(i j:Nat){apos cpos:Pos}(hu:X.A.units+64<cLine)(hN:X.N[i]? =some x)(hv:wq X.env.scope x)(hN2:X.N[j]? =some y)(hv2:wq X.env.scope y)(hst:starEach [Expr.Name y p2] X.env=(false,eval (.Name y p2) X.env)::starEach [] X.env)
  (hd:(x==("__debug__":Str))=false) (hcd:(x==("__classdict__":Str))=false) (hd2:(y==("__debug__":Str))=false) (hcd2:(y==("__classdict__":Str))=false)
  (hs:swapsWith (.Call (.Attribute (.Name x p) "update" apos) [.Name y p2] [] cpos) Option.none pos.line X.env=pure false:=by rfl)
  (hbase:attributeBase (.Name x p) "update" X.env (eval (.Name x p) X.env)=eval (.Name x p) X.env:=by rfl)
  (hline:(apos.endLine==cpos.line)=true:=by rfl):
  IS X (zH fa fuel (.dupd i j)) (.Expr (.Call (.Attribute (.Name x p) "update" apos) [.Name y p2] [] cpos) pos):=
 .mk <| (JH (zb6 PySem.F.plainAttrs_dict PySem.F.slot_dict_update PySem.F.type_dict_update (zl3 hu) (vG hN hv hd hcd) (vp (vG hN2 hv2 hd2 hcd2) Zk hst) hbase (by rw[hst];rfl) hline hst zm) hs).imp fun D σ H zz3=>by
  obtain⟨W,ρ,y,hR,hy,q⟩:=zz3;simp only[zkB] at hy;unfold XE at hy;split at hy
  ·cases hy
  rename_i nij;split at hy
  case h_2=>cases hy
  rename_i x0 h;unfold Qb at hy;split at hy
  case h_2=>cases hy
  rename_i ks vs ks2 vs2 hc hc2;split at hy
  case isFalse=>cases hy
  rename_i hcond;cases hy;rw[Bool.and_eq_true,decide_eq_true_iff] at hcond;unfold jH at hc2;split at hc2
  case h_2=>cases hc2
  rename_i y0 h0;obtain⟨a,o,h1,h2,h3,h4⟩:=hR.own i _ _ h hc;obtain⟨b,o2,g1,g2,g3,g4⟩:=hR.own j _ _ h0 hc2;have ne:a≠b:=fun z=>nij (hR.inj i j _ _ _ _ a h h0 hc hc2 h1 (by rw[z];exact g1))
  cases h4 with
  |dT l rp=>
  cases g4 with
  |dT l2 rp2=>
  have le:=Yj;refine⟨_,h1,.inr (.inr (.inl ⟨rfl,.inr ⟨_,h3⟩⟩)),_,g1,a,b,_,_,rfl,rfl,ne,h3,g3,zl4 hcond.1,?_,?_⟩
  ·rw[gE l,gE l2,<-le]
   simpa using hcond.2
  ·exact q W σ _ (Qt hR h hc h1 (.refl H) h3 ⟨fun _ z=>(nomatch z),fun _ _ z=>(nomatch z)⟩ (zdG l2 rp2 l rp))
end
end L2.LW
set_option maxHeartbeats 4000000
set_option maxHeartbeats 4000000
namespace L2.LW
open PySem PySem.Spec PySem.W PySem.Calls PyProof.Rows
section
variable {X:Cx} {fn:Nat->List D->Option SV}
theorem zl6:zS X (compareOp .NotEq) (yO X.K (zg .neS)):=by
 rintro pins s σ H x y v u Q I rx ry ⟨W,ds,r,wf,hs,hf,q⟩;obtain⟨d,e,rfl,h1,h2⟩:=xK hs;replace hf:JW [d,e]=some r:=hf;unfold JW at hf;split at hf
 case h_2=>cases hf
 rename_i a b z;cases z;cases hf;cases h1.str;cases h2.str;have e:decide (V.str a=V.str b)=decide (a=b):=by simp
 exact zi9 pins s σ H _ _ v u Q I rx ry ⟨rfl,by rw[e];exact q _ H (.refl H) (.val (.bl _))⟩
end
end L2.LW
set_option maxHeartbeats 4000000
set_option maxHeartbeats 4000000
set_option maxHeartbeats 4000000
set_option maxHeartbeats 4000000
set_option maxHeartbeats 4000000
set_option maxHeartbeats 4000000
namespace L2.LW
open PySem PySem.Spec PySem.W PySem.Calls PyProof.Rows
theorem all_cons{P:Nat->Prop}{a:Nat}{l:List Nat}(h:P a)(t: ∀c∈l,P c): ∀c∈a::l,P c:=fun c hc=>by
 rcases List.mem_cons.mp hc with rfl|hc
 ·exact h
 ·exact t c hc
end L2.LW
set_option maxHeartbeats 4000000
set_option maxRecDepth 100000
set_option maxHeartbeats 4000000
namespace L2.LW
open PySem PySem.Spec PySem.W PySem.Calls PyProof.Rows
noncomputable def zdH(n:Nat)(itm:Nat->Option V)(ok:Hp->Prop):It:=
 ⟨fun i H=>i<n/\ok H,fun i H v H'=>∃p x,H p=Option.none/\v= .ref p/\H'=zF H p (.tup [.int i,x])/\itm i=some x,fun i H=>i=n/\ok H⟩
section
variable {X:Cx} {pins:List (Addr×Obj)} {σ:St} {H:Hp} {s:Shared}
theorem zl7{e it:Addr}{h':Heap}{i:Int}{tk:Tok}{k:Nat}{x:V}{u:Value}(I:Inv X pins σ H s)(fe:xU X pins H e)(fi:xU X pins H it)
  (kp: ∀b o,b≠e->b≠it->s.heap.get? b=some o->h'.get? b=some o) (ht:h'.get? s.heap.objs.size=some { cls:=.type "tuple",data:=.seq #[.int i tk,u] }) (rx:RelV x u):
  Inv X pins σ (zF H s.heap.objs.size (.tup [.int i,x])) { s with heap:=h',toks:=k }:=by
 have low: ∀b o,s.heap.get? b=some o->b≠s.heap.objs.size:=fun b o z=>Kh (Kk z)
 have lowH: ∀b o,H b=some o->b≠s.heap.objs.size:=fun b o z=>Kh (I.hok.lt z)
 have un:Un (wV X.stack) [e,it] H (zF H s.heap.objs.size (.tup [.int i,x])) s.heap h':=
  ⟨fun b o z _ _ hx=>kp b o (fun y=>hx (by simp[y])) (fun y=>hx (by simp[y])) z,fun b o z _ _ hx=>⟨o.slots,kp b o (fun y=>hx (by simp[y])) (fun y=>hx (by simp[y])) z⟩,
   fun b o z n _=>by rw[zE (low b o z)];exact n,fun b o z hx=>⟨o,kp b o (fun y=>hx (by simp[y])) (fun y=>hx (by simp[y])) z⟩,
   fun b xs z=>by rw[zE (lowH b _ z)];exact z,fun b o u z=>by rw[zE (lowH b _ z)];exact z,fun b ps z=>⟨#[],by rw[zE (lowH b _ z)];simpa using z⟩⟩
 have ok:HOk X.prog X.w (zF H s.heap.objs.size (.tup [.int i,x])) h':=fun a o z=>by
  by_cases ha:a=s.heap.objs.size
  ·subst ha
   rw[yJ] at z;cases z;exact⟨by show 2<=sizeLine;decide,[.int i tk,u],.cons ⟨tk,rfl⟩ (.cons rx .nil),_,ht,rfl,_,rfl⟩
  ·rw[zE ha] at z
   have nt: ∀b,(b=a\/H b=some (.own a))->b≠e/\b≠it:=fun b hb=>by
    have hb':H b≠Option.none:=by
     rcases hb with rfl|hb
     ·rw[z];exact fun z=>nomatch z
     ·rw[hb];exact fun z=>nomatch z
    exact⟨fun y=>hb' (by rw[y];exact fe.1),fun y=>hb' (by rw[y];exact fi.1)⟩
   exact (I.hok a o z).stay (fun b u hb q=>kp b u (nt b hb).1 (nt b hb).2 q) (fun b q=>by rw[zE (lowH b _ q)];exact q) fun b xs q=>by rw[zE (lowH b _ q)];exact q
 refine I.call' (s':={ s with heap:=h',toks:=k }) rfl un ok I.bare fun b hb=>?_
 rcases List.mem_cons.mp hb with rfl|hb
 ·exact⟨fe.2.2.2.1,fe.2.1,fe.2.2.2.2.1,fe.2.2.2.2.2⟩
 ·obtain rfl:=List.mem_singleton.mp hb
  exact⟨fi.2.2.2.1,fi.2.1,fi.2.2.2.2.1,fi.2.2.2.2.2⟩
theorem zl8{e it:Addr}{h':Heap}(I:Inv X pins σ H s)(fi:xU X pins H it)(kp: ∀b o,b≠it->s.heap.get? b=some o->h'.get? b=some o):Inv X pins σ H { s with heap:=h' }:=
 I.turned (t':=s.toks) (fun b o hb z=>kp b o hb z) fi.1 fi.2.1 fi.2.2.2.1 fi.2.2.2.2.1 fi.2.2.2.2.2
end
theorem zl9{P:Program}{w:World}{A:Around}{E:Value->Shared->Prop}{s:Shared}{elts:List Expr}{kt:Nat}{pt:Pos}{e it a:Addr}{i:Int}{item:Value}{Q:Unit->Shared->Prop}(he:IsEnumOut s.heap e it i item a)
  (hQ: ∀h',IsEnum h' e it i item->Heap.SameBut e s.heap h'->Q () { s with heap:=h' }):wpAny (model P w) A (letOwnedTupleGo (.Tuple elts kt pt) (.ref e) (.ref a)) Q E s:=wpAny_letOwnedTupleGo_enum he hQ
end L2.LW
set_option maxHeartbeats 4000000
set_option maxHeartbeats 4000000
namespace L2.LW
open PySem PySem.Spec PySem.W PySem.Calls PyProof.Rows
theorem gP: ∀{k n:Nat} {l:List D} {d:D},(xE n l)[k]? =some d->∃x,l[k]? =some x/\d= .tup [.int ((n+k:Nat):Int),x]
 |_,_,[],_,h=>by simp[xE] at h
 |0,n,x::l,d,h=>by
  simp only[xE,List.getElem?_cons_zero,Option.some.injEq] at h;exact⟨x,rfl,h.symm⟩
 |k+1,n,x::l,d,h=>by
  simp only[xE,List.getElem?_cons_succ] at h;obtain⟨y,h1,h2⟩:=gP h;refine⟨y,by simpa using h1,?_⟩;rw[h2]
  congr 3
  omega
theorem gQ: ∀(n:Nat) (l:List D),(xE n l).length=l.length
 |_,[]=>rfl
 |n,_::l=>by simp[xE,gQ (n+1) l]
noncomputable def YE(K:Ka)(J:It)(W:Addr->Prop)(H:Hp)(ds:List D):Prop:=
 ∀W' H',Ext W H W' H'->∀k:Nat,(k=ds.length->J.stop k H')/\∀d,ds[k]? =some d->J.go k H'/\∀x H'',J.yld k H' x H''->Same H' H''/\Rep K W' H'' d x
section
variable {X:Cx} {fn:Nat->List D->Option SV} {fa:Nat->List D->Option Ans} {fuel:Nat} {e:Expr} {ce:E} {pos p:Pos} {sts:List Stmt} {ss:Ss} {elts:List Expr} {kt:Nat} {pt pos':Pos}
theorem zma{K:Ka}{W:Addr->Prop}{H:Hp}{xs:List V}{l:List D}{itm:Nat->Option V}{ok:Hp->Prop}{n:Nat}(hn:n=l.length)(hi: ∀i:Nat,itm i=xs[i]?)(hok: ∀W' H',Ext W H W' H'->ok H')(hr: ∀W' H',Ext W H W' H'->Reps K W' H' l xs):YE K (zdH n itm ok) W H (xE 0 l):=by
 intro W' H' x k;rw[gQ];refine⟨fun z=>⟨by omega,hok W' H' x⟩,fun d hd=>?_⟩;obtain⟨y,h1,rfl⟩:=gP hd;have lt:k<l.length:=(List.getElem?_eq_some_iff.mp h1).1;refine⟨⟨by omega,hok W' H' x⟩,?_⟩;rintro v H'' ⟨q,w,hq,rfl,rfl,hw⟩;have sm:Same H' (zF H' q (.tup [.int k,w])):=xh hq _;refine⟨sm,?_⟩;obtain⟨w',g1,g2⟩:=(hr W' H' x).get h1;rw[hi,g1] at hw;cases hw;rw[Nat.zero_add];exact .tup yJ (.cons (.int _) (.cons (g2.ext (.same sm)) .nil))
end
end L2.LW
set_option maxHeartbeats 4000000
set_option maxHeartbeats 4000000
namespace L2.LW
open PySem PySem.Spec PySem.W PySem.Calls PyProof.Rows
noncomputable def zmb(K:Ka)(D:Addr):Bool:=findIn K (.ref D) "__getattribute__"==some (some (.builtin "BaseException.__getattribute__"))&&findIn K (.ref D) "__getattr__"==some Option.none&&(clsIn K D).isSome&&findIn K (.ref D) "__class__"==some (some (.builtin "object.__class__"))&&specialIn K (.builtin "object.__class__") "__get__"==some (some (.builtin "getset_descriptor.__get__"))&&
 takesIn K (.builtin "object.__class__")==some true&&mroIn K D (.type "object")==some true&&mroIn K D (.type "BaseException")==some true
noncomputable def apart(K:Ka)(CL:Nat->Addr)(cs:List Nat):Bool:=cs.all fun c=>zmb K (CL c)&&cs.all fun d=>c==d||kin_not K (CL c) (CL d)
end L2.LW
set_option maxHeartbeats 4000000
namespace L2.LW
open PySem PySem.Spec PySem.W PySem.Calls PyProof.Rows
theorem zmc(a:Nat): ∀b:Nat,(a ^^^ b)+(a&&& b)=a|||b:=by
 induction a using Nat.strongRecOn with
 |ind a ih=>
  intro b;by_cases h:a=0
  ·subst h;simp
  ·have h1:=ih (a/2) (by omega) (b/2)
   have d1:=Nat.xor_div_two (a:=a) (b:=b);have d2:=Nat.and_div_two (a:=a) (b:=b);have d3:=Nat.or_div_two (a:=a) (b:=b);have m1:=Nat.xor_mod_two_eq_one (a:=a) (b:=b);have m2:(a&&& b)%2=1↔a%2=1/\b%2=1:=Nat.and_mod_two_eq_one;have m3:(a|||b)%2=1↔a%2=1\/b%2=1:=Nat.or_mod_two_eq_one;rw[<-d1,<-d2,<-d3] at h1;omega
theorem zdI{a b:Int}(ha:0<=a)(hb:0<=b):Builtin.bitAnd a b=((a.toNat&&& b.toNat:Nat):Int):=by
 unfold Builtin.bitAnd;rw[decide_eq_true ha,decide_eq_true hb]
theorem zdJ{a b:Int}(ha:0<=a)(hb:0<=b):Builtin.bitOr a b=((a.toNat|||b.toNat:Nat):Int):=by
 unfold Builtin.bitOr Builtin.bitAnd;have e1: ¬(0<=Builtin.bitNot a):=by unfold Builtin.bitNot;omega
 have e2: ¬(0<=Builtin.bitNot b):=by unfold Builtin.bitNot;omega
 rw[KH e1,KH e2];have n1:Builtin.bitNot (Builtin.bitNot a)=a:=by unfold Builtin.bitNot;omega
 have n2:Builtin.bitNot (Builtin.bitNot b)=b:=by unfold Builtin.bitNot;omega
 show Builtin.bitNot (Builtin.bitNot (((Builtin.bitNot (Builtin.bitNot a)).toNat|||(Builtin.bitNot (Builtin.bitNot b)).toNat:Nat):Int))=_;rw[n1,n2];unfold Builtin.bitNot;omega
theorem zmd{a b:Int}(ha:0<=a)(hb:0<=b):Builtin.bitXor a b=((a.toNat ^^^ b.toNat:Nat):Int):=by
 unfold Builtin.bitXor;rw[zdJ ha hb,zdI ha hb,<-zmc a.toNat b.toNat];omega
section
variable {X:Cx}
theorem Ve:zS X (binaryOp .BitAnd) (yO X.K (zg .band)):=by
 rintro pins s σ H x y v u Q I rx ry ⟨W,ds,r,wf,hs,hf,q⟩;obtain⟨d,e,rfl,h1,h2⟩:=xK hs;replace hf:Xx [d,e]=some r:=hf;unfold Xx at hf;split at hf
 case h_2=>cases hf
 rename_i a b z;cases z;split at hf
 case isFalse=>cases hf
 rename_i hc;cases hf;cases h1.int;cases h2.int;exact ziY pins s σ H _ _ v u Q I rx ry ⟨_,_,rfl,rfl,by show Q (.int (Builtin.bitAnd _ _)) H;rw[zdI hc.1 hc.2];exact q _ H (.refl H) (.val (.int _))⟩
theorem gR:zS X (binaryOp .BitOr) (yO X.K (zg .bor)):=by
 rintro pins s σ H x y v u Q I rx ry ⟨W,ds,r,wf,hs,hf,q⟩;obtain⟨d,e,rfl,h1,h2⟩:=xK hs;replace hf:Xy [d,e]=some r:=hf;unfold Xy at hf;split at hf
 case h_2=>cases hf
 rename_i a b z;cases z;split at hf
 case isFalse=>cases hf
 rename_i hc;cases hf;cases h1.int;cases h2.int;exact ziZ pins s σ H _ _ v u Q I rx ry ⟨_,_,rfl,rfl,by show Q (.int (Builtin.bitOr _ _)) H;rw[zdJ hc.1 hc.2];exact q _ H (.refl H) (.val (.int _))⟩
theorem zme:zS X (binaryOp .BitXor) (yO X.K (zg .bxor)):=by
 rintro pins s σ H x y v u Q I rx ry ⟨W,ds,r,wf,hs,hf,q⟩;obtain⟨d,e,rfl,h1,h2⟩:=xK hs;replace hf:Xz [d,e]=some r:=hf;unfold Xz at hf;split at hf
 case h_2=>cases hf
 rename_i a b z;cases z;split at hf
 case isFalse=>cases hf
 rename_i hc;cases hf;cases h1.int;cases h2.int;exact zi0 pins s σ H _ _ v u Q I rx ry ⟨_,_,rfl,rfl,by show Q (.int (Builtin.bitXor _ _)) H;rw[zmd hc.1 hc.2];exact q _ H (.refl H) (.val (.int _))⟩
theorem jR:zS X (binaryOp .LShift) (yO X.K (zg .shl)):=by
 rintro pins s σ H x y v u Q I rx ry ⟨W,ds,r,wf,hs,hf,q⟩;obtain⟨d,e,rfl,h1,h2⟩:=xK hs;replace hf:Xw [d,e]=some r:=hf;unfold Xw at hf;split at hf
 case h_2=>cases hf
 rename_i a b z;cases z;split at hf
 case isFalse=>cases hf
 rename_i hc;cases hf;cases h1.int;cases h2.int;exact ziX pins s σ H _ _ v u Q I rx ry ⟨_,_,rfl,rfl,⟨by omega,by omega,by omega⟩,q _ H (.refl H) (.val (.int _))⟩
theorem zmf:Xj X "int.bit_length" (fun x xs H Q=>∃i,x= .int i/\xs=[]/\Q (.int (Builtin.Int.intBits i:Nat)) H):=by
 rintro pins s σ H x xs v us Q I rx rs ⟨i,rfl,rfl,q⟩;obtain⟨t,rfl⟩:=rx;cases rs;refine wpAny_call_entry PySem.F.slot_int_bit_length (typeIs_int s i t) PySem.F.entry_int_bit_length ?_ (PySem.F.args_int_bit_length_1 _);obtain⟨hp,g,d,tk,os⟩:=s
 wp_walk
 exact⟨_,rfl,.int _,H,I.tok _,⟨_,rfl⟩,q⟩
end
section
variable {X:Cx} {fn:Nat->List D->Option SV} {o e f a:Expr} {co ce cf ca:E} {apos cpos:Pos}
theorem zmg(ha:IE X fn a ca)(hbase:attributeBase a "bit_length" X.env (eval a X.env)=eval a X.env:=by rfl)(hline:(apos.endLine==cpos.line)=true:=by rfl):
  IE X fn (.Call (.Attribute a "bit_length" apos) [] [] cpos) (.prim .blen (.cons ca .nil)):=
 .mk <| (zb5 PySem.F.plainAttrs_int PySem.F.slot_int_bit_length PySem.F.type_int_bit_length zmf ha.v hbase hline).imp fun σ H Q zz3=>by
  obtain⟨W,ρ,r,hR,he,q⟩:=zz3;simp only[wZ,xY,xZ,jo1,jo2] at he;obtain⟨rs,⟨r1,e1,rs',e3,rfl⟩,e4⟩:=he;cases e3;refine⟨W,ρ,r1,hR,e1,fun v1 H1 s1 f1=>?_⟩;have hs:=f1.sees;have e5:XA [zI r1]=some r:=e4;unfold XA at e5;split at e5
  case h_2=>cases e5
  rename_i i z;have z1:zI r1= .int i:=by simpa using z
  rw[z1] at hs;cases hs.int;split at e5
  case isFalse=>cases e5
  rename_i h0;cases e5;refine⟨rfl,i,rfl,rfl,?_⟩
  have e6:Builtin.Int.intBits i=vt i.toNat:=by
   unfold Builtin.Int.intBits vt;have n:i.natAbs=i.toNat:=by omega
   rw[n];by_cases c:i=0
   ·subst c;rfl
   ·rw[if_neg (by simpa using c),if_neg (by omega)]
  rw[e6];exact q _ H1 s1 (.val (.int _))
theorem zmh{H H':Hp}{a:Addr}{u:HO}(s:Same H H')(h:Rd H a u):Rd H' a u:=by
 rcases h with h|⟨o,h⟩
 ·exact .inl (s _ _ h)
 ·exact .inr ⟨o,s _ _ h⟩
theorem zdK(hu:X.A.units+64<cLine)(ha:IE X fn o co)(hb:IE X fn e ce)(hc:IE X fn f cf)(m:M2 X o "get" apos e f cpos):
  IE X fn (.Call (.Attribute o "get" apos) [e,f] [] cpos) (.prim .dget (.cons co (.cons ce (.cons cf .nil)))):=
 .mk <| (zj9 (by omega) ha.v hb.v hc.v m).imp fun σ H Q zz3=>by
  obtain⟨W,ρ,r,hR,he,q⟩:=zz3;simp only[wZ,xY,xZ,jo1,jo2] at he;obtain⟨rs,⟨r1,e1,rs1,⟨r2,e2,rs2,⟨r3,e3,rs3,e4,rfl⟩,rfl⟩,rfl⟩,e5⟩:=he;cases e4;have e6:XB [zI r1,zI r2,zI r3]=some r:=e5;unfold XB at e6;split at e6
  case h_2=>cases e6
  rename_i ks vs k i z;have z1:zI r1= .dct false ks vs:=by simp at z;exact z.1
  have z2:zI r2= .int k:=by simp at z;exact z.2.1
  have z3:zI r3= .int i:=by simp at z;exact z.2.2
  refine⟨W,ρ,r1,hR,e1,fun v1 H1 s1 f1=>?_⟩;have g1:=f1.sees;rw[z1] at g1;obtain⟨b,ns,ys,rfl,rfl,hH,hl,rp⟩:=g1.dK;refine⟨b,rfl,.inl ⟨_,hH⟩,W,ρ,r2,hR.same s1,e2,fun v2 H2 s2 f2=>⟨W,ρ,r3,hR.same (s1.trans s2),e3,fun v3 H3 s3 f3=>?_⟩⟩;have g2:=f2.sees;rw[z2] at g2;cases g2.int;have g3:=f3.sees;rw[z3] at g3;cases g3.int;refine⟨xn (yA ns ys) (.inl k),.inl ⟨_,.inl k,zmh (s2.trans s3) hH,rfl,rfl⟩,?_⟩
  have go: ∀j:Int,some (SV.val (.int j))=some r->Q (.int j) H3:=fun j z=>by
   cases z;exact q _ H3 ((s1.trans s2).trans s3) (.val (.int _))
  split at e6
  ·rename_i v hv
   obtain⟨y,ey,ry⟩:=zcC hl rp hv;cases ry;rw[ey];exact go v e6
  ·rename_i hv
   have:xn (yA ns ys) (.inl k)=none:=by
    rw[Qi hl];unfold dget at hv
    cases hk:yR (ns.map D.int) (.int k) with
    |none=>rfl
    |some j=>
     rw[hk] at hv;have hv:vs[j]? =none:=hv;show ys[j]? =none;rw[List.getElem?_eq_none_iff] at hv⊢;rw[<-rp.length];exact hv
   rw[this];exact go i e6
  ·cases e6
end
end L2.LW
set_option maxHeartbeats 4000000
namespace L2
open PySem PySem.Spec PyProof.Rows
noncomputable def Vf(K:Ka)(a:Addr)(xs:List V):It:=
 ⟨fun i H=>SqL K H a xs/\i<xs.length,fun i H x H'=>H'=H/\xs[xs.length-1-i]? =some x,fun i H=>SqL K H a xs/\i=xs.length⟩
theorem zmi{P:Program}{w:World}{K:Ka}{tg:Expr}(a it:Addr)(xs:List V):Turn P w K tg (Vf K a xs) [it] it (fun i h=>h.IsRevIter it a ((xs.length:Int)-1-(i:Int))) where
 mem:=by simp
 obj:=fun i h st b hb=>by
  have e:b=it:=by simpa using hb
  subst e;obtain⟨o,e,c,d⟩:=st;exact⟨o,e,fun v z=>by rw[d] at z;cases z⟩
 keep:=fun i h h' st k=>st.at fun o e=>k it (by simp) o e
 item:=by
  intro X hP hw hK hc i pins s σ H E I hf st hg;subst hP hw hK;obtain⟨hq,hi⟩:=hg;obtain⟨its,rv,p,hz⟩:=I.list hq;have hx:xs[xs.length-1-i]? =some (xs[xs.length-1-i]'(by omega)):=List.getElem?_eq_getElem _;obtain⟨u,hu,ru⟩:=rv.get hx;obtain⟨f0,f1,f2,f3,f4,f5⟩:=hf it (by simp);have e1:(xs.length:Int)-1-(i:Int)=((xs.length-1-i:Nat):Int):=by omega
  rw[e1] at st;refine wpAny_pyNext_rev_item st p.isList (x:=u) (by simpa using hu) fun h' st' sb=>?_
  have I1:Inv X pins σ H { s with heap:=h' }:=I.turned (t':=s.toks) (fun b o hb e=>(sb.2 b hb).trans e) f0 f1 f3 f4 f5;have e2:((xs.length-1-i:Nat):Int)-1=(xs.length:Int)-1-((i+1:Nat):Int):=by omega
  rw[e2] at st';obtain⟨o,e,c,d⟩:=id st';exact⟨u,rfl,Xd (s:={ s with heap:=h' }) e c d (by decide) ⟨_,H,I1,ru,⟨rfl,hx⟩,st',fun b hb=>(hf b hb).1⟩⟩
 done:=by
  intro X hP hw hK hc i pins s σ H E I hf st hg;subst hP hw hK;obtain⟨hq,hi⟩:=hg;obtain⟨f0,f1,f2,f3,f4,f5⟩:=hf it (by simp);have e1:(xs.length:Int)-1-(i:Int)= -1:=by omega
  rw[e1] at st;exact wpAny_pyNext_rev_end (I.ok.hd hc) st fun h' eb=>⟨rfl,I.turned (t':=s.toks) (fun b o hb e=>eb b o hb e) f0 f1 f3 f4 f5⟩
 self:=fun _ _ _ _ _ st h=>wpAny_pyIter_revIter st h
section
variable {X:Cx} {tg:Expr}
noncomputable def zmj(K:Ka)(ta:TA):TI:=fun σ H R=>ta σ H fun vs H1=>∃a xs,vs=[.ref a]/\SqL K H1 a xs/\R (Vf K a xs) H1
theorem zmk{e:Expr}{ta:TA}{p pos:Pos}(hg:Gl X "reversed")(hm:X.mg "reversed"=none)(ha:PA X [e] ta)(hs:starEach [e] X.env=[(false,eval e X.env)]:=by rfl):PI X tg (.Call (.Name "reversed" p) [e] [] pos) (zmj X.K ta):=by
 intro pins s σ H R I h;refine Call_ (Zh I hg hm boot_reversed (PyProof.Rows.callWith_type1 (zt (ha pos pins s σ H _ I h) fun us s1 ⟨vs,H1,I1,r1,q1⟩=>?_) hs rfl));obtain⟨a,xs,e,hq,q⟩:=q1;subst e
 cases r1 with
 |cons r rr=>
  cases rr;cases r;obtain⟨its,rv,pl,hz⟩:=I1.list hq;refine call_reversed_list pl.isList ?_;have hl:=rv.length
  have st:(s1.heap.push (revObj a ((its.toArray.size:Int)-1))).IsRevIter s1.heap.objs.size a ((xs.length:Int)-1-((0:Nat):Int)):=⟨_,Heap.get?_push_size _ rfl,rfl,by
   show Data.fields #[.ref a,rawInt ((its.toArray.size:Int)-1)]=_;rw[List.size_toArray,<-hl];simp⟩
  refine wpAny_pyIter_revIter (s:={ s1 with heap:=_ }) st ?_;refine⟨s1.heap.objs.size,[s1.heap.objs.size],_,_,H1,rfl,I1.kept (t':=s1.toks) fun b o e=>Kl _ e,zmi a _ xs,st,fun b hb=>?_,q⟩;have e:b=s1.heap.objs.size:=by simpa using hb
  subst e;exact I1.fpOk (Nat.le_refl _) (I1.hok.fresh (Nat.le_refl _))
end
end L2
namespace L2.LW
open PySem PySem.Spec PySem.W PySem.Calls PyProof.Rows
theorem zdL{K:Ka}{a:Addr}{xs:List V}{ds:List D}{H':Hp}{W':Addr->Prop}(hq:SqL K H' a xs)(rp:Reps K W' H' ds xs)(k:Nat):
  (k=ds.reverse.length->(Vf K a xs).stop k H')/\∀d,ds.reverse[k]? =some d->(Vf K a xs).go k H'/\∀x H'',(Vf K a xs).yld k H' x H''->H''=H'/\Rep K W' H' d x:=by
 have ln:=rp.length;rw[List.length_reverse];refine⟨fun e=>⟨hq,by omega⟩,fun d e=>?_⟩;obtain⟨hk,e2⟩:=List.getElem?_eq_some_iff.mp e;rw[List.length_reverse] at hk;rw[List.getElem_reverse] at e2
 have e3:ds[xs.length-1-k]? =some d:=by
  rw[<-ln,<-e2];exact List.getElem?_eq_getElem _
 obtain⟨v,e1,rv⟩:=rp.get e3;refine⟨⟨hq,by omega⟩,fun x H'' z=>?_⟩;obtain⟨z1,z2⟩:=z;rw[e1] at z2;cases z2;exact⟨z1,rv⟩
section
variable {X:Cx} {fn:Nat->List D->Option SV} {a tg:Expr} {ca:E} {pos p:Pos}
theorem zml(hg:Gl X "reversed")(hm:X.mg "reversed"=Option.none)(ha:IA X fn [a] (.cons ca .nil))(hs:starEach [a] X.env=(false,eval a X.env)::starEach [] X.env):Src X fn tg (.Call (.Name "reversed" p) [a] [] pos) false (.cons ca (.cons .non .nil)):=
 .mk <| (zmk hg hm ha.h hs).imp fun σ H R0 zz3=>by
  obtain⟨W,ρ,rs,ds,hR,h1,h2,q⟩:=zz3;simp only[xY,xZ,jo1,jo2] at h1;obtain⟨r,e1,rs',⟨r2,e2,rs2,e3,rfl⟩,rfl⟩:=h1;cases e3;have e2:some (SV.val D.non)=some r2:=e2;cases e2;refine⟨W,ρ,[r],hR,by simp only[xY,xZ,e1,Option.bind_some,Option.map_some],fun vs H1 s1 f=>?_⟩
  obtain⟨v,rfl,g⟩: ∃v,vs=[v]/\Frz X.K W H1 r v:=by
   cases f with
   |cons f t=>cases t;exact⟨_,rfl,f⟩
  clear f
  cases g with
  |val g=>
   cases g with
   |lst h rp=>
    simp only[yw] at h2;cases h2;exact⟨_,_,rfl,Ym h (Ext.refl W H1),q _ H1 s1 (fun W' H' s w k=>zdL (Ym h (.sameW s w)) (rp.ext (.sameW s w)) k) fun _ W' H' x k=>zdL (Ym h x) (rp.ext x) k⟩
   |_=>simp[yw] at h2
  |_=>simp[yw] at h2
end
end L2.LW
set_option maxHeartbeats 4000000
namespace L2
open PySem PySem.Spec PyProof.Rows
noncomputable def Vg(a:Addr)(o:Obj)(kvs:List (zy×V)):It:=
 ⟨fun i H=>H a=some (.frz o (.dK kvs))/\i<kvs.length,fun i H x H'=>H'=H/\∃kv,kvs[i]? =some kv/\x=kV kv.1,fun i H=>H a=some (.frz o (.dK kvs))/\i=kvs.length⟩
theorem gS{X:Cx}{pins:List (Addr×Obj)}{σ:St}{H:Hp}{s:Shared}{a:Addr}{o:Obj}{kvs:List (zy×V)}{es:Array DictEntry}{ep:Nat}(I:Inv X pins σ H s)(e:H a=some (.frz o (.dK kvs)))(hd:o.data= .dict es ep):
  ∃vs,KV kvs vs/\s.heap.DictAt (zT X.prog X.w) a vs ep/\(a==sysModules)=false:=by
 obtain⟨h1,h2,h3,vs,h4,o',es',ep',g1,g2,g3,g4⟩:=(show ObjOk X.prog X.w H s.heap a (.frz o (.dK kvs)) from I.hok a _ e);rw[h1] at g1;cases g1;rw[hd] at g3;cases g3;exact⟨vs,h4,⟨o,es,h1,g2,hd,g4⟩,h3⟩
theorem zdM: ∀{kvs:List (zy×V)} {vs:List (zy×Value)},Paired (fun (p:zy×V) (q:zy×Value)=>p.1=q.1/\RelV p.2 q.2) kvs vs->∀{i:Nat} {kv:zy×V},kvs[i]? =some kv->∃x,vs[i]? =some (kv.1,x)
 |_,_,.nil,i,kv,e=>by simp at e
 |_,_,.cons (b:=b) h t,0,kv,e=>by
  simp at e;subst e;exact⟨b.2,by rw[h.1];rfl⟩
 |_,_,.cons h t,i+1,kv,e=>zdM t (by simpa using e)
theorem zmm{P:Program}{w:World}{K:Ka}{tg:Expr}(a it:Addr)(o:Obj)(kvs:List (zy×V)){es:Array DictEntry}{ep:Nat}(hd:o.data= .dict es ep):Turn P w K tg (Vg a o kvs) [it] it (fun i h=>h.IsKeyIter it a i kvs.length ep) where
 mem:=by simp
 obj:=fun i h st b hb=>by
  have e:b=it:=by simpa using hb
  subst e;obtain⟨o,e,c,d⟩:=st;exact⟨o,e,fun v z=>by rw[d] at z;cases z⟩
 keep:=fun i h h' st k=>st.at fun o e=>k it (by simp) o e
 item:=by
  intro X hP hw hK hc i pins s σ H E I hf st hg;subst hP hw hK;obtain⟨hq,hi⟩:=hg;obtain⟨vs,kv,da,_⟩:=gS I hq hd;have hx:kvs[i]? =some kvs[i]:=List.getElem?_eq_getElem hi;obtain⟨x,hx2⟩:=zdM kv hx;obtain⟨f0,f1,f2,f3,f4,f5⟩:=hf it (by simp);have hl:kvs.length=vs.length:=kv.length;rw[hl] at st;refine wpAny_pyNext_dict_item st da hx2 fun key h' hkey st' sb=>?_
  rw[<-hl] at st';have I1:Inv X pins σ H { s with heap:=h' }:=I.turned (t':=s.toks) (fun b o hb e=>(sb.2 b hb).trans e) f0 f1 f3 f4 f5;obtain⟨o,e,c,d⟩:=id st';refine⟨key,rfl,Xd (s:={ s with heap:=h' }) e c d (by decide) ⟨kV kvs[i].1,H,I1,?_,⟨rfl,_,hx,rfl⟩,st',fun b hb=>(hf b hb).1⟩⟩;rcases vF hkey with ⟨j,t,e1,e2⟩|⟨j,t,e1,e2⟩
  ·rw[e1,e2];exact⟨t,rfl⟩
  ·rw[e1,e2];exact⟨t,rfl⟩
 done:=by
  intro X hP hw hK hc i pins s σ H E I hf st hg;subst hP hw hK;obtain⟨hq,hi⟩:=hg;obtain⟨vs,kv,da,_⟩:=gS I hq hd;have hl:kvs.length=vs.length:=kv.length;obtain⟨f0,f1,f2,f3,f4,f5⟩:=hf it (by simp);rw[hl] at st;exact wpAny_pyNext_dict_end (I.ok.hd hc) st da (by rw[hi,hl];simp) fun h' eb=>⟨rfl,I.turned (t':=s.toks) (fun b o hb e=>eb b o hb e) f0 f1 f3 f4 f5⟩
 self:=fun _ _ _ _ _ st h=>wpAny_pyIter_keyiter st h
section
variable {X:Cx} {tg:Expr}
noncomputable def zmn(tl:TE):TI:=fun σ H R=>tl σ H fun x H1=>∃a o kvs es ep,x= .ref a/\H1 a=some (.frz o (.dK kvs))/\o.data= .dict es ep/\R (Vg a o kvs) H1
theorem zmo{l:Expr}{tl:TE}(hl:PE X l tl):PI X tg l (zmn tl):=by
 intro pins s σ H R I h;refine zt (hl pins s σ H _ I h) fun v s1 ⟨x,H1,I1,r1,q1⟩=>?_
 obtain⟨a,o,kvs,es,ep,e,hq,hd,q⟩:=q1;subst e;cases r1;obtain⟨vs,kv,da,lo⟩:=gS I1 hq hd;have hl:kvs.length=vs.length:=kv.length;refine wpAny_pyIter_dict lo da ?_;refine⟨s1.heap.objs.size,[s1.heap.objs.size],_,_,H1,rfl,I1.kept (t':=s1.toks) fun b o e=>Kl _ e,zmm a _ o kvs hd,⟨_,Heap.get?_push_size _ rfl,rfl,by rw[hl];rfl⟩,fun b hb=>?_,q⟩;have e:b=s1.heap.objs.size:=by simpa using hb
 subst e;exact I1.fpOk (Nat.le_refl _) (I1.hok.fresh (Nat.le_refl _))
end
section
variable {X:Cx} {pins:List (Addr×Obj)} {σ:St} {H:Hp} {s:Shared} {a:Addr} {kvs:List (zy×V)}
theorem Inv.still(I:Inv X pins σ H s)(e:H a=some (.dK kvs)): ∃o es ep,o.data= .dict es ep/\Inv X pins σ (zF H a (.frz o (.dK kvs))) s:=by
 have ok:ObjOk X.prog X.w H s.heap a (.dK kvs):=I.hok a _ e;obtain⟨h1,h2,vs,h3,o,es,ep,g1,g2,g3,g4⟩:=id ok;exact⟨o,es,ep,g3,I.write (x:=a) (e:=a) (o:=.frz o (.dK kvs)) (h':=s.heap) (t':=s.toks) (by rw[e];exact True.intro) (.inl rfl) (fun b u _ q=>q) ⟨o,g1⟩ ⟨g1,h1,h2,vs,h3,o,es,ep,g1,g2,g3,g4⟩⟩
theorem Inv.loose{o:Obj}(I:Inv X pins σ H s)(e:H a=some (.frz o (.dK kvs)))(n: ∀o u,X.H₀ a≠some (.frz o u)):Inv X pins σ (zF H a (.dK kvs)) s:=by
 have ne: ∀b,H b=none->b≠a:=fun b hb z=>by rw[z,e] at hb;cases hb
 refine { I with base:=⟨I.base.keep,I.base.slot,fun b ob q n' hx=>?_,I.base.there,fun b xs q=>?_,fun b ob u q=>?_,fun b ps q=>?_⟩,free:=?_,freeC:=?_,pin:=?_,hok:=?_ }
 ·have:=I.base.free b ob q n' hx
  rw[zE (ne b this)];exact this
 ·have:=I.base.tups b xs q
  rw[zE (fun z=>by rw[z,e] at this;cases this)];exact this
 ·have:=I.base.frzs b ob u q
  rw[zE (fun z=>n ob u (by rw[<-z];exact q))];exact this
 ·obtain⟨m,z⟩:=I.base.tbls b ps q
  exact⟨m,by rw[zE (fun y=>by rw[y,e] at z;cases z)];exact z⟩
 ·rw[zE (ne _ I.free)];exact I.free
 ·intro x c h
  have:=I.freeC x c h;rw[zE (ne _ this)];exact this
 ·intro p hp
  obtain⟨h1,h2,h3⟩:=I.pin p hp;exact⟨h1,by rw[zE (ne _ h2)];exact h2,h3⟩
 ·intro b u q
  have ho: ∀c y,H c=some (.own y)->zF H a (.dK kvs) c=some (.own y):=fun c y hc=>by
   rw[zE (fun z=>by rw[z,e] at hc;cases hc)];exact hc
  have ht: ∀c xs,H c=some (.tup xs)->zF H a (.dK kvs) c=some (.tup xs):=fun c xs hc=>by
   rw[zE (fun z=>by rw[z,e] at hc;cases hc)];exact hc
  by_cases hb:b=a
  ·subst hb
   rw[yJ] at q;cases q;obtain⟨_,ok⟩:=(show ObjOk X.prog X.w H s.heap b (.frz o (.dK kvs)) from I.hok b _ e);exact ok.stay (fun _ _ _ q=>q) (fun c hc=>ho c _ hc) fun c xs hc=>ht c xs hc
  ·rw[zE hb] at q
   exact (I.hok b u q).stay (fun _ _ _ q=>q) (fun c hc=>ho c _ hc) fun c xs hc=>ht c xs hc
end
end L2
namespace L2.LW
open PySem PySem.Spec PySem.W PySem.Calls PyProof.Rows
section
variable {K:Ka} {W:Addr->Prop} {H H':Hp}
structure Swp (H H':Hp):Prop where
 d: ∀b x,Rd H b (.dK x)->Rd H' b (.dK x)
 o: ∀b u,(∀x,u≠ .dK x)->(∀o x,u≠ .frz o (.dK x))->H b=some u->H' b=some u
theorem zmp(w:Swp H H'){a:Addr}{xs:List V}(h:(¬W a/\Rd H a (.lst xs))\/XG K a xs):(¬W a/\Rd H' a (.lst xs))\/XG K a xs:=by
 rcases h with ⟨n,h|⟨o,h⟩⟩|h
 ·exact .inl ⟨n,.inl (w.o _ _ (fun _ z=>nomatch z) (fun _ _ z=>nomatch z) h)⟩
 ·exact .inl ⟨n,.inr ⟨o,w.o _ _ (fun _ z=>nomatch z) (fun _ _ z=>nomatch z) h⟩⟩
 ·exact .inr h
theorem zmq(w:Swp H H'){b:Addr}{kvs:List (List zy×V)}(h:H b=some (.dT kvs)):H' b=some (.dT kvs):=w.o b _ (fun _ z=>nomatch z) (fun _ _ z=>nomatch z) h
theorem zmr(w:Swp H H'){b:Addr}{xs:List V}(h:H b=some (.tup xs)):H' b=some (.tup xs):=w.o b _ (fun _ z=>nomatch z) (fun _ _ z=>nomatch z) h
mutual
theorem Rep.swap(w:Swp H H'): ∀{d:D} {v:V},Rep K W H d v->Rep K W H' d v
 |_,_,.int i=>.int i
 |_,_,.bl b=>.bl b
 |_,_,.non=>.non
 |_,_,.str s=>.str s
 |_,_,.dK n h l r=>.dK n (w.d _ _ h) l (Reps.swap w r)
 |_,_,.dT n h l r=>.dT n (zmq w h) l (Reps.swap w r)
 |_,_,.tup h r=>.tup (zmr w h) (Reps.swap w r)
 |_,_,.lst h r=>.lst (zmp w h) (Reps.swap w r)
theorem Reps.swap(w:Swp H H'): ∀{ds:List D} {vs:List V},Reps K W H ds vs->Reps K W H' ds vs
 |_,_,.nil=>.nil
 |_,_,.cons h t=>.cons (Rep.swap w h) (Reps.swap w t)
end
theorem ORep.swap(w:Swp H H'){d:D}{o:HO}(h:ORep K W H d o):ORep K W H' d o:=by
 cases h with
 |lst r=>exact .lst (r.swap w)
 |dK l r=>exact .dK l (r.swap w)
 |dT l r=>exact .dT l (r.swap w)
theorem R.swap{ρ:LW.Env}{σ:St}(r:R K W ρ σ H)(w:Swp H H')(ow: ∀a o,W a->H a=some o->H' a=some o):R K W ρ σ H':=by
 refine⟨fun i d h=>?_,r.nol,fun i x d h1 h2=>?_,r.inj,fun a wa=>?_,r.len⟩
 ·obtain⟨v,e,q⟩:=r.val i d h
  exact⟨v,e,q.swap w⟩
 ·obtain⟨a,o,e1,e2,e3,e4⟩:=r.own i x d h1 h2
  exact⟨a,o,e1,e2,ow a o e2 e3,e4.swap w⟩
 ·cases e:H a with
  |none=>exact KC e (r.wf a wa)
  |some o=>rw[ow a o wa e];exact fun z=>nomatch z
theorem zms{a:Addr}{o:Obj}{kvs:List (zy×V)}(e:H a=some (.dK kvs)):Swp H (zF H a (.frz o (.dK kvs))):=by
 refine⟨fun b x h=>?_,fun b u n1 n2 h=>?_⟩
 ·by_cases z:b=a
  ·subst z
   rcases h with h|⟨o',h⟩
   ·rw[e] at h;cases h;exact .inr ⟨o,yJ⟩
   ·rw[e] at h;cases h
  ·rcases h with h|⟨o',h⟩
   ·exact .inl (by rw[zE z];exact h)
   ·exact .inr ⟨o',by rw[zE z];exact h⟩
 ·rw[zE (fun z=>by rw[z,e] at h;cases h;exact n1 _ rfl)];exact h
theorem zmt{a:Addr}{o:Obj}{kvs:List (zy×V)}(e:H a=some (.frz o (.dK kvs))):Swp H (zF H a (.dK kvs)):=by
 refine⟨fun b x h=>?_,fun b u n1 n2 h=>?_⟩
 ·by_cases z:b=a
  ·subst z
   rcases h with h|⟨o',h⟩
   ·rw[e] at h;cases h
   ·rw[e] at h;cases h;exact .inl yJ
  ·rcases h with h|⟨o',h⟩
   ·exact .inl (by rw[zE z];exact h)
   ·exact .inr ⟨o',by rw[zE z];exact h⟩
 ·rw[zE (fun z=>by rw[z,e] at h;cases h;exact n2 _ _ rfl)];exact h
end
theorem zmu{K:Ka}{a:Addr}{o:Obj}{ns:List Int}{ys:List V}(hl:ns.length=ys.length){H':Hp}{W':Addr->Prop}(hq:H' a=some (.frz o (.dK (yA ns ys))))(k:Nat):
  (k=(ns.map D.int).length->(Vg a o (yA ns ys)).stop k H')/\∀d,(ns.map D.int)[k]? =some d->(Vg a o (yA ns ys)).go k H'/\∀x H'',(Vg a o (yA ns ys)).yld k H' x H''->H''=H'/\Rep K W' H' d x:=by
 have ln:=zdg hl;rw[List.length_map];refine⟨fun e=>⟨hq,by rw[ln];exact e⟩,fun d e=>?_⟩;rw[List.getElem?_map,jo2] at e;obtain⟨i,e1,rfl⟩:=e;obtain⟨hk,e2⟩:=List.getElem?_eq_some_iff.mp e1;refine⟨⟨hq,by rw[ln];exact hk⟩,fun x H'' z=>?_⟩;obtain⟨z1,kv,z2,z3⟩:=z
 have:kv.1=Sum.inl i:=by
  unfold yA at z2;rw[List.getElem?_zip_eq_some] at z2;have:=z2.1;rw[List.getElem?_map,e1] at this;simpa using this.symm
 rw[z3,this];exact⟨z1,.int i⟩
section
variable {X:Cx} {fuel:Nat} {fa:Nat->List D->Option Ans} {sts:List Stmt} {ss:Ss} {x:Str} {p pos:Pos}
theorem zmv(i j:Nat){y:Str}{px:Pos}(hp:PassesOwn (model X.prog X.w) X.A X.env X.xe)(hc:X.calm=true)(hN:X.N.Nodup)(hi:X.N[i]? =some x)(hx:wM X.env.scope x)(hj:X.N[j]? =some y)(hv:wq X.env.scope y)(hb:ISs X (zp fa fuel ss) sts)
  (hf:X.fn x=true\/X.env.scope.names.lookup x=some .local:=by first|exact .inl rfl|exact .inr rfl|assumption) (hd:(y==("__debug__":Str))=false:=by decide) (hcd:(y==("__classdict__":Str))=false:=by decide)
  (hfo: ∀x,foldedSetIterable (.Name y p) X.env x=pure x:=by intro _;rfl):IS X (zH fa fuel (.forK i j ss)) (.For (.Name x px) (.Name y p) sts [] pos):=by
 refine .mk ?_;rintro pins s σ H D0 I ⟨W,ρ,z,hR,hz,q⟩;simp only[zkH] at hz;split at hz
 case isFalse=>cases hz
 rename_i hfr;have hfr:=jJ hfr;simp only[jo1] at hz;obtain⟨ks,e1,⟨fl,ρ1⟩,e2,e3⟩:=hz;unfold XF at e1;split at e1
 case h_2=>cases e1
 rename_i ks' vs hslot;cases e1
 obtain⟨rfl,rfl⟩:fl= .nx/\z=(.nx,ρ1):=by
  cases fl<;>first|(cases e3;exact⟨rfl,rfl⟩)|cases e3
 obtain⟨v,h1,h2⟩:=hR.val j _ hslot
 cases h2 with
 | @dK a ns ys vs n h l r=>
  have core: ∀{H1:Hp} {o:Obj} {es:Array DictEntry} {ep:Nat} {D1:Ends},Inv X pins σ H1 s->R X.K W ρ σ H1->H1 a=some (.frz o (.dK (yA ns ys)))->o.data= .dict es ep->
    (∀W' σ' H',SPost X.K W ρ σ H1 W' ρ1 σ' H'->D1.nx σ' H')->wpAny (model X.prog X.w) X.A (exec (.For (.Name x px) (.Name y p) sts [] pos) X.env) (SP X pins D1) X.xe s:=fun {H1 o es ep D1} I1 R1 hq hod q1=>
   qv hp hc (zmo (vG hj hv hd hcd)) (ZX hN hi hx hf) hb.h hfo pins s σ H1 D1 I1 ⟨_,h1,a,o,_,es,ep,rfl,hq,hod,
    XX R1 hfr (fun W' H' x k=>zmu l (x.frz _ _ _ hq) k) e2 fun W' σ' H' ps=>q1 W' σ' H' ps⟩
  rcases h with h|⟨o,h⟩
  ·obtain⟨o,es,ep,hod,I1⟩:=I.still h
   have R1:R X.K W ρ σ (zF H a (.frz o (.dK (yA ns ys)))):=hR.swap (zms h) fun b u wb hbu=>by
    rw[zE (fun z=>n (by rw[<-z];exact wb))];exact hbu
   have n0: ∀o u,X.H₀ a≠some (.frz o u):=fun o u z=>by
    have:=I.base.frzs a o u z;rw[h] at this;cases this
   refine Kd (core (D1:={ nx:=fun σ' H'=>∃W',SPost X.K W ρ σ (zF H a (.frz o (.dK (yA ns ys)))) W' ρ1 σ' H',rt:=fun _ _=>False }) I1 R1 yJ hod fun W' σ' H' ps=>⟨W',ps⟩) (fun f s' hs=>?_) fun _ _ e=>e
   cases f with
   |next=>
    obtain⟨σ',H',I',W',ps⟩:=hs;have na: ¬wd ρ σ a:=fun z=>n (R1.ownW z).1
    have ha:H' a=some (.frz o (.dK (yA ns ys))):=ps.keep a _ yJ na
    have nw: ¬W' a:=fun w=>by
     rcases ps.win a w with z|z
     ·exact n z
     ·rw[yJ] at z;cases z
    refine⟨σ',zF H' a (.dK (yA ns ys)),I'.loose ha n0,q W' σ' _ ⟨ps.r.swap (zmt ha) fun b u wb hbu=>?_,fun b u hbu no=>?_,fun b w=>?_,ps.wout,ps.io⟩⟩
    ·rw[zE (fun z=>nw (by rw[<-z];exact wb))];exact hbu
    ·by_cases z:b=a
     ·subst z;rw[yJ,<-h,hbu]
     ·rw[zE z]
      exact ps.keep b u (by rw[zE z];exact hbu) no
    ·rcases ps.win b w with z|z
     ·exact .inl z
     ·by_cases y:b=a
      ·exact KC (by rw[<-y];exact w) nw
      ·rw[zE y] at z;exact .inr z
   |brk=>obtain⟨_,_,_,z⟩:=hs;exact z.elim
   |cont=>obtain⟨_,_,_,z⟩:=hs;exact z.elim
   |ret u=>obtain⟨_,_,_,_,_,z⟩:=hs;exact z.elim
  ·obtain⟨_,_,_,vs',_,o',es,ep,g1,g2,g3,_⟩:=(show ObjOk X.prog X.w H s.heap a (.frz o (.dK (yA ns ys))) from I.hok a _ h)
   have e1:o=o':=by
    have h1:=(show ObjOk X.prog X.w H s.heap a (.frz o (.dK (yA ns ys))) from I.hok a _ h).1;rw[h1] at g1;cases g1;rfl
   subst e1;exact core I hR h g3 fun W' σ' H' ps=>q W' σ' H' ps
end
end L2.LW
set_option maxHeartbeats 4000000
set_option maxRecDepth 100000
namespace L2.LW
open PySem PySem.Spec PySem.W PySem.Calls PyProof.Rows
open AutoSeq1 (wpAny_loadPart')
section
variable {prog:Program} {w:World} {A:Around} {E:Value->Shared->Prop} {s:Shared}
theorem zmw{it t:Addr}{i:Nat}{items:Array Value}{x:Value}{Q:Value->Shared->Prop}(ht:s.heap.IsTupleIter it t i)(hl:s.heap.IsTuple t items)(hx:items[i]? =some x)
  (hQ: ∀h',h'.IsTupleIter it t (i+1)->Heap.SameBut it s.heap h'->Q x { s with heap:=h' }):wpAny (model prog w) A (Builtin.SmallTypes.nextOf (.ref it)) Q E s:=by
 obtain⟨ob,h1,h2,h3⟩:=id ht;obtain⟨ol,g1,_,nl,g2⟩:=hl;unfold Builtin.SmallTypes.nextOf;refine Kb (wpAny_callSpecial?_slot (name:=Str.ofString "__next__") ht.typeIs F.slot_tuple_iterator_next (wpAny_call_entry F.slot_tuple_iterator_next ht.typeIs F.entry_tuple_iterator_next ?_ (F.args_tuple_iterator_next_1 _)));show wpAny _ _ (field (.ref it) 0 >>= _) _ _ s;refine Kb (wpAny_field h1 h3 (x:=.ref t) rfl ?_);show wpAny _ _ (if (Value.ref t==Value.none)=true then _ else _) _ _ s;rw[if_neg (show ¬((Value.ref t==Value.none)=true) from Km)];show wpAny _ _ (field (.ref it) 1 >>= _) _ _ s;refine Kb (wpAny_field h1 h3 (x:=.int i 0) rfl ?_);show wpAny _ _ (seqItems? (.ref t) >>= _) _ _ s;refine Kb (wpAny_seqItems g1 g2 ?_);simp only[Int.toNat_natCast,hx];refine Kb (wpAny_setField h1 h3 (by simp) (Kc ⟨x,rfl,Kc (hQ _ ⟨_,Heap.get?_update_self _ h1 (Obj.isFreed_of_fields (Obj.data_mapFields h3 _)),(Obj.cls_mapFields ..).trans h2,by rw[Obj.data_mapFields h3];simp[rawInt]⟩ (Heap.SameBut.update ..))⟩))
theorem zmx{it t:Addr}{i:Nat}{items:Array Value}{Q:Value->Shared->Prop}(hh:A.handled=Option.none)(ht:s.heap.IsTupleIter it t i)(hl:s.heap.IsTuple t items)(hx:items[i]? =Option.none)
  (hE: ∀h' e,Heap.ExtBut it s.heap h'->(∃o,h'.get? e=some o/\o.cls= .type "StopIteration")->E (.ref e) { s with heap:=h' }):wpAny (model prog w) A (Builtin.SmallTypes.nextOf (.ref it)) Q E s:=by
 obtain⟨ob,h1,h2,h3⟩:=id ht;obtain⟨ol,g1,_,nl,g2⟩:=hl;unfold Builtin.SmallTypes.nextOf;refine Kb (wpAny_callSpecial?_slot (name:=Str.ofString "__next__") ht.typeIs F.slot_tuple_iterator_next (wpAny_call_entry F.slot_tuple_iterator_next ht.typeIs F.entry_tuple_iterator_next ?_ (F.args_tuple_iterator_next_1 _)));show wpAny _ _ (field (.ref it) 0 >>= _) _ _ s;refine Kb (wpAny_field h1 h3 (x:=.ref t) rfl ?_);show wpAny _ _ (if (Value.ref t==Value.none)=true then _ else _) _ _ s;rw[if_neg (show ¬((Value.ref t==Value.none)=true) from Km)];show wpAny _ _ (field (.ref it) 1 >>= _) _ _ s;refine Kb (wpAny_field h1 h3 (x:=.int i 0) rfl ?_);show wpAny _ _ (seqItems? (.ref t) >>= _) _ _ s;refine Kb (wpAny_seqItems g1 g2 ?_);simp only[Int.toNat_natCast,hx];refine Kb (wpAny_rule (Kb (wpAny_setField h1 h3 (by simp) ?_)));show wpAny _ _ (newExc (.type "StopIteration") [] >>= _) _ _ _;refine Kb ?_;simp only[newExc,newTuple];refine Kb (wpAny_newObj_type ?_ (by size_fits));refine Kb (m:=firstArgMember _ _) (wpAny_of_eq (a:=Value.none) (by first|rfl|(simp only[firstArgMember];rfl)) (wpAny_newObj_type ?_ (by size_fits)));simp only[raiseNew];refine Kb (wpAny_handled ?_);(first|rw[show A.in1.handled=Option.none from hh]|rw[hh]);exact Kb (Kc (wpAny_throw (hE _ _ (((Heap.SameBut.update ..).extBut.push _).push _) ⟨_,Heap.get?_push_size _ rfl,rfl⟩)))
theorem zmy{h h':Heap}{a:Addr}{its:Array Value}(x:h.IsTuple a its)(e: ∀o,h.get? a=some o->h'.get? a=some o):h'.IsTuple a its:=by
 obtain⟨o,h1,r⟩:=x;exact⟨o,e o h1,r⟩
theorem zdN(hh:A.handled=Option.none)(it t:Addr)(ne:t≠it)(items:Array Value):Draws prog w A it [it,t] items.size (fun i v=>items[i]? =some v) (fun i h=>h.IsTupleIter it t i/\h.IsTuple t items) where
 live:=fun _ _ st=>by obtain⟨⟨o,h,_⟩,_⟩:=st;exact⟨o,h⟩
 frame:=fun _ _ _ st hk=>⟨st.1.at fun o e=>hk it (by simp) o e,zmy st.2 fun o e=>hk t (by simp) o e⟩
 item:=fun i s Q E hi st hQ=>zmw st.1 st.2 (x:=items[i]) (by simp[hi]) fun h' ht' hs'=>hQ _ h' s.toks (by simp[hi]) ⟨ht',st.2.extBut hs'.extBut ne⟩ hs'
 done:=fun s Q E st hE=>zmx hh st.1 st.2 (by simp) hE
theorem zmz(l:Addr)(items:Array Value)(n:Nat)(dct:Option Addr)(sl:Array (Option Value)):
  Meets (Builtin.«enumerate.__new__» ⟨[.type "enumerate",.ref l],[]⟩) (fun _ R s=>s.heap.get? l=some { cls:=.type "tuple",dict:=dct,data:=.seq items n,slots:=sl }/\
   R (.ok (.ret (.ref (s.heap.push { cls:=.type "tuple_iterator",data:=.fields #[.ref l,.int 0 0] }).objs.size)))
    { s with heap:=(s.heap.push { cls:=.type "tuple_iterator",data:=.fields #[.ref l,.int 0 0] }).push { cls:=.type "enumerate",data:=.fields #[.none,.bool false,.ref s.heap.objs.size,rawInt 0,.none,.none] } }):=
 .of_wp fun prog w A R s h=>by
  obtain⟨hp,g,d,tk,os⟩:=s;obtain⟨hl,h⟩:=h;have hsub:=sub_enumerate;have hT:Heap.IsTuple (Shared.heap ⟨hp,g,d,tk,os⟩) l items:=⟨_,hl,rfl,n,rfl⟩
  wp_walk using wpAny_loadPart' hl
  refine wpAny_stack_any fun st=>Kc ?_
  split
  ·rename_i c _ _ _ _ _
   cases (c==Value.type "enumerate")
   ·wp_walk using wpAny_loadPart' hl,wpAny_pyIter_tuple hT
    exact⟨_,rfl,h⟩
   ·wp_walk using wpAny_loadPart' hl,wpAny_pyIter_tuple hT
    exact⟨_,rfl,h⟩
  ·wp_walk using wpAny_loadPart' hl,wpAny_pyIter_tuple hT
   exact⟨_,rfl,h⟩
theorem zmA{l:Addr}{items:Array Value}{Q:Value->Shared->Prop}(hL:s.heap.IsTuple l items)
  (h: ∀h',IsEnum h' (s.heap.objs.size+1) s.heap.objs.size 0 .none->h'.IsTupleIter s.heap.objs.size l 0->h'.objs.size=s.heap.objs.size+2->(∀b o,s.heap.get? b=some o->h'.get? b=some o)->Q (.ref (s.heap.objs.size+1)) { s with heap:=h' }):
  wpAny (model prog w) A (call (.type "enumerate") [.ref l]) Q E s:=by
 obtain⟨⟨c,dct,dt,sl⟩,hl,hc,n,hd⟩:=hL;replace hc:c= .type "tuple":=hc;replace hd:dt= .seq items n:=hd;subst hc hd;refine callType_new F.called_enumerate (by decide) (F.typeCall_enumerate_1 _) (F.newCall_enumerate_1 _) (fun obj=>F.args_object_init_2 obj _) F.entry_enumerate_new (zmz l items n dct sl) ⟨hl,?_⟩;have hz:(s.heap.push { cls:=.type "tuple_iterator",data:=.fields #[.ref l,.int 0 0] }).objs.size=s.heap.objs.size+1:=Heap.size_push ..;show _/\_;rw[hz]
 have he:IsEnum ((s.heap.push { cls:=.type "tuple_iterator",data:=.fields #[.ref l,.int 0 0] }).push { cls:=.type "enumerate",data:=.fields #[.none,.bool false,.ref s.heap.objs.size,rawInt 0,.none,.none] }) (s.heap.objs.size+1) s.heap.objs.size 0 .none:=by
  have:=Heap.get?_push_size (s.heap.push { cls:=.type "tuple_iterator",data:=.fields #[.ref l,.int 0 0] }) (o:={ cls:=.type "enumerate",data:=.fields #[.none,.bool false,.ref s.heap.objs.size,rawInt 0,.none,.none] }) rfl;rw[hz] at this;exact this
 refine⟨⟨_,he,rfl⟩,h _ he ⟨_,Kl _ (Heap.get?_push_size _ rfl),rfl,rfl⟩ (by rw[Heap.size_push,hz]) fun b o x=>Kl _ (Kl _ x)⟩
end
theorem zmB{P:Program}{w:World}{K:Ka}{elts:List Expr}{kt:Nat}{pt:Pos}{xs:List V}(a it e:Addr)(ne:e≠it):
  Turn P w K (.Tuple elts kt pt) (zdH xs.length (fun i=>xs[i]?) fun H=>SqT K H a xs) [e,it] e (fun i h=>(∃old,IsEnum h e it i old)/\h.IsTupleIter it a i) where
 mem:=by simp
 obj:=fun i h zz2 b hb=>by
  obtain⟨⟨old,st⟩,st2⟩:=zz2;rcases List.mem_cons.mp hb with rfl|hb
  ·exact⟨_,st,fun v z=>by cases z⟩
  ·obtain rfl:=List.mem_singleton.mp hb
   obtain⟨o,e1,c,d⟩:=st2;exact⟨o,e1,fun v z=>by rw[d] at z;cases z⟩
 keep:=fun i h h' ⟨⟨old,st⟩,st2⟩ k=>⟨⟨old,k e (by simp) _ st⟩,st2.at fun o z=>k it (by simp) o z⟩
 item:=by
  intro X hP hw hK hc i pins s σ H E I hf ⟨⟨old,st⟩,st2⟩ ⟨hlt,hq⟩;subst hP hw hK;obtain⟨its,rv,p,hz⟩:=I.tuple hq;have p:s.heap.IsTuple a its.toArray:=p
  have na:a≠it:=fun z=>by
   obtain⟨o,q1,q2,_⟩:=p;obtain⟨o',q3,q4,_⟩:=st2;rw[z,q3] at q1;cases q1;rw[q2] at q4;simp at q4
  have nea:a≠e:=fun z=>by
   obtain⟨o,q1,q2,_⟩:=p;have st:s.heap.get? e=some _:=st;rw[z,st] at q1;cases q1;simp at q2
  have D:=zdN (prog:=X.prog) (w:=X.w) (A:=X.A.in1) (I.ok.hd hc) it a na its.toArray;have hl:=rv.length;refine wpAny_pyNext_enum_itemD D st ⟨st2,p⟩ (by simp;omega) ne (by simp[ne,Ne.symm nea]) fun v h1 tk hv eo l1 tp sz kp=>?_
  obtain⟨u,hu,ru⟩:=rv.get (show xs[i]? =some xs[i] by simp[hlt]);have hv:its[i]? =some v:=by simpa using hv
  rw[hu] at hv;cases hv;refine⟨_,rfl,zl9 (s:={ s with heap:=h1,toks:=tk+1 }) eo fun h2 en sb=>?_⟩;have lt:e<s.heap.objs.size:=Kk st;have lt2:it<s.heap.objs.size:=by obtain⟨o,z,_⟩:=st2;exact Kk z
  have I2:=zl7 (h':=h2) (i:=(i:Int)) (tk:=tk) (k:=tk+1) I (hf e (by simp)) (hf it (by simp)) (fun b o n1 n2 z=>(sb.2 b n1).trans (kp b o n1 n2 z)) ((sb.2 _ (Nat.ne_of_gt lt)).trans tp) ru;refine⟨.ref s.heap.objs.size,_,I2,rfl,⟨_,_,I.fresh,rfl,rfl,by simp[hlt]⟩,⟨⟨v,?_⟩,l1.1.extBut sb.extBut (Ne.symm ne)⟩,fun b hb=>?_⟩
  ·have e2:((i+1:Nat):Int)=(i:Int)+1:=by omega
   rw[e2];exact en
  ·have nb:b≠s.heap.objs.size:=by
    rcases List.mem_cons.mp hb with rfl|hb
    ·exact Kh lt
    ·obtain rfl:=List.mem_singleton.mp hb;exact Kh lt2
   rw[zE nb];exact (hf b hb).1
 done:=by
  intro X hP hw hK hc i pins s σ H E I hf ⟨⟨old,st⟩,st2⟩ ⟨hge,hq⟩;subst hP hw hK;obtain⟨its,rv,p,hz⟩:=I.tuple hq;have p:s.heap.IsTuple a its.toArray:=p
  have na:a≠it:=fun z=>by
   obtain⟨o,q1,q2,_⟩:=p;obtain⟨o',q3,q4,_⟩:=st2;rw[z,q3] at q1;cases q1;rw[q2] at q4;simp at q4
  have D:=zdN (prog:=X.prog) (w:=X.w) (A:=X.A.in1) (I.ok.hd hc) it a na its.toArray;have hl:i=its.toArray.size:=by rw[hge,rv.length];simp
  subst hl;exact wpAny_pyNext_enum_endD D st ⟨st2,p⟩ fun h' eb=>⟨rfl,zl8 (e:=e) I (hf it (by simp)) fun b o hb z=>eb b o hb z⟩
 self:=fun _ _ _ _ _ ⟨⟨_,st⟩,_⟩ h=>wpAny_pyIter_enum st h
section
variable {X:Cx} {fn:Nat->List D->Option SV} {e:Expr} {ce:E} {pos p:Pos} {elts:List Expr} {kt:Nat} {pt:Pos}
noncomputable def zmC(K:Ka)(fn:Nat->List D->Option SV)(c:E):TI:=fun σ H R0=>∃W ρ l,R K W ρ σ H/\zk fn c ρ=some (.val (.tup l))/\∀J H1,Same H H1->YE K J W H1 (xE 0 l)->R0 J H1
theorem zmD(hg:Gl X "enumerate")(hm:X.mg "enumerate"=Option.none)(he:IE X fn e ce)(hst:starEach [e] X.env=[(false,eval e X.env)]):
  PI X (.Tuple elts kt pt) (.Call (.Name "enumerate" p) [e] [] pos) (zmC X.K fn ce):=by
 intro pins s σ H R0 I ⟨W,ρ,l,hR,h1,q1⟩;refine wpAny_Call_Name_kw (Zh I hg hm PyProof.Rows.boot_enumerate ?_ (by decide) (by decide));have hA:=(vp he.v Zk hst) pos pins s σ H (fun vs H1=>∃v,vs=[v]/\Same H H1/\Frz X.K W H1 (.val (.tup l)) v) I ⟨W,ρ,_,hR,h1,fun v H1 s1 f1=>⟨v,rfl,s1,f1⟩⟩;refine PyProof.Rows.callWith_type1 (zt hA fun us s1 ⟨vs,H1,I1,rv,v,hv,s01,f1⟩=>?_) hst zm;subst hv;obtain⟨u,rfl,ru⟩:=wW rv
 cases f1 with
 |val h=>
  cases h with
  | @tup q xs ds hH rp=>
   cases ru;obtain⟨its,rv2,pl,hz⟩:=I1.tuple (SqT.of hH);refine zmA pl fun h' en li sz kp=>?_
   refine wpAny_pyIter_enum en ?_;have I2:Inv X pins σ H1 { s1 with heap:=h' }:=I1.kept (t':=s1.toks) kp;refine⟨s1.heap.objs.size+1,[s1.heap.objs.size+1,s1.heap.objs.size],_,_,H1,rfl,I2,zmB (xs:=xs) q s1.heap.objs.size (s1.heap.objs.size+1) (Nat.succ_ne_self _),⟨⟨_,en⟩,li⟩,fun b hb=>?_,q1 _ H1 s01 (zma (xs:=xs) rp.length.symm (fun _=>rfl) (fun W' H' x=>.of (x.tup _ _ hH)) fun W' H' x=>rp.ext x)⟩;rcases List.mem_cons.mp hb with rfl|hb
   ·exact I1.fpOk (Kj _) (I1.hok.fresh (Kj _))
   ·obtain rfl:=List.mem_singleton.mp hb
    exact I1.fpOk (Nat.le_refl _) (I1.hok.fresh (Nat.le_refl _))
end
end L2.LW
set_option maxHeartbeats 4000000
namespace L2.LW
open PySem PySem.Spec PySem.W PySem.Calls PyProof.Rows
noncomputable def xj(X:Cx)(scope:Scope)(x y:Str)(s₃:Shared)(H₃:Hp)(fp:List Addr)(pins:List (Addr×Obj)):Cx:={ yy X scope x s₃ H₃ fp pins with N:=x::y::X.N }
structure CompSc2 (X:Cx)(scope:Scope)(x y:Str):Prop where
 one:CompSc X scope x
 nx:wJ x X.N=X.N
 lx:scope.names.lookup x=some .local
 ly:scope.names.lookup y=some .local
 nd2:(x::y::X.N).Nodup
section
variable {X:Cx} {scope:Scope} {x y:Str} {s₃:Shared} {H₃:Hp} {fp:List Addr} {pins ps:List (Addr×Obj)} {σ:St} {a b:Option V} {H:Hp} {s:Shared}
theorem zmE(h:(yy X scope x s₃ H₃ fp pins).Ok):(xj X scope x y s₃ H₃ fp pins).Ok:=⟨h.mod,h.kind,h.glob,h.blt,h.above,h.inj,h.has,h.cab,h.hd,h.frames,h.stk,h.exf,h.bs,h.bsz,h.noex,h.exfs,h.funs,h.frf⟩
theorem zmF(h:(xj X scope x y s₃ H₃ fp pins).Ok):(yy X scope x s₃ H₃ fp pins).Ok:=⟨h.mod,h.kind,h.glob,h.blt,h.above,h.inj,h.has,h.cab,h.hd,h.frames,h.stk,h.exf,h.bs,h.bsz,h.noex,h.exfs,h.funs,h.frf⟩
theorem zmG(S:CompSc2 X scope x y)(J:Inv (xj X scope x y s₃ H₃ fp pins) ps (a::b::σ) H s):Inv (yy X scope x s₃ H₃ fp pins) ps (a::σ) H s:=by
 obtain⟨m,hm,hl⟩:=J.loc;refine⟨zmF J.ok,J.os,J.bare,J.base,⟨m,hm,fun i z v h1 h2 h3=>?_⟩,J.cell,J.free,J.freeC,J.pin,J.hok,?_⟩
 ·cases i with
  |zero=>exact hl 0 z v h1 h2 h3
  |succ i=>
   have h1:(wJ x X.N)[i]? =some z:=h1;rw[S.nx] at h1;exact hl (i+2) z v h1 h2 h3
 ·have:=J.len
  show σ.length+1=(x::wJ x X.N).length;rw[S.nx];have e:σ.length+1+1=X.N.length+1+1:=this;rw[List.length_cons];omega
theorem zmH(S:CompSc2 X scope x y)(J:Inv (yy X scope x s₃ H₃ fp pins) ps (Option.none::σ) H s):Inv (xj X scope x y s₃ H₃ fp pins) ps (Option.none::Option.none::σ) H s:=by
 obtain⟨m,hm,hl⟩:=J.loc;refine⟨zmE J.ok,J.os,J.bare,J.base,⟨m,hm,fun i z v h1 h2 h3=>?_⟩,J.cell,J.free,J.freeC,J.pin,J.hok,?_⟩
 ·match i with
  |0=>cases h2
  |1=>cases h2
  |i+2=>
   have h1:X.N[i]? =some z:=h1;exact hl (i+1) z v (by show (wJ x X.N)[i]? =some z;rw[S.nx];exact h1) h2 h3
 ·have e:σ.length+1=(x::wJ x X.N).length:=J.len
  rw[S.nx,List.length_cons] at e;show σ.length+1+1=X.N.length+1+1;omega
theorem CompSc2.locX(S:CompSc2 X scope x y):wM (xj X scope x y s₃ H₃ fp pins).env.scope x:=.inl (lookup_relabel_local S.lx)
theorem CompSc2.locY(S:CompSc2 X scope x y):wM (xj X scope x y s₃ H₃ fp pins).env.scope y:=.inl (lookup_relabel_local S.ly)
theorem CompSc2.fnX(S:CompSc2 X scope x y):(xj X scope x y s₃ H₃ fp pins).fn x=true\/(xj X scope x y s₃ H₃ fp pins).env.scope.names.lookup x=some .local:=.inr (lookup_relabel_local S.lx)
theorem CompSc2.fnY(S:CompSc2 X scope x y):(xj X scope x y s₃ H₃ fp pins).fn y=true\/(xj X scope x y s₃ H₃ fp pins).env.scope.names.lookup y=some .local:=.inr (lookup_relabel_local S.ly)
structure CSt2 (X:Cx)(scope:Scope)(x y:Str)(s₃:Shared)(H₃:Hp)(fp:List Addr)(pins:List (Addr×Obj))(σ:St)(tn:Nat->Heap->Prop)(H2:Hp)(W:Addr->Prop)(L:Addr)(test:D->Option Bool)(elt:D->Option SV)(ds out:List D)
  (n k:Nat) (a b:Option V) (H':Hp) (ys:List V) (out1 zP:List D) (s':Shared):Prop where
 inv:Inv (xj X scope x y s₃ H₃ fp pins) [] (a::b::σ) H' s'
 htn:tn k s'.heap
 hfp: ∀b∈fp,H' b=Option.none
 hn:n=ds.length+1-k
 hk:k<=ds.length
 same:Same H2 H'
 lst:H' L=some (.lst ys)
 reps:Reps X.K (add W L) H' out1 ys
 hrest:yS test elt (ds.drop k)=some zP
 hout:out=out1++zP
end
section
variable {X:Cx} {fn:Nat->List D->Option SV}
theorem zmI{e0 elt c:Expr}{x y:Str}{px py pos pos2 p pos3 pt:Pos}{kt:Nat}{scope:Scope}{cond ce ce0:E}{pins:List (Addr×Obj)}{s:Shared}{σ:St}{H:Hp}{W:Addr->Prop}{ρ:LW.Env}{l out:List D}{use:Option (Value->Sem Unit)}{Qe:Value->Shared->Prop}
  (hcalm:X.calm=true) (S:CompSc2 X scope x y) (hg:Gl X "enumerate") (hm:X.mg "enumerate"=Option.none) (he:IE X fn e0 ce0) (hst:starEach [e0] X.env=[(false,eval e0 X.env)])
  (hcond: ∀s₃ H₃ fp pins,IT (xj X scope x y s₃ H₃ fp pins) fn c cond) (helt: ∀s₃ H₃ fp pins,IE (xj X scope x y s₃ H₃ fp pins) fn elt ce) (hfo: ∀y,foldedSetIterable (.Call (.Name "enumerate" p) [e0] [] pos3) X.env y=pure y) (I:Inv X pins σ H s) (hR:R X.K W ρ σ H)
  (e1:zk fn ce0 ρ=some (.val (.tup l))) (hline:l.length<=line) (e3:yS (fun p=>vL p fun a b=>zB fn cond (some (.val a)::some (.val b)::ρ)) (fun p=>vL p fun a b=>zk fn ce (some (.val a)::some (.val b)::ρ)) (xE 0 l)=some out)
  (fin: ∀(s4:Shared) (fl:Flow) (m:Str->Option Value) (C L:Addr) (H':Hp),s4.heap.Ns C m->(∀h',Heap.SameBut C s4.heap h'->Inv X pins σ H' { s4 with heap:=h' })->Same H H'->
   Res X.K W H H' (.obj true (.lst out)) (.ref L)->compPost (model X.prog X.w) X.A X.xe use Qe (.ref L) C (.ok fl) s4):
  wpAny (model X.prog X.w) X.A (comprehension (.ListComp elt [⟨.Tuple [.Name x px,.Name y py] kt pt,.Call (.Name "enumerate" p) [e0] [] pos3,[c],0⟩] scope pos) scope X.env pos2 (newList []) false (eval (.Call (.Name "enumerate" p) [e0] [] pos3) X.env) use) Qe X.xe s:=by
 have hclos:=zcW (scope:=scope) (env:=X.env) (S.one.cells I.ok);refine wpAny_comprehension_free (use:=use) rfl hfo hclos S.one.kind S.one.names ?_;refine zt (zmD (elts:=[.Name x px,.Name y py]) (kt:=kt) (pt:=pt) hg hm he hst pins s σ H (fun J H2=>Same H H2/\YE X.K J W H2 (xE 0 l)) I ⟨W,ρ,l,hR,e1,fun J H' s1 y=>⟨s1,y⟩⟩) fun v s1 h1=>zt h1 fun itv s2 h2=>?_
 obtain⟨it,fp,tn,J,H2,rfl,I2,T,st2,f2,sm,hy⟩:=h2;refine wpAny_newObj_type (zcZ S.one fun h₁ hns₁ hk₁ hc₁=>?_);have hdl:(xE 0 l).length=l.length:=gQ 0 l;generalize hds:xE 0 l=ds at*;have I3:=I2.lnew (t':=s2.toks) (ys:=[]) (its:=[]) .nil (Nat.zero_le _);have hD:H2 s2.heap.objs.size=Option.none:=I2.fresh;generalize hL:s2.heap.objs.size=L at hD;generalize hs3:({ s2 with heap:=s2.heap.push { cls:=.type "list",data:=.seq ([]:List Value).toArray },toks:=s2.toks }:Shared)=s₃ at I3;have hs3h:s₃.heap=s2.heap.push { cls:=.type "list",data:=.seq ([]:List Value).toArray }:=by rw[<-hs3]
 rw[hL] at I3;generalize hH3:zF H2 L (.lst [])=H₃ at I3
 have blt: ∀b∈fp,b<s2.heap.objs.size:=fun b hb=>by
  obtain⟨o,e,_⟩:=T.obj _ _ st2 b hb;exact Kk e
 have hlt: ∀b∈fp,b<s₃.heap.objs.size:=fun b hb=>by rw[hs3h,Heap.size_push];exact KD (blt b hb)
 have hf: ∀b∈fp,xU X pins H₃ b:=fun b hb=>by
  refine⟨?_,(f2 b hb).2⟩;rw[<-hH3,zE (by rw[<-hL];exact Kh (blt b hb))];exact (f2 b hb).1
 have keep1: ∀b o,s₃.heap.get? b=some o->h₁.get? b=some o:=fun b o e=>by
  rw[hs3h] at e;exact hk₁ b o e
 have ns1:h₁.Ns s₃.heap.objs.size fun _=>Option.none:=by rw[hs3h];exact hns₁
 have Ic:=zmH S (zc1 (tk:=s2.toks) S.one I3 hf hlt ns1 keep1 (by rw[hs3h];exact hc₁));have fpc: ∀{H':Hp},(∀b∈fp,H' b=Option.none)->∀b∈fp,xU (xj X scope x y s₃ H₃ fp pins) [] H' b:=fun {H'} hn b hb=>zc4 (H':=H') S.one I3 hf hlt hn b hb
 have win: ∀b,add W L b->W b\/H2 b=Option.none:=fun b w=>by
  rcases w with w|rfl
  ·exact .inl w
  ·exact .inr hD
 have hRL: ∀{H':Hp} {ys:List V},Same H2 H'->H' L=some (.lst ys)->R X.K (add W L) ρ σ H':=fun {H' ys} sm' e=>(hR.same sm).add sm' hD e
 have lenO:out.length<=ds.length:=QB e3
 have loop: ∀s':Shared,s'={ s₃ with heap:=h₁,toks:=s2.toks }->codeAny (model X.prog X.w) X.A (.compLoop (.ListComp elt [⟨.Tuple [.Name x px,.Name y py] kt pt,.Call (.Name "enumerate" p) [e0] [] pos3,[c],0⟩] scope pos) 0 (.ref it) (.ref L) (xj X scope x y s₃ H₃ fp pins).env)
   (compPost (model X.prog X.w) X.A X.xe use Qe (.ref L) s₃.heap.objs.size) s':=by
  rintro s' rfl
  refine zc3 (fun n s'=>∃k a b H' ys out1 zP,CSt2 X scope x y s₃ H₃ fp pins σ tn H2 W L (fun p=>vL p fun a b=>zB fn cond (some (.val a)::some (.val b)::ρ)) (fun p=>vL p fun a b=>zk fn ce (some (.val a)::some (.val b)::ρ)) ds out n k a b H' ys out1 zP s') ?_ (ds.length+1)
   ⟨0,Option.none,Option.none,H₃,[],[],out,Ic,T.keep _ _ _ st2 (fun b hb o e=>keep1 b o (by rw[hs3h];exact Kl _ e)),fun b hb=>(hf b hb).1,rfl,Nat.zero_le _,by rw[<-hH3];exact xh hD _,by rw[<-hH3];exact yJ,.nil,e3,rfl⟩
  rintro n s' ⟨k,ya,yb,H',ys,out1,zP,c'⟩;obtain⟨hstop,hgo⟩:=hy (add W L) H' (.sameW c'.same win) k;by_cases hk:k<ds.length
  ·have hd:ds[k]? =some ds[k]:=by simp[hk]
   obtain⟨g1,g2⟩:=hgo _ hd;have crest:=c'.hrest;rw[gy hd] at crest;simp only[yS,jo1] at crest;obtain⟨b,t1,t2⟩:=crest;obtain⟨dx,dx1,dx2⟩:=gP (by rw[hds];exact hd:(xE 0 l)[k]? =some ds[k]);rw[dx2] at t1 t2 g2;have t1:zB fn cond (some (.val (.int ((0+k:Nat):Int)))::some (.val dx)::ρ)=some b:=t1;refine zt (T.item (xj X scope x y s₃ H₃ fp pins) rfl rfl rfl hcalm k [] s' (ya::yb::σ) H' _ c'.inv (fpc c'.hfp) c'.htn g1) fun r s4 ⟨u,hr,h4⟩=>?_
   subst hr;refine zt h4 fun _ s5 ⟨xv,H5,I5,r5,y5,st5,fr5⟩=>?_
   obtain⟨sm5,rv⟩:=g2 xv H5 y5;have I5':=I5.pinned (fpc fr5) (T.obj _ _ st5)
   obtain⟨q,va,vb,rfl,hq,ra,rb⟩: ∃q va vb,xv= .ref q/\H5 q=some (.tup [va,vb])/\Rep X.K (add W L) H5 (.int ((0+k:Nat):Int)) va/\Rep X.K (add W L) H5 dx vb:=by
    cases rv with
    |tup hH rp=>
     cases rp with
     |cons ra rp=>
      cases rp with
      |cons rb rp=>cases rp;exact⟨_,_,_,rfl,hH,ra,rb⟩
   have pg:PG (xj X scope x y s₃ H₃ fp pins) (.Tuple [.Name x px,.Name y py] kt pt) (zbH X.K 2 (qu (Xc 0) (qu (Xc 1) zbF))):=ziz hcalm (zbG (ZX (i:=0) S.nd2 rfl S.locX S.fnX) (zbG (ZX (i:=1) S.nd2 rfl S.locY S.fnY) ziy));refine zt (pg _ s5 (ya::yb::σ) H5 (.ref q) u (fun σ' H'=>σ'=some va::some vb::σ/\H'=H5) I5' r5 ⟨_,_,rfl,.of hq,rfl,_,_,rfl,_,_,rfl,rfl,rfl,rfl⟩) fun _ s6 ⟨σ6,H6,I6,q6,q7⟩=>?_
   subst q6 q7;have hRc:=((hRL (c'.same.trans sm5) (sm5 _ _ c'.lst)).cons rb).cons ra;refine zt (wpAny_tests_one ((hcond s₃ H₃ fp pins).h _ s6 _ H6 (fun b' H7=>b'=b/\Same H6 H7) I6 ⟨add W L,_,b,hRc,t1,fun H7 s7=>⟨rfl,s7⟩⟩)) fun ok s7 ⟨H7,I7,q7,m7⟩=>?_
   subst q7
   have back: ∀{s':Shared} {H':Hp},Inv (xj X scope x y s₃ H₃ fp pins) ([]++ZY fp s5.heap) (some va::some vb::σ) H' s'->tn (k+1) s'.heap/\∀b∈fp,H' b=Option.none:=fun {s' H'} J=>by
    refine⟨T.keep _ _ _ st5 fun b hb o e=>(J.pin (b,o) (Ko _ (Ko _ (ZZ hb e)))).1,fun b hb=>?_⟩;obtain⟨o,e,d⟩:=T.obj _ _ st5 b hb;exact (J.pin (b,o) (Ko _ (Ko _ (ZZ hb e)))).2.1
   have m57:=sm5.trans m7
   cases ok with
   |false=>
    rw[if_neg Km];have bk:=back I7;exact⟨_,by have:=c'.hn;omega,k+1,some va,some vb,H7,ys,out1,zP,I7.unpinned,bk.1,bk.2,rfl,hk,c'.same.trans m57,m57 _ _ c'.lst,c'.reps.ext (.same m57),t2,c'.hout⟩
   |true=>
    rw[if_pos rfl];simp only[jo1,jo2] at t2;obtain⟨r8,t3,d8,t4,rest',t5,rfl⟩:=t2;have t3:zk fn ce (some (.val (.int ((0+k:Nat):Int)))::some (.val dx)::ρ)=some r8:=t3;have hR7:=hRc.same m7;refine zt ((helt s₃ H₃ fp pins).h _ s7 _ H7 (fun v H8=>Same H7 H8/\Rep X.K (add W L) H8 d8 v) I7 ⟨add W L,_,r8,hR7,t3,fun v8 H8 m8 res=>⟨m8,(res.frz hR7.wf).toD t4⟩⟩) fun u8 s8 ⟨v8,H8,I8,rl8,m8,rp8⟩=>?_
    have lst8:=m8 _ _ (m57 _ _ c'.lst);have lenY:=c'.reps.length;have lenT:=congrArg List.length c'.hout;rw[List.length_append,List.length_cons] at lenT;have le:=Yj;refine zt (qF (X:=xj X scope x y s₃ H₃ fp pins) _ s8 _ H8 (.ref L) [v8] (.ref L) [u8] (fun _ H9=>H9=zF H8 L (.lst (ys++[v8]))) I8 rfl (.cons rl8 .nil) ⟨L,ys,v8,rfl,rfl,lst8,by omega,rfl⟩) fun _ s9 ⟨_,H9,I9,_,q9⟩=>?_
    subst q9;have bk:=back I9
    have ext:Ext (add W L) H8 (add W L) (zF H8 L (.lst (ys++[v8]))):=by
     refine⟨fun b o q n=>?_,fun b zs q=>?_,fun b o u q=>?_,fun b w=>.inl w⟩
     ·rw[zE (fun z=>n (.inr z))];exact q
     ·rw[zE (fun z=>by rw[z,lst8] at q;cases q)];exact q
     ·rw[zE (fun z=>by rw[z,lst8] at q;cases q)];exact q
    have smL:Same H2 (zF H8 L (.lst (ys++[v8]))):=fun b o q=>by
     rw[zE (fun z=>by rw[z,hD] at q;cases q)];exact m8 _ _ (m57 _ _ (c'.same _ _ q))
    exact⟨_,by have:=c'.hn;omega,k+1,some va,some vb,_,ys++[v8],out1++[d8],rest',I9.unpinned,bk.1,bk.2,rfl,hk,smL,yJ,((c'.reps.ext (.same (m57.trans m8))).ext ext).append (.cons (rp8.ext ext) .nil),t5,by rw[c'.hout];simp⟩
  ·have ek:k=ds.length:=by have:=c'.hk;omega
   refine zt (T.done (xj X scope x y s₃ H₃ fp pins) rfl rfl rfl hcalm k [] s' (ya::yb::σ) H' _ c'.inv (fpc c'.hfp) c'.htn (hstop ek)) fun r s4 ⟨hr,I4⟩=>?_
   subst hr;have I4:=zmG S I4;obtain⟨m,hn,_⟩:=I4.loc;have er:=c'.hrest;rw[List.drop_of_length_le (by omega),yS] at er;cases er;have eo:=c'.hout;rw[List.append_nil] at eo;exact fin s4 _ m _ L H' hn (fun h' hs=>zc2 I3 hf I4 hs) (sm.trans c'.same) (by rw[eo];exact .new (sm.free hD) c'.lst (.lst c'.reps))
 have st0:tn 0 h₁:=T.keep _ _ _ st2 (fun b hb o e=>keep1 b o (by rw[hs3h];exact Kl _ e));subst hs3 hL;exact codeAny_compStart_list (loop _ rfl) (T.self X.A 0 _ _ _ st0 (loop _ rfl))
theorem zmJ{e0 elt c:Expr}{x y:Str}{px py pos p pos3 pt:Pos}{kt:Nat}{scope:Scope}{cond ce ce0:E}(hcalm:X.calm=true)(S:CompSc2 X scope x y)(hg:Gl X "enumerate")(hm:X.mg "enumerate"=Option.none)(he:IE X fn e0 ce0)
  (hst:starEach [e0] X.env=[(false,eval e0 X.env)]) (hcond: ∀s₃ H₃ fp pins,IT (xj X scope x y s₃ H₃ fp pins) fn c cond) (helt: ∀s₃ H₃ fp pins,IE (xj X scope x y s₃ H₃ fp pins) fn elt ce)
  (hfo: ∀z,foldedSetIterable (.Call (.Name "enumerate" p) [e0] [] pos3) X.env z=pure z:=by intro _;rfl):
  IE X fn (.ListComp elt [⟨.Tuple [.Name x px,.Name y py] kt pt,.Call (.Name "enumerate" p) [e0] [] pos3,[c],0⟩] scope pos) (.compE ce0 cond ce):=by
 refine .mk ?_;rintro pins s σ H Q I ⟨W,ρ,r,hR,hev,q⟩;simp only[zks,jo1] at hev;obtain⟨r0,e1,l,e2,e3⟩:=hev
 have e2: ∃l',r0= .val (.tup l')/\l'=l:=by
  cases r0 with
  |val d=>cases d with
   |tup l'=>exact⟨l',rfl,by simpa [XC] using e2⟩
   |_=>cases e2
  |_=>cases e2
 obtain⟨l',rfl,rfl⟩:=e2;split at e3
 case isFalse=>cases e3
 rename_i hline;rw[jo2] at e3;obtain⟨out,e3,rfl⟩:=e3;rw[eval_ListComp];refine zmI (use:=Option.none) hcalm S hg hm he hst hcond helt hfo I hR e1 hline e3 fun s4 fl m C L H' hn back sm res=>?_
 exact⟨m,hn,fun h' hs=>⟨.ref L,H',back h' hs,rfl,q _ H' sm res⟩⟩
noncomputable def zdO(sc:Scope)(N:List Str)(scope:Scope)(x y:Str):Bool:=
 gD sc N scope x&&decide (wJ x N=N)&&decide (scope.names.lookup x=some .local)&&decide (scope.names.lookup y=some .local)&&decide ((x::y::N).Nodup)
theorem zmK{scope sc:Scope}{N:List Str}{x y:Str}(hs:X.env.scope=sc)(hN:X.N=N)(h:zdO sc N scope x y=true):CompSc2 X scope x y:=by
 simp only[zdO,Bool.and_eq_true,decide_eq_true_eq] at h;obtain⟨⟨⟨⟨h1,h2⟩,h3⟩,h4⟩,h5⟩:=h;exact⟨wD hs hN h1,by rw[hN];exact h2,h3,h4,by rw[hN];exact h5⟩
end
end L2.LW
set_option maxHeartbeats 4000000
set_option maxRecDepth 100000
namespace L2.LW
open PySem PySem.Spec PySem.W PySem.Calls PyProof.Rows
section
variable {X:Cx} {cl:Nat->Value} {E:XK} {fa:Nat->List D->Option Ans} {fuel:Nat} {s:S} {st:Stmt}
theorem zdP{o e f:Expr}{m:Str}{apos cpos:Pos}(h1:starEach [e,f] X.env=(false,eval e X.env)::starEach [f] X.env)(h2:starEach [f] X.env=(false,eval f X.env)::starEach [] X.env)
  (hb:attributeBase o m X.env (eval o X.env)=eval o X.env:=by rfl) (hl:(apos.endLine==cpos.line)=true:=by rfl):M2 X o m apos e f cpos:=
 ⟨hb,by rw[h1,h2];rfl,hl,by rw[h1,h2];rfl⟩
end
end L2.LW
namespace L2.LW
open PySem
section
variable {fn:Nat->List D->Option SV} {fa:Nat->List D->Option Ans} {fuel:Nat} {ρ:Env}
@[simp] theorem zuH{i:Int}:zk fn (.int i) ρ=some (.val (.int i)):=rfl
@[simp] theorem zuI{i:Bool}:zk fn (.bl i) ρ=some (.val (.bl i)):=rfl
@[simp] theorem zuJ:zk fn .non ρ=some (.val .non):=rfl
@[simp] theorem zuK{i:Str}:zk fn (.str i) ρ=some (.val (.str i)):=rfl
@[simp] theorem zdQ{i:Nat}:zk fn (.var i) ρ=look ρ i:=rfl
@[simp] theorem zmL{p:Prim}{es:Es}:zk fn (.prim p es) ρ=(yi fn es ρ).bind fun rs=>zg p (rs.map zI):=rfl
@[simp] theorem zuL{es:Es}:zk fn (.tup es) ρ=(yi fn es ρ).bind fun rs=>(xX rs).map fun ds=>.val (.tup ds):=rfl
@[simp] theorem zuM{es:Es}:zk fn (.lst es) ρ=(yi fn es ρ).bind fun rs=>(xX rs).map fun ds=>.obj true (.lst ds):=rfl
noncomputable def gT(r:SV)(k:Option SV):Option SV:=match r with
 | .val (.bl true)=>k
 | .val (.bl false)=>some (.val (.bl false))
 |_=>none
@[simp] theorem zuN{b:Bool}{k:Option SV}:gT (.val (.bl b)) k=if b then k else some (.val (.bl false)):=by cases b<;>rfl
@[simp] theorem zuO{a b:E}:zk fn (.and a b) ρ=(zk fn a ρ).bind fun r=>gT r (zk fn b ρ):=rfl
@[simp] theorem zuP{p q:Prim}{a b c:E}:zk fn (.chain p q a b c) ρ=(zk fn a ρ).bind fun x=>(zk fn b ρ).bind fun y=>(zg p [zI x,zI y]).bind fun z=>gT z ((zk fn c ρ).bind fun w=>zg q [zI y,zI w]):=rfl
@[simp] theorem zuQ{f:Nat}{es:Es}:zk fn (.call f es) ρ=(yi fn es ρ).bind fun rs=>wO rs (fn f (rs.map zI)):=rfl
theorem zmM{g:Bool}{src:Es}{cond elt:E}:zk fn (.comp g src cond elt) ρ=(yi fn src ρ).bind fun rs=>(yw g rs).bind fun ds=>
  if ds.length<=line then (yS (fun d=>zB fn cond (some (.val d)::ρ)) (fun d=>zk fn elt (some (.val d)::ρ)) ds).map fun l=>.obj true (.lst l) else none:=rfl
@[simp] theorem zuR{t:Bool}:zk fn (.dnew t) ρ=some (.obj true (.dct t [] [])):=rfl
@[simp] theorem zuS{t:Bool}{k v:E}:zk fn (.done t k v) ρ=(zk fn k ρ).bind fun x=>(zk fn v ρ).bind fun y=>(toD x).bind fun a=>(toD y).bind fun b=>if yK t a then some (.obj true (.dct t [a] [b])) else none:=rfl
theorem zmN{g:Bool}{src:Es}{cond elt:E}:zB fn (.comp g src cond elt) ρ=(zk fn (.comp g src cond elt) ρ).bind yG:=by
 rw[zcn,Qd]
 cases yi fn src ρ with
 |none=>rfl
 |some rs=>
  simp only[Option.bind_some]
  cases yw g rs with
  |none=>rfl
  |some ds=>
   simp only[Option.bind_some];split
   ·cases yS (fun d=>zB fn cond (some (.val d)::ρ)) (fun d=>zk fn elt (some (.val d)::ρ)) ds<;>rfl
   ·rfl
@[simp] theorem gU:yi fn .nil ρ=some []:=rfl
@[simp] theorem gW{e:E}{es:Es}:yi fn (.cons e es) ρ=(zk fn e ρ).bind fun r=>(yi fn es ρ).map (r:: ·):=rfl
@[simp] theorem zuT{a b:E}:zB fn (.and a b) ρ=(zB fn a ρ).bind fun k=>if k then zB fn b ρ else some false:=rfl
@[simp] theorem zuU{a b:E}:zB fn (.or a b) ρ=(zB fn a ρ).bind fun k=>if k then some true else zB fn b ρ:=rfl
@[simp] theorem zuV{a:E}:zB fn (.not a) ρ=(zB fn a ρ).map (!·):=rfl
@[simp] theorem zmO{i:Bool}:zB fn (.bl i) ρ=some i:=rfl
@[simp] theorem zuW{i:Nat}:zB fn (.var i) ρ=(look ρ i).bind yG:=rfl
@[simp] theorem zmP{p:Prim}{es:Es}:zB fn (.prim p es) ρ=(yi fn es ρ).bind fun rs=>(zg p (rs.map zI)).bind yG:=rfl
@[simp] theorem zuX{f:Nat}{es:Es}:zB fn (.call f es) ρ=(yi fn es ρ).bind fun rs=>(wO rs (fn f (rs.map zI))).bind yG:=rfl
noncomputable def zdR(r:SV)(k:Option Bool):Option Bool:=match r with
 | .val (.bl true)=>k
 | .val (.bl false)=>some false
 |_=>none
@[simp] theorem zuY{b:Bool}{k:Option Bool}:zdR (.val (.bl b)) k=if b then k else some false:=by cases b<;>rfl
@[simp] theorem zuZ{p q:Prim}{a b c:E}:zB fn (.chain p q a b c) ρ=(zk fn a ρ).bind fun x=>(zk fn b ρ).bind fun y=>(zg p [zI x,zI y]).bind fun z=>zdR z ((zk fn c ρ).bind fun w=>(zg q [zI y,zI w]).bind yG):=rfl
@[simp] theorem zu0{e:E}:zH fa fuel (.expr e) ρ=(zk (zJ fa) e ρ).map fun _=>(.nx,ρ):=rfl
@[simp] theorem zmQ{i:Nat}{e:E}:zH fa fuel (.asg i e) ρ=(zk (zJ fa) e ρ).bind fun r=>if r.lent|| !free ρ i then none else some (.nx,ρ.set i (some r)):=rfl
noncomputable def zC:Option (Option SV)->Bool
 |some (some (.io _))=>false
 |_=>true
@[simp] theorem zdS{i:Nat}:free ρ i=zC ρ[i]? :=by
 unfold free zC;rcases h:ρ[i]? with _|_|(d|⟨o,d⟩|d)<;>rfl
@[simp] theorem zu1:zC (some none)=true:=rfl
@[simp] theorem yY{d:D}:zC (some (some (.val d)))=true:=rfl
@[simp] theorem zmR{o:Bool}{d:D}:zC (some (some (.obj o d)))=true:=rfl
noncomputable def zdT(ρ:Env)(i j:Nat):Option (Option SV)->Option (Fl×Env)
 |some (some (.val d))=>some (.nx,ρ.set i (some (.val d)))
 |some (some (.obj _ d))=>some (.nx,(ρ.set j (some (.val d))).set i (some (.val d)))
 |_=>none
@[simp] theorem zu2{i j:Nat}{o:Bool}{d:D}:zdT ρ i j (some (some (.obj o d)))=some (.nx,(ρ.set j (some (.val d))).set i (some (.val d))):=rfl
@[simp] theorem zu3{i j:Nat}:zH fa fuel (.mov i j) ρ=if free ρ i then zdT ρ i j ρ[j]? else none:=by
 rw[zcs];rcases h:ρ[j]? with _|_|(d|⟨o,d⟩|d)<;>rfl
noncomputable def Vh(ρ:Env)(j:Nat):Option (Option SV)->Option (List D×Env)
 |some (some (.val d))=>(xW d).map fun l=>(l,ρ)
 |some (some (.obj _ (.lst ds)))=>some (ds,ρ.set j (some (.val (.lst ds))))
 |_=>none
@[simp] theorem zu4{j:Nat}{d:D}:Vh ρ j (some (some (.val d)))=(xW d).map fun l=>(l,ρ):=rfl
@[simp] theorem zu5{j:Nat}:Yh ρ j=Vh ρ j ρ[j]? :=by
 unfold Yh Vh;rcases h:ρ[j]? with _|_|(d|⟨o,d⟩|d)<;>rfl
noncomputable def zmS(ρ:Env)(i:Nat)(x:SV)(r:Option SV):Option D->Option (Fl×Env)
 |some (.lst ds)=>r.bind fun r=>(toD r).bind fun d=>if ds.length<line then some (.nx,ρ.set i (some (x.put (.lst (ds++[d]))))) else none
 |_=>none
noncomputable def jS(ρ:Env)(i:Nat)(r:Option SV):Option (Option SV)->Option (Fl×Env)
 |some (some x)=>zmS ρ i x r x.cell
 |_=>none
@[simp] theorem Vi{i:Nat}{r:Option SV}{ds:List D}:jS ρ i r (some (some (.obj true (.lst ds))))=r.bind fun r=>(toD r).bind fun d=>if ds.length<line then some (.nx,ρ.set i (some (.obj true (.lst (ds++[d]))))) else none:=rfl
@[simp] theorem zu6{i:Nat}{e:E}:zH fa fuel (.app i e) ρ=jS ρ i (zk (zJ fa) e ρ) ρ[i]? :=by
 rw[zct];rcases h:ρ[i]? with _|_|(d|⟨_|_,d⟩|d)
 ·rfl
 ·rfl
 ·rfl
 ·rfl
 ·cases d<;>rfl
 ·cases d<;>rfl
noncomputable def zmT(ρ:Env)(i:Nat)(x:SV)(rk rv:Option SV):Option D->Option (Fl×Env)
 |some (.dct t ks vs)=>rv.bind fun r=>(toD r).bind fun d=>rk.bind fun r=>(toD r).bind fun a=>if yK t a&&decide (ks.length<line) then some (.nx,ρ.set i (some (x.put (xo t ks vs a d)))) else none
 |_=>none
noncomputable def jm(ρ:Env)(i:Nat)(rk rv:Option SV):Option (Option SV)->Option (Fl×Env)
 |some (some x)=>zmT ρ i x rk rv x.cell
 |_=>none
@[simp] theorem zdU{i:Nat}{rk rv:Option SV}{t:Bool}{ks vs:List D}:jm ρ i rk rv (some (some (.obj true (.dct t ks vs))))=rv.bind fun r=>(toD r).bind fun d=>rk.bind fun r=>(toD r).bind fun a=>if yK t a&&decide (ks.length<line) then some (.nx,ρ.set i (some (.obj true (xo t ks vs a d)))) else none:=rfl
@[simp] theorem zdV{i:Nat}{rk rv:Option SV}{t:Bool}{ks vs:List D}:jm ρ i rk rv (some (some (.io (.dct t ks vs))))=rv.bind fun r=>(toD r).bind fun d=>rk.bind fun r=>(toD r).bind fun a=>if yK t a&&decide (ks.length<line) then some (.nx,ρ.set i (some (.io (xo t ks vs a d)))) else none:=rfl
@[simp] theorem zu7{i:Nat}{k v:E}:zH fa fuel (.dset i k v) ρ=jm ρ i (zk (zJ fa) k ρ) (zk (zJ fa) v ρ) ρ[i]? :=by
 rw[zcu];rcases h:ρ[i]? with _|_|(d|⟨_|_,d⟩|d)
 ·rfl
 ·rfl
 ·rfl
 ·rfl
 ·cases d<;>rfl
 ·cases d<;>rfl
@[simp] theorem zu8{i j:Nat}:zH fa fuel (.dupd i j) ρ=XE ρ i j:=rfl
@[simp] theorem zu9{m:M}:zH fa fuel (.exprM m) ρ=(vv fa m ρ).map fun x=>(.nx,x.2):=rfl
@[simp] theorem zva{c:E}{m:M}{a b:Ss}:zH fa fuel (.ifO c m a b) ρ=(zB (zJ fa) c ρ).bind fun k=>if k then zp fa fuel a ρ else (vv fa m ρ).bind fun x=>(yG x.1).bind fun k=>if k then zp fa fuel a x.2 else zp fa fuel b x.2:=rfl
noncomputable def zdW(ρ:Env)(xs:List AV):Ans->Option (SV×Env)
 | .ok r outs=>if r.fine&&outs.all wX then (xp ρ xs outs).map fun ρ'=>(r,ρ') else none
 | .ex _=>none
@[simp] theorem zvb{xs:List AV}{r:SV}{outs:List D}:zdW ρ xs (.ok r outs)=if r.fine&&outs.all wX then (xp ρ xs outs).map fun ρ'=>(r,ρ') else none:=rfl
@[simp] theorem zvc{f:Nat}{ma:MA}:vv fa (.call f ma) ρ=(xg (zJ fa) ma ρ).bind fun xs=>(fa f (xs.map Zo)).bind (zdW ρ xs):=rfl
@[simp] theorem zvd:xg fn .nil ρ=some []:=rfl
@[simp] theorem zve{c:E}{r:MA}:xg fn (.e c r) ρ=(zk fn c ρ).bind fun x=>(jG x).bind fun a=>(xg fn r ρ).map (a:: ·):=rfl
noncomputable def QO:Option (Option SV)->Option D
 |some (some x)=>x.cell
 |_=>none
@[simp] theorem zvf{i:Nat}:jH ρ i=QO ρ[i]? :=by
 unfold jH QO;rcases h:ρ[i]? with _|_|(d|⟨_|_,d⟩|d)<;>rfl
@[simp] theorem zvg{d:D}:QO (some (some (.obj true d)))=some d:=rfl
@[simp] theorem zvh{d:D}:QO (some (some (.io d)))=some d:=rfl
@[simp] theorem zvi{i:Nat}{r:MA}:xg fn (.s i r) ρ=(jH ρ i).bind fun d=>if vM d then (xg fn r ρ).map (.s i d:: ·) else none:=rfl
@[simp] theorem zvj{t:Bool}{r:MA}:xg fn (.n t r) ρ=(xg fn r ρ).map (.n t:: ·):=rfl
@[simp] theorem zvk:xp ρ [] []=some ρ:=rfl
@[simp] theorem zvl{i:Nat}{d d':D}{r:List AV}{ds:List D}:xp ρ (.s i d::r) (d'::ds)=xp (Yg ρ i d') r ds:=rfl
@[simp] theorem zvm{t:Bool}{d':D}{r:List AV}{ds:List D}:xp ρ (.n t::r) (d'::ds)=xp ρ r ds:=rfl
@[simp] theorem zvn{d:D}{r:List AV}{ds:List D}:xp ρ (.e d::r) ds=xp ρ r ds:=rfl
noncomputable def QP(ρ:Env)(i:Nat)(d:D):Option (Option SV)->Env
 |some (some x)=>ρ.set i (some (x.put d))
 |_=>ρ
@[simp] theorem zvo{i:Nat}{d:D}:Yg ρ i d=QP ρ i d ρ[i]? :=by
 unfold Yg QP;rcases h:ρ[i]? with _|_|(d|⟨_|_,d⟩|d)<;>rfl
@[simp] theorem zvp{i:Nat}{d d0:D}:QP ρ i d (some (some (.obj true d0)))=ρ.set i (some (.obj true d)):=rfl
@[simp] theorem zvq{i:Nat}{d d0:D}:QP ρ i d (some (some (.io d0)))=ρ.set i (some (.io d)):=rfl
@[simp] theorem zvr{d:D}:Zo (.e d)=d:=rfl
@[simp] theorem zvs{i:Nat}{d:D}:Zo (.s i d)=d:=rfl
@[simp] theorem zvt{t:Bool}:Zo (.n t)= .dct t [] []:=rfl
@[simp] theorem zvu{l:List D}:jG (.val (.tup l))=if plain (.tup l) then some (.e (.tup l)) else none:=rfl
@[simp] theorem zvv{t:Bool}{ks vs:List D}:vM (.dct t ks vs)=xu vs:=rfl
@[simp] theorem zvw{t:Bool}{ks vs:List D}:wX (.dct t ks vs)=xu vs:=rfl
@[simp] theorem zvx{d:D}:SV.fine (.val d)=plain d:=rfl
@[simp] theorem zvy{e:E}:zH fa fuel (.ret e) ρ=(zk (zJ fa) e ρ).bind fun r=>if r.lent then none else some (.rt r,ρ):=rfl
noncomputable def gX(ρ:Env)(i:Nat):Option (Option SV)->Option (Fl×Env)
 |some (some (.val d))=>some (.rt (.val d),ρ)
 |some (some (.obj _ d))=>some (.rt (.obj true d),ρ.set i none)
 |_=>none
@[simp] theorem zvz{i:Nat}{d:D}:gX ρ i (some (some (.val d)))=some (.rt (.val d),ρ):=rfl
@[simp] theorem zvA{i:Nat}{o:Bool}{d:D}:gX ρ i (some (some (.obj o d)))=some (.rt (.obj true d),ρ.set i none):=rfl
@[simp] theorem zvB{i:Nat}:zH fa fuel (.retV i) ρ=gX ρ i ρ[i]? :=by
 rw[zcv];rcases h:ρ[i]? with _|_|(d|⟨o,d⟩|d)<;>rfl
@[simp] theorem zvC{c:E}{a b:Ss}:zH fa fuel (.ifs c a b) ρ=(zB (zJ fa) c ρ).bind fun k=>if k then zp fa fuel a ρ else zp fa fuel b ρ:=rfl
theorem jn{i:Nat}{g:Bool}{src:Es}{body:Ss}:zH fa fuel (.for_ i g src body) ρ=(yi (zJ fa) src ρ).bind fun rs=>if rs.any SV.lent|| !free ρ i then none else (yw g rs).bind fun ds=>yx i (zp fa fuel body) ds ρ:=rfl
theorem zmU{i j:Nat}{body:Ss}:zH fa fuel (.forK i j body) ρ=if free ρ i then (XF ρ j).bind fun ks=>(yx i (zp fa fuel body) ks ρ).bind Qc else none:=rfl
@[simp] theorem zvD:Qc (.nx,ρ)=some (.nx,ρ):=rfl
theorem jo{i j:Nat}{body:Ss}:zH fa fuel (.forV i j body) ρ=if free ρ i then (Yh ρ j).bind fun x=>yx i (zp fa fuel body) x.1 x.2 else none:=rfl
theorem YB{c:E}{body:Ss}:zH fa fuel (.while_ c body) ρ=wt (zB (zJ fa) c) (zp fa fuel body) fuel ρ:=rfl
noncomputable def QQ(ρ:Env)(j:Nat):Option (Option SV)->Env
 |some (some (.obj true d))=>ρ.set j (some (.val d))
 |_=>ρ
@[simp] theorem zvE{j:Nat}:jI ρ j=QQ ρ j ρ[j]? :=by
 unfold jI QQ;rcases h:ρ[j]? with _|_|(d|⟨_|_,d⟩|d)<;>rfl
@[simp] theorem zvF{j:Nat}{d:D}:QQ ρ j (some (some (.val d)))=ρ:=rfl
@[simp] theorem zvG{j:Nat}{d:D}:QQ ρ j (some (some (.obj true d)))=ρ.set j (some (.val d)):=rfl
@[simp] theorem zvH{js:List Nat}{s:S}:zH fa fuel (.frz js s) ρ=zH fa fuel s (js.foldl jI ρ):=rfl
@[simp] theorem zvI:zH fa fuel .stop ρ=none:=rfl
@[simp] theorem zvJ:zp fa fuel .nil ρ=some (.nx,ρ):=rfl
noncomputable def QR(x:Fl×Env)(k:Env->Option (Fl×Env)):Option (Fl×Env):=match x.1 with
 | .nx=>k x.2
 |_=>some x
@[simp] theorem zvK{ρ:Env}{k:Env->Option (Fl×Env)}:QR (.nx,ρ) k=k ρ:=rfl
@[simp] theorem zvL{ρ:Env}{r:SV}{k:Env->Option (Fl×Env)}:QR (.rt r,ρ) k=some (.rt r,ρ):=rfl
@[simp] theorem YC{s:S}{ss:Ss}:zp fa fuel (.cons s ss) ρ=(zH fa fuel s ρ).bind fun x=>QR x (zp fa fuel ss):=by
 exact id rfl
noncomputable def YD:Option (Fl×Env)->Option SV
 |some (.rt r,_)=>some r
 |some (.nx,_)=>some (.val .non)
 |_=>none
@[simp] theorem zvM{r:SV}{ρ:Env}:YD (some (.rt r,ρ))=some r:=rfl
@[simp] theorem zvN{ρ:Env}:YD (some (.nx,ρ))=some (.val .non):=rfl
end
noncomputable def Vj:Option (Option SV)->Option SV
 |some (some (.val d))=>some (.val d)
 |some (some (.obj _ d))=>some (.obj false d)
 |some (some (.io d))=>some (.obj false d)
 |_=>none
@[simp] theorem zvO{ρ:Env}{i:Nat}:look ρ i=Vj ρ[i]? :=by
 unfold look Vj;rcases h:ρ[i]? with _|_|(d|⟨o,d⟩|d)<;>rfl
@[simp] theorem zvP{d:D}:Vj (some (some (.val d)))=some (.val d):=rfl
@[simp] theorem zvQ{o:Bool}{d:D}:Vj (some (some (.obj o d)))=some (.obj false d):=rfl
@[simp] theorem zvR{d:D}:Vj (some (some (.io d)))=some (.obj false d):=rfl
@[simp] theorem zvS{d:D}:zI (.val d)=d:=rfl
@[simp] theorem zvT{o:Bool}{d:D}:zI (.obj o d)=d:=rfl
@[simp] theorem ZC{d:D}:toD (.val d)=some d:=rfl
@[simp] theorem zdX{d:D}:toD (.obj true d)=some d:=rfl
@[simp] theorem zvU:xX []=some []:=rfl
@[simp] theorem zvV{r:SV}{rs:List SV}:xX (r::rs)=(toD r).bind fun d=>(xX rs).map (d:: ·):=rfl
@[simp] theorem zvW{d:D}:SV.lent (.val d)=false:=rfl
@[simp] theorem zvX{d:D}:SV.lent (.obj true d)=false:=rfl
@[simp] theorem zvY{i:Bool}:yN i=some (.val (.bl i)):=rfl
@[simp] theorem zvZ{b:Bool}:yG (.val (.bl b))=some b:=rfl
@[simp] theorem zv0{o:Bool}{l:List D}:yG (.obj o (.lst l))=some (!l.isEmpty):=rfl
theorem zmV{rs:List SV}{r:Option SV}(h:rs.any SV.lent=false):wO rs r=r:=by
 unfold wO;rw[h];cases r<;>rfl
theorem zdY{rs:List SV}{x:SV}(h:x.plain=true):wO rs (some x)=some x:=by
 unfold wO;simp[h]
@[simp] theorem zv1{rs:List SV}{x:Option SV}(h:rs.any SV.lent=false):wO rs x=x:=zmV h
@[simp] theorem zv2{rs:List SV}{x:SV}(h:x.plain=true):wO rs (some x)=some x:=zdY h
@[simp] theorem zv3{d:D}:SV.plain (.val d)=plain d:=rfl
@[simp] theorem zv4{i:Int}:plain (.int i)=true:=by simp[plain]
@[simp] theorem zv5{i:Bool}:plain (.bl i)=true:=by simp[plain]
@[simp] theorem zv6:plain .non=true:=by simp[plain]
@[simp] theorem zv7{l:List D}:plain (.tup l)=xu l:=rfl
@[simp] theorem zv8:xu []=true:=rfl
@[simp] theorem zv9{x:D}{xs:List D}:xu (x::xs)=(plain x&&xu xs):=rfl
@[simp] theorem zmW{P:Nat->Option Fn}{fuel n:Nat}:zJ (zD P fuel n)=zv P fuel n:=rfl
theorem zdZ: ∀(k:Nat) (ds:List D),wC [] k ds=ds.map fun d=>some (.val d)
 |_,[]=>rfl
 |k,d::r=>by simp[wC,zdZ (k+1) r]
theorem zmX(x:Option (Fl×Env)):(match jh [] x with|some (.ok r [])=>some r|_=>none)=YD x:=by
 rcases x with _|⟨_|_|_|r,ρ⟩<;>rfl
theorem zmY{P:Nat->Option Fn}{fuel n i:Nat}{F:Fn}{ds:List D}(h:P i=some F)(hl:ds.length=F.np)(hio:F.io=[])(hx:F.xb=none:=by rfl):
  zv P fuel (n+1) i ds=YD (zp (zD P fuel n) fuel F.body (ds.map (fun d=>some (.val d))++List.replicate (F.nl-F.np) none)):=by
 unfold zv zJ;rw[zD,h];simp only[Option.bind_some,if_pos hl,hio,zdZ,hx];exact zmX _
theorem zmZ{P:Nat->Option Fn}{fuel n i:Nat}{F:Fn}{ds:List D}(h:P i=some F)(hl:ds.length=F.np)(hx:F.xb=none:=by rfl):
  zD P fuel (n+1) i ds=jh F.io (zp (zD P fuel n) fuel F.body (wC F.io 0 ds++List.replicate (F.nl-F.np) none)):=by
 rw[zD,h];simp only[Option.bind_some,if_pos hl,hx]
@[simp] theorem zwa{a b:Int}:zg .add [.int a,.int b]=some (.val (.int (a+b))):=rfl
theorem gY{a b:List D}(h:a.length+b.length<=line):zg .add [.lst a,.lst b]=some (.obj true (.lst (a++b))):=by simp only[zg,JQ,if_pos h]
@[simp] theorem zwb{a b:Int}:zg .sub [.int a,.int b]=some (.val (.int (a-b))):=rfl
theorem zm0{a b:Int}(h: -(2 ^ 64)<a/\a<2 ^ 64):zg .mul [.int a,.int b]=some (.val (.int (a*b))):=by simp only[zg,Xo,if_pos (Or.inl h:_\/(-(2 ^ 64)<b/\b<2 ^ 64)),yo]
theorem zm1{a b:Int}(h: -(2 ^ 64)<b/\b<2 ^ 64):zg .mul [.int a,.int b]=some (.val (.int (a*b))):=by simp only[zg,Xo,if_pos (Or.inr h:(-(2 ^ 64)<a/\a<2 ^ 64)\/_),yo]
theorem gZ{a b:Int}(h:0<b/\b<1073741824):zg .fdiv [.int a,.int b]=some (.val (.int (a/b))):=by simp only[zg,JR,if_pos h,yo]
theorem jT{a b:Int}(h:0<b):zg .mod [.int a,.int b]=some (.val (.int (a%b))):=by simp only[zg,JS,if_pos h,yo]
@[simp] theorem zwc{a:Int}:zg .neg [.int a]=some (.val (.int (-a))):=rfl
theorem QS{a b:D}(h:zO 8 a=true)(h':zO 8 b=true):zg .eq [a,b]=some (.val (.bl (zN a b))):=by simp[zg,Xp,h,h']
theorem zaa{a b:D}(h:zO 8 a=true)(h':zO 8 b=true):zg .ne [a,b]=some (.val (.bl (!zN a b))):=by simp[zg,Xq,h,h']
@[simp] theorem zwd{a b:Int}:zg .eq [.int a,.int b]=some (.val (.bl (a==b))):=by rw[QS rfl rfl,zN]
@[simp] theorem zwe{a b:Int}:zg .ne [.int a,.int b]=some (.val (.bl (a != b))):=by rw[zaa rfl rfl,zN];rfl
@[simp] theorem zwf{a b:Int}:zg .lt [.int a,.int b]=some (.val (.bl (decide (a<b)))):=rfl
@[simp] theorem zwg{a b:Int}:zg .le [.int a,.int b]=some (.val (.bl (decide (a<=b)))):=rfl
@[simp] theorem zwh{a b:Int}:zg .gt [.int a,.int b]=some (.val (.bl (decide (b<a)))):=rfl
@[simp] theorem zwi{d:D}:zg .isN [d]=some (.val (.bl (Zn d))):=rfl
@[simp] theorem zwj{d:D}:zg .notN [d]=some (.val (.bl (!Zn d))):=rfl
@[simp] theorem zwk{l:List D}:zg .len [.tup l]=some (.val (.int l.length)):=rfl
@[simp] theorem zwl{l:List D}:zg .len [.lst l]=some (.val (.int l.length)):=rfl
@[simp] theorem zwm{i:Int}:zg .abs [.int i]=some (.val (.int (if i<0 then -i else i))):=rfl
@[simp] theorem zd0{i j:Int}:zg .min2 [.int i,.int j]=some (.val (.int (if j<i then j else i))):=rfl
@[simp] theorem zd1{i j:Int}:zg .max2 [.int i,.int j]=some (.val (.int (if j>i then j else i))):=rfl
theorem zm2{n:Int}{r:List Int}:zg .maxL [.lst ((n::r).map D.int)]=some (.val (.int (r.foldl max n))):=by
 have: ∀l:List Int,ints? (l.map D.int)=some l:=fun l=>by induction l with
  |nil=>rfl
  |cons x l ih=>simp[ints?,ih]
 simp only[zg,JZ,this,Option.bind_some,yo]
theorem zm3{r:List Int}:zg .sumL [.lst (r.map D.int)]=some (.val (.int r.sum)):=by
 have: ∀l:List Int,ints? (l.map D.int)=some l:=fun l=>by induction l with
  |nil=>rfl
  |cons x l ih=>simp[ints?,ih]
 simp only[zg,Qa,this,Option.bind_some,yo]
@[simp] theorem zwn{l:List D}:zg .toTup [.lst l]=some (.val (.tup l)):=rfl
@[simp] theorem zwo{t:Ty}{d:D}:zg (.inst t) [d]=some (.val (.bl (jE t d))):=rfl
theorem zm4{l:List D}{i:Int}:zg .idx [.tup l,.int i]=(atI l i).map .val:=rfl
theorem YF{l:List D}{i:Int}:zg .idx [.lst l,.int i]=(atI l i).map .val:=rfl
theorem atI_nat{α:Type}{l:List α}{k:Nat}(h:k<l.length):atI l (k:Int)=some l[k]:=by
 unfold atI ixN;rw[if_pos (by omega),if_pos (by omega)];simp[h]
@[simp] theorem zwp{a b:D}:zg .idx [.tup [a,b],.int 0]=some (.val a):=rfl
@[simp] theorem zwq{a b:D}:zg .idx [.tup [a,b],.int 1]=some (.val b):=rfl
@[simp] theorem zwr{b:Int}:jE .bool (.int b)=false:=rfl
@[simp] theorem zws{b:Int}:jE .int (.int b)=true:=rfl
@[simp] theorem zwt{l:List D}:jE .tuple (.tup l)=true:=rfl
@[simp] theorem zwu:Zn .non=true:=rfl
theorem zab{α:Type}{f:α->D}{test:D->Option Bool}{elt:D->Option SV}{t:α->Bool}{e:α->D}: ∀{xs:List α},(∀x∈xs,test (f x)=some (t x))->(∀x∈xs,t x=true->(elt (f x)).bind toD=some (e x))->
  yS test elt (xs.map f)=some ((xs.filter t).map e)
 |[],_,_=>rfl
 |d::r,h1,h2=>by
  have ih:=zab (xs:=r) (fun x hx=>h1 x (Kf _ hx)) (fun x hx=>h2 x (Kf _ hx));rw[List.map_cons,yS,h1 d Ke];simp only[Option.bind_some]
  cases ht:t d with
  |false=>simp[ih,ht]
  |true=>
   have h3:=h2 d Ke ht;rw[jo1] at h3;obtain⟨x,e1,e2⟩:=h3;simp[ih,ht,e1,e2]
theorem jp{fn:Nat->List D->Option SV}{ρ:Env}{g:Bool}{src:Es}{cond elt:E}{rs:List SV}{α:Type}{f:α->D}{xs:List α}(t:α->Bool)(e:α->D)(h:yi fn src ρ=some rs)(hi:yw g rs=some (xs.map f))(hl:xs.length<=line)
  (ht: ∀x∈xs,zB fn cond (some (.val (f x))::ρ)=some (t x)) (he: ∀x∈xs,t x=true->(zk fn elt (some (.val (f x))::ρ)).bind toD=some (e x)):
  zk fn (.comp g src cond elt) ρ=some (.obj true (.lst ((xs.filter t).map e))):=by
 rw[zmM,h];simp only[Option.bind_some,hi,List.length_map,if_pos hl];rw[zab ht he];rfl
theorem YG{fn:Nat->List D->Option SV}{ρ:Env}{g:Bool}{src:Es}{elt:E}{rs:List SV}{α:Type}{f:α->D}{xs:List α}(e:α->D)(h:yi fn src ρ=some rs)(hi:yw g rs=some (xs.map f))(hl:xs.length<=line)
  (he: ∀x∈xs,(zk fn elt (some (.val (f x))::ρ)).bind toD=some (e x)):
  zk fn (.comp g src (.bl true) elt) ρ=some (.obj true (.lst (xs.map e))):=by
 have:=jp (fun _=>true) e h hi hl (fun _ _=>zmO) (fun x hx _=>he x hx);have e2:xs.filter (fun _=>true)=xs:=List.filter_eq_self.mpr fun _ _=>rfl
 rwa [e2] at this
theorem zd2{i:Nat}{body:Env->Option (Fl×Env)}(I:List D->Env->Prop){ds:List D}: ∀{post pre:List D} {ρ:Env},ds=pre++post->I pre ρ->
  (∀pre d post ρ,ds=pre++d::post->I pre ρ->∃fl ρ',body (ρ.set i (some (.val d)))=some (fl,ρ')/\(fl= .nx\/fl= .ct)/\I (pre++[d]) ρ')->
  ∃ρ',yx i body post ρ=some (.nx,ρ')/\I ds ρ'
 |[],pre,ρ,e,h,_=>⟨ρ,rfl,by rw[e];simpa using h⟩
 |d::post,pre,ρ,e,h,st=>by
  obtain⟨fl,ρ1,e1,e2,h1⟩:=st pre d post ρ e h;obtain⟨ρ',e3,h3⟩:=zd2 I (ds:=ds) (post:=post) (pre:=pre++[d]) (ρ:=ρ1) (by simp[e]) h1 st;refine⟨ρ',?_,h3⟩;rw[yx,e1];simp only[Option.bind_some];rcases e2 with rfl|rfl<;>exact e3
theorem zd3{i:Nat}{body:Env->Option (Fl×Env)}(I:List D->Env->Prop)(Q:SV->Prop){ds:List D}: ∀{post pre:List D} {ρ:Env},ds=pre++post->I pre ρ->
  (∀pre d post ρ,ds=pre++d::post->I pre ρ->∃fl ρ',body (ρ.set i (some (.val d)))=some (fl,ρ')/\(((fl= .nx\/fl= .ct)/\I (pre++[d]) ρ')\/∃r,fl= .rt r/\Q r))->
  ∃fl ρ',yx i body post ρ=some (fl,ρ')/\((fl= .nx/\I ds ρ')\/∃r,fl= .rt r/\Q r)
 |[],pre,ρ,e,h,_=>⟨_,ρ,rfl,.inl ⟨rfl,by rw[e];simpa using h⟩⟩
 |d::post,pre,ρ,e,h,st=>by
  obtain⟨fl,ρ1,e1,e2⟩:=st pre d post ρ e h;rcases e2 with ⟨e2,h1⟩|⟨r,rfl,q⟩
  ·obtain⟨fl',ρ',e3,h3⟩:=zd3 I Q (ds:=ds) (post:=post) (pre:=pre++[d]) (ρ:=ρ1) (by simp[e]) h1 st
   refine⟨fl',ρ',?_,h3⟩;rw[yx,e1];simp only[Option.bind_some];rcases e2 with rfl|rfl<;>exact e3
  ·refine⟨_,ρ1,?_,.inr ⟨r,rfl,q⟩⟩
   rw[yx,e1];rfl
theorem zm5{i:Nat}{body:Env->Option (Fl×Env)}(I:Nat->Env->Prop){ds:List D}{ρ:Env}(h0:I 0 ρ)
  (st: ∀k ρ (hk:k<ds.length),I k ρ->∃fl ρ',body (ρ.set i (some (.val ds[k])))=some (fl,ρ')/\(fl= .nx\/fl= .ct)/\I (k+1) ρ'):
  ∃ρ',yx i body ds ρ=some (.nx,ρ')/\I ds.length ρ':=by
 refine zd2 (fun pre ρ=>I pre.length ρ) (ds:=ds) (post:=ds) (pre:=[]) rfl h0 fun pre d post ρ e h=>?_
 subst e;have hk:pre.length<(pre++d::post).length:=by simp
 obtain⟨fl,ρ',h1,h2,h3⟩:=st pre.length ρ hk h;refine⟨fl,ρ',?_,h2,by simpa using h3⟩;rw[<-h1];simp
theorem zm6{i:Nat}{body:Env->Option (Fl×Env)}(I:Nat->Env->Prop)(Q:SV->Prop){ds:List D}{ρ:Env}(h0:I 0 ρ)
  (st: ∀k ρ (hk:k<ds.length),I k ρ->∃fl ρ',body (ρ.set i (some (.val ds[k])))=some (fl,ρ')/\(((fl= .nx\/fl= .ct)/\I (k+1) ρ')\/∃r,fl= .rt r/\Q r)):
  ∃fl ρ',yx i body ds ρ=some (fl,ρ')/\((fl= .nx/\I ds.length ρ')\/∃r,fl= .rt r/\Q r):=by
 refine zd3 (fun pre ρ=>I pre.length ρ) Q (ds:=ds) (post:=ds) (pre:=[]) rfl h0 fun pre d post ρ e h=>?_
 subst e;have hk:pre.length<(pre++d::post).length:=by simp
 obtain⟨fl,ρ',h1,h2⟩:=st pre.length ρ hk h;refine⟨fl,ρ',?_,by simpa using h2⟩;rw[<-h1];simp
theorem zac{i:Nat}{body:Env->Option (Fl×Env)}{α:Type}{f:α->D}{xs:List α}(I:Nat->Env->Prop){ρ:Env}(h0:I 0 ρ)
  (st: ∀k ρ (hk:k<xs.length),I k ρ->∃fl ρ',body (ρ.set i (some (.val (f xs[k]))))=some (fl,ρ')/\(fl= .nx\/fl= .ct)/\I (k+1) ρ'):
  ∃ρ',yx i body (xs.map f) ρ=some (.nx,ρ')/\I xs.length ρ':=by
 have:=zm5 (i:=i) (body:=body) I (ds:=xs.map f) (ρ:=ρ) h0 fun k ρ hk h=>by
  obtain⟨fl,ρ',h1,h2⟩:=st k ρ (by simpa using hk) h;exact⟨fl,ρ',by rw[List.getElem_map];exact h1,h2⟩
 simpa using this
theorem zm7{i:Nat}{body:Env->Option (Fl×Env)}{α:Type}{f:α->D}{xs:List α}(I:Nat->Env->Prop)(Q:SV->Prop){ρ:Env}(h0:I 0 ρ)
  (st: ∀k ρ (hk:k<xs.length),I k ρ->∃fl ρ',body (ρ.set i (some (.val (f xs[k]))))=some (fl,ρ')/\(((fl= .nx\/fl= .ct)/\I (k+1) ρ')\/∃r,fl= .rt r/\Q r)):
  ∃fl ρ',yx i body (xs.map f) ρ=some (fl,ρ')/\((fl= .nx/\I xs.length ρ')\/∃r,fl= .rt r/\Q r):=by
 have:=zm6 (i:=i) (body:=body) I Q (ds:=xs.map f) (ρ:=ρ) h0 fun k ρ hk h=>by
  obtain⟨fl,ρ',h1,h2⟩:=st k ρ (by simpa using hk) h;exact⟨fl,ρ',by rw[List.getElem_map];exact h1,h2⟩
 simpa using this
theorem zd4{i:Nat}{body:Env->Option (Fl×Env)}(I:Nat->Env->Prop){a:Int}{m:Nat}{ρ:Env}(h0:I 0 ρ)
  (st: ∀k ρ,k<m->I k ρ->∃fl ρ',body (ρ.set i (some (.val (.int (a+(k:Int))))))=some (fl,ρ')/\(fl= .nx\/fl= .ct)/\I (k+1) ρ'):
  ∃ρ',yx i body ((List.range m).map fun (k:Nat)=>D.int (a+(k:Int))) ρ=some (.nx,ρ')/\I m ρ':=by
 have:=zac (i:=i) (body:=body) (f:=fun (k:Nat)=>D.int (a+(k:Int))) (xs:=List.range m) I (ρ:=ρ) h0 fun k ρ hk h=>by
  obtain⟨fl,ρ',h1,h2⟩:=st k ρ (by simpa using hk) h;exact⟨fl,ρ',by rw[List.getElem_range];exact h1,h2⟩
 simpa using this
theorem QT{test:Env->Option Bool}{body:Env->Option (Fl×Env)}(I:Nat->Env->Prop)(J:Env->Prop): ∀{m n:Nat} {ρ:Env},m<n->I m ρ->
  (∀m ρ,I m ρ->(test ρ=some false/\J ρ)\/(test ρ=some true/\∃fl ρ' m',body ρ=some (fl,ρ')/\(fl= .nx\/fl= .ct)/\m'<m/\I m' ρ'))->
  ∃ρ',wt test body n ρ=some (.nx,ρ')/\J ρ'
 |m,0,ρ,hn,_,_=>by omega
 |m,n+1,ρ,hn,h,st=>by
  rcases st m ρ h with ⟨e,j⟩|⟨e,fl,ρ1,m',e1,e2,hm,h1⟩
  ·exact⟨ρ,by rw[wt,e];rfl,j⟩
  ·obtain⟨ρ',e3,j⟩:=QT I J (m:=m') (n:=n) (ρ:=ρ1) (by omega) h1 st
   refine⟨ρ',?_,j⟩;rw[wt,e];simp only[Option.bind_some,if_true,e1];rcases e2 with rfl|rfl<;>exact e3
theorem zd5{test:Env->Option Bool}{body:Env->Option (Fl×Env)}(I:Nat->Env->Prop)(J:Env->Prop)(Q:SV->Prop): ∀{m n:Nat} {ρ:Env},m<n->I m ρ->
  (∀m ρ,I m ρ->(test ρ=some false/\J ρ)\/(test ρ=some true/\∃fl ρ',body ρ=some (fl,ρ')/\(((fl= .nx\/fl= .ct)/\∃m',m'<m/\I m' ρ')\/∃r,fl= .rt r/\Q r)))->
  ∃fl ρ',wt test body n ρ=some (fl,ρ')/\((fl= .nx/\J ρ')\/∃r,fl= .rt r/\Q r)
 |m,0,ρ,hn,_,_=>by omega
 |m,n+1,ρ,hn,h,st=>by
  rcases st m ρ h with ⟨e,j⟩|⟨e,fl,ρ1,e1,⟨e2,m',hm,h1⟩|⟨r,rfl,q⟩⟩
  ·exact⟨_,ρ,by rw[wt,e];rfl,.inl ⟨rfl,j⟩⟩
  ·obtain⟨fl',ρ',e3,j⟩:=zd5 I J Q (m:=m') (n:=n) (ρ:=ρ1) (by omega) h1 st
   refine⟨fl',ρ',?_,j⟩;rw[wt,e];simp only[Option.bind_some,if_true,e1];rcases e2 with rfl|rfl<;>exact e3
  ·refine⟨_,ρ1,?_,.inr ⟨r,rfl,q⟩⟩
   rw[wt,e];simp only[Option.bind_some,if_true,e1]
end L2.LW
namespace LK
open L2.LW
noncomputable def Vk:Ss:=(.cons (.ifs (.or (.prim (.inst .bool) (.cons (.var 0) .nil)) (.not (.prim (.inst .int) (.cons (.var 0) .nil)))) (.cons (.ret (.bl false))
  .nil) .nil)
  (.cons (.ret (.chain .le .le (.var 1) (.var 0) (.var 2)))
  .nil))
noncomputable def Vl:Ss:=(.cons (.ret (.and (.prim (.inst .tuple) (.cons (.var 0) .nil)) (.prim .eq (.cons (.prim .len (.cons (.var 0) .nil)) (.cons (.int 2) .nil)))))
  .nil)
noncomputable def Vm:Ss:=(.cons (.ret (.and (.call 1 (.cons (.var 0) .nil)) (.and (.call 0 (.cons (.prim .idx (.cons (.var 0) (.cons (.int 0) .nil))) (.cons (.int 0) (.cons (.int 7) .nil)))) (.call 0 (.cons (.prim .idx (.cons (.var 0) (.cons (.int 1) .nil))) (.cons (.int 0) (.cons (.int 7) .nil)))))))
  .nil)
noncomputable def Vn:Ss:=(.cons (.ret (.and (.call 1 (.cons (.var 0) .nil)) (.and (.call 0 (.cons (.prim .idx (.cons (.var 0) (.cons (.int 1) .nil))) (.cons (.int 1) (.cons (.int 4) .nil)))) (.call 0 (.cons (.prim .idx (.cons (.var 0) (.cons (.int 0) .nil))) (.cons (.int 0) (.cons (.prim .idx (.cons (.var 0) (.cons (.int 1) .nil))) .nil)))))))
  .nil)
noncomputable def Vo:Ss:=(.cons (.ret (.prim .all (.cons (.comp true (.cons (.int 1) (.cons (.prim .len (.cons (.var 0) .nil)) .nil)) (.bl true) (.prim .lt (.cons (.prim .idx (.cons (.var 1) (.cons (.prim .sub (.cons (.var 0) (.cons (.int 1) .nil))) .nil))) (.cons (.prim .idx (.cons (.var 1) (.cons (.var 0) .nil))) .nil)))) .nil)))
  .nil)
noncomputable def Vp:Ss:=(.cons (.ifs (.or (.not (.prim (.inst .tuple) (.cons (.var 0) .nil))) (.not (.chain .le .le (.int 1) (.prim .len (.cons (.var 0) .nil)) (.int 24)))) (.cons (.ret (.bl false))
  .nil) .nil)
  (.cons (.ret (.and (.prim .all (.cons (.comp false (.cons (.var 0) .nil) (.bl true) (.call 2 (.cons (.var 0) .nil))) .nil)) (.call 4 (.cons (.var 0) .nil))))
  .nil))
noncomputable def Vq:Ss:=(.cons (.ifs (.not (.call 5 (.cons (.var 0) .nil))) (.cons .stop
  .nil) .nil)
  (.cons (.retV 0)
  .nil))
noncomputable def Vr:Ss:=(.cons (.ifs (.not (.call 3 (.cons (.var 0) .nil))) (.cons .stop
  .nil) .nil)
  (.cons (.retV 0)
  .nil))
noncomputable def Vs:Ss:=(.cons (.ifs (.or (.not (.call 2 (.cons (.var 1) .nil))) (.prim .nin (.cons (.var 1) (.cons (.var 0) .nil)))) (.cons .stop
  .nil) .nil)
  (.cons (.retV 1)
  .nil))
noncomputable def Vt:Ss:=(.cons (.ret (.tup (.cons (.prim .min2 (.cons (.prim .abs (.cons (.var 0) .nil)) (.cons (.prim .abs (.cons (.var 1) .nil)) .nil))) (.cons (.prim .max2 (.cons (.prim .abs (.cons (.var 0) .nil)) (.cons (.prim .abs (.cons (.var 1) .nil)) .nil))) .nil))))
  .nil)
noncomputable def Vu:Ss:=(.cons (.ret (.prim .eq (.cons (.call 9 (.cons (.prim .sub (.cons (.prim .idx (.cons (.var 2) (.cons (.int 0) .nil))) (.cons (.prim .idx (.cons (.var 1) (.cons (.int 0) .nil))) .nil))) (.cons (.prim .sub (.cons (.prim .idx (.cons (.var 2) (.cons (.int 1) .nil))) (.cons (.prim .idx (.cons (.var 1) (.cons (.int 1) .nil))) .nil))) .nil))) (.cons (.var 0) .nil))))
  .nil)
noncomputable def Vv:Ss:=(.cons (.ret (.comp false (.cons (.var 0) .nil) (.call 10 (.cons (.var 2) (.cons (.var 3) (.cons (.var 0) .nil)))) (.var 0)))
  .nil)
noncomputable def Vw:Ss:=(.cons (.expr (.call 6 (.cons (.var 0) .nil)))
  (.cons (.expr (.call 7 (.cons (.var 1) .nil)))
  (.cons (.expr (.call 8 (.cons (.var 0) (.cons (.var 2) .nil))))
  (.cons (.ret (.call 11 (.cons (.var 0) (.cons (.var 1) (.cons (.var 2) .nil)))))
  .nil))))
noncomputable def Vx:Ss:=(.cons (.ifs (.prim .lt (.cons (.var 1) (.cons (.prim .len (.cons (.var 0) .nil)) .nil))) (.cons (.ret (.prim .idx (.cons (.var 0) (.cons (.var 1) .nil))))
  .nil) .nil)
  (.cons (.ret (.int 0))
  .nil))
noncomputable def Vy:Ss:=(.cons (.ret (.prim .mod (.cons (.prim .mod (.cons (.prim .mul (.cons (.var 0) (.cons (.int 48271) .nil))) (.cons (.var 1) .nil))) (.cons (.var 2) .nil))))
  .nil)
noncomputable def QU:Ss:=(.cons (.asg 12 (.prim .add (.cons (.prim .add (.cons (.call 13 (.cons (.var 0) (.cons (.prim .add (.cons (.prim .add (.cons (.var 1) (.cons (.int 2) .nil))) (.cons (.prim .mod (.cons (.prim .add (.cons (.var 10) (.cons (.prim .mul (.cons (.int 2) (.cons (.var 11) .nil))) .nil))) (.cons (.int 7) .nil))) .nil))) .nil))) (.cons (.prim .mul (.cons (.prim .mul (.cons (.int 31) (.cons (.var 10) .nil))) (.cons (.var 10) .nil))) .nil))) (.cons (.prim .mul (.cons (.prim .mul (.cons (.int 57) (.cons (.var 11) .nil))) (.cons (.var 11) .nil))) .nil))))
  (.cons (.ifs (.or (.prim .eq (.cons (.var 8) (.cons (.int 0) .nil))) (.prim .gt (.cons (.call 14 (.cons (.var 12) (.cons (.int 9931) (.cons (.prim .idx (.cons (.lst (.cons (.int 2) (.cons (.int 4) (.cons (.int 7) .nil)))) (.cons (.prim .sub (.cons (.var 8) (.cons (.int 1) .nil))) .nil))) .nil)))) (.cons (.int 0) .nil)))) (.cons (.app 9 (.tup (.cons (.prim .add (.cons (.var 6) (.cons (.var 10) .nil))) (.cons (.prim .add (.cons (.var 7) (.cons (.var 11) .nil))) .nil))))
  .nil) .nil)
  .nil))
noncomputable def Vz:Ss:=(.cons (.for_ 11 true (.cons (.var 5) .nil) QU)
  .nil)
noncomputable def VA:Ss:=(.cons (.asg 3 (.call 13 (.cons (.var 0) (.cons (.var 1) .nil))))
  (.cons (.asg 4 (.prim .add (.cons (.int 1) (.cons (.call 14 (.cons (.var 3) (.cons (.int 9973) (.cons (.int 5) .nil)))) .nil))))
  (.cons (.asg 5 (.prim .add (.cons (.int 1) (.cons (.call 14 (.cons (.var 3) (.cons (.int 9967) (.cons (.int 6) .nil)))) .nil))))
  (.cons (.asg 6 (.call 14 (.cons (.call 13 (.cons (.var 0) (.cons (.prim .add (.cons (.var 1) (.cons (.int 1) .nil))) .nil))) (.cons (.int 9949) (.cons (.prim .sub (.cons (.int 9) (.cons (.var 4) .nil))) .nil)))))
  (.cons (.asg 7 (.call 14 (.cons (.call 13 (.cons (.var 0) (.cons (.prim .add (.cons (.var 1) (.cons (.int 1) .nil))) .nil))) (.cons (.int 9941) (.cons (.prim .sub (.cons (.int 9) (.cons (.var 5) .nil))) .nil)))))
  (.cons (.asg 8 (.call 14 (.cons (.prim .add (.cons (.var 3) (.cons (.int 3) .nil))) (.cons (.int 9907) (.cons (.int 4) .nil)))))
  (.cons (.asg 9 (.lst .nil))
  (.cons (.for_ 10 true (.cons (.var 4) .nil) Vz)
  (.cons (.ifs (.not (.var 9)) (.cons (.asg 9 (.lst (.cons (.tup (.cons (.var 6) (.cons (.var 7) .nil))) .nil)))
  .nil) .nil)
  (.cons (.ret (.prim .toTup (.cons (.prim .cutTo (.cons (.var 9) (.cons (.var 2) .nil))) .nil)))
  .nil))))))))))
noncomputable def VB:Ss:=(.cons (.asg 1 (.lst (.cons (.tup (.cons (.int 1) (.cons (.int 2) .nil))) (.cons (.tup (.cons (.int 0) (.cons (.int 1) .nil))) (.cons (.tup (.cons (.int 1) (.cons (.int 1) .nil))) (.cons (.tup (.cons (.int 1) (.cons (.int 2) .nil))) (.cons (.tup (.cons (.int 0) (.cons (.int 2) .nil))) (.cons (.tup (.cons (.int 1) (.cons (.int 3) .nil))) (.cons (.tup (.cons (.int 2) (.cons (.int 3) .nil))) (.cons (.tup (.cons (.int 0) (.cons (.int 1) .nil))) (.cons (.tup (.cons (.int 1) (.cons (.int 2) .nil))) (.cons (.tup (.cons (.int 2) (.cons (.int 2) .nil))) (.cons (.tup (.cons (.int 0) (.cons (.int 3) .nil))) (.cons (.tup (.cons (.int 1) (.cons (.int 4) .nil))) (.cons (.tup (.cons (.int 2) (.cons (.int 4) .nil))) .nil)))))))))))))))
  (.cons (.ret (.prim .idx (.cons (.prim .add (.cons (.var 1) (.cons (.lst (.cons (.tup (.cons (.int 3) (.cons (.int 3) .nil))) (.cons (.tup (.cons (.int 3) (.cons (.int 4) .nil))) (.cons (.tup (.cons (.int 0) (.cons (.int 4) .nil))) (.cons (.tup (.cons (.int 4) (.cons (.int 4) .nil))) (.cons (.tup (.cons (.int 1) (.cons (.int 2) .nil))) (.cons (.tup (.cons (.int 1) (.cons (.int 1) .nil))) .nil))))))) .nil))) (.cons (.prim .mod (.cons (.var 0) (.cons (.int 19) .nil))) .nil))))
  .nil))
noncomputable def YH:Ss:=(.cons (.ifs (.prim .nin (.cons (.var 7) (.cons (.var 3) .nil))) (.cons (.dset 3 (.var 7) (.var 6))
  (.cons (.app 5 (.var 7))
  .nil)) .nil)
  .nil)
noncomputable def QV:Ss:=(.cons (.for_ 7 false (.cons (.call 11 (.cons (.var 0) (.cons (.var 1) (.cons (.var 6) .nil)))) .nil) YH)
  .nil)
noncomputable def QW:Ss:=(.cons (.asg 5 (.lst .nil))
  (.cons (.forV 6 4 QV)
  (.cons (.mov 4 5)
  .nil)))
noncomputable def VC:Ss:=(.cons (.asg 3 (.done true (.var 2) .non))
  (.cons (.asg 4 (.lst (.cons (.var 2) .nil)))
  (.cons (.while_ (.prim .gt (.cons (.prim .len (.cons (.var 4) .nil)) (.cons (.int 0) .nil))) QW)
  (.cons (.retV 3)
  .nil))))
noncomputable def VD:Ss:=(.cons (.ret (.prim .maxL (.cons (.comp true (.cons (.int 1) (.cons (.prim .add (.cons (.prim .idx (.cons (.var 0) (.cons (.int 1) .nil))) (.cons (.int 1) .nil))) .nil)) (.and (.prim .eq (.cons (.prim .mod (.cons (.prim .idx (.cons (.var 1) (.cons (.int 0) .nil))) (.cons (.var 0) .nil))) (.cons (.int 0) .nil))) (.prim .eq (.cons (.prim .mod (.cons (.prim .idx (.cons (.var 1) (.cons (.int 1) .nil))) (.cons (.var 0) .nil))) (.cons (.int 0) .nil)))) (.var 0)) .nil)))
  .nil)
noncomputable def VE:Ss:=(.cons (.asg 1 (.call 21 (.cons (.var 0) .nil)))
  (.cons (.ret (.prim .eq (.cons (.prim .mod (.cons (.prim .add (.cons (.prim .fdiv (.cons (.prim .idx (.cons (.var 0) (.cons (.int 0) .nil))) (.cons (.var 1) .nil))) (.cons (.prim .fdiv (.cons (.prim .idx (.cons (.var 0) (.cons (.int 1) .nil))) (.cons (.var 1) .nil))) .nil))) (.cons (.int 2) .nil))) (.cons (.int 1) .nil))))
  .nil))
noncomputable def VF:Ss:=(.cons (.asg 2 (.call 21 (.cons (.var 0) .nil)))
  (.cons (.asg 3 (.prim .fdiv (.cons (.prim .idx (.cons (.var 1) (.cons (.int 0) .nil))) (.cons (.var 2) .nil))))
  (.cons (.asg 4 (.prim .fdiv (.cons (.prim .idx (.cons (.var 1) (.cons (.int 1) .nil))) (.cons (.var 2) .nil))))
  (.cons (.ifs (.call 22 (.cons (.var 0) .nil)) (.cons (.ret (.prim .mod (.cons (.prim .add (.cons (.var 3) (.cons (.var 4) .nil))) (.cons (.int 2) .nil))))
  .nil) .nil)
  (.cons (.ret (.prim .mod (.cons (.var 3) (.cons (.int 2) .nil))))
  .nil)))))
noncomputable def VG:Ss:=(.cons (.ret (.comp false (.cons (.var 0) .nil) (.prim .eq (.cons (.call 23 (.cons (.var 2) (.cons (.var 0) .nil))) (.cons (.var 3) .nil))) (.var 0)))
  .nil)
noncomputable def VH:Ss:=(.cons (.expr (.call 6 (.cons (.var 0) .nil)))
  (.cons (.expr (.call 7 (.cons (.var 1) .nil)))
  (.cons (.ret (.lst (.cons (.call 24 (.cons (.var 0) (.cons (.var 1) (.cons (.int 0) .nil)))) (.cons (.call 24 (.cons (.var 0) (.cons (.var 1) (.cons (.int 1) .nil)))) .nil))))
  .nil)))
noncomputable def VI:Ss:=(.cons (.ifs (.prim .nin (.cons (.var 4) (.cons (.var 3) .nil))) (.cons (.asg 5 (.call 20 (.cons (.var 0) (.cons (.var 1) (.cons (.var 4) .nil)))))
  (.cons (.dupd 3 5)
  (.cons (.app 2 (.prim .skeys (.cons (.var 5) .nil)))
  .nil))) .nil)
  .nil)
noncomputable def VJ:Ss:=(.cons (.asg 2 (.lst .nil))
  (.cons (.asg 3 (.dnew true))
  (.cons (.forV 4 0 VI)
  (.cons (.retV 2)
  .nil))))
noncomputable def jU:Ss:=(.cons (.ifs (.prim .nin (.cons (.var 5) (.cons (.var 4) .nil))) (.cons (.dset 4 (.var 5) (.bl true))
  (.cons (.ifO (.prim .nin (.cons (.var 5) (.cons (.var 2) .nil))) (.call 37 (.e (.var 0) (.e (.var 1) (.s 2 (.e (.prim .idx (.cons (.var 2) (.cons (.var 5) .nil))) (.s 4 .nil)))))) (.cons (.dset 2 (.var 3) (.var 5))
  (.cons (.dset 2 (.var 5) (.var 3))
  (.cons (.ret (.bl true))
  .nil))) .nil)
  .nil)) .nil)
  .nil)
noncomputable def YI:Ss:=(.cons (.for_ 5 false (.cons (.call 11 (.cons (.var 0) (.cons (.var 1) (.cons (.var 3) .nil)))) .nil) jU)
  (.cons (.ret (.bl false))
  .nil))
noncomputable def QX:Ss:=(.cons (.exprM (.call 37 (.e (.var 0) (.e (.var 1) (.s 2 (.e (.var 3) (.n true .nil)))))))
  .nil)
noncomputable def VL:Ss:=(.cons (.asg 2 (.dnew true))
  (.cons (.for_ 3 false (.cons (.call 24 (.cons (.var 0) (.cons (.var 1) (.cons (.int 0) .nil)))) .nil) QX)
  (.cons (.retV 2)
  .nil)))
noncomputable def VM:Ss:=(.cons (.ret (.comp false (.cons (.var 0) .nil) (.and (.prim .inn (.cons (.var 0) (.cons (.var 2) .nil))) (.prim .lt (.cons (.var 0) (.cons (.prim .idx (.cons (.var 2) (.cons (.var 0) .nil))) .nil)))) (.tup (.cons (.var 0) (.cons (.prim .idx (.cons (.var 2) (.cons (.var 0) .nil))) .nil)))))
  .nil)
noncomputable def VN:Ss:=(.cons (.ifs (.prim .nin (.cons (.var 9) (.cons (.var 5) .nil))) (.cons (.app 5 (.var 9))
  (.cons (.app 7 (.prim .idx (.cons (.var 2) (.cons (.var 9) .nil))))
  .nil)) .nil)
  .nil)
noncomputable def QY:Ss:=(.cons (.for_ 9 false (.cons (.call 11 (.cons (.var 0) (.cons (.var 1) (.cons (.var 8) .nil)))) .nil) VN)
  .nil)
noncomputable def QZ:Ss:=(.cons (.asg 7 (.lst .nil))
  (.cons (.forV 8 6 QY)
  (.cons (.asg 4 (.prim .add (.cons (.var 4) (.cons (.var 7) .nil))))
  (.cons (.mov 6 7)
  .nil))))
noncomputable def VO:Ss:=(.cons (.asg 4 (.comp false (.cons (.call 24 (.cons (.var 0) (.cons (.var 1) (.cons (.var 3) .nil)))) .nil) (.prim .nin (.cons (.var 0) (.cons (.var 3) .nil))) (.var 0)))
  (.cons (.asg 5 (.lst .nil))
  (.cons (.mov 6 4)
  (.cons (.while_ (.prim .gt (.cons (.prim .len (.cons (.var 6) .nil)) (.cons (.int 0) .nil))) QZ)
  (.cons (.frz [4,5] (.ret (.tup (.cons (.var 4) (.cons (.var 5) .nil)))))
  .nil)))))
noncomputable def VP:Ss:=(.cons (.expr (.call 6 (.cons (.var 0) .nil)))
  (.cons (.expr (.call 7 (.cons (.var 1) .nil)))
  (.cons (.ret (.call 39 (.cons (.var 0) (.cons (.call 38 (.cons (.var 0) (.cons (.var 1) .nil))) .nil))))
  .nil)))
noncomputable def VQ:Ss:=(.cons (.expr (.call 6 (.cons (.var 0) .nil)))
  (.cons (.expr (.call 7 (.cons (.var 1) .nil)))
  (.cons (.asg 2 (.call 38 (.cons (.var 0) (.cons (.var 1) .nil))))
  (.cons (.asg 3 (.comp false (.cons (.var 0) .nil) (.prim .nin (.cons (.var 0) (.cons (.var 3) .nil))) (.var 0)))
  (.cons (.ifs (.prim .eq (.cons (.prim .len (.cons (.var 3) .nil)) (.cons (.int 0) .nil))) (.cons (.ret (.tup (.cons (.str "paired") (.cons (.call 39 (.cons (.var 0) (.cons (.var 2) .nil))) .nil))))
  .nil) .nil)
  (.cons (.frz [2] (.asg 4 (.call 40 (.cons (.var 0) (.cons (.var 1) (.cons (.var 2) (.cons (.call 23 (.cons (.var 1) (.cons (.prim .idx (.cons (.var 3) (.cons (.int 0) .nil))) .nil))) .nil)))))))
  (.cons (.ret (.tup (.cons (.str "crowd") (.cons (.prim .sorted (.cons (.prim .idx (.cons (.var 4) (.cons (.int 0) .nil))) .nil)) .nil))))
  .nil)))))))
noncomputable def VS:Ss:=(.cons (.ifs (.prim .gt (.cons (.prim .len (.cons (.var 0) .nil)) (.cons (.var 1) .nil))) (.cons .stop
  .nil) .nil)
  .nil)
noncomputable def VT:Ss:=(.cons (.ret (.prim .sumL (.cons (.compE (.var 0) (.call 10 (.cons (.var 3) (.cons (.var 4) (.cons (.var 1) .nil)))) (.prim .shl (.cons (.int 1) (.cons (.var 0) .nil)))) .nil)))
  .nil)
noncomputable def ka:Ss:=(.cons (.ifs (.prim .ne (.cons (.prim .band (.cons (.var 1) (.cons (.prim .shl (.cons (.int 1) (.cons (.var 3) .nil))) .nil))) (.cons (.int 0) .nil))) (.cons (.dset 2 (.prim .shl (.cons (.int 1) (.cons (.var 3) .nil))) (.prim .shl (.cons (.int 1) (.cons (.var 3) .nil))))
  .nil) .nil)
  .nil)
noncomputable def VU:Ss:=(.cons (.asg 2 (.dnew false))
  (.cons (.for_ 3 true (.cons (.var 0) .nil) ka)
  (.cons (.retV 2)
  .nil)))
noncomputable def YJ:Ss:=(.cons (.asg 5 (.prim .shl (.cons (.int 1) (.cons (.var 4) .nil))))
  (.cons (.ifs (.and (.prim .eq (.cons (.prim .band (.cons (.var 3) (.cons (.var 5) .nil))) (.cons (.int 0) .nil))) (.prim .ne (.cons (.prim .band (.cons (.prim .idx (.cons (.var 1) (.cons (.var 3) .nil))) (.cons (.prim .idx (.cons (.var 0) (.cons (.var 4) .nil))) .nil))) (.cons (.int 0) .nil)))) (.cons (.dset 2 (.prim .bor (.cons (.var 3) (.cons (.var 5) .nil))) (.prim .bor (.cons (.prim .dget (.cons (.var 2) (.cons (.prim .bor (.cons (.var 3) (.cons (.var 5) .nil))) (.cons (.int 0) .nil)))) (.cons (.var 5) .nil))))
  .nil) .nil)
  .nil))
noncomputable def kb:Ss:=(.cons (.for_ 4 true (.cons (.prim .len (.cons (.var 0) .nil)) .nil) YJ)
  .nil)
noncomputable def VV:Ss:=(.cons (.asg 2 (.dnew false))
  (.cons (.forK 3 1 kb)
  (.cons (.retV 2)
  .nil)))
noncomputable def zad:Ss:=(.cons (.app 2 (.call 64 (.cons (.var 0) (.cons (.prim .idx (.cons (.var 2) (.cons (.prim .neg (.cons (.int 1) .nil)) .nil))) .nil))))
  .nil)
noncomputable def VW:Ss:=(.cons (.asg 2 (.lst (.cons (.call 63 (.cons (.prim .len (.cons (.var 0) .nil)) (.cons (.var 1) .nil))) .nil)))
  (.cons (.while_ (.prim .lt (.cons (.prim .len (.cons (.var 2) .nil)) (.cons (.prim .len (.cons (.var 0) .nil)) .nil))) zad)
  (.cons (.retV 2)
  .nil)))
noncomputable def kc:Ss:=(.cons (.asg 8 (.prim .sub (.cons (.prim .blen (.cons (.prim .band (.cons (.prim .idx (.cons (.var 7) (.cons (.var 5) .nil))) (.cons (.var 3) .nil))) .nil)) (.cons (.int 1) .nil))))
  (.cons (.app 6 (.prim .idx (.cons (.var 0) (.cons (.var 8) .nil))))
  (.cons (.asg 5 (.prim .bxor (.cons (.var 5) (.cons (.prim .shl (.cons (.int 1) (.cons (.var 8) .nil))) .nil))))
  (.cons (.asg 3 (.prim .idx (.cons (.var 1) (.cons (.var 8) .nil))))
  .nil))))
noncomputable def YK:Ss:=(.cons (.asg 4 (.call 65 (.cons (.var 1) (.cons (.var 2) .nil))))
  (.cons (.asg 5 (.prim .sub (.cons (.prim .shl (.cons (.int 1) (.cons (.prim .len (.cons (.var 0) .nil)) .nil))) (.cons (.int 1) .nil))))
  (.cons (.ifs (.prim .eq (.cons (.prim .band (.cons (.prim .dget (.cons (.prim .idx (.cons (.var 4) (.cons (.prim .neg (.cons (.int 1) .nil)) .nil))) (.cons (.var 5) (.cons (.int 0) .nil)))) (.cons (.var 3) .nil))) (.cons (.int 0) .nil))) (.cons (.ret .non)
  .nil) .nil)
  (.cons (.asg 6 (.lst .nil))
  (.cons (.frz [4] (.for_ 7 false (.cons (.var 4) (.cons .non .nil)) kc))
  (.cons (.retV 6)
  .nil))))))
noncomputable def YL:Ss:=(.cons (.expr (.call 6 (.cons (.var 0) .nil)))
  (.cons (.expr (.call 7 (.cons (.var 1) .nil)))
  (.cons (.expr (.call 61 (.cons (.var 0) (.cons (.int 16) .nil))))
  (.cons (.asg 2 (.comp false (.cons (.var 0) .nil) (.bl true) (.call 62 (.cons (.var 1) (.cons (.var 2) (.cons (.var 0) .nil))))))
  (.cons (.asg 3 (.prim .sub (.cons (.prim .shl (.cons (.int 1) (.cons (.prim .len (.cons (.var 0) .nil)) .nil))) (.cons (.int 1) .nil))))
  (.cons (.ret (.call 66 (.cons (.var 0) (.cons (.var 2) (.cons (.var 3) (.cons (.var 3) .nil))))))
  .nil))))))
noncomputable def ZD:Ss:=(.cons (.expr (.call 6 (.cons (.var 0) .nil)))
  (.cons (.expr (.call 7 (.cons (.var 1) .nil)))
  (.cons (.expr (.call 61 (.cons (.var 0) (.cons (.int 16) .nil))))
  (.cons (.ifs (.prim .lt (.cons (.prim .len (.cons (.var 0) .nil)) (.cons (.int 3) .nil))) (.cons (.ret .non)
  .nil) .nil)
  (.cons (.asg 2 (.comp false (.cons (.var 0) .nil) (.bl true) (.call 62 (.cons (.var 1) (.cons (.var 2) (.cons (.var 0) .nil))))))
  (.cons (.ret (.call 66 (.cons (.var 0) (.cons (.var 2) (.cons (.int 1) (.cons (.prim .idx (.cons (.var 2) (.cons (.int 0) .nil))) .nil))))))
  .nil))))))
noncomputable def VX:Ss:=(.cons (.asg 4 (.comp false (.cons (.var 0) .nil) (.prim .nin (.cons (.var 0) (.cons (.var 4) .nil))) (.var 0)))
  (.cons (.frz [4] (.asg 5 (.prim .len (.cons (.call 30 (.cons (.var 4) (.cons (.var 1) .nil))) .nil))))
  (.cons (.ret (.and (.prim .gt (.cons (.var 5) (.cons (.prim .add (.cons (.prim .len (.cons (.var 3) .nil)) (.cons (.var 2) .nil))) .nil))) (.prim .gt (.cons (.var 5) (.cons (.int 1) .nil)))))
  .nil)))
noncomputable def VY:Ss:=(.cons (.ifs (.or (.prim .eq (.cons (.prim .len (.cons (.var 3) .nil)) (.cons (.int 0) .nil))) (.prim .gt (.cons (.var 4) (.cons (.prim .idx (.cons (.var 3) (.cons (.prim .neg (.cons (.int 1) .nil)) .nil))) .nil)))) (.cons (.app 2 (.prim .add (.cons (.var 3) (.cons (.lst (.cons (.var 4) .nil)) .nil))))
  .nil) .nil)
  .nil)
noncomputable def kd:Ss:=(.cons (.forV 4 0 VY)
  .nil)
noncomputable def VZ:Ss:=(.cons (.asg 2 (.lst .nil))
  (.cons (.forV 3 1 kd)
  (.cons (.retV 2)
  .nil)))
noncomputable def ke:Ss:=(.cons (.ifs (.call 69 (.cons (.var 0) (.cons (.var 1) (.cons (.var 2) (.cons (.var 4) .nil))))) (.cons (.retV 4)
  .nil) .nil)
  .nil)
noncomputable def kf:Ss:=(.cons (.forV 4 3 ke)
  (.cons (.asg 3 (.call 70 (.cons (.var 0) (.cons (.var 3) .nil))))
  .nil))
noncomputable def YM:Ss:=(.cons (.expr (.call 6 (.cons (.var 0) .nil)))
  (.cons (.expr (.call 7 (.cons (.var 1) .nil)))
  (.cons (.expr (.call 61 (.cons (.var 0) (.cons (.int 9) .nil))))
  (.cons (.ifs (.not (.call 0 (.cons (.var 2) (.cons (.int 0) (.cons (.int 1) .nil))))) (.cons .stop
  .nil) .nil)
  (.cons (.asg 3 (.lst (.cons (.lst .nil) .nil)))
  (.cons (.while_ (.prim .lt (.cons (.prim .mul (.cons (.int 2) (.cons (.prim .len (.cons (.prim .idx (.cons (.var 3) (.cons (.int 0) .nil))) .nil)) .nil))) (.cons (.prim .len (.cons (.var 0) .nil)) .nil))) kf)
  (.cons (.ret .non)
  .nil)))))))
noncomputable def Ja:Ss:=(.cons (.asg 1 (.call 15 (.cons (.var 0) (.cons (.int 2) (.cons (.int 9) .nil)))))
  (.cons (.asg 2 (.call 16 (.cons (.call 13 (.cons (.var 0) (.cons (.int 0) .nil))) .nil)))
  (.cons (.asg 3 (.call 67 (.cons (.var 1) (.cons (.var 2) .nil))))
  (.cons (.asg 4 (.call 68 (.cons (.var 1) (.cons (.var 2) .nil))))
  (.cons (.asg 5 (.comp false (.cons (.call 25 (.cons (.var 1) (.cons (.var 2) .nil))) .nil) (.bl true) (.prim .len (.cons (.var 0) .nil))))
  (.cons (.ifs (.prim .notN (.cons (.var 3) .nil)) (.cons (.ifs (.or (.prim .gt (.cons (.prim .abs (.cons (.prim .sub (.cons (.prim .idx (.cons (.var 5) (.cons (.int 0) .nil))) (.cons (.prim .idx (.cons (.var 5) (.cons (.int 1) .nil))) .nil))) .nil)) (.cons (.int 1) .nil))) (.prim .notN (.cons (.call 71 (.cons (.var 1) (.cons (.var 2) (.cons (.int 1) .nil)))) .nil))) (.cons (.ret (.bl false))
  .nil) .nil)
  (.cons (.ifs (.prim .ne (.cons (.prim .len (.cons (.call 43 (.cons (.var 1) (.cons (.var 2) .nil))) .nil)) (.cons (.prim .fdiv (.cons (.prim .len (.cons (.var 1) .nil)) (.cons (.int 2) .nil))) .nil))) (.cons (.ret (.bl false))
  .nil) .nil)
  .nil)) .nil)
  (.cons (.ifs (.prim .notN (.cons (.var 4) .nil)) (.cons (.ifs (.or (.prim .ne (.cons (.prim .idx (.cons (.var 5) (.cons (.int 0) .nil))) (.cons (.prim .idx (.cons (.var 5) (.cons (.int 1) .nil))) .nil))) (.prim .notN (.cons (.call 71 (.cons (.var 1) (.cons (.var 2) (.cons (.int 0) .nil)))) .nil))) (.cons (.ret (.bl false))
  .nil) .nil)
  (.cons (.ifs (.prim .neS (.cons (.prim .idx (.cons (.call 47 (.cons (.var 1) (.cons (.var 2) .nil))) (.cons (.int 0) .nil))) (.cons (.str "paired") .nil))) (.cons (.ret (.bl false))
  .nil) .nil)
  (.cons (.ifs (.prim .isN (.cons (.var 3) .nil)) (.cons (.ret (.bl false))
  .nil) .nil)
  (.cons (.ifs (.comp false (.cons (.var 1) .nil) (.prim .lt (.cons (.prim .len (.cons (.call 12 (.cons (.var 2) (.cons (.var 3) (.cons (.var 0) .nil)))) .nil)) (.cons (.int 2) .nil))) (.var 0)) (.cons (.ret (.bl false))
  .nil) .nil)
  .nil)))) .nil)
  (.cons (.asg 6 (.prim .toTup (.cons (.prim .sorted (.cons (.comp false (.cons (.var 1) .nil) (.bl true) (.tup (.cons (.prim .idx (.cons (.var 0) (.cons (.int 1) .nil))) (.cons (.prim .idx (.cons (.var 0) (.cons (.int 0) .nil))) .nil)))) .nil)) .nil)))
  (.cons (.ifs (.prim .ne (.cons (.prim .isN (.cons (.call 67 (.cons (.var 6) (.cons (.var 2) .nil))) .nil)) (.cons (.prim .isN (.cons (.var 3) .nil)) .nil))) (.cons (.ret (.bl false))
  .nil) .nil)
  (.cons (.ret (.prim .eq (.cons (.prim .isN (.cons (.call 68 (.cons (.var 6) (.cons (.var 2) .nil))) .nil)) (.cons (.prim .isN (.cons (.var 4) .nil)) .nil))))
  .nil))))))))))
noncomputable def U:Nat->Option Fn
 |0=>some ⟨3,3,Vk,[],none⟩
 |1=>some ⟨1,1,Vl,[],none⟩
 |2=>some ⟨1,1,Vm,[],none⟩
 |3=>some ⟨1,1,Vn,[],none⟩
 |4=>some ⟨1,1,Vo,[],none⟩
 |5=>some ⟨1,1,Vp,[],none⟩
 |6=>some ⟨1,1,Vq,[],none⟩
 |7=>some ⟨1,1,Vr,[],none⟩
 |8=>some ⟨2,2,Vs,[],none⟩
 |9=>some ⟨2,2,Vt,[],none⟩
 |10=>some ⟨3,3,Vu,[],none⟩
 |11=>some ⟨3,3,Vv,[],none⟩
 |12=>some ⟨3,3,Vw,[],none⟩
 |13=>some ⟨2,2,Vx,[],none⟩
 |14=>some ⟨3,3,Vy,[],none⟩
 |15=>some ⟨3,13,VA,[],none⟩
 |16=>some ⟨1,2,VB,[],none⟩
 |20=>some ⟨3,8,VC,[],none⟩
 |21=>some ⟨1,1,VD,[],none⟩
 |22=>some ⟨1,2,VE,[],none⟩
 |23=>some ⟨2,5,VF,[],none⟩
 |24=>some ⟨3,3,VG,[],none⟩
 |25=>some ⟨2,2,VH,[],none⟩
 |30=>some ⟨2,6,VJ,[],none⟩
 |37=>some ⟨5,6,YI,[2,4],none⟩
 |38=>some ⟨2,4,VL,[],none⟩
 |39=>some ⟨2,2,VM,[],none⟩
 |40=>some ⟨4,10,VO,[],none⟩
 |43=>some ⟨2,2,VP,[],none⟩
 |47=>some ⟨2,5,VQ,[],none⟩
 |61=>some ⟨2,2,VS,[],none⟩
 |62=>some ⟨3,3,VT,[],none⟩
 |63=>some ⟨2,4,VU,[],none⟩
 |64=>some ⟨2,6,VV,[],none⟩
 |65=>some ⟨2,3,VW,[],none⟩
 |66=>some ⟨4,9,YK,[],none⟩
 |67=>some ⟨2,4,YL,[],none⟩
 |68=>some ⟨2,3,ZD,[],none⟩
 |69=>some ⟨4,6,VX,[],none⟩
 |70=>some ⟨2,5,VZ,[],none⟩
 |71=>some ⟨3,5,YM,[],none⟩
 |77=>some ⟨1,7,Ja,[],none⟩
 |_=>none
theorem U0:U 0=some ⟨3,3,Vk,[],none⟩:=rfl
theorem U1:U 1=some ⟨1,1,Vl,[],none⟩:=rfl
theorem U2:U 2=some ⟨1,1,Vm,[],none⟩:=rfl
theorem U3:U 3=some ⟨1,1,Vn,[],none⟩:=rfl
theorem U4:U 4=some ⟨1,1,Vo,[],none⟩:=rfl
theorem U5:U 5=some ⟨1,1,Vp,[],none⟩:=rfl
theorem U6:U 6=some ⟨1,1,Vq,[],none⟩:=rfl
theorem U7:U 7=some ⟨1,1,Vr,[],none⟩:=rfl
theorem U8:U 8=some ⟨2,2,Vs,[],none⟩:=rfl
theorem U9:U 9=some ⟨2,2,Vt,[],none⟩:=rfl
theorem zm8:U 10=some ⟨3,3,Vu,[],none⟩:=rfl
theorem zm9:U 11=some ⟨3,3,Vv,[],none⟩:=rfl
theorem zna:U 12=some ⟨3,3,Vw,[],none⟩:=rfl
theorem znb:U 13=some ⟨2,2,Vx,[],none⟩:=rfl
theorem znc:U 14=some ⟨3,3,Vy,[],none⟩:=rfl
theorem znd:U 15=some ⟨3,13,VA,[],none⟩:=rfl
theorem zne:U 16=some ⟨1,2,VB,[],none⟩:=rfl
theorem znf:U 20=some ⟨3,8,VC,[],none⟩:=rfl
theorem zng:U 21=some ⟨1,1,VD,[],none⟩:=rfl
theorem znh:U 22=some ⟨1,2,VE,[],none⟩:=rfl
theorem zni:U 23=some ⟨2,5,VF,[],none⟩:=rfl
theorem znj:U 24=some ⟨3,3,VG,[],none⟩:=rfl
theorem znk:U 25=some ⟨2,2,VH,[],none⟩:=rfl
theorem znl:U 30=some ⟨2,6,VJ,[],none⟩:=rfl
theorem znm:U 37=some ⟨5,6,YI,[2,4],none⟩:=rfl
theorem znn:U 38=some ⟨2,4,VL,[],none⟩:=rfl
theorem zno:U 39=some ⟨2,2,VM,[],none⟩:=rfl
theorem znp:U 40=some ⟨4,10,VO,[],none⟩:=rfl
theorem znq:U 43=some ⟨2,2,VP,[],none⟩:=rfl
theorem znr:U 47=some ⟨2,5,VQ,[],none⟩:=rfl
theorem zns:U 61=some ⟨2,2,VS,[],none⟩:=rfl
theorem znt:U 62=some ⟨3,3,VT,[],none⟩:=rfl
theorem znu:U 63=some ⟨2,4,VU,[],none⟩:=rfl
theorem znv:U 64=some ⟨2,6,VV,[],none⟩:=rfl
theorem znw:U 65=some ⟨2,3,VW,[],none⟩:=rfl
theorem znx:U 66=some ⟨4,9,YK,[],none⟩:=rfl
theorem zny:U 67=some ⟨2,4,YL,[],none⟩:=rfl
theorem znz:U 68=some ⟨2,3,ZD,[],none⟩:=rfl
theorem znA:U 69=some ⟨4,6,VX,[],none⟩:=rfl
theorem znB:U 70=some ⟨2,5,VZ,[],none⟩:=rfl
theorem znC:U 71=some ⟨3,5,YM,[],none⟩:=rfl
theorem znD:U 77=some ⟨1,7,Ja,[],none⟩:=rfl
end LK
namespace LK
open L2.LW
noncomputable def zh:Nat:=100000
noncomputable abbrev call(n i:Nat)(ds:List D):Option SV:=zv U zh n i ds
theorem yj{n i:Nat}{F:Fn}{ds:List D}(h:U i=some F)(hl:ds.length=F.np)(hio:F.io=[]:=by rfl)(hx:F.xb=none:=by rfl):
  zv U zh (n+1) i ds=YD (zp (zD U zh n) zh F.body (ds.map (fun d=>some (.val d))++List.replicate (F.nl-F.np) none)):=zmY h hl hio hx
noncomputable abbrev za:=Int×Int
noncomputable def cD(c:za):D:=.tup [.int c.1,.int c.2]
noncomputable def fD(f:List za):D:=.tup (f.map cD)
noncomputable def lD(f:List za):D:=.lst (f.map cD)
@[simp] theorem zwv{c:za}:plain (cD c)=true:=by simp[cD]
@[simp] theorem zd6: ∀{l:List za},xu (l.map cD)=true
 |[]=>by simp
 |c::r=>by simp[zd6 (l:=r)]
@[simp] theorem zae{c:za}{n:Nat}:zO (n+1) (cD c)=true:=by simp[cD,zO]
@[simp] theorem zd7{n:Nat}{l:List za}:(l.map cD).all (zO (n+1))=true:=by
 rw[List.all_map,List.all_eq_true];intro x _;exact zae
@[simp] theorem Jb{a b:za}:zN (cD a) (cD b)=decide (a=b):=by
 rw[Bool.eq_iff_iff];obtain⟨a1,a2⟩:=a;obtain⟨b1,b2⟩:=b;simp[cD,zN,wI]
@[simp] theorem zd8{c:za}{l:List za}:((l.map cD).any fun y=>zN y (cD c))=decide (c∈l):=by
 rw[Bool.eq_iff_iff];simp[List.any_map,List.any_eq_true]
theorem kg(n:Nat)(i a b:Int):zv U zh (n+1) 0 [.int i,.int a,.int b]=some (.val (.bl (decide (a<=i)&&decide (i<=b)))):=by
 rw[yj U0 rfl];simp[Vk];by_cases h:a<=i<;>simp[h]
theorem zd9(n:Nat)(c:za):zv U zh (n+1) 1 [cD c]=some (.val (.bl true)):=by
 rw[yj U1 rfl];simp[Vl,cD]
noncomputable def vR(c:za):Prop:=0<=c.1/\c.1<=7/\0<=c.2/\c.2<=7
theorem zea(n:Nat){c:za}(h:vR c):zv U zh (n+2) 2 [cD c]=some (.val (.bl true)):=by
 rw[yj U2 rfl];obtain⟨h1,h2,h3,h4⟩:=h;have h0:=zd9 n c;simp[Vm,h0,kg];simp[cD,kg,h1,h2,h3,h4]
noncomputable def zX(a b:za):Prop:=a.1<b.1\/(a.1=b.1/\a.2<b.2)
noncomputable instance (a b:za):Decidable (zX a b):=by unfold zX;exact inferInstance
@[simp] theorem znE{a b:za}:zg .lt [cD a,cD b]=some (.val (.bl (decide (zX a b)))):=by
 simp only[cD,zg,Xr,ints?,Option.map_some,Option.bind_some,yN,lexLt]
 congr 3
 rw[Bool.eq_iff_iff];simp only[zX];by_cases h:a.1=b.1
 ·simp[h]
  by_cases h2:a.2=b.2
  ·simp[h2]
  ·simp[h2]
 ·simp[h]
theorem zeb{a b c:za}(h:zX a b)(h':zX b c):zX a c:=by
 unfold zX at*;omega
theorem zec{a:za}: ¬zX a a:=by unfold zX;omega
theorem zed{a b:za}(h:zX a b)(h':zX b a):False:=zec (zeb h h')
theorem zee{a b:za}(h:a≠b):zX a b\/zX b a:=by
 unfold zX
 have:a.1≠b.1\/a.2≠b.2:=by
  by_cases h1:a.1=b.1
  ·right;intro h2;exact h (Prod.ext h1 h2)
  ·exact .inl h1
 omega
structure OkF (f:List za):Prop where
 ne:f≠[]
 len:f.length<=24
 cells: ∀c∈f,vR c
 rise:f.Pairwise zX
theorem OkF.nodup{f:List za}(h:f.Pairwise zX):f.Nodup:=h.imp fun hab e=>by subst e;exact zec hab
theorem yD:(100000:Nat)<=line:=by decide
theorem zef{α:Type}{f:α->Bool}: ∀{l:List α},bools? (l.map fun x=>D.bl (f x))=some (l.map f)
 |[]=>rfl
 |x::r=>by simp[bools?,zef (l:=r)]
theorem zeg{α:Type}{f:α->Bool}{l:List α}:zg .all [.lst (l.map fun x=>D.bl (f x))]=some (.val (.bl (l.all f))):=by
 simp[zg,JX,zef,List.all_map,Function.comp_def]
theorem znF(n:Nat){l:za}(h:0<=l.1/\l.1<=l.2/\1<=l.2/\l.2<=4):zv U zh (n+2) 3 [cD l]=some (.val (.bl true)):=by
 rw[yj U3 rfl];obtain⟨h1,h2,h3,h4⟩:=h;have h0:=zd9 n l;simp[Vn,h0];simp[cD,kg,h1,h2,h3,h4]
theorem ZE{i:Int}(h:0<=i)(h':i<=1000000):vK i:=by unfold vK;omega
theorem zeh{a b:Int}(h:vK a/\vK b):yw true [.val (.int a),.val (.int b)]=some ((List.range (b-a).toNat).map fun (k:Nat)=>D.int (a+(k:Int))):=by simp[yw,h]
theorem zaf{a:Int}(h:vK a):yw true [.val (.int a)]=some ((List.range a.toNat).map fun (k:Nat)=>D.int (0+(k:Int))):=by simp[yw,h]
@[simp] theorem zww{o:Bool}{l:List D}:yw false [.obj o (.lst l)]=some l:=id rfl
theorem zag{f:List za}{k:Nat}(h:k<f.length):zg .idx [fD f,.int (k:Int)]=some (.val (cD f[k])):=by
 rw[fD,zm4,atI_nat (by simpa using h)];simp
theorem znG(n:Nat){f:List za}(hl:f.length<=1000)(h:f.Pairwise zX):zv U zh (n+1) 4 [fD f]=some (.val (.bl true)):=by
 rw[yj U4 rfl];have hl':=yD;have e3:((f.length:Int)-1).toNat=f.length-1:=by omega
 simp only[Vo];simp;rw[YG (rs:=[.val (.int 1),.val (.int f.length)]) (xs:=List.range (f.length-1)) (f:=fun (k:Nat)=>D.int (1+(k:Int))) (fun _=>.bl true)]
 ·simp[zeg]
 ·simp[fD]
 ·rw[zeh ⟨ZE (by omega) (by omega),ZE (by omega) (by omega)⟩,e3]
 ·simp;omega
 ·intro k hk
  rw[List.mem_range] at hk;have e1:(1+(k:Int)-1)=(k:Int):=by omega
  have e2:(1+(k:Int))=((k+1:Nat):Int):=by omega
  have hk1:k<f.length:=by omega
  have hk2:k+1<f.length:=by omega
  have:=List.pairwise_iff_getElem.mp h k (k+1) hk1 hk2 (by omega);simp[e1];rw[zag hk1,e2,zag hk2];simp[this]
@[simp] theorem zwx{f:List za}:jE .tuple (fD f)=true:=id rfl
theorem vS{f:List za}:zg .len [fD f]=some (.val (.int f.length)):=by simp[fD]
theorem znH(n:Nat){f:List za}(h:OkF f):zv U zh (n+3) 5 [fD f]=some (.val (.bl true)):=by
 rw[yj U5 rfl];have hl':=yD;have h1:=h.len;have h2:1<=f.length:=by have:=h.ne;cases f<;>simp_all
 have hr:=znG (n+1) (by omega) h.rise;simp -implicitDefEqProofs only[Vp];simp -implicitDefEqProofs [vS,show (1:Int)<=f.length by omega,show (f.length:Int)<=24 by omega,hr];rw[YG (rs:=[.val (fD f)]) (xs:=f) (f:=cD) (fun _=>.bl true)]
 ·simp -implicitDefEqProofs [zeg,fD]
 ·simp
 ·rfl
 ·omega
 ·intro c hc
  simp -implicitDefEqProofs [zea n (h.cells c hc)]
theorem ZF(n:Nat){f:List za}(h:OkF f):zv U zh (n+4) 6 [fD f]=some (.val (fD f)):=by
 rw[yj U6 rfl];simp[Vq,znH n h]
structure OkL (l:za):Prop where
 a:0<=l.1
 b:l.1<=l.2
 c:1<=l.2
 d:l.2<=4
theorem ZG(n:Nat){l:za}(h:OkL l):zv U zh (n+3) 7 [cD l]=some (.val (cD l)):=by
 rw[yj U7 rfl];simp[Vr,znF n ⟨h.a,h.b,h.c,h.d⟩]
theorem znI{c:za}{f:List za}:zg .nin [cD c,fD f]=some (.val (.bl (!decide (c∈f)))):=by
 simp only[fD,zg,jg,zae,zd7,Bool.and_self,if_true,zd8,yN]
theorem zah{c:za}{f:List za}:zg .nin [cD c,lD f]=some (.val (.bl (!decide (c∈f)))):=by
 simp only[lD,zg,jg,zae,zd7,Bool.and_self,if_true,zd8,yN]
theorem znJ(n:Nat){f:List za}{c:za}(h:vR c)(hc:c∈f):zv U zh (n+3) 8 [fD f,cD c]=some (.val (cD c)):=by
 rw[yj U8 rfl];simp[Vs,zea n h,znI,hc]
noncomputable def xO(i:Int):Int:=if i<0 then -i else i
noncomputable def zK(l a b:za):Bool:=decide ((min (xO (a.1-b.1)) (xO (a.2-b.2)),max (xO (a.1-b.1)) (xO (a.2-b.2)))=l)
theorem kh(a b:Int):xO (a-b)=xO (b-a):=by unfold xO;split<;>split<;>omega
theorem wE(l a b:za):zK l a b=zK l b a:=by unfold zK;rw[kh a.1,kh a.2]
@[simp] theorem zwy{c:za}:zg .idx [cD c,.int 0]=some (.val (.int c.1)):=id rfl
@[simp] theorem zwz{c:za}:zg .idx [cD c,.int 1]=some (.val (.int c.2)):=id rfl
theorem znK{a b:za}:zg .eq [cD a,cD b]=some (.val (.bl (decide (a=b)))):=by rw[QS (by simp) (by simp),Jb]
noncomputable def zai(x y:Int):za:=(min (xO x) (xO y),max (xO x) (xO y))
theorem znL(n:Nat)(x y:Int):zv U zh (n+1) 9 [.int x,.int y]=some (.val (cD (zai x y))):=by
 rw[yj U9 rfl]
 have e: ∀x y:Int,D.tup [.int (if y<x then y else x),.int (if y>x then y else x)]=cD (min x y,max x y):=by
  intro x y;have e1:(if y<x then y else x)=min x y:=by split<;>omega
  have e2:(if y>x then y else x)=max x y:=by split<;>omega
  rw[e1,e2];rfl
 simp[Vt, -zd0, -zd1];simp only[zd0,zd1,Option.bind_some,xX,toD,Option.map_some,Function.comp_apply];simp;rw[e];rfl
theorem znM(l a b:za):decide (zai (b.1-a.1) (b.2-a.2)=l)=zK l a b:=by
 unfold zK zai;rw[kh a.1,kh a.2]
theorem zei(n:Nat)(l a b:za):zv U zh (n+2) 10 [cD l,cD a,cD b]=some (.val (.bl (zK l a b))):=by
 rw[yj zm8 rfl];simp[Vu,znL,znK,znM]
theorem zej(n:Nat)(l c:za){f:List za}{F:D}(hF:xW F=some (f.map cD))(h:f.length<=1000):zv U zh (n+3) 11 [F,cD l,cD c]=some (.obj true (.lst ((f.filter (zK l c)).map cD))):=by
 rw[yj zm9 rfl];have hl':=yD;simp only[Vv];simp;rw[jp (rs:=[.val F]) (xs:=f) (f:=cD) (zK l c) cD]
 ·simp
 ·simp
 ·exact hF
 ·omega
 ·intro x _;simp[zei]
 ·intro x _ _;simp
theorem zaj(n:Nat)(l c:za){f:List za}(h:f.length<=1000):zv U zh (n+3) 11 [fD f,cD l,cD c]=some (.obj true (.lst ((f.filter (zK l c)).map cD))):=zej n l c rfl h
theorem znN(n:Nat){l c:za}{f:List za}(h:OkF f)(hl:OkL l)(hc:c∈f):zv U zh (n+5) 12 [fD f,cD l,cD c]=some (.obj true (.lst ((f.filter (zK l c)).map cD))):=by
 rw[yj zna rfl];have h1:=h.len;simp[Vw,ZF n h,ZG (n+1) hl,znJ (n+1) (h.cells c hc) hc,zaj (n+1) l c (by omega:f.length<=1000)]
end LK
namespace LK
open L2.LW
noncomputable def sm(a:Int):Prop:= -(2 ^ 64)<a/\a<2 ^ 64
theorem zak{a:Int}(h: -1000000<=a)(h':a<=1000000):sm a:=by unfold sm;omega
theorem zal{a b:Int}(h:sm b):zg .mul [.int a,.int b]=some (.val (.int (a*b))):=zm1 h
noncomputable def sD(ns:List Int):D:=.lst (ns.map D.int)
noncomputable def ZH(ns:List Int)(k:Int):Int:=ns.getD k.toNat 0
theorem Jc(n:Nat)(ns:List Int){k:Int}(h:0<=k):zv U zh (n+1) 13 [sD ns,.int k]=some (.val (.int (ZH ns k))):=by
 rw[yj znb rfl];obtain⟨j,rfl⟩:=Int.eq_ofNat_of_zero_le h;simp only[Vx];by_cases hj:j<ns.length
 ·have hj':(j:Int)<(ns.length:Int):=by omega
  simp[sD,hj'];rw[YF,atI_nat (by simpa using hj)];simp[ZH,hj]
 ·have hj': ¬(j:Int)<(ns.length:Int):=by omega
  simp[sD,hj'];simp[ZH,List.getElem?_eq_none (by omega:ns.length<=j)]
theorem ZI(n:Nat)(x:Int){p m:Int}(h:0<p)(h':0<m):zv U zh (n+1) 14 [.int x,.int p,.int m]=some (.val (.int (x*48271%p%m))):=by
 rw[yj znc rfl];simp[Vy,zal (zak (a:=48271) (by decide) (by decide)),jT h,jT h']
structure Built (down right wide:Int)(r k:Int)(fs:List za):Prop where
 rise:fs.Pairwise zX
 at_: ∀x∈fs,down<=x.1/\right<=x.2/\x.2<right+wide/\(x.1<down+r\/(x.1=down+r/\x.2<right+k))
theorem Built.next{down right wide r k:Int}{fs:List za}(b:Built down right wide r k fs)(hk:0<=k)(hw:k<wide)(hr:0<=r):Built down right wide r (k+1) (fs++[(down+r,right+k)]):=by
 refine⟨?_,fun x hx=>?_⟩
 ·rw[List.pairwise_append]
  refine⟨b.rise,by simp,fun x hx y hy=>?_⟩;simp only[List.mem_singleton] at hy;subst hy;have:=b.at_ x hx;unfold zX;simp only;omega
 ·rw[List.mem_append,List.mem_singleton] at hx
  rcases hx with hx|rfl
  ·have:=b.at_ x hx;omega
  ·show down<=down+r/\right<=right+k/\right+k<right+wide/\(down+r<down+r\/(down+r=down+r/\right+k<right+(k+1)))
   omega
theorem Built.skip{down right wide r k:Int}{fs:List za}(b:Built down right wide r k fs):Built down right wide r (k+1) fs:=
 ⟨b.rise,fun x hx=>by have:=b.at_ x hx;omega⟩
theorem Built.row{down right wide r:Int}{fs:List za}(b:Built down right wide r wide fs):Built down right wide (r+1) 0 fs:=
 ⟨b.rise,fun x hx=>by have:=b.at_ x hx;omega⟩
theorem znO(a b c:D){w:Int}(h:w=0\/w=1\/w=2): ∃d,(d=a\/d=b\/d=c)/\zg .idx [.lst [a,b,c],.int w]=some (.val d):=by
 rcases h with rfl|rfl|rfl
 ·exact⟨a,.inl rfl,rfl⟩
 ·exact⟨b,.inr (.inl rfl),rfl⟩
 ·exact⟨c,.inr (.inr rfl),rfl⟩
@[simp] theorem zwA{fs:List za}{a b:Int}:fs.map cD++[.tup [.int a,.int b]]=(fs++[(a,b)]).map cD:=by simp[cD]
theorem znP(n:Nat)(ns:List Int){at_ most x rows wide down right way r k:Int}{j12:Option SV}{fs:List za}(h0:0<=at_)(hr:0<=r/\r<=1000)(hk:0<=k/\k<=1000)(hw:0<=way/\way<4)(hl:fs.length<=1000)(hj:zC (some j12)=true):
  ∃v fs',zC (some v)=true/\zp (zD U zh (n+1)) zh QU [some (.val (sD ns)),some (.val (.int at_)),some (.val (.int most)),some (.val (.int x)),some (.val (.int rows)),some (.val (.int wide)),some (.val (.int down)),some (.val (.int right)),some (.val (.int way)),
   some (.obj true (.lst (fs.map cD))),some (.val (.int r)),some (.val (.int k)),j12]=
   some (.nx,[some (.val (sD ns)),some (.val (.int at_)),some (.val (.int most)),some (.val (.int x)),some (.val (.int rows)),some (.val (.int wide)),some (.val (.int down)),some (.val (.int right)),some (.val (.int way)),
   some (.obj true (.lst (fs'.map cD))),some (.val (.int r)),some (.val (.int k)),v])/\(fs'=fs\/fs'=fs++[(down+r,right+k)]):=by
 have m1:sm r:=zak (by omega) (by omega);have m2:sm k:=zak (by omega) (by omega);have h7:(0:Int)<7:=by decide
 have hi:0<=at_+2+(r+2*k)%7:=by omega
 have hl':=yD;have hl2:fs.length<line:=by omega
 simp only[QU];simp[zal m1,zal m2,jT h7,Jc n ns hi,hj];by_cases hz:way=0
 ·simp[hz,hl2]
  exact⟨_,yY,fs++[(down+r,right+k)],by simp;rfl,.inr rfl⟩
 ·obtain⟨d,hd,e⟩:=znO (.int 2) (.int 4) (.int 7) (w:=way-1) (by omega)
  simp[hz,e]
  have key: ∃m,d= .int m/\0<m:=by
   rcases hd with rfl|rfl|rfl
   ·exact⟨_,rfl,by decide⟩
   ·exact⟨_,rfl,by decide⟩
   ·exact⟨_,rfl,by decide⟩
  obtain⟨m,rfl,hm⟩:=key;simp[ZI n _ (show (0:Int)<9931 by decide) hm];split
  ·simp[hl2]
   exact⟨_,yY,fs++[(down+r,right+k)],by simp;rfl,.inr rfl⟩
  ·exact⟨_,yY,fs,rfl,.inl rfl⟩
noncomputable def wQ(ns:List Int)(at_ most x rows wide down right way:Int)(fs:List za)(a b c:Option SV):Env:=
 [some (.val (sD ns)),some (.val (.int at_)),some (.val (.int most)),some (.val (.int x)),some (.val (.int rows)),some (.val (.int wide)),some (.val (.int down)),some (.val (.int right)),some (.val (.int way)),some (.obj true (.lst (fs.map cD))),a,b,c]
theorem znQ(n:Nat)(ns:List Int){at_ most x rows wide down right way:Int}{r:Nat}{fs:List za}{b c:Option SV}(h0:0<=at_)(hr:r<=100)(hw:0<=wide/\wide<=6)(hy:0<=way/\way<4)(hl:fs.length<=6*r)(hb:Built down right wide r 0 fs)(fb:zC (some b)=true)(fc:zC (some c)=true):
  ∃a' b' c' fs',(zC (some a')=true/\zC (some b')=true/\zC (some c')=true)/\zp (zD U zh (n+1)) zh Vz (wQ ns at_ most x rows wide down right way fs (some (.val (.int r))) b c)=some (.nx,wQ ns at_ most x rows wide down right way fs' a' b' c')/\fs'.length<=6*(r+1)/\Built down right wide (r+1:Nat) 0 fs':=by
 obtain⟨ρ',h1,b',c',fs',fr,rfl,h2,h3⟩:=zd4 (i:=11) (a:=0) (m:=wide.toNat) (body:=zp (zD U zh (n+1)) zh QU)
  (fun k ρ=>∃b' c' fs',(zC (some b')=true/\zC (some c')=true)/\ρ=wQ ns at_ most x rows wide down right way fs' (some (.val (.int r))) b' c'/\fs'.length<=6*r+k/\Built down right wide r (k:Int) fs') (ρ:=wQ ns at_ most x rows wide down right way fs (some (.val (.int r))) b c)
  ⟨b,c,fs,⟨fb,fc⟩,rfl,by omega,hb⟩ fun k ρ hk zz3=>by
   obtain⟨b',c',fs',fr,e,h2,h3⟩:=zz3;subst e;obtain⟨v,fs2,fv,e1,e2⟩:=znP n ns (at_:=at_) (most:=most) (x:=x) (rows:=rows) (wide:=wide) (down:=down) (right:=right) (way:=way) (r:=r) (k:=0+(k:Int)) (j12:=c') (fs:=fs') h0 (by omega) (by omega) hy (by omega) fr.2;refine⟨_,_,e1,.inl rfl,_,v,fs2,⟨yY,fv⟩,rfl,?_⟩;rw[Int.zero_add] at e2;rcases e2 with rfl|rfl
   ·exact⟨by omega,h3.skip⟩
   ·exact⟨by simp;omega,h3.next (by omega) (by omega) (by omega)⟩
 refine⟨some (.val (.int r)),b',c',fs',⟨yY,fr.1,fr.2⟩,?_,by omega,?_⟩
 ·simp only[Vz,YC,jn,gW,gU,zdQ,zdS]
  rw[show (wQ ns at_ most x rows wide down right way fs (some (.val (.int r))) b c)[11]? =some b from rfl,fb,show look (wQ ns at_ most x rows wide down right way fs (some (.val (.int r))) b c) 5=some (.val (.int wide)) from rfl];simp[zaf (ZE hw.1 (by omega:wide<=1000000))];rw[show (List.map (fun (k:Nat)=>D.int (k:Int)) (List.range wide.toNat))=(List.range wide.toNat).map fun (k:Nat)=>D.int (0+(k:Int)) by simp,h1];simp
 ·have e:(wide.toNat:Int)=wide:=by omega
  rw[e] at h3;have:=h3.row;simpa using this
theorem znR(n:Nat)(ns:List Int){at_ most x rows wide down right way:Int}{a b c:Option SV}(h0:0<=at_)(hr:0<=rows/\rows<=5)(hw:0<=wide/\wide<=6)(hy:0<=way/\way<4)(fa:zC (some a)=true)(fb:zC (some b)=true)(fc:zC (some c)=true):
  ∃a' b' c' fs',zH (zD U zh (n+1)) zh (.for_ 10 true (.cons (.var 4) .nil) Vz) (wQ ns at_ most x rows wide down right way [] a b c)=some (.nx,wQ ns at_ most x rows wide down right way fs' a' b' c')/\Built down right wide rows 0 fs'/\fs'.length<=30:=by
 obtain⟨ρ',h1,a',b',c',fs',fr,rfl,h2,h3⟩:=zd4 (i:=10) (a:=0) (m:=rows.toNat) (body:=zp (zD U zh (n+1)) zh Vz)
  (fun k ρ=>∃a' b' c' fs',(zC (some a')=true/\zC (some b')=true/\zC (some c')=true)/\ρ=wQ ns at_ most x rows wide down right way fs' a' b' c'/\fs'.length<=6*k/\Built down right wide (k:Int) 0 fs') (ρ:=wQ ns at_ most x rows wide down right way [] a b c)
  ⟨a,b,c,[],⟨fa,fb,fc⟩,rfl,by simp,⟨by simp,by simp⟩⟩ fun k ρ hk zz3=>by
   obtain⟨a',b',c',fs',fr,e,h2,h3⟩:=zz3;subst e;obtain⟨a2,b2,c2,fs2,fr2,e1,e2,e3⟩:=znQ n ns (at_:=at_) (most:=most) (x:=x) (rows:=rows) (wide:=wide) (down:=down) (right:=right) (way:=way) (r:=k) (fs:=fs') (b:=b') (c:=c') h0 (by omega) hw hy h2 h3 fr.2.1 fr.2.2;refine⟨_,_,?_,.inl rfl,a2,b2,c2,fs2,fr2,rfl,e2,e3⟩;rw[Int.zero_add];exact e1
 refine⟨a',b',c',fs',?_,?_,by omega⟩
 ·simp only[jn,gW,gU,zdQ,zdS]
  rw[show (wQ ns at_ most x rows wide down right way [] a b c)[10]? =some a from rfl,fa,show look (wQ ns at_ most x rows wide down right way [] a b c) 4=some (.val (.int rows)) from rfl];simp[zaf (ZE hr.1 (by omega:rows<=1000000))];rw[show (List.map (fun (k:Nat)=>D.int (k:Int)) (List.range rows.toNat))=(List.range rows.toNat).map fun (k:Nat)=>D.int (0+(k:Int)) by simp,h1]
 ·have e:(rows.toNat:Int)=rows:=by omega
  rw[e] at h3;exact h3
theorem zek{fs:List za}{k:Int}(h:0<=k):zg .cutTo [.lst (fs.map cD),.int k]=some (.obj true (.lst ((fs.take k.toNat).map cD))):=by
 simp[zg,JY,h]
noncomputable def znS(f:List za):Prop:=∃d:Int,∀c∈f,d<=c.1/\c.1<d+5
theorem znT(n:Nat)(ns:List Int){at_ most:Int}(h0:0<=at_)(hm:1<=most)(hm2:most<=24): ∃f,OkF f/\(f.length:Int)<=most/\znS f/\zv U zh (n+2) 15 [sD ns,.int at_,.int most]=some (.val (fD f)):=by
 rw[yj znd rfl];simp only[VA];have p5:(0:Int)<5:=by decide
 have p6:(0:Int)<6:=by decide
 have p4:(0:Int)<4:=by decide
 have q1:(0:Int)<9973:=by decide
 have q2:(0:Int)<9967:=by decide
 have q3:(0:Int)<9949:=by decide
 have q4:(0:Int)<9941:=by decide
 have q5:(0:Int)<9907:=by decide
 have h1:0<=at_+1:=by omega
 simp[Jc n ns h0,Jc n ns h1,ZI n _ q1 p5,ZI n _ q2 p6,ZI n _ q5 p4];generalize hx:ZH ns at_=x;generalize hrows:1+x*48271%9973%5=rows;generalize hwide:1+x*48271%9967%6=wide;have hr9:0<9-rows:=by omega
 have hw9:0<9-wide:=by omega
 simp[ZI n _ q3 hr9,ZI n _ q4 hw9,Jc n ns h1,ZI n _ q5 p4];generalize hdown:ZH ns (at_+1)*48271%9949%(9-rows)=down;generalize hright:ZH ns (at_+1)*48271%9941%(9-wide)=right;generalize hway:(x+3)*48271%9907%4=way;have bw:0<=way/\way<4:=by omega
 have bd:0<=down/\down<9-rows:=by rw[<-hdown];exact⟨Int.emod_nonneg _ (by omega),Int.emod_lt_of_pos _ hr9⟩
 have br:0<=right/\right<9-wide:=by rw[<-hright];exact⟨Int.emod_nonneg _ (by omega),Int.emod_lt_of_pos _ hw9⟩
 obtain⟨a',b',c',fs,e1,hb,hl⟩:=znR n ns (at_:=at_) (most:=most) (x:=x) (rows:=rows) (wide:=wide) (down:=down) (right:=right) (way:=way) (a:=none) (b:=none) (c:=none) h0 (by omega) (by omega) bw rfl rfl rfl;have e1':=e1;simp only[wQ,List.map_nil] at e1'
 have hok: ∀c∈fs,vR c:=fun c hc=>by
  have:=hb.at_ c hc;unfold vR;omega
 by_cases hf:fs=[]
 ·subst hf
  refine⟨[(down,right)],⟨by simp,by simp,fun c hc=>?_,by simp⟩,by simp;omega,⟨down,fun c hc=>?_⟩,?_⟩
  ·simp at hc;subst hc;unfold vR;simp only;omega
  ·simp at hc;subst hc;simp only;omega
  ·simp[e1']
   rw[show D.tup [.int down,.int right]=cD (down,right) from rfl,show ([cD (down,right)]:List D)=[(down,right)].map cD from rfl,zek (by omega)];rw[KL (by simp;omega)];simp[fD]
 ·refine⟨fs.take most.toNat,⟨fun h=>?_,?_,fun c hc=>hok c (List.mem_of_mem_take hc),hb.rise.sublist (List.take_sublist _ _)⟩,?_,⟨down,fun c hc=>?_⟩,?_⟩
  ·rw[List.take_eq_nil_iff] at h
   rcases h with h|h
   ·omega
   ·exact hf h
  ·rw[List.length_take];omega
  ·rw[List.length_take];omega
  ·have:=hb.at_ c (List.mem_of_mem_take hc)
   omega
  ·have hne:fs.map cD≠[]:=by simpa using hf
   simp[e1',hne,hf];rw[zek (by omega)];simp[fD]
theorem znU(n:Nat)(ns:List Int){at_ most:Int}(h0:0<=at_)(hm:1<=most)(hm2:most<=24): ∃f,OkF f/\(f.length:Int)<=most/\zv U zh (n+2) 15 [sD ns,.int at_,.int most]=some (.val (fD f)):=by
 obtain⟨f,h1,h2,_,h3⟩:=znT n ns h0 hm hm2;exact⟨f,h1,h2,h3⟩
end LK
namespace LK
open L2.LW
noncomputable def Jd:List za:=[(1,2),(0,1),(1,1),(1,2),(0,2),(1,3),(2,3),(0,1),(1,2),(2,2),(0,3),(1,4),(2,4),(3,3),(3,4),(0,4),(4,4),(1,2),(1,1)]
theorem znV: ∀l∈Jd,OkL l:=by
 intro l hl;simp only[Jd,List.mem_cons,List.not_mem_nil,or_false] at hl;rcases hl with rfl|rfl|rfl|rfl|rfl|rfl|rfl|rfl|rfl|rfl|rfl|rfl|rfl|rfl|rfl|rfl|rfl|rfl|rfl<;>exact⟨by decide,by decide,by decide,by decide⟩
theorem znW(n:Nat)(x:Int): ∃l,OkL l/\zv U zh (n+1) 16 [.int x]=some (.val (cD l)):=by
 rw[yj zne rfl];have h19:(0:Int)<19:=by decide
 have hl:=yD;obtain⟨k,hk⟩:=Int.eq_ofNat_of_zero_le (Int.emod_nonneg x (by decide:(19:Int)≠0));have hk2:k<19:=by have:=Int.emod_lt_of_pos x h19;omega
 have hlen:Jd.length=19:=rfl;refine⟨Jd[k]'(by omega),znV _ (Kt _),?_⟩;simp only[VB];simp[jT h19,hk];rw[gY (by simp;omega)];simp
 rw[show ([D.tup [.int 1,.int 2],.tup [.int 0,.int 1],.tup [.int 1,.int 1],.tup [.int 1,.int 2],.tup [.int 0,.int 2],.tup [.int 1,.int 3],.tup [.int 2,.int 3],.tup [.int 0,.int 1],.tup [.int 1,.int 2],.tup [.int 2,.int 2],.tup [.int 0,.int 3],.tup [.int 1,.int 4],.tup [.int 2,.int 4],
  .tup [.int 3,.int 3],.tup [.int 3,.int 4],.tup [.int 0,.int 4],.tup [.int 4,.int 4],.tup [.int 1,.int 2],.tup [.int 1,.int 1]]:List D)=Jd.map cD from rfl]
 rw[YF,atI_nat (by simp;omega)];simp
noncomputable def depth:Nat:=40
end LK
namespace LK
open L2.LW
noncomputable abbrev Ms:=List (za×za)
noncomputable def dD(ms:Ms):D:=.dct true (ms.map fun p=>cD p.1) (ms.map fun p=>cD p.2)
noncomputable def get(ms:Ms)(c:za):Option za:=(ms.find? fun p=>decide (p.1=c)).map (·.2)
noncomputable def put(ms:Ms)(c v:za):Ms:=if (get ms c).isSome then ms.map (fun p=>if p.1=c then (p.1,v) else p) else ms++[(c,v)]
@[simp] theorem jV{c:za}:yK true (cD c)=true:=by simp[cD,yK,ints?]
theorem zel(c:za): ∀l:List za,yR (l.map cD) (cD c)=l.findIdx? fun x=>decide (x=c)
 |[]=>rfl
 |x::r=>by
  have ih:=zel c r;unfold yR at ih⊢;rw[List.map_cons,List.findIdx?_cons,List.findIdx?_cons,Jb,ih]
theorem jW(c:za): ∀l:List za,(yR (l.map cD) (cD c)).isSome=decide (c∈l):=fun l=>by
 rw[zel]
 cases e:l.findIdx? fun x=>decide (x=c) with
 |none=>
  rw[List.findIdx?_eq_none_iff] at e;have:c∉l:=fun h=>by have:=e c h;simp at this
  simp[this]
 |some i=>
  obtain⟨h1,h2,_⟩:=List.findIdx?_eq_some_iff_getElem.mp e
  have:c∈l:=by
   have h2:l[i]=c:=by simpa using h2
   rw[<-h2];exact Kt h1
  simp[this]
theorem zem(c:za):get [] c=none:=rfl
theorem ZJ(p:za×za)(r:Ms)(c:za):get (p::r) c=if p.1=c then some p.2 else get r c:=by
 unfold get;rw[List.find?_cons];by_cases h:p.1=c<;>simp[h]
theorem YN(c:za): ∀ms:Ms,(get ms c).isSome=decide (c∈ms.map (·.1))
 |[]=>rfl
 |p::r=>by
  rw[ZJ,List.map_cons];by_cases h:p.1=c
  ·simp[h]
  ·rw[if_neg h,YN c r]
   have: ¬c=p.1:=fun z=>h z.symm
   simp[this]
theorem zen(c:za): ∀ms:Ms,dget (ms.map fun p=>cD p.1) (ms.map fun p=>cD p.2) (cD c)=(get ms c).map cD
 |[]=>rfl
 |p::r=>by
  have ih:=zen c r;unfold dget yR at ih⊢;rw[List.map_cons,List.map_cons,List.findIdx?_cons,Jb,ZJ];by_cases h:p.1=c
  ·simp[h]
  ·rw[if_neg h,<-ih]
   simp only[h,decide_false,Bool.false_eq_true,if_false];cases (List.findIdx? (fun x=>zN x (cD c)) (r.map fun p=>cD p.1))<;>simp
theorem ki(ms:Ms):(ms.map fun p=>cD p.1)=(ms.map (·.1)).map cD:=by rw[List.map_map];rfl
@[simp] theorem zwB{c:za}{ms:Ms}:zg .inn [cD c,dD ms]=some (.val (.bl (get ms c).isSome)):=by
 simp only[dD,zg,Xs,jV,if_true,yN,ki,jW,YN]
@[simp] theorem znX{c:za}{ms:Ms}:zg .nin [cD c,dD ms]=some (.val (.bl (!(get ms c).isSome))):=by
 simp only[dD,zg,jg,jV,if_true,yN,ki,jW,YN]
theorem Je{c:za}{ms:Ms}{v:za}(h:get ms c=some v):zg .idx [dD ms,cD c]=some (.val (cD v)):=by
 simp only[dD,zg,jF,jV,if_true,zen,h,Option.map_some]
theorem znY(ms:Ms)(c v:za):xo true (ms.map fun p=>cD p.1) (ms.map fun p=>cD p.2) (cD c) (cD v)=dD (put ms c v):=by
 unfold xo put;rw[ki,jW,<-YN,<-ki];split
 ·have: ∀ms:Ms,List.zipWith (fun k' v'=>if zN k' (cD c)=true then cD v else v') (ms.map fun p=>cD p.1) (ms.map fun p=>cD p.2)=ms.map fun p=>cD (if p.1=c then (p.1,v) else p).2:=by
   intro ms
   induction ms with
   |nil=>rfl
   |cons p r ih=>
    rw[List.map_cons,List.map_cons,List.zipWith_cons_cons,ih,List.map_cons,Jb];by_cases h:p.1=c<;>simp[h]
  rw[this];unfold dD;rw[List.map_map,List.map_map]
  congr 1
  ·apply List.map_congr_left
   intro p _;show cD p.1=cD (if p.1=c then (p.1,v) else p).1;split<;>rfl
 ·simp[dD]
@[simp] theorem zwC{ms:Ms}:xu (ms.map fun p=>cD p.2)=true:=by
 have:(ms.map fun p=>cD p.2)=(ms.map (·.2)).map cD:=by rw[List.map_map];rfl
 rw[this];exact zd6
@[simp] theorem zwD{ms:Ms}:vM (dD ms)=true:=by simp[dD]
@[simp] theorem zwE{ms:Ms}:wX (dD ms)=true:=by simp[dD]
theorem YO(ms:Ms)(c v x:za):get (put ms c v) x=if x=c then some v else get ms x:=by
 unfold put;split
 ·rename_i h
  have key: ∀ms:Ms,get (ms.map fun p=>if p.1=c then (p.1,v) else p) x=if x=c then (get ms x).map (fun _=>v) else get ms x:=by
   intro ms
   induction ms with
   |nil=>simp[zem]
   |cons p r ih=>
    rw[List.map_cons,ZJ,ZJ,ih];by_cases h1:p.1=c
    ·subst h1
     by_cases h2:p.1=x
     ·subst h2;simp
     ·have h3: ¬x=p.1:=fun z=>h2 z.symm
      simp[h2,h3]
    ·by_cases h2:p.1=x
     ·subst h2;simp[h1]
     ·simp[h1,h2]
  rw[key];by_cases hx:x=c
  ·subst hx
   obtain⟨y,hy⟩:=Option.isSome_iff_exists.mp h;simp[hy]
  ·simp[hx]
 ·rename_i h
  have key: ∀ms:Ms,get (ms++[(c,v)]) x=match get ms x with
    |some y=>some y
    |none=>if x=c then some v else none:=by
   intro ms
   induction ms with
   |nil=>
    show get ((c,v)::[]) x=_;rw[ZJ,zem];by_cases h:c=x
    ·subst h;simp
    ·have: ¬x=c:=fun z=>h z.symm
     simp[h,this]
   |cons p r ih=>
    rw[List.cons_append,ZJ,ZJ,ih];by_cases h:p.1=x<;>simp[h]
  rw[key];by_cases hx:x=c
  ·subst hx
   have:get ms x=none:=by simpa using h
   simp[this]
  ·cases get ms x<;>simp[hx]
theorem zeo(ms:Ms)(c v:za):(put ms c v).length<=ms.length+1:=by
 unfold put;split<;>simp
noncomputable def Jf(ms:Ms):Prop:=(ms.map (·.1)).Nodup
theorem znZ(ms:Ms)(c v:za):(put ms c v).map (·.1)=if c∈ms.map (·.1) then ms.map (·.1) else ms.map (·.1)++[c]:=by
 unfold put;rw[YN];by_cases h:c∈ms.map (·.1)
 ·simp only[h,decide_true,if_true]
  rw[List.map_map];apply List.map_congr_left;intro p _;show (if p.1=c then (p.1,v) else p).1=p.1;split<;>rfl
 ·simp[h]
theorem zep{ms:Ms}{c v:za}(h:Jf ms):Jf (put ms c v):=by
 unfold Jf at*;rw[znZ];split
 ·exact h
 ·rename_i hc
  rw[List.nodup_append];refine⟨h,by simp,fun a ha b hb e=>?_⟩;simp at hb;subst hb;subst e;exact hc ha
theorem wy{α:Type}[DecidableEq α]: ∀{l m:List α},l.Nodup->(∀x∈l,x∈m)->l.length<=m.length
 |[],_,_,_=>Nat.zero_le _
 |x::r,m,hn,hs=>by
  rw[List.nodup_cons] at hn;have hx:=hs x Ke
  have ih:=wy (l:=r) (m:=m.erase x) hn.2 fun y hy=>by
   rw[List.mem_erase_of_ne (fun e=>hn.1 (by rw[<-e];exact hy))];exact hs y (Kf _ hy)
  rw[List.length_erase_of_mem hx] at ih;have:0<m.length:=List.length_pos_of_mem hx;simp;omega
noncomputable def kj(l:za):List Int:=((List.range l.2.toNat).map fun (k:Nat)=>(1+(k:Int))).filter fun d=>decide (l.1%d=0)&&decide (l.2%d=0)
noncomputable def yf(l:za):Int:=match kj l with
 |[]=>1
 |n::r=>r.foldl max n
theorem zeq{l:za}(h:OkL l):l∈[((0:Int),(1:Int)),(1,1),(0,2),(1,2),(2,2),(0,3),(1,3),(2,3),(3,3),(0,4),(1,4),(2,4),(3,4),(4,4)]:=by
 obtain⟨h1,h2,h3,h4⟩:=h;have all: ∀i j:Fin 5,i.1<=j.1->1<=j.1->(((i.1:Nat):Int),((j.1:Nat):Int))∈[((0:Int),(1:Int)),(1,1),(0,2),(1,2),(2,2),(0,3),(1,3),(2,3),(3,3),(0,4),(1,4),(2,4),(3,4),(4,4)]:=by decide+kernel
 have:=all ⟨l.1.toNat,by omega⟩ ⟨l.2.toNat,by omega⟩ (by simp only;omega) (by simp only;omega);simp only at this;rw[Int.toNat_of_nonneg h1,Int.toNat_of_nonneg (by omega)] at this;exact this
theorem OkL.cases{P:za->Prop}{l:za}(h:OkL l)(p: ∀x∈[((0:Int),(1:Int)),(1,1),(0,2),(1,2),(2,2),(0,3),(1,3),(2,3),(3,3),(0,4),(1,4),(2,4),(3,4),(4,4)],P x):P l:=p l (zeq h)
theorem zam{l:za}(h:OkL l):kj l≠[]/\1<=yf l/\yf l<=4:=by
 revert l
 intro l h;have:=zeq h;simp only[List.mem_cons,List.not_mem_nil,or_false] at this;rcases this with rfl|rfl|rfl|rfl|rfl|rfl|rfl|rfl|rfl|rfl|rfl|rfl|rfl|rfl<;>decide+kernel
theorem zer(n:Nat){l:za}(h:OkL l):zv U zh (n+1) 21 [cD l]=some (.val (.int (yf l))):=by
 rw[yj zng rfl];have hl':=yD;have h3:=h.c;have h4:=h.d;have e3:(l.2+1-1).toNat=l.2.toNat:=by omega
 simp only[VD];simp;rw[jp (rs:=[.val (.int 1),.val (.int (l.2+1))]) (xs:=(List.range l.2.toNat).map fun (k:Nat)=>(1+(k:Int))) (f:=D.int) (fun d=>decide (l.1%d=0)&&decide (l.2%d=0)) D.int]
 ·obtain⟨hne,_⟩:=zam h
  show YD ((((zg .maxL [.lst ((kj l).map D.int)])).bind _).bind _)=_;unfold yf
  cases e:kj l with
  |nil=>exact KC e hne
  |cons n r=>
   rw[zm2];simp
 ·simp
 ·rw[zeh ⟨ZE (by omega) (by omega),ZE (by omega) (by omega)⟩,e3,List.map_map]
  rfl
 ·simp;omega
 ·intro d hd
  rw[List.mem_map] at hd;obtain⟨k,hk,rfl⟩:=hd;have hp:0<1+(k:Int):=by omega
  simp[jT hp];by_cases h0:l.1%(1+(k:Int))=0
  ·simp[h0];rw[Bool.eq_iff_iff];simp
  ·simp[h0]
 ·intro d hd _
  simp
noncomputable def vy(l:za):Bool:=decide ((l.1/yf l+l.2/yf l)%2=1)
noncomputable def zr(l c:za):Int:=if vy l then (c.1/yf l+c.2/yf l)%2 else c.1/yf l%2
theorem zn0(n:Nat){l:za}(h:OkL l):zv U zh (n+2) 22 [cD l]=some (.val (.bl (vy l))):=by
 rw[yj znh rfl];obtain⟨_,g1,g2⟩:=zam h;have hg:0<yf l/\yf l<1073741824:=by omega
 have h2:(0:Int)<2:=by decide
 simp[VE,zer n h,gZ hg,jT h2];unfold vy;rw[Bool.eq_iff_iff];simp
theorem zes(n:Nat){l:za}(h:OkL l)(c:za):zv U zh (n+3) 23 [cD l,cD c]=some (.val (.int (zr l c))):=by
 rw[yj zni rfl];obtain⟨_,g1,g2⟩:=zam h;have hg:0<yf l/\yf l<1073741824:=by omega
 have h2:(0:Int)<2:=by decide
 simp[VF,zer (n+1) h,zn0 n h,gZ hg,jT h2];unfold zr;by_cases ho:vy l=true<;>simp[ho,jT h2]
theorem km(n:Nat){l:za}(h:OkL l){f:List za}(hf:f.length<=1000)(k:Int):zv U zh (n+4) 24 [fD f,cD l,.int k]=some (.obj true (.lst ((f.filter fun c=>decide (zr l c=k)).map cD))):=by
 rw[yj znj rfl];have hl':=yD;simp only[VG];simp;rw[jp (rs:=[.val (fD f)]) (xs:=f) (f:=cD) (fun c=>decide (zr l c=k)) cD]
 ·simp
 ·simp
 ·rfl
 ·omega
 ·intro x _
  simp[zes n h];rw[Bool.eq_iff_iff];simp
 ·intro x _ _;simp
theorem zet(i:Int):(xO i=i/\0<=i)\/(xO i= -i/\i<0):=by
 unfold xO;split<;>omega
theorem zeu{l a b:za}:zK l a b=true↔(xO (a.1-b.1)=l.1/\xO (a.2-b.2)=l.2/\l.1<=l.2)\/(xO (a.1-b.1)=l.2/\xO (a.2-b.2)=l.1/\l.1<=l.2):=by
 unfold zK;rw[decide_eq_true_iff];obtain⟨l1,l2⟩:=l;simp only[Prod.mk.injEq];omega
theorem zn1{l:za}(h:OkL l):1<=yf l/\l.1=yf l*(l.1/yf l)/\l.2=yf l*(l.2/yf l)/\(vy l=false->l.1/yf l%2=1/\l.2/yf l%2=1):=
 OkL.cases (P:=fun l=>1<=yf l/\l.1=yf l*(l.1/yf l)/\l.2=yf l*(l.2/yf l)/\(vy l=false->l.1/yf l%2=1/\l.2/yf l%2=1)) h (by decide+kernel)
theorem kn{g m x y:Int}(hg:1<=g)(h:x-y=g*m\/x-y= -(g*m)):(x/g=y/g+m\/x/g=y/g-m)/\x%g=y%g:=by
 rcases h with h|h
 ·rw[show x=y+g*m by omega,Int.add_mul_ediv_left _ _ (by omega),Int.add_mul_emod_self_left]
  exact⟨.inl rfl,rfl⟩
 ·rw[show x=y+g*(-m) by rw[Int.mul_neg];omega,Int.add_mul_ediv_left _ _ (by omega),Int.add_mul_emod_self_left]
  exact⟨.inr (by omega),rfl⟩
theorem zn2{l a b:za}(h:OkL l)(hn:zK l a b=true): ∃m n:Int,(a.1/yf l=b.1/yf l+m\/a.1/yf l=b.1/yf l-m)/\(a.2/yf l=b.2/yf l+n\/a.2/yf l=b.2/yf l-n)/\
  a.1%yf l=b.1%yf l/\a.2%yf l=b.2%yf l/\(vy l=true->(m+n)%2=1)/\(vy l=false->m%2=1/\n%2=1):=by
 obtain⟨g1,e1,e2,ev⟩:=zn1 h;have od:vy l=true->(l.1/yf l+l.2/yf l)%2=1:=fun z=>by unfold vy at z;exact of_decide_eq_true z
 have ha:=zet (a.1-b.1);have hb:=zet (a.2-b.2);rw[zeu] at hn;generalize yf l=g at*;generalize l.1/g=m at*;generalize l.2/g=n at*;rw[e1,e2] at hn;rcases hn with ⟨p,q,_⟩|⟨p,q,_⟩
 ·obtain⟨s1,s2⟩:=kn (x:=a.1) (y:=b.1) g1 (m:=m) (by omega)
  obtain⟨t1,t2⟩:=kn (x:=a.2) (y:=b.2) g1 (m:=n) (by omega);exact⟨m,n,s1,t1,s2,t2,od,ev⟩
 ·obtain⟨s1,s2⟩:=kn (x:=a.1) (y:=b.1) g1 (m:=n) (by omega)
  obtain⟨t1,t2⟩:=kn (x:=a.2) (y:=b.2) g1 (m:=m) (by omega);exact⟨n,m,s1,t1,s2,t2,fun z=>by have:=od z;omega,fun z=>⟨(ev z).2,(ev z).1⟩⟩
theorem vj{l a b:za}(h:OkL l)(hn:zK l a b=true):zr l a≠zr l b:=by
 obtain⟨m,n,s,t,_,_,od,ev⟩:=zn2 h hn;unfold zr;by_cases z:vy l=true
 ·have:=od z
  rw[if_pos z,if_pos z];omega
 ·have:=(ev (by simpa using z)).1
  rw[if_neg z,if_neg z];omega
theorem xy{l:za}(c:za):zr l c=0\/zr l c=1:=by
 unfold zr;split<;>omega
end LK
namespace LK
open L2.LW
theorem zev{i:Nat}{body:Env->Option (Fl×Env)}(I:List za->Env->Prop)(Q:SV->Env->Prop){xs:List za}{ρ:Env}(h0:I [] ρ)
  (st: ∀pre x post ρ,xs=pre++x::post->I pre ρ->∃fl ρ',body (ρ.set i (some (.val (cD x))))=some (fl,ρ')/\(((fl= .nx\/fl= .ct)/\I (pre++[x]) ρ')\/∃r,fl= .rt r/\Q r ρ')):
  ∃fl ρ',yx i body (xs.map cD) ρ=some (fl,ρ')/\((fl= .nx/\I xs ρ')\/∃r,fl= .rt r/\Q r ρ'):=by
 have key: ∀(post pre:List za) (ρ:Env),xs=pre++post->I pre ρ->∃fl ρ',yx i body (post.map cD) ρ=some (fl,ρ')/\((fl= .nx/\I xs ρ')\/∃r,fl= .rt r/\Q r ρ'):=by
  intro post
  induction post with
  |nil=>intro pre ρ e h;exact⟨_,ρ,rfl,.inl ⟨rfl,by rw[e];simpa using h⟩⟩
  |cons x post ih=>
   intro pre ρ e h;obtain⟨fl,ρ1,e1,e2⟩:=st pre x post ρ e h;rw[List.map_cons,yx,e1];simp only[Option.bind_some];rcases e2 with ⟨e2,h1⟩|⟨r,rfl,q⟩
   ·obtain⟨fl',ρ',e3,h3⟩:=ih (pre++[x]) ρ1 (by simp[e]) h1
    rcases e2 with rfl|rfl<;>exact⟨fl',ρ',e3,h3⟩
   ·exact⟨_,ρ1,rfl,.inr ⟨r,rfl,q⟩⟩
 exact key xs [] ρ rfl h0
theorem ZK{i:Nat}{body:Env->Option (Fl×Env)}(I:List za->Env->Prop){xs:List za}{ρ:Env}(h0:I [] ρ)
  (st: ∀pre x post ρ,xs=pre++x::post->I pre ρ->∃fl ρ',body (ρ.set i (some (.val (cD x))))=some (fl,ρ')/\(fl= .nx\/fl= .ct)/\I (pre++[x]) ρ'):
  ∃ρ',yx i body (xs.map cD) ρ=some (.nx,ρ')/\I xs ρ':=by
 obtain⟨fl,ρ',e,h⟩:=zev (i:=i) (body:=body) I (fun _ _=>False) (xs:=xs) (ρ:=ρ) h0 fun pre x post ρ e h=>by
  obtain⟨fl,ρ',h1,h2,h3⟩:=st pre x post ρ e h;exact⟨fl,ρ',h1,.inl ⟨h2,h3⟩⟩
 rcases h with ⟨rfl,h⟩|⟨_,_,z⟩
 ·exact⟨ρ',e,h⟩
 ·exact z.elim
noncomputable def zew(k:Option (List D)):Option (Option SV)->Option (List D)
 |some (some (.io d))=>k.map (d:: ·)
 |_=>none
@[simp] theorem zwF{k:Option (List D)}{d:D}:zew k (some (some (.io d)))=k.map (d:: ·):=id rfl
@[simp] theorem zwG{ρ:Env}:wY ρ []=some []:=by rw[wY]
@[simp] theorem zwH{ρ:Env}{i:Nat}{r:List Nat}:wY ρ (i::r)=zew (wY ρ r) ρ[i]? :=by
 rw[wY];rcases ρ[i]? with _|_|(_|_|_)<;>rfl
@[simp] theorem zwI{io:List Nat}{r:SV}{ρ:Env}:jh io (some (.rt r,ρ))=(wY ρ io).map (Ans.ok r):=id rfl
noncomputable def tD(tr:List za):D:=.dct true (tr.map cD) (tr.map fun _=>.bl true)
@[simp] theorem zwJ{tr:List za}:xu (tr.map fun _=>(.bl true:D))=true:=by
 induction tr with
 |nil=>simp
 |cons x r ih=>simpa using ih
@[simp] theorem zwK{tr:List za}:vM (tD tr)=true:=by simp[tD]
@[simp] theorem zwL{tr:List za}:wX (tD tr)=true:=by simp[tD]
@[simp] theorem zwM{c:za}{tr:List za}:zg .nin [cD c,tD tr]=some (.val (.bl (!decide (c∈tr)))):=by
 simp only[tD,zg,jg,jV,if_true,yN,jW]
theorem zn3{tr:List za}{c:za}(h:c∉tr):xo true (tr.map cD) (tr.map fun _=>.bl true) (cD c) (.bl true)=tD (tr++[c]):=by
 unfold xo;rw[jW];simp[h,tD]
section
variable (f:List za) (l:za)
noncomputable def nb(c:za):List za:=f.filter (zK l c)
structure Half (ms:Ms):Prop where
 nd:Jf ms
 inF: ∀x y,get ms x=some y->x∈f/\y∈f/\zK l x y=true
structure Match (ms:Ms):Prop extends Half f l ms where
 sym: ∀x y,get ms x=some y->get ms y=some x
noncomputable def vk(ms:Ms)(T:za->Prop):Prop:=∀y,T y->∃x,get ms y=some x/\∀o∈nb f l x,T o
structure Fail (ms:Ms)(c:za)(tr tr':List za):Prop where
 all: ∀o∈nb f l c,o∈tr'
 cl: ∀y∈tr',y∉tr->∃x,get ms y=some x/\∀o∈nb f l x,o∈tr'
structure Succ (ms ms':Ms)(c:za)(tr:List za):Prop where
 half:Half f l ms'
 left: ∀x y,zr l x=0->get ms' x=some y->get ms' y=some x
 right: ∀x y,zr l y=1->get ms c≠some y->get ms' y=some x->get ms' x=some y
 old: ∀y∈tr,zr l y=1->get ms' y=get ms y
 own: ∃y,get ms' c=some y/\y∉tr
 keep: ∀x,zr l x=0->x≠c->(get ms x=none\/∃y∈tr,get ms x=some y)->get ms' x=get ms x
 dom: ∀x,(get ms x).isSome=true->(get ms' x).isSome=true
 closed: ∀T,vk f l ms T->∀y,zr l y=1->T y->get ms' y=get ms y
 dead: ∀T,vk f l ms T->¬ ∀o∈nb f l c,T o
end
section
variable {f:List za} {l:za}
theorem wj{c o:za}:o∈nb f l c↔o∈f/\zK l c o=true:=by unfold nb;exact List.mem_filter
theorem Half.len{ms:Ms}(h:Half f l ms):ms.length<=f.length:=by
 have:=wy (l:=ms.map fun (p:za×za)=>p.1) (m:=f) h.nd fun x hx=>by
  have:(get ms x).isSome=true:=by rw[YN];simpa using hx
  obtain⟨y,hy⟩:=Option.isSome_iff_exists.mp this;exact (h.inF x y hy).1
 simpa using this
theorem Half.put2{ms:Ms}(h:Half f l ms){c o:za}(hc:c∈f)(ho:o∈f)(hn:zK l c o=true):Half f l (put (put ms c o) o c):=by
 refine⟨zep (zep h.nd),fun x y e=>?_⟩;rw[YO,YO] at e;split at e
 ·cases e;rename_i z;subst z;exact⟨ho,hc,by rw[wE];exact hn⟩
 ·split at e
  ·cases e;rename_i z;subst z;exact⟨hc,ho,hn⟩
  ·exact h.inF x y e
theorem zn4(hl:OkL l){ms:Ms}(hm:Match f l ms){c o:za}{tr:List za}(hc:c∈f)(h0:zr l c=0)(ho:o∈nb f l c)(hfree:get ms o=none)(hot:o∉tr):
  Succ f l ms (put (put ms c o) o c) c tr:=by
 rw[wj] at ho
 have h1:zr l o=1:=by
  have:=vj hl ho.2;rcases xy (l:=l) o with z|z
  ·rw[z] at this;exact KC h0 this
  ·exact z
 have hne:c≠o:=fun e=>by rw[e] at h0;omega
 have g: ∀x,get (put (put ms c o) o c) x=if x=o then some c else if x=c then some o else get ms x:=fun x=>by rw[YO,YO]
 refine⟨hm.put2 hc ho.1 ho.2,fun x y hx e=>?_,fun x y hy hcy e=>?_,fun y hy hh=>?_,⟨o,by rw[g,if_neg hne,if_pos rfl],hot⟩,fun x hx hxc _=>?_,fun x hx=>?_,fun T hT y hy hTy=>?_,fun T hT hall=>?_⟩
 ·rw[g] at e⊢
  split at e
  ·rename_i z;subst z;omega
  ·split at e
   ·rename_i z;cases e;rw[if_pos rfl,z]
   ·have:=hm.sym x y e
    rw[if_neg,if_neg,this]
    ·intro z;subst z;rw[hm.sym _ _ this] at e;rename_i q _;exact (by
      have e2:=(hm.inF _ _ this).2.2;have:=vj hl e2;omega)
    ·intro z;subst z;rw[hfree] at this;cases this
 ·rw[g] at e⊢
  split at e
  ·rename_i z;cases e;subst z;rw[if_neg hne,if_pos rfl]
  ·split at e
   ·rename_i z;subst z;omega
   ·have:=hm.sym y x e
    rw[if_neg,if_neg,this]
    ·intro z;subst z;rename_i q1 q2;exact hcy this
    ·intro z;subst z;rw[hfree] at this;cases this
 ·rw[g,if_neg (fun z=>by subst z;exact hot hy),if_neg (fun z=>by subst z;omega)]
 ·rw[g,if_neg (fun z=>by subst z;omega),if_neg hxc]
 ·rw[g];split
  ·rfl
  ·split
   ·rfl
   ·exact hx
 ·rw[g,if_neg,if_neg]
  ·intro z;subst z;omega
  ·intro z;subst z
   obtain⟨x,e,_⟩:=hT _ hTy;rw[hfree] at e;cases e
 ·obtain⟨x,e,_⟩:=hT _ (hall o (wj.mpr ho))
  rw[hfree] at e;cases e
theorem zn5(hl:OkL l){ms ms':Ms}(hm:Match f l ms){c o c':za}{tr tr1:List za}(hc:c∈f)(h0:zr l c=0)(hcm:get ms c=none\/∃y∈tr,get ms c=some y)(ho:o∈nb f l c)(hoc:get ms o=some c')(hot:o∉tr)(ht: ∀y∈tr,y∈tr1)(hot1:o∈tr1)(hS:Succ f l ms ms' c' tr1):
  Succ f l ms (put (put ms' c o) o c) c tr:=by
 rw[wj] at ho
 have h1:zr l o=1:=by
  have:=vj hl ho.2;rcases xy (l:=l) o with z|z
  ·rw[z] at this;exact KC h0 this
  ·exact z
 have hc'o:=hm.sym o c' hoc
 have h0':zr l c'=0:=by
  have:=vj hl (hm.inF _ _ hoc).2.2;rcases xy (l:=l) c' with z|z
  ·exact z
  ·rw[h1,z] at this;exact KC rfl this
 have hne:c≠o:=fun e=>by rw[e] at h0;omega
 have hcc':c≠c':=fun e=>by
  subst e;rcases hcm with z|⟨y,hy,z⟩
  ·rw[hc'o] at z;cases z
  ·rw[hc'o] at z;cases z;exact hot hy
 have hmo:get ms' o=some c':=by rw[hS.old o hot1 h1];exact hoc
 have hmc:get ms' c=get ms c:=hS.keep c h0 hcc' (hcm.imp id fun ⟨y,hy,z⟩=>⟨y,ht y hy,z⟩);obtain⟨y1,hy1,hy1t⟩:=hS.own;have hy1o:y1≠o:=fun e=>hy1t (by rw[e];exact hot1)
 have g: ∀x,get (put (put ms' c o) o c) x=if x=o then some c else if x=c then some o else get ms' x:=fun x=>by rw[YO,YO]
 refine⟨hS.half.put2 hc ho.1 ho.2,fun x y hx e=>?_,fun x y hy hcy e=>?_,fun y hy hh=>?_,⟨o,by rw[g,if_neg hne,if_pos rfl],hot⟩,fun x hx hxc hxm=>?_,fun x hx=>?_,fun T hT y hy hTy=>?_,fun T hT hall=>?_⟩
 ·rw[g] at e⊢
  split at e
  ·rename_i z;subst z;omega
  ·split at e
   ·rename_i z;cases e;rw[if_pos rfl,z]
   ·rename_i z1 z2
    have e2:=hS.left x y hx e
    have hyh:zr l y=1:=by
     have:=vj hl (hS.half.inF _ _ e).2.2;rcases xy (l:=l) y with z|z
     ·rw[hx,z] at this;exact KC rfl this
     ·exact z
    rw[if_neg,if_neg,e2]
    ·intro z;subst z;omega
    ·intro z;subst z
     rw[hmo] at e2;cases e2;rw[hy1] at e;cases e;exact hy1o rfl
 ·rw[g] at e⊢
  split at e
  ·rename_i z;cases e;subst z;rw[if_neg hne,if_pos rfl]
  ·split at e
   ·rename_i z;subst z;omega
   ·rename_i z1 z2
    have e2:=hS.right x y hy (fun z=>by rw[hc'o] at z;cases z;exact z1 rfl) e;rw[if_neg,if_neg,e2]
    ·intro z;subst z
     rw[hmc] at e2;exact hcy e2
    ·intro z;subst z
     have:=vj hl (hS.half.inF _ _ e).2.2;omega
 ·rw[g,if_neg (fun z=>by subst z;exact hot hy),if_neg (fun z=>by subst z;omega)]
  exact hS.old y (ht y hy) hh
 ·rw[g,if_neg (fun z=>by subst z;omega),if_neg hxc]
  refine hS.keep x hx (fun z=>?_) (hxm.imp id fun ⟨y,hy,z⟩=>⟨y,ht y hy,z⟩);subst z;rcases hxm with z|⟨y,hy,z⟩
  ·rw[hc'o] at z;cases z
  ·rw[hc'o] at z;cases z;exact hot hy
 ·rw[g];split
  ·rfl
  ·split
   ·rfl
   ·exact hS.dom x hx
 ·rw[g,if_neg,if_neg]
  ·exact hS.closed T hT y hy hTy
  ·intro z;subst z;omega
  ·intro z;subst z
   obtain⟨x,e,hx⟩:=hT _ hTy;rw[hoc] at e;cases e;exact hS.dead T hT hx
 ·obtain⟨x,e,hx⟩:=hT _ (hall o (wj.mpr ho))
  rw[hoc] at e;cases e;exact hS.dead T hT hx
@[simp] theorem zwN{c:za}:jG (.val (cD c))=some (.e (cD c)):=by simp[cD]
@[simp] theorem zwO{g:List za}:jG (.val (fD g))=some (.e (fD g)):=by simp[fD]
noncomputable def xP(f:List za)(l:za)(ms:Ms)(c:za)(tr:List za)(o:Option SV):Env:=[some (.val (fD f)),some (.val (cD l)),some (.io (dD ms)),some (.val (cD c)),some (.io (tD tr)),o]
noncomputable def jX(f tr:List za):Nat:=(f.filter fun c=>decide (c∉tr)).length
theorem zn6{tr:List za}{o:za}(ho:o∈f)(ht:o∉tr):jX f (tr++[o])<jX f tr:=by
 unfold jX
 have key: ∀g:List za,(g.filter fun c=>decide (c∉tr++[o])).length<=(g.filter fun c=>decide (c∉tr)).length/\(o∈g->(g.filter fun c=>decide (c∉tr++[o])).length<(g.filter fun c=>decide (c∉tr)).length):=by
  intro g
  induction g with
  |nil=>exact⟨Nat.le_refl _,fun h=>by cases h⟩
  |cons x r ih=>
   by_cases hx:x=o
   ·subst hx
    have a1:decide (x∉tr++[x])=false:=by simp
    have a2:decide (x∉tr)=true:=by simpa using ht
    rw[List.filter_cons,List.filter_cons,a1,a2];simp only[Bool.false_eq_true,if_false,if_true,List.length_cons];exact⟨by omega,fun _=>by omega⟩
   ·have a1:decide (x∉tr++[o])=decide (x∉tr):=by simp[hx]
    rw[List.filter_cons,List.filter_cons,a1];split
    ·simp only[List.length_cons]
     refine⟨by omega,fun h=>?_⟩;rcases List.mem_cons.mp h with z|z
     ·exact KC z.symm hx
     ·have:=ih.2 z;omega
    ·refine⟨ih.1,fun h=>?_⟩
     rcases List.mem_cons.mp h with z|z
     ·exact KC z.symm hx
     ·exact ih.2 z
 exact (key f).2 ho
theorem zn7{tr tr':List za}(h: ∀y∈tr,y∈tr'):jX f tr'<=jX f tr:=by
 unfold jX
 have key: ∀g:List za,(g.filter fun c=>decide (c∉tr')).length<=(g.filter fun c=>decide (c∉tr)).length:=by
  intro g
  induction g with
  |nil=>exact Nat.le_refl _
  |cons x r ih=>
   rw[List.filter_cons,List.filter_cons];by_cases h1:x∈tr
   ·have h2:=h x h1
    simp only[h1,h2,not_true,decide_false,Bool.false_eq_true,if_false];exact ih
   ·by_cases h2:x∈tr'
    ·simp only[h1,h2,not_true,not_false_iff,decide_false,decide_true,Bool.false_eq_true,if_false,if_true,List.length_cons];omega
    ·simp only[h1,h2,not_false_iff,decide_true,if_true,List.length_cons];omega
 exact key f
theorem zn8(f tr:List za):jX f tr<=f.length:=KB _ _
structure TrOk (f tr:List za):Prop where
 nd:tr.Nodup
 sub: ∀x∈tr,x∈f
theorem TrOk.len{tr:List za}(h:TrOk f tr):tr.length<=f.length:=wy h.nd h.sub
theorem TrOk.snoc{tr:List za}{o:za}(h:TrOk f tr)(ho:o∈f)(ht:o∉tr):TrOk f (tr++[o]):=by
 refine⟨?_,fun x hx=>?_⟩
 ·rw[List.nodup_append]
  refine⟨h.nd,by simp,fun a ha b hb e=>?_⟩;simp at hb;subst hb;subst e;exact ht ha
 ·rw[List.mem_append,List.mem_singleton] at hx
  rcases hx with z|rfl
  ·exact h.sub x z
  ·exact ho
structure FM (f:List za)(l:za)(n:Nat)(ms:Ms)(c:za)(tr:List za)(b:Bool)(ms':Ms)(tr':List za):Prop where
 eq:zD U zh n 37 [fD f,cD l,dD ms,cD c,tD tr]=some (.ok (.val (.bl b)) [dD ms',tD tr'])
 tr_: ∀y∈tr,y∈tr'
 ok:TrOk f tr'
 no:b=false->ms'=ms/\Fail f l ms c tr tr'
 yes:b=true->Succ f l ms ms' c tr
theorem zn9(n:Nat)(hl:OkL l)(hf:f.length<=100){ms:Ms}(hm:Match f l ms){c o:za}{tr:List za}{o':Option SV}(ht:TrOk f tr)(hc:c∈f)(h0:zr l c=0)(ho:o∈nb f l c)
  (hrec: ∀c',get ms o=some c'->o∉tr->∃b ms' tr',FM f l n ms c' (tr++[o]) b ms' tr'):
  (o∈tr/\zp (zD U zh n) zh jU (xP f l ms c tr (some (.val (cD o))))=some (.nx,xP f l ms c tr (some (.val (cD o)))))\/
  (o∉tr/\get ms o=none/\zp (zD U zh n) zh jU (xP f l ms c tr (some (.val (cD o))))=some (.rt (.val (.bl true)),xP f l (put (put ms c o) o c) c (tr++[o]) (some (.val (cD o)))))\/
  (o∉tr/\∃c' ms' tr' b,get ms o=some c'/\FM f l n ms c' (tr++[o]) b ms' tr'/\zp (zD U zh n) zh jU (xP f l ms c tr (some (.val (cD o))))=
   some (if b then (.rt (.val (.bl true)),xP f l (put (put ms' c o) o c) c tr' (some (.val (cD o)))) else (.nx,xP f l ms' c tr' (some (.val (cD o)))))):=by
 have hl':=yD;have hml:=hm.len;have htl:=ht.len;by_cases hot:o∈tr
 ·refine .inl ⟨hot,?_⟩
  simp[jU,xP,hot]
 ·have hk1:decide (tr.length<line)=true:=by simp;omega
  have hT: ∀g:D,tD tr= .dct true (tr.map cD) (tr.map fun _=>.bl true):=fun _=>rfl
  have hD: ∀ms:Ms,dD ms= .dct true (ms.map fun p=>cD p.1) (ms.map fun p=>cD p.2):=fun _=>rfl
  have e1: ∀ρ:Env,jm ρ 4 (some (.val (cD o))) (some (.val (.bl true))) (some (some (.io (tD tr))))=some (.nx,ρ.set 4 (some (.io (tD (tr++[o]))))):=fun ρ=>by
   rw[tD,zdV];simp only[Option.bind_some,ZC,jV,List.length_map,hk1,Bool.and_self,if_true,zn3 hot]
  have e2: ∀(ρ:Env) (i:Nat) (ms:Ms) (a b:za),ms.length<line->jm ρ i (some (.val (cD a))) (some (.val (cD b))) (some (some (.io (dD ms))))=some (.nx,ρ.set i (some (.io (dD (put ms a b))))):=fun ρ i ms a b h=>by
   rw[dD,zdV];simp only[Option.bind_some,ZC,jV,List.length_map,h,decide_true,Bool.and_self,if_true,znY]
  cases hg:get ms o with
  |none=>
   refine .inr (.inl ⟨hot,rfl,?_⟩);have p1:=zeo ms c o;simp[jU,xP,hot,e1,hg];rw[e2 _ 2 ms c o (by omega)];simp;rw[e2 _ 2 (put ms c o) o c (by omega)];simp
  |some c'=>
   obtain⟨b,ms',tr',hr⟩:=hrec c' hg hot;refine .inr (.inr ⟨hot,c',ms',tr',b,rfl,hr,?_⟩);have heq:=hr.eq;simp[jU,xP,hot,e1,hg,Je hg,heq]
   cases b with
   |true=>
    have p0:=(hr.yes rfl).half.len;have p1:=zeo ms' c o;simp;rw[e2 _ 2 ms' c o (by omega)];simp;rw[e2 _ 2 (put ms' c o) o c (by omega)];simp
   |false=>simp
theorem xQ(hl:OkL l){a b:za}(h:zK l a b=true):(zr l a=0->zr l b=1)/\(zr l a=1->zr l b=0):=by
 have:=vj hl h;have h1:=xy (l:=l) a;have h2:=xy (l:=l) b;omega
theorem zoa(hl:OkL l)(hf:OkF f){ms:Ms}(hm:Match f l ms): ∀(u:Nat) (c:za) (tr:List za) (n:Nat),jX f tr<u->u+3<=n->TrOk f tr->c∈f->zr l c=0->(get ms c=none\/∃y∈tr,get ms c=some y)->∃b ms' tr',FM f l n ms c tr b ms' tr':=by
 intro u
 induction u with
 |zero=>intro c tr n hu;omega
 |succ u ih=>
  intro c tr n hu hn ht hc h0 hcm;obtain⟨m,rfl⟩: ∃m,n=m+4:=⟨n-4,by omega⟩;have hlen:=hf.len
  obtain⟨fl,ρ',hx,hq⟩:=zev (i:=5) (body:=zp (zD U zh (m+3)) zh jU)
   (fun pre ρ=>∃tr' o',ρ=xP f l ms c tr' o'/\(∀y∈tr,y∈tr')/\TrOk f tr'/\(∀o∈pre,o∈tr')/\(∀y∈tr',y∉tr->∃x,get ms y=some x/\∀o∈nb f l x,o∈tr'))
   (fun r ρ=>∃ms' tr' o',r= .val (.bl true)/\ρ=xP f l ms' c tr' o'/\(∀y∈tr,y∈tr')/\TrOk f tr'/\Succ f l ms ms' c tr)
   (xs:=nb f l c) (ρ:=xP f l ms c tr none) ⟨tr,none,rfl,fun _ h=>h,ht,fun _ h=>(by cases h),fun y h1 h2=>KC h1 h2⟩
   fun pre o post ρ e zz5=>by
    obtain⟨tr',o',eρ,s1,s2,s3,s4⟩:=zz5;subst eρ;have ho:o∈nb f l c:=by rw[e];simp
    have hof:=(wj.mp ho).1
    have hrec: ∀c',get ms o=some c'->o∉tr'->∃b ms' tr'',FM f l (m+3) ms c' (tr'++[o]) b ms' tr'':=fun c' hg hot=>by
     have h1:=zn6 (tr:=tr') hof hot;have h2:=zn7 (f:=f) s1;obtain⟨g1,g2,g3⟩:=hm.inF o c' hg;have hh:=(xQ hl (wj.mp ho).2).1 h0;exact ih c' (tr'++[o]) (m+3) (by omega) (by omega) (s2.snoc hof hot) g2 ((xQ hl g3).2 hh) (.inr ⟨o,by simp,hm.sym _ _ hg⟩)
    rcases zn9 (m+3) hl (by omega) hm (o':=o') s2 hc h0 ho hrec with ⟨hot,ex⟩|⟨hot,hg,ex⟩|⟨hot,c',ms',tr'',b,hg,hF,ex⟩
    ·refine⟨_,_,ex,.inl ⟨.inl rfl,tr',_,rfl,s1,s2,fun x hx=>?_,s4⟩⟩
     rw[List.mem_append,List.mem_singleton] at hx;rcases hx with z|rfl
     ·exact s3 x z
     ·exact hot
    ·refine⟨_,_,ex,.inr ⟨_,rfl,_,_,_,rfl,rfl,fun y hy=>Kp _ (s1 y hy),s2.snoc hof hot,zn4 hl hm hc h0 ho hg fun z=>hot (s1 o z)⟩⟩
    ·have sub: ∀y∈tr',y∈tr'':=fun y hy=>hF.tr_ y (Kp _ hy)
     have hoT:o∈tr'':=hF.tr_ o (by simp)
     cases b with
     |true=>
      refine⟨_,_,ex,.inr ⟨_,rfl,_,_,_,rfl,rfl,fun y hy=>sub y (s1 y hy),hF.ok,?_⟩⟩;exact zn5 hl hm hc h0 hcm ho hg (fun z=>hot (s1 o z)) (fun y hy=>Kp _ (s1 y hy)) (by simp) (hF.yes rfl)
     |false=>
      obtain⟨rfl,hFl⟩:=hF.no rfl;refine⟨_,_,ex,.inl ⟨.inl rfl,tr'',_,rfl,fun y hy=>sub y (s1 y hy),hF.ok,fun x hx=>?_,fun y hy hyt=>?_⟩⟩
      ·rw[List.mem_append,List.mem_singleton] at hx
       rcases hx with z|rfl
       ·exact sub x (s3 x z)
       ·exact hoT
      ·by_cases h1:y∈tr'
       ·obtain⟨x,e1,e2⟩:=s4 y h1 hyt
        exact⟨x,e1,fun o ho=>sub o (e2 o ho)⟩
       ·by_cases h2:y=o
        ·subst h2;exact⟨c',hg,hFl.all⟩
        ·exact hFl.cl y hy fun z=>by
          rw[List.mem_append,List.mem_singleton] at z;rcases z with z|z
          ·exact h1 z
          ·exact h2 z
  have cn:=zaj m l c (f:=f) (by omega:f.length<=1000)
  have run:zD U zh (m+4) 37 [fD f,cD l,dD ms,cD c,tD tr]=jh [2,4] ((some (fl,ρ')).bind fun x=>QR x (zp (zD U zh (m+3)) zh (.cons (.ret (.bl false)) .nil))):=by
   rw[zmZ znm rfl];show jh [2,4] (zp (zD U zh (m+3)) zh YI (xP f l ms c tr none))=_;simp only[YI,YC,jn];simp[xP,cn];rw[<-xP,<-nb,hx];simp
  rcases hq with ⟨rfl,tr',o',rfl,s1,s2,s3,s4⟩|⟨r,rfl,ms',tr',o',rfl,rfl,s1,s2,s3⟩
  ·refine⟨false,ms,tr',⟨?_,s1,s2,fun _=>⟨rfl,s3,s4⟩,fun z=>(by cases z)⟩⟩
   rw[run];simp[xP]
  ·refine⟨true,ms',tr',⟨?_,s1,s2,fun z=>(by cases z),fun _=>s3⟩⟩
   rw[run];simp[xP]
end
end LK
namespace LK
open L2.LW
section
variable {f:List za} {l:za}
theorem ko(hf:OkF f):f.Nodup:=OkF.nodup hf.rise
structure Final (f:List za)(l:za)(ms:Ms)(T:za->Prop):Prop extends Match f l ms where
 cl:vk f l ms T
 free: ∀x∈f,zr l x=0->get ms x=none->∀o∈nb f l x,T o
 side: ∀y,T y->zr l y=1
theorem zob(hl:OkL l){ms ms':Ms}{c:za}(hm:Match f l ms)(hg:get ms c=none)(h:Succ f l ms ms' c []):Match f l ms':=by
 refine { h.half with sym:=fun x y e=>?_ };rcases xy (l:=l) x with z|z
 ·exact h.left x y z e
 ·exact h.right y x z (by rw[hg];exact fun z=>nomatch z) e
noncomputable def YQ(f:List za)(l:za)(ms:Ms)(o:Option SV):Env:=[some (.val (fD f)),some (.val (cD l)),some (.obj true (dD ms)),o]
theorem zex(n:Nat)(hl:OkL l)(hf:OkF f): ∃ms T,Final f l ms T/\zv U zh (n+29) 38 [fD f,cD l]=some (.obj true (dD ms)):=by
 have hlen:=hf.len
 obtain⟨ρ',hx,ms,T,o',rfl,hm,hT,hfr,hsd,hin⟩:=ZK (i:=3) (body:=zp (zD U zh (n+28)) zh QX)
  (fun pre ρ=>∃ms T o',ρ=YQ f l ms o'/\Match f l ms/\vk f l ms T/\(∀x∈pre,get ms x=none->∀o∈nb f l x,T o)/\(∀y,T y->zr l y=1)/\∀x,zr l x=0->(get ms x).isSome=true->x∈pre)
  (xs:=f.filter fun c=>decide (zr l c=0)) (ρ:=YQ f l [] none) ⟨[],fun _=>False,none,rfl,⟨⟨by simp[Jf],fun x y e=>by cases e⟩,fun x y e=>by cases e⟩,fun y z=>z.elim,fun x h=>(by cases h),fun y z=>z.elim,fun x _ h=>(by cases h)⟩
  fun pre c post ρ e zz5=>by
   obtain⟨ms,T,o',eρ,hm,hT,hfr,hsd,hin⟩:=zz5;subst eρ;have hc:c∈f.filter fun c=>decide (zr l c=0):=by rw[e];simp
   rw[List.mem_filter,decide_eq_true_iff] at hc;have hnd:(f.filter fun c=>decide (zr l c=0)).Nodup:=(ko hf).sublist Ku
   have hcm:get ms c=none:=by
    cases q:get ms c with
    |none=>rfl
    |some y=>
     have hp:=hin c hc.2 (by rw[q];rfl);rw[e,List.nodup_append] at hnd;exact KC rfl (hnd.2.2 c hp c Ke)
   ·obtain⟨b,ms',tr',hF⟩:=zoa hl hf hm (f.length+1) c [] (n+28) (by have:=zn8 f [];omega) (by omega) ⟨by simp,fun x h=>by cases h⟩ hc.1 hc.2 (.inl hcm)
    have heq:=hF.eq
    have ex:zp (zD U zh (n+28)) zh QX ((YQ f l ms o').set 3 (some (.val (cD c))))=some (.nx,YQ f l ms' (some (.val (cD c)))):=by
     rw[show tD []= .dct true [] [] from rfl] at heq;simp[QX,YQ,heq]
    refine⟨_,_,ex,.inl rfl,?_⟩
    cases b with
    |true=>
     have hS:=hF.yes rfl;refine⟨ms',T,_,rfl,zob hl hm hcm hS,fun y hy=>?_,fun x hx hxm o ho=>?_,hsd,fun x hx0 hx1=>?_⟩
     ·obtain⟨x,e1,e2⟩:=hT y hy
      exact⟨x,by rw[hS.closed T hT y (hsd y hy) hy];exact e1,e2⟩
     ·rw[List.mem_append,List.mem_singleton] at hx
      rcases hx with z|rfl
      ·refine hfr x z ?_ o ho
       cases q:get ms x with
       |none=>rfl
       |some y=>have:=hS.dom x (by rw[q];rfl);rw[hxm] at this;cases this
      ·obtain⟨y,e1,_⟩:=hS.own
       rw[hxm] at e1;cases e1
     ·by_cases z:x=c
      ·subst z;simp
      ·cases q:get ms x with
       |none=>rw[hS.keep x hx0 z (.inl q),q] at hx1;cases hx1
       |some y=>exact Kp _ (hin x hx0 (by rw[q];rfl))
    |false=>
     obtain⟨rfl,hFl⟩:=hF.no rfl;have side': ∀y∈tr',zr l y=1->True:=fun _ _ _=>trivial
     refine⟨ms',fun y=>T y\/(y∈tr'/\zr l y=1),_,rfl,hm,fun y hy=>?_,fun x hx hxm o ho=>?_,fun y hy=>hy.elim (hsd y) And.right,fun x h0 h1=>Kp _ (hin x h0 h1)⟩
     ·rcases hy with hy|⟨hy,hy1⟩
      ·obtain⟨x,e1,e2⟩:=hT y hy
       exact⟨x,e1,fun o ho=>.inl (e2 o ho)⟩
      ·obtain⟨x,e1,e2⟩:=hFl.cl y hy (by simp)
       refine⟨x,e1,fun o ho=>.inr ⟨e2 o ho,?_⟩⟩;have h0:=(xQ hl (hm.inF _ _ e1).2.2).2 hy1;exact (xQ hl (wj.mp ho).2).1 h0
     ·rw[List.mem_append,List.mem_singleton] at hx
      rcases hx with z|rfl
      ·exact .inl (hfr x z hxm o ho)
      ·exact .inr ⟨hFl.all o ho,(xQ hl (wj.mp ho).2).1 hc.2⟩
 refine⟨ms,T,{ hm with cl:=hT,free:=fun x hxf h0=>hfr x (by rw[List.mem_filter];exact⟨hxf,by simpa using h0⟩),side:=hsd },?_⟩;have ch:=km (n+24) hl (f:=f) (by omega) 0;rw[yj znn rfl];simp only[VL];simp[jn,ch];have hx':=hx;simp only[YQ] at hx';rw[show D.dct true [] []=dD [] from rfl,hx'];simp
end
end LK
namespace LK
open L2.LW
theorem Jg{α β:Type}{g:α->β}: ∀{l:List α},(∀x∈l,∀y∈l,g x=g y->x=y)->l.Nodup->(l.map g).Nodup
 |[],_,_=>by simp
 |x::r,h,hn=>by
  rw[List.nodup_cons] at hn;rw[List.map_cons,List.nodup_cons];refine⟨fun z=>?_,Jg (fun a ha b hb=>h a (Kf _ ha) b (Kf _ hb)) hn.2⟩;rw[List.mem_map] at z;obtain⟨y,hy,e⟩:=z;have:=h y (Kf _ hy) x Ke e;subst this;exact hn.1 hy
theorem YR{α β:Type}[DecidableEq β]{l:List α}{m:List β}(g:α->β)(hn:l.Nodup)(hm: ∀x∈l,g x∈m)(hi: ∀x∈l,∀y∈l,g x=g y->x=y):l.length<=m.length:=by
 have:=wy (l:=l.map g) (m:=m) (Jg hi hn) fun y hy=>by
  rw[List.mem_map] at hy;obtain⟨x,hx,rfl⟩:=hy;exact hm x hx
 simpa using this
section
variable {f:List za} {l:za}
noncomputable def xk(ms:Ms)(c:za):za:=(get ms c).getD c
theorem yM{ms:Ms}{c v:za}(h:get ms c=some v):xk ms c=v:=by unfold xk;rw[h];rfl
noncomputable def ml(f:List za)(l:za)(ms:Ms):List za:=f.filter fun c=>decide (zr l c=0)&&(get ms c).isSome
theorem wK{ms:Ms}{c:za}:c∈ml f l ms↔c∈f/\zr l c=0/\∃v,get ms c=some v:=by
 unfold ml;rw[List.mem_filter,Bool.and_eq_true,decide_eq_true_iff,Option.isSome_iff_exists]
theorem zan{ms:Ms}(h:f.Nodup):(ml f l ms).Nodup:=h.sublist Ku
structure IsCover (f:List za)(l:za)(C:List za):Prop where
 nd:C.Nodup
 sub: ∀x∈C,x∈f
 hit: ∀a∈f,∀b∈f,zK l a b=true->a∈C\/b∈C
theorem Match.inj{ms:Ms}(h:Match f l ms){a b v:za}(ha:get ms a=some v)(hb:get ms b=some v):a=b:=by
 have h1:=h.sym _ _ ha;have h2:=h.sym _ _ hb;rw[h1] at h2;exact Kn h2
theorem zey(hl:OkL l)(hn:f.Nodup){ms:Ms}(hm:Match f l ms){C:List za}(hC:IsCover f l C):(ml f l ms).length<=C.length:=by
 refine YR (fun x=>if x∈C then x else xk ms x) (zan hn) (fun x hx=>?_) fun x hx y hy e=>?_
 ·obtain⟨h1,h2,v,h3⟩:=wK.mp hx
  show (if x∈C then x else xk ms x)∈C;split
  ·assumption
  ·rw[yM h3]
   obtain⟨_,g2,g3⟩:=hm.inF _ _ h3;exact (hC.hit x h1 v g2 g3).resolve_left (by assumption)
 ·obtain⟨h1,h2,v,h3⟩:=wK.mp hx
  obtain⟨h1',h2',v',h3'⟩:=wK.mp hy;have q:=(xQ hl (hm.inF _ _ h3).2.2).1 h2;have q':=(xQ hl (hm.inF _ _ h3').2.2).1 h2';simp only[yM h3,yM h3'] at e;split at e<;>split at e
  ·exact e
  ·subst e;omega
  ·subst e;omega
  ·subst e;exact hm.inj h3 h3'
open Classical in
theorem zoc(hl:OkL l)(hn:f.Nodup){ms:Ms}{T:za->Prop}(h:Final f l ms T): ∃C,IsCover f l C/\C.length<=(ml f l ms).length:=by
 let P:za->Prop:=fun c=>if zr l c=0 then ¬ ∀o∈nb f l c,T o else T c
 refine⟨f.filter fun c=>decide (P c),⟨hn.sublist Ku,fun x hx=>(List.mem_filter.mp hx).1,fun a ha b hb hab=>?_⟩,?_⟩
 ·have key: ∀a∈f,∀b∈f,zK l a b=true->zr l a=0->P a\/P b:=fun a ha b hb hab h0=>by
   by_cases hT: ∀o∈nb f l a,T o
   ·right
    show if zr l b=0 then _ else _
    rw[if_neg (by have:=(xQ hl hab).1 h0;omega)];exact hT b (wj.mpr ⟨hb,hab⟩)
   ·left
    show if zr l a=0 then _ else _
    rw[if_pos h0];exact hT
  have wrap: ∀c∈f,P c->c∈f.filter fun c=>decide (P c):=fun c hc hp=>List.mem_filter.mpr ⟨hc,by simpa using hp⟩
  rcases xy (l:=l) a with z|z
  ·rcases key a ha b hb hab z with q|q
   ·exact .inl (wrap a ha q)
   ·exact .inr (wrap b hb q)
  ·rcases key b hb a ha (by rw[wE];exact hab) ((xQ hl hab).2 z) with q|q
   ·exact .inr (wrap b hb q)
   ·exact .inl (wrap a ha q)
 ·have in0: ∀c,c∈f.filter (fun c=>decide (P c))->zr l c=0->(¬ ∀o∈nb f l c,T o)/\∃v,get ms c=some v:=fun c hc h0=>by
   rw[List.mem_filter,decide_eq_true_iff] at hc;have hp:if zr l c=0 then ¬ ∀o∈nb f l c,T o else T c:=hc.2
   rw[if_pos h0] at hp;refine⟨hp,?_⟩
   cases q:get ms c with
   |none=>exact KC (h.free c hc.1 h0 q) hp
   |some v=>exact⟨v,rfl⟩
  have in1: ∀c,c∈f.filter (fun c=>decide (P c))->¬zr l c=0->∃v,get ms c=some v/\∀o∈nb f l v,T o:=fun c hc h0=>by
   rw[List.mem_filter,decide_eq_true_iff] at hc;have hp:if zr l c=0 then ¬ ∀o∈nb f l c,T o else T c:=hc.2
   rw[if_neg h0] at hp;exact h.cl c hp
  refine YR (fun c=>if zr l c=0 then c else xk ms c) (hn.sublist Ku) (fun c hc=>?_) fun c hc d hd e=>?_
  ·show (if zr l c=0 then c else xk ms c)∈ml f l ms
   split
   ·rename_i h0
    exact wK.mpr ⟨(List.mem_filter.mp hc).1,h0,(in0 c hc h0).2⟩
   ·rename_i h0
    obtain⟨v,e1,_⟩:=in1 c hc h0;obtain⟨_,g2,g3⟩:=h.inF _ _ e1;rw[yM e1];have hc1:zr l c=1:=by have:=xy (l:=l) c;omega
    exact wK.mpr ⟨g2,(xQ hl g3).2 hc1,c,h.sym _ _ e1⟩
  ·have e:(if zr l c=0 then c else xk ms c)=(if zr l d=0 then d else xk ms d):=e
   split at e<;>split at e
   ·exact e
   ·rename_i h0 h1
    obtain⟨v,e1,e2⟩:=in1 d hd h1;rw[yM e1] at e;subst e;exact KC e2 (in0 c hc h0).1
   ·rename_i h0 h1
    obtain⟨v,e1,e2⟩:=in1 c hc h0;rw[yM e1] at e;subst e;exact KC e2 (in0 _ hd h1).1
   ·rename_i h0 h1
    obtain⟨v,e1,_⟩:=in1 c hc h0;obtain⟨v',e1',_⟩:=in1 d hd h1;rw[yM e1,yM e1'] at e;subst e;exact h.inj e1 e1'
noncomputable def vT(f:List za)(ms:Ms):List za:=f.filter fun c=>match get ms c with
 |some v=>decide (zX c v)
 |none=>false
theorem Jh{ms:Ms}{c:za}:c∈vT f ms↔c∈f/\∃v,get ms c=some v/\zX c v:=by
 unfold vT;rw[List.mem_filter];cases e:get ms c<;>simp
theorem zod(hl:OkL l){a b:za}(h:zK l a b=true):a≠b:=fun e=>by subst e;exact vj hl h rfl
theorem zoe(hl:OkL l)(hn:f.Nodup){ms:Ms}(h:Match f l ms):(vT f ms).length=(ml f l ms).length:=by
 apply Nat.le_antisymm
 ·refine YR (fun c=>if zr l c=0 then c else xk ms c) (hn.sublist Ku) (fun c hc=>?_) fun c hc d hd e=>?_
  ·obtain⟨h1,v,h2,h3⟩:=Jh.mp hc
   obtain⟨_,g2,g3⟩:=h.inF _ _ h2;show (if zr l c=0 then c else xk ms c)∈ml f l ms;split
   ·exact wK.mpr ⟨h1,by assumption,v,h2⟩
   ·rw[yM h2]
    have hc1:zr l c=1:=by have:=xy (l:=l) c;omega
    exact wK.mpr ⟨g2,(xQ hl g3).2 hc1,c,h.sym _ _ h2⟩
  ·obtain⟨h1,v,h2,h3⟩:=Jh.mp hc
   obtain⟨h1',v',h2',h3'⟩:=Jh.mp hd;simp only[yM h2,yM h2'] at e;split at e<;>split at e
   ·exact e
   ·subst e
    rw[h.sym _ _ h2'] at h2;cases h2;exact (zed h3 h3').elim
   ·subst e
    rw[h.sym _ _ h2] at h2';cases h2';exact (zed h3 h3').elim
   ·subst e;exact h.inj h2 h2'
 ·refine YR (fun c=>if zX c (xk ms c) then c else xk ms c) (zan hn) (fun c hc=>?_) fun c hc d hd e=>?_
  ·obtain⟨h1,h2,v,h3⟩:=wK.mp hc
   obtain⟨_,g2,g3⟩:=h.inF _ _ h3;show (if zX c (xk ms c) then c else xk ms c)∈vT f ms;rw[yM h3];split
   ·exact Jh.mpr ⟨h1,v,h3,by assumption⟩
   ·exact Jh.mpr ⟨g2,c,h.sym _ _ h3,(zee (zod hl g3)).resolve_left (by assumption)⟩
  ·obtain⟨h1,h2,v,h3⟩:=wK.mp hc
   obtain⟨h1',h2',v',h3'⟩:=wK.mp hd;have q:=(xQ hl (h.inF _ _ h3).2.2).1 h2;have q':=(xQ hl (h.inF _ _ h3').2.2).1 h2';simp only[yM h3,yM h3'] at e;split at e<;>split at e
   ·exact e
   ·subst e;omega
   ·subst e;omega
   ·subst e;exact h.inj h3 h3'
noncomputable def jY(ms:Ms)(c:za):D:=.tup [cD c,cD (xk ms c)]
theorem zez(n:Nat)(hf:f.length<=1000){ms:Ms}:zv U zh (n+1) 39 [fD f,dD ms]=some (.obj true (.lst ((vT f ms).map (jY ms)))):=by
 rw[yj zno rfl];have hl':=yD;simp only[VM];simp
 rw[jp (rs:=[.val (fD f)]) (xs:=f) (f:=cD) (fun c=>match get ms c with
  |some v=>decide (zX c v)
  |none=>false) (jY ms)]
 ·rw[show (f.filter fun c=>match get ms c with
   |some v=>decide (zX c v)
   |none=>false)=vT f ms from rfl]
  simp
 ·simp
 ·rfl
 ·omega
 ·intro c _
  cases e:get ms c with
  |none=>simp[e]
  |some v=>simp[e,Je e]
 ·intro c _ h
  cases e:get ms c with
  |none=>simp[e] at h
  |some v=>simp[Je e,jY,yM e]
theorem zof(n:Nat)(hl:OkL l)(hf:OkF f): ∃ms T,Final f l ms T/\zv U zh (n+30) 43 [fD f,cD l]=some (.obj true (.lst ((vT f ms).map (jY ms)))):=by
 have hlen:=hf.len;obtain⟨ms,T,h1,h2⟩:=zex n hl hf;refine⟨ms,T,h1,?_⟩;have h3:=zez (n+28) (f:=f) (ms:=ms) (by omega);rw[yj znq rfl];simp[VP,ZF (n+25) hf,ZG (n+26) hl,h2,h3]
end
end LK
namespace LK
open L2.LW
section
variable {f:List za} {l:za}
noncomputable def yI(f:List za)(l:za)(ms:Ms)(k:Int)(s4:SV)(ar ed:List za)(s7 s8 s9:Option SV):Env:=
 [some (.val (fD f)),some (.val (cD l)),some (.val (dD ms)),some (.val (.int k)),some s4,some (.obj true (lD ar)),some (.val (lD ed)),s7,s8,s9]
structure Ring (f:List za)(ms:Ms)(T:za->Prop)(ar0 ar fu:List za):Prop where
 nd:ar.Nodup
 sub: ∀y∈ar,y∈f/\T y
 new: ∃nw,ar=ar0++nw/\fu=nw.map (xk ms)
theorem Ring.len{ms:Ms}{T:za->Prop}{ar0 ar fu:List za}(h:Ring f ms T ar0 ar fu):ar.length<=f.length/\fu.length<=f.length:=by
 have h1:=wy h.nd fun y hy=>(h.sub y hy).1
 obtain⟨nw,rfl,rfl⟩:=h.new;simp at h1⊢;omega
theorem zog{a:List za}{c:za}:(D.lst (a.map cD++[cD c]))=lD (a++[c]):=by simp[lD]
theorem zeA{ρ:Env}{i:Nat}{a:List za}{c:za}(h:a.length<line):jS ρ i (some (.val (cD c))) (some (some (.obj true (lD a))))=some (.nx,ρ.set i (some (.obj true (lD (a++[c]))))):=by
 rw[lD,Vi];simp only[Option.bind_some,ZC,List.length_map,h,if_true,zog]
theorem zoh(n:Nat)(hf:f.length<=100){ms:Ms}{T:za->Prop}(hT:vk f l ms T){k:Int}{s4:SV}{ar0 ar fu ed:List za}{s8:Option SV}{o:za}(h:Ring f ms T ar0 ar fu)(hof:o∈f)(ho:T o):
  ∃ar' fu',zp (zD U zh n) zh VN (yI f l ms k s4 ar ed (some (.obj true (lD fu))) s8 (some (.val (cD o))))=some (.nx,yI f l ms k s4 ar' ed (some (.obj true (lD fu'))) s8 (some (.val (cD o))))/\
   Ring f ms T ar0 ar' fu'/\o∈ar'/\∀y∈ar,y∈ar':=by
 have hl':=yD;obtain⟨h1,h2⟩:=h.len;by_cases hin:o∈ar
 ·refine⟨ar,fu,?_,h,hin,fun y hy=>hy⟩
  simp[VN,yI,zah,hin]
 ·obtain⟨v,e1,_⟩:=hT o ho
  refine⟨ar++[o],fu++[v],?_,⟨?_,fun y hy=>?_,?_⟩,by simp,fun y hy=>Kp _ hy⟩
  ·simp[VN,yI,zah,hin,Je e1]
   rw[zeA (by omega)];simp[Je e1];rw[zeA (by omega)];simp
  ·rw[List.nodup_append]
   refine⟨h.nd,by simp,fun a ha b hb e=>?_⟩;simp at hb;subst hb;subst e;exact hin ha
  ·rw[List.mem_append,List.mem_singleton] at hy
   rcases hy with z|rfl
   ·exact h.sub y z
   ·exact⟨hof,ho⟩
  ·obtain⟨nw,r1,r2⟩:=h.new
   exact⟨nw++[o],by rw[r1];simp,by rw[r2];simp[yM e1]⟩
theorem zoi(n:Nat)(hf:f.length<=100){ms:Ms}{T:za->Prop}(hT:vk f l ms T){k:Int}{s4:SV}{ar0 ar fu ed:List za}{s9:Option SV}{x:za}(h:Ring f ms T ar0 ar fu)(hx: ∀o∈nb f l x,T o)(h9:zC (some s9)=true):
  ∃ar' fu' s9',zp (zD U zh (n+3)) zh QY (yI f l ms k s4 ar ed (some (.obj true (lD fu))) (some (.val (cD x))) s9)=some (.nx,yI f l ms k s4 ar' ed (some (.obj true (lD fu'))) (some (.val (cD x))) s9')/\
   Ring f ms T ar0 ar' fu'/\(∀o∈nb f l x,o∈ar')/\(∀y∈ar,y∈ar')/\zC (some s9')=true:=by
 obtain⟨ρ',e,ar',fu',s9',rfl,r1,r2,r3,r4⟩:=ZK (i:=9) (body:=zp (zD U zh (n+3)) zh VN)
  (fun pre ρ=>∃ar' fu' s9',ρ=yI f l ms k s4 ar' ed (some (.obj true (lD fu'))) (some (.val (cD x))) s9'/\Ring f ms T ar0 ar' fu'/\(∀o∈pre,o∈ar')/\(∀y∈ar,y∈ar')/\zC (some s9')=true)
  (xs:=nb f l x) (ρ:=yI f l ms k s4 ar ed (some (.obj true (lD fu))) (some (.val (cD x))) s9) ⟨ar,fu,s9,rfl,h,fun o ho=>(by cases ho),fun y hy=>hy,h9⟩
  fun pre o post ρ e zz5=>by
   obtain⟨ar',fu',s9',eρ,r1,r2,r3,r4⟩:=zz5;subst eρ;have ho:o∈nb f l x:=by rw[e];simp
   obtain⟨ar2,fu2,e2,q1,q2,q3⟩:=zoh (n+3) hf hT (k:=k) (s4:=s4) (ed:=ed) (s8:=some (.val (cD x))) r1 (wj.mp ho).1 (hx o ho);refine⟨_,_,e2,.inl rfl,ar2,fu2,_,rfl,q1,fun y hy=>?_,fun y hy=>q3 y (r3 y hy),yY⟩;rw[List.mem_append,List.mem_singleton] at hy;rcases hy with z|rfl
   ·exact q3 y (r2 y z)
   ·exact q2
 refine⟨ar',fu',s9',?_,r1,r2,r3,r4⟩;have cn:=zaj n l x (f:=f) (by omega:f.length<=1000);simp only[QY,YC,jn];simp[yI,cn,h9];rw[<-nb,<-yI,e];simp[yI]
theorem zoj(n:Nat)(hf:f.length<=100){ms:Ms}{T:za->Prop}(hT:vk f l ms T){k:Int}{s4:SV}{cr ar ed:List za}{s7 s8 s9:Option SV}(h4:s4= .val (lD cr)\/s4= .obj true (lD cr))(hcr:cr.length<=1000)(hed: ∀x∈ed,∀o∈nb f l x,T o)
  (hnd:ar.Nodup) (hsub: ∀y∈ar,y∈f/\T y) (h7:zC (some s7)=true) (h8:zC (some s8)=true) (h9:zC (some s9)=true):
  ∃ar' fu s7' s8' s9',zp (zD U zh (n+3)) zh QZ (yI f l ms k s4 ar ed s7 s8 s9)=some (.nx,yI f l ms k (.obj true (lD (cr++fu))) ar' fu s7' s8' s9')/\
   Ring f ms T ar ar' fu/\(∀x∈ed,∀o∈nb f l x,o∈ar')/\zC (some s7')=true/\zC (some s8')=true/\zC (some s9')=true:=by
 obtain⟨ρ',e,ar',fu,s8',s9',rfl,r1,r2,r3,r4⟩:=ZK (i:=8) (body:=zp (zD U zh (n+3)) zh QY)
  (fun pre ρ=>∃ar' fu s8' s9',ρ=yI f l ms k s4 ar' ed (some (.obj true (lD fu))) s8' s9'/\Ring f ms T ar ar' fu/\(∀x∈pre,∀o∈nb f l x,o∈ar')/\zC (some s8')=true/\zC (some s9')=true)
  (xs:=ed) (ρ:=yI f l ms k s4 ar ed (some (.obj true (lD []))) s8 s9) ⟨ar,[],s8,s9,rfl,⟨hnd,hsub,[],by simp,rfl⟩,fun o ho=>(by cases ho),h8,h9⟩
  fun pre x post ρ e zz5=>by
   obtain⟨ar',fu,s8',s9',eρ,r1,r2,r3,r4⟩:=zz5;subst eρ;have hx:x∈ed:=by rw[e];simp
   obtain⟨ar2,fu2,s92,e2,q1,q2,q3,q4⟩:=zoi n hf hT (k:=k) (s4:=s4) (ed:=ed) (s9:=s9') (x:=x) r1 (hed x hx) r4;refine⟨_,_,e2,.inl rfl,ar2,fu2,_,s92,rfl,q1,fun y hy o ho=>?_,yY,q4⟩;rw[List.mem_append,List.mem_singleton] at hy;rcases hy with z|rfl
   ·exact q3 o (r2 y z o ho)
   ·exact q2 o ho
 refine⟨ar',fu,some (.val (lD fu)),s8',s9',?_,r1,r2,yY,r3,r4⟩;have hl':=yD;have hlen:=r1.len
 have hadd:zg .add [lD cr,lD fu]=some (.obj true (lD (cr++fu))):=by
  rw[lD,lD,gY (by simp;omega)];simp[lD]
 simp only[QZ];rcases h4 with rfl|rfl
 ·simp[yI,h7,h8,jo]
  rw[show xW (lD ed)=some (ed.map cD) from rfl,show D.lst []=lD [] from rfl];simp only[Option.map_some,Option.bind_some];rw[<-yI,e];simp[yI,hadd]
 ·simp[yI,h7,h8,jo]
  rw[show xW (lD ed)=some (ed.map cD) from rfl,show D.lst []=lD [] from rfl];simp only[Option.map_some,Option.bind_some];rw[<-yI,e];simp[yI,hadd]
structure Crowd (f:List za)(l:za)(ms:Ms)(T:za->Prop)(k:Int)(cr ar:List za):Prop where
 nd:ar.Nodup
 sub: ∀y∈ar,y∈f/\T y
 is:cr=(f.filter fun c=>decide (zr l c=k)&& !(get ms c).isSome)++ar.map (xk ms)
 all: ∀x∈cr,∀o∈nb f l x,o∈ar
theorem zok(n:Nat)(hl:OkL l)(hf:OkF f){ms:Ms}{T:za->Prop}(hm:Match f l ms)(hT:vk f l ms T){k:Int}(hfree: ∀x∈f,zr l x=k->get ms x=none->∀o∈nb f l x,T o):
  ∃cr ar,Crowd f l ms T k cr ar/\zv U zh (n+5) 40 [fD f,cD l,dD ms,.int k]=some (.val (.tup [lD cr,lD ar])):=by
 have hl':=yD;have hlen:=hf.len
 let cr0:=f.filter fun c=>decide (zr l c=k)&& !(get ms c).isSome
 have hcr0: ∀x∈cr0,∀o∈nb f l x,T o:=fun x hx=>by
  rw[List.mem_filter,Bool.and_eq_true,decide_eq_true_iff] at hx;exact hfree x hx.1 hx.2.1 (by simpa using hx.2.2)
 have hcl:cr0.length<=24:=Kg (KB _ _) hlen
 obtain⟨ρ',e,s4,cr,ar,s7,s8,s9,rfl,h4,q1,q2,q3,q4,q5⟩:=QT (test:=zB (zv U zh (n+4)) (.prim .gt (.cons (.prim .len (.cons (.var 6) .nil)) (.cons (.int 0) .nil)))) (body:=zp (zD U zh (n+4)) zh QZ)
  (fun m ρ=>∃s4 cr ar ed s7 s8 s9,ρ=yI f l ms k s4 ar ed s7 s8 s9/\(s4= .val (lD cr)\/s4= .obj true (lD cr))/\ar.Nodup/\(∀y∈ar,y∈f/\T y)/\cr=cr0++ar.map (xk ms)/\(∀x∈cr,x∈ed\/∀o∈nb f l x,o∈ar)/\(∀x∈ed,∀o∈nb f l x,T o)/\
   (zC (some s7)=true/\zC (some s8)=true/\zC (some s9)=true)/\m=2*(f.length-ar.length)+(if ed=[] then 0 else 1))
  (fun ρ=>∃s4 cr ar s7 s8 s9,ρ=yI f l ms k s4 ar [] s7 s8 s9/\(s4= .val (lD cr)\/s4= .obj true (lD cr))/\ar.Nodup/\(∀y∈ar,y∈f/\T y)/\cr=cr0++ar.map (xk ms)/\(∀x∈cr,∀o∈nb f l x,o∈ar)/\True)
  (m:=2*f.length+(if cr0=[] then 0 else 1)) (n:=zh) (ρ:=yI f l ms k (.val (lD cr0)) [] cr0 none none none) (by unfold zh;split<;>omega)
  ⟨_,cr0,[],cr0,none,none,none,rfl,.inl rfl,by simp,fun y h=>(by cases h),by simp,fun x hx=>.inl hx,hcr0,⟨rfl,rfl,rfl⟩,by simp⟩
  fun m ρ zz2=>by
   obtain⟨s4,cr,ar,ed,s7,s8,s9,eρ,h4,q1,q2,q3,q4,q5,q6,q7⟩:=zz2;subst eρ
   have ht:zB (zv U zh (n+4)) (.prim .gt (.cons (.prim .len (.cons (.var 6) .nil)) (.cons (.int 0) .nil))) (yI f l ms k s4 ar ed s7 s8 s9)=some (decide (0<ed.length)):=by
    simp[yI,lD]
   by_cases hed:ed=[]
   ·subst hed
    exact .inl ⟨by rw[ht];rfl,s4,cr,ar,s7,s8,s9,rfl,h4,q1,q2,q3,fun x hx=>(q4 x hx).resolve_left (by simp),trivial⟩
   ·have hpos:0<ed.length:=List.length_pos_iff.mpr hed
    refine .inr ⟨by rw[ht];simp[hpos],?_⟩;have hal:=wy q1 fun y hy=>(q2 y hy).1
    have hcrl:cr.length<=1000:=by rw[q3];simp;omega
    obtain⟨ar',fu,s7',s8',s9',e2,r1,r2,r3⟩:=zoj (n+1) (by omega) hT (k:=k) h4 hcrl q5 q1 q2 q6.1 q6.2.1 q6.2.2;obtain⟨nw,n1,n2⟩:=r1.new;have hal':=r1.len.1;refine⟨_,_,2*(f.length-ar'.length)+(if fu=[] then 0 else 1),e2,.inl rfl,?_,_,cr++fu,ar',fu,s7',s8',s9',rfl,.inr rfl,r1.nd,r1.sub,?_,fun x hx=>?_,fun x hx o ho=>?_,r3,rfl⟩
    ·rw[q7,if_neg hed,n2,n1]
     cases nw with
     |nil=>simp
     |cons a b=>rw[n1] at hal';simp at hal'⊢;omega
    ·rw[q3,n1,n2];simp
    ·rw[List.mem_append] at hx
     rcases hx with z|z
     ·right
      rcases q4 x z with w|w
      ·exact r2 x w
      ·intro o ho;rw[n1];exact Kp _ (w o ho)
     ·exact .inl z
    ·rw[n2,List.mem_map] at hx
     obtain⟨y,hy,rfl⟩:=hx;obtain⟨v,e1,e3⟩:=hT y (r1.sub y (by rw[n1];exact Ko _ hy)).2;rw[yM e1] at ho;exact e3 o ho
 refine⟨cr,ar,⟨q1,q2,q3,q4⟩,?_⟩;have ch:=km n hl (f:=f) (by omega) k;rw[yj znp rfl];simp only[VO,YC,YB,zmQ];rw[jp (rs:=[.obj true (.lst ((f.filter fun c=>decide (zr l c=k)).map cD))]) (xs:=f.filter fun c=>decide (zr l c=k)) (f:=cD) (fun c=> !(get ms c).isSome) cD]
 ·simp
  have hflt:(f.filter fun a=>(get ms a).isNone&&decide (zr l a=k))=cr0:=by
   apply List.filter_congr;intro x _;rw[Bool.and_comm];cases get ms x<;>rfl
  have e':=e;rw[hflt,YB,zmW,show (D.lst (cr0.map cD))=lD cr0 from rfl,show D.lst []=lD [] from rfl,<-yI,e'];rcases h4 with rfl|rfl
  ·simp[yI]
  ·simp[yI]
 ·simp[ch]
 ·rfl
 ·have:=KB (fun c=>decide (zr l c=k)) f
  omega
 ·intro x _
  simp
 ·intro x _ _
  simp
theorem zol(hl:OkL l){ms:Ms}{T:za->Prop}(h:Final f l ms T): ∃T',vk f l ms T'/\(∀x∈f,zr l x=1->get ms x=none->∀o∈nb f l x,T' o)/\∀y,T' y->zr l y=0:=by
 refine⟨fun x=>x∈f/\zr l x=0/\¬ ∀o∈nb f l x,T o,fun x ⟨hx,h0,hn⟩=>?_,fun y hy h1 hg o ho=>?_,fun y h=>h.2.1⟩
 ·cases q:get ms x with
  |none=>exact KC (h.free x hx h0 q) hn
  |some v=>
   refine⟨v,rfl,fun o ho=>?_⟩;obtain⟨_,g2,g3⟩:=h.inF _ _ q;have hv:=(xQ hl g3).1 h0;rw[wj] at ho;refine⟨ho.1,(xQ hl ho.2).2 hv,fun hT=>hn ?_⟩;have hTv:=hT v (wj.mpr ⟨g2,by rw[wE];exact ho.2⟩);obtain⟨x',e1,e2⟩:=h.cl v hTv;rw[h.sym _ _ q] at e1;cases e1;exact e2
 ·rw[wj] at ho
  refine⟨ho.1,(xQ hl ho.2).2 h1,fun hT=>?_⟩;obtain⟨x',e1,_⟩:=h.cl y (hT y (wj.mpr ⟨hy,by rw[wE];exact ho.2⟩));rw[hg] at e1;cases e1
theorem zao{a b:Bool}:zg .eq [.bl a,.bl b]=some (.val (.bl (a==b))):=by rw[QS rfl rfl,zN]
theorem zom{o:Bool}{g:List za}:yG (.obj o (lD g))=some (!g.isEmpty):=by
 cases g<;>rfl
theorem zap{g:List za}:zg .len [lD g]=some (.val (.int g.length)):=by simp[lD]
end
end LK
namespace LK
open L2.LW
section
variable {α:Type}
noncomputable def dG(g:α->D)(ms:List (za×α)):D:=.dct true (ms.map fun p=>cD p.1) (ms.map fun p=>g p.2)
noncomputable def zL(ms:List (za×α))(c:za):Option α:=(ms.find? fun p=>decide (p.1=c)).map (·.2)
theorem jZ(p:za×α)(r:List (za×α))(c:za):zL (p::r) c=if p.1=c then some p.2 else zL r c:=by
 unfold zL;rw[List.find?_cons];by_cases h:p.1=c<;>simp[h]
theorem wR(c:za): ∀ms:List (za×α),(zL ms c).isSome=decide (c∈ms.map (·.1))
 |[]=>rfl
 |p::r=>by
  rw[jZ,List.map_cons];by_cases h:p.1=c
  ·simp[h]
  ·rw[if_neg h,wR c r]
   have: ¬c=p.1:=fun z=>h z.symm
   simp[this]
theorem Ji(ms:List (za×α)):(ms.map fun p=>cD p.1)=(ms.map (·.1)).map cD:=by rw[List.map_map];rfl
theorem kq{g:α->D}{c:za}{ms:List (za×α)}:zg .nin [cD c,dG g ms]=some (.val (.bl (!(zL ms c).isSome))):=by
 simp only[dG,zg,jg,jV,if_true,yN,Ji,jW,wR]
theorem zeB{g:α->D}{ms:List (za×α)}{c:za}{v:α}(h:zL ms c=none):xo true (ms.map fun p=>cD p.1) (ms.map fun p=>g p.2) (cD c) (g v)=dG g (ms++[(c,v)]):=by
 unfold xo;rw[Ji,jW,<-wR,h];simp[dG]
theorem jq{ms:List (za×α)}{c x:za}{v:α}(h:zL ms c=none):zL (ms++[(c,v)]) x=if x=c then some v else zL ms x:=by
 induction ms with
 |nil=>
  show zL ((c,v)::[]) x=_;rw[jZ];by_cases e:c=x
  ·subst e;simp
  ·have: ¬x=c:=fun z=>e z.symm
   rw[if_neg e,if_neg this]
 |cons p r ih=>
  rw[jZ] at h;split at h
  ·cases h
  ·rename_i hp
   rw[List.cons_append,jZ,jZ,ih h];by_cases e:p.1=x
   ·rw[if_pos e,if_pos e,if_neg (fun z=>hp (e.trans z))]
   ·rw[if_neg e,if_neg e]
theorem zon{g:α->D}{ρ:Env}{i:Nat}{ms:List (za×α)}{c:za}{v:α}(h:zL ms c=none)(hl:ms.length<line):
  jm ρ i (some (.val (cD c))) (some (.val (g v))) (some (some (.obj true (dG g ms))))=some (.nx,ρ.set i (some (.obj true (dG g (ms++[(c,v)]))))):=by
 rw[dG,zdU];simp only[Option.bind_some,ZC,jV,List.length_map,hl,decide_true,Bool.and_self,if_true,zeB h]
end
section
variable (f:List za) (l:za)
noncomputable def Bk(goal:za):Nat->za->Prop
 |0,c=>c=goal
 |k+1,c=>Bk goal k c\/(c∈f/\∃p,Bk goal k p/\zK l c p=true)
noncomputable def Lv(goal:za)(k:Nat)(c:za):Prop:=Bk f l goal k c/\∀i,i<k->¬Bk f l goal i c
noncomputable abbrev vU:=List (za×Option za)
noncomputable def oD:Option za->D
 |none=>.non
 |some c=>cD c
structure LOk (goal:za)(ms:vU):Prop where
 nd:(ms.map (·.1)).Nodup
 sub: ∀c,(zL ms c).isSome=true->c∈f
 root: ∀c,zL ms c=some none->c=goal
 next: ∀c p,zL ms c=some (some p)->zK l c p=true/\∃j,Lv f l goal (j+1) c/\Lv f l goal j p/\(zL ms p).isSome=true
end
section
variable {f:List za} {l:za} {goal:za}
theorem Bk.mono: ∀{k m:Nat} {c:za},k<=m->Bk f l goal k c->Bk f l goal m c
 |k,0,c,h,b=>by
  have:k=0:=by omega
  subst this;exact b
 |k,m+1,c,h,b=>by
  by_cases e:k=m+1
  ·subst e;exact b
  ·exact .inl (Bk.mono (by omega) b)
theorem Bk.inF(hg:goal∈f): ∀{k:Nat} {c:za},Bk f l goal k c->c∈f
 |0,c,h=>by rw[show c=goal from h];exact hg
 |k+1,c,h=>by
  rcases h with h|h
  ·exact Bk.inF hg h
  ·exact h.1
theorem Bk.lv{k:Nat}{c:za}(h:Bk f l goal k c): ∃j,j<=k/\Lv f l goal j c:=by
 induction k with
 |zero=>exact⟨0,Nat.le_refl _,h,fun i hi=>by omega⟩
 |succ k ih=>
  by_cases hk:Bk f l goal k c
  ·obtain⟨j,h1,h2⟩:=ih hk
   exact⟨j,by omega,h2⟩
  ·exact⟨k+1,Nat.le_refl _,h,fun i hi z=>hk (z.mono (by omega))⟩
theorem LOk.len{ms:vU}(h:LOk f l goal ms):ms.length<=f.length:=by
 have:=wy (l:=ms.map fun (p:za×Option za)=>p.1) (m:=f) h.nd fun x hx=>h.sub x (by rw[wR];simpa using hx)
 simpa using this
noncomputable def yE(F:D)(l goal:za)(ms:vU)(s4 s5 s6 s7:Option SV):Env:=[some (.val F),some (.val (cD l)),some (.val (cD goal)),some (.obj true (dG oD ms)),s4,s5,s6,s7]
theorem zoo(n:Nat){F:D}(hf:f.length<=100){ms:vU}{fu:List za}{s4:Option SV}{k:Nat}{c o:za}(hm:LOk f l goal ms)(hc:Lv f l goal k c)(hcm:(zL ms c).isSome=true)(hk: ∀x,Bk f l goal k x->(zL ms x).isSome=true)(hof:o∈f)(hn:zK l c o=true)(hfu:fu.length<=1000):
  ((zL ms o).isSome=true/\zp (zD U zh n) zh YH (yE F l goal ms s4 (some (.obj true (lD fu))) (some (.val (cD c))) (some (.val (cD o))))=some (.nx,yE F l goal ms s4 (some (.obj true (lD fu))) (some (.val (cD c))) (some (.val (cD o)))))\/
  (zL ms o=none/\LOk f l goal (ms++[(o,some c)])/\Lv f l goal (k+1) o/\zp (zD U zh n) zh YH (yE F l goal ms s4 (some (.obj true (lD fu))) (some (.val (cD c))) (some (.val (cD o))))=
   some (.nx,yE F l goal (ms++[(o,some c)]) s4 (some (.obj true (lD (fu++[o])))) (some (.val (cD c))) (some (.val (cD o))))):=by
 have hl':=yD;have hml:=hm.len
 cases hg:zL ms o with
 |some v=>
  refine .inl ⟨rfl,?_⟩;simp[YH,yE,kq,hg]
 |none=>
  have hlv:Lv f l goal (k+1) o:=⟨.inr ⟨hof,c,hc.1,by rw[wE];exact hn⟩,fun i hi b=>by
   have:=hk o (b.mono (by omega));rw[hg] at this;cases this⟩
  have hno:o≠c:=fun e=>by subst e;rw[hg] at hcm;cases hcm
  refine .inr ⟨rfl,⟨?_,fun x hx=>?_,fun x hx=>?_,fun x p hx=>?_⟩,hlv,?_⟩
  ·rw[List.map_append,List.nodup_append]
   refine⟨hm.nd,by simp,fun a ha b hb e=>?_⟩;simp at hb;subst hb;subst e;have:(zL ms a).isSome=true:=by rw[wR];simpa using ha
   rw[hg] at this;cases this
  ·rw[jq hg] at hx
   split at hx
   ·rename_i e;subst e;exact hof
   ·exact hm.sub x hx
  ·rw[jq hg] at hx
   split at hx
   ·cases hx
   ·exact hm.root x hx
  ·rw[jq hg] at hx
   have up: ∀y,(zL ms y).isSome=true->(zL (ms++[(o,some c)]) y).isSome=true:=fun y hy=>by
    rw[jq hg];split
    ·rfl
    ·exact hy
   split at hx
   ·rename_i e
    cases hx;subst e;exact⟨by rw[wE];exact hn,k,hlv,hc,up _ hcm⟩
   ·obtain⟨h1,j,h2,h3,h4⟩:=hm.next x p hx
    exact⟨h1,j,h2,h3,up _ h4⟩
  ·have e1: ∀ρ:Env,jm ρ 3 (some (.val (cD o))) (some (.val (cD c))) (some (some (.obj true (dG oD ms))))=some (.nx,ρ.set 3 (some (.obj true (dG oD (ms++[(o,some c)]))))):=fun ρ=>zon (g:=oD) (v:=some c) hg (by omega)
   have e2: ∀(ρ:Env),jS ρ 5 (some (.val (cD o))) (some (some (.obj true (lD fu))))=some (.nx,ρ.set 5 (some (.obj true (lD (fu++[o]))))):=fun ρ=>by
    rw[lD,Vi];have:fu.length<line:=by omega
    simp only[Option.bind_some,ZC,List.length_map,this,if_true];simp[lD]
   simp[YH,yE,kq,hg,e1,e2]
structure Rg (f:List za)(l goal:za)(k:Nat)(ms0 ms:vU)(fu:List za):Prop extends LOk f l goal ms where
 old: ∀x,Bk f l goal k x->(zL ms x).isSome=true
 fu_: ∀x,x∈fu↔(zL ms x).isSome=true/\Lv f l goal (k+1) x
 up: ∀x,(zL ms x).isSome=true->Bk f l goal (k+1) x
 nd2:fu.Nodup
 cnt:ms.length=ms0.length+fu.length
theorem zop(n:Nat){F:D}(hF:xW F=some (f.map cD))(hf:f.length<=100){ms0 ms:vU}{fu:List za}{s4 s7:Option SV}{k:Nat}{c:za}(h:Rg f l goal k ms0 ms fu)(hc:Lv f l goal k c)(h7:zC (some s7)=true):
  ∃ms' fu' s7',zp (zD U zh (n+3)) zh QV (yE F l goal ms s4 (some (.obj true (lD fu))) (some (.val (cD c))) s7)=some (.nx,yE F l goal ms' s4 (some (.obj true (lD fu'))) (some (.val (cD c))) s7')/\
   Rg f l goal k ms0 ms' fu'/\(∀o∈nb f l c,(zL ms' o).isSome=true)/\(∀x,(zL ms x).isSome=true->(zL ms' x).isSome=true)/\zC (some s7')=true:=by
 obtain⟨ρ',e,ms',fu',s7',rfl,r1,r2,r3,r4⟩:=ZK (i:=7) (body:=zp (zD U zh (n+3)) zh YH)
  (fun pre ρ=>∃ms' fu' s7',ρ=yE F l goal ms' s4 (some (.obj true (lD fu'))) (some (.val (cD c))) s7'/\Rg f l goal k ms0 ms' fu'/\(∀o∈pre,(zL ms' o).isSome=true)/\(∀x,(zL ms x).isSome=true->(zL ms' x).isSome=true)/\zC (some s7')=true)
  (xs:=nb f l c) (ρ:=yE F l goal ms s4 (some (.obj true (lD fu))) (some (.val (cD c))) s7) ⟨ms,fu,s7,rfl,h,fun o ho=>(by cases ho),fun y hy=>hy,h7⟩
  fun pre o post ρ e zz5=>by
   obtain⟨ms',fu',s7',eρ,r1,r2,r3,r4⟩:=zz5;subst eρ;have ho:o∈nb f l c:=by rw[e];simp
   have hlen:=r1.len;have hcnt:=r1.cnt;rcases zoo (n+3) hf (fu:=fu') (s4:=s4) r1.toLOk hc (r1.old c hc.1) r1.old (wj.mp ho).1 (wj.mp ho).2 (by omega) with ⟨q1,e2⟩|⟨q1,q2,q3,e2⟩
   ·refine⟨_,_,e2,.inl rfl,ms',fu',_,rfl,r1,fun y hy=>?_,r3,yY⟩
    rw[List.mem_append,List.mem_singleton] at hy;rcases hy with z|rfl
    ·exact r2 y z
    ·exact q1
   ·have up: ∀y,(zL ms' y).isSome=true->(zL (ms'++[(o,some c)]) y).isSome=true:=fun y hy=>by
     rw[jq q1];split
     ·rfl
     ·exact hy
    refine⟨_,_,e2,.inl rfl,_,_,_,rfl,{ q2 with old:=fun x hx=>up x (r1.old x hx),fu_:=fun x=>?_,up:=fun x hx=>?_,nd2:=?_,cnt:=?_ },fun y hy=>?_,fun x hx=>up x (r3 x hx),yY⟩
    ·rw[List.mem_append,List.mem_singleton,r1.fu_ x,jq q1]
     by_cases ex:x=o
     ·subst ex;simp[q3]
     ·simp[ex]
    ·rw[jq q1] at hx
     split at hx
     ·rename_i ex;rw[ex];exact q3.1
     ·exact r1.up x hx
    ·rw[List.nodup_append]
     refine⟨r1.nd2,by simp,fun a ha b hb eab=>?_⟩;simp at hb;subst hb;subst eab;have:=((r1.fu_ a).mp ha).1;rw[q1] at this;cases this
    ·simp;omega
    ·rw[List.mem_append,List.mem_singleton] at hy
     rcases hy with z|rfl
     ·exact up y (r2 y z)
     ·rw[jq q1];simp
 refine⟨ms',fu',s7',?_,r1,r2,r3,r4⟩;have cn:=zej n l c hF (by omega:f.length<=1000);simp only[QV,YC,jn];simp[yE,cn,h7];rw[<-nb,<-yE,e];simp[yE]
theorem zoq(n:Nat){F:D}(hF:xW F=some (f.map cD))(hf:f.length<=100){ms:vU}{ed:List za}{s5 s6 s7:Option SV}{k:Nat}(hm:LOk f l goal ms)(hk: ∀x,Bk f l goal k x↔(zL ms x).isSome=true)(hed: ∀x,x∈ed↔Lv f l goal k x)
  {s4:Option SV} (hs4:s4=some (.val (lD ed))\/s4=some (.obj true (lD ed))) (h5:zC (some s5)=true) (h6:zC (some s6)=true) (h7:zC (some s7)=true):
  ∃ms' fu s5' s6' s7',zp (zD U zh (n+3)) zh QW (yE F l goal ms s4 s5 s6 s7)=some (.nx,yE F l goal ms' (some (.val (lD fu))) s5' s6' s7')/\
   LOk f l goal ms'/\(∀x,Bk f l goal (k+1) x↔(zL ms' x).isSome=true)/\(∀x,x∈fu↔Lv f l goal (k+1) x)/\ms'.length=ms.length+fu.length/\zC (some s5')=true/\zC (some s6')=true/\zC (some s7')=true:=by
 have f0: ∀x,x∈([]:List za)↔(zL ms x).isSome=true/\Lv f l goal (k+1) x:=fun x=>by
  constructor
  ·intro z;cases z
  ·rintro⟨z1,z2⟩;exact KC ((hk x).mpr z1) (z2.2 k (Nat.lt_succ_self k))
 have R0:Rg f l goal k ms ms []:={ hm with old:=fun x=>(hk x).mp,fu_:=f0,up:=fun x hx=>.inl ((hk x).mpr hx),nd2:=by simp,cnt:=by simp }
 obtain⟨ρ',e,ms',fu,s6',s7',rfl,r1,r2,r3,r4⟩:=ZK (i:=6) (body:=zp (zD U zh (n+3)) zh QV)
  (fun pre ρ=>∃ms' fu s6' s7',ρ=yE F l goal ms' (some (.val (lD ed))) (some (.obj true (lD fu))) s6' s7'/\Rg f l goal k ms ms' fu/\(∀x∈pre,∀o∈nb f l x,(zL ms' o).isSome=true)/\zC (some s6')=true/\zC (some s7')=true)
  (xs:=ed) (ρ:=yE F l goal ms (some (.val (lD ed))) (some (.obj true (lD []))) s6 s7) ⟨ms,[],s6,s7,rfl,R0,fun o ho=>(by cases ho),h6,h7⟩
  fun pre x post ρ e zz5=>by
   obtain⟨ms',fu,s6',s7',eρ,r1,r2,r3,r4⟩:=zz5;subst eρ;have hx:x∈ed:=by rw[e];simp
   obtain⟨ms2,fu2,s72,e2,q1,q2,q3,q4⟩:=zop n hF hf (s4:=some (.val (lD ed))) (s7:=s7') r1 ((hed x).mp hx) r4;refine⟨_,_,e2,.inl rfl,ms2,fu2,_,s72,rfl,q1,fun y hy o ho=>?_,yY,q4⟩;rw[List.mem_append,List.mem_singleton] at hy;rcases hy with z|rfl
   ·exact q3 o (r2 y z o ho)
   ·exact q2 o ho
 have full: ∀x,Bk f l goal (k+1) x↔(zL ms' x).isSome=true:=fun x=>by
  refine⟨fun b=>?_,r1.up x⟩;rcases b with b|⟨hxf,p,hp,hn⟩
  ·exact r1.old x b
  ·by_cases hb:Bk f l goal k x
   ·exact r1.old x hb
   ·obtain⟨j,hj,hlv⟩:=hp.lv
    have:j=k:=by
     by_cases e:j=k
     ·exact e
     ·exact KC (Bk.mono (k:=j+1) (by omega) (.inr ⟨hxf,p,hlv.1,hn⟩)) hb
    subst this;exact r2 p ((hed p).mpr hlv) x (wj.mpr ⟨hxf,by rw[wE];exact hn⟩)
 refine⟨ms',fu,some (.val (lD fu)),s6',s7',?_,r1.toLOk,full,fun x=>?_,r1.cnt,yY,r3,r4⟩
 ·simp only[QW]
  rcases hs4 with rfl|rfl
  ·simp[yE,h5,h6,jo]
   rw[show xW (lD ed)=some (ed.map cD) from rfl,show D.lst []=lD [] from rfl];simp only[Option.map_some,Option.bind_some];rw[<-yE,e];simp[yE]
  ·simp[yE,h5,h6,jo]
   rw[show Vh [some (SV.val F),some (SV.val (cD l)),some (SV.val (cD goal)),some (SV.obj true (dG oD ms)),some (SV.obj true (lD ed)),some (SV.obj true (D.lst [])),s6,s7] 4 (some (some (SV.obj true (lD ed))))=some (ed.map cD,yE F l goal ms (some (.val (lD ed))) (some (.obj true (lD []))) s6 s7) from rfl];simp only[Option.map_some,Option.bind_some];rw[e];simp[yE]
 ·rw[r1.fu_ x]
  exact⟨fun z=>z.2,fun z=>⟨(full x).mp z.1,z⟩⟩
structure LFull (f:List za)(l goal:za)(ms:vU):Prop extends LOk f l goal ms where
 all: ∀x,(zL ms x).isSome=true↔∃k,Bk f l goal k x
theorem zor(n:Nat){F:D}(hF:xW F=some (f.map cD))(hf:f.length<=100)(hg:goal∈f): ∃ms,LFull f l goal ms/\zv U zh (n+4) 20 [F,cD l,cD goal]=some (.obj true (dG oD ms)):=by
 have ms0:LOk f l goal [(goal,none)]:=by
  refine⟨by simp,fun c hc=>?_,fun c hc=>?_,fun c p hc=>?_⟩
  ·rw[wR] at hc;simp at hc;subst hc;exact hg
  ·rw[jZ] at hc;split at hc
   ·rename_i z;exact z.symm
   ·cases hc
  ·rw[jZ] at hc;split at hc
   ·cases hc
   ·cases hc
 obtain⟨ρ',e,ms,s4,s5,s6,s7,rfl,h1,h2⟩:=QT (test:=zB (zv U zh (n+3)) (.prim .gt (.cons (.prim .len (.cons (.var 4) .nil)) (.cons (.int 0) .nil)))) (body:=zp (zD U zh (n+3)) zh QW)
  (fun m ρ=>∃k ms ed s4 s5 s6 s7,ρ=yE F l goal ms s4 s5 s6 s7/\(s4=some (.val (lD ed))\/s4=some (.obj true (lD ed)))/\LOk f l goal ms/\(∀x,Bk f l goal k x↔(zL ms x).isSome=true)/\(∀x,x∈ed↔Lv f l goal k x)/\(zC (some s5)=true/\zC (some s6)=true/\zC (some s7)=true)/\m=2*(f.length-ms.length)+(if ed=[] then 0 else 1))
  (fun ρ=>∃ms s4 s5 s6 s7,ρ=yE F l goal ms s4 s5 s6 s7/\LFull f l goal ms/\True)
  (m:=2*(f.length-1)+1) (n:=zh) (ρ:=yE F l goal [(goal,none)] (some (.obj true (lD [goal]))) none none none) (by unfold zh;omega)
  ⟨0,_,[goal],_,none,none,none,rfl,.inr rfl,ms0,fun x=>by
    rw[wR];simp[Bk],fun x=>by
    rw[List.mem_singleton];exact⟨fun z=>⟨z,fun i hi=>by omega⟩,fun z=>z.1⟩,⟨rfl,rfl,rfl⟩,by simp⟩
  fun m ρ zz2=>by
   obtain⟨k,ms,ed,s4,s5,s6,s7,eρ,hs4,q1,q2,q3,q4,q5⟩:=zz2;subst eρ
   have ht:zB (zv U zh (n+3)) (.prim .gt (.cons (.prim .len (.cons (.var 4) .nil)) (.cons (.int 0) .nil))) (yE F l goal ms s4 s5 s6 s7)=some (decide (0<ed.length)):=by
    rcases hs4 with rfl|rfl
    ·simp[yE,lD]
    ·simp[yE,lD]
   by_cases hed:ed=[]
   ·subst hed
    refine .inl ⟨by rw[ht];rfl,ms,s4,s5,s6,s7,rfl,{ q1 with all:=fun x=>⟨fun z=>⟨k,(q2 x).mpr z⟩,fun ⟨j,hj⟩=>?_⟩ },trivial⟩
    have none_: ∀j x,Bk f l goal j x->Bk f l goal k x:=by
     intro j
     induction j with
     |zero=>intro x hx;exact hx.mono (Nat.zero_le k)
     |succ j ih=>
      intro x hx;rcases hx with hx|⟨hxf,p,hp,hn⟩
      ·exact ih x hx
      ·obtain⟨i,hi,hlv⟩:=(ih p hp).lv
       by_cases e:i=k
       ·subst e;exact KC ((q3 p).mpr hlv) (by simp)
       ·exact Bk.mono (k:=i+1) (by omega) (.inr ⟨hxf,p,hlv.1,hn⟩)
    exact (q2 x).mp (none_ j x hj)
   ·have hpos:0<ed.length:=List.length_pos_iff.mpr hed
    refine .inr ⟨by rw[ht];simp[hpos],?_⟩;obtain⟨ms',fu,s5',s6',s7',e2,r1,r2,r3,r4,r5⟩:=zoq n hF hf q1 q2 q3 hs4 q4.1 q4.2.1 q4.2.2;have hl1:=r1.len;refine⟨_,_,2*(f.length-ms'.length)+(if fu=[] then 0 else 1),e2,.inl rfl,?_,k+1,ms',fu,_,s5',s6',s7',rfl,.inl rfl,r1,r2,r3,r5,rfl⟩;rw[q5,if_neg hed]
    cases fu with
    |nil=>simp at r4⊢;omega
    |cons a b=>simp at r4⊢;omega
 refine⟨ms,h1,?_⟩;rw[yj znf rfl];simp only[VC];simp[YB];rw[show D.dct true [cD goal] [D.non]=dG oD [(goal,none)] from rfl,show D.lst [cD goal]=lD [goal] from rfl,<-yE,e];simp[yE]
end
end LK
namespace LK
open L2.LW
theorem zeC{α:Type}{R:α->α->Prop}(ir: ∀a,¬R a a)(as: ∀a b,R a b->R b a->False): ∀{l m:List α},l.Pairwise R->m.Pairwise R->(∀x,x∈l↔x∈m)->l=m
 |[],[],_,_,_=>rfl
 |[],y::m,_,_,h=>KC ((h y).mpr Ke) (by simp)
 |x::l,[],_,_,h=>KC ((h x).mp Ke) (by simp)
 |x::l,y::m,hl,hm,h=>by
  rw[List.pairwise_cons] at hl hm
  have exy:x=y:=by
   rcases List.mem_cons.mp ((h x).mp Ke) with e|e
   ·exact e
   ·rcases List.mem_cons.mp ((h y).mpr Ke) with e'|e'
    ·exact e'.symm
    ·exact (as _ _ (hm.1 x e) (hl.1 y e')).elim
  subst exy;rw[zeC ir as hl.2 hm.2 fun z=>?_];constructor
  ·intro hz
   rcases List.mem_cons.mp ((h z).mp (Kf _ hz)) with e|e
   ·subst e;exact (ir _ (hl.1 z hz)).elim
   ·exact e
  ·intro hz
   rcases List.mem_cons.mp ((h z).mpr (Kf _ hz)) with e|e
   ·subst e;exact (ir _ (hm.1 z hz)).elim
   ·exact e
noncomputable def cl(c:za):List Int:=[c.1,c.2]
theorem zeD{a b:za}(h:cl a=cl b):a=b:=by
 simp[cl] at h;exact Prod.ext h.1 h.2
theorem zos{a b:za}(h:zX a b):vi (cl a) (cl b):=by
 show L2.LW.lexLt [a.1,a.2] [b.1,b.2]=true;simp only[L2.LW.lexLt];unfold zX at h;by_cases e:a.1=b.1
 ·have: ¬a.2=b.2:=by omega
  have h2:a.2<b.2:=by omega
  simp[e,this,h2]
 ·have h2:a.1<b.1:=by omega
  simp[e,h2]
theorem zeE: ∀L:List za,tups? (L.map cD)=some (L.map cl)
 |[]=>rfl
 |c::r=>by simp[tups?,cD,ints?,zeE r,cl]
theorem zot{L g:List za}(hL:L.Nodup)(hg:g.Pairwise zX)(h: ∀x,x∈L↔x∈g):vJ (L.map cl)=g.map cl:=by
 have nd:(L.map cl).Nodup:=by
  rw[List.Nodup,List.pairwise_map];exact hL.imp fun ne e=>ne (zeD e)
 have up:=QL nd;have up2:(g.map cl).Pairwise vi:=by rw[List.pairwise_map];exact hg.imp zos
 refine zeC (R:=vi) (fun a z=>by have:=jQ a;rw[show L2.LW.lexLt a a=true from z] at this;cases this) (fun a b z1 z2=>by have:=Yy z1 z2;rw[jQ] at this;cases this) up up2 fun x=>?_
 rw[(Vc _).mem_iff,List.mem_map,List.mem_map];exact⟨fun ⟨c,hc,e⟩=>⟨c,(h c).mp hc,e⟩,fun ⟨c,hc,e⟩=>⟨c,(h c).mpr hc,e⟩⟩
theorem zeF{L g:List za}(hL:L.Nodup)(hl:L.length<64)(hg:g.Pairwise zX)(h: ∀x,x∈L↔x∈g):Xu (L.map cD)=some (.obj true (lD g)):=by
 unfold Xu
 have nd:(L.map cl).Nodup:=by
  rw[List.Nodup,List.pairwise_map];exact hL.imp fun ne e=>ne (zeD e)
 rw[zeE,Option.bind_some,if_pos ⟨by simpa using hl,nd,by simp[cl]⟩,zot hL hg h,List.map_map];rfl
theorem zeG{L g:List za}(h0:L≠[])(hL:L.Nodup)(hl:L.length<64)(hg:g.Pairwise zX)(h: ∀x,x∈L↔x∈g):JV (L.map cD)=some (.obj true (lD g)):=by
 unfold JV
 have:ints? (L.map cD)=none:=by
  cases L with
  |nil=>exact KC rfl h0
  |cons c r=>rfl
 rw[this];exact zeF hL hl hg h
section
variable {α:Type} (g:α->D)
theorem zou{ms:List (za×α)}{c:za}{v:α}(h:(zL ms c).isSome=true):xo true (ms.map fun p=>cD p.1) (ms.map fun p=>g p.2) (cD c) (g v)=dG g (ms.map fun p=>if p.1=c then (p.1,v) else p):=by
 unfold xo;rw[Ji,jW,<-wR,if_pos h,<-Ji]
 have: ∀ms:List (za×α),List.zipWith (fun k' v'=>if zN k' (cD c)=true then g v else v') (ms.map fun p=>cD p.1) (ms.map fun p=>g p.2)=ms.map fun p=>g (if p.1=c then (p.1,v) else p).2:=by
  intro ms
  induction ms with
  |nil=>rfl
  |cons p r ih=>
   rw[List.map_cons,List.map_cons,List.zipWith_cons_cons,ih,List.map_cons,Jb];by_cases h:p.1=c<;>simp[h]
 rw[this];unfold dG;rw[List.map_map,List.map_map]
 congr 1
 apply List.map_congr_left;intro p _;show cD p.1=cD (if p.1=c then (p.1,v) else p).1;split<;>rfl
theorem zeH: ∀(ms2 ms:List (za×α)),∃ms':List (za×α),vw (ms.map fun p=>cD p.1) (ms.map fun p=>g p.2) (ms2.map fun p=>cD p.1) (ms2.map fun p=>g p.2)=(ms'.map (fun p=>cD p.1),ms'.map fun p=>g p.2)/\
  (∀c,(zL ms' c).isSome=((zL ms c).isSome||(zL ms2 c).isSome))/\ms'.length<=ms.length+ms2.length
 |[],ms=>⟨ms,by simp[vw],fun c=>by simp[zL],by simp⟩
 |p::r,ms=>by
  have st: ∃ms1:List (za×α),xo true (ms.map fun p=>cD p.1) (ms.map fun p=>g p.2) (cD p.1) (g p.2)=dG g ms1/\(∀c,(zL ms1 c).isSome=((zL ms c).isSome||decide (p.1=c)))/\ms1.length<=ms.length+1:=by
   by_cases h:(zL ms p.1).isSome=true
   ·refine⟨_,zou g h,fun c=>?_,by simp⟩
    have hk:((ms.map fun q=>if q.1=p.1 then (q.1,p.2) else q).map (·.1))=ms.map (·.1):=by
     rw[List.map_map];apply List.map_congr_left;intro q _;show (if q.1=p.1 then (q.1,p.2) else q).1=q.1;split<;>rfl
    rw[wR,hk,<-wR];by_cases e:p.1=c
    ·subst e;simp[h]
    ·simp[e]
   ·have h':zL ms p.1=none:=by simpa using h
    refine⟨_,zeB h',fun c=>?_,by simp⟩;rw[jq h'];by_cases e:c=p.1
    ·subst e;simp
    ·have: ¬p.1=c:=fun z=>e z.symm
     simp[e,this]
  obtain⟨ms1,e1,e2,e3⟩:=st;obtain⟨ms',f1,f2,f3⟩:=zeH r ms1;refine⟨ms',?_,fun c=>?_,by simp;omega⟩
  ·rw[List.map_cons,List.map_cons,vw,e1]
   exact f1
  ·rw[f2,e2,jZ]
   by_cases e:p.1=c
   ·simp[e]
   ·simp[e]
end
theorem zov{α:Type}{g:α->D}{ms:List (za×α)}(h: ∀c∈ms.map (·.1),vR c):(ms.map fun p=>cD p.1).all XD=true:=by
 rw[List.all_eq_true];intro d hd;rw[List.mem_map] at hd;obtain⟨p,hp,rfl⟩:=hd;have:=h p.1 (List.mem_map.mpr ⟨p,hp,rfl⟩);unfold vR at this;simp[cD,XD];omega
noncomputable def xR(f:List za)(l c:za):List za:=f.filter fun x=>@decide (∃k,Bk f l c k x) (Classical.propDecidable _)
theorem jr{f:List za}{l c x:za}:x∈xR f l c↔x∈f/\∃k,Bk f l c k x:=by
 unfold xR;rw[List.mem_filter];simp
noncomputable def xz(f:List za)(l:za):List za->List (List za)->List (List za)
 |[],acc=>acc
 |c::r,acc=>if c∈acc.flatten then xz f l r acc else xz f l r (acc++[xR f l c])
noncomputable def Za(f:List za)(l:za):List (List za):=xz f l f []
noncomputable def yz(P:List (List za)):D:=.lst (P.map lD)
theorem zow{f:List za}{l c:za}(h:c∈f):c∈xR f l c:=jr.mpr ⟨h,0,rfl⟩
end LK
namespace LK
open L2.LW
theorem Jj{f:List za}{l x:za}: ∀{g:List za} {acc:List (List za)},xz f l (g++[x]) acc=if x∈(xz f l g acc).flatten then xz f l g acc else xz f l g acc++[xR f l x]
 |[],acc=>by
  show xz f l [x] acc=_;rw[xz];rfl
 |c::r,acc=>by
  rw[List.cons_append,xz,xz];split
  ·exact Jj
  ·exact Jj
theorem zox{f:List za}{l c:za}(h:f.Pairwise zX):(xR f l c).Pairwise zX:=h.filter _
section
variable {f:List za} {l:za}
noncomputable def vm(F:D)(l:za)(acc:List (List za))(ms:vU)(s4 s5:Option SV):Env:=[some (.val F),some (.val (cD l)),some (.obj true (yz acc)),some (.obj true (dG oD ms)),s4,s5]
theorem zoy(n:Nat){F:D}(hF:xW F=some (f.map cD))(hf:OkF f){acc:List (List za)}{ms:vU}{c:za}{s5:Option SV}(hc:c∈f)(hm: ∀x,(zL ms x).isSome=decide (x∈acc.flatten))(hl:ms.length<=1000)(ha:acc.length<=1000)(h5:zC (some s5)=true):
  ∃ms' s5',zp (zD U zh (n+4)) zh VI (vm F l acc ms (some (.val (cD c))) s5)=some (.nx,vm F l (if c∈acc.flatten then acc else acc++[xR f l c]) ms' (some (.val (cD c))) s5')/\
   (∀x,(zL ms' x).isSome=decide (x∈(if c∈acc.flatten then acc else acc++[xR f l c]).flatten))/\ms'.length<=ms.length+24/\zC (some s5')=true:=by
 have hl':=yD;by_cases hin:c∈acc.flatten
 ·refine⟨ms,s5,?_,by simpa [hin] using hm,by omega,h5⟩
  have h1:=hm c;rw[decide_eq_true hin] at h1;rw[if_pos hin];simp[VI,vm,kq,h1]
 ·have hlen:=hf.len
  obtain⟨ms2,q,e2⟩:=zor (l:=l) n hF (by omega:f.length<=100) hc;obtain⟨ms',f1,f2,f3⟩:=zeH oD ms2 ms;have len2:=q.toLOk.len;have h1:=hm c;rw[KH hin] at h1
  have sub: ∀x,x∈ms2.map (·.1)↔x∈xR f l c:=fun x=>by
   rw[jr,<-q.all x,wR,decide_eq_true_iff];refine⟨fun z=>⟨q.sub x (by rw[wR,decide_eq_true_iff];exact z),z⟩,fun z=>z.2⟩
  have sk:zg .skeys [dG oD ms2]=some (.obj true (lD (xR f l c))):=by
   show Xu (ms2.map fun p=>cD p.1)=_;rw[Ji];exact zeF q.nd (by rw[List.length_map];omega) (zox hf.rise) sub
  have ed: ∀s4,XE (vm F l acc ms s4 (some (.obj true (dG oD ms2)))) 3 5=some (.nx,vm F l acc ms' s4 (some (.obj true (dG oD ms2)))):=fun s4=>by
   show Qb _ 3 (.obj true (dG oD ms)) (some (dG oD ms)) (some (dG oD ms2))=_;unfold dG;have sm:=zov (g:=oD) (ms:=ms2) fun x hx=>hf.cells x (jr.mp ((sub x).mp hx)).1
   have le:ms.length+ms2.length<line:=by omega
   simp only[Qb,sm,List.length_map,le,decide_true,Bool.and_self,if_true,f1];rfl
  have ap: ∀(ρ:Env),jS ρ 2 (some (.obj true (lD (xR f l c)))) (some (some (.obj true (yz acc))))=some (.nx,ρ.set 2 (some (.obj true (yz (acc++[xR f l c]))))):=fun ρ=>by
   rw[yz,Vi];have:acc.length<line:=by omega
   simp only[Option.bind_some,zdX,List.length_map,this,if_true];simp[yz]
  refine⟨ms',some (.obj true (dG oD ms2)),?_,fun x=>?_,by omega,zmR⟩
  ·rw[if_neg hin]
   simp[VI,vm,kq,h1,e2,h5];rw[<-vm,ed];simp[vm,sk,ap]
  ·rw[if_neg hin,f2,hm,List.flatten_append,Bool.eq_iff_iff]
   have:(zL ms2 x).isSome=decide (x∈xR f l c):=by rw[wR,Bool.eq_iff_iff];simp[sub x]
   rw[this];simp
theorem zoz(n:Nat){F:D}(hF:xW F=some (f.map cD))(hf:OkF f):zv U zh (n+5) 30 [F,cD l]=some (.obj true (yz (Za f l))):=by
 have hlen:=hf.len
 obtain⟨ρ',e,ms,s4,s5,rfl,_⟩:=ZK (i:=4) (body:=zp (zD U zh (n+4)) zh VI)
  (fun pre ρ=>∃ms s4 s5,ρ=vm F l (xz f l pre []) ms s4 s5/\(∀x,(zL ms x).isSome=decide (x∈(xz f l pre []).flatten))/\ms.length<=24*pre.length/\(xz f l pre []).length<=pre.length/\zC (some s5)=true)
  (xs:=f) (ρ:=vm F l [] [] none none) ⟨[],none,none,rfl,fun x=>by simp[xz,zL],by simp,by simp[xz],rfl⟩
  fun pre c post ρ e zz5=>by
   obtain⟨ms,s4,s5,eρ,r1,r2,r3,r4⟩:=zz5;subst eρ;have hc:c∈f:=by rw[e];simp
   have hp:pre.length<f.length:=by rw[e];simp
   obtain⟨ms',s5',e2,q1,q2,q3⟩:=zoy (l:=l) n hF hf hc r1 (by omega) (by omega) r4;refine⟨_,_,e2,.inl rfl,ms',some (.val (cD c)),s5',?_,?_,?_,?_,q3⟩
   ·rw[Jj]
   ·rw[Jj];exact q1
   ·simp;omega
   ·rw[Jj];split<;>simp<;>omega
 rw[yj znl rfl];simp only[VJ];simp[jo];rw[hF];simp only[Option.map_some,Option.bind_some];rw[show D.dct true [] []=dG oD [] from rfl,show D.lst []=yz [] from rfl,<-vm,e];simp[vm,Za]
end
end LK
namespace LK
open L2.LW
section
variable {f:List za} {l:za}
theorem Bk.join{b c:za}{k:Nat}(h2:Bk f l c k b): ∀{j:Nat} {a:za},Bk f l b j a->Bk f l c (k+j) a
 |0,a,h=>by rw[show a=b from h];exact h2
 |j+1,a,h=>by
  rcases h with h|⟨ha,p,hp,hn⟩
  ·exact .inl (Bk.join h2 h)
  ·exact .inr ⟨ha,p,Bk.join h2 hp,hn⟩
theorem Bk.symm{b:za}(hb:b∈f): ∀{j:Nat} {a:za},a∈f->Bk f l b j a->Bk f l a j b
 |0,a,_,h=>by rw[show a=b from h];exact rfl
 |j+1,a,ha,h=>by
  rcases h with h|⟨_,p,hp,hn⟩
  ·exact .inl (Bk.symm hb ha h)
  ·have hpf:=hp.inF hb
   have h1:=Bk.symm hb hpf hp;have h2:Bk f l a 1 p:=.inr ⟨hpf,a,rfl,by rw[wE];exact hn⟩;have:=Bk.join h2 h1
   rwa [Nat.add_comm] at this
theorem zaq: ∀{g:List za} {acc:List (List za)},(∀x∈g,x∈f)->(∀p∈acc,∃c∈f,p=xR f l c)->∀p∈xz f l g acc,∃c∈f,p=xR f l c
 |[],acc,_,h=>h
 |c::r,acc,hg,h=>by
  rw[xz];split
  ·exact zaq (fun x hx=>hg x (Kf _ hx)) h
  ·refine zaq (fun x hx=>hg x (Kf _ hx)) fun p hp=>?_
   rw[List.mem_append,List.mem_singleton] at hp;rcases hp with hp|rfl
   ·exact h p hp
   ·exact⟨c,hg c Ke,rfl⟩
end
theorem zar: ∀L:List za,L.Nodup->∃g:List za,g.Pairwise zX/\∀x,x∈L↔x∈g
 |[],_=>⟨[],.nil,fun x=>Iff.rfl⟩
 |c::r,h=>by
  rw[List.nodup_cons] at h;obtain⟨g,h1,h2⟩:=zar r h.2;refine⟨g.filter (fun x=>decide (zX x c))++c::g.filter (fun x=>decide (zX c x)),?_,fun x=>?_⟩
  ·rw[List.pairwise_append]
   refine⟨h1.filter _,?_,fun a ha b hb=>?_⟩
   ·rw[List.pairwise_cons]
    exact⟨fun b hb=>by simpa using (List.mem_filter.mp hb).2,h1.filter _⟩
   ·have ha':zX a c:=by simpa using (List.mem_filter.mp ha).2
    rcases List.mem_cons.mp hb with rfl|hb
    ·exact ha'
    ·exact zeb ha' (by simpa using (List.mem_filter.mp hb).2)
  ·rw[List.mem_append,List.mem_cons,List.mem_cons,List.mem_filter,List.mem_filter,h2 x]
   constructor
   ·rintro (rfl|hx)
    ·exact .inr (.inl rfl)
    ·have ne:x≠c:=fun e=>h.1 (by rw[<-e,h2];exact hx)
     rcases zee ne with z|z
     ·exact .inl ⟨hx,by simp[z]⟩
     ·exact .inr (.inr ⟨hx,by simp[z]⟩)
   ·rintro (⟨hx,_⟩|rfl|⟨hx,_⟩)
    ·exact .inr hx
    ·exact .inl rfl
    ·exact .inr hx
noncomputable def xl(c:za):za:=(c.2,c.1)
theorem jt(c:za):xl (xl c)=c:=rfl
theorem zeI{l:za}(x y:za)(h:zK l x y=true):zK l (xl x) (xl y)=true:=by
 rw[zeu] at h⊢;rcases h with ⟨a,b,c⟩|⟨a,b,c⟩
 ·exact .inr ⟨b,a,c⟩
 ·exact .inl ⟨b,a,c⟩
section
variable {f:List za} {l:za}
noncomputable def yt(f:List za)(l:za)(k:Int):List za:=f.filter fun c=>decide (zr l c=k)
theorem zoA(n:Nat)(hf:OkF f)(hl:OkL l):zv U zh (n+5) 25 [fD f,cD l]=some (.obj true (.lst [lD (yt f l 0),lD (yt f l 1)])):=by
 have hlen:=hf.len;have h0:=km n hl (f:=f) (by omega) 0;have h1:=km n hl (f:=f) (by omega) 1;rw[yj znk rfl];simp[VH,ZF n hf,ZG (n+1) hl,h0,h1];exact⟨rfl,rfl⟩
end
end LK
namespace LK
open L2.LW
theorem kr{α:Type}{p:α->Bool}: ∀{f:List α},(f.filter p).length+(f.filter fun x=> !p x).length=f.length
 |[]=>rfl
 |a::r=>by
  have:=kr (p:=p) (f:=r);rw[List.filter_cons,List.filter_cons,List.length_cons];cases h:p a
  ·simp;omega
  ·simp;omega
section
variable {f:List za} {l:za}
noncomputable def Mn(f:List za)(l:za)(k:Nat):Prop:=(∃C,IsCover f l C/\C.length=k)/\∀C,IsCover f l C->k<=C.length
theorem Mn.uniq{k k':Nat}(h:Mn f l k)(h':Mn f l k'):k=k':=by
 obtain⟨C,c,e⟩:=h.1;obtain⟨C',c',e'⟩:=h'.1;have:=h.2 C' c';have:=h'.2 C c;omega
theorem zeJ(hl:OkL l)(hn:f.Nodup){ms:Ms}{T:za->Prop}(h:Final f l ms T):Mn f l (ml f l ms).length:=by
 obtain⟨C,c,e⟩:=zoc hl hn h;have d:=zey hl hn h.toMatch c;exact⟨⟨C,c,by omega⟩,fun C' c'=>zey hl hn h.toMatch c'⟩
theorem zeK(hl:OkL l)(hn:f.Nodup){k:Nat}(h:Mn f l k)(x:Int):(f.filter fun c=>decide (zr l c=x)).length+k<=f.length:=by
 have c:IsCover f l (f.filter fun c=> !decide (zr l c=x)):=by
  refine⟨hn.sublist Ku,fun y hy=>(List.mem_filter.mp hy).1,fun a ha b hb hab=>?_⟩;have hne:=vj hl hab;by_cases z:zr l a=x
  ·right
   refine List.mem_filter.mpr ⟨hb,?_⟩;have: ¬zr l b=x:=fun w=>hne (by rw[z,w])
   simp[this]
  ·left;exact List.mem_filter.mpr ⟨ha,by simp[z]⟩
 have h1:=h.2 _ c;have h2:=kr (f:=f) (p:=fun c=>decide (zr l c=x));omega
theorem zoB(hl:OkL l)(hn:f.Nodup){ms:Ms}(h:Match f l ms):(f.filter fun c=>(get ms c).isNone).length+2*(ml f l ms).length=f.length:=by
 have e1:=kr (p:=fun c=>(get ms c).isNone) (f:=f);have e2:=kr (p:=fun c=>decide (zr l c=0)) (f:=f.filter fun c=> !(get ms c).isNone)
 have hA:(f.filter fun c=> !(get ms c).isNone).filter (fun c=>decide (zr l c=0))=ml f l ms:=by
  unfold ml;rw[List.filter_filter];apply List.filter_congr;intro c _;cases get ms c<;>simp
 rw[hA] at e2;generalize hB:((f.filter fun c=> !(get ms c).isNone).filter fun c=> !decide (zr l c=0))=B at e2
 have memB: ∀c,c∈B↔c∈f/\(∃v,get ms c=some v)/\zr l c≠0:=fun c=>by
  rw[<-hB,List.mem_filter,List.mem_filter];cases hg:get ms c<;>simp
 have nB:B.Nodup:=by rw[<-hB];exact (hn.sublist Ku).sublist Ku
 have le1:(ml f l ms).length<=B.length:=YR (xk ms) (zan hn) (fun x hx=>by
  obtain⟨h1,h2,v,h3⟩:=wK.mp hx;rw[yM h3,memB];have:=h.inF _ _ h3;have fl:=(xQ hl this.2.2).1 h2;exact⟨this.2.1,⟨x,h.sym _ _ h3⟩,by omega⟩) fun x hx y hy e=>by
  obtain⟨_,_,v,h3⟩:=wK.mp hx;obtain⟨_,_,w,h4⟩:=wK.mp hy;rw[yM h3,yM h4] at e;subst e;exact h.inj h3 h4
 have le2:B.length<=(ml f l ms).length:=YR (xk ms) nB (fun x hx=>by
  obtain⟨h1,⟨v,h3⟩,h2⟩:=(memB x).mp hx;rw[yM h3,wK];have:=h.inF _ _ h3;have fl:=(xQ hl this.2.2).2 ((xy (l:=l) x).resolve_left h2);exact⟨this.2.1,fl,x,h.sym _ _ h3⟩) fun x hx y hy e=>by
  obtain⟨_,⟨v,h3⟩,_⟩:=(memB x).mp hx;obtain⟨_,⟨w,h4⟩,_⟩:=(memB y).mp hy;rw[yM h3,yM h4] at e;subst e;exact h.inj h3 h4
 omega
end
end LK
namespace LK
open L2.LW
theorem zeL{α:Type}{g:α->D}(h: ∀x,plain (g x)=true): ∀{L:List α},xu (L.map g)=true
 |[]=>by simp
 |a::r=>by simp[h a,zeL h (L:=r)]
section
variable {f:List za} {l:za}
theorem zeM(n:Nat)(hl:OkL l)(hf:OkF f): ∃L k,Mn f l k/\zv U zh (n+30) 43 [fD f,cD l]=some (.obj true (.lst L))/\L.length=k:=by
 obtain⟨ms,T,h1,h2⟩:=zof n hl hf;have hn:=ko hf;exact⟨_,_,zeJ hl hn h1,h2,by rw[List.length_map,zoe hl hn h1.toMatch]⟩
theorem zoC(hn:f.Nodup){ms:Ms}{T:za->Prop}(hm:Match f l ms)(hT:vk f l ms T){k:Int}{cr ar:List za}(h:Crowd f l ms T k cr ar):cr.Nodup:=by
 have mt: ∀y∈ar,∃x,get ms y=some x:=fun y hy=>by
  obtain⟨x,e,_⟩:=hT y (h.sub y hy).2;exact⟨x,e⟩
 rw[h.is,List.nodup_append];refine⟨hn.sublist Ku,Jg (fun a ha b hb e=>?_) h.nd,fun a ha b hb e=>?_⟩
 ·obtain⟨x,ex⟩:=mt a ha
  obtain⟨y,ey⟩:=mt b hb;rw[yM ex,yM ey] at e;subst e;exact hm.inj ex ey
 ·obtain⟨y,hy,rfl⟩:=List.mem_map.mp hb
  obtain⟨x,ex⟩:=mt y hy;rw[yM ex] at e;subst e;have:=(List.mem_filter.mp ha).2;rw[hm.sym _ _ ex] at this;simp at this
theorem zoD{ms:Ms}{T:za->Prop}(hm:Match f l ms)(hT:vk f l ms T){k:Int}{cr ar:List za}(h:Crowd f l ms T k cr ar): ∀x∈cr,x∈f:=fun x hx=>by
 rw[h.is,List.mem_append] at hx;rcases hx with hx|hx
 ·exact (List.mem_filter.mp hx).1
 ·obtain⟨y,hy,rfl⟩:=List.mem_map.mp hx
  obtain⟨x,e,_⟩:=hT y (h.sub y hy).2;rw[yM e];exact (hm.inF _ _ e).2.1
theorem zoE(n:Nat)(hl:OkL l)(hf:OkF f): ∃k,Mn f l k/\∃L,zv U zh (n+30) 47 [fD f,cD l]=some (.val (.tup [.str (PySem.Str.ofString (if 2*k=f.length then "paired" else "crowd")),.lst L])):=by
 have hl':=yD;have hlen:=hf.len;have hn:=ko hf;obtain⟨ms,T,h1,h2⟩:=zex n hl hf;have hk:=zeJ hl hn h1;have al:=zoB hl hn h1.toMatch;refine⟨_,hk,?_⟩;have ck:=ZF (n+25) hf;have cl':=ZG (n+26) hl;generalize hA:(f.filter fun c=>(get ms c).isNone)=A at al
 have comp:zk (zv U zh (n+29)) (.comp false (.cons (.var 0) .nil) (.prim .nin (.cons (.var 0) (.cons (.var 3) .nil))) (.var 0)) [some (.val (fD f)),some (.val (cD l)),some (.obj true (dD ms)),none,none]=some (.obj true (lD A)):=by
  rw[jp (rs:=[.val (fD f)]) (xs:=f) (f:=cD) (fun c=>(get ms c).isNone) cD]
  ·rw[hA];rfl
  ·simp
  ·rfl
  ·omega
  ·intro x _
   simp[znX]
  ·intro x _ _;simp
 rw[yj znr rfl];simp only[VQ]
 cases A with
 |nil=>
  have e0:zg .len [lD []]=some (.val (.int 0)):=rfl;have po:=zez (n+28) (f:=f) (by omega) (ms:=ms);rw[if_pos (by simpa using al)];refine⟨(vT f ms).map (jY ms),?_⟩;have pl:(SV.obj true (.lst ((vT f ms).map (jY ms)))).plain=true:=zeL fun c=>by simp[jY]
  generalize (vT f ms).map (jY ms)=L at*;simp[ck,cl',h2,comp,e0,po,zdY pl]
 |cons a r=>
  have ha:=List.mem_filter.mp (show a∈f.filter fun c=>(get ms c).isNone by rw[hA];exact Ke);have hg:get ms a=none:=by simpa using ha.2
  rw[if_neg (by simp at al;omega)];have hh:=zes (n+26) hl a
  have ix:zg .idx [lD (a::r),.int 0]=some (.val (cD a)):=by
   rw[lD,YF,show (0:Int)=((0:Nat):Int) from rfl,atI_nat (by simp)];rfl
  obtain⟨m,ln,nz⟩: ∃m:Int,zg .len [lD (a::r)]=some (.val (.int m))/\¬m=0:=⟨_,zap,by rw[List.length_cons];omega⟩
  have cw: ∃T',vk f l ms T'/\∀x∈f,zr l x=zr l a->get ms x=none->∀o∈nb f l x,T' o:=by
   rcases xy (l:=l) a with z|z
   ·rw[z];exact⟨T,h1.cl,h1.free⟩
   ·rw[z]
    obtain⟨T',c,d,_⟩:=zol hl h1;exact⟨T',c,d⟩
  obtain⟨T',c1,c2⟩:=cw;obtain⟨cr,ar,w,e40⟩:=zok (n+24) hl hf h1.toMatch c1 (k:=zr l a) c2;have ncr:=zoC hn h1.toMatch c1 w;have scr:=zoD h1.toMatch c1 w;have lcr:cr.length<64:=by have:=wy ncr scr;omega
  have ne:cr≠[]:=fun z=>by
   have:a∈cr:=by
    rw[w.is,List.mem_append];exact .inl (List.mem_filter.mpr ⟨ha.1,by simp[hg]⟩)
   rw[z] at this;cases this
  obtain⟨g,g1,g2⟩:=zar cr ncr;have so:zg .sorted [lD cr]=some (.obj true (lD g)):=zeG ne ncr lcr g1 g2;have i0:zg .idx [.tup [lD cr,lD ar],.int 0]=some (.val (lD cr)):=rfl;refine⟨g.map cD,?_⟩;generalize zr l a=hu at*;simp[ck,cl',h2,comp,ln,nz,ix,hh,e40,i0,so];rfl
end
end LK
namespace LK
open L2.LW
section
variable {f:List za} {l:za}
open Classical in
noncomputable def ju(f:List za)(l:za):Nat:=if h: ∃k,Mn f l k then Classical.choose h else 0
theorem zas{k:Nat}(h:Mn f l k):ju f l=k:=by
 have e: ∃k,Mn f l k:=⟨k,h⟩;unfold ju;rw[dif_pos e];exact (Classical.choose_spec e).uniq h
theorem zoF(n:Nat)(hl:OkL l)(hf:OkF f): ∃L,zv U zh (n+30) 43 [fD f,cD l]=some (.obj true (.lst L))/\L.length=ju f l:=by
 obtain⟨L,k,h1,h2,h3⟩:=zeM n hl hf;exact⟨L,h2,by rw[zas h1,h3]⟩
theorem zeN(hl:OkL l)(hf:OkF f):Mn f l (ju f l):=by
 obtain⟨L,k,h1,_,_⟩:=zeM 0 hl hf;rw[zas h1];exact h1
theorem zoG(n:Nat)(hl:OkL l)(hf:OkF f): ∃L,zv U zh (n+30) 47 [fD f,cD l]=some (.val (.tup [.str (PySem.Str.ofString (if 2*ju f l=f.length then "paired" else "crowd")),.lst L])):=by
 obtain⟨k,h1,L,h2⟩:=zoE n hl hf;exact⟨L,by rw[zas h1,h2]⟩
theorem zat(hn:f.Nodup): ∀{g:List za} {acc:List (List za)},(∀x∈g,x∈f)->(∀p∈acc,∃c∈f,p=xR f l c)->acc.flatten.Nodup->(xz f l g acc).flatten.Nodup
 |[],acc,_,_,h=>h
 |c::r,acc,hg,hp,h=>by
  rw[xz];have hr: ∀x∈r,x∈f:=fun x hx=>hg x (Kf _ hx)
  split
  ·exact zat hn hr hp h
  ·rename_i hc
   refine zat hn hr (fun p z=>?_) ?_
   ·rw[List.mem_append,List.mem_singleton] at z
    rcases z with z|rfl
    ·exact hp p z
    ·exact⟨c,hg c Ke,rfl⟩
   ·rw[List.flatten_append,List.nodup_append]
    refine⟨h,by rw[List.flatten_cons,List.flatten_nil,List.append_nil];unfold xR;exact hn.sublist Ku,fun a ha b hb e=>hc ?_⟩;subst e;have hb:a∈xR f l c:=by simpa using hb
    obtain⟨p,h1,h2⟩:=List.mem_flatten.mp ha;obtain⟨d,hd,rfl⟩:=hp p h1;obtain⟨haf,k,hk⟩:=jr.mp hb;obtain⟨_,j,hj⟩:=jr.mp h2;have hcf:=hg c Ke;have:=Bk.join hj (Bk.symm hcf haf hk);exact List.mem_flatten.mpr ⟨_,h1,jr.mpr ⟨hcf,_,this⟩⟩
theorem zoH(hf:OkF f): ∃g,OkF g/\(∀x,x∈g↔xl x∈f)/\g.length=f.length/\zg .sorted [.lst (f.map fun c=>cD (xl c))]=some (.obj true (lD g)):=by
 have hn:(f.map xl).Nodup:=Jg (fun x _ y _ e=>by rw[<-jt x,e,jt]) (ko hf);obtain⟨g,g1,g2⟩:=zar (f.map xl) hn
 have mem: ∀x,x∈g↔xl x∈f:=fun x=>by
  rw[<-g2,List.mem_map];exact⟨fun ⟨y,hy,e⟩=>by rw[<-e,jt];exact hy,fun h=>⟨_,h,jt x⟩⟩
 have ne:f.map xl≠[]:=fun z=>hf.ne (List.map_eq_nil_iff.mp z)
 have hlen:=hf.len
 have len:g.length=f.length:=by
  have a:=wy hn (m:=g) fun x hx=>(g2 x).mp hx
  have b:=wy (OkF.nodup g1) (m:=f.map xl) fun x hx=>(g2 x).mpr hx
  rw[List.length_map] at a b;omega
 have so:=zeG ne hn (by rw[List.length_map];omega) g1 g2;rw[List.map_map] at so;refine⟨g,⟨fun z=>?_,by omega,fun c hc=>?_,g1⟩,mem,len,so⟩
 ·rw[z] at len
  exact hf.ne (List.eq_nil_of_length_eq_zero len.symm)
 ·have:=hf.cells _ ((mem c).mp hc)
  unfold vR xl at this;unfold vR;simp only at this;omega
end
end LK
namespace LK
open L2.LW
theorem zeO{L:List D}:zg .len [.lst L]=some (.val (.int L.length)):=rfl
section
variable {f:List za} {l:za}
theorem zoI(n:Nat)(hf:OkF f)(hl:OkL l){s0:Option SV}{ρ:Env}:
  zk (zv U zh (n+5)) (.comp false (.cons (.call 25 (.cons (.var 1) (.cons (.var 2) .nil))) .nil) (.bl true) (.prim .len (.cons (.var 0) .nil))) (s0::some (.val (fD f))::some (.val (cD l))::ρ)=some (.obj true (.lst [.int ((yt f l 0).length:Int),.int ((yt f l 1).length:Int)])):=by
 have hh:=zoA n hf hl;have hl':=yD;rw[YG (rs:=[.obj true (.lst [lD (yt f l 0),lD (yt f l 1)])]) (xs:=[yt f l 0,yt f l 1]) (f:=lD) (fun g=>.int (g.length:Int))]
 ·rfl
 ·simp[hh]
 ·rfl
 ·simp;omega
 ·intro g _
  simp[zap]
end
end LK
namespace LK
open L2.LW
noncomputable abbrev Mi:=List (Nat×Nat)
noncomputable def nD(n:Nat):D:=.int (n:Int)
noncomputable def dI(ms:Mi):D:=.dct false (ms.map fun p=>nD p.1) (ms.map fun p=>nD p.2)
noncomputable def yu(ms:Mi)(k:Nat):Option Nat:=(ms.find? fun p=>decide (p.1=k)).map (·.2)
noncomputable def vV(ms:Mi)(k v:Nat):Mi:=if (yu ms k).isSome then ms.map (fun p=>if p.1=k then (p.1,v) else p) else ms++[(k,v)]
theorem zau{a b:Nat}:zN (nD a) (nD b)=decide (a=b):=by
 simp only[nD,zN];rw[Bool.eq_iff_iff];simp;omega
theorem wS(p:Nat×Nat)(r:Mi)(k:Nat):yu (p::r) k=if p.1=k then some p.2 else yu r k:=by
 unfold yu;rw[List.find?_cons];by_cases h:p.1=k<;>simp[h]
theorem zeP(k:Nat): ∀ms:Mi,(yu ms k).isSome=decide (k∈ms.map (·.1))
 |[]=>rfl
 |p::r=>by
  rw[wS,List.map_cons];by_cases h:p.1=k
  ·simp[h]
  ·rw[if_neg h,zeP k r]
   have: ¬k=p.1:=fun z=>h z.symm
   simp[this]
theorem zav(k:Nat): ∀ms:Mi,dget (ms.map fun p=>nD p.1) (ms.map fun p=>nD p.2) (nD k)=(yu ms k).map nD
 |[]=>rfl
 |p::r=>by
  have ih:=zav k r;unfold dget yR at ih⊢;rw[List.map_cons,List.map_cons,List.findIdx?_cons,zau,wS];by_cases h:p.1=k
  ·simp[h]
  ·rw[if_neg h,<-ih]
   simp only[h,decide_false,Bool.false_eq_true,if_false];cases (List.findIdx? (fun x=>zN x (nD k)) (r.map fun p=>nD p.1))<;>simp
theorem zeQ(k:Nat): ∀ms:Mi,(yR (ms.map fun p=>nD p.1) (nD k)).isSome=(yu ms k).isSome
 |[]=>rfl
 |p::r=>by
  have ih:=zeQ k r;unfold yR at ih⊢;rw[List.map_cons,List.findIdx?_cons,zau,wS];by_cases h:p.1=k
  ·simp[h]
  ·rw[if_neg h,<-ih]
   simp only[h,decide_false,Bool.false_eq_true,if_false];cases (List.findIdx? (fun x=>zN x (nD k)) (r.map fun p=>nD p.1))<;>simp
theorem zeR{k v:Nat}{ms:Mi}(h:yu ms k=some v):zg .idx [dI ms,nD k]=some (.val (nD v)):=by
 show jF [dI ms,nD k]=_;unfold dI jF;dsimp only;rw[if_pos (show yK false (nD k)=true from rfl),zav,h];rfl
theorem zeS{k:Nat}{ms:Mi}:zg .dget [dI ms,nD k,.int 0]=some (.val (nD ((yu ms k).getD 0))):=by
 show XB [dI ms,nD k,.int 0]=_
 have e:XB [dI ms,nD k,.int 0]=match dget (ms.map fun p=>nD p.1) (ms.map fun p=>nD p.2) (nD k) with
   |some (.int v)=>yo v
   |none=>yo 0
   |_=>none:=rfl
 rw[e,zav]
 cases yu ms k with
 |none=>rfl
 |some v=>rfl
theorem zoJ{ms:Mi}{k v:Nat}:xo false (ms.map fun p=>nD p.1) (ms.map fun p=>nD p.2) (nD k) (nD v)=dI (vV ms k v):=by
 unfold xo vV;rw[zeQ];split
 ·unfold dI
  congr 1
  ·rw[List.map_map]
   apply List.map_congr_left;intro p _;dsimp only[Function.comp];split<;>rfl
  ·rename_i hh
   clear hh
   induction ms with
   |nil=>rfl
   |cons p r ih=>
    simp only[List.map_cons,List.zipWith_cons_cons,ih,zau]
    congr 1
    by_cases h:p.1=k<;>simp[h]
 ·rw[dI,List.map_append,List.map_append]
  rfl
theorem ku{ms:Mi}{k v x:Nat}:yu (vV ms k v) x=if x=k then some v else yu ms x:=by
 unfold vV;by_cases h:(yu ms k).isSome=true
 ·rw[if_pos h]
  induction ms with
  |nil=>cases h
  |cons p r ih=>
   rw[List.map_cons,wS,wS];rw[wS] at h;by_cases e:p.1=k
   ·rw[if_pos e]
    dsimp only;by_cases ex:x=k
    ·rw[if_pos (by rw[e,ex]),if_pos ex]
    ·rw[if_neg (by rw[e];exact fun z=>ex z.symm),if_neg ex,if_neg (by rw[e];exact fun z=>ex z.symm)]
     clear ih h
     induction r with
     |nil=>rfl
     |cons q r ih=>
      rw[List.map_cons,wS,wS,ih];by_cases e2:q.1=k
      ·rw[if_pos e2,if_neg (by dsimp only;rw[e2];exact fun z=>ex z.symm),if_neg (by rw[e2];exact fun z=>ex z.symm)]
      ·rw[if_neg e2]
   ·rw[if_neg e] at h
    rw[if_neg e,ih h];by_cases ex:x=k
    ·rw[if_pos ex,if_pos ex,if_neg (by rw[ex];exact e)]
    ·rw[if_neg ex,if_neg ex]
 ·rw[if_neg h]
  have hn:yu ms k=none:=by simpa using h
  induction ms with
  |nil=>
   show yu [(k,v)] x=_;rw[wS];by_cases e:x=k
   ·rw[if_pos e,if_pos e.symm]
   ·rw[if_neg e,if_neg fun z=>e z.symm]
  |cons p r ih=>
   rw[wS] at hn;by_cases hp:p.1=k
   ·rw[if_pos hp] at hn;cases hn
   ·rw[if_neg hp] at hn
    rw[List.cons_append,wS,wS,ih (by rw[hn];simp) hn];by_cases e:p.1=x
    ·rw[if_pos e,if_pos e,if_neg (fun z=>hp (e.trans z))]
    ·rw[if_neg e,if_neg e]
theorem zeT{ms:Mi}{k v:Nat}(h:(ms.map (·.1)).Nodup):((vV ms k v).map (·.1)).Nodup:=by
 unfold vV;by_cases e:(yu ms k).isSome=true
 ·rw[if_pos e,List.map_map]
  have:(fun p:Nat×Nat=>p.1)∘(fun p:Nat×Nat=>if p.1=k then (p.1,v) else p)=fun p=>p.1:=by
   funext p
   dsimp only[Function.comp];split<;>rfl
  rw[this];exact h
 ·rw[if_neg e,List.map_append,List.nodup_append]
  refine⟨h,by simp,fun a ha b hb eab=>?_⟩;simp at hb;subst hb;subst eab;rw[zeP] at e;exact e (by simpa using ha)
theorem zaw{ms:Mi}(h:(ms.map (·.1)).Nodup){k v:Nat}:(k,v)∈ms↔yu ms k=some v:=by
 induction ms with
 |nil=>constructor<;>(intro z;cases z)
 |cons p r ih=>
  rw[List.map_cons,List.nodup_cons] at h;rw[wS,List.mem_cons];by_cases e:p.1=k
  ·rw[if_pos e]
   constructor
   ·rintro (z|z)
    ·rw[<-z]
    ·exact KC (List.mem_map.mpr ⟨_,z,rfl⟩) (by rw[<-e];exact h.1)
   ·intro z
    cases z;exact .inl (by rw[<-e])
  ·rw[if_neg e,<-ih h.2]
   constructor
   ·rintro (z|z)
    ·rw[<-z] at e;exact KC rfl e
    ·exact z
   ·exact .inr
theorem zeU{ρ:Env}{i:Nat}{ms:Mi}{k v:Nat}(hl:ms.length<line):
  jm ρ i (some (.val (nD k))) (some (.val (nD v))) (some (some (.obj true (dI ms))))=some (.nx,ρ.set i (some (.obj true (dI (vV ms k v))))):=by
 rw[dI,zdU];simp only[Option.bind_some,ZC,List.length_map,hl,decide_true,Bool.and_self,zoJ];rfl
theorem YS{n:Nat}(h:n<64):zg .shl [.int 1,nD n]=some (.val (nD (2 ^ n))):=by
 show Xw [.int 1,nD n]=_;unfold Xw nD;dsimp only;rw[if_pos (by omega)];simp[yo]
theorem Jk{a b:Nat}:zg .band [nD a,nD b]=some (.val (nD (a&&& b))):=by
 show Xx [nD a,nD b]=_;unfold Xx nD;dsimp only;rw[if_pos (by omega)];rfl
theorem zeV{a b:Nat}:zg .bor [nD a,nD b]=some (.val (nD (a|||b))):=by
 show Xy [nD a,nD b]=_;unfold Xy nD;dsimp only;rw[if_pos (by omega)];rfl
theorem zoK{a b:Nat}:zg .bxor [nD a,nD b]=some (.val (nD (a ^^^ b))):=by
 show Xz [nD a,nD b]=_;unfold Xz nD;dsimp only;rw[if_pos (by omega)];rfl
theorem zoL{a:Nat}:zg .blen [nD a]=some (.val (nD (vt a))):=by
 show XA [nD a]=_;unfold XA nD;dsimp only;rw[if_pos (by omega)];rfl
theorem zax{a:Nat}:zg .ne [nD a,.int 0]=some (.val (.bl (decide (a≠0)))):=by
 rw[zaa rfl rfl];unfold nD;rw[zN]
 congr 3
 rw[Bool.eq_iff_iff];simp
theorem zeW{a:Nat}:zg .eq [nD a,.int 0]=some (.val (.bl (decide (a=0)))):=by
 rw[QS rfl rfl];unfold nD;rw[zN]
 congr 3
 rw[Bool.eq_iff_iff];simp
theorem zeX{N:Nat}(h:N<=1000):yw true [.val (nD N)]=some ((List.range N).map nD):=by
 rw[nD,zaf (ZE (by omega) (by omega))];simp only[Int.toNat_natCast,Int.zero_add];rfl
theorem Jl{a b:Nat}:(a&&& b)≠0↔∃p,a.testBit p=true/\b.testBit p=true:=by
 constructor
 ·intro h
  obtain⟨p,hp⟩:=Nat.exists_testBit_of_ne_zero h;rw[Nat.testBit_and,Bool.and_eq_true] at hp;exact⟨p,hp⟩
 ·rintro⟨p,h1,h2⟩ z
  have:(a&&& b).testBit p=true:=by rw[Nat.testBit_and,h1,h2];rfl
  rw[z] at this;simp at this
theorem kw{a p:Nat}:(a&&& 2 ^ p)=0↔a.testBit p=false:=by
 constructor
 ·intro h
  have:(a&&& 2 ^ p).testBit p=false:=by rw[h];simp
  rw[Nat.testBit_and,Nat.testBit_two_pow_self,Bool.and_true] at this;exact this
 ·intro h
  apply Nat.eq_of_testBit_eq;intro i;rw[Nat.testBit_and,Nat.zero_testBit];by_cases e:p=i
  ·subst e;rw[h];rfl
  ·rw[Nat.testBit_two_pow_of_ne e,Bool.and_false]
noncomputable def xm:List Nat->Nat
 |[]=>0
 |p::r=>xm r|||2 ^ p
theorem vz{i:Nat}: ∀{L:List Nat},(xm L).testBit i=true↔i∈L
 |[]=>by simp[xm]
 |p::r=>by
  rw[xm,Nat.testBit_or,Bool.or_eq_true,vz,List.mem_cons];constructor
  ·rintro (z|z)
   ·exact .inr z
   ·by_cases e:p=i
    ·exact .inl e.symm
    ·rw[Nat.testBit_two_pow_of_ne e] at z;cases z
  ·rintro (z|z)
   ·subst z;exact .inr Nat.testBit_two_pow_self
   ·exact .inl z
theorem zeY{N:Nat}: ∀{L:List Nat},(∀p∈L,p<N)->xm L<2 ^ N
 |[],_=>Nat.two_pow_pos N
 |p::r,h=>Nat.or_lt_two_pow (zeY fun q hq=>h q (Kf _ hq)) (Nat.pow_lt_pow_right (by decide) (h p Ke))
theorem zoM{p:Nat}{L:List Nat}(h:p∉L):xm (p::L) ^^^ 2 ^ p=xm L:=by
 apply Nat.eq_of_testBit_eq;intro i;rw[xm,Nat.testBit_xor,Nat.testBit_or];by_cases e:p=i
 ·subst e
  have:(xm L).testBit p=false:=by
   rw[Bool.eq_false_iff];exact fun z=>h (vz.mp z)
  rw[Nat.testBit_two_pow_self,this];rfl
 ·rw[Nat.testBit_two_pow_of_ne e];simp
theorem zay{N i:Nat}:(2 ^ N-1).testBit i=decide (i<N):=Nat.testBit_two_pow_sub_one N i
theorem zoN{a:Nat}(h:a≠0):a.testBit (vt a-1)=true:=by
 unfold vt;rw[if_neg h,Nat.add_sub_cancel];exact Nat.testBit_log2 h
end LK
namespace LK
open L2.LW
section
variable {N:Nat} {nm:Nat->Nat} {st:Nat}
inductive Pth (N:Nat)(nm:Nat->Nat)(st:Nat):List Nat->Prop where
 |one {p:Nat} (h:p<N) (s:st.testBit p=true):Pth N nm st [p]
 |more {q p:Nat} {L:List Nat} (h:Pth N nm st (p::L)) (lt:q<N) (new:q∉p::L) (nr:(nm q).testBit p=true):Pth N nm st (q::p::L)
theorem Pth.lt{L:List Nat}(h:Pth N nm st L): ∀p∈L,p<N:=by
 induction h with
 |one h s=>intro p hp;rw[List.mem_singleton] at hp;rw[hp];exact h
 |more h lt new nr ih=>
  intro p hp;rcases List.mem_cons.mp hp with rfl|hp
  ·exact lt
  ·exact ih p hp
theorem Pth.nd{L:List Nat}(h:Pth N nm st L):L.Nodup:=by
 induction h with
 |one h s=>simp
 |more h lt new nr ih=>exact List.nodup_cons.mpr ⟨new,ih⟩
structure Lay (N:Nat)(nm:Nat->Nat)(st:Nat)(j:Nat)(ms:Mi):Prop where
 nd:(ms.map (·.1)).Nodup
 lt: ∀v e,yu ms v=some e->v<2 ^ N/\e<2 ^ N
 is: ∀v p,(∃e,yu ms v=some e/\e.testBit p=true)↔∃L,Pth N nm st (p::L)/\L.length=j/\xm (p::L)=v
theorem zeZ{ms:Mi}(nd:(ms.map (·.1)).Nodup)(lt: ∀v e,yu ms v=some e->v<2 ^ N)(hN:N<=16):ms.length<=65536:=by
 have:=wy (l:=ms.map (·.1)) (m:=List.range (2 ^ N)) nd fun x hx=>by
  obtain⟨p,hp,rfl⟩:=List.mem_map.mp hx;exact List.mem_range.mpr (lt p.1 p.2 ((zaw nd).mp hp))
 rw[List.length_map,List.length_range] at this;exact Kg this (KJ (by decide) hN)
noncomputable def Zb(N st:Nat)(ms:Mi)(s3:Option SV):Env:=[some (.val (nD N)),some (.val (nD st)),some (.obj true (dI ms)),s3]
theorem zoO(n:Nat)(hN:N<=16): ∃ms,Lay N nm st 0 ms/\zv U zh (n+1) 63 [nD N,nD st]=some (.obj true (dI ms)):=by
 have hl':=yD
 obtain⟨ρ',e,ms,s3,rfl,q1,q2,q3⟩:=zac (i:=3) (body:=zp (zD U zh n) zh ka)
  (fun k ρ=>∃ms s3,ρ=Zb N st ms s3/\(ms.map (·.1)).Nodup/\(∀v e,yu ms v=some e->v<2 ^ N/\e<2 ^ N)/\∀v p,(∃e,yu ms v=some e/\e.testBit p=true)↔p<k/\st.testBit p=true/\v=2 ^ p)
  (f:=nD) (xs:=List.range N) (ρ:=Zb N st [] none) ⟨[],none,rfl,by simp,fun v e h=>(by cases h),fun v p=>by
   constructor
   ·rintro⟨e,h,_⟩;cases h
   ·rintro⟨h,_⟩;omega⟩
  fun k ρ hk zz=>by
   obtain⟨ms,s3,eρ,q1,q2,q3⟩:=zz;subst eρ;rw[List.length_range] at hk;rw[List.getElem_range];have sh:=YS (n:=k) (by omega);have bd:=Jk (a:=st) (b:=2 ^ k);have kl:=zeZ q1 (fun v e h=>(q2 v e h).1) hN;have pl:(2:Nat) ^ k<2 ^ N:=Nat.pow_lt_pow_right (by decide) hk;by_cases hb:st.testBit k=true
   ·have hz:(st&&& 2 ^ k)≠0:=fun z=>by rw[kw.mp z] at hb;cases hb
    have ne:=zax (a:=st&&& 2 ^ k);rw[decide_eq_true hz] at ne;refine⟨.nx,Zb N st (vV ms (2 ^ k) (2 ^ k)) (some (.val (nD k))),?_,.inl rfl,_,_,rfl,zeT q1,fun v e h=>?_,fun v p=>?_⟩
    ·simp only[ka,Zb]
     simp[sh,bd,ne];rw[zeU (by omega)];simp
    ·rw[ku] at h
     split at h
     ·rename_i z;cases h;rw[z];exact⟨pl,pl⟩
     ·exact q2 v e h
    ·rw[ku]
     by_cases ev:v=2 ^ k
     ·rw[if_pos ev]
      constructor
      ·rintro⟨e,h,h2⟩
       cases h
       have:p=k:=by
        by_cases z:k=p
        ·exact z.symm
        ·rw[Nat.testBit_two_pow_of_ne z] at h2;cases h2
       subst this;exact⟨by omega,hb,ev⟩
      ·rintro⟨h1,h2,h3⟩
       have:p=k:=(Nat.pow_right_inj (by decide:1<2)).mp (h3.symm.trans ev);subst this;exact⟨_,rfl,Nat.testBit_two_pow_self⟩
     ·rw[if_neg ev,q3 v p]
      constructor
      ·rintro⟨h1,h2,h3⟩;exact⟨by omega,h2,h3⟩
      ·rintro⟨h1,h2,h3⟩
       refine⟨?_,h2,h3⟩;by_cases z:p=k
       ·subst z;exact KC h3 ev
       ·omega
   ·have hb':st.testBit k=false:=by simpa using hb
    have hz:=kw.mpr hb';have ne:=zax (a:=st&&& 2 ^ k);rw[KH (fun z=>z hz)] at ne;refine⟨.nx,Zb N st ms (some (.val (nD k))),?_,.inl rfl,_,_,rfl,q1,q2,fun v p=>?_⟩
    ·simp only[ka,Zb]
     simp[sh,bd,ne]
    ·rw[q3 v p]
     constructor
     ·rintro⟨h1,h2,h3⟩;exact⟨by omega,h2,h3⟩
     ·rintro⟨h1,h2,h3⟩
      refine⟨?_,h2,h3⟩;by_cases z:p=k
      ·subst z;rw[hb'] at h2;cases h2
      ·omega
 rw[List.length_range] at q3;refine⟨ms,⟨q1,q2,fun v p=>?_⟩,?_⟩
 ·rw[q3 v p]
  constructor
  ·rintro⟨h1,h2,h3⟩
   exact⟨[],.one h1 h2,rfl,by rw[h3];simp[xm]⟩
  ·rintro⟨L,h1,h2,h3⟩
   have:L=[]:=List.eq_nil_of_length_eq_zero h2;subst this
   cases h1 with
   |one h s=>exact⟨h,s,by rw[<-h3];simp[xm]⟩
 ·rw[yj znu rfl]
  have it:=zeX (N:=N) (by omega);simp -implicitDefEqProofs only[VU];simp -implicitDefEqProofs [jn,it];rw[show D.dct false [] []=dI [] from rfl,<-Zb,e];simp -implicitDefEqProofs [Zb]
end
end LK
namespace LK
open L2.LW
theorem zaz{α:Type}{g:α->D}{i:Nat}{body:Env->Option (Fl×Env)}(I:List α->Env->Prop){xs:List α}{ρ:Env}(h0:I [] ρ)
  (st: ∀pre x post ρ,xs=pre++x::post->I pre ρ->∃fl ρ',body (ρ.set i (some (.val (g x))))=some (fl,ρ')/\(fl= .nx\/fl= .ct)/\I (pre++[x]) ρ'):
  ∃ρ',yx i body (xs.map g) ρ=some (.nx,ρ')/\I xs ρ':=by
 have key: ∀(post pre:List α) (ρ:Env),xs=pre++post->I pre ρ->∃ρ',yx i body (post.map g) ρ=some (.nx,ρ')/\I xs ρ':=by
  intro post
  induction post with
  |nil=>intro pre ρ e h;exact⟨ρ,rfl,by rw[e];simpa using h⟩
  |cons x post ih=>
   intro pre ρ e h;obtain⟨fl,ρ1,e1,e2,h1⟩:=st pre x post ρ e h;obtain⟨ρ',e3,h3⟩:=ih (pre++[x]) ρ1 (by simp[e]) h1;refine⟨ρ',?_,h3⟩;rw[List.map_cons,yx,e1];simp only[Option.bind_some];rcases e2 with rfl|rfl<;>exact e3
 exact key xs [] ρ rfl h0
section
variable {N:Nat} {ns:List Nat} {st:Nat}
noncomputable def jv(lg:Mi)(u p:Nat):Prop:=∃e,yu lg u=some e/\e.testBit p=true
noncomputable def YT(N:Nat)(lg:Mi):Prop:=(lg.map (·.1)).Nodup/\∀v e,yu lg v=some e->v<2 ^ N/\e<2 ^ N
noncomputable def Jm(ns:List Nat)(ms:Mi)(v q:Nat):Prop:=v.testBit q=false/\∃e0,yu ms v=some e0/\(e0&&& ns.getD q 0)≠0
noncomputable def xI(ns:List Nat)(ms lg:Mi)(s3 s4 s5:Option SV):Env:=[some (.val (.lst (ns.map nD))),some (.val (dI ms)),some (.obj true (dI lg)),s3,s4,s5]
theorem zaA{ns:List Nat}{q:Nat}(h:q<ns.length):zg .idx [.lst (ns.map nD),nD q]=some (.val (nD (ns.getD q 0))):=by
 show jF [.lst (ns.map nD),.int (q:Int)]=_;unfold jF;dsimp only;rw[atI_nat (by simpa using h)];simp[List.getD,h]
theorem zoP{ρ:Env}{i:Nat}{ms:Mi}{k v:Nat}(hl:ms.length<line):
  jm ρ i (some (.val (nD k))) (some (.val (nD v))) (some (some (.obj true (dI ms))))=some (.nx,ρ.set i (some (.obj true (dI (vV ms k v))))):=zeU hl
theorem zoQ(n:Nat)(hN:N<=16)(hns:ns.length=N){ms lg:Mi}{v e0 q:Nat}{s5:Option SV}(hv:yu ms v=some e0)(vlt:v<2 ^ N)(hq:q<N)(wl:YT N lg)(h5:zC (some s5)=true):
  ∃lg' s5',zp (zD U zh n) zh YJ (xI ns ms lg (some (.val (nD v))) (some (.val (nD q))) s5)=some (.nx,xI ns ms lg' (some (.val (nD v))) (some (.val (nD q))) s5')/\YT N lg'/\zC (some s5')=true/\
   ∀u p,jv lg' u p↔jv lg u p\/(Jm ns ms v q/\u=v|||2 ^ q/\p=q):=by
 have hl':=yD;have sh:=YS (n:=q) (by omega);have b1:=Jk (a:=v) (b:=2 ^ q);obtain⟨g,hg⟩: ∃g,ns.getD q 0=g:=⟨_,rfl⟩;obtain⟨y,hy⟩: ∃y,(yu lg (v|||2 ^ q)).getD 0=y:=⟨_,rfl⟩;have b2:=Jk (a:=e0) (b:=g);have b3:=zeV (a:=v) (b:=2 ^ q);have b4:=zeS (k:=v|||2 ^ q) (ms:=lg);rw[hy] at b4;have b5:=zeV (a:=y) (b:=2 ^ q);have i1:=zeR hv;have i2:=zaA (ns:=ns) (q:=q) (by omega);rw[hg] at i2;have kl:=zeZ wl.1 (fun v e h=>(wl.2 v e h).1) hN;have pl:(2:Nat) ^ q<2 ^ N:=Nat.pow_lt_pow_right (by decide) hq;have z1:=zeW (a:=v&&& 2 ^ q);have z2:=zax (a:=e0&&& g);have st:=zoP (ρ:=xI ns ms lg (some (.val (nD v))) (some (.val (nD q))) (some (.val (nD (2 ^ q))))) (i:=2) (ms:=lg) (k:=v|||2 ^ q) (v:=y|||2 ^ q) (by omega);by_cases c1:v.testBit q=true
 ·have hz: ¬(v&&& 2 ^ q)=0:=fun z=>by rw[kw.mp z] at c1;cases c1
  rw[KH hz] at z1;refine⟨lg,some (.val (nD (2 ^ q))),?_,wl,yY,fun u p=>?_⟩
  ·simp only[YJ,xI]
   simp[sh,b1,z1,h5]
  ·constructor
   ·exact .inl
   ·rintro (z|⟨z,_⟩)
    ·exact z
    ·rw[z.1] at c1;cases c1
 ·have c1':v.testBit q=false:=by simpa using c1
  rw[decide_eq_true (kw.mpr c1')] at z1;by_cases c2:(e0&&& g)=0
  ·rw[KH (fun z=>z c2)] at z2
   refine⟨lg,some (.val (nD (2 ^ q))),?_,wl,yY,fun u p=>?_⟩
   ·simp only[YJ,xI]
    simp[sh,b1,z1,h5,i1,i2,b2,z2]
   ·constructor
    ·exact .inl
    ·rintro (z|⟨⟨_,e1,h1,h2⟩,_⟩)
     ·exact z
     ·rw[hv] at h1;cases h1;rw[hg] at h2;exact KC c2 h2
  ·rw[decide_eq_true c2] at z2
   refine⟨vV lg (v|||2 ^ q) (y|||2 ^ q),some (.val (nD (2 ^ q))),?_,⟨zeT wl.1,fun u e h=>?_⟩,yY,fun u p=>?_⟩
   ·unfold xI at st
    simp only[YJ,xI];simp[sh,b1,z1,h5,i1,i2,b2,z2,b3,b4,b5];rw[st];simp
   ·rw[ku] at h
    split at h
    ·rename_i z
     cases h;rw[z];refine⟨Nat.or_lt_two_pow vlt pl,Nat.or_lt_two_pow ?_ pl⟩;rw[<-hy]
     cases hh:yu lg (v|||2 ^ q) with
     |none=>exact Nat.two_pow_pos N
     |some e=>exact (wl.2 _ _ hh).2
    ·exact wl.2 u e h
   ·have ok:Jm ns ms v q:=⟨c1',e0,hv,by rw[hg];exact c2⟩
    unfold jv;rw[ku];by_cases eu:u=v|||2 ^ q
    ·rw[if_pos eu]
     constructor
     ·rintro⟨e,h1,h2⟩
      cases h1;rw[Nat.testBit_or,Bool.or_eq_true] at h2;rcases h2 with h2|h2
      ·left
       rw[eu];rw[<-hy] at h2
       cases hh:yu lg (v|||2 ^ q) with
       |none=>rw[hh] at h2;simp at h2
       |some e=>rw[hh] at h2;exact⟨e,rfl,h2⟩
      ·right
       refine⟨ok,eu,?_⟩;by_cases z:q=p
       ·exact z.symm
       ·rw[Nat.testBit_two_pow_of_ne z] at h2;cases h2
     ·rintro (⟨e,h1,h2⟩|⟨_,_,h3⟩)
      ·rw[eu] at h1
       refine⟨_,rfl,?_⟩;rw[<-hy,h1,Nat.testBit_or];show (e.testBit p||_)=true;rw[h2];rfl
      ·refine⟨_,rfl,?_⟩
       rw[Nat.testBit_or,h3,Nat.testBit_two_pow_self,Bool.or_true]
    ·rw[if_neg eu]
     constructor
     ·exact .inl
     ·rintro (z|⟨_,z,_⟩)
      ·exact z
      ·exact KC z eu
theorem zoR(n:Nat)(hN:N<=16)(hns:ns.length=N){ms lg:Mi}{v e0:Nat}{s4 s5:Option SV}(hv:yu ms v=some e0)(vlt:v<2 ^ N)(wl:YT N lg)(h4:zC (some s4)=true)(h5:zC (some s5)=true):
  ∃lg' s4' s5',zp (zD U zh n) zh kb (xI ns ms lg (some (.val (nD v))) s4 s5)=some (.nx,xI ns ms lg' (some (.val (nD v))) s4' s5')/\YT N lg'/\(zC (some s4')=true/\zC (some s5')=true)/\
   ∀u p,jv lg' u p↔jv lg u p\/(p<N/\Jm ns ms v p/\u=v|||2 ^ p):=by
 obtain⟨ρ',e,lg',s4',s5',rfl,q1,q2,q3,q4⟩:=zac (i:=4) (body:=zp (zD U zh n) zh YJ)
  (fun k ρ=>∃lg' s4' s5',ρ=xI ns ms lg' (some (.val (nD v))) s4' s5'/\YT N lg'/\zC (some s4')=true/\zC (some s5')=true/\∀u p,jv lg' u p↔jv lg u p\/(p<k/\Jm ns ms v p/\u=v|||2 ^ p))
  (f:=nD) (xs:=List.range N) (ρ:=xI ns ms lg (some (.val (nD v))) s4 s5) ⟨lg,s4,s5,rfl,wl,h4,h5,fun u p=>by
   constructor
   ·exact .inl
   ·rintro (z|⟨z,_⟩)
    ·exact z
    ·omega⟩
  fun k ρ hk zz=>by
   obtain⟨lg',s4',s5',eρ,q1,q2,q3,q4⟩:=zz;subst eρ;rw[List.length_range] at hk;rw[List.getElem_range];obtain⟨lg2,s52,e2,w2,f2,h2⟩:=zoQ n hN hns (s5:=s5') hv vlt hk q1 q3;refine⟨_,_,e2,.inl rfl,lg2,_,s52,rfl,w2,yY,f2,fun u p=>?_⟩;rw[h2 u p,q4 u p];constructor
   ·rintro ((z|⟨z1,z2,z3⟩)|⟨z1,z2,z3⟩)
    ·exact .inl z
    ·exact .inr ⟨by omega,z2,z3⟩
    ·exact .inr ⟨by omega,by rw[z3];exact z1,by rw[z3];exact z2⟩
   ·rintro (z|⟨z1,z2,z3⟩)
    ·exact .inl (.inl z)
    ·by_cases ep:p=k
     ·subst ep;exact .inr ⟨z2,z3,rfl⟩
     ·exact .inl (.inr ⟨by omega,z2,z3⟩)
 rw[List.length_range] at q4;refine⟨lg',s4',s5',?_,q1,⟨q2,q3⟩,q4⟩;have it:=zeX (N:=N) (by omega)
 have ln:zg .len [.lst (ns.map nD)]=some (.val (nD N)):=by
  show yo ((ns.map nD).length:Nat)=_;rw[List.length_map,hns];rfl
 simp -implicitDefEqProofs only[kb,YC,jn];simp -implicitDefEqProofs [xI,ln,it,h4];rw[<-xI,e];simp -implicitDefEqProofs [xI]
theorem zoS(n:Nat)(hN:N<=16)(hns:ns.length=N){j:Nat}{ms:Mi}(hm:Lay N (fun q=>ns.getD q 0) st j ms):
  ∃lg,Lay N (fun q=>ns.getD q 0) st (j+1) lg/\zv U zh (n+1) 64 [.lst (ns.map nD),dI ms]=some (.obj true (dI lg)):=by
 obtain⟨ρ',e,lg,s3,s4,s5,rfl,q1,q2,q3⟩:=zaz (g:=fun p:Nat×Nat=>nD p.1) (i:=3) (body:=zp (zD U zh n) zh kb)
  (fun pre ρ=>∃lg s3 s4 s5,ρ=xI ns ms lg s3 s4 s5/\YT N lg/\(zC (some s3)=true/\zC (some s4)=true/\zC (some s5)=true)/\∀u p,jv lg u p↔∃x∈pre,p<N/\Jm ns ms x.1 p/\u=x.1|||2 ^ p)
  (xs:=ms) (ρ:=xI ns ms [] none none none) ⟨[],none,none,none,rfl,⟨by simp,fun v e h=>(by cases h)⟩,⟨rfl,rfl,rfl⟩,fun u p=>by
   constructor
   ·rintro⟨e,h,_⟩;cases h
   ·rintro⟨x,h,_⟩;cases h⟩
  fun pre x post ρ e zz=>by
   obtain⟨lg,s3,s4,s5,eρ,q1,⟨f3,f4,f5⟩,q3⟩:=zz;subst eρ;have hx:x∈ms:=by rw[e];simp
   have hg:=(zaw hm.nd).mp (show (x.1,x.2)∈ms from hx);obtain⟨lg2,s42,s52,e2,w2,⟨g4,g5⟩,h2⟩:=zoR n hN hns (s4:=s4) (s5:=s5) hg (hm.lt _ _ hg).1 q1 f4 f5;refine⟨_,_,e2,.inl rfl,lg2,_,s42,s52,rfl,w2,⟨yY,g4,g5⟩,fun u p=>?_⟩;rw[h2 u p,q3 u p];constructor
   ·rintro (⟨y,hy,z⟩|z)
    ·exact⟨y,Kp _ hy,z⟩
    ·exact⟨x,Ko _ (List.mem_singleton.mpr rfl),z⟩
   ·rintro⟨y,hy,z⟩
    rcases List.mem_append.mp hy with hy|hy
    ·exact .inl ⟨y,hy,z⟩
    ·rw[List.mem_singleton] at hy
     subst hy;exact .inr z
 refine⟨lg,⟨q1.1,q1.2,fun u p=>?_⟩,?_⟩
 ·show jv lg u p↔_
  rw[q3 u p];constructor
  ·rintro⟨x,hx,hp,⟨h1,e0,h2,h3⟩,h4⟩
   obtain⟨r,r1,r2⟩:=Jl.mp h3;obtain⟨L,l1,l2,l3⟩:=(hm.is x.1 r).mp ⟨e0,h2,r1⟩;refine⟨r::L,.more l1 hp (fun z=>?_) r2,by simp[l2],?_⟩
   ·rw[<-l3] at h1
    rw[vz.mpr z] at h1;cases h1
   ·rw[h4,<-l3,xm]
  ·rintro⟨L,l1,l2,l3⟩
   cases l1 with
   |one h s=>simp at l2
   |more h lt new nr=>
    rename_i r L;obtain⟨e0,h2,r1⟩:=(hm.is (xm (r::L)) r).mpr ⟨L,h,by simpa using l2,rfl⟩;refine⟨(xm (r::L),e0),(zaw hm.nd).mpr h2,lt,⟨?_,e0,h2,Jl.mpr ⟨r,r1,nr⟩⟩,?_⟩
    ·rw[Bool.eq_false_iff]
     exact fun z=>new (vz.mp z)
    ·rw[<-l3,xm]
 ·rw[yj znv rfl]
  have ky: ∀lg s3 s4 s5,XF (xI ns ms lg s3 s4 s5) 1=some (ms.map fun p=>nD p.1):=fun _ _ _ _=>rfl
  simp -implicitDefEqProofs only[VV];simp -implicitDefEqProofs [zmU];rw[show D.dct false [] []=dI [] from rfl,<-xI,ky];simp -implicitDefEqProofs only[Option.bind_some];rw[e];simp -implicitDefEqProofs [xI]
end
end LK
namespace LK
open L2.LW
section
variable {N:Nat} {ns:List Nat} {st:Nat}
theorem ze0{ls:List Mi}{x:Mi}(h:ls.getLast? =some x):zg .idx [.lst (ls.map dI),.int (-1)]=some (.val (dI x)):=by
 rw[List.getLast?_eq_getElem?,List.getElem?_eq_some_iff] at h;obtain⟨h1,h2⟩:=h;rw[YF];unfold atI ixN;have hp:0<ls.length:=by omega
 rw[if_neg (by omega),if_pos (by rw[List.length_map];omega)];simp only[Option.bind_some];rw[show (-1+((ls.map dI).length:Int)).toNat=ls.length-1 by rw[List.length_map];omega];rw[List.getElem?_map,List.getElem?_eq_getElem h1,h2];rfl
noncomputable def wT(ns:List Nat)(st:Nat)(ls:List Mi):Env:=[some (.val (.lst (ns.map nD))),some (.val (nD st)),some (.obj true (.lst (ls.map dI)))]
noncomputable def zaB(N:Nat)(ns:List Nat)(st:Nat)(ls:List Mi):Prop:=∀j (h:j<ls.length),Lay N (fun q=>ns.getD q 0) st j ls[j]
theorem zoT(n:Nat)(hN:N<=16)(h1:1<=N)(hns:ns.length=N): ∃ls,ls.length=N/\zaB N ns st ls/\zv U zh (n+2) 65 [.lst (ns.map nD),nD st]=some (.obj true (.lst (ls.map dI))):=by
 have hl':=yD;obtain⟨m0,L0,c0⟩:=zoO (nm:=fun q=>ns.getD q 0) (st:=st) n hN
 have ln:zg .len [.lst (ns.map nD)]=some (.val (nD N)):=by
  show yo ((ns.map nD).length:Nat)=_;rw[List.length_map,hns];rfl
 obtain⟨ρ',e,ls,rfl,q1,q2⟩:=QT (test:=zB (zv U zh (n+1)) (.prim .lt (.cons (.prim .len (.cons (.var 2) .nil)) (.cons (.prim .len (.cons (.var 0) .nil)) .nil)))) (body:=zp (zD U zh (n+1)) zh zad)
  (fun m ρ=>∃ls,ρ=wT ns st ls/\(0<ls.length/\ls.length<=N/\zaB N ns st ls)/\m=N-ls.length)
  (fun ρ=>∃ls,ρ=wT ns st ls/\ls.length=N/\zaB N ns st ls)
  (m:=N-1) (n:=zh) (ρ:=wT ns st [m0]) (by unfold zh;omega)
  ⟨[m0],rfl,⟨by simp,by simpa using h1,fun j h=>by
   have:j=0:=by simpa using h
   subst this;exact L0⟩,by simp⟩
  fun m ρ zz=>by
   obtain⟨ls,eρ,⟨q1,q2,q3⟩,rfl⟩:=zz;subst eρ
   have lt:zg .lt [.int ((ls.map dI).length:Nat),nD N]=some (.val (.bl (decide (ls.length<N)))):=by
    rw[List.length_map];have z:decide ((ls.length:Int)<(N:Int))=decide (ls.length<N):=by rw[decide_eq_decide];omega
    rw[<-z];rfl
   have ht:zB (zv U zh (n+1)) (.prim .lt (.cons (.prim .len (.cons (.var 2) .nil)) (.cons (.prim .len (.cons (.var 0) .nil)) .nil))) (wT ns st ls)=some (decide (ls.length<N)):=by
    have ll:zg .len [.lst (ls.map dI)]=some (.val (.int ((ls.map dI).length:Nat))):=rfl;simp -implicitDefEqProofs only[wT,zmP,gW,gU,zmL];simp -implicitDefEqProofs [ln,ll];rw[List.length_map] at lt;rw[lt];simp
   by_cases c:ls.length<N
   ·refine .inr ⟨by rw[ht,decide_eq_true c],?_⟩
    obtain⟨x,hx⟩: ∃x,ls.getLast? =some x:=by
     cases z:ls.getLast? with
     |none=>rw[List.getLast?_eq_none_iff] at z;rw[z] at q1;simp at q1
     |some x=>exact⟨x,rfl⟩
    have hx2:=hx;rw[List.getLast?_eq_getElem?,List.getElem?_eq_some_iff] at hx2;obtain⟨g1,g2⟩:=hx2;have hL:=q3 (ls.length-1) g1;rw[g2] at hL;obtain⟨lg,l1,l2⟩:=zoS n hN hns hL;have la:=ze0 hx;refine⟨.nx,wT ns st (ls++[lg]),N-(ls.length+1),?_,.inl rfl,by omega,ls++[lg],rfl,⟨by simp,by simp;omega,fun j hj=>?_⟩,by simp⟩
    ·have ap:jS (wT ns st ls) 2 (some (.obj true (dI lg))) (some (some (.obj true (.lst (ls.map dI)))))=some (.nx,wT ns st (ls++[lg])):=by
      have:ls.length<line:=by omega
      simp[wT,this]
     unfold wT at ap;simp only[zad,wT];simp -implicitDefEqProofs [la,l2,ap]
    ·rw[List.length_append,List.length_singleton] at hj
     by_cases z:j<ls.length
     ·rw[List.getElem_append_left z];exact q3 j z
     ·have:j=ls.length:=by omega
      subst this;rw[List.getElem_append_right (Nat.le_refl _)];have e1:ls.length-1+1=ls.length:=by omega
      rw[e1] at l1;simpa using l1
   ·exact .inl ⟨by rw[ht,KH c],ls,rfl,by omega,q3⟩
 refine⟨ls,q1,q2,?_⟩;rw[yj znw rfl];simp -implicitDefEqProofs only[VW];simp -implicitDefEqProofs [YB,ln,c0];rw[show [dI m0]=[m0].map dI from rfl,<-wT,e];simp -implicitDefEqProofs [wT]
end
end LK
namespace LK
open L2.LW
section
variable {N:Nat} {ns:List Nat} {st en:Nat} {f:List za}
theorem ze1{L:List Nat}(nd:L.Nodup)(lt: ∀p∈L,p<N)(len:L.length=N): ∀i,i<N->i∈L:=fun i hi=>by
 by_cases z:i∈L
 ·exact z
 ·have:=wy (l:=i::L) (m:=List.range N) (List.nodup_cons.mpr ⟨z,nd⟩) fun x hx=>by
   rw[List.mem_range];rcases List.mem_cons.mp hx with rfl|hx
   ·exact hi
   ·exact lt x hx
  rw[List.length_cons,List.length_range] at this;omega
theorem zoU{L:List Nat}(nd:L.Nodup)(lt: ∀p∈L,p<N)(len:L.length=N):xm L=2 ^ N-1:=by
 apply Nat.eq_of_testBit_eq;intro i;rw[Bool.eq_iff_iff,vz,zay,decide_eq_true_iff];exact⟨lt i,ze1 nd lt len i⟩
structure Run (N:Nat)(ns:List Nat)(st en:Nat)(qs:List Nat):Prop where
 len:qs.length=N
 lt: ∀q∈qs,q<N
 nd:qs.Nodup
 step: ∀i (h:i+1<qs.length),(ns.getD qs[i] 0).testBit qs[i+1]=true
 head: ∀z,qs.head? =some z->en.testBit z=true
 last: ∀z,qs.getLast? =some z->st.testBit z=true
noncomputable def xS(f:List za)(qs:List Nat):List za:=qs.map fun q=>f.getD q (0,0)
structure Bck (N:Nat)(ns:List Nat)(st en:Nat)(qs:List Nat)(v E:Nat):Prop where
 lt: ∀q∈qs,q<N
 nd:qs.Nodup
 off: ∀q∈qs,v.testBit q=false
 step: ∀i (h:i+1<qs.length),(ns.getD qs[i] 0).testBit qs[i+1]=true
 head: ∀z,qs.head? =some z->en.testBit z=true
 e0:qs=[]->E=en
 e1: ∀z,qs.getLast? =some z->E=ns.getD z 0
 more:qs.length<N->∃p L,Pth N (fun q=>ns.getD q 0) st (p::L)/\L.length+1+qs.length=N/\xm (p::L)=v/\E.testBit p=true
 fin:qs.length=N->∀z,qs.getLast? =some z->st.testBit z=true
theorem Bck.turn{qs:List Nat}{v E e q:Nat}{ms:Mi}(b:Bck N ns st en qs v E)(lt:qs.length<N)(hm:Lay N (fun q=>ns.getD q 0) st (N-1-qs.length) ms)(hg:yu ms v=some e)(hq:(e&&& E).testBit q=true):
  Bck N ns st en (qs++[q]) (v ^^^ 2 ^ q) (ns.getD q 0)/\q<N:=by
 rw[Nat.testBit_and,Bool.and_eq_true] at hq;obtain⟨L,h1,h2,h3⟩:=(hm.is v q).mp ⟨e,hg,hq.1⟩;have nd:=h1.nd;rw[List.nodup_cons] at nd;have vq:v.testBit q=true:=by rw[<-h3];exact vz.mpr Ke
 have ev:v ^^^ 2 ^ q=xm L:=by rw[<-h3];exact zoM nd.1
 have hqN:q<N:=h1.lt q Ke;have nq:q∉qs:=fun z=>by rw[b.off q z] at vq;cases vq
 have en_: ∀z,qs.getLast? =some z->(ns.getD z 0).testBit q=true:=fun z hz=>by rw[<-b.e1 z hz];exact hq.2
 refine⟨⟨fun x hx=>?_,?_,fun x hx=>?_,fun i hi=>?_,fun z hz=>?_,fun z=>?_,fun z hz=>?_,fun hl=>?_,fun hl z hz=>?_⟩,hqN⟩
 ·rcases List.mem_append.mp hx with hx|hx
  ·exact b.lt x hx
  ·rw[List.mem_singleton] at hx;rw[hx];exact hqN
 ·rw[List.nodup_append]
  refine⟨b.nd,by simp,fun a ha c hc e=>?_⟩;rw[List.mem_singleton] at hc;rw[hc] at e;rw[e] at ha;exact nq ha
 ·rw[ev,Bool.eq_false_iff]
  intro z;have z:=vz.mp z;rcases List.mem_append.mp hx with hx|hx
  ·have:=b.off x hx
   rw[<-h3,vz.mpr (Kf _ z)] at this;cases this
  ·rw[List.mem_singleton] at hx
   rw[hx] at z;exact nd.1 z
 ·rw[List.length_append,List.length_singleton] at hi
  by_cases c:i+1<qs.length
  ·rw[List.getElem_append_left (by omega),List.getElem_append_left c]
   exact b.step i c
  ·have e1:i+1=qs.length:=by omega
   rw[List.getElem_append_left (by omega),List.getElem_append_right (by omega)]
   have hz:qs.getLast? =some (qs[i]'(by omega)):=by
    rw[List.getLast?_eq_getElem?,List.getElem?_eq_some_iff];exact⟨by omega,by congr 1;omega⟩
   have:=en_ _ hz;simpa using this
 ·cases qs with
  |nil=>
   simp at hz;subst hz;rw[<-b.e0 rfl];exact hq.2
  |cons a r=>exact b.head z (by simpa using hz)
 ·simp at z
 ·simp at hz
  rw[hz]
 ·rw[List.length_append,List.length_singleton] at hl⊢
  cases h1 with
  |one h s=>simp at h2;omega
  |more h lt new nr=>
   rename_i p L;exact⟨p,L,h,by simp at h2;omega,by rw[ev],nr⟩
 ·rw[List.length_append,List.length_singleton] at hl
  have:L=[]:=List.eq_nil_of_length_eq_zero (by omega);subst this;simp at hz;subst hz
  cases h1 with
  |one h s=>exact s
noncomputable def ZL(f:List za)(ns:List Nat)(st E:Nat)(ls:List Mi)(v:Nat)(qs:List Nat)(s7 s8:Option SV):Env:=
 [some (.val (fD f)),some (.val (.lst (ns.map nD))),some (.val (nD st)),some (.val (nD E)),some (.val (.lst (ls.map dI))),some (.val (nD v)),some (.obj true (lD (xS f qs))),s7,s8]
theorem zoV{q:Nat}(h:q<f.length):zg .idx [fD f,nD q]=some (.val (cD (f.getD q (0,0)))):=by
 have:=zag h;rw[show f.getD q (0,0)=f[q] by simp[List.getD,h]];exact this
theorem zoW(n:Nat)(hN:N<=16)(hns:ns.length=N)(hf:f.length=N){ls:List Mi}{qs:List Nat}{v E:Nat}{ms:Mi}{s8:Option SV}(b:Bck N ns st en qs v E)(lt:qs.length<N)(hm:Lay N (fun q=>ns.getD q 0) st (N-1-qs.length) ms)(h8:zC (some s8)=true):
  ∃q,Bck N ns st en (qs++[q]) (v ^^^ 2 ^ q) (ns.getD q 0)/\zp (zD U zh n) zh kc (ZL f ns st E ls v qs (some (.val (dI ms))) s8)=some (.nx,ZL f ns st (ns.getD q 0) ls (v ^^^ 2 ^ q) (qs++[q]) (some (.val (dI ms))) (some (.val (nD q)))):=by
 have hl':=yD;obtain⟨p,L,p1,p2,p3,p4⟩:=b.more lt;obtain⟨e,g1,g2⟩:=(hm.is v p).mpr ⟨L,p1,by omega,p3⟩;have nz:(e&&& E)≠0:=Jl.mpr ⟨p,g2,p4⟩;have hq:=zoN nz;obtain⟨b2,qN⟩:=b.turn lt hm g1 hq;obtain⟨q,hqe⟩: ∃q,vt (e&&& E)-1=q:=⟨_,rfl⟩;rw[hqe] at hq b2 qN;refine⟨q,b2,?_⟩;have i1:=zeR g1;have i2:=Jk (a:=e) (b:=E);have i3:=zoL (a:=e&&& E)
 have i4:zg .sub [nD (vt (e&&& E)),.int 1]=some (.val (nD q)):=by
  have:vt (e&&& E)=q+1:=by
   have:vt (e&&& E)≠0:=by unfold vt;rw[if_neg nz];omega
   omega
  rw[this];show yo (((q+1:Nat):Int)-1)=_;have:((q+1:Nat):Int)-1=(q:Int):=by omega
  rw[this];rfl
 have i5:=zoV (f:=f) (q:=q) (by omega);have i6:=YS (n:=q) (by omega);have i7:=zoK (a:=v) (b:=2 ^ q);have i8:=zaA (ns:=ns) (q:=q) (by omega)
 have ap: ∀ρ:Env,jS ρ 6 (some (.val (cD (f.getD q (0,0))))) (some (some (.obj true (lD (xS f qs)))))=some (.nx,ρ.set 6 (some (.obj true (lD (xS f (qs++[q])))))):=fun ρ=>by
  have:((xS f qs).map cD).length<line:=by rw[List.length_map];unfold xS;rw[List.length_map];omega
  rw[lD,Vi];simp only[Option.bind_some,ZC,this,if_true];simp[lD,xS]
 generalize f.getD q (0,0)=c at*;generalize ns.getD q 0=g at*;simp -implicitDefEqProofs only[kc,ZL];simp -implicitDefEqProofs [i1,i2,i3,i4,i5,i6,i7,i8,h8,ap]
end
end LK
namespace LK
open L2.LW
section
variable {N:Nat} {ns:List Nat} {st en:Nat} {f:List za}
theorem ze2(n:Nat)(hN:N<=16)(h1:1<=N)(hns:ns.length=N)(hf:f.length=N):
  (∃qs,Run N ns st en qs/\zv U zh (n+3) 66 [fD f,.lst (ns.map nD),nD st,nD en]=some (.obj true (lD (xS f qs))))\/
  ((∀p L,Pth N (fun q=>ns.getD q 0) st (p::L)->L.length+1=N->en.testBit p=false)/\zv U zh (n+3) 66 [fD f,.lst (ns.map nD),nD st,nD en]=some (.val .non)):=by
 have hl':=yD;obtain⟨ls,l1,l2,c1⟩:=zoT (ns:=ns) (st:=st) n hN h1 hns
 have hx:ls.getLast? =some (ls[N-1]'(by omega)):=by
  have z:ls[ls.length-1]? =ls[N-1]? :=by rw[l1]
  rw[List.getLast?_eq_getElem?,z];exact List.getElem?_eq_getElem _
 have hL:=l2 (N-1) (by omega);generalize ls[N-1]'(by omega)=x at*;have i0:=ze0 hx;have ln:zg .len [fD f]=some (.val (nD N)):=by rw[vS,hf];rfl
 have i1:=YS (n:=N) (by omega)
 have i2:zg .sub [nD (2 ^ N),.int 1]=some (.val (nD (2 ^ N-1))):=by
  show yo (((2 ^ N:Nat):Int)-1)=_;have:((2 ^ N:Nat):Int)-1=((2 ^ N-1:Nat):Int):=by have:=Nat.two_pow_pos N;omega
  rw[this];rfl
 have i3:=zeS (k:=2 ^ N-1) (ms:=x);obtain⟨e,he⟩: ∃e,(yu x (2 ^ N-1)).getD 0=e:=⟨_,rfl⟩;rw[he] at i3;have i4:=Jk (a:=e) (b:=en);have i5:=zeW (a:=e&&& en);rw[yj znx rfl];by_cases z:(e&&& en)=0
 ·refine .inr ⟨fun p L hp hlen=>?_,?_⟩
  ·obtain⟨e',g1,g2⟩:=(hL.is (2 ^ N-1) p).mpr ⟨L,hp,by omega,zoU hp.nd hp.lt (by simpa using hlen)⟩
   rw[g1] at he;have he:e'=e:=he;subst he;rw[Bool.eq_false_iff];exact fun h=>Jl.mpr ⟨p,g2,h⟩ z
  ·rw[decide_eq_true z] at i5
   simp -implicitDefEqProofs only[YK];simp -implicitDefEqProofs [c1,ln,i1,i2,i0,i3,i4,i5]
 ·rw[KH z] at i5
  obtain⟨p,b1,b2⟩:=Jl.mp z
  have ge:yu x (2 ^ N-1)=some e:=by
   cases hg:yu x (2 ^ N-1) with
   |none=>rw[hg] at he;have he:0=e:=he;rw[<-he] at b1;simp at b1
   |some y=>rw[hg] at he;have he:y=e:=he;rw[he]
  obtain⟨L,p1,p2,p3⟩:=(hL.is _ p).mp ⟨e,ge,b1⟩;have B0:Bck N ns st en [] (2 ^ N-1) en:=⟨fun q h=>(by cases h),List.nodup_nil,fun q h=>(by cases h),fun i h=>(by simp at h),fun z h=>(by cases h),fun _=>rfl,fun z h=>(by cases h),fun _=>⟨p,L,p1,by simp;omega,p3,b2⟩,fun h z hz=>(by cases hz)⟩
  obtain⟨ρ',ex,qs,v,E,s7,s8,rfl,q1,q2,_⟩:=zaz (g:=dI) (i:=7) (body:=zp (zD U zh (n+2)) zh kc)
   (fun pre ρ=>∃qs v E s7 s8,ρ=ZL f ns st E ls v qs s7 s8/\qs.length=pre.length/\Bck N ns st en qs v E/\zC (some s7)=true/\zC (some s8)=true)
   (xs:=ls.reverse) (ρ:=ZL f ns st en ls (2 ^ N-1) [] none none) ⟨[],2 ^ N-1,en,none,none,rfl,rfl,B0,rfl,rfl⟩
   fun pre m post ρ e zz=>by
    obtain⟨qs,v,E,s7,s8,eρ,q1,q2,f7,f8⟩:=zz;subst eρ;have ll:=congrArg List.length e;rw[List.length_reverse,List.length_append,List.length_cons] at ll;have gm:ls.reverse[pre.length]? =some m:=by rw[e];simp
    rw[List.getElem?_eq_some_iff] at gm;obtain⟨g1,g2⟩:=gm;rw[List.getElem_reverse] at g2;have hm:=l2 (ls.length-1-pre.length) (by omega);rw[g2,show ls.length-1-pre.length=N-1-qs.length by omega] at hm;obtain⟨q,b3,e3⟩:=zoW (n+2) hN hns hf (ls:=ls) (s8:=s8) q2 (by omega) hm f8;exact⟨_,_,e3,.inl rfl,qs++[q],_,_,_,_,rfl,by simp[q1],b3,yY,yY⟩
  rw[List.length_reverse] at q1;refine .inl ⟨qs,⟨by omega,q2.lt,q2.nd,q2.step,q2.head,q2.fin (by omega)⟩,?_⟩;have rv:yw false [.val (.lst (ls.map dI)),.val .non]=some (ls.map dI).reverse:=rfl;rw[List.map_reverse] at ex;simp -implicitDefEqProofs only[YK];simp -implicitDefEqProofs [c1,ln,i1,i2,i0,i3,i4,i5,jn,rv];rw[show D.lst []=lD (xS f []) from rfl,<-ZL,ex];simp -implicitDefEqProofs [ZL]
noncomputable def vW(f:List za)(l c:za):Nat:=xm ((List.range f.length).filter fun k=>zK l c (f.getD k (0,0)))
theorem zoX{l c:za}{k:Nat}:(vW f l c).testBit k=true↔k<f.length/\zK l c (f.getD k (0,0))=true:=by
 unfold vW;rw[vz,List.mem_filter,List.mem_range]
theorem zoY{l c:za}:(((List.range f.length).filter fun k=>zK l c (f.getD k (0,0))).map fun k=>2 ^ k).sum=vW f l c:=by
 unfold vW
 have key: ∀M,(((List.range M).filter fun k=>zK l c (f.getD k (0,0))).map fun k=>2 ^ k).sum=xm ((List.range M).filter fun k=>zK l c (f.getD k (0,0))):=by
  intro M
  induction M with
  |zero=>rfl
  |succ M ih=>
   rw[List.range_succ,List.filter_append,List.map_append,List.sum_append,ih];have lt:xm ((List.range M).filter fun k=>zK l c (f.getD k (0,0)))<2 ^ M:=zeY fun p hp=>List.mem_range.mp (List.mem_filter.mp hp).1
   by_cases h:zK l c (f.getD M (0,0))=true
   ·rw[List.filter_cons_of_pos (by simpa using h)]
    simp only[List.filter_nil,List.map_cons,List.map_nil,List.sum_cons,List.sum_nil,Nat.add_zero];have z:=Nat.two_pow_add_eq_or_of_lt lt 1;rw[Nat.mul_one] at z;rw[Nat.add_comm,z];apply Nat.eq_of_testBit_eq;intro i;rw[Bool.eq_iff_iff,vz,Nat.testBit_or,Bool.or_eq_true,vz,List.mem_append,List.mem_singleton];constructor
    ·rintro (z|z)
     ·right
      by_cases e:M=i
      ·exact e.symm
      ·rw[Nat.testBit_two_pow_of_ne e] at z;cases z
     ·exact .inl z
    ·rintro (z|z)
     ·exact .inr z
     ·subst z;exact .inl Nat.testBit_two_pow_self
   ·rw[List.filter_cons_of_neg (by simpa using h)]
    simp
 exact key f.length
end
end LK
namespace LK
open L2.LW
section
variable {f:List za} {l:za}
theorem zoZ{fn:Nat->List D->Option SV}{src cond elt:E}{ρ:Env}:zk fn (.compE src cond elt) ρ=(zk fn src ρ).bind fun r=>(XC r).bind fun ds=>
  if ds.length<=line then (yS (fun p=>vL p fun a b=>zB fn cond (some (.val a)::some (.val b)::ρ)) (fun p=>vL p fun a b=>zk fn elt (some (.val a)::some (.val b)::ρ)) (xE 0 ds)).map fun l=>.obj true (.lst l) else none:=rfl
theorem ze3: ∀(m:Nat) (xs:List za),xE m (xs.map cD)=(List.range xs.length).map fun k=>.tup [nD (m+k),cD (xs.getD k (0,0))]
 |_,[]=>rfl
 |m,c::r=>by
  rw[List.map_cons,xE,ze3 (m+1) r,List.length_cons,List.range_succ_eq_map,List.map_cons,List.map_map]
  congr 1
  apply List.map_congr_left;intro k _;show D.tup [nD (m+1+k),_]=D.tup [nD (m+(k+1)),_];rw[show m+1+k=m+(k+1) by omega];rfl
theorem ze4(n:Nat)(hf:f.length<=16)(c:za):zv U zh (n+3) 62 [fD f,cD l,cD c]=some (.val (nD (vW f l c))):=by
 have hl':=yD
 have cp: ∀ρ:Env,ρ[0]? =some (some (.val (fD f)))->ρ[1]? =some (some (.val (cD l)))->ρ[2]? =some (some (.val (cD c)))->
   zk (zv U zh (n+2)) (.compE (.var 0) (.call 10 (.cons (.var 3) (.cons (.var 4) (.cons (.var 1) .nil)))) (.prim .shl (.cons (.int 1) (.cons (.var 0) .nil)))) ρ=
    some (.obj true (.lst (((List.range f.length).filter fun k=>zK l c (f.getD k (0,0))).map fun k=>nD (2 ^ k)))):=by
  intro ρ h0 h1 h2;rw[zoZ];have e0:zk (zv U zh (n+2)) (.var 0) ρ=some (.val (fD f)):=by simp[h0]
  rw[e0];simp only[Option.bind_some];rw[show XC (.val (fD f))=some (f.map cD) from rfl];simp only[Option.bind_some];rw[if_pos (by rw[List.length_map];omega),ze3,zab (t:=fun k=>zK l c (f.getD k (0,0))) (e:=fun k=>nD (2 ^ k))]
  ·rfl
  ·intro k hk
   have an:=zei n l c (f.getD k (0,0));rw[Nat.zero_add];generalize f.getD k (0,0)=d at*;show zB _ _ (some (.val (nD k))::some (.val (cD d))::ρ)=_;simp[h1,h2,an]
  ·intro k hk _
   rw[List.mem_range] at hk;have sh:=YS (n:=k) (by omega);rw[Nat.zero_add];generalize f.getD k (0,0)=d at*;show (zk _ _ (some (.val (nD k))::some (.val (cD d))::ρ)).bind toD=_;simp[sh]
 have sm:zg .sumL [.lst (((List.range f.length).filter fun k=>zK l c (f.getD k (0,0))).map fun k=>nD (2 ^ k))]=some (.val (nD (vW f l c))):=by
  rw[<-zoY];generalize (List.range f.length).filter (fun k=>zK l c (f.getD k (0,0)))=L;have e:(L.map fun k=>nD (2 ^ k))=(L.map fun k=>((2 ^ k:Nat):Int)).map D.int:=by rw[List.map_map];rfl
  rw[e,zm3]
  have:(L.map fun k=>((2 ^ k:Nat):Int)).sum=(((L.map fun k=>2 ^ k).sum:Nat):Int):=by
   induction L with
   |nil=>rfl
   |cons a r ih=>rw[List.map_cons,List.map_cons,List.sum_cons,List.sum_cons,ih (by rw[List.map_map];rfl)];rfl
  rw[this];rfl
 generalize (((List.range f.length).filter fun k=>zK l c (f.getD k (0,0))).map fun k=>nD (2 ^ k))=G at*;rw[yj znt rfl];simp only[VT];simp[cp,sm]
theorem ze5: ∀w:List za,(SV.obj true (lD w)).plain=true:=fun w=>by
 show xu (w.map cD)=true
 induction w with
 |nil=>rfl
 |cons a r ih=>simp[ih]
structure HW (f:List za)(l:za)(w:List za):Prop where
 pm:w.Perm f
 step: ∀i (h:i+1<w.length),zK l w[i] w[i+1]=true
noncomputable def xA(f:List za)(l:za):List Nat:=f.map (vW f l)
theorem zaC{p q:Nat}(hp:p<f.length):((xA f l).getD p 0).testBit q=true↔q<f.length/\zK l (f.getD p (0,0)) (f.getD q (0,0))=true:=by
 have:(xA f l).getD p 0=vW f l (f.getD p (0,0)):=by
  unfold xA;rw[List.getD_eq_getElem?_getD,List.getD_eq_getElem?_getD,List.getElem?_map,List.getElem?_eq_getElem hp];rfl
 rw[this,zoX]
theorem zaD{N st:Nat}{nm:Nat->Nat}: ∀{ps:List Nat},ps≠[]->ps.Nodup->(∀p∈ps,p<N)->(∀i (h:i+1<ps.length),(nm ps[i]).testBit ps[i+1]=true)->(∀z,ps.getLast? =some z->st.testBit z=true)->Pth N nm st ps
 |[],h,_,_,_,_=>KC rfl h
 |[p],_,_,lt,_,la=>.one (lt p Ke) (la p rfl)
 |q::p::r,_,nd,lt,sp,la=>by
  rw[List.nodup_cons] at nd;refine .more (zaD (by simp) nd.2 (fun x hx=>lt x (Kf _ hx)) (fun i h=>?_) fun z hz=>la z (by rw[List.getLast?_cons_cons];exact hz)) (lt q Ke) nd.1 (sp 0 (by simp));exact sp (i+1) (by simpa using h)
theorem ze6(nd:f.Nodup){st en:Nat}{qs:List Nat}(r:Run f.length (xA f l) st en qs):HW f l (xS f qs):=by
 refine⟨?_,fun i h=>?_⟩
 ·have pq:qs.Perm (List.range f.length):=by
   rw[List.perm_ext_iff_of_nodup r.nd List.nodup_range];intro x;rw[List.mem_range];exact⟨r.lt x,ze1 r.nd r.lt r.len x⟩
  have:=pq.map fun q=>f.getD q (0,0)
  refine this.trans (List.Perm.of_eq ?_);apply List.ext_getElem
  ·simp
  ·intro i h1 h2
   simp[List.getD,h2]
 ·unfold xS at h⊢
  rw[List.length_map] at h;rw[List.getElem_map,List.getElem_map];exact ((zaC (r.lt _ (Kt _))).mp (r.step i h)).2
theorem ze7(nd:f.Nodup){w:List za}(h:HW f l w): ∃qs,xS f qs=w/\qs.length=f.length/\(∀q∈qs,q<f.length)/\qs.Nodup/\∀i (h:i+1<qs.length),((xA f l).getD qs[i] 0).testBit qs[i+1]=true:=by
 have lt: ∀c∈w,f.idxOf c<f.length:=fun c hc=>List.idxOf_lt_length_of_mem (h.pm.mem_iff.mp hc)
 have gt: ∀c∈w,f.getD (f.idxOf c) (0,0)=c:=fun c hc=>by
  have:=lt c hc;rw[List.getD_eq_getElem?_getD,List.getElem?_eq_getElem this];exact List.getElem_idxOf this
 refine⟨w.map f.idxOf,?_,by rw[List.length_map];exact h.pm.length_eq,fun q hq=>?_,?_,fun i hi=>?_⟩
 ·unfold xS
  rw[List.map_map]
  conv=>rhs;rw[<-List.map_id w]
  apply List.map_congr_left;intro c hc;exact gt c hc
 ·obtain⟨c,hc,rfl⟩:=List.mem_map.mp hq
  exact lt c hc
 ·unfold List.Nodup
  rw[List.pairwise_map];refine (h.pm.nodup_iff.mpr nd).imp_of_mem fun {a b} ha hb hab e=>hab ?_
  rw[<-gt a ha,<-gt b hb,e]
 ·rw[List.length_map] at hi
  rw[List.getElem_map,List.getElem_map,zaC (lt _ (Kt _))];refine⟨lt _ (Kt _),?_⟩;rw[gt _ (Kt _),gt _ (Kt _)];exact h.step i hi
theorem zaE(n:Nat){m:Int}(h:(f.length:Int)<=m):zv U zh (n+1) 61 [fD f,.int m]=some (.val .non):=by
 rw[yj zns rfl];have: ¬m<(f.length:Int):=by omega
 simp only[VS];simp[vS,this]
theorem ze8(n:Nat)(hf:OkF f)(hl:OkL l)(h16:f.length<=16):
  (∃w,HW f l w/\zv U zh (n+5) 67 [fD f,cD l]=some (.obj true (lD w)))\/((∀w,¬HW f l w)/\zv U zh (n+5) 67 [fD f,cD l]=some (.val .non)):=by
 have hl':=yD;have nd:=OkF.nodup hf.rise;have h1:1<=f.length:=by have:=hf.ne;cases f<;>simp_all
 have nz:zv U zh (n+4) 6 [fD f]=some (.val (fD f)):=ZF n hf;have cl:zv U zh (n+4) 7 [cD l]=some (.val (cD l)):=ZG (n+1) hl;have rb:=zaE (f:=f) (n+3) (m:=16) (by omega)
 have cp: ∀ρ:Env,ρ[0]? =some (some (.val (fD f)))->ρ[1]? =some (some (.val (cD l)))->zk (zv U zh (n+4)) (.comp false (.cons (.var 0) .nil) (.bl true) (.call 62 (.cons (.var 1) (.cons (.var 2) (.cons (.var 0) .nil))))) ρ=some (.obj true (.lst ((xA f l).map nD))):=by
  intro ρ h0 h1;rw[YG (rs:=[.val (fD f)]) (xs:=f) (f:=cD) (fun c=>nD (vW f l c))]
  ·unfold xA;rw[List.map_map];rfl
  ·simp[h0]
  ·rfl
  ·omega
  ·intro c _
   have:=ze4 (l:=l) (n+1) h16 c;simp[h0,h1,this]
 have i1:=YS (n:=f.length) (by omega);have ln:zg .len [fD f]=some (.val (nD f.length)):=by rw[vS];rfl
 have i2:zg .sub [nD (2 ^ f.length),.int 1]=some (.val (nD (2 ^ f.length-1))):=by
  show yo (((2 ^ f.length:Nat):Int)-1)=_;have:((2 ^ f.length:Nat):Int)-1=((2 ^ f.length-1:Nat):Int):=by have:=Nat.two_pow_pos f.length;omega
  rw[this];rfl
 rw[yj zny rfl];rcases ze2 (N:=f.length) (ns:=xA f l) (st:=2 ^ f.length-1) (en:=2 ^ f.length-1) (f:=f) (n+1) h16 h1 (by unfold xA;simp) rfl with ⟨qs,r,e⟩|⟨no,e⟩
 ·refine .inl ⟨xS f qs,ze6 nd r,?_⟩
  have pw:=ze5 (xS f qs);simp -implicitDefEqProofs only[YL];simp -implicitDefEqProofs [nz,cl,rb,cp,ln,i1,i2,e,pw]
 ·refine .inr ⟨fun w hw=>?_,?_⟩
  ·obtain⟨qs,q1,q2,q3,q4,q5⟩:=ze7 nd hw
   cases qs with
   |nil=>simp at q2;omega
   |cons p L=>
    have pt:Pth f.length (fun q=>(xA f l).getD q 0) (2 ^ f.length-1) (p::L):=zaD (by simp) q4 q3 q5 fun z hz=>by
     rw[zay,decide_eq_true_iff];exact q3 z (Kz hz)
    have:=no p L pt (by simpa using q2);rw[zay,decide_eq_false_iff_not] at this;exact this (q3 p Ke)
  ·simp -implicitDefEqProofs only[YL]
   simp -implicitDefEqProofs [nz,cl,rb,cp,ln,i1,i2,e]
end
end LK
namespace LK
open L2.LW
section
variable {f:List za} {l:za}
inductive Chn (l:za):List za->Prop where
 |nil:Chn l []
 |one (a:za):Chn l [a]
 |cons {a b:za} {r:List za} (h:zK l a b=true) (t:Chn l (b::r)):Chn l (a::b::r)
theorem ze9: ∀{w:List za},Chn l w->∀i (h:i+1<w.length),zK l w[i] w[i+1]=true
 |_,.nil,i,h=>by simp at h
 |_,.one a,i,h=>by simp at h
 |_,.cons h t,0,_=>h
 |_,.cons h t,i+1,hi=>ze9 t i (by simpa using hi)
theorem Zc: ∀{w:List za},(∀i (h:i+1<w.length),zK l w[i] w[i+1]=true)->Chn l w
 |[],_=>.nil
 |[a],_=>.one a
 |a::b::r,h=>.cons (h 0 (by simp)) (Zc fun i hi=>h (i+1) (by simpa using hi))
theorem kz: ∀{a b:List za},Chn l (a++b)↔Chn l a/\Chn l b/\∀x y,a.getLast? =some x->b.head? =some y->zK l x y=true
 |[],b=>by simp only[List.nil_append];exact⟨fun h=>⟨.nil,h,fun x y hx=>(by cases hx)⟩,fun h=>h.2.1⟩
 |[a],b=>by
  cases b with
  |nil=>simp only[List.append_nil];exact⟨fun h=>⟨h,.nil,fun x y _ hy=>(by cases hy)⟩,fun h=>h.1⟩
  |cons c r=>
   constructor
   ·intro h
    cases h with
    |cons h t=>exact⟨.one a,t,fun x y hx hy=>by cases hx;cases hy;exact h⟩
   ·rintro⟨_,h2,h3⟩
    exact .cons (h3 a c rfl rfl) h2
 |a::a2::r,b=>by
  have ih:=kz (a:=a2::r) (b:=b);constructor
  ·intro h
   cases h with
   |cons h t=>
    obtain⟨h1,h2,h3⟩:=ih.mp t;exact⟨.cons h h1,h2,fun x y hx hy=>h3 x y (by rw[List.getLast?_cons_cons] at hx;exact hx) hy⟩
  ·rintro⟨h1,h2,h3⟩
   cases h1 with
   |cons h t=>exact .cons h (ih.mpr ⟨t,h2,fun x y hx hy=>h3 x y (by rw[List.getLast?_cons_cons];exact hx) hy⟩)
structure HR (f:List za)(l:za)(w:List za):Prop extends HW f l w where
 ring: ∀a b,w.head? =some a->w.getLast? =some b->zK l a b=true
theorem HR.turn{w:List za}(h:HR f l w){c:za}(hc:c∈f): ∃w',HR f l w'/\w'.getLast? =some c:=by
 obtain⟨a,b,rfl⟩:=List.append_of_mem (h.pm.mem_iff.mpr hc);have ch:=Zc h.step;rw[show a++c::b=(a++[c])++b by simp] at ch;obtain⟨c1,c2,c3⟩:=kz.mp ch;have la:(a++[c]).getLast? =some c:=by simp
 refine⟨b++(a++[c]),⟨⟨?_,ze9 (kz.mpr ⟨c2,c1,fun x y hx hy=>?_⟩)⟩,fun x y hx hy=>?_⟩,by rw[<-List.append_assoc];simp⟩
 ·refine List.Perm.trans ?_ h.pm
  rw[show a++c::b=(a++[c])++b by simp];exact List.perm_append_comm
 ·have:=h.ring y x (by
   cases a with
   |nil=>simpa using hy
   |cons z r=>simpa using hy) (by
   rw[show a++c::b=(a++[c])++b by simp,List.getLast?_append,hx];rfl)
  rw[wE];exact this
 ·have ey:y=c:=by
   rw[<-List.append_assoc,List.getLast?_append] at hy;simp at hy;exact hy.symm
  subst ey
  cases b with
  |cons z r=>
   have:x=z:=by simpa using hx.symm
   subst this;rw[wE];exact c3 y x la rfl
  |nil=>
   have hx':(a++[y]).head? =some x:=by simpa using hx
   exact h.ring x y hx' (by simp)
theorem zo0(n:Nat)(hf:OkF f)(hl:OkL l)(h16:f.length<=16):
  (f.length<3/\zv U zh (n+5) 68 [fD f,cD l]=some (.val .non))\/(3<=f.length/\∃w,HR f l w/\zv U zh (n+5) 68 [fD f,cD l]=some (.obj true (lD w)))\/
  (3<=f.length/\(∀w,¬HR f l w)/\zv U zh (n+5) 68 [fD f,cD l]=some (.val .non)):=by
 have hl':=yD;have nd:=OkF.nodup hf.rise;have nz:zv U zh (n+4) 6 [fD f]=some (.val (fD f)):=ZF n hf;have cl:zv U zh (n+4) 7 [cD l]=some (.val (cD l)):=ZG (n+1) hl;have rb:=zaE (f:=f) (n+3) (m:=16) (by omega);rw[yj znz rfl];by_cases h3:f.length<3
 ·refine .inl ⟨h3,?_⟩
  have lt:((f.length:Int)<3):=by omega
  simp -implicitDefEqProofs only[ZD];simp -implicitDefEqProofs [nz,cl,rb,vS,lt]
 ·have lt: ¬((f.length:Int)<3):=by omega
  have cp: ∀ρ:Env,ρ[0]? =some (some (.val (fD f)))->ρ[1]? =some (some (.val (cD l)))->zk (zv U zh (n+4)) (.comp false (.cons (.var 0) .nil) (.bl true) (.call 62 (.cons (.var 1) (.cons (.var 2) (.cons (.var 0) .nil))))) ρ=some (.obj true (.lst ((xA f l).map nD))):=by
   intro ρ h0 h1;rw[YG (rs:=[.val (fD f)]) (xs:=f) (f:=cD) (fun c=>nD (vW f l c))]
   ·unfold xA;rw[List.map_map];rfl
   ·simp[h0]
   ·rfl
   ·omega
   ·intro c _
    have:=ze4 (l:=l) (n+1) h16 c;simp[h0,h1,this]
  have i0:zg .idx [.lst ((xA f l).map nD),.int 0]=some (.val (nD ((xA f l).getD 0 0))):=zaA (ns:=xA f l) (q:=0) (by unfold xA;simp;omega)
  have b1: ∀z,(1:Nat).testBit z=true↔z=0:=fun z=>by
   have:=Nat.testBit_two_pow (n:=0) (m:=z);rw[Nat.pow_zero] at this;rw[this,decide_eq_true_iff];exact eq_comm
  have c0:f.getD 0 (0,0)∈f:=by
   rw[List.getD_eq_getElem?_getD,List.getElem?_eq_getElem (by omega:0<f.length)];exact Kt _
  have nb:=fun z=>zaC (f:=f) (l:=l) (p:=0) (q:=z) (by omega)
  generalize he:(xA f l).getD 0 0=en at*;rcases ze2 (N:=f.length) (ns:=xA f l) (st:=1) (en:=en) (f:=f) (n+1) h16 (by omega) (by unfold xA;simp) rfl with ⟨qs,r,e⟩|⟨no,e⟩
  ·refine .inr (.inl ⟨by omega,xS f qs,⟨ze6 nd r,fun a b ha hb=>?_⟩,?_⟩)
   ·unfold xS at ha hb
    rw[List.head?_map,jo2] at ha;rw[List.getLast?_map,jo2] at hb;obtain⟨x,hx,rfl⟩:=ha;obtain⟨y,hy,rfl⟩:=hb;rw[(b1 y).mp (r.last y hy),wE];exact ((nb x).mp (r.head x hx)).2
   ·have pw:=ze5 (xS f qs)
    simp -implicitDefEqProofs only[ZD];simp -implicitDefEqProofs [nz,cl,rb,vS,lt,cp,i0,pw];rw[show D.int 1=nD 1 from rfl,e];simp -implicitDefEqProofs [pw]
  ·refine .inr (.inr ⟨by omega,fun w hw=>?_,?_⟩)
   ·obtain⟨w',hw',hla⟩:=hw.turn c0
    obtain⟨qs,q1,q2,q3,q4,q5⟩:=ze7 nd hw'.toHW
    cases qs with
    |nil=>simp at q2;omega
    |cons p L=>
     have ls: ∀z,(p::L).getLast? =some z->z=0:=fun z hz=>by
      have h1:w'.getLast? =some (f.getD z (0,0)):=by rw[<-q1];unfold xS;rw[List.getLast?_map,hz];rfl
      rw[hla] at h1;have h2:f.getD 0 (0,0)=f.getD z (0,0):=by simpa using h1
      have zl:=q3 z (Kz hz);rw[List.getD_eq_getElem?_getD,List.getD_eq_getElem?_getD,List.getElem?_eq_getElem zl,List.getElem?_eq_getElem (by omega:0<f.length)] at h2;exact ((List.getElem_inj nd).mp h2).symm
     have pt:Pth f.length (fun q=>(xA f l).getD q 0) 1 (p::L):=zaD (by simp) q4 q3 q5 fun z hz=>(b1 z).mpr (ls z hz)
     have h5:=no p L pt (by simpa using q2)
     have h6:en.testBit p=true:=by
      rw[nb p];refine⟨q3 p Ke,?_⟩;have:=hw'.ring (f.getD p (0,0)) (f.getD 0 (0,0)) (by rw[<-q1];rfl) hla;rw[wE];exact this
     rw[h6] at h5;cases h5
   ·simp -implicitDefEqProofs only[ZD]
    simp -implicitDefEqProofs [nz,cl,rb,vS,lt,cp,i0];rw[show D.int 1=nD 1 from rfl,e];simp -implicitDefEqProofs
end
end LK
namespace LK
open L2.LW
section
variable {f:List za} {l:za}
structure Pts (R:List za)(l:za)(P:List (List za)):Prop where
 ne: ∀p∈P,p≠[]
 sub: ∀p∈P,∀x∈p,x∈R
 apart:P.Pairwise fun p q=>∀x∈p,x∉q
 close: ∀p∈P,∀x∈p,∀y∈R,zK l x y=true->y∈p
theorem zfa{w:List za}(ch:Chn l w){c R p:List za}(hw: ∀x∈w,x∈c\/x∈R)(dis: ∀x∈R,x∉c)(sub: ∀x∈p,x∈R)(close: ∀x∈p,∀y∈R,zK l x y=true->y∈p)(ne: ∃x∈w,x∈p):
  ∃a y b,w=a++y::b/\y∈p/\(∀x∈a,x∉p)/\(a=[]\/∃z,a.getLast? =some z/\z∈c):=by
 induction w with
 |nil=>obtain⟨x,hx,_⟩:=ne;cases hx
 |cons x r ih=>
  by_cases hx:x∈p
  ·exact⟨[],x,r,rfl,hx,fun y hy=>(by cases hy),.inl rfl⟩
  ·have chr:Chn l r:=by
    cases ch with
    |one=>exact .nil
    |cons h t=>exact t
   obtain⟨a,y,b,e,h1,h2,h3⟩:=ih chr (fun z hz=>hw z (Kf _ hz)) (by
    obtain⟨z,hz,hp⟩:=ne;rcases List.mem_cons.mp hz with rfl|hz
    ·exact KC hp hx
    ·exact⟨z,hz,hp⟩)
   refine⟨x::a,y,b,by rw[e];rfl,h1,fun z hz=>?_,.inr ?_⟩
   ·rcases List.mem_cons.mp hz with rfl|hz
    ·exact hx
    ·exact h2 z hz
   ·rcases h3 with rfl|⟨z,hz,zc⟩
    ·refine⟨x,rfl,?_⟩
     rcases hw x Ke with q|q
     ·exact q
     ·exfalso
      subst e
      cases ch with
      |cons h t=>exact hx (close y h1 x q (by rw[wE];exact h))
    ·refine⟨z,?_,zc⟩
     cases a with
     |nil=>cases hz
     |cons a1 a2=>rw[List.getLast?_cons_cons];exact hz
theorem zfb{α:Type}[DecidableEq α]{R:List za}{P:List (List za)}(h:Pts R l P)(g:List za->α->Prop){m:List α}(ex: ∀p∈P,∃a∈m,g p a)(inj: ∀p q a,p∈P->q∈P->g p a->g q a->∃x∈p,x∈q):P.length<=m.length:=by
 have key: ∀(Q:List (List za)),(∀p∈Q,p∈P)->Q.Pairwise (fun p q=>∀x∈p,x∉q)->∃as:List α,as.length=Q.length/\as.Nodup/\(∀a∈as,a∈m)/\∀a∈as,∃q∈Q,g q a:=by
  intro Q
  induction Q with
  |nil=>exact fun _ _=>⟨[],rfl,List.nodup_nil,fun a ha=>(by cases ha),fun a ha=>(by cases ha)⟩
  |cons p Q ih=>
   intro hs hp;rw[List.pairwise_cons] at hp;obtain⟨as,e1,e2,e3,e4⟩:=ih (fun q hq=>hs q (Kf _ hq)) hp.2;obtain⟨a,am,ag⟩:=ex p (hs p Ke);refine⟨a::as,by simp[e1],List.nodup_cons.mpr ⟨fun z=>?_,e2⟩,fun b hb=>?_,fun b hb=>?_⟩
   ·obtain⟨q,hq,gq⟩:=e4 a z
    obtain⟨x,x1,x2⟩:=inj p q a (hs p Ke) (hs q (Kf _ hq)) ag gq;exact hp.1 q hq x x1 x2
   ·rcases List.mem_cons.mp hb with rfl|hb
    ·exact am
    ·exact e3 b hb
   ·rcases List.mem_cons.mp hb with rfl|hb
    ·exact⟨p,Ke,ag⟩
    ·obtain⟨q,hq,gq⟩:=e4 b hb
     exact⟨q,Kf _ hq,gq⟩
 obtain⟨as,e1,e2,e3,_⟩:=key P (fun p hp=>hp) h.apart;rw[<-e1];exact wy e2 e3
theorem zfc{a a' b b':List za}{y y' z:za}(nd:(a++y::b).Nodup)(e:a++y::b=a'++y'::b')(h:a.getLast? =some z)(h':a'.getLast? =some z):y=y':=by
 obtain⟨a1,rfl⟩: ∃a1,a=a1++[z]:=by
  rw[List.getLast?_eq_some_iff] at h;exact h
 obtain⟨a2,rfl⟩: ∃a2,a'=a2++[z]:=by
  rw[List.getLast?_eq_some_iff] at h';exact h'
 have e':a1++z::y::b=a2++z::y'::b':=by simpa using e
 have nd':(a1++z::y::b).Nodup:=by simpa using nd
 clear e nd h h'
 induction a1 generalizing a2 with
 |nil=>
  cases a2 with
  |nil=>simp at e';exact e'.1
  |cons x r=>
   rw[List.nil_append,List.cons_append] at e';injection e' with e1 e2;rw[List.nil_append,List.nodup_cons,e2] at nd';exact KC (Ko r Ke) nd'.1
 |cons x r ih=>
  cases a2 with
  |nil=>
   rw[List.nil_append,List.cons_append] at e';injection e' with e1 e2;rw[List.cons_append,List.nodup_cons,e1] at nd';exact KC (Ko r Ke) nd'.1
  |cons x' r'=>
   rw[List.cons_append,List.cons_append] at e';injection e' with e1 e2;rw[List.cons_append,List.nodup_cons] at nd';exact ih r' e2 nd'.2
theorem zo1(nd:f.Nodup){w:List za}(hw:HW f l w){c R:List za}(hR: ∀x,x∈R↔x∈f/\x∉c){P:List (List za)}(hP:Pts R l P):P.length<=c.length+1:=by
 have ch:=Zc hw.step;have wnd:w.Nodup:=hw.pm.nodup_iff.mpr nd
 have cov: ∀x∈w,x∈c\/x∈R:=fun x hx=>by
  by_cases z:x∈c
  ·exact .inl z
  ·exact .inr ((hR x).mpr ⟨hw.pm.mem_iff.mp hx,z⟩)
 have dis: ∀x∈R,x∉c:=fun x hx=>((hR x).mp hx).2
 have:=zfb hP (fun p (o:Option za)=>∃a y b,w=a++y::b/\y∈p/\a.getLast? =o) (m:=none::c.map some) (fun p hp=>?_) (fun p q o hp hq h1 h2=>?_)
 ·simpa using this
 ·obtain⟨a,y,b,e,h1,h2,h3⟩:=zfa ch cov dis (hP.sub p hp) (hP.close p hp) (by
   have:=hP.ne p hp
   cases p with
   |nil=>exact KC rfl this
   |cons x r=>exact⟨x,hw.pm.mem_iff.mpr ((hR x).mp (hP.sub _ hp x Ke)).1,Ke⟩)
  rcases h3 with rfl|⟨z,hz,zc⟩
  ·exact⟨none,Ke,[],y,b,e,h1,rfl⟩
  ·exact⟨some z,Kf _ (List.mem_map_of_mem zc),a,y,b,e,h1,hz⟩
 ·obtain⟨a,y,b,e,y1,la⟩:=h1
  obtain⟨a',y',b',e',y2,la'⟩:=h2
  have:y=y':=by
   cases o with
   |none=>
    rw[List.getLast?_eq_none_iff] at la la';subst la;subst la';rw[e] at e';simp at e';exact e'.1
   |some z=>exact zfc (by rw[<-e];exact wnd) (e.symm.trans e') la la'
  exact⟨y,y1,by rw[this];exact y2⟩
theorem zo2(nd:f.Nodup){w:List za}(hw:HR f l w){c R:List za}(hc: ∃x∈c,x∈f)(hR: ∀x,x∈R↔x∈f/\x∉c){P:List (List za)}(hP:Pts R l P):P.length<=c.length:=by
 obtain⟨x0,xc,xf⟩:=hc;obtain⟨w,hw,hla⟩:=hw.turn xf;have ch:=Zc hw.step;have wnd:w.Nodup:=hw.pm.nodup_iff.mpr nd
 have cov: ∀x∈w,x∈c\/x∈R:=fun x hx=>by
  by_cases z:x∈c
  ·exact .inl z
  ·exact .inr ((hR x).mpr ⟨hw.pm.mem_iff.mp hx,z⟩)
 have dis: ∀x∈R,x∉c:=fun x hx=>((hR x).mp hx).2
 refine zfb hP (fun p (o:za)=>∃a y b,w=a++y::b/\y∈p/\((a=[]/\o=x0)\/a.getLast? =some o)) (m:=c) (fun p hp=>?_) (fun p q o hp hq h1 h2=>?_)
 ·obtain⟨a,y,b,e,h1,h2,h3⟩:=zfa ch cov dis (hP.sub p hp) (hP.close p hp) (by
   have:=hP.ne p hp
   cases p with
   |nil=>exact KC rfl this
   |cons x r=>exact⟨x,hw.pm.mem_iff.mpr ((hR x).mp (hP.sub _ hp x Ke)).1,Ke⟩)
  rcases h3 with rfl|⟨z,hz,zc⟩
  ·exact⟨x0,xc,[],y,b,e,h1,.inl ⟨rfl,rfl⟩⟩
  ·exact⟨z,zc,a,y,b,e,h1,.inr hz⟩
 ·obtain⟨a,y,b,e,y1,la⟩:=h1
  obtain⟨a',y',b',e',y2,la'⟩:=h2
  have no: ∀{a b:List za} {y:za},w=a++y::b->a.getLast? ≠some x0:=fun {a b y} e z=>by
   obtain⟨a1,rfl⟩: ∃a1,a=a1++[x0]:=by
    rw[List.getLast?_eq_some_iff] at z;exact z
   have h1:w=(a1++[x0])++(y::b):=e
   have h2:(y::b).getLast? =some x0:=by
    rw[h1,List.getLast?_append] at hla
    cases hh:(y::b).getLast? with
    |none=>simp at hh
    |some q=>rw[hh] at hla;simpa using hla
   rw[h1,List.nodup_append] at wnd;exact wnd.2.2 x0 (by simp) x0 (Kz h2) rfl
  have:y=y':=by
   rcases la with ⟨rfl,rfl⟩|la
   ·rcases la' with ⟨rfl,_⟩|la'
    ·rw[e] at e'
     simp at e';exact e'.1
    ·exact KC la' (no e')
   ·rcases la' with ⟨_,rfl⟩|la'
    ·exact KC la (no e)
    ·exact zfc (by rw[<-e];exact wnd) (e.symm.trans e') la la'
  exact⟨y,y1,by rw[this];exact y2⟩
end
end LK
namespace LK
open L2.LW
section
variable {f:List za} {l:za}
noncomputable def yU(l:za)(k:Int)(w:List za):Nat:=(w.filter fun c=>decide (zr l c=k)).length
theorem Zd(k:Int)(c:za)(w:List za):yU l k (c::w)=(if zr l c=k then 1 else 0)+yU l k w:=by
 unfold yU;by_cases h:zr l c=k
 ·rw[List.filter_cons_of_pos (by simpa using h),if_pos h,List.length_cons,Nat.add_comm]
 ·rw[List.filter_cons_of_neg (by simpa using h),if_neg h,Nat.zero_add]
theorem zaF(hl:OkL l): ∀{w:List za},Chn l w->∀a,w.head? =some a->(zr l a=0->yU l 1 w<=yU l 0 w/\yU l 0 w<=yU l 1 w+1)/\(zr l a=1->yU l 0 w<=yU l 1 w/\yU l 1 w<=yU l 0 w+1)
 |_,.nil,a,h=>by cases h
 |_,.one b,a,h=>by
  cases h;constructor<;>intro e<;>(rw[Zd,Zd,e];simp[yU])
 |_,.cons (a:=x) (b:=y) (r:=r) h t,a,e=>by
  cases e;obtain⟨h0,h1⟩:=zaF hl t y rfl;have ne:=vj hl h;have hx:=xy (l:=l) x;have hy:=xy (l:=l) y;constructor
  ·intro e
   have ey:zr l y=1:=by omega
   obtain⟨q1,q2⟩:=h1 ey;rw[Zd 0 x,Zd 1 x,e,if_pos rfl,if_neg (by decide)];omega
  ·intro e
   have ey:zr l y=0:=by omega
   obtain⟨q1,q2⟩:=h0 ey;rw[Zd 0 x,Zd 1 x,e,if_pos rfl,if_neg (by decide)];omega
theorem kA: ∀w:List za,yU l 0 w+yU l 1 w=w.length
 |[]=>rfl
 |c::r=>by
  have ih:=kA r;have hc:=xy (l:=l) c;rw[Zd,Zd,List.length_cons];rcases hc with e|e
  ·rw[e,if_pos rfl,if_neg (by decide)];omega
  ·rw[e,if_pos rfl,if_neg (by decide)];omega
theorem zfd(hl:OkL l): ∀{w:List za},Chn l w->∀a b,w.head? =some a->w.getLast? =some b->(zr l a=zr l b↔w.length%2=1)
 |_,.nil,a,b,h,_=>by cases h
 |_,.one c,a,b,h,h2=>by cases h;cases h2;simp
 |_,.cons (a:=x) (b:=y) (r:=r) h t,a,b,e,e2=>by
  cases e;rw[List.getLast?_cons_cons] at e2;have ih:=zfd hl t y b rfl e2;have ne:=vj hl h;have hx:=xy (l:=l) x;have hy:=xy (l:=l) y;have hb:=xy (l:=l) b;rw[List.length_cons];constructor
  ·intro z
   have: ¬zr l y=zr l b:=by omega
   have:=mt ih.mpr this;omega
  ·intro z
   have: ¬zr l y=zr l b:=fun q=>by have:=ih.mp q;omega
   omega
theorem zfe{C:List za}(hC: ∀a b,zK l a b=true->a∈f->b∈f->a∈C\/b∈C): ∀{w:List za},Chn l w->(∀x∈w,x∈f)->w.length/2<=(w.filter fun c=>decide (c∈C)).length
 |_,.nil,_=>by simp
 |_,.one c,_=>by simp
 |_,.cons (a:=x) (b:=y) (r:=r) h t,hs=>by
  have t2:Chn l r:=by
   cases t with
   |one=>exact .nil
   |cons _ t=>exact t
  have ih:=zfe hC t2 fun z hz=>hs z (Kf _ (Kf _ hz))
  have one:=hC x y h (hs x Ke) (hs y (Kf _ Ke))
  have cc: ∀(z:za) (q:List za),((z::q).filter fun c=>decide (c∈C)).length=(if z∈C then 1 else 0)+(q.filter fun c=>decide (c∈C)).length:=fun z q=>by
   by_cases hz:z∈C
   ·rw[List.filter_cons_of_pos (by simpa using hz),if_pos hz,List.length_cons,Nat.add_comm]
   ·rw[List.filter_cons_of_neg (by simpa using hz),if_neg hz,Nat.zero_add]
  rw[cc,cc,List.length_cons,List.length_cons];rcases one with z|z
  ·rw[if_pos z];omega
  ·rw[if_pos z];omega
theorem kB{w:List za}(h:w.Perm f)(k:Int):yU l k w=yU l k f:=(h.filter _).length_eq
theorem zo3(hl:OkL l)(ne:f≠[]){w:List za}(h:HW f l w):yU l 0 f<=yU l 1 f+1/\yU l 1 f<=yU l 0 f+1:=by
 have ch:=Zc h.step
 cases w with
 |nil=>exact KC h.pm.symm.eq_nil ne
 |cons a r=>
  obtain⟨h0,h1⟩:=zaF hl ch a rfl;rw[<-kB h.pm 0,<-kB h.pm 1];rcases xy (l:=l) a with e|e
  ·have:=h0 e;omega
  ·have:=h1 e;omega
theorem zo4(hl:OkL l)(ne:f≠[]){w:List za}(h:HR f l w):yU l 0 f=yU l 1 f:=by
 have ch:=Zc h.step
 cases hw:w with
 |nil=>rw[hw] at h;exact KC h.pm.symm.eq_nil ne
 |cons a r=>
  obtain⟨b,hb⟩: ∃b,w.getLast? =some b:=by
   cases z:w.getLast? with
   |none=>rw[List.getLast?_eq_none_iff] at z;rw[z] at hw;cases hw
   |some b=>exact⟨b,rfl⟩
  have ha:w.head? =some a:=by rw[hw];rfl
  have e1:=zfd hl ch a b ha hb;have ne:=vj hl (h.ring a b ha hb);have ev: ¬w.length%2=1:=fun z=>ne (e1.mpr z)
  obtain⟨h0,h1⟩:=zaF hl ch a ha;have al:=kA (l:=l) w;rw[<-kB h.pm 0,<-kB h.pm 1];rcases xy (l:=l) a with e|e
  ·have:=h0 e;omega
  ·have:=h1 e;omega
end
end LK
namespace LK
open L2.LW
section
variable {f:List za} {l:za}
theorem zff{a b:za}:zg .gt [cD a,cD b]=some (.val (.bl (decide (zX b a)))):=znE (a:=b) (b:=a)
noncomputable def wU(f c:List za):List za:=f.filter fun x=> !decide (x∈c)
theorem mem_rest{c:List za}{x:za}:x∈wU f c↔x∈f/\x∉c:=by unfold wU;rw[List.mem_filter];simp
theorem zo5(hf:OkF f){c:List za}(h:wU f c≠[]):OkF (wU f c):=
 ⟨h,Kg (KB _ _) hf.len,fun x hx=>hf.cells x (mem_rest.mp hx).1,hf.rise.sublist Ku⟩
noncomputable def wL(f:List za)(l:za)(s:Nat)(c:List za):Bool:=decide (c.length+s<(Za (wU f c) l).length)&&decide (1<(Za (wU f c) l).length)
theorem zo6{P:List (List za)}:zg .len [yz P]=some (.val (.int (P.length:Nat))):=by
 show yo ((P.map lD).length:Nat)=_;rw[List.length_map];rfl
theorem zo7(n:Nat)(hf:OkF f){c:List za}{s:Nat}(h:wU f c≠[]):zv U zh (n+6) 69 [fD f,cD l,.int (s:Int),lD c]=some (.val (.bl (wL f l s c))):=by
 have hl':=yD;have hlen:=hf.len;have pw:=zoz (l:=l) n (F:=lD (wU f c)) rfl (zo5 hf h)
 have cp: ∀ρ:Env,ρ[0]? =some (some (.val (fD f)))->ρ[3]? =some (some (.val (lD c)))->zk (zv U zh (n+5)) (.comp false (.cons (.var 0) .nil) (.prim .nin (.cons (.var 0) (.cons (.var 4) .nil))) (.var 0)) ρ=some (.obj true (lD (wU f c))):=by
  intro ρ h0 h3;rw[jp (rs:=[.val (fD f)]) (xs:=f) (f:=cD) (fun x=> !decide (x∈c)) cD]
  ·rfl
  ·simp[h0]
  ·rfl
  ·omega
  ·intro x _
   simp[h3,zah]
  ·intro x _ _;simp
 have ln:=zo6 (P:=Za (wU f c) l);have lc:zg .len [lD c]=some (.val (.int (c.length:Nat))):=by simp[lD]
 rw[yj znA rfl];simp only[VX];simp[cp,pw,lc,ln];unfold wL;generalize (Za (wU f c) l).length=P;by_cases h1:c.length+s<P
 ·have h1':(c.length:Int)+s<P:=by omega
  by_cases h2:1<P
  ·have h2':(1:Int)<P:=by omega
   simp[h1,h1',h2,h2']
  ·have h2': ¬(1:Int)<P:=by omega
   simp[h1,h1',h2,h2']
 ·have h1': ¬(c.length:Int)+s<P:=by omega
  simp[h1,h1']
noncomputable def vn(f:List za)(c:List za):List za:=match c.getLast? with
 |none=>f
 |some z=>f.filter fun x=>decide (zX z x)
noncomputable def wk(f:List za)(cs:List (List za)):List (List za):=cs.flatMap fun c=>(vn f c).map fun x=>c++[x]
noncomputable def xr(f:List za)(cs w:List (List za))(s3 s4:Option SV):Env:=[some (.val (fD f)),some (.val (yz cs)),some (.obj true (yz w)),s3,s4]
theorem zfg{c:List za}:(vn f c).length<=f.length:=by
 unfold vn;split
 ·exact Nat.le_refl _
 ·exact KB _ _
theorem zo8{c:List za}: ∀x∈vn f c,x∈f:=fun x hx=>by
 unfold vn at hx;split at hx
 ·exact hx
 ·exact (List.mem_filter.mp hx).1
theorem zo9{w:List za}{x:za}(h:w.getLast? =some x):zg .idx [lD w,.int (-1)]=some (.val (cD x)):=by
 rw[List.getLast?_eq_getElem?,List.getElem?_eq_some_iff] at h;obtain⟨h1,h2⟩:=h;rw[lD,YF];unfold atI ixN;have hp:0<w.length:=by omega
 rw[if_neg (by omega),if_pos (by rw[List.length_map];omega)];simp only[Option.bind_some];rw[show (-1+((w.map cD).length:Int)).toNat=w.length-1 by rw[List.length_map];omega];rw[List.getElem?_map,List.getElem?_eq_getElem h1,h2];rfl
theorem zpa(n:Nat)(hf:f.length<=24){cs w:List (List za)}{c:List za}{s4:Option SV}(hw:w.length<=80000)(hc:c.length<=100)(h4:zC (some s4)=true):
  ∃s4',zp (zD U zh n) zh kd (xr f cs w (some (.val (lD c))) s4)=some (.nx,xr f cs (w++(vn f c).map fun x=>c++[x]) (some (.val (lD c))) s4')/\zC (some s4')=true:=by
 have hl':=yD
 let P:za->Bool:=fun x=>match c.getLast? with|none=>true|some z=>decide (zX z x)
 have eP:vn f c=f.filter P:=by
  unfold vn;show _=f.filter fun x=>match c.getLast? with|none=>true|some z=>decide (zX z x)
  cases c.getLast? with
  |none=>exact (List.filter_eq_self.mpr fun _ _=>rfl).symm
  |some z=>rfl
 obtain⟨ρ',e,s4',rfl,h4'⟩:=ZK (i:=4) (body:=zp (zD U zh n) zh VY)
  (fun pre ρ=>∃s4',ρ=xr f cs (w++(pre.filter P).map fun x=>c++[x]) (some (.val (lD c))) s4'/\zC (some s4')=true)
  (xs:=f) (ρ:=xr f cs w (some (.val (lD c))) s4) ⟨s4,by simp,h4⟩
  fun pre x post ρ e zz=>by
   obtain⟨s4',eρ,g4⟩:=zz;subst eρ;have lp:pre.length+1<=f.length:=by rw[e];simp
   have lf:(pre.filter P).length<=pre.length:=KB _ _;have ec:zg .len [lD c]=some (.val (.int (c.length:Nat))):=by simp[lD]
   have ad:zg .add [lD c,.lst [cD x]]=some (.obj true (lD (c++[x]))):=by
    rw[lD,gY (by simp;omega)];simp[lD]
   have ap: ∀(ρ:Env) (W:List (List za)),W.length<line->jS ρ 2 (some (.obj true (lD (c++[x])))) (some (some (.obj true (yz W))))=some (.nx,ρ.set 2 (some (.obj true (yz (W++[c++[x]]))))):=fun ρ W hW=>by
    rw[yz,Vi];simp only[Option.bind_some,zdX,List.length_map,hW,if_true];simp[yz]
   have wl:(w++(pre.filter P).map fun x=>c++[x]).length<line:=by rw[List.length_append,List.length_map];omega
   have hf1:(pre++[x]).filter P=pre.filter P++(if P x=true then [x] else []):=by
    rw[List.filter_append]
    congr 1
    by_cases h:P x=true
    ·rw[if_pos h,List.filter_cons_of_pos h];rfl
    ·rw[if_neg h,List.filter_cons_of_neg h];rfl
   have hP:P x=match c.getLast? with|none=>true|some z=>decide (zX z x):=rfl
   cases hc0:c.getLast? with
   |none=>
    rw[hc0] at hP;have hP:P x=true:=hP;have cn:c=[]:=List.getLast?_eq_none_iff.mp hc0;refine⟨.nx,xr f cs ((w++(pre.filter P).map fun x=>c++[x])++[c++[x]]) (some (.val (lD c))) (some (.val (cD x))),?_,.inl rfl,some (.val (cD x)),?_,yY⟩
    ·have l0:((c.length:Nat):Int)=0:=by rw[cn];rfl
     generalize (w++(pre.filter P).map fun x=>c++[x])=W at*;have ap':=ap (xr f cs W (some (.val (lD c))) (some (.val (cD x)))) W wl;unfold xr at ap';simp only[VY,xr];simp[ec,l0,ad,ap']
    ·rw[hf1,if_pos hP];simp
   |some z=>
    rw[hc0] at hP;have hP:P x=decide (zX z x):=hP;have li:=zo9 hc0
    have l0: ¬(((c.length:Nat):Int)=0):=fun q=>by
     have:c=[]:=List.eq_nil_of_length_eq_zero (by omega);rw[this] at hc0;cases hc0
    have l1:(((c.length:Nat):Int)==0)=false:=by simpa using l0
    by_cases hz:zX z x
    ·refine⟨.nx,xr f cs ((w++(pre.filter P).map fun x=>c++[x])++[c++[x]]) (some (.val (lD c))) (some (.val (cD x))),?_,.inl rfl,some (.val (cD x)),?_,yY⟩
     ·generalize (w++(pre.filter P).map fun x=>c++[x])=W at*
      have ap':=ap (xr f cs W (some (.val (lD c))) (some (.val (cD x)))) W wl;unfold xr at ap';simp only[VY,xr];simp[ec,l1,li,zff,hz,ad,ap']
     ·rw[hf1,if_pos (by rw[hP];simpa using hz)];simp
    ·refine⟨.nx,xr f cs (w++(pre.filter P).map fun x=>c++[x]) (some (.val (lD c))) (some (.val (cD x))),?_,.inl rfl,some (.val (cD x)),?_,yY⟩
     ·generalize (w++(pre.filter P).map fun x=>c++[x])=W at*
      simp only[VY,xr];simp[ec,l1,li,zff,hz]
     ·rw[hf1,if_neg (by rw[hP];simpa using hz)];simp
 refine⟨s4',?_,h4'⟩;rw[eP];simp -implicitDefEqProofs only[kd];simp -implicitDefEqProofs [xr,h4,jo];rw[show xW (fD f)=some (f.map cD) from rfl];simp -implicitDefEqProofs only[Option.map_some,Option.bind_some];rw[<-xr,e];simp -implicitDefEqProofs [xr]
theorem zpb(n:Nat)(hf:f.length<=9){cs:List (List za)}(hl:cs.length<=8000)(hc: ∀c∈cs,c.length<=100):zv U zh (n+1) 70 [fD f,yz cs]=some (.obj true (yz (wk f cs))):=by
 have hl':=yD;have wsnoc: ∀(pre:List (List za)) (c:List za),wk f (pre++[c])=wk f pre++(vn f c).map fun x=>c++[x]:=fun pre c=>by unfold wk;simp
 have wlen: ∀pre:List (List za),(wk f pre).length<=9*pre.length:=fun pre=>by
  induction pre with
  |nil=>simp[wk]
  |cons c r ih=>
   have e:wk f (c::r)=((vn f c).map fun x=>c++[x])++wk f r:=rfl;have:=zfg (f:=f) (c:=c);rw[e,List.length_append,List.length_map,List.length_cons];omega
 obtain⟨ρ',e,s3,s4,rfl,_⟩:=zaz (g:=lD) (i:=3) (body:=zp (zD U zh n) zh kd)
  (fun pre ρ=>∃s3 s4,ρ=xr f cs (wk f pre) s3 s4/\zC (some s3)=true/\zC (some s4)=true)
  (xs:=cs) (ρ:=xr f cs [] none none) ⟨none,none,rfl,rfl,rfl⟩
  fun pre c post ρ e zz=>by
   obtain⟨s3,s4,eρ,f3,f4⟩:=zz;subst eρ;have hm:c∈cs:=by rw[e];simp
   have lp:pre.length<=cs.length:=by rw[e];simp
   have:=wlen pre;obtain⟨s4',e2,f4'⟩:=zpa n (by omega:f.length<=24) (cs:=cs) (w:=wk f pre) (c:=c) (s4:=s4) (by omega) (hc c hm) f4;exact⟨_,_,e2,.inl rfl,_,s4',by rw[wsnoc],yY,f4'⟩
 rw[yj znB rfl];simp -implicitDefEqProofs only[VZ];simp -implicitDefEqProofs [jo];rw[show xW (yz cs)=some (cs.map lD) from rfl];simp -implicitDefEqProofs only[Option.map_some,Option.bind_some];rw[show D.lst []=yz [] from rfl,<-xr,e];simp -implicitDefEqProofs [xr]
noncomputable def zM(f:List za):Nat->List (List za)
 |0=>[[]]
 |k+1=>wk f (zM f k)
theorem zpc{cs:List (List za)}{m:Nat}(hf:f.length<=m):(wk f cs).length<=m*cs.length:=by
 induction cs with
 |nil=>simp[wk]
 |cons c r ih=>
  have e:wk f (c::r)=((vn f c).map fun x=>c++[x])++wk f r:=rfl;have:=zfg (f:=f) (c:=c);rw[e,List.length_append,List.length_map,List.length_cons,Nat.mul_add,Nat.mul_one];omega
theorem zfh(hf:f.length<=9): ∀k,(zM f k).length<=9 ^ k
 |0=>by simp[zM]
 |k+1=>by
  have:=zpc (cs:=zM f k) hf;have ih:=zfh hf k;rw[zM,Nat.pow_succ];omega
theorem Jn: ∀{k:Nat} {c:List za},c∈zM f k->c.length=k/\∀x∈c,x∈f
 |0,c,h=>by
  rw[zM,List.mem_singleton] at h;subst h;exact⟨rfl,fun x hx=>(by cases hx)⟩
 |k+1,c,h=>by
  rw[zM,wk,List.mem_flatMap] at h;obtain⟨d,hd,hc⟩:=h;obtain⟨x,hx,rfl⟩:=List.mem_map.mp hc;obtain⟨h1,h2⟩:=Jn hd;refine⟨by simp[h1],fun y hy=>?_⟩;rcases List.mem_append.mp hy with hy|hy
  ·exact h2 y hy
  ·rw[List.mem_singleton] at hy;rw[hy];exact zo8 x hx
theorem zfi(hr:f.Pairwise zX): ∀{k:Nat},k<=f.length->f.take k∈zM f k
 |0,_=>by simp[zM]
 |k+1,h=>by
  have ih:=zfi hr (k:=k) (by omega);rw[zM,wk,List.mem_flatMap];refine⟨f.take k,ih,List.mem_map.mpr ⟨f[k]'(by omega),?_,?_⟩⟩
  ·unfold vn
   cases hz:(f.take k).getLast? with
   |none=>exact Kt _
   |some z=>
    rw[List.mem_filter,decide_eq_true_iff];refine⟨Kt _,?_⟩;have hk:k≠0:=fun e=>by rw[e] at hz;simp at hz
    rw[List.getLast?_eq_getElem?,List.length_take,Nat.min_eq_left (by omega),List.getElem?_take,if_pos (by omega),List.getElem?_eq_some_iff] at hz;obtain⟨h1,h2⟩:=hz;rw[<-h2];exact (List.pairwise_iff_getElem.mp hr) (k-1) k h1 (by omega) (by omega)
  ·rw[List.take_add_one,List.getElem?_eq_getElem (by omega:k<f.length)];rfl
end
end LK
namespace LK
open L2.LW
section
variable {f:List za} {l:za}
noncomputable def vA(f:List za)(m:Nat):List (List za):=(List.range m).flatMap (zM f)
theorem zaG(m:Nat):vA f (m+1)=vA f m++zM f m:=by
 unfold vA;rw[List.range_succ,List.flatMap_append];simp
theorem zfj{p:List za->Bool}{c:List za}: ∀{m k:Nat},k<=m->(vA f k).find? p=some c->(vA f m).find? p=some c
 |0,k,h,e=>by
  obtain rfl:k=0:=by omega
  exact e
 |m+1,k,h,e=>by
  by_cases z:k=m+1
  ·subst z;exact e
  ·rw[zaG,List.find?_append,zfj (m:=m) (by omega) e];rfl
theorem rest_ne(nd:f.Nodup){c:List za}(h:c.length<f.length):wU f c≠[]:=fun z=>by
 have:=wy nd (m:=c) fun x hx=>by
  by_cases q:x∈c
  ·exact q
  ·have:=mem_rest.mpr ⟨hx,q⟩
   rw[z] at this;cases this
 omega
noncomputable def xT(f:List za)(l:za)(s:Nat)(s3 s4:Option SV):Env:=[some (.val (fD f)),some (.val (cD l)),some (.val (.int (s:Int))),s3,s4]
noncomputable def vX(f:List za)(l:za)(s:Nat):D:=match (vA f ((f.length+1)/2)).find? (wL f l s) with
 |some c=>lD c
 |none=>.non
theorem zfk(n:Nat)(hf:OkF f)(hl:OkL l)(h9:f.length<=9){s:Nat}(hs:s<=1):zv U zh (n+7) 71 [fD f,cD l,.int (s:Int)]=some (.val (vX f l s)):=by
 have hl':=yD;have nd:=OkF.nodup hf.rise;have nz:zv U zh (n+6) 6 [fD f]=some (.val (fD f)):=ZF (n+2) hf;have cl:zv U zh (n+6) 7 [cD l]=some (.val (cD l)):=ZG (n+3) hl;have rb:=zaE (f:=f) (n+5) (m:=9) (by omega);have wo:=kg (n+5) (s:Int) 0 1
 have w1:(decide ((0:Int)<=(s:Int))&&decide ((s:Int)<=1))=true:=by
  rw[decide_eq_true (by omega),decide_eq_true (by omega)];rfl
 rw[w1] at wo
 obtain⟨fl,ρ',e,hq⟩:=zd5 (test:=zB (zv U zh (n+6)) (.prim .lt (.cons (.prim .mul (.cons (.int 2) (.cons (.prim .len (.cons (.prim .idx (.cons (.var 3) (.cons (.int 0) .nil))) .nil)) .nil))) (.cons (.prim .len (.cons (.var 0) .nil)) .nil)))) (body:=zp (zD U zh (n+6)) zh kf)
  (fun m ρ=>∃k s4,ρ=xT f l s (some (.obj true (yz (zM f k)))) s4/\2*k<=f.length+1/\(vA f k).find? (wL f l s)=none/\zC (some s4)=true/\m=10-k)
  (fun ρ=>(∃s3 s4,ρ=xT f l s s3 s4)/\(vA f ((f.length+1)/2)).find? (wL f l s)=none)
  (fun r=>∃c,(vA f ((f.length+1)/2)).find? (wL f l s)=some c/\r= .val (lD c))
  (m:=10) (n:=zh) (ρ:=xT f l s (some (.obj true (yz [[]]))) none) (by unfold zh;omega)
  ⟨0,none,rfl,by omega,rfl,rfl,rfl⟩
  fun m ρ zz=>by
   obtain⟨k,s4,eρ,q1,q2,q3,rfl⟩:=zz;subst eρ;have cm:=zfi hf.rise (k:=k) (by have:=hf.ne;cases f<;>simp_all<;>omega)
   obtain⟨c0,r0,e0⟩: ∃c0 r0,zM f k=c0::r0:=by
    cases h:zM f k with
    |nil=>rw[h] at cm;cases cm
    |cons a b=>exact⟨a,b,rfl⟩
   have l0:c0.length=k:=(Jn (f:=f) (k:=k) (c:=c0) (by rw[e0];exact Ke)).1;have cl9:=zfh h9 k;have p9:9 ^ k<=59049:=KJ (n:=9) (by decide) (by omega:k<=5)
   have i0:zg .idx [yz (zM f k),.int 0]=some (.val (lD c0)):=by
    rw[e0,yz,YF,show (0:Int)=((0:Nat):Int) from rfl,atI_nat (by simp)];simp
   have i1:zg .len [lD c0]=some (.val (.int (k:Int))):=by simp[lD,l0]
   have i2:zg .mul [.int 2,.int (k:Int)]=some (.val (.int (2*(k:Int)))):=zm0 (by omega)
   have ht:zB (zv U zh (n+6)) (.prim .lt (.cons (.prim .mul (.cons (.int 2) (.cons (.prim .len (.cons (.prim .idx (.cons (.var 3) (.cons (.int 0) .nil))) .nil)) .nil))) (.cons (.prim .len (.cons (.var 0) .nil)) .nil))) (xT f l s (some (.obj true (yz (zM f k)))) s4)=some (decide (2*k<f.length)):=by
    have:decide (2*(k:Int)<(f.length:Int))=decide (2*k<f.length):=by rw[decide_eq_decide];omega
    simp -implicitDefEqProofs [xT,i0,i1,i2,vS,this]
   by_cases c:2*k<f.length
   ·refine .inr ⟨by rw[ht,decide_eq_true c],?_⟩
    have k4:k<=4:=by omega
    have cl8:(zM f k).length<=6561:=Kg cl9 (KJ (n:=9) (by decide) k4);have lv: ∀d∈zM f k,zv U zh (n+6) 69 [fD f,cD l,.int (s:Int),lD d]=some (.val (.bl (wL f l s d))):=fun d hd=>zo7 n hf (rest_ne nd (by rw[(Jn hd).1];omega))
    have om:=zpb (f:=f) (n+5) h9 (cs:=zM f k) (by omega) fun d hd=>by rw[(Jn hd).1];omega
    obtain⟨fl,ρ',e,hq⟩:=zm7 (i:=4) (body:=zp (zD U zh (n+6)) zh ke) (f:=lD) (xs:=zM f k)
     (fun i ρ=>∃s4,ρ=xT f l s (some (.val (yz (zM f k)))) s4/\((zM f k).take i).find? (wL f l s)=none/\zC (some s4)=true)
     (fun r=>∃c,(vA f (k+1)).find? (wL f l s)=some c/\r= .val (lD c))
     (ρ:=xT f l s (some (.val (yz (zM f k)))) s4) ⟨s4,rfl,rfl,q3⟩
     fun i ρ hi zz=>by
      obtain⟨s4,eρ,g1,g2⟩:=zz;subst eρ;have hd:(zM f k)[i]∈zM f k:=Kt _;have lv1:=lv _ hd;have tk:(zM f k).take (i+1)=(zM f k).take i++[(zM f k)[i]]:=by rw[List.take_add_one,List.getElem?_eq_getElem hi];rfl
      by_cases hb:wL f l s (zM f k)[i]=true
      ·rw[hb] at lv1
       refine⟨.rt (.val (lD (zM f k)[i])),xT f l s (some (.val (yz (zM f k)))) (some (.val (lD (zM f k)[i]))),?_,.inr ⟨_,rfl,(zM f k)[i],?_,rfl⟩⟩
       ·generalize (zM f k)[i]=d at*
        simp only[ke,xT];simp[lv1]
       ·rw[zaG,List.find?_append,q2]
        have sp:zM f k=(zM f k).take i++((zM f k)[i]::(zM f k).drop (i+1)):=by
         rw[<-List.drop_eq_getElem_cons hi,List.take_append_drop]
        conv=>lhs;rw[sp]
        rw[List.find?_append,g1,List.find?_cons_of_pos hb];rfl
      ·have hb':wL f l s (zM f k)[i]=false:=by simpa using hb
       rw[hb'] at lv1;refine⟨.nx,xT f l s (some (.val (yz (zM f k)))) (some (.val (lD (zM f k)[i]))),?_,.inl ⟨.inl rfl,some (.val (lD (zM f k)[i])),rfl,?_,yY⟩⟩
       ·generalize (zM f k)[i]=d at*
        simp only[ke,xT];simp[lv1]
       ·rw[tk,List.find?_append,g1,List.find?_cons_of_neg hb];rfl
    have fz:Vh [some (SV.val (fD f)),some (SV.val (cD l)),some (SV.val (.int (s:Int))),some (SV.obj true (yz (zM f k))),s4] 3 (some (some (SV.obj true (yz (zM f k)))))=some ((zM f k).map lD,xT f l s (some (.val (yz (zM f k)))) s4):=rfl;rcases hq with ⟨rfl,s4',rfl,g1,g2⟩|⟨r,rfl,d,g1,rfl⟩
    ·rw[List.take_length] at g1
     refine⟨.nx,xT f l s (some (.obj true (yz (zM f (k+1))))) s4',?_,.inl ⟨.inl rfl,10-(k+1),by omega,k+1,s4',rfl,by omega,?_,g2,rfl⟩⟩
     ·rw[zM]
      generalize zM f k=Q at*;simp -implicitDefEqProofs only[kf,xT];simp -implicitDefEqProofs [q3,jo];rw[fz];simp -implicitDefEqProofs only[Option.map_some,Option.bind_some];rw[e];simp -implicitDefEqProofs [xT,om]
     ·rw[zaG,List.find?_append,q2,g1];rfl
    ·refine⟨.rt (.val (lD d)),ρ',?_,.inr ⟨_,rfl,d,zfj (by omega) g1,rfl⟩⟩
     generalize zM f k=Q at*;simp -implicitDefEqProofs only[kf,xT];simp -implicitDefEqProofs [q3,jo];rw[fz];simp -implicitDefEqProofs only[Option.map_some,Option.bind_some];rw[e];simp -implicitDefEqProofs
   ·refine .inl ⟨by rw[ht,KH c],⟨_,_,rfl⟩,?_⟩
    rw[show (f.length+1)/2=k by omega];exact q2
 rw[yj znC rfl];unfold vX;rcases hq with ⟨rfl,⟨s3,s4,rfl⟩,hno⟩|⟨r,rfl,c,hc,rfl⟩
 ·rw[hno]
  simp -implicitDefEqProofs only[YM];simp -implicitDefEqProofs [nz,cl,rb,wo,YB];rw[show D.lst [D.lst []]=yz [[]] from rfl,<-xT,e];simp -implicitDefEqProofs
 ·rw[hc]
  simp -implicitDefEqProofs only[YM];simp -implicitDefEqProofs [nz,cl,rb,wo,YB];rw[show D.lst [D.lst []]=yz [[]] from rfl,<-xT,e];simp -implicitDefEqProofs
end
end LK
namespace LK
open L2.LW
section
variable {f:List za} {l:za}
theorem zfl{R:List za}(hn:R.Nodup):Pts R l (Za R l):=by
 have is:=zaq (f:=R) (l:=l) (g:=R) (acc:=[]) (fun x hx=>hx) (fun p hp=>by cases hp);refine⟨fun p hp z=>?_,fun p hp x hx=>?_,?_,fun p hp x hx y hy hxy=>?_⟩
 ·obtain⟨c,hc,rfl⟩:=is p hp
  have:=zow (l:=l) hc;rw[z] at this;cases this
 ·obtain⟨c,hc,rfl⟩:=is p hp
  exact (jr.mp hx).1
 ·have nd:=zat (f:=R) (l:=l) hn (g:=R) (acc:=[]) (fun x hx=>hx) (fun p hp=>by cases hp) (by simp)
  exact (List.pairwise_flatten.mp nd).2.imp fun h x hx hx'=>h x hx x hx' rfl
 ·obtain⟨c,hc,rfl⟩:=is p hp
  obtain⟨hxf,k,hk⟩:=jr.mp hx;have h1:Bk R l x 1 y:=.inr ⟨hy,x,rfl,by rw[wE];exact hxy⟩;exact jr.mpr ⟨hy,_,Bk.join hk h1⟩
theorem zfm{s:Nat}(h: ∀k c,c∈zM f k->wL f l s c=false):vX f l s= .non:=by
 unfold vX;rw[List.find?_eq_none.mpr fun c hc=>?_];unfold vA at hc;obtain⟨k,_,hk⟩:=List.mem_flatMap.mp hc;rw[h k c hk];simp
theorem zfn(nd:f.Nodup){w:List za}(hw:HW f l w)(c:List za):(Za (wU f c) l).length<=c.length+1:=
 zo1 nd hw (c:=c) (fun x=>mem_rest) (zfl (nd.sublist Ku))
theorem zpd(nd:f.Nodup){w:List za}(hw:HW f l w):vX f l 1= .non:=zfm fun k c hc=>by
 have:=zfn nd hw c;unfold wL;rw[KH (by omega)];rfl
theorem zpe(nd:f.Nodup){w:List za}(hw:HR f l w):vX f l 0= .non:=zfm fun k c hc=>by
 obtain⟨h1,h2⟩:=Jn hc;have h3:=zfn nd hw.toHW c;unfold wL
 cases hq:c with
 |nil=>
  rw[hq] at h3;rw[KH (p:=1<_) (by simp at h3;omega),Bool.and_false]
 |cons a r=>
  have:=zo2 nd hw (c:=c) ⟨a,by rw[hq];exact Ke,h2 a (by rw[hq];exact Ke)⟩ (fun x=>mem_rest) (zfl (nd.sublist Ku));rw[hq] at this;rw[KH (by omega)];rfl
theorem zfo(hl:OkL l)(nd:f.Nodup){w:List za}(hw:HW f l w){k:Nat}(h:Mn f l k):k=f.length/2:=by
 obtain⟨C,hC,rfl⟩:=h.1;have a0:=zeK hl nd h 0;have a1:=zeK hl nd h 1;have a2:=kA (l:=l) f;unfold yU at a2;have ch:=zfe (f:=f) (C:=C) (fun a b hab ha hb=>hC.hit a ha b hb hab) (Zc hw.step) (fun x hx=>hw.pm.mem_iff.mp hx);have wn:w.Nodup:=hw.pm.nodup_iff.mpr nd
 have:=wy (l:=w.filter fun c=>decide (c∈C)) (m:=C) (wn.sublist Ku) fun x hx=>by
  have:=(List.mem_filter.mp hx).2;simpa using this
 rw[hw.pm.length_eq] at ch;omega
theorem zpf{w:List za}(nd:f.Nodup)(hw:HR f l w)(h3:3<=f.length){c:za}(hc:c∈f):2<=(f.filter (zK l c)).length:=by
 obtain⟨u,hu,hla⟩:=hw.turn hc;have un:u.Nodup:=hu.pm.nodup_iff.mpr nd;have ul:=hu.pm.length_eq;obtain⟨v,rfl⟩:=List.getLast?_eq_some_iff.mp hla;rw[List.length_append,List.length_singleton] at ul
 cases v with
 |nil=>simp at ul;omega
 |cons a r=>
  have n1:=hu.ring a c rfl hla
  obtain⟨b,hb⟩: ∃b,(a::r).getLast? =some b:=by
   cases z:(a::r).getLast? with
   |none=>rw[List.getLast?_eq_none_iff] at z;cases z
   |some b=>exact⟨b,rfl⟩
  have n2:=(kz.mp (Zc hu.step)).2.2 b c hb rfl;have am:a∈f:=hu.pm.mem_iff.mp (by simp);have bm:b∈f:=hu.pm.mem_iff.mp (Kp _ (Kz hb))
  have ab:a≠b:=fun e=>by
   subst e;obtain⟨q,hq⟩:=List.getLast?_eq_some_iff.mp hb
   cases q with
   |nil=>simp at hq;rw[hq] at ul;simp at ul;omega
   |cons x y=>
    have hq':x=a:=by simp at hq;exact hq.1.symm
    rw[hq,hq'] at un;simp at un
  refine wy (l:=[a,b]) (by simpa using ab) fun x hx=>?_
  rw[wE] at n1 n2;rcases List.mem_cons.mp hx with rfl|hx
  ·exact List.mem_filter.mpr ⟨am,n1⟩
  ·rw[List.mem_singleton.mp hx];exact List.mem_filter.mpr ⟨bm,n2⟩
theorem zpg{w g:List za}(nd:f.Nodup)(gd:g.Nodup)(gm: ∀x,x∈g↔xl x∈f)(h:w.Perm f):(w.map xl).Perm g:=by
 refine (h.map xl).trans ((List.perm_ext_iff_of_nodup ?_ gd).mpr fun x=>?_)
 ·exact Jg (fun x _ y _ e=>by rw[<-jt x,e,jt]) nd
 ·rw[gm x,List.mem_map]
  exact⟨fun ⟨y,hy,e⟩=>by rw[<-e,jt];exact hy,fun h=>⟨_,h,jt x⟩⟩
theorem zaH{w g:List za}(nd:f.Nodup)(gd:g.Nodup)(gm: ∀x,x∈g↔xl x∈f)(h:HW f l w):HW g l (w.map xl):=
 ⟨zpg nd gd gm h.pm,fun i hi=>by rw[List.getElem_map,List.getElem_map];exact zeI _ _ (h.step i (by simpa using hi))⟩
theorem zfp{w g:List za}(nd:f.Nodup)(gd:g.Nodup)(gm: ∀x,x∈g↔xl x∈f)(h:HR f l w):HR g l (w.map xl):=
 ⟨zaH nd gd gm h.toHW,fun a b ha hb=>by
  rw[List.head?_map,jo2] at ha;rw[List.getLast?_map,jo2] at hb;obtain⟨x,hx,rfl⟩:=ha;obtain⟨y,hy,rfl⟩:=hb;exact zeI _ _ (h.ring x y hx hy)⟩
noncomputable def RW(f:List za)(l:za):Prop:=3<=f.length/\∃w,HR f l w
theorem zfq(n:Nat)(hf:OkF f)(hl:OkL l)(h16:f.length<=16):(RW f l/\∃w,zv U zh (n+5) 68 [fD f,cD l]=some (.obj true (lD w)))\/(¬RW f l/\zv U zh (n+5) 68 [fD f,cD l]=some (.val .non)):=by
 rcases zo0 n hf hl h16 with ⟨h,e⟩|⟨h,w,hw,e⟩|⟨h,hw,e⟩
 ·exact .inr ⟨fun z=>by have:=z.1;omega,e⟩
 ·exact .inl ⟨⟨h,w,hw⟩,w,e⟩
 ·exact .inr ⟨fun z=>z.2.elim hw,e⟩
theorem zph{a b:PySem.Str}:zg .neS [.str a,.str b]=some (.val (.bl (!decide (a=b)))):=rfl
theorem zaI{a b:Bool}:zg .ne [.bl a,.bl b]=some (.val (.bl (a != b))):=by rw[zaa rfl rfl,zN];rfl
theorem zpi(n:Nat)(hf:OkF f){s0:Option SV}{ρ:Env}:
  zk (zv U zh n) (.comp false (.cons (.var 1) .nil) (.bl true) (.tup (.cons (.prim .idx (.cons (.var 0) (.cons (.int 1) .nil))) (.cons (.prim .idx (.cons (.var 0) (.cons (.int 0) .nil))) .nil)))) (s0::some (.val (fD f))::ρ)=some (.obj true (.lst (f.map fun c=>cD (xl c)))):=by
 have hl':=yD;have hlen:=hf.len;rw[YG (rs:=[.val (fD f)]) (xs:=f) (f:=cD) (fun c=>cD (xl c))]
 ·simp
 ·rfl
 ·omega
 ·intro c _
  have i0:zg .idx [cD c,.int 0]=some (.val (.int c.1)):=rfl;have i1:zg .idx [cD c,.int 1]=some (.val (.int c.2)):=rfl;simp[i0,i1];rfl
theorem zpj(n:Nat)(hf:OkF f)(hl:OkL l)(h2: ∀c∈f,2<=(f.filter (zK l c)).length){s0:Option SV}{ρ:Env}:
  zk (zv U zh (n+5)) (.comp false (.cons (.var 1) .nil) (.prim .lt (.cons (.prim .len (.cons (.call 12 (.cons (.var 2) (.cons (.var 3) (.cons (.var 0) .nil)))) .nil)) (.cons (.int 2) .nil))) (.var 0)) (s0::some (.val (fD f))::some (.val (cD l))::ρ)=some (.obj true (lD [])):=by
 have hl':=yD;have hlen:=hf.len;rw[jp (rs:=[.val (fD f)]) (xs:=f) (f:=cD) (fun _=>false) cD]
 ·simp[lD]
 ·simp
 ·rfl
 ·omega
 ·intro c hc
  have nc:=znN n hf hl hc;have h:=h2 c hc;have lt: ¬((((f.filter (zK l c)).length:Nat):Int)<2):=by omega
  have ln:zg .len [.lst ((f.filter (zK l c)).map cD)]=some (.val (.int (f.filter (zK l c)).length)):=zap;simp[nc,ln,lt]
 ·intro c _ h;cases h
end
theorem zfr{w:List za}:Zn (lD w)=false:=rfl
theorem zpk(n:Nat)(ns:List Int):zv U zh (n+32) 77 [sD ns]=some (.val (.bl true)):=by
 have hl':=yD;obtain⟨f,hf,h9,e1⟩:=znU (n+29) ns (at_:=2) (most:=9) (by decide) (by decide) (by decide);obtain⟨l,hl,e2⟩:=znW (n+30) (ZH ns 0);have hlen:=hf.len;have nd:=OkF.nodup hf.rise;have c0:=Jc (n+30) ns (k:=0) (by decide);obtain⟨L,em,el⟩:=zoF (n+1) hl hf;obtain⟨L3,epd⟩:=zoG (n+1) hl hf;obtain⟨g,hg,gm,gl,gs⟩:=zoH hf;have gd:=OkF.nodup hg.rise;have gm': ∀x,x∈f↔xl x∈g:=fun x=>by rw[gm,jt]
 have tt:zg .toTup [lD g]=some (.val (fD g)):=rfl;have k1:zv U zh (n+31) 71 [fD f,cD l,.int 1]=some (.val (vX f l 1)):=zfk (n+24) hf hl (by omega) (s:=1) (by omega);have k0:zv U zh (n+31) 71 [fD f,cD l,.int 0]=some (.val (vX f l 0)):=zfk (n+24) hf hl (by omega) (s:=0) (by omega);have hc:=fun s0 ρ=>zoI (n+26) hf hl (s0:=s0) (ρ:=ρ)
 have pid:zg .idx [.tup [.str (PySem.Str.ofString (if 2*ju f l=f.length then "paired" else "crowd")),.lst L3],.int 0]=some (.val (.str (PySem.Str.ofString (if 2*ju f l=f.length then "paired" else "crowd")))):=rfl;have tc:=fun s0 ρ=>zpi (n+31) hf (s0:=s0) (ρ:=ρ)
 have wf:=ze8 (n+26) hf hl (by omega);have wg:=ze8 (n+26) hg hl (by omega);have rf:=zfq (n+26) hf hl (by omega);have rg:=zfq (n+26) hg hl (by omega);have f2:zg .fdiv [.int (f.length:Int),.int 2]=some (.val (.int ((f.length:Int)/2))):=gZ (by decide);have i5:zg .idx [.lst [.int ((yt f l 0).length:Int),.int ((yt f l 1).length:Int)],.int 0]=some (.val (.int ((yt f l 0).length:Int))):=rfl;have i6:zg .idx [.lst [.int ((yt f l 0).length:Int),.int ((yt f l 1).length:Int)],.int 1]=some (.val (.int ((yt f l 1).length:Int))):=rfl;have q0:yU l 0 f=(yt f l 0).length:=rfl;have q1:yU l 1 f=(yt f l 1).length:=rfl
 have hwL: ∀w,HW f l w->((yt f l 0).length<=(yt f l 1).length+1/\(yt f l 1).length<=(yt f l 0).length+1)/\vX f l 1= .non/\ju f l=f.length/2:=fun w hw=>by
  have:=zo3 hl hf.ne hw;exact⟨by omega,zpd nd hw,zfo hl nd hw (zeN hl hf)⟩
 have hrL:RW f l->(yt f l 0).length=(yt f l 1).length/\vX f l 0= .non/\2*ju f l=f.length/\(∃w,HW f l w)/\∀c∈f,2<=(f.filter (zK l c)).length:=fun ⟨h3,w,hw⟩=>by
  have h1:=zo4 hl hf.ne hw;have h2:=kA (l:=l) f;have h4:=zfo hl nd hw.toHW (zeN hl hf);exact⟨by omega,zpe nd hw,by omega,⟨w,hw.toHW⟩,fun c hc=>zpf nd hw h3 hc⟩
 have hue1:((yt f l 0).length<=(yt f l 1).length+1/\(yt f l 1).length<=(yt f l 0).length+1)->¬(1:Int)<(if ((yt f l 0).length:Int)-((yt f l 1).length:Int)<0 then -(((yt f l 0).length:Int)-((yt f l 1).length:Int)) else ((yt f l 0).length:Int)-((yt f l 1).length:Int)):=fun h=>by split<;>omega
 generalize (yt f l 0).length=A at*;generalize (yt f l 1).length=B at*;have wgf: ∀w,HW g l w->∃w,HW f l w:=fun w h=>⟨_,zaH gd nd gm' h⟩
 have wfg: ∀w,HW f l w->∃w,HW g l w:=fun w h=>⟨_,zaH nd gd gm h⟩
 have rgf:RW g l->RW f l:=fun ⟨h3,w,h⟩=>⟨by omega,_,zfp gd nd gm' h⟩
 have rfg:RW f l->RW g l:=fun ⟨h3,w,h⟩=>⟨by omega,_,zfp nd gd gm h⟩
 rw[yj znD rfl];simp only[Ja];rcases wf with ⟨w,hw,ew⟩|⟨hw,ew⟩
 ·obtain⟨a1,a2,a3⟩:=hwL w hw
  have a1':=hue1 a1;rw[a2] at k1;rcases wg with ⟨v,hv,ev⟩|⟨hv,ev⟩
  ·have a4:((L.length:Nat):Int)=(f.length:Int)/2:=by omega
   rcases rf with ⟨hr,r,er⟩|⟨hr,er⟩
   ·obtain⟨b1,b2,b3,_,b5⟩:=hrL hr
    have lc:=fun s0 ρ=>zpj (n+26) hf hl b5 (s0:=s0) (ρ:=ρ)
    rw[b2] at k0;rw[b3] at pid epd;have pp:zg .neS [.str (PySem.Str.ofString "paired"),.str (PySem.Str.ofString "paired")]=some (.val (.bl false)):=by rw[zph];simp
    rw[if_pos rfl] at pid epd;rcases rg with ⟨hs,s,es⟩|⟨hs,es⟩
    ·subst b1
     simp[e1,c0,e2,ew,er,hc,i5,i6,zfr,k1,k0,em,zeO,a4,vS,f2,epd,pid,pp,zmN,lc,zom,tc,gs,tt,ev,es,zaI,zao]
    ·exact KC (rfg hr) hs
   ·rcases rg with ⟨hs,s,es⟩|⟨hs,es⟩
    ·exact KC (rgf hs) hr
    ·simp[e1,c0,e2,ew,er,hc,i5,i6,zfr,a1',k1,em,zeO,a4,vS,f2,tc,gs,tt,ev,es,zaI,zao]
  ·obtain⟨v,hv'⟩:=wfg w hw
   exact KC hv' (hv v)
 ·rcases wg with ⟨v,hv,ev⟩|⟨hv,ev⟩
  ·obtain⟨v,hv'⟩:=wgf v hv
   exact KC hv' (hw v)
  ·rcases rf with ⟨hr,r,er⟩|⟨hr,er⟩
   ·obtain⟨w,h⟩:=(hrL hr).2.2.2.1
    exact KC h (hw w)
   ·rcases rg with ⟨hs,s,es⟩|⟨hs,es⟩
    ·exact KC (rgf hs) hr
    ·simp[e1,c0,e2,ew,er,hc,tc,gs,tt,ev,es,zaI,zao]
theorem zpl(ns:List Int)(_:ns.length<=63):zv U zh depth 77 [.lst (ns.map D.int)]=some (.val (.bl true)):=zpk 8 ns
end LK
set_option maxHeartbeats 4000000
namespace LK
open PySem PySem.Spec PyProof.Rows L2 L2.LW
noncomputable def zA(i:Nat):Stmt:=PySem.Challenge.pw_leaperwalk_k11_whole_why_no_walk.main.body.getD i (.Pass ⟨0,0,0,0⟩)
noncomputable def zU:Nat->List Str
 |0=>["thing","least","most"]
 |1=>["thing"]
 |2=>["thing"]
 |3=>["thing"]
 |4=>["cells"]
 |5=>["thing"]
 |6=>["floor"]
 |7=>["leap"]
 |8=>["floor","cell"]
 |9=>["down","right"]
 |10=>["leap","one","other"]
 |11=>["floor","leap","cell"]
 |12=>["floor","leap","cell"]
 |13=>["_law_script","_law_k"]
 |14=>["_law_cell_here","_law_prime","_law_many"]
 |15=>["_law_script","_law_at","_law_most"]
 |16=>["_law_cell_here"]
 |20=>["floor","leap","goal"]
 |21=>["leap"]
 |22=>["leap"]
 |23=>["leap","cell"]
 |24=>["floor","leap","hue"]
 |25=>["floor","leap"]
 |30=>["cells","leap"]
 |37=>["floor","leap","mates","cell","tried"]
 |38=>["floor","leap"]
 |39=>["floor","mates"]
 |40=>["floor","leap","mates","hue"]
 |43=>["floor","leap"]
 |47=>["floor","leap"]
 |61=>["floor","most"]
 |62=>["floor","leap","cell"]
 |63=>["count","starts"]
 |64=>["near","layer"]
 |65=>["near","starts"]
 |66=>["floor","near","starts","ends"]
 |67=>["floor","leap"]
 |68=>["floor","leap"]
 |69=>["floor","leap","spare","cut"]
 |70=>["floor","cuts"]
 |71=>["floor","leap","spare"]
 |77=>["_law_script"]
 |_=>[]
noncomputable def zfs:Nat->List Nat
 |37=>[2,4]
 |_=>[]
noncomputable abbrev fO(x:Str)(i:Nat):=PySem.W.fnOf x x (Yd (zA i)) (jf (zA i)) (zu (zA i)) .none
structure nT (K:Ka)(mg:Str->Option Value)(F:Nat->Addr)(FD:Nat->FuncData)(k:Nat)(x:Str)(t:Nat):Prop where
 m:mg x=some (.ref (F k))
 f:Fun K x x (zA t) (F k) (FD k)
 b:Binds K (FD k) (zU k) []
structure fH (K:Ka)(f:Addr)(oc:Value)(od:Option Addr)(kV dc pm:Value)(an:Option Addr)(cd ct:Value)(sl:Array (Option Value))(x:Str)(t:Nat):Prop where
 a:PySem.W.nsIn K mainGlobals x=some (some (.ref f))
 l:K.lookup f=some ⟨oc,od,.func (fO x t kV dc pm an cd ct),sl⟩
 e:PySem.W.codeIn K cd x=true
 k:PySem.W.keepIn K (.ref f)=true
noncomputable def Jo(K:Ka)(a:Addr):FuncData:=match K.lookup a with
 |some ⟨_,_,.func fd,_⟩=>fd
 |_=>fO "" 0 .none .none .none none .none .none
theorem zft{K:Ka}{f:Addr}{oc:Value}{od:Option Addr}{fd:FuncData}{sl:Array (Option Value)}(l:K.lookup f=some ⟨oc,od,.func fd,sl⟩):Jo K f=fd:=by unfold Jo;rw[l]
theorem yg{K:Ka}{mg:Str->Option Value}{F:Nat->Addr}{h:Heap}{f:Addr}{oc:Value}{od:Option Addr}{kV dc pm:Value}{an:Option Addr}{cd ct:Value}{sl:Array (Option Value)}{x:Str}{t k:Nat}(X:K.In h)(G:h.Ns mainGlobals mg)(z:fH K f oc od kV dc pm an cd ct sl x t)
  (hF:F k=f) (hb: ∀(kV doc pm:Value) (an:Option Addr) (cdv ct:Value) (us:List Value),us.length=(zU k).length->bindArgs (fO x t kV doc pm an cdv ct) ⟨us,[]⟩=pure ((zU k).zip us)):nT K mg F (fun i=>Jo K (F i)) k x t:=by
 subst hF;have e:=zkg (st:=zA t) z.l z.e z.k;have d:=zft z.l;exact⟨Kv X G z.a,by rw[d];exact e,by rw[d];exact e.binds hb⟩
structure Txt (K:Ka)(mg:Str->Option Value)(F:Nat->Addr)(FD:Nat->FuncData)(TK:Nat->Tok):Prop where
 n0:nT K mg F FD 0 "is_whole" 11
 n1:nT K mg F FD 1 "is_couple" 12
 n2:nT K mg F FD 2 "is_cell" 13
 n3:nT K mg F FD 3 "is_leap" 14
 n4:nT K mg F FD 4 "is_rising" 15
 n5:nT K mg F FD 5 "is_floor" 16
 n6:nT K mg F FD 6 "checked" 17
 n7:nT K mg F FD 7 "checked_leap" 18
 n8:nT K mg F FD 8 "checked_cell" 19
 n9:nT K mg F FD 9 "folded" 21
 n10:nT K mg F FD 10 "are_near" 22
 n11:nT K mg F FD 11 "cells_near" 23
 n12:nT K mg F FD 12 "near_cells" 30
 n13:nT K mg F FD 13 "_law_cell" 54
 n14:nT K mg F FD 14 "_law_mix" 55
 n15:nT K mg F FD 15 "_law_floor" 56
 n16:nT K mg F FD 16 "_law_leap" 57
 n20:nT K mg F FD 20 "leads_to" 24
 n21:nT K mg F FD 21 "greatest_divisor" 26
 n22:nT K mg F FD 22 "has_odd_sum" 27
 n23:nT K mg F FD 23 "hue_of" 28
 n24:nT K mg F FD 24 "cells_of_hue" 29
 n25:nT K mg F FD 25 "hues_of" 31
 n30:nT K mg F FD 30 "parts_within" 25
 n37:nT K mg F FD 37 "finds_mate" 47
 n38:nT K mg F FD 38 "all_mates" 48
 n39:nT K mg F FD 39 "pairs_of" 49
 n40:nT K mg F FD 40 "crowd_and_around" 50
 n43:nT K mg F FD 43 "most_pairs" 51
 n47:nT K mg F FD 47 "paired" 52
 n61:nT K mg F FD 61 "refuse_big" 35
 n62:nT K mg F FD 62 "bits_near" 36
 n63:nT K mg F FD 63 "one_cell_walks" 37
 n64:nT K mg F FD 64 "one_cell_longer" 38
 n65:nT K mg F FD 65 "layers_from" 39
 n66:nT K mg F FD 66 "walk_between" 40
 n67:nT K mg F FD 67 "walk" 41
 n68:nT K mg F FD 68 "ring_walk" 42
 n69:nT K mg F FD 69 "leaves_too_many" 43
 n70:nT K mg F FD 70 "one_cell_more" 44
 n71:nT K mg F FD 71 "cut_of" 45
 n77:nT K mg F FD 77 "law" 58
 z_isinstance:mg "isinstance"=none
 z_int:mg "int"=none
 z_bool:mg "bool"=none
 z_len:mg "len"=none
 z_tuple:mg "tuple"=none
 z_range:mg "range"=none
 z_all:mg "all"=none
 z_abs:mg "abs"=none
 z_max:mg "max"=none
 z_min:mg "min"=none
 z_sorted:mg "sorted"=none
 z_enumerate:mg "enumerate"=none
 z_sum:mg "sum"=none
 z_reversed:mg "reversed"=none
 c0:mg "LAST_LINE"=some (.int 7 (TK 0))
 c1:mg "MOST_CELLS"=some (.int 24 (TK 1))
 c2:mg "LONGEST_LEAP"=some (.int 4 (TK 2))
 c3:mg "MOST_TO_WALK"=some (.int 16 (TK 3))
 c4:mg "MOST_TO_CUT"=some (.int 9 (TK 4))
noncomputable abbrev xD(x:Str):Prop:=(x==("__debug__":Str))=false
noncomputable abbrev xC(x:Str):Prop:=(x==("__classdict__":Str))=false
noncomputable abbrev xN(x:Str):Prop:=x≠"__name__"
noncomputable abbrev xV(i:Nat)(x:Str):Prop:=wq (zu (zA i)) x
noncomputable abbrev xL(i:Nat)(x:Str):Prop:=wM (zu (zA i)) x
noncomputable abbrev xG(i:Nat)(x:Str):Prop:=(zu (zA i)).names.lookup x=some .globalImplicit
noncomputable def zfu(N P:List Str)(sc:Scope):Bool:=decide (sc.kind= .function)&& !sc.isCoroutine&& !sc.isGenerator&&decide N.Nodup&&decide (N.take P.length=P)&&P.all (fun x=>decide (sc.names.lookup x=some .local)||decide (sc.names.lookup x=some .cell))&&sc.names.all fun y=>decide (y.2≠ .free)
theorem yh{N P:List Str}{sc:Scope}(h:zfu N P sc=true):FnScope N P sc:=by
 simp only[zfu,Bool.and_eq_true,decide_eq_true_eq,List.all_eq_true,Bool.or_eq_true,Bool.not_eq_true'] at h;obtain⟨⟨⟨⟨⟨⟨a,b⟩,c⟩,d⟩,e⟩,f⟩,g⟩:=h;exact⟨a,b,c,d,e,f,g⟩
noncomputable abbrev rO(F:Nat->Addr)(cdv:Value)(A:Around)(s:Shared)(n:Nat)(q:Str)(t i:Nat):Prop:=Room n (A.deeper (envOfC q (zu (zA t)) s.heap.objs.size (F i) cdv))
noncomputable abbrev bO(Pg:Program)(w:World)(K:Ka)(mg:Str->Option Value)(base:Heap)(F:Nat->Addr)(cdv:Value)(A:Around)(outer:List PySem.Env)(s:Shared)(H:Hp)(E:XK)(fuel n:Nat)(N:List Str)(q:Str)(t i:Nat)(ir:Ss):Prop:=ISs (jB wr Pg w K mg base N q (zu (zA t)) (F i) cdv A outer s H E).nox (zp (zD U fuel n) fuel ir) (jf (zA t))
theorem zpm:xD "least":=by decide+kernel
theorem zpn:xC "least":=by decide+kernel
theorem wz:xD "thing":=by decide+kernel
theorem wA:xC "thing":=by decide+kernel
theorem zfv:xD "most":=by decide+kernel
theorem zfw:xC "most":=by decide+kernel
theorem zpo:xD "int":=by decide+kernel
theorem zpp:xN "int":=by decide+kernel
theorem zpq:xD "bool":=by decide+kernel
theorem zpr:xN "bool":=by decide+kernel
theorem yZ:xD "len":=by decide+kernel
theorem xa:xN "len":=by decide+kernel
theorem kC:xD "tuple":=by decide+kernel
theorem kD:xN "tuple":=by decide+kernel
theorem zfx:xD "LAST_LINE":=by decide+kernel
theorem Jp:xD "is_whole":=by decide+kernel
theorem zfy:xD "is_couple":=by decide+kernel
theorem zps:xD "LONGEST_LEAP":=by decide+kernel
theorem ZM:xD "cells":=by decide+kernel
theorem ZN:xC "cells":=by decide+kernel
theorem vB:xD "place":=by decide+kernel
theorem vC:xC "place":=by decide+kernel
theorem zfz:xD "all":=by decide+kernel
theorem zfA:xN "all":=by decide+kernel
theorem zpt:xD "is_rising":=by decide+kernel
theorem zpu:xD "part":=by decide+kernel
theorem zpv:xC "part":=by decide+kernel
theorem zfB:xD "is_cell":=by decide+kernel
theorem zpw:xD "MOST_CELLS":=by decide+kernel
theorem zQ:xD "floor":=by decide+kernel
theorem zR:xC "floor":=by decide+kernel
theorem zpx:xD "is_floor":=by decide+kernel
theorem yk:xD "leap":=by decide+kernel
theorem yl:xC "leap":=by decide+kernel
theorem zpy:xD "is_leap":=by decide+kernel
theorem yq:xD "cell":=by decide+kernel
theorem yr:xC "cell":=by decide+kernel
theorem zfC:xD "right":=by decide+kernel
theorem zfD:xC "right":=by decide+kernel
theorem Jq:xD "abs":=by decide+kernel
theorem Jr:xN "abs":=by decide+kernel
theorem zfE:xD "down":=by decide+kernel
theorem zfF:xC "down":=by decide+kernel
theorem zfG:xD "max":=by decide+kernel
theorem zfH:xN "max":=by decide+kernel
theorem zpz:xD "min":=by decide+kernel
theorem zpA:xN "min":=by decide+kernel
theorem wm:xD "other":=by decide+kernel
theorem wp:xC "other":=by decide+kernel
theorem zfI:xD "one":=by decide+kernel
theorem zfJ:xC "one":=by decide+kernel
theorem zpB:xD "folded":=by decide+kernel
theorem zfK:xD "are_near":=by decide+kernel
theorem Js:xD "leads":=by decide+kernel
theorem Jt:xC "leads":=by decide+kernel
theorem kE:xD "edge":=by decide+kernel
theorem kF:xC "edge":=by decide+kernel
theorem Ju:xD "further":=by decide+kernel
theorem Jv:xC "further":=by decide+kernel
theorem kG:xD "cells_near":=by decide+kernel
theorem zfL:xD "goal":=by decide+kernel
theorem zfM:xC "goal":=by decide+kernel
theorem kH:xD "parts":=by decide+kernel
theorem kI:xC "parts":=by decide+kernel
theorem zfN:xD "placed":=by decide+kernel
theorem zfO:xC "placed":=by decide+kernel
theorem zpC:xD "leads_to":=by decide+kernel
theorem zaJ:xD "number":=by decide+kernel
theorem zaK:xC "number":=by decide+kernel
theorem kJ:xD "divisor":=by decide+kernel
theorem kK:xC "divisor":=by decide+kernel
theorem zfP:xD "greatest_divisor":=by decide+kernel
theorem zfQ:xD "row":=by decide+kernel
theorem zfR:xC "row":=by decide+kernel
theorem zpD:xD "has_odd_sum":=by decide+kernel
theorem zpE:xD "column":=by decide+kernel
theorem zpF:xC "column":=by decide+kernel
theorem zfS:xD "hue_of":=by decide+kernel
theorem zfT:xD "hue":=by decide+kernel
theorem zfU:xC "hue":=by decide+kernel
theorem zpG:xD "checked_cell":=by decide+kernel
theorem ZO:xD "checked_leap":=by decide+kernel
theorem ZP:xD "checked":=by decide+kernel
theorem kL:xD "cells_of_hue":=by decide+kernel
theorem zpH:xD "sum":=by decide+kernel
theorem zpI:xN "sum":=by decide+kernel
theorem Jw:xD "layer":=by decide+kernel
theorem Jx:xC "layer":=by decide+kernel
theorem zpJ:xD "count":=by decide+kernel
theorem zpK:xC "count":=by decide+kernel
theorem zaL:xD "starts":=by decide+kernel
theorem zaM:xC "starts":=by decide+kernel
theorem zaN:xD "longer":=by decide+kernel
theorem zaO:xC "longer":=by decide+kernel
theorem vY:xD "near":=by decide+kernel
theorem vZ:xC "near":=by decide+kernel
theorem ZQ:xD "visited":=by decide+kernel
theorem ZR:xC "visited":=by decide+kernel
theorem kM:xD "bit":=by decide+kernel
theorem kN:xC "bit":=by decide+kernel
theorem YU:xD "layers":=by decide+kernel
theorem YV:xC "layers":=by decide+kernel
theorem zpL:xD "one_cell_longer":=by decide+kernel
theorem zpM:xD "one_cell_walks":=by decide+kernel
theorem zfV:xD "ends":=by decide+kernel
theorem zfW:xC "ends":=by decide+kernel
theorem zpN:xD "layers_from":=by decide+kernel
theorem zfX:xD "anywhere":=by decide+kernel
theorem zfY:xC "anywhere":=by decide+kernel
theorem zfZ:xD "walk_between":=by decide+kernel
theorem zf0:xD "bits_near":=by decide+kernel
theorem zf1:xD "MOST_TO_WALK":=by decide+kernel
theorem zaP:xD "refuse_big":=by decide+kernel
theorem ZS:xD "cut":=by decide+kernel
theorem ZT:xC "cut":=by decide+kernel
theorem zaQ:xD "spare":=by decide+kernel
theorem zaR:xC "spare":=by decide+kernel
theorem zpO:xD "rest":=by decide+kernel
theorem zpP:xC "rest":=by decide+kernel
theorem zpQ:xD "parts_within":=by decide+kernel
theorem zf2:xD "wider":=by decide+kernel
theorem zf3:xC "wider":=by decide+kernel
theorem kO:xD "cuts":=by decide+kernel
theorem kP:xC "cuts":=by decide+kernel
theorem zpR:xD "one_cell_more":=by decide+kernel
theorem zpS:xD "leaves_too_many":=by decide+kernel
theorem zpT:xD "MOST_TO_CUT":=by decide+kernel
theorem zaS:xD "tried":=by decide+kernel
theorem zaT:xC "tried":=by decide+kernel
theorem wF:xD "mates":=by decide+kernel
theorem wG:xC "mates":=by decide+kernel
theorem zf4:xD "finds_mate":=by decide+kernel
theorem zaU:xD "around":=by decide+kernel
theorem zaV:xC "around":=by decide+kernel
theorem zaW:xD "crowd":=by decide+kernel
theorem zaX:xC "crowd":=by decide+kernel
theorem zf5:xD "all_mates":=by decide+kernel
theorem zf6:xD "pairs_of":=by decide+kernel
theorem zpU:xD "found":=by decide+kernel
theorem zpV:xC "found":=by decide+kernel
theorem zf7:xD "sorted":=by decide+kernel
theorem zf8:xN "sorted":=by decide+kernel
theorem zf9:xD "alone":=by decide+kernel
theorem zga:xC "alone":=by decide+kernel
theorem zpW:xD "crowd_and_around":=by decide+kernel
theorem zgb:xD "_law_k":=by decide+kernel
theorem zgc:xC "_law_k":=by decide+kernel
theorem Ze:xD "_law_script":=by decide+kernel
theorem Zf:xC "_law_script":=by decide+kernel
theorem jw:xD "_law_cell_here":=by decide+kernel
theorem jx:xC "_law_cell_here":=by decide+kernel
theorem zpX:xD "_law_prime":=by decide+kernel
theorem zpY:xC "_law_prime":=by decide+kernel
theorem zpZ:xD "_law_many":=by decide+kernel
theorem zp0:xC "_law_many":=by decide+kernel
theorem YW:xD "_law_found":=by decide+kernel
theorem YX:xC "_law_found":=by decide+kernel
theorem zp1:xD "_law_most":=by decide+kernel
theorem zp2:xC "_law_most":=by decide+kernel
theorem zgd:xD "_law_right":=by decide+kernel
theorem zge:xC "_law_right":=by decide+kernel
theorem zgf:xD "_law_down":=by decide+kernel
theorem zgg:xC "_law_down":=by decide+kernel
theorem zgh:xD "_law_rows":=by decide+kernel
theorem zgi:xC "_law_rows":=by decide+kernel
theorem zgj:xD "_law_wide":=by decide+kernel
theorem zgk:xC "_law_wide":=by decide+kernel
theorem zgl:xD "_law_way":=by decide+kernel
theorem zgm:xC "_law_way":=by decide+kernel
theorem zp3:xD "_law_seed":=by decide+kernel
theorem zp4:xC "_law_seed":=by decide+kernel
theorem YY:xD "_law_mix":=by decide+kernel
theorem kQ:xD "_law_c":=by decide+kernel
theorem kR:xC "_law_c":=by decide+kernel
theorem kS:xD "_law_r":=by decide+kernel
theorem kU:xC "_law_r":=by decide+kernel
theorem kW:xD "_law_at":=by decide+kernel
theorem kX:xC "_law_at":=by decide+kernel
theorem Jy:xD "_law_cell":=by decide+kernel
theorem zp5:xD "_law_some":=by decide+kernel
theorem zp6:xC "_law_some":=by decide+kernel
theorem ja:xD "_law_leap_here":=by decide+kernel
theorem jb:xC "_law_leap_here":=by decide+kernel
theorem zgn:xD "_law_turned":=by decide+kernel
theorem zgo:xC "_law_turned":=by decide+kernel
theorem zgp:xD "ring_walk":=by decide+kernel
theorem zgq:xD "_law_ring":=by decide+kernel
theorem zgr:xC "_law_ring":=by decide+kernel
theorem zgs:xD "walk":=by decide+kernel
theorem vD:xD "_law_floor_here":=by decide+kernel
theorem vE:xC "_law_floor_here":=by decide+kernel
theorem zp7:xD "near_cells":=by decide+kernel
theorem zp8:xD "paired":=by decide+kernel
theorem zgt:xD "cut_of":=by decide+kernel
theorem kY:xD "_law_sizes":=by decide+kernel
theorem kZ:xC "_law_sizes":=by decide+kernel
theorem zp9:xD "most_pairs":=by decide+kernel
theorem zqa:xD "hues_of":=by decide+kernel
theorem zqb:xD "_law_cells":=by decide+kernel
theorem zqc:xC "_law_cells":=by decide+kernel
theorem zqd:xD "_law_leap":=by decide+kernel
theorem zqe:xD "_law_floor":=by decide+kernel
theorem zqf:FnScope ["thing","least","most"] (zU 0) (zu (zA 11)):=yh (by decide+kernel)
theorem zqg:xV 11 "least":=.inl (by decide+kernel)
theorem zaY:xV 11 "thing":=.inl (by decide+kernel)
theorem zqh:xV 11 "most":=.inl (by decide+kernel)
theorem zgu:xG 11 "isinstance":=by decide+kernel
theorem zqi:xG 11 "int":=by decide+kernel
theorem zqj:xG 11 "bool":=by decide+kernel
theorem zqk:FnScope ["thing"] (zU 1) (zu (zA 12)):=yh (by decide+kernel)
theorem zgv:xV 12 "thing":=.inl (by decide+kernel)
theorem zql:xG 12 "len":=by decide+kernel
theorem zqm:xG 12 "isinstance":=by decide+kernel
theorem zqn:xG 12 "tuple":=by decide+kernel
theorem zqo:FnScope ["thing"] (zU 2) (zu (zA 13)):=yh (by decide+kernel)
theorem zaZ:xV 13 "thing":=.inl (by decide+kernel)
theorem zgw:xG 13 "LAST_LINE":=by decide+kernel
theorem zgx:xG 13 "is_whole":=by decide+kernel
theorem zqp:xG 13 "is_couple":=by decide+kernel
theorem zqq:FnScope ["thing"] (zU 3) (zu (zA 14)):=yh (by decide+kernel)
theorem qa:xV 14 "thing":=.inl (by decide+kernel)
theorem zgy:xG 14 "is_whole":=by decide+kernel
theorem zqr:xG 14 "LONGEST_LEAP":=by decide+kernel
theorem zqs:xG 14 "is_couple":=by decide+kernel
theorem zqt:FnScope ["cells"] (zU 4) (zu (zA 15)):=yh (by decide+kernel)
theorem zqu:xV 15 "cells":=.inr (.inl (by decide+kernel))
theorem zqv:xG 15 "len":=by decide+kernel
theorem zqw:xG 15 "range":=by decide+kernel
theorem zqx:xG 15 "all":=by decide+kernel
theorem zqy:FnScope ["thing"] (zU 5) (zu (zA 16)):=yh (by decide+kernel)
theorem qb:xV 16 "thing":=.inl (by decide+kernel)
theorem zqz:xG 16 "is_rising":=by decide+kernel
theorem zqA:xG 16 "all":=by decide+kernel
theorem zqB:xG 16 "len":=by decide+kernel
theorem zqC:xG 16 "MOST_CELLS":=by decide+kernel
theorem zqD:xG 16 "isinstance":=by decide+kernel
theorem zqE:xG 16 "tuple":=by decide+kernel
theorem zqF:FnScope ["floor"] (zU 6) (zu (zA 17)):=yh (by decide+kernel)
theorem zgz:xV 17 "floor":=.inl (by decide+kernel)
theorem zqG:xG 17 "is_floor":=by decide+kernel
theorem zqH:FnScope ["leap"] (zU 7) (zu (zA 18)):=yh (by decide+kernel)
theorem zgA:xV 18 "leap":=.inl (by decide+kernel)
theorem zqI:xG 18 "is_leap":=by decide+kernel
theorem zqJ:FnScope ["floor","cell"] (zU 8) (zu (zA 19)):=yh (by decide+kernel)
theorem za0:xV 19 "cell":=.inl (by decide+kernel)
theorem zqK:xV 19 "floor":=.inl (by decide+kernel)
theorem zqL:xG 19 "is_cell":=by decide+kernel
theorem zqM:FnScope ["down","right"] (zU 9) (zu (zA 21)):=yh (by decide+kernel)
theorem zgB:xV 21 "right":=.inl (by decide+kernel)
theorem zgC:xV 21 "down":=.inl (by decide+kernel)
theorem qc:xG 21 "abs":=by decide+kernel
theorem zqN:xG 21 "max":=by decide+kernel
theorem zqO:xG 21 "min":=by decide+kernel
theorem zqP:FnScope ["leap","one","other"] (zU 10) (zu (zA 22)):=yh (by decide+kernel)
theorem zgD:xV 22 "other":=.inl (by decide+kernel)
theorem zgE:xV 22 "one":=.inl (by decide+kernel)
theorem zqQ:xV 22 "leap":=.inl (by decide+kernel)
theorem zqR:xG 22 "folded":=by decide+kernel
theorem zqS:FnScope ["floor","leap","cell"] (zU 11) (zu (zA 23)):=yh (by decide+kernel)
theorem zqT:xV 23 "floor":=.inl (by decide+kernel)
theorem zqU:FnScope ["floor","leap","cell"] (zU 12) (zu (zA 30)):=yh (by decide+kernel)
theorem zgF:xV 30 "cell":=.inl (by decide+kernel)
theorem zgG:xV 30 "leap":=.inl (by decide+kernel)
theorem za1:xV 30 "floor":=.inl (by decide+kernel)
theorem zqV:xG 30 "cells_near":=by decide+kernel
theorem zqW:xG 30 "checked_cell":=by decide+kernel
theorem zqX:xG 30 "checked_leap":=by decide+kernel
theorem zqY:xG 30 "checked":=by decide+kernel
theorem zqZ:FnScope ["_law_script","_law_k"] (zU 13) (zu (zA 54)):=yh (by decide+kernel)
theorem zgH:xV 54 "_law_k":=.inl (by decide+kernel)
theorem zgI:xV 54 "_law_script":=.inl (by decide+kernel)
theorem zq0:xG 54 "len":=by decide+kernel
theorem zq1:FnScope ["_law_cell_here","_law_prime","_law_many"] (zU 14) (zu (zA 55)):=yh (by decide+kernel)
theorem zq2:xV 55 "_law_cell_here":=.inl (by decide+kernel)
theorem zq3:xV 55 "_law_prime":=.inl (by decide+kernel)
theorem zq4:xV 55 "_law_many":=.inl (by decide+kernel)
theorem vo:FnScope ["_law_script","_law_at","_law_most","_law_cell_here","_law_rows","_law_wide","_law_down","_law_right","_law_way","_law_found","_law_r","_law_c","_law_seed"] (zU 15) (zu (zA 56)):=yh (by decide+kernel)
theorem za2:xV 56 "_law_found":=.inl (by decide+kernel)
theorem zq5:xV 56 "_law_most":=.inl (by decide+kernel)
theorem zgJ:xV 56 "_law_right":=.inl (by decide+kernel)
theorem zgK:xV 56 "_law_down":=.inl (by decide+kernel)
theorem zgL:xV 56 "_law_rows":=.inl (by decide+kernel)
theorem zgM:xV 56 "_law_wide":=.inl (by decide+kernel)
theorem zgN:xV 56 "_law_way":=.inl (by decide+kernel)
theorem zq6:xV 56 "_law_seed":=.inl (by decide+kernel)
theorem qd:xV 56 "_law_c":=.inl (by decide+kernel)
theorem qe:xV 56 "_law_r":=.inl (by decide+kernel)
theorem qf:xV 56 "_law_at":=.inl (by decide+kernel)
theorem qg:xV 56 "_law_script":=.inl (by decide+kernel)
theorem za3:xV 56 "_law_cell_here":=.inl (by decide+kernel)
theorem zgO:xL 56 "_law_found":=.inl (by decide+kernel)
theorem zq7:xL 56 "_law_seed":=.inl (by decide+kernel)
theorem zq8:xL 56 "_law_c":=.inl (by decide+kernel)
theorem zq9:xL 56 "_law_r":=.inl (by decide+kernel)
theorem zra:xL 56 "_law_way":=.inl (by decide+kernel)
theorem zrb:xL 56 "_law_right":=.inl (by decide+kernel)
theorem zrc:xL 56 "_law_down":=.inl (by decide+kernel)
theorem zrd:xL 56 "_law_wide":=.inl (by decide+kernel)
theorem zre:xL 56 "_law_rows":=.inl (by decide+kernel)
theorem zrf:xL 56 "_law_cell_here":=.inl (by decide+kernel)
theorem zrg:xG 56 "tuple":=by decide+kernel
theorem zgP:xG 56 "range":=by decide+kernel
theorem YZ:xG 56 "_law_mix":=by decide+kernel
theorem qh:xG 56 "_law_cell":=by decide+kernel
theorem zgQ:FnScope ["_law_cell_here","_law_some"] (zU 16) (zu (zA 57)):=yh (by decide+kernel)
theorem zrh:xV 57 "_law_some":=.inl (by decide+kernel)
theorem zri:xV 57 "_law_cell_here":=.inl (by decide+kernel)
theorem zrj:xL 57 "_law_some":=.inl (by decide+kernel)
theorem ZU:FnScope ["floor","leap","goal","leads","edge","further","cell","other"] (zU 20) (zu (zA 24)):=yh (by decide+kernel)
theorem za4:xV 24 "leads":=.inl (by decide+kernel)
theorem zgR:xV 24 "edge":=.inl (by decide+kernel)
theorem zgS:xV 24 "further":=.inl (by decide+kernel)
theorem zgT:xV 24 "cell":=.inl (by decide+kernel)
theorem zrk:xV 24 "leap":=.inl (by decide+kernel)
theorem zrl:xV 24 "floor":=.inl (by decide+kernel)
theorem za5:xV 24 "other":=.inl (by decide+kernel)
theorem zgU:xV 24 "goal":=.inl (by decide+kernel)
theorem zgV:xL 24 "edge":=.inl (by decide+kernel)
theorem zrm:xL 24 "other":=.inl (by decide+kernel)
theorem zrn:xL 24 "cell":=.inl (by decide+kernel)
theorem zro:xL 24 "further":=.inl (by decide+kernel)
theorem zrp:xL 24 "leads":=.inl (by decide+kernel)
theorem zrq:xG 24 "len":=by decide+kernel
theorem zrr:xG 24 "cells_near":=by decide+kernel
theorem zrs:FnScope ["leap"] (zU 21) (zu (zA 26)):=yh (by decide+kernel)
theorem zrt:xV 26 "leap":=.inr (.inl (by decide+kernel))
theorem zru:xG 26 "range":=by decide+kernel
theorem zrv:xG 26 "max":=by decide+kernel
theorem zgW:FnScope ["leap","divisor"] (zU 22) (zu (zA 27)):=yh (by decide+kernel)
theorem za6:xV 27 "leap":=.inl (by decide+kernel)
theorem zgX:xV 27 "divisor":=.inl (by decide+kernel)
theorem zrw:xL 27 "divisor":=.inl (by decide+kernel)
theorem zrx:xG 27 "greatest_divisor":=by decide+kernel
theorem qi:FnScope ["leap","cell","divisor","row","column"] (zU 23) (zu (zA 28)):=yh (by decide+kernel)
theorem zgY:xV 28 "row":=.inl (by decide+kernel)
theorem zgZ:xV 28 "leap":=.inl (by decide+kernel)
theorem zry:xV 28 "column":=.inl (by decide+kernel)
theorem zg0:xV 28 "cell":=.inl (by decide+kernel)
theorem zg1:xV 28 "divisor":=.inl (by decide+kernel)
theorem zrz:xL 28 "column":=.inl (by decide+kernel)
theorem zrA:xL 28 "row":=.inl (by decide+kernel)
theorem zrB:xL 28 "divisor":=.inl (by decide+kernel)
theorem zrC:xG 28 "has_odd_sum":=by decide+kernel
theorem zrD:xG 28 "greatest_divisor":=by decide+kernel
theorem zrE:FnScope ["floor","leap","hue"] (zU 24) (zu (zA 29)):=yh (by decide+kernel)
theorem zrF:xV 29 "floor":=.inl (by decide+kernel)
theorem zrG:FnScope ["floor","leap"] (zU 25) (zu (zA 31)):=yh (by decide+kernel)
theorem za7:xV 31 "leap":=.inl (by decide+kernel)
theorem za8:xV 31 "floor":=.inl (by decide+kernel)
theorem zg2:xG 31 "cells_of_hue":=by decide+kernel
theorem zrH:xG 31 "checked_leap":=by decide+kernel
theorem zrI:xG 31 "checked":=by decide+kernel
theorem Jz:FnScope ["cells","leap","parts","placed","cell","leads"] (zU 30) (zu (zA 25)):=yh (by decide+kernel)
theorem zg3:xV 25 "parts":=.inl (by decide+kernel)
theorem zg4:xV 25 "cell":=.inl (by decide+kernel)
theorem zg5:xV 25 "placed":=.inl (by decide+kernel)
theorem zg6:xV 25 "leads":=.inl (by decide+kernel)
theorem zrJ:xV 25 "leap":=.inl (by decide+kernel)
theorem zg7:xV 25 "cells":=.inl (by decide+kernel)
theorem zrK:xL 25 "leads":=.inl (by decide+kernel)
theorem zrL:xL 25 "cell":=.inl (by decide+kernel)
theorem zrM:xL 25 "placed":=.inl (by decide+kernel)
theorem zrN:xL 25 "parts":=.inl (by decide+kernel)
theorem zrO:xG 25 "sorted":=by decide+kernel
theorem zrP:xG 25 "leads_to":=by decide+kernel
theorem zg8:FnScope ["floor","leap","mates","cell","tried","other"] (zU 37) (zu (zA 47)):=yh (by decide+kernel)
theorem za9:xV 47 "cell":=.inl (by decide+kernel)
theorem zg9:xV 47 "leap":=.inl (by decide+kernel)
theorem zha:xV 47 "floor":=.inl (by decide+kernel)
theorem Xa:xV 47 "other":=.inl (by decide+kernel)
theorem zba:xV 47 "tried":=.inl (by decide+kernel)
theorem JA:xV 47 "mates":=.inl (by decide+kernel)
theorem zrQ:xL 47 "other":=.inl (by decide+kernel)
theorem zrR:xG 47 "cells_near":=by decide+kernel
theorem zrS:xG 47 "finds_mate":=by decide+kernel
theorem zbb:FnScope ["floor","leap","mates","cell"] (zU 38) (zu (zA 48)):=yh (by decide+kernel)
theorem zhb:xV 48 "mates":=.inl (by decide+kernel)
theorem zhc:xV 48 "leap":=.inl (by decide+kernel)
theorem zhd:xV 48 "floor":=.inl (by decide+kernel)
theorem zrT:xV 48 "cell":=.inl (by decide+kernel)
theorem zrU:xL 48 "cell":=.inl (by decide+kernel)
theorem zrV:xL 48 "mates":=.inl (by decide+kernel)
theorem zrW:xG 48 "cells_of_hue":=by decide+kernel
theorem zrX:xG 48 "finds_mate":=by decide+kernel
theorem zrY:FnScope ["floor","mates"] (zU 39) (zu (zA 49)):=yh (by decide+kernel)
theorem zrZ:xV 49 "floor":=.inl (by decide+kernel)
theorem jy:FnScope ["floor","leap","mates","hue","crowd","around","edge","further","cell","other"] (zU 40) (zu (zA 50)):=yh (by decide+kernel)
theorem zbc:xV 50 "around":=.inl (by decide+kernel)
theorem zbd:xV 50 "crowd":=.inl (by decide+kernel)
theorem zhe:xV 50 "edge":=.inl (by decide+kernel)
theorem zbe:xV 50 "further":=.inl (by decide+kernel)
theorem zr0:xV 50 "cell":=.inl (by decide+kernel)
theorem zhf:xV 50 "leap":=.inl (by decide+kernel)
theorem zhg:xV 50 "floor":=.inl (by decide+kernel)
theorem zbf:xV 50 "other":=.inl (by decide+kernel)
theorem zr1:xV 50 "mates":=.inr (.inl (by decide+kernel))
theorem zr2:xV 50 "hue":=.inl (by decide+kernel)
theorem zhh:xL 50 "edge":=.inl (by decide+kernel)
theorem zr3:xL 50 "crowd":=.inl (by decide+kernel)
theorem zr4:xL 50 "other":=.inl (by decide+kernel)
theorem zr5:xL 50 "cell":=.inl (by decide+kernel)
theorem zr6:xL 50 "further":=.inl (by decide+kernel)
theorem zr7:xL 50 "around":=.inl (by decide+kernel)
theorem zr8:(zu (zA 50)).names.lookup ("crowd":Str)=some .local:=by decide+kernel
theorem zr9:xG 50 "len":=by decide+kernel
theorem zsa:xG 50 "cells_near":=by decide+kernel
theorem zsb:xG 50 "cells_of_hue":=by decide+kernel
theorem zsc:FnScope ["floor","leap"] (zU 43) (zu (zA 51)):=yh (by decide+kernel)
theorem zhi:xV 51 "leap":=.inl (by decide+kernel)
theorem zbg:xV 51 "floor":=.inl (by decide+kernel)
theorem zsd:xG 51 "all_mates":=by decide+kernel
theorem zse:xG 51 "pairs_of":=by decide+kernel
theorem zsf:xG 51 "checked_leap":=by decide+kernel
theorem zsg:xG 51 "checked":=by decide+kernel
theorem qj:FnScope ["floor","leap","mates","alone","found"] (zU 47) (zu (zA 52)):=yh (by decide+kernel)
theorem zsh:xV 52 "found":=.inl (by decide+kernel)
theorem zhj:xV 52 "alone":=.inl (by decide+kernel)
theorem qk:xV 52 "leap":=.inl (by decide+kernel)
theorem zhk:xV 52 "mates":=.inr (.inl (by decide+kernel))
theorem JB:xV 52 "floor":=.inl (by decide+kernel)
theorem zsi:xL 52 "found":=.inl (by decide+kernel)
theorem zsj:xL 52 "mates":=.inr (by decide+kernel)
theorem zsk:(zu (zA 52)).names.lookup ("alone":Str)=some .local:=by decide+kernel
theorem zsl:xG 52 "sorted":=by decide+kernel
theorem zsm:xG 52 "hue_of":=by decide+kernel
theorem zsn:xG 52 "crowd_and_around":=by decide+kernel
theorem zso:xG 52 "len":=by decide+kernel
theorem zsp:xG 52 "pairs_of":=by decide+kernel
theorem zsq:xG 52 "all_mates":=by decide+kernel
theorem zsr:xG 52 "checked_leap":=by decide+kernel
theorem zss:xG 52 "checked":=by decide+kernel
theorem zst:FnScope ["floor","most"] (zU 61) (zu (zA 35)):=yh (by decide+kernel)
theorem zsu:xV 35 "floor":=.inl (by decide+kernel)
theorem zsv:xV 35 "most":=.inl (by decide+kernel)
theorem zsw:xG 35 "len":=by decide+kernel
theorem zsx:FnScope ["floor","leap","cell"] (zU 62) (zu (zA 36)):=yh (by decide+kernel)
theorem zsy:xV 36 "floor":=.inl (by decide+kernel)
theorem zsz:xG 36 "enumerate":=by decide+kernel
theorem zsA:xG 36 "sum":=by decide+kernel
theorem zbh:FnScope ["count","starts","layer","place"] (zU 63) (zu (zA 37)):=yh (by decide+kernel)
theorem zhl:xV 37 "layer":=.inl (by decide+kernel)
theorem zsB:xV 37 "count":=.inl (by decide+kernel)
theorem zsC:xV 37 "starts":=.inl (by decide+kernel)
theorem zbi:xV 37 "place":=.inl (by decide+kernel)
theorem zsD:xL 37 "place":=.inl (by decide+kernel)
theorem zsE:xL 37 "layer":=.inl (by decide+kernel)
theorem zsF:xG 37 "range":=by decide+kernel
theorem JC:FnScope ["near","layer","longer","visited","place","bit"] (zU 64) (zu (zA 38)):=yh (by decide+kernel)
theorem zbj:xV 38 "longer":=.inl (by decide+kernel)
theorem zhm:xV 38 "near":=.inl (by decide+kernel)
theorem zhn:xV 38 "layer":=.inl (by decide+kernel)
theorem ql:xV 38 "visited":=.inl (by decide+kernel)
theorem zho:xV 38 "place":=.inl (by decide+kernel)
theorem qm:xV 38 "bit":=.inl (by decide+kernel)
theorem zsG:xL 38 "bit":=.inl (by decide+kernel)
theorem zsH:xL 38 "place":=.inl (by decide+kernel)
theorem zsI:xL 38 "visited":=.inl (by decide+kernel)
theorem zsJ:xL 38 "longer":=.inl (by decide+kernel)
theorem zsK:xG 38 "len":=by decide+kernel
theorem zsL:xG 38 "range":=by decide+kernel
theorem zhp:FnScope ["near","starts","layers"] (zU 65) (zu (zA 39)):=yh (by decide+kernel)
theorem qo:xV 39 "layers":=.inl (by decide+kernel)
theorem zbk:xV 39 "near":=.inl (by decide+kernel)
theorem zsM:xV 39 "starts":=.inl (by decide+kernel)
theorem zsN:xL 39 "layers":=.inl (by decide+kernel)
theorem zbl:xG 39 "len":=by decide+kernel
theorem zsO:xG 39 "one_cell_longer":=by decide+kernel
theorem zsP:xG 39 "one_cell_walks":=by decide+kernel
theorem Zg:FnScope ["floor","near","starts","ends","layers","visited","cells","layer","place"] (zU 66) (zu (zA 40)):=yh (by decide+kernel)
theorem zhq:xV 40 "cells":=.inl (by decide+kernel)
theorem zhr:xV 40 "layers":=.inl (by decide+kernel)
theorem zhs:xV 40 "near":=.inl (by decide+kernel)
theorem zbm:xV 40 "place":=.inl (by decide+kernel)
theorem zbn:xV 40 "visited":=.inl (by decide+kernel)
theorem zht:xV 40 "floor":=.inl (by decide+kernel)
theorem zsQ:xV 40 "layer":=.inl (by decide+kernel)
theorem zhu:xV 40 "ends":=.inl (by decide+kernel)
theorem zsR:xV 40 "starts":=.inl (by decide+kernel)
theorem zsS:xL 40 "ends":=.inl (by decide+kernel)
theorem zhv:xL 40 "visited":=.inl (by decide+kernel)
theorem zsT:xL 40 "place":=.inl (by decide+kernel)
theorem zsU:xL 40 "layer":=.inl (by decide+kernel)
theorem zsV:xL 40 "cells":=.inl (by decide+kernel)
theorem zsW:xL 40 "layers":=.inl (by decide+kernel)
theorem zsX:xG 40 "reversed":=by decide+kernel
theorem zsY:xG 40 "len":=by decide+kernel
theorem zsZ:xG 40 "layers_from":=by decide+kernel
theorem zbo:FnScope ["floor","leap","near","anywhere"] (zU 67) (zu (zA 41)):=yh (by decide+kernel)
theorem zhw:xV 41 "anywhere":=.inl (by decide+kernel)
theorem zs0:xV 41 "near":=.inl (by decide+kernel)
theorem JD:xV 41 "floor":=.inr (.inl (by decide+kernel))
theorem zs1:xV 41 "leap":=.inr (.inl (by decide+kernel))
theorem zs3:xL 41 "anywhere":=.inl (by decide+kernel)
theorem zs4:(zu (zA 41)).names.lookup ("near":Str)=some .local:=by decide+kernel
theorem zs5:xG 41 "walk_between":=by decide+kernel
theorem zs6:xG 41 "len":=by decide+kernel
theorem zs7:xG 41 "MOST_TO_WALK":=by decide+kernel
theorem zs8:xG 41 "refuse_big":=by decide+kernel
theorem zs9:xG 41 "checked_leap":=by decide+kernel
theorem zta:xG 41 "checked":=by decide+kernel
theorem zhx:FnScope ["floor","leap","near"] (zU 68) (zu (zA 42)):=yh (by decide+kernel)
theorem zhy:xV 42 "near":=.inl (by decide+kernel)
theorem JE:xV 42 "floor":=.inr (.inl (by decide+kernel))
theorem ztb:xV 42 "leap":=.inr (.inl (by decide+kernel))
theorem ztc:(zu (zA 42)).names.lookup ("near":Str)=some .local:=by decide+kernel
theorem ztd:xG 42 "walk_between":=by decide+kernel
theorem zte:xG 42 "len":=by decide+kernel
theorem ztf:xG 42 "MOST_TO_WALK":=by decide+kernel
theorem ztg:xG 42 "refuse_big":=by decide+kernel
theorem zth:xG 42 "checked_leap":=by decide+kernel
theorem zti:xG 42 "checked":=by decide+kernel
theorem zbp:FnScope ["floor","leap","spare","cut","rest","parts"] (zU 69) (zu (zA 43)):=yh (by decide+kernel)
theorem zhz:xV 43 "parts":=.inl (by decide+kernel)
theorem ztj:xV 43 "cut":=.inr (.inl (by decide+kernel))
theorem ztk:xV 43 "spare":=.inl (by decide+kernel)
theorem ztl:xV 43 "leap":=.inl (by decide+kernel)
theorem ztm:xV 43 "rest":=.inl (by decide+kernel)
theorem ztn:xV 43 "floor":=.inl (by decide+kernel)
theorem zto:xL 43 "parts":=.inl (by decide+kernel)
theorem ztp:(zu (zA 43)).names.lookup ("rest":Str)=some .local:=by decide+kernel
theorem zhA:xG 43 "len":=by decide+kernel
theorem ztq:xG 43 "parts_within":=by decide+kernel
theorem qp:FnScope ["floor","cuts","wider","cut","cell"] (zU 70) (zu (zA 44)):=yh (by decide+kernel)
theorem zhB:xV 44 "wider":=.inl (by decide+kernel)
theorem zhC:xV 44 "cell":=.inl (by decide+kernel)
theorem zbq:xV 44 "cut":=.inl (by decide+kernel)
theorem ztr:xV 44 "floor":=.inl (by decide+kernel)
theorem zts:xV 44 "cuts":=.inl (by decide+kernel)
theorem ztt:xL 44 "cell":=.inl (by decide+kernel)
theorem ztu:xL 44 "cut":=.inl (by decide+kernel)
theorem ztv:xL 44 "wider":=.inl (by decide+kernel)
theorem ztw:xG 44 "len":=by decide+kernel
theorem qq:FnScope ["floor","leap","spare","cuts","cut"] (zU 71) (zu (zA 45)):=yh (by decide+kernel)
theorem zbr:xV 45 "cuts":=.inl (by decide+kernel)
theorem JF:xV 45 "floor":=.inl (by decide+kernel)
theorem zhD:xV 45 "cut":=.inl (by decide+kernel)
theorem zhE:xV 45 "spare":=.inl (by decide+kernel)
theorem zhF:xV 45 "leap":=.inl (by decide+kernel)
theorem zhG:xL 45 "cuts":=.inl (by decide+kernel)
theorem ztx:xL 45 "cut":=.inl (by decide+kernel)
theorem zhH:xG 45 "len":=by decide+kernel
theorem zty:xG 45 "one_cell_more":=by decide+kernel
theorem ztz:xG 45 "leaves_too_many":=by decide+kernel
theorem ztA:xG 45 "is_whole":=by decide+kernel
theorem ztB:xG 45 "MOST_TO_CUT":=by decide+kernel
theorem ztC:xG 45 "refuse_big":=by decide+kernel
theorem ztD:xG 45 "checked_leap":=by decide+kernel
theorem ztE:xG 45 "checked":=by decide+kernel
theorem ZV:FnScope ["_law_script","_law_floor_here","_law_leap_here","_law_found","_law_ring","_law_sizes","_law_turned"] (zU 77) (zu (zA 58)):=yh (by decide+kernel)
theorem jz:xV 58 "_law_leap_here":=.inr (.inl (by decide+kernel))
theorem zhI:xV 58 "_law_turned":=.inl (by decide+kernel)
theorem zhJ:xV 58 "_law_ring":=.inl (by decide+kernel)
theorem zbs:xV 58 "_law_found":=.inl (by decide+kernel)
theorem jc:xV 58 "_law_floor_here":=.inr (.inl (by decide+kernel))
theorem qr:xV 58 "_law_sizes":=.inl (by decide+kernel)
theorem zhK:xV 58 "_law_script":=.inl (by decide+kernel)
theorem ztF:xL 58 "_law_turned":=.inl (by decide+kernel)
theorem ztG:xL 58 "_law_ring":=.inl (by decide+kernel)
theorem ztH:xL 58 "_law_found":=.inl (by decide+kernel)
theorem ztI:xL 58 "_law_leap_here":=.inr (by decide+kernel)
theorem ztJ:xL 58 "_law_floor_here":=.inr (by decide+kernel)
theorem ztK:(zu (zA 58)).names.lookup ("_law_sizes":Str)=some .local:=by decide+kernel
theorem zhL:xG 58 "ring_walk":=by decide+kernel
theorem zhM:xG 58 "walk":=by decide+kernel
theorem ztL:xG 58 "sorted":=by decide+kernel
theorem ztM:xG 58 "tuple":=by decide+kernel
theorem ztN:xG 58 "paired":=by decide+kernel
theorem zhN:xG 58 "cut_of":=by decide+kernel
theorem ztO:xG 58 "most_pairs":=by decide+kernel
theorem zhO:xG 58 "len":=by decide+kernel
theorem ztP:xG 58 "abs":=by decide+kernel
theorem ztQ:xG 58 "hues_of":=by decide+kernel
theorem ztR:xG 58 "_law_cell":=by decide+kernel
theorem ztS:xG 58 "_law_leap":=by decide+kernel
theorem ztT:xG 58 "_law_floor":=by decide+kernel
section
variable {Pg:Program} {w:World} {K:Ka} {mg:Str->Option Value} {base:Heap} {F:Nat->Addr} {FD:Nat->FuncData} {TK:Nat->Tok} {n fuel:Nat}
section
variable (T:Txt K mg F FD TK) (hall: ∀i,FnOk Pg w K mg base wr n (F i) (FD i) (zU i) (vf K (zD U fuel n) i (zfs i))) (cdv:Value) (A:Around) (outer:List PySem.Env) (s:Shared) (H:Hp) (E:XK)
include T hall
theorem ztU(hr:rO F cdv A s n "is_whole" 11 0):bO Pg w K mg base F cdv A outer s H E fuel n ["thing","least","most"] "is_whole" 11 0 Vk:=
 (zf (yC (IW.t (Zx (wP (QC (t:=.bool) zgu T.z_isinstance zqj T.z_bool PyProof.Rows.boot_bool (zd 0 rfl zaY wz wA) zpr zpq zb zb (zo zb zm)) (gp _ _) vd) (Zw (jL (wP (QC (t:=.int) zgu T.z_isinstance zqi T.z_int PyProof.Rows.boot_int (zd 0 rfl zaY wz wA) zpp zpo zb zb (zo zb zm)) (gp _ _) vd))))) (zf (zW ve)
  zn) zn)
  (zf (zW (zk6 Qk Qk (zd 1 rfl zqg zpm zpn) (zd 0 rfl zaY wz wA) (zd 2 rfl zqh zfv zfw)))
  zn))
theorem ztV(hr:rO F cdv A s n "is_couple" 12 1):bO Pg w K mg base F cdv A outer s H E fuel n ["thing"] "is_couple" 12 1 Vl:=
 (zf (zW (Zv (QC (t:=.tuple) zqm T.z_isinstance zqn T.z_tuple PyProof.Rows.boot_tuple (zd 0 rfl zgv wz wA) kD kC zb zb (zo zb zm)) (XS (Zu (vc hr.units) (ym yV zql T.z_len KF (ze (zd 0 rfl zgv wz wA) zi zb) xa yZ zb zm) zj (yv _)))))
  zn)
theorem ztW(hr:rO F cdv A s n "is_cell" 13 2):bO Pg w K mg base F cdv A outer s H E fuel n ["thing"] "is_cell" 13 2 Vm:=
 (zf (zW (Zv (zx (zw (hall 1) rfl) hr zqp T.n1.m T.n1.f.kp (T.n1.b) (ze (zd 0 rfl zaZ wz wA) zi zb) zfy zb zm) (Zv (zx (zw (hall 0) rfl) hr zgx T.n0.m T.n0.f.kp (T.n0.b) (ze (zY hr.units (zd 0 rfl zaZ wz wA) zj (fun _ _=>rfl)) (ze zj (ze (Zt zgw T.c0 zfx) zi zb) zq) yB) Jp yB (zo zq (zo zb zm))) (XS (zx (zw (hall 0) rfl) hr zgx T.n0.m T.n0.f.kp (T.n0.b) (ze (zY hr.units (zd 0 rfl zaZ wz wA) zj (fun _ _=>rfl)) (ze zj (ze (Zt zgw T.c0 zfx) zi zb) zq) yB) Jp yB (zo zq (zo zb zm)))))))
  zn)
theorem ztX(hr:rO F cdv A s n "is_leap" 14 3):bO Pg w K mg base F cdv A outer s H E fuel n ["thing"] "is_leap" 14 3 Vn:=
 (zf (zW (Zv (zx (zw (hall 1) rfl) hr zqs T.n1.m T.n1.f.kp (T.n1.b) (ze (zd 0 rfl qa wz wA) zi zb) zfy zb zm) (Zv (zx (zw (hall 0) rfl) hr zgy T.n0.m T.n0.f.kp (T.n0.b) (ze (zY hr.units (zd 0 rfl qa wz wA) zj (fun _ _=>rfl)) (ze zj (ze (Zt zqr T.c2 zps) zi zb) zq) yB) Jp yB (zo zq (zo zb zm))) (XS (zx (zw (hall 0) rfl) hr zgy T.n0.m T.n0.f.kp (T.n0.b) (ze (zY hr.units (zd 0 rfl qa wz wA) zj (fun _ _=>rfl)) (ze zj (ze (zY hr.units (zd 0 rfl qa wz wA) zj (fun _ _=>rfl)) zi yB) zq) yB) Jp yB (zo zq (zo yB zm)))))))
  zn)
theorem ztY(hr:rO F cdv A s n "is_rising" 15 4):bO Pg w K mg base F cdv A outer s H E fuel n ["cells"] "is_rising" 15 4 Vo:=
 (zf (zW (ym (zc9 rfl) zqx T.z_all (by decide+kernel) (ze (jP rfl (wD (sc:=zu (zA 15)) (N:=["cells"]) rfl rfl (by decide+kernel)) (zcT zqw T.z_range (ze zj (ze (ym yV zqv T.z_len KF (ze (zd 0 rfl zqu ZM ZN) zi zb) xa yZ zb zm) zi yd) zq) zq yd) (.inl ⟨rfl,rfl⟩) (fun _ _ _ _=>(Zu (Zs hr.units) (zY hr.units (zd 1 rfl (xi (by decide+kernel)) ZM ZN) (zG vO (zd 0 rfl (yF (by decide+kernel)) vB vC) zj) (fun _ _=>rfl)) (zY hr.units (zd 1 rfl (xi (by decide+kernel)) ZM ZN) (zd 0 rfl (yF (by decide+kernel)) vB vC) (fun _ _=>rfl)) (yv _)))) zi vP) zfA zfz vP zm))
  zn)
theorem ztZ(hr:rO F cdv A s n "is_floor" 16 5):bO Pg w K mg base F cdv A outer s H E fuel n ["thing"] "is_floor" 16 5 Vp:=
 (zf (yC (IW.t (Zx (jL (wP (QC (t:=.tuple) zqD T.z_isinstance zqE T.z_tuple PyProof.Rows.boot_tuple (zd 0 rfl qb wz wA) kD kC zb zb (zo zb zm)) (gp _ _) vd)) (Zw (jL (zk7 rfl rfl Qk Qk zj (ym yV zqB T.z_len KF (ze (zd 0 rfl qb wz wA) zi zb) xa yZ zb zm) (Zt zqC T.c1 zpw)))))) (zf (zW ve)
  zn) zn)
  (zf (zW (Zv (ym (zc9 rfl) zqA T.z_all (by decide+kernel) (ze (jP rfl (wD (sc:=zu (zA 16)) (N:=["thing"]) rfl rfl (by decide+kernel)) (wv (zd 0 rfl qb wz wA)) (.inl ⟨rfl,rfl⟩) (fun _ _ _ _=>(zx (zw (hall 2) rfl) hr (jl (by decide+kernel)) T.n2.m T.n2.f.kp (T.n2.b) (ze (zd 0 rfl (yF (by decide+kernel)) zpu zpv) zi zb) zfB zb zm))) zi vP) zfA zfz vP zm) (XS (zx (zw (hall 4) rfl) hr zqz T.n4.m T.n4.f.kp (T.n4.b) (ze (zd 0 rfl qb wz wA) zi zb) zpt zb zm))))
  zn))
theorem zt0(hr:rO F cdv A s n "checked" 17 6):bO Pg w K mg base F cdv A outer s H E fuel n ["floor"] "checked" 17 6 Vq:=
 (zf (yC (jL (wP (zx (zw (hall 5) rfl) hr zqG T.n5.m T.n5.f.kp (T.n5.b) (ze (zd 0 rfl zgz zQ zR) zi zb) zpx zb zm) (jM _ _) vd)) (zf XV
  zn) zn)
  (zf (vg 0 rfl zgz zQ zR)
  zn))
theorem zt1(hr:rO F cdv A s n "checked_leap" 18 7):bO Pg w K mg base F cdv A outer s H E fuel n ["leap"] "checked_leap" 18 7 Vr:=
 (zf (yC (jL (wP (zx (zw (hall 3) rfl) hr zqI T.n3.m T.n3.f.kp (T.n3.b) (ze (zd 0 rfl zgA yk yl) zi zb) zpy zb zm) (jM _ _) vd)) (zf XV
  zn) zn)
  (zf (vg 0 rfl zgA yk yl)
  zn))
theorem zt2(hr:rO F cdv A s n "checked_cell" 19 8):bO Pg w K mg base F cdv A outer s H E fuel n ["floor","cell"] "checked_cell" 19 8 Vs:=
 (zf (yC (IW.t (Zx (jL (wP (zx (zw (hall 2) rfl) hr zqL T.n2.m T.n2.f.kp (T.n2.b) (ze (zd 1 rfl za0 yq yr) zi zb) zfB zb zm) (jM _ _) vd)) (Zw (yp rfl (jj hr.units) (zd 1 rfl za0 yq yr) (zd 0 rfl zqK zQ zR) (by with_unfolding_all rfl))))) (zf XV
  zn) zn)
  (zf (vg 1 rfl za0 yq yr)
  zn))
theorem zt3(hr:rO F cdv A s n "folded" 21 9):bO Pg w K mg base F cdv A outer s H E fuel n ["down","right"] "folded" 21 9 Vt:=
 (zf (zW (yL (ze (ym (zk1 rfl) zqO T.z_min PyProof.Rows.boot_min (ze (ym XO qc T.z_abs (by decide+kernel) (ze (zd 0 rfl zgC zfE zfF) zi zb) Jr Jq zb zm) (ze (ym XO qc T.z_abs (by decide+kernel) (ze (zd 1 rfl zgB zfC zfD) zi zb) Jr Jq zb zm) zi yd) yd) zpA zpz yd (zo yd zm)) (ze (ym (zk2 rfl) zqN T.z_max PyProof.Rows.boot_max (ze (ym XO qc T.z_abs (by decide+kernel) (ze (zd 0 rfl zgC zfE zfF) zi zb) Jr Jq zb zm) (ze (ym XO qc T.z_abs (by decide+kernel) (ze (zd 1 rfl zgB zfC zfD) zi zb) Jr Jq zb zm) zi yd) yd) zfH zfG yd (zo yd zm)) zi yd) yd)))
  zn)
theorem zt4(hr:rO F cdv A s n "are_near" 22 10):bO Pg w K mg base F cdv A outer s H E fuel n ["leap","one","other"] "are_near" 22 10 Vu:=
 (zf (zW (Zu (vc hr.units) (zx (zw (hall 9) rfl) hr zqR T.n9.m T.n9.f.kp (T.n9.b) (ze (zG vO (zY hr.units (zd 2 rfl zgD wm wp) zj (fun _ _=>rfl)) (zY hr.units (zd 1 rfl zgE zfI zfJ) zj (fun _ _=>rfl))) (ze (zG vO (zY hr.units (zd 2 rfl zgD wm wp) zj (fun _ _=>rfl)) (zY hr.units (zd 1 rfl zgE zfI zfJ) zj (fun _ _=>rfl))) zi yW) yW) zpB yW (zo yW zm)) (zd 0 rfl zqQ yk yl) (yv _)))
  zn)
theorem zt5(hr:rO F cdv A s n "cells_near" 23 11):bO Pg w K mg base F cdv A outer s H E fuel n ["floor","leap","cell"] "cells_near" 23 11 Vv:=
 (zf (zW (jP rfl (wD (sc:=zu (zA 23)) (N:=["floor","leap","cell"]) rfl rfl (by decide+kernel)) (wv (zd 0 rfl zqT zQ zR)) (.inr ⟨_,rfl,fun _ _ _ _=>(wP (zx (zw (hall 10) rfl) hr (jl (by decide+kernel)) T.n10.m T.n10.f.kp (T.n10.b) (ze (zd 2 rfl (xi (by decide+kernel)) yk yl) (ze (zd 3 rfl (xi (by decide+kernel)) yq yr) (ze (zd 0 rfl (yF (by decide+kernel)) wm wp) zi zb) zb) zb) zfK zb (zo zb (zo zb zm))) (jM _ _) vd)⟩) (fun _ _ _ _=>(zd 0 rfl (yF (by decide+kernel)) wm wp))))
  zn)
theorem zt6(hr:rO F cdv A s n "near_cells" 30 12):bO Pg w K mg base F cdv A outer s H E fuel n ["floor","leap","cell"] "near_cells" 30 12 Vw:=
 (zf (xM (zx (zw (hall 6) rfl) hr zqY T.n6.m T.n6.f.kp (T.n6.b) (ze (zd 0 rfl za1 zQ zR) zi zb) ZP zb zm))
  (zf (xM (zx (zw (hall 7) rfl) hr zqX T.n7.m T.n7.f.kp (T.n7.b) (ze (zd 1 rfl zgG yk yl) zi zb) ZO zb zm))
  (zf (xM (zx (zw (hall 8) rfl) hr zqW T.n8.m T.n8.f.kp (T.n8.b) (ze (zd 0 rfl za1 zQ zR) (ze (zd 2 rfl zgF yq yr) zi zb) zb) zpG zb (zo zb zm)))
  (zf (zW (zx (zw (hall 11) rfl) hr zqV T.n11.m T.n11.f.kp (T.n11.b) (ze (zd 0 rfl za1 zQ zR) (ze (zd 1 rfl zgG yk yl) (ze (zd 2 rfl zgF yq yr) zi zb) zb) zb) kG zb (zo zb (zo zb zm))))
  zn))))
theorem zt7(hr:rO F cdv A s n "_law_cell" 54 13):bO Pg w K mg base F cdv A outer s H E fuel n ["_law_script","_law_k"] "_law_cell" 54 13 Vx:=
 (zf (yC (yp rfl (Zs hr.units) (zd 1 rfl zgH zgb zgc) (ym yV zq0 T.z_len KF (ze (zd 0 rfl zgI Ze Zf) zi zb) xa yZ zb zm) (yv _)) (zf (zW (zY hr.units (zd 0 rfl zgI Ze Zf) (zd 1 rfl zgH zgb zgc) (fun _ _=>rfl)))
  zn) zn)
  (zf (zW zj)
  zn))
theorem zt8(hr:rO F cdv A s n "_law_mix" 55 14):bO Pg w K mg base F cdv A outer s H E fuel n ["_law_cell_here","_law_prime","_law_many"] "_law_mix" 55 14 Vy:=
 (zf (zW (zG ji (zG ji (zG Zr (zd 0 rfl zq2 jw jx) zj) (zd 1 rfl zq3 zpX zpY)) (zd 2 rfl zq4 zpZ zp0)))
  zn)
theorem zt9(hr:rO F cdv A s n "_law_floor" 56 15):bO Pg w K mg base F cdv A outer s H E fuel n ["_law_script","_law_at","_law_most","_law_cell_here","_law_rows","_law_wide","_law_down","_law_right","_law_way","_law_found","_law_r","_law_c","_law_seed"] "_law_floor" 56 15 VA:=
 (zf (zV 3 vo.nd rfl zrf (zx (zw (hall 13) rfl) hr qh T.n13.m T.n13.f.kp (T.n13.b) (ze (zd 0 rfl qg Ze Zf) (ze (zd 1 rfl qf kW kX) zi zb) zb) Jy zb (zo zb zm)))
  (zf (zV 4 vo.nd rfl zre (zG xF zj (zx (zw (hall 14) rfl) hr YZ T.n14.m T.n14.f.kp (T.n14.b) (ze (zd 3 rfl za3 jw jx) (ze zj (ze zj zi zq) zq) zb) YY zb (zo zq (zo zq zm)))))
  (zf (zV 5 vo.nd rfl zrd (zG xF zj (zx (zw (hall 14) rfl) hr YZ T.n14.m T.n14.f.kp (T.n14.b) (ze (zd 3 rfl za3 jw jx) (ze zj (ze zj zi zq) zq) zb) YY zb (zo zq (zo zq zm)))))
  (zf (zV 6 vo.nd rfl zrc (zx (zw (hall 14) rfl) hr YZ T.n14.m T.n14.f.kp (T.n14.b) (ze (zx (zw (hall 13) rfl) hr qh T.n13.m T.n13.f.kp (T.n13.b) (ze (zd 0 rfl qg Ze Zf) (ze (zG xF (zd 1 rfl qf kW kX) zj) zi yW) zb) Jy zb (zo yW zm)) (ze zj (ze (zG vO zj (zd 4 rfl zgL zgh zgi)) zi yW) zq) yd) YY yd (zo zq (zo yW zm))))
  (zf (zV 7 vo.nd rfl zrb (zx (zw (hall 14) rfl) hr YZ T.n14.m T.n14.f.kp (T.n14.b) (ze (zx (zw (hall 13) rfl) hr qh T.n13.m T.n13.f.kp (T.n13.b) (ze (zd 0 rfl qg Ze Zf) (ze (zG xF (zd 1 rfl qf kW kX) zj) zi yW) zb) Jy zb (zo yW zm)) (ze zj (ze (zG vO zj (zd 5 rfl zgM zgj zgk)) zi yW) zq) yd) YY yd (zo zq (zo yW zm))))
  (zf (zV 8 vo.nd rfl zra (zx (zw (hall 14) rfl) hr YZ T.n14.m T.n14.f.kp (T.n14.b) (ze (zG xF (zd 3 rfl za3 jw jx) zj) (ze zj (ze zj zi zq) zq) yW) YY yW (zo zq (zo zq zm))))
  (zf (zV 9 vo.nd rfl zgO (we zi))
  (zf (jk 10 Kx rfl vo.nd rfl zq9 (Qv zgP T.z_range (ze (zd 4 rfl zgL zgh zgi) zi zb) zb) (zf (jk 11 Kx rfl vo.nd rfl zq8 (Qv zgP T.z_range (ze (zd 5 rfl zgM zgj zgk) zi zb) zb) (zf (zV 12 vo.nd rfl zq7 (zG xF (zG xF (zx (zw (hall 13) rfl) hr qh T.n13.m T.n13.f.kp (T.n13.b) (ze (zd 0 rfl qg Ze Zf) (ze (zG xF (zG xF (zd 1 rfl qf kW kX) zj) (zG ji (zG xF (zd 10 rfl qe kS kU) (zG Zr zj (zd 11 rfl qd kQ kR))) zj)) zi yW) zb) Jy zb (zo yW zm)) (zG Zr (zG Zr zj (zd 10 rfl qe kS kU)) (zd 10 rfl qe kS kU))) (zG Zr (zG Zr zj (zd 11 rfl qd kQ kR)) (zd 11 rfl qd kQ kR))))
  (zf (yC (IW.t (Zx (yp rfl (vc hr.units) (zd 8 rfl zgN zgl zgm) zj (yv _)) (Zw (yp rfl (jK hr.units) (zx (zw (hall 14) rfl) hr YZ T.n14.m T.n14.f.kp (T.n14.b) (ze (zd 12 rfl zq6 zp3 zp4) (ze zj (ze (zY hr.units (we (ze zj (ze zj (ze zj zi zq) zq) zq)) (zG vO (zd 8 rfl zgN zgl zgm) zj) (fun _ _=>rfl)) zi yB) zq) zb) YY zb (zo zq (zo yB zm))) zj (yv _))))) (zf (jO 9 rfl za2 (yL (ze (zG xF (zd 6 rfl zgK zgf zgg) (zd 10 rfl qe kS kU)) (ze (zG xF (zd 7 rfl zgJ zgd zge) (zd 11 rfl qd kQ kR)) zi yW) yW)) xq YW YX)
  zn) zn)
  zn)))
  zn))
  (zf (yC (jL (wP (zd 9 rfl za2 YW YX) (zk8 _) zk5)) (zf (zV 9 vo.nd rfl zgO (we (ze (yL (ze (zd 6 rfl zgK zgf zgg) (ze (zd 7 rfl zgJ zgd zge) zi zb) zb)) zi xq)))
  zn) zn)
  (zf (zW (zcI zcG zrg T.z_tuple PyProof.Rows.boot_tuple (ze (zlo (zd 9 rfl za2 YW YX) (zd 2 rfl zq5 zp1 zp2)) zi yB) kD kC yB zm))
  zn))))))))))
theorem zua(hr:rO F cdv A s n "_law_leap" 57 16):bO Pg w K mg base F cdv A outer s H E fuel n ["_law_cell_here","_law_some"] "_law_leap" 57 16 VB:=
 (zf (zV 1 zgQ.nd rfl zrj (we (ze (yL (ze zj (ze zj zi zq) zq)) (ze (yL (ze zj (ze zj zi zq) zq)) (ze (yL (ze zj (ze zj zi zq) zq)) (ze (yL (ze zj (ze zj zi zq) zq)) (ze (yL (ze zj (ze zj zi zq) zq)) (ze (yL (ze zj (ze zj zi zq) zq)) (ze (yL (ze zj (ze zj zi zq) zq)) (ze (yL (ze zj (ze zj zi zq) zq)) (ze (yL (ze zj (ze zj zi zq) zq)) (ze (yL (ze zj (ze zj zi zq) zq)) (ze (yL (ze zj (ze zj zi zq) zq)) (ze (yL (ze zj (ze zj zi zq) zq)) (ze (yL (ze zj (ze zj zi zq) zq)) zi xq) xq) xq) xq) xq) xq) xq) xq) xq) xq) xq) xq) xq)))
  (zf (zW (zY hr.units (zG xF (zd 1 rfl zrh zp5 zp6) (we (ze (yL (ze zj (ze zj zi zq) zq)) (ze (yL (ze zj (ze zj zi zq) zq)) (ze (yL (ze zj (ze zj zi zq) zq)) (ze (yL (ze zj (ze zj zi zq) zq)) (ze (yL (ze zj (ze zj zi zq) zq)) (ze (yL (ze zj (ze zj zi zq) zq)) zi xq) xq) xq) xq) xq) xq))) (zG ji (zd 0 rfl zri jw jx) zj) (fun _ _=>rfl)))
  zn))
theorem zub(hr:rO F cdv A s n "leads_to" 24 20):bO Pg w K mg base F cdv A outer s H E fuel n ["floor","leap","goal","leads","edge","further","cell","other"] "leads_to" 24 20 VC:=
 (zf (zV 3 ZU.nd rfl zrp (zlu hr.units (zd 2 rfl zgU zfL zfM) Ql))
  (zf (zV 4 ZU.nd rfl zgV (we (ze (zd 2 rfl zgU zfL zfM) zi zb)))
  (zf (Qw Kx (yp rfl (jK hr.units) (ym yV zrq T.z_len KF (ze (zd 4 rfl zgR kE kF) zi zb) xa yZ zb zm) zj (yv _)) (zf (zV 5 ZU.nd rfl zro (we zi))
  (zf (Yn 6 4 Kx rfl ZU.nd rfl zrn rfl zgR (zf (jk 7 Kx rfl ZU.nd rfl zrm (wv (zx (zw (hall 11) rfl) hr zrr T.n11.m T.n11.f.kp (T.n11.b) (ze (zd 0 rfl zrl zQ zR) (ze (zd 1 rfl zrk yk yl) (ze (zd 6 rfl zgT yq yr) zi zb) zb) zb) kG zb (zo zb (zo zb zm)))) (zf (yC (yp rfl (jj hr.units) (zd 7 rfl za5 wm wp) (zd 3 rfl za4 Js Jt) (by with_unfolding_all rfl)) (zf (Yr 3 hr.units rfl za4 (zd 7 rfl za5 wm wp) (zd 6 rfl zgT yq yr) Js Jt)
  (zf (jO 5 rfl zgS (zd 7 rfl za5 wm wp) zb Ju Jv)
  zn)) zn)
  zn))
  zn) (hd:=kE) (hcd:=kF))
  (zf (gw 4 5 ZU.nd rfl zgV rfl zgS (hd:=Ju) (hcd:=Jv))
  zn))))
  (zf (vg 3 rfl za4 Js Jt)
  zn))))
theorem zuc(hr:rO F cdv A s n "greatest_divisor" 26 21):bO Pg w K mg base F cdv A outer s H E fuel n ["leap"] "greatest_divisor" 26 21 VD:=
 (zf (zW (ym (zlI rfl) zrv T.z_max PyProof.Rows.boot_max (ze (jP rfl (wD (sc:=zu (zA 26)) (N:=["leap"]) rfl rfl (by decide+kernel)) (zcT zru T.z_range (ze zj (ze (zG xF (zY hr.units (zd 0 rfl zrt yk yl) zj (fun _ _=>rfl)) zj) zi yW) zq) zq yW) (.inr ⟨_,rfl,fun _ _ _ _=>(IW.t (gk (yp rfl (vc hr.units) (zG ji (zY hr.units (zd 1 rfl (xi (by decide+kernel)) yk yl) zj (fun _ _=>rfl)) (zd 0 rfl (yF (by decide+kernel)) zaJ zaK)) zj (yv _)) (gh (yp rfl (vc hr.units) (zG ji (zY hr.units (zd 1 rfl (xi (by decide+kernel)) yk yl) zj (fun _ _=>rfl)) (zd 0 rfl (yF (by decide+kernel)) zaJ zaK)) zj (yv _)))))⟩) (fun _ _ _ _=>(zd 0 rfl (yF (by decide+kernel)) zaJ zaK))) zi vP) zfH zfG vP zm))
  zn)
theorem zud(hr:rO F cdv A s n "has_odd_sum" 27 22):bO Pg w K mg base F cdv A outer s H E fuel n ["leap","divisor"] "has_odd_sum" 27 22 VE:=
 (zf (zV 1 zgW.nd rfl zrw (zx (zw (hall 21) rfl) hr zrx T.n21.m T.n21.f.kp (T.n21.b) (ze (zd 0 rfl za6 yk yl) zi zb) zfP zb zm))
  (zf (zW (Zu (vc hr.units) (zG ji (zG xF (zG XM (zY hr.units (zd 0 rfl za6 yk yl) zj (fun _ _=>rfl)) (zd 1 rfl zgX kJ kK)) (zG XM (zY hr.units (zd 0 rfl za6 yk yl) zj (fun _ _=>rfl)) (zd 1 rfl zgX kJ kK))) zj) zj (yv _)))
  zn))
theorem zue(hr:rO F cdv A s n "hue_of" 28 23):bO Pg w K mg base F cdv A outer s H E fuel n ["leap","cell","divisor","row","column"] "hue_of" 28 23 VF:=
 (zf (zV 2 qi.nd rfl zrB (zx (zw (hall 21) rfl) hr zrD T.n21.m T.n21.f.kp (T.n21.b) (ze (zd 0 rfl zgZ yk yl) zi zb) zfP zb zm))
  (zf (zV 3 qi.nd rfl zrA (zG XM (zY hr.units (zd 1 rfl zg0 yq yr) zj (fun _ _=>rfl)) (zd 2 rfl zg1 kJ kK)))
  (zf (zV 4 qi.nd rfl zrz (zG XM (zY hr.units (zd 1 rfl zg0 yq yr) zj (fun _ _=>rfl)) (zd 2 rfl zg1 kJ kK)))
  (zf (yC (wP (zx (zw (hall 22) rfl) hr zrC T.n22.m T.n22.f.kp (T.n22.b) (ze (zd 0 rfl zgZ yk yl) zi zb) zpD zb zm) (jM _ _) vd) (zf (zW (zG ji (zG xF (zd 3 rfl zgY zfQ zfR) (zd 4 rfl zry zpE zpF)) zj))
  zn) zn)
  (zf (zW (zG ji (zd 3 rfl zgY zfQ zfR) zj))
  zn)))))
theorem zuf(hr:rO F cdv A s n "cells_of_hue" 29 24):bO Pg w K mg base F cdv A outer s H E fuel n ["floor","leap","hue"] "cells_of_hue" 29 24 VG:=
 (zf (zW (jP rfl (wD (sc:=zu (zA 29)) (N:=["floor","leap","hue"]) rfl rfl (by decide+kernel)) (wv (zd 0 rfl zrF zQ zR)) (.inr ⟨_,rfl,fun _ _ _ _=>(yp rfl (vc hr.units) (zx (zw (hall 23) rfl) hr (jl (by decide+kernel)) T.n23.m T.n23.f.kp (T.n23.b) (ze (zd 2 rfl (xi (by decide+kernel)) yk yl) (ze (zd 0 rfl (yF (by decide+kernel)) yq yr) zi zb) zb) zfS zb (zo zb zm)) (zd 3 rfl (xi (by decide+kernel)) zfT zfU) (yv _))⟩) (fun _ _ _ _=>(zd 0 rfl (yF (by decide+kernel)) yq yr))))
  zn)
theorem zug(hr:rO F cdv A s n "hues_of" 31 25):bO Pg w K mg base F cdv A outer s H E fuel n ["floor","leap"] "hues_of" 31 25 VH:=
 (zf (xM (zx (zw (hall 6) rfl) hr zrI T.n6.m T.n6.f.kp (T.n6.b) (ze (zd 0 rfl za8 zQ zR) zi zb) ZP zb zm))
  (zf (xM (zx (zw (hall 7) rfl) hr zrH T.n7.m T.n7.f.kp (T.n7.b) (ze (zd 1 rfl za7 yk yl) zi zb) ZO zb zm))
  (zf (zW (we (ze (zx (zw (hall 24) rfl) hr zg2 T.n24.m T.n24.f.kp (T.n24.b) (ze (zd 0 rfl za8 zQ zR) (ze (zd 1 rfl za7 yk yl) (ze zj zi zq) zb) zb) kL zb (zo zb (zo zq zm))) (ze (zx (zw (hall 24) rfl) hr zg2 T.n24.m T.n24.f.kp (T.n24.b) (ze (zd 0 rfl za8 zQ zR) (ze (zd 1 rfl za7 yk yl) (ze zj zi zq) zb) zb) kL zb (zo zb (zo zq zm))) zi yd) yd)))
  zn)))
theorem zuh(hr:rO F cdv A s n "parts_within" 25 30):bO Pg w K mg base F cdv A outer s H E fuel n ["cells","leap","parts","placed","cell","leads"] "parts_within" 25 30 VJ:=
 (zf (zV 2 Jz.nd rfl zrN (we zi))
  (zf (zV 3 Jz.nd rfl zrM (QF true))
  (zf (Yn 4 0 Kx rfl Jz.nd rfl zrL rfl zg7 (zf (yC (yp rfl (jj hr.units) (zd 4 rfl zg4 yq yr) (zd 3 rfl zg5 zfN zfO) (by with_unfolding_all rfl)) (zf (zV 5 Jz.nd rfl zrK (zx (zw (hall 20) rfl) hr zrP T.n20.m T.n20.f.kp (T.n20.b) (ze (zd 0 rfl zg7 ZM ZN) (ze (zd 1 rfl zrJ yk yl) (ze (zd 4 rfl zg4 yq yr) zi zb) zb) zb) zpC zb (zo zb (zo zb zm))))
  (zf (zl5 3 5 hr.units rfl zg5 rfl zg6 zb zfN zfO Js Jt)
  (zf (jO 2 rfl zg3 (zlX rfl zrO T.z_sorted (zd 5 rfl zg6 Js Jt) (hst:=yd)) yd kH kI)
  zn))) zn)
  zn) (hd:=ZM) (hcd:=ZN))
  (zf (vg 2 rfl zg3 kH kI)
  zn))))
theorem zui(hr:rO F cdv A s n "finds_mate" 47 37):bO Pg w K mg base F cdv A outer s H E fuel n ["floor","leap","mates","cell","tried","other"] "finds_mate" 47 37 YI:=
 (zf (jk 5 Kx rfl zg8.nd rfl zrQ (wv (zx (zw (hall 11) rfl) hr zrR T.n11.m T.n11.f.kp (T.n11.b) (ze (zd 0 rfl zha zQ zR) (ze (zd 1 rfl zg9 yk yl) (ze (zd 3 rfl za9 yq yr) zi zb) zb) zb) kG zb (zo zb (zo zb zm)))) (zf (yC (yp rfl (jj hr.units) (zd 5 rfl Xa wm wp) (zd 4 rfl zba zaS zaT) (by with_unfolding_all rfl)) (zf (Yr 4 hr.units rfl zba (zd 5 rfl Xa wm wp) ve zaS zaT)
  (zf (zlC (yp rfl (jj hr.units) (zd 5 rfl Xa wm wp) (zd 2 rfl JA wF wG) (by with_unfolding_all rfl)) (zdm (hall 37) rfl (by decide) (by decide) hr zrS T.n37.m T.n37.f.kp (T.n37.b) (Yt (zd 0 rfl zha zQ zR) (Yt (zd 1 rfl zg9 yk yl) (gF 2 rfl JA (Yt (zY hr.units (zd 2 rfl JA wF wG) (zd 5 rfl Xa wm wp) (fun _ _=>rfl)) (gF 4 rfl zba zdh zaS zaT) yB) wF wG) zb) zb) zf4 zb (zo zb (zo zb (zo yB (zo zb zm))))) vd (zf (Yr 2 hr.units rfl JA (zd 3 rfl za9 yq yr) (zd 5 rfl Xa wm wp) wF wG)
  (zf (Yr 2 hr.units rfl JA (zd 5 rfl Xa wm wp) (zd 3 rfl za9 yq yr) wF wG)
  (zf (zW ve)
  zn))) zn)
  zn)) zn)
  zn))
  (zf (zW ve)
  zn))
theorem zuj(hr:rO F cdv A s n "all_mates" 48 38):bO Pg w K mg base F cdv A outer s H E fuel n ["floor","leap","mates","cell"] "all_mates" 48 38 VL:=
 (zf (zV 2 zbb.nd rfl zrV (QF true))
  (zf (jk 3 Kx rfl zbb.nd rfl zrU (wv (zx (zw (hall 24) rfl) hr zrW T.n24.m T.n24.f.kp (T.n24.b) (ze (zd 0 rfl zhd zQ zR) (ze (zd 1 rfl zhc yk yl) (ze zj zi zq) zb) zb) kL zb (zo zb (zo zq zm)))) (zf (zlA (zdm (hall 37) rfl (by decide) (by decide) hr zrX T.n37.m T.n37.f.kp (T.n37.b) (Yt (zd 0 rfl zhd zQ zR) (Yt (zd 1 rfl zhc yk yl) (gF 2 rfl zhb (Yt (zd 3 rfl zrT yq yr) (zlx true zdh) zb) wF wG) zb) zb) zf4 zb (zo zb (zo zb (zo zb (zo zk3 zm))))))
  zn))
  (zf (vg 2 rfl zhb wF wG)
  zn)))
theorem zuk(hr:rO F cdv A s n "pairs_of" 49 39):bO Pg w K mg base F cdv A outer s H E fuel n ["floor","mates"] "pairs_of" 49 39 VM:=
 (zf (zW (jP rfl (wD (sc:=zu (zA 49)) (N:=["floor","mates"]) rfl rfl (by decide+kernel)) (wv (zd 0 rfl zrZ zQ zR)) (.inr ⟨_,rfl,fun _ _ _ _=>(IW.t (gk (yp rfl (zkY hr.units) (zd 0 rfl (yF (by decide+kernel)) yq yr) (zd 2 rfl (xi (by decide+kernel)) wF wG) (by with_unfolding_all rfl)) (gh (yp rfl (Zs hr.units) (zd 0 rfl (yF (by decide+kernel)) yq yr) (zY hr.units (zd 2 rfl (xi (by decide+kernel)) wF wG) (zd 0 rfl (yF (by decide+kernel)) yq yr) (fun _ _=>rfl)) (yv _)))))⟩) (fun _ _ _ _=>(yL (ze (zd 0 rfl (yF (by decide+kernel)) yq yr) (ze (zY hr.units (zd 2 rfl (xi (by decide+kernel)) wF wG) (zd 0 rfl (yF (by decide+kernel)) yq yr) (fun _ _=>rfl)) zi yB) zb)))))
  zn)
theorem zul(hr:rO F cdv A s n "crowd_and_around" 50 40):bO Pg w K mg base F cdv A outer s H E fuel n ["floor","leap","mates","hue","crowd","around","edge","further","cell","other"] "crowd_and_around" 50 40 VO:=
 (zf (Yq 4 rfl jy.nd rfl zr8 (wD (sc:=zu (zA 50)) (N:=["floor","leap","mates","hue","crowd","around","edge","further","cell","other"]) rfl rfl (by decide+kernel)) (wv (zx (zw (hall 24) rfl) hr zsb T.n24.m T.n24.f.kp (T.n24.b) (ze (zd 0 rfl zhg zQ zR) (ze (zd 1 rfl zhf yk yl) (ze (zd 3 rfl zr2 zfT zfU) zi zb) zb) zb) kL zb (zo zb (zo zb zm)))) (.inr ⟨_,rfl,fun _ _ _ _=>(yp rfl (jj hr.units) (zd 0 rfl (yF (by decide+kernel)) yq yr) (zd 3 rfl (xi (by decide+kernel)) wF wG) (by with_unfolding_all rfl))⟩) (fun _ _ _ _=>(zd 0 rfl (yF (by decide+kernel)) yq yr)) (hsw:=(Yx (sc:=zu (zA 50)) rfl (by decide+kernel))))
  (zf (zV 5 jy.nd rfl zr7 (we zi))
  (zf (gw 6 4 jy.nd rfl zhh rfl zbd (hd:=zaW) (hcd:=zaX))
  (zf (Qw Kx (yp rfl (jK hr.units) (ym yV zr9 T.z_len KF (ze (zd 6 rfl zhe kE kF) zi zb) xa yZ zb zm) zj (yv _)) (zf (zV 7 jy.nd rfl zr6 (we zi))
  (zf (Yn 8 6 Kx rfl jy.nd rfl zr5 rfl zhe (zf (jk 9 Kx rfl jy.nd rfl zr4 (wv (zx (zw (hall 11) rfl) hr zsa T.n11.m T.n11.f.kp (T.n11.b) (ze (zd 0 rfl zhg zQ zR) (ze (zd 1 rfl zhf yk yl) (ze (zd 8 rfl zr0 yq yr) zi zb) zb) zb) kG zb (zo zb (zo zb zm)))) (zf (yC (yp rfl (jj hr.units) (zd 9 rfl zbf wm wp) (zd 5 rfl zbc zaU zaV) (by with_unfolding_all rfl)) (zf (jO 5 rfl zbc (zd 9 rfl zbf wm wp) zb zaU zaV)
  (zf (jO 7 rfl zbe (zY hr.units (zd 2 rfl zr1 wF wG) (zd 9 rfl zbf wm wp) (fun _ _=>rfl)) yB Ju Jv)
  zn)) zn)
  zn))
  zn) (hd:=kE) (hcd:=kF))
  (zf (zV 4 jy.nd rfl zr3 (zG xF (zd 4 rfl zbd zaW zaX) (zd 7 rfl zbe Ju Jv)))
  (zf (gw 6 7 jy.nd rfl zhh rfl zbe (hd:=Ju) (hcd:=Jv))
  zn)))))
  (zf (QK _ (zW (yL (ze (zd 4 rfl zbd zaW zaX) (ze (zd 5 rfl zbc zaU zaV) zi zb) zb))))
  zn)))))
theorem zum(hr:rO F cdv A s n "most_pairs" 51 43):bO Pg w K mg base F cdv A outer s H E fuel n ["floor","leap"] "most_pairs" 51 43 VP:=
 (zf (xM (zx (zw (hall 6) rfl) hr zsg T.n6.m T.n6.f.kp (T.n6.b) (ze (zd 0 rfl zbg zQ zR) zi zb) ZP zb zm))
  (zf (xM (zx (zw (hall 7) rfl) hr zsf T.n7.m T.n7.f.kp (T.n7.b) (ze (zd 1 rfl zhi yk yl) zi zb) ZO zb zm))
  (zf (zW (zx (zw (hall 39) rfl) hr zse T.n39.m T.n39.f.kp (T.n39.b) (ze (zd 0 rfl zbg zQ zR) (ze (zx (zw (hall 38) rfl) hr zsd T.n38.m T.n38.f.kp (T.n38.b) (ze (zd 0 rfl zbg zQ zR) (ze (zd 1 rfl zhi yk yl) zi zb) zb) zf5 zb (zo zb zm)) zi yd) zb) zf6 zb (zo yd zm)))
  zn)))
theorem zun(hr:rO F cdv A s n "paired" 52 47):bO Pg w K mg base F cdv A outer s H E fuel n ["floor","leap","mates","alone","found"] "paired" 52 47 VQ:=
 (zf (xM (zx (zw (hall 6) rfl) hr zss T.n6.m T.n6.f.kp (T.n6.b) (ze (zd 0 rfl JB zQ zR) zi zb) ZP zb zm))
  (zf (xM (zx (zw (hall 7) rfl) hr zsr T.n7.m T.n7.f.kp (T.n7.b) (ze (zd 1 rfl qk yk yl) zi zb) ZO zb zm))
  (zf (zV 2 qj.nd rfl zsj (zx (zw (hall 38) rfl) hr zsq T.n38.m T.n38.f.kp (T.n38.b) (ze (zd 0 rfl JB zQ zR) (ze (zd 1 rfl qk yk yl) zi zb) zb) zf5 zb (zo zb zm)))
  (zf (Yq 3 rfl qj.nd rfl zsk (wD (sc:=zu (zA 52)) (N:=["floor","leap","mates","alone","found"]) rfl rfl (by decide+kernel)) (wv (zd 0 rfl JB zQ zR)) (.inr ⟨_,rfl,fun _ _ _ _=>(yp rfl (jj hr.units) (zd 0 rfl (yF (by decide+kernel)) yq yr) (zd 3 rfl (xi (by decide+kernel)) wF wG) (by with_unfolding_all rfl))⟩) (fun _ _ _ _=>(zd 0 rfl (yF (by decide+kernel)) yq yr)) (hsw:=(Yx (sc:=zu (zA 52)) rfl (by decide+kernel))))
  (zf (yC (yp rfl (vc hr.units) (ym yV zso T.z_len KF (ze (zd 3 rfl zhj zf9 zga) zi zb) xa yZ zb zm) zj (yv _)) (zf (zW (yL (ze gb (ze (zx (zw (hall 39) rfl) hr zsp T.n39.m T.n39.f.kp (T.n39.b) (ze (zd 0 rfl JB zQ zR) (ze (zd 2 rfl zhk wF wG) zi zb) zb) zf6 zb (zo zb zm)) zi yd) zq)))
  zn) zn)
  (zf (QK _ (zV 4 qj.nd rfl zsi (zx (zw (hall 40) rfl) hr zsn T.n40.m T.n40.f.kp (T.n40.b) (ze (zd 0 rfl JB zQ zR) (ze (zd 1 rfl qk yk yl) (ze (zd 2 rfl zhk wF wG) (ze (zx (zw (hall 23) rfl) hr zsm T.n23.m T.n23.f.kp (T.n23.b) (ze (zd 1 rfl qk yk yl) (ze (zY hr.units (zd 3 rfl zhj zf9 zga) zj (fun _ _=>rfl)) zi yB) zb) zfS zb (zo yB zm)) zi yd) zb) zb) zb) zpW zb (zo zb (zo zb (zo yd zm))))))
  (zf (zW (yL (ze gb (ze (ym zdy zsl T.z_sorted PyProof.Rows.boot_sorted (ze (zY hr.units (zd 4 rfl zsh zpU zpV) zj (fun _ _=>rfl)) zi yB) zf8 zf7 yB zm) zi yd) zq)))
  zn)))))))
theorem zuo(hr:rO F cdv A s n "refuse_big" 35 61):bO Pg w K mg base F cdv A outer s H E fuel n ["floor","most"] "refuse_big" 35 61 VS:=
 (zf (yC (yp rfl (jK hr.units) (ym yV zsw T.z_len KF (ze (zd 0 rfl zsu zQ zR) zi zb) xa yZ zb zm) (zd 1 rfl zsv zfv zfw) (yv _)) (zf XV
  zn) zn)
  zn)
theorem zup(hr:rO F cdv A s n "bits_near" 36 62):bO Pg w K mg base F cdv A outer s H E fuel n ["floor","leap","cell"] "bits_near" 36 62 VT:=
 (zf (zW (ym (zlO rfl) zsA T.z_sum PyProof.Rows.boot_sum (ze (zmJ rfl (zmK (sc:=zu (zA 36)) (N:=["floor","leap","cell"]) rfl rfl (by decide+kernel)) zsz T.z_enumerate (zd 0 rfl zsy zQ zR) zb (fun _ _ _ _=>(wP (zx (zw (hall 10) rfl) hr (jl (by decide+kernel)) T.n10.m T.n10.f.kp (T.n10.b) (ze (zd 3 rfl (xi (by decide+kernel)) yk yl) (ze (zd 4 rfl (xi (by decide+kernel)) yq yr) (ze (zd 1 rfl (yF (by decide+kernel)) wm wp) zi zb) zb) zb) zfK zb (zo zb (zo zb zm))) (jM _ _) vd)) (fun _ _ _ _=>(zG jR zj (zd 0 rfl (yF (by decide+kernel)) vB vC)))) zi vP) zpI zpH vP zm))
  zn)
theorem zuq(hr:rO F cdv A s n "one_cell_walks" 37 63):bO Pg w K mg base F cdv A outer s H E fuel n ["count","starts","layer","place"] "one_cell_walks" 37 63 VU:=
 (zf (zV 2 zbh.nd rfl zsE (QF false))
  (zf (jk 3 Kx rfl zbh.nd rfl zsD (Qv zsF T.z_range (ze (zd 0 rfl zsB zpJ zpK) zi zb) zb) (zf (yC (yp rfl (XN hr.units) (zG Ve (zd 1 rfl zsC zaL zaM) (zG jR zj (zd 3 rfl zbi vB vC))) zj (yv _)) (zf (Yr 2 hr.units rfl zhl (zG jR zj (zd 3 rfl zbi vB vC)) (zG jR zj (zd 3 rfl zbi vB vC)) Jw Jx)
  zn) zn)
  zn))
  (zf (vg 2 rfl zhl Jw Jx)
  zn)))
theorem zur(hr:rO F cdv A s n "one_cell_longer" 38 64):bO Pg w K mg base F cdv A outer s H E fuel n ["near","layer","longer","visited","place","bit"] "one_cell_longer" 38 64 VV:=
 (zf (zV 2 JC.nd rfl zsJ (QF false))
  (zf (zmv 3 1 Kx rfl JC.nd rfl zsI rfl zhn (zf (jk 4 Kx rfl JC.nd rfl zsH (Qv zsL T.z_range (ze (ym yV zsK T.z_len KF (ze (zd 0 rfl zhm vY vZ) zi zb) xa yZ zb zm) zi yd) yd) (zf (zV 5 JC.nd rfl zsG (zG jR zj (zd 4 rfl zho vB vC)))
  (zf (yC (IW.t (gk (yp rfl (vc hr.units) (zG Ve (zd 3 rfl ql ZQ ZR) (zd 5 rfl qm kM kN)) zj (yv _)) (gh (yp rfl (XN hr.units) (zG Ve (zY hr.units (zd 1 rfl zhn Jw Jx) (zd 3 rfl ql ZQ ZR) (fun _ _=>rfl)) (zY hr.units (zd 0 rfl zhm vY vZ) (zd 4 rfl zho vB vC) (fun _ _=>rfl))) zj (yv _))))) (zf (Yr 2 hr.units rfl zbj (zG gR (zd 3 rfl ql ZQ ZR) (zd 5 rfl qm kM kN)) (zG gR (zdK hr.units (zd 2 rfl zbj zaN zaO) (zG gR (zd 3 rfl ql ZQ ZR) (zd 5 rfl qm kM kN)) zj (zdP yW zq)) (zd 5 rfl qm kM kN)) zaN zaO)
  zn) zn)
  zn)))
  zn) (hd:=Jw) (hcd:=Jx))
  (zf (vg 2 rfl zbj zaN zaO)
  zn)))
theorem zus(hr:rO F cdv A s n "layers_from" 39 65):bO Pg w K mg base F cdv A outer s H E fuel n ["near","starts","layers"] "layers_from" 39 65 VW:=
 (zf (zV 2 zhp.nd rfl zsN (we (ze (zx (zw (hall 63) rfl) hr zsP T.n63.m T.n63.f.kp (T.n63.b) (ze (ym yV zbl T.z_len KF (ze (zd 0 rfl zbk vY vZ) zi zb) xa yZ zb zm) (ze (zd 1 rfl zsM zaL zaM) zi zb) yd) zpM yd (zo zb zm)) zi yd)))
  (zf (Qw Kx (yp rfl (Zs hr.units) (ym yV zbl T.z_len KF (ze (zd 2 rfl qo YU YV) zi zb) xa yZ zb zm) (ym yV zbl T.z_len KF (ze (zd 0 rfl zbk vY vZ) zi zb) xa yZ zb zm) (yv _)) (zf (jO 2 rfl qo (zx (zw (hall 64) rfl) hr zsO T.n64.m T.n64.f.kp (T.n64.b) (ze (zd 0 rfl zbk vY vZ) (ze (zY hr.units (zd 2 rfl qo YU YV) (gc qX zj) (fun _ _=>rfl)) zi yB) zb) zpL zb (zo yB zm)) yd YU YV)
  zn))
  (zf (vg 2 rfl qo YU YV)
  zn)))
theorem zut(hr:rO F cdv A s n "walk_between" 40 66):bO Pg w K mg base F cdv A outer s H E fuel n ["floor","near","starts","ends","layers","visited","cells","layer","place"] "walk_between" 40 66 YK:=
 (zf (zV 4 Zg.nd rfl zsW (zx (zw (hall 65) rfl) hr zsZ T.n65.m T.n65.f.kp (T.n65.b) (ze (zd 1 rfl zhs vY vZ) (ze (zd 2 rfl zsR zaL zaM) zi zb) zb) zpN zb (zo zb zm)))
  (zf (zV 5 Zg.nd rfl zhv (zG vO (zG jR zj (ym yV zsY T.z_len KF (ze (zd 0 rfl zht zQ zR) zi zb) xa yZ zb zm)) zj))
  (zf (yC (yp rfl (vc hr.units) (zG Ve (zdK hr.units (zY hr.units (zd 4 rfl zhr YU YV) (gc qX zj) (fun _ _=>rfl)) (zd 5 rfl zbn ZQ ZR) zj (zdP zb zq)) (zd 3 rfl zhu zfV zfW)) zj (yv _)) (zf (zW Ql)
  zn) zn)
  (zf (zV 6 Zg.nd rfl zsV (we zi))
  (zf (QK _ (jk 7 Kx rfl Zg.nd rfl zsU (zml zsX T.z_reversed (ze (zd 4 rfl zhr YU YV) zi zb) zb) (zf (zV 8 Zg.nd rfl zsT (zG vO (zmg (zG Ve (zY hr.units (zd 7 rfl zsQ Jw Jx) (zd 5 rfl zbn ZQ ZR) (fun _ _=>rfl)) (zd 3 rfl zhu zfV zfW))) zj))
  (zf (jO 6 rfl zhq (zY hr.units (zd 0 rfl zht zQ zR) (zd 8 rfl zbm vB vC) (fun _ _=>rfl)) yB ZM ZN)
  (zf (zV 5 Zg.nd rfl zhv (zG zme (zd 5 rfl zbn ZQ ZR) (zG jR zj (zd 8 rfl zbm vB vC))))
  (zf (zV 3 Zg.nd rfl zsS (zY hr.units (zd 1 rfl zhs vY vZ) (zd 8 rfl zbm vB vC) (fun _ _=>rfl)))
  zn))))))
  (zf (vg 6 rfl zhq ZM ZN)
  zn))))))
theorem zuu(hr:rO F cdv A s n "walk" 41 67):bO Pg w K mg base F cdv A outer s H E fuel n ["floor","leap","near","anywhere"] "walk" 41 67 YL:=
 (zf (xM (zx (zw (hall 6) rfl) hr zta T.n6.m T.n6.f.kp (T.n6.b) (ze (zd 0 rfl JD zQ zR) zi zb) ZP zb zm))
  (zf (xM (zx (zw (hall 7) rfl) hr zs9 T.n7.m T.n7.f.kp (T.n7.b) (ze (zd 1 rfl zs1 yk yl) zi zb) ZO zb zm))
  (zf (xM (zx (zw (hall 61) rfl) hr zs8 T.n61.m T.n61.f.kp (T.n61.b) (ze (zd 0 rfl JD zQ zR) (ze (Zt zs7 T.c3 zf1) zi zb) zb) zaP zb (zo zb zm)))
  (zf (Yq 2 rfl zbo.nd rfl zs4 (wD (sc:=zu (zA 41)) (N:=["floor","leap","near","anywhere"]) rfl rfl (by decide+kernel)) (wv (zd 0 rfl JD zQ zR)) (.inl ⟨rfl,rfl⟩) (fun _ _ _ _=>(zx (zw (hall 62) rfl) hr (jl (by decide+kernel)) T.n62.m T.n62.f.kp (T.n62.b) (ze (zd 1 rfl (xi (by decide+kernel)) zQ zR) (ze (zd 2 rfl (xi (by decide+kernel)) yk yl) (ze (zd 0 rfl (yF (by decide+kernel)) yq yr) zi zb) zb) zb) zf0 zb (zo zb (zo zb zm)))) (hsw:=(Yx (sc:=zu (zA 41)) rfl (by decide+kernel))))
  (zf (zV 3 zbo.nd rfl zs3 (zG vO (zG jR zj (ym yV zs6 T.z_len KF (ze (zd 0 rfl JD zQ zR) zi zb) xa yZ zb zm)) zj))
  (zf (zW (zx (zw (hall 66) rfl) hr zs5 T.n66.m T.n66.f.kp (T.n66.b) (ze (zd 0 rfl JD zQ zR) (ze (zd 2 rfl zs0 vY vZ) (ze (zd 3 rfl zhw zfX zfY) (ze (zd 3 rfl zhw zfX zfY) zi zb) zb) zb) zb) zfZ zb (zo zb (zo zb (zo zb zm)))))
  zn))))))
theorem zuv(hr:rO F cdv A s n "ring_walk" 42 68):bO Pg w K mg base F cdv A outer s H E fuel n ["floor","leap","near"] "ring_walk" 42 68 ZD:=
 (zf (xM (zx (zw (hall 6) rfl) hr zti T.n6.m T.n6.f.kp (T.n6.b) (ze (zd 0 rfl JE zQ zR) zi zb) ZP zb zm))
  (zf (xM (zx (zw (hall 7) rfl) hr zth T.n7.m T.n7.f.kp (T.n7.b) (ze (zd 1 rfl ztb yk yl) zi zb) ZO zb zm))
  (zf (xM (zx (zw (hall 61) rfl) hr ztg T.n61.m T.n61.f.kp (T.n61.b) (ze (zd 0 rfl JE zQ zR) (ze (Zt ztf T.c3 zf1) zi zb) zb) zaP zb (zo zb zm)))
  (zf (yC (yp rfl (Zs hr.units) (ym yV zte T.z_len KF (ze (zd 0 rfl JE zQ zR) zi zb) xa yZ zb zm) zj (yv _)) (zf (zW Ql)
  zn) zn)
  (zf (Yq 2 rfl zhx.nd rfl ztc (wD (sc:=zu (zA 42)) (N:=["floor","leap","near"]) rfl rfl (by decide+kernel)) (wv (zd 0 rfl JE zQ zR)) (.inl ⟨rfl,rfl⟩) (fun _ _ _ _=>(zx (zw (hall 62) rfl) hr (jl (by decide+kernel)) T.n62.m T.n62.f.kp (T.n62.b) (ze (zd 1 rfl (xi (by decide+kernel)) zQ zR) (ze (zd 2 rfl (xi (by decide+kernel)) yk yl) (ze (zd 0 rfl (yF (by decide+kernel)) yq yr) zi zb) zb) zb) zf0 zb (zo zb (zo zb zm)))) (hsw:=(Yx (sc:=zu (zA 42)) rfl (by decide+kernel))))
  (zf (zW (zx (zw (hall 66) rfl) hr ztd T.n66.m T.n66.f.kp (T.n66.b) (ze (zd 0 rfl JE zQ zR) (ze (zd 2 rfl zhy vY vZ) (ze zj (ze (zY hr.units (zd 2 rfl zhy vY vZ) zj (fun _ _=>rfl)) zi yB) zq) zb) zb) zfZ zb (zo zb (zo zq (zo yB zm)))))
  zn))))))
theorem zuw(hr:rO F cdv A s n "leaves_too_many" 43 69):bO Pg w K mg base F cdv A outer s H E fuel n ["floor","leap","spare","cut","rest","parts"] "leaves_too_many" 43 69 VX:=
 (zf (Yq 4 rfl zbp.nd rfl ztp (wD (sc:=zu (zA 43)) (N:=["floor","leap","spare","cut","rest","parts"]) rfl rfl (by decide+kernel)) (wv (zd 0 rfl ztn zQ zR)) (.inr ⟨_,rfl,fun _ _ _ _=>(yp rfl (jj hr.units) (zd 0 rfl (yF (by decide+kernel)) yq yr) (zd 4 rfl (xi (by decide+kernel)) ZS ZT) (by with_unfolding_all rfl))⟩) (fun _ _ _ _=>(zd 0 rfl (yF (by decide+kernel)) yq yr)) (hsw:=(Yx (sc:=zu (zA 43)) rfl (by decide+kernel))))
  (zf (QK _ (zV 5 zbp.nd rfl zto (ym yV zhA T.z_len KF (ze (zx (zw (hall 30) rfl) hr ztq T.n30.m T.n30.f.kp (T.n30.b) (ze (zd 4 rfl ztm zpO zpP) (ze (zd 1 rfl ztl yk yl) zi zb) zb) zpQ zb (zo zb zm)) zi yd) xa yZ yd zm)))
  (zf (zW (Zv (Zu (jK hr.units) (zd 5 rfl zhz kH kI) (zG xF (ym yV zhA T.z_len KF (ze (zd 3 rfl ztj ZS ZT) zi zb) xa yZ zb zm) (zd 2 rfl ztk zaQ zaR)) (yv _)) (XS (Zu (jK hr.units) (zd 5 rfl zhz kH kI) zj (yv _)))))
  zn)))
theorem zux(hr:rO F cdv A s n "one_cell_more" 44 70):bO Pg w K mg base F cdv A outer s H E fuel n ["floor","cuts","wider","cut","cell"] "one_cell_more" 44 70 VZ:=
 (zf (zV 2 qp.nd rfl ztv (we zi))
  (zf (Yn 3 1 Kx rfl qp.nd rfl ztu rfl zts (zf (Yn 4 0 Kx rfl qp.nd rfl ztt rfl ztr (zf (yC (IW.t (Zx (yp rfl (vc hr.units) (ym yV ztw T.z_len KF (ze (zd 3 rfl zbq ZS ZT) zi zb) xa yZ zb zm) zj (yv _)) (Zw (yp rfl (jK hr.units) (zd 4 rfl zhC yq yr) (zY hr.units (zd 3 rfl zbq ZS ZT) (gc qX zj) (fun _ _=>rfl)) (yv _))))) (zf (jO 2 rfl zhB (zG xF (zd 3 rfl zbq ZS ZT) (we (ze (zd 4 rfl zhC yq yr) zi zb))) yW zf2 zf3)
  zn) zn)
  zn) (hd:=zQ) (hcd:=zR))
  zn) (hd:=kO) (hcd:=kP))
  (zf (vg 2 rfl zhB zf2 zf3)
  zn)))
theorem zuy(hr:rO F cdv A s n "cut_of" 45 71):bO Pg w K mg base F cdv A outer s H E fuel n ["floor","leap","spare","cuts","cut"] "cut_of" 45 71 YM:=
 (zf (xM (zx (zw (hall 6) rfl) hr ztE T.n6.m T.n6.f.kp (T.n6.b) (ze (zd 0 rfl JF zQ zR) zi zb) ZP zb zm))
  (zf (xM (zx (zw (hall 7) rfl) hr ztD T.n7.m T.n7.f.kp (T.n7.b) (ze (zd 1 rfl zhF yk yl) zi zb) ZO zb zm))
  (zf (xM (zx (zw (hall 61) rfl) hr ztC T.n61.m T.n61.f.kp (T.n61.b) (ze (zd 0 rfl JF zQ zR) (ze (Zt ztB T.c4 zpT) zi zb) zb) zaP zb (zo zb zm)))
  (zf (yC (jL (wP (zx (zw (hall 0) rfl) hr ztA T.n0.m T.n0.f.kp (T.n0.b) (ze (zd 2 rfl zhE zaQ zaR) (ze zj (ze zj zi zq) zq) zb) Jp zb (zo zq (zo zq zm))) (jM _ _) vd)) (zf XV
  zn) zn)
  (zf (zV 3 qq.nd rfl zhG (we (ze (we zi) zi zk4)))
  (zf (Qw Kx (yp rfl (Zs hr.units) (zG Zr zj (ym yV zhH T.z_len KF (ze (zY hr.units (zd 3 rfl zbr kO kP) zj (fun _ _=>rfl)) zi yB) xa yZ yB zm)) (ym yV zhH T.z_len KF (ze (zd 0 rfl JF zQ zR) zi zb) xa yZ zb zm) (yv _)) (zf (Yn 4 3 Kx rfl qq.nd rfl ztx rfl zbr (zf (yC (wP (zx (zw (hall 69) rfl) hr ztz T.n69.m T.n69.f.kp (T.n69.b) (ze (zd 0 rfl JF zQ zR) (ze (zd 1 rfl zhF yk yl) (ze (zd 2 rfl zhE zaQ zaR) (ze (zd 4 rfl zhD ZS ZT) zi zb) zb) zb) zb) zpS zb (zo zb (zo zb (zo zb zm)))) (jM _ _) vd) (zf (vg 4 rfl zhD ZS ZT)
  zn) zn)
  zn) (hd:=kO) (hcd:=kP))
  (zf (zV 3 qq.nd rfl zhG (zx (zw (hall 70) rfl) hr zty T.n70.m T.n70.f.kp (T.n70.b) (ze (zd 0 rfl JF zQ zR) (ze (zd 3 rfl zbr kO kP) zi zb) zb) zpR zb (zo zb zm)))
  zn)))
  (zf (zW Ql)
  zn)))))))
theorem zuz(hr:rO F cdv A s n "law" 58 77):bO Pg w K mg base F cdv A outer s H E fuel n ["_law_script","_law_floor_here","_law_leap_here","_law_found","_law_ring","_law_sizes","_law_turned"] "law" 58 77 Ja:=
 (zf (zV 1 ZV.nd rfl ztJ (zx (zw (hall 15) rfl) hr ztT T.n15.m T.n15.f.kp (T.n15.b) (ze (zd 0 rfl zhK Ze Zf) (ze zj (ze zj zi zq) zq) zb) zqe zb (zo zq (zo zq zm))))
  (zf (zV 2 ZV.nd rfl ztI (zx (zw (hall 16) rfl) hr ztS T.n16.m T.n16.f.kp (T.n16.b) (ze (zx (zw (hall 13) rfl) hr ztR T.n13.m T.n13.f.kp (T.n13.b) (ze (zd 0 rfl zhK Ze Zf) (ze zj zi zq) zb) Jy zb (zo zq zm)) zi yd) zqd yd zm))
  (zf (zV 3 ZV.nd rfl ztH (zx (zw (hall 67) rfl) hr zhM T.n67.m T.n67.f.kp (T.n67.b) (ze (zd 1 rfl jc vD vE) (ze (zd 2 rfl jz ja jb) zi zb) zb) zgs zb (zo zb zm)))
  (zf (zV 4 ZV.nd rfl ztG (zx (zw (hall 68) rfl) hr zhL T.n68.m T.n68.f.kp (T.n68.b) (ze (zd 1 rfl jc vD vE) (ze (zd 2 rfl jz ja jb) zi zb) zb) zgp zb (zo zb zm)))
  (zf (Yq 5 rfl ZV.nd rfl ztK (wD (sc:=zu (zA 58)) (N:=["_law_script","_law_floor_here","_law_leap_here","_law_found","_law_ring","_law_sizes","_law_turned"]) rfl rfl (by decide+kernel)) (wv (zx (zw (hall 25) rfl) hr ztQ T.n25.m T.n25.f.kp (T.n25.b) (ze (zd 1 rfl jc vD vE) (ze (zd 2 rfl jz ja jb) zi zb) zb) zqa zb (zo zb zm))) (.inl ⟨rfl,rfl⟩) (fun _ _ _ _=>(ym yV (jl (by decide+kernel)) T.z_len KF (ze (zd 0 rfl (yF (by decide+kernel)) zqb zqc) zi zb) xa yZ zb zm)) (hsw:=(Yx (sc:=zu (zA 58)) rfl (by decide+kernel))))
  (zf (yC (QE (zd 3 rfl zbs YW YX)) (zf (yC (IW.t (Zx (yp rfl (jK hr.units) (ym XO ztP T.z_abs (by decide+kernel) (ze (zG vO (zY hr.units (zd 5 rfl qr kY kZ) zj (fun _ _=>rfl)) (zY hr.units (zd 5 rfl qr kY kZ) zj (fun _ _=>rfl))) zi yW) Jr Jq yW zm) zj (yv _)) (Zw (QE (zx (zw (hall 71) rfl) hr zhN T.n71.m T.n71.f.kp (T.n71.b) (ze (zd 1 rfl jc vD vE) (ze (zd 2 rfl jz ja jb) (ze zj zi zq) zb) zb) zgt zb (zo zb (zo zq zm))))))) (zf (zW ve)
  zn) zn)
  (zf (yC (yp rfl (XN hr.units) (ym yV zhO T.z_len KF (ze (zx (zw (hall 43) rfl) hr ztO T.n43.m T.n43.f.kp (T.n43.b) (ze (zd 1 rfl jc vD vE) (ze (zd 2 rfl jz ja jb) zi zb) zb) zp9 zb (zo zb zm)) zi yd) xa yZ yd zm) (zG XM (ym yV zhO T.z_len KF (ze (zd 1 rfl jc vD vE) zi zb) xa yZ zb zm) zj) (yv _)) (zf (zW ve)
  zn) zn)
  zn)) zn)
  (zf (yC (QE (zd 4 rfl zhJ zgq zgr)) (zf (yC (IW.t (Zx (yp rfl (XN hr.units) (zY hr.units (zd 5 rfl qr kY kZ) zj (fun _ _=>rfl)) (zY hr.units (zd 5 rfl qr kY kZ) zj (fun _ _=>rfl)) (yv _)) (Zw (QE (zx (zw (hall 71) rfl) hr zhN T.n71.m T.n71.f.kp (T.n71.b) (ze (zd 1 rfl jc vD vE) (ze (zd 2 rfl jz ja jb) (ze zj zi zq) zb) zb) zgt zb (zo zb (zo zq zm))))))) (zf (zW ve)
  zn) zn)
  (zf (yC (yp rfl zl6 (zY hr.units (zx (zw (hall 47) rfl) hr ztN T.n47.m T.n47.f.kp (T.n47.b) (ze (zd 1 rfl jc vD vE) (ze (zd 2 rfl jz ja jb) zi zb) zb) zp8 zb (zo zb zm)) zj (fun _ _=>rfl)) gb (yv _)) (zf (zW ve)
  zn) zn)
  (zf (yC (zlj (zd 3 rfl zbs YW YX)) (zf (zW ve)
  zn) zn)
  (zf (yC (wP (jP rfl (wD (sc:=zu (zA 58)) (N:=["_law_script","_law_floor_here","_law_leap_here","_law_found","_law_ring","_law_sizes","_law_turned"]) rfl rfl (by decide+kernel)) (wv (zd 1 rfl jc vD vE)) (.inr ⟨_,rfl,fun _ _ _ _=>(yp rfl (Zs hr.units) (ym yV (jl (by decide+kernel)) T.z_len KF (ze (zx (zw (hall 12) rfl) hr (jl (by decide+kernel)) T.n12.m T.n12.f.kp (T.n12.b) (ze (zd 2 rfl (xi (by decide+kernel)) vD vE) (ze (zd 3 rfl (xi (by decide+kernel)) ja jb) (ze (zd 0 rfl (yF (by decide+kernel)) jw jx) zi zb) zb) zb) zp7 zb (zo zb (zo zb zm))) zi yd) xa yZ yd zm) zj (yv _))⟩) (fun _ _ _ _=>(zd 0 rfl (yF (by decide+kernel)) jw jx))) (zlF _ _ _ _) zlG) (zf (zW ve)
  zn) zn)
  zn)))) zn)
  (zf (zV 6 ZV.nd rfl ztF (zcI zcG ztM T.z_tuple PyProof.Rows.boot_tuple (ze (ym zdy ztL T.z_sorted PyProof.Rows.boot_sorted (ze (jP rfl (wD (sc:=zu (zA 58)) (N:=["_law_script","_law_floor_here","_law_leap_here","_law_found","_law_ring","_law_sizes","_law_turned"]) rfl rfl (by decide+kernel)) (wv (zd 1 rfl jc vD vE)) (.inl ⟨rfl,rfl⟩) (fun _ _ _ _=>(yL (ze (zY hr.units (zd 0 rfl (yF (by decide+kernel)) jw jx) zj (fun _ _=>rfl)) (ze (zY hr.units (zd 0 rfl (yF (by decide+kernel)) jw jx) zj (fun _ _=>rfl)) zi yB) yB)))) zi vP) zf8 zf7 vP zm) zi yd) kD kC yd zm))
  (zf (yC (yp rfl (XN hr.units) (QD (zx (zw (hall 67) rfl) hr zhM T.n67.m T.n67.f.kp (T.n67.b) (ze (zd 6 rfl zhI zgn zgo) (ze (zd 2 rfl jz ja jb) zi zb) zb) zgs zb (zo zb zm))) (QD (zd 3 rfl zbs YW YX)) (yv _)) (zf (zW ve)
  zn) zn)
  (zf (zW (Zu (vc hr.units) (QD (zx (zw (hall 68) rfl) hr zhL T.n68.m T.n68.f.kp (T.n68.b) (ze (zd 6 rfl zhI zgn zgo) (ze (zd 2 rfl jz ja jb) zi zb) zb) zgp zb (zo zb zm))) (QD (zd 4 rfl zhJ zgq zgr)) (yv _)))
  zn))))))))))
end
theorem yc(T:Txt K mg F FD TK): ∀n i,FnOk Pg w K mg base wr n (F i) (FD i) (zU i) (vf K (zD U fuel n) i (zfs i))
 |0,_=>zlp
 |n+1,0=>ye (F0:=⟨3,3,Vk,[],none⟩) T.n0.f zqf rfl rfl rfl rfl (by decide) rfl (ztU T (yc T n))
 |n+1,1=>ye (F0:=⟨1,1,Vl,[],none⟩) T.n1.f zqk rfl rfl rfl rfl (by decide) rfl (ztV T (yc T n))
 |n+1,2=>ye (F0:=⟨1,1,Vm,[],none⟩) T.n2.f zqo rfl rfl rfl rfl (by decide) rfl (ztW T (yc T n))
 |n+1,3=>ye (F0:=⟨1,1,Vn,[],none⟩) T.n3.f zqq rfl rfl rfl rfl (by decide) rfl (ztX T (yc T n))
 |n+1,4=>ye (F0:=⟨1,1,Vo,[],none⟩) T.n4.f zqt rfl rfl rfl rfl (by decide) rfl (ztY T (yc T n))
 |n+1,5=>ye (F0:=⟨1,1,Vp,[],none⟩) T.n5.f zqy rfl rfl rfl rfl (by decide) rfl (ztZ T (yc T n))
 |n+1,6=>ye (F0:=⟨1,1,Vq,[],none⟩) T.n6.f zqF rfl rfl rfl rfl (by decide) rfl (zt0 T (yc T n))
 |n+1,7=>ye (F0:=⟨1,1,Vr,[],none⟩) T.n7.f zqH rfl rfl rfl rfl (by decide) rfl (zt1 T (yc T n))
 |n+1,8=>ye (F0:=⟨2,2,Vs,[],none⟩) T.n8.f zqJ rfl rfl rfl rfl (by decide) rfl (zt2 T (yc T n))
 |n+1,9=>ye (F0:=⟨2,2,Vt,[],none⟩) T.n9.f zqM rfl rfl rfl rfl (by decide) rfl (zt3 T (yc T n))
 |n+1,10=>ye (F0:=⟨3,3,Vu,[],none⟩) T.n10.f zqP rfl rfl rfl rfl (by decide) rfl (zt4 T (yc T n))
 |n+1,11=>ye (F0:=⟨3,3,Vv,[],none⟩) T.n11.f zqS rfl rfl rfl rfl (by decide) rfl (zt5 T (yc T n))
 |n+1,12=>ye (F0:=⟨3,3,Vw,[],none⟩) T.n12.f zqU rfl rfl rfl rfl (by decide) rfl (zt6 T (yc T n))
 |n+1,13=>ye (F0:=⟨2,2,Vx,[],none⟩) T.n13.f zqZ rfl rfl rfl rfl (by decide) rfl (zt7 T (yc T n))
 |n+1,14=>ye (F0:=⟨3,3,Vy,[],none⟩) T.n14.f zq1 rfl rfl rfl rfl (by decide) rfl (zt8 T (yc T n))
 |n+1,15=>ye (F0:=⟨3,13,VA,[],none⟩) T.n15.f vo rfl rfl rfl rfl (by decide) rfl (zt9 T (yc T n))
 |n+1,16=>ye (F0:=⟨1,2,VB,[],none⟩) T.n16.f zgQ rfl rfl rfl rfl (by decide) rfl (zua T (yc T n))
 |n+1,17=>yn rfl
 |n+1,18=>yn rfl
 |n+1,19=>yn rfl
 |n+1,20=>ye (F0:=⟨3,8,VC,[],none⟩) T.n20.f ZU rfl rfl rfl rfl (by decide) rfl (zub T (yc T n))
 |n+1,21=>ye (F0:=⟨1,1,VD,[],none⟩) T.n21.f zrs rfl rfl rfl rfl (by decide) rfl (zuc T (yc T n))
 |n+1,22=>ye (F0:=⟨1,2,VE,[],none⟩) T.n22.f zgW rfl rfl rfl rfl (by decide) rfl (zud T (yc T n))
 |n+1,23=>ye (F0:=⟨2,5,VF,[],none⟩) T.n23.f qi rfl rfl rfl rfl (by decide) rfl (zue T (yc T n))
 |n+1,24=>ye (F0:=⟨3,3,VG,[],none⟩) T.n24.f zrE rfl rfl rfl rfl (by decide) rfl (zuf T (yc T n))
 |n+1,25=>ye (F0:=⟨2,2,VH,[],none⟩) T.n25.f zrG rfl rfl rfl rfl (by decide) rfl (zug T (yc T n))
 |n+1,26=>yn rfl
 |n+1,27=>yn rfl
 |n+1,28=>yn rfl
 |n+1,29=>yn rfl
 |n+1,30=>ye (F0:=⟨2,6,VJ,[],none⟩) T.n30.f Jz rfl rfl rfl rfl (by decide) rfl (zuh T (yc T n))
 |n+1,31=>yn rfl
 |n+1,32=>yn rfl
 |n+1,33=>yn rfl
 |n+1,34=>yn rfl
 |n+1,35=>yn rfl
 |n+1,36=>yn rfl
 |n+1,37=>ye (F0:=⟨5,6,YI,[2,4],none⟩) T.n37.f zg8 rfl rfl rfl rfl (by decide) rfl (zui T (yc T n))
 |n+1,38=>ye (F0:=⟨2,4,VL,[],none⟩) T.n38.f zbb rfl rfl rfl rfl (by decide) rfl (zuj T (yc T n))
 |n+1,39=>ye (F0:=⟨2,2,VM,[],none⟩) T.n39.f zrY rfl rfl rfl rfl (by decide) rfl (zuk T (yc T n))
 |n+1,40=>ye (F0:=⟨4,10,VO,[],none⟩) T.n40.f jy rfl rfl rfl rfl (by decide) rfl (zul T (yc T n))
 |n+1,41=>yn rfl
 |n+1,42=>yn rfl
 |n+1,43=>ye (F0:=⟨2,2,VP,[],none⟩) T.n43.f zsc rfl rfl rfl rfl (by decide) rfl (zum T (yc T n))
 |n+1,44=>yn rfl
 |n+1,45=>yn rfl
 |n+1,46=>yn rfl
 |n+1,47=>ye (F0:=⟨2,5,VQ,[],none⟩) T.n47.f qj rfl rfl rfl rfl (by decide) rfl (zun T (yc T n))
 |n+1,48=>yn rfl
 |n+1,49=>yn rfl
 |n+1,50=>yn rfl
 |n+1,51=>yn rfl
 |n+1,52=>yn rfl
 |n+1,53=>yn rfl
 |n+1,54=>yn rfl
 |n+1,55=>yn rfl
 |n+1,56=>yn rfl
 |n+1,57=>yn rfl
 |n+1,58=>yn rfl
 |n+1,59=>yn rfl
 |n+1,60=>yn rfl
 |n+1,61=>ye (F0:=⟨2,2,VS,[],none⟩) T.n61.f zst rfl rfl rfl rfl (by decide) rfl (zuo T (yc T n))
 |n+1,62=>ye (F0:=⟨3,3,VT,[],none⟩) T.n62.f zsx rfl rfl rfl rfl (by decide) rfl (zup T (yc T n))
 |n+1,63=>ye (F0:=⟨2,4,VU,[],none⟩) T.n63.f zbh rfl rfl rfl rfl (by decide) rfl (zuq T (yc T n))
 |n+1,64=>ye (F0:=⟨2,6,VV,[],none⟩) T.n64.f JC rfl rfl rfl rfl (by decide) rfl (zur T (yc T n))
 |n+1,65=>ye (F0:=⟨2,3,VW,[],none⟩) T.n65.f zhp rfl rfl rfl rfl (by decide) rfl (zus T (yc T n))
 |n+1,66=>ye (F0:=⟨4,9,YK,[],none⟩) T.n66.f Zg rfl rfl rfl rfl (by decide) rfl (zut T (yc T n))
 |n+1,67=>ye (F0:=⟨2,4,YL,[],none⟩) T.n67.f zbo rfl rfl rfl rfl (by decide) rfl (zuu T (yc T n))
 |n+1,68=>ye (F0:=⟨2,3,ZD,[],none⟩) T.n68.f zhx rfl rfl rfl rfl (by decide) rfl (zuv T (yc T n))
 |n+1,69=>ye (F0:=⟨4,6,VX,[],none⟩) T.n69.f zbp rfl rfl rfl rfl (by decide) rfl (zuw T (yc T n))
 |n+1,70=>ye (F0:=⟨2,5,VZ,[],none⟩) T.n70.f qp rfl rfl rfl rfl (by decide) rfl (zux T (yc T n))
 |n+1,71=>ye (F0:=⟨3,5,YM,[],none⟩) T.n71.f qq rfl rfl rfl rfl (by decide) rfl (zuy T (yc T n))
 |n+1,72=>yn rfl
 |n+1,73=>yn rfl
 |n+1,74=>yn rfl
 |n+1,75=>yn rfl
 |n+1,76=>yn rfl
 |n+1,77=>ye (F0:=⟨1,7,Ja,[],none⟩) T.n77.f ZV rfl rfl rfl rfl (by decide) rfl (zuz T (yc T n))
 |n+1,_+78=>yn rfl
theorem zuA{h:Heap}(X:K.In h)(G:h.Ns mainGlobals mg){f0 f1 f2 f3 f4 f5 f6 f7 f8 f9 f10 f11 f12 f13 f14 f15 f16 f20 f21 f22 f23 f24 f25 f30 f37 f38 f39 f40 f43 f47 f61 f62 f63 f64 f65 f66 f67 f68 f69 f70 f71 f77:Addr}{od0 od1 od2 od3 od4 od5 od6 od7 od8 od9 od10 od11 od12 od13 od14 od15 od16 od20 od21 od22 od23 od24 od25 od30 od37 od38 od39 od40 od43 od47 od61 od62 od63 od64 od65 od66 od67 od68 od69 od70 od71 od77 an0 an1 an2 an3 an4 an5 an6 an7 an8 an9 an10 an11 an12 an13 an14 an15 an16 an20 an21 an22 an23 an24 an25 an30 an37 an38 an39 an40 an43 an47 an61 an62 an63 an64 an65 an66 an67 an68 an69 an70 an71 an77:Option Addr}{sl0 sl1 sl2 sl3 sl4 sl5 sl6 sl7 sl8 sl9 sl10 sl11 sl12 sl13 sl14 sl15 sl16 sl20 sl21 sl22 sl23 sl24 sl25 sl30 sl37 sl38 sl39 sl40 sl43 sl47 sl61 sl62 sl63 sl64 sl65 sl66 sl67 sl68 sl69 sl70 sl71 sl77:Array (Option Value)}{oc0 oc1 oc2 oc3 oc4 oc5 oc6 oc7 oc8 oc9 oc10 oc11 oc12 oc13 oc14 oc15 oc16 oc20 oc21 oc22 oc23 oc24 oc25 oc30 oc37 oc38 oc39 oc40 oc43 oc47 oc61 oc62 oc63 oc64 oc65 oc66 oc67 oc68 oc69 oc70 oc71 oc77 kV0 kV1 kV2 kV3 kV4 kV5 kV6 kV7 kV8 kV9 kV10 kV11 kV12 kV13 kV14 kV15 kV16 kV20 kV21 kV22 kV23 kV24 kV25 kV30 kV37 kV38 kV39 kV40 kV43 kV47 kV61 kV62 kV63 kV64 kV65 kV66 kV67 kV68 kV69 kV70 kV71 kV77 dc0 dc1 dc2 dc3 dc4 dc5 dc6 dc7 dc8 dc9 dc10 dc11 dc12 dc13 dc14 dc15 dc16 dc20 dc21 dc22 dc23 dc24 dc25 dc30 dc37 dc38 dc39 dc40 dc43 dc47 dc61 dc62 dc63 dc64 dc65 dc66 dc67 dc68 dc69 dc70 dc71 dc77 pm0 pm1 pm2 pm3 pm4 pm5 pm6 pm7 pm8 pm9 pm10 pm11 pm12 pm13 pm14 pm15 pm16 pm20 pm21 pm22 pm23 pm24 pm25 pm30 pm37 pm38 pm39 pm40 pm43 pm47 pm61 pm62 pm63 pm64 pm65 pm66 pm67 pm68 pm69 pm70 pm71 pm77 cd0 cd1 cd2 cd3 cd4 cd5 cd6 cd7 cd8 cd9 cd10 cd11 cd12 cd13 cd14 cd15 cd16 cd20 cd21 cd22 cd23 cd24 cd25 cd30 cd37 cd38 cd39 cd40 cd43 cd47 cd61 cd62 cd63 cd64 cd65 cd66 cd67 cd68 cd69 cd70 cd71 cd77 ct0 ct1 ct2 ct3 ct4 ct5 ct6 ct7 ct8 ct9 ct10 ct11 ct12 ct13 ct14 ct15 ct16 ct20 ct21 ct22 ct23 ct24 ct25 ct30 ct37 ct38 ct39 ct40 ct43 ct47 ct61 ct62 ct63 ct64 ct65 ct66 ct67 ct68 ct69 ct70 ct71 ct77:Value}{t0 t1 t2 t3 t4:Tok}
  (h0:fH K f0 oc0 od0 kV0 dc0 pm0 an0 cd0 ct0 sl0 "is_whole" 11)
  (h1:fH K f1 oc1 od1 kV1 dc1 pm1 an1 cd1 ct1 sl1 "is_couple" 12)
  (h2:fH K f2 oc2 od2 kV2 dc2 pm2 an2 cd2 ct2 sl2 "is_cell" 13)
  (h3:fH K f3 oc3 od3 kV3 dc3 pm3 an3 cd3 ct3 sl3 "is_leap" 14)
  (h4:fH K f4 oc4 od4 kV4 dc4 pm4 an4 cd4 ct4 sl4 "is_rising" 15)
  (h5:fH K f5 oc5 od5 kV5 dc5 pm5 an5 cd5 ct5 sl5 "is_floor" 16)
  (h6:fH K f6 oc6 od6 kV6 dc6 pm6 an6 cd6 ct6 sl6 "checked" 17)
  (h7:fH K f7 oc7 od7 kV7 dc7 pm7 an7 cd7 ct7 sl7 "checked_leap" 18)
  (h8:fH K f8 oc8 od8 kV8 dc8 pm8 an8 cd8 ct8 sl8 "checked_cell" 19)
  (h9:fH K f9 oc9 od9 kV9 dc9 pm9 an9 cd9 ct9 sl9 "folded" 21)
  (h10:fH K f10 oc10 od10 kV10 dc10 pm10 an10 cd10 ct10 sl10 "are_near" 22)
  (h11:fH K f11 oc11 od11 kV11 dc11 pm11 an11 cd11 ct11 sl11 "cells_near" 23)
  (h12:fH K f12 oc12 od12 kV12 dc12 pm12 an12 cd12 ct12 sl12 "near_cells" 30)
  (h13:fH K f13 oc13 od13 kV13 dc13 pm13 an13 cd13 ct13 sl13 "_law_cell" 54)
  (h14:fH K f14 oc14 od14 kV14 dc14 pm14 an14 cd14 ct14 sl14 "_law_mix" 55)
  (h15:fH K f15 oc15 od15 kV15 dc15 pm15 an15 cd15 ct15 sl15 "_law_floor" 56)
  (h16:fH K f16 oc16 od16 kV16 dc16 pm16 an16 cd16 ct16 sl16 "_law_leap" 57)
  (h20:fH K f20 oc20 od20 kV20 dc20 pm20 an20 cd20 ct20 sl20 "leads_to" 24)
  (h21:fH K f21 oc21 od21 kV21 dc21 pm21 an21 cd21 ct21 sl21 "greatest_divisor" 26)
  (h22:fH K f22 oc22 od22 kV22 dc22 pm22 an22 cd22 ct22 sl22 "has_odd_sum" 27)
  (h23:fH K f23 oc23 od23 kV23 dc23 pm23 an23 cd23 ct23 sl23 "hue_of" 28)
  (h24:fH K f24 oc24 od24 kV24 dc24 pm24 an24 cd24 ct24 sl24 "cells_of_hue" 29)
  (h25:fH K f25 oc25 od25 kV25 dc25 pm25 an25 cd25 ct25 sl25 "hues_of" 31)
  (h30:fH K f30 oc30 od30 kV30 dc30 pm30 an30 cd30 ct30 sl30 "parts_within" 25)
  (h37:fH K f37 oc37 od37 kV37 dc37 pm37 an37 cd37 ct37 sl37 "finds_mate" 47)
  (h38:fH K f38 oc38 od38 kV38 dc38 pm38 an38 cd38 ct38 sl38 "all_mates" 48)
  (h39:fH K f39 oc39 od39 kV39 dc39 pm39 an39 cd39 ct39 sl39 "pairs_of" 49)
  (h40:fH K f40 oc40 od40 kV40 dc40 pm40 an40 cd40 ct40 sl40 "crowd_and_around" 50)
  (h43:fH K f43 oc43 od43 kV43 dc43 pm43 an43 cd43 ct43 sl43 "most_pairs" 51)
  (h47:fH K f47 oc47 od47 kV47 dc47 pm47 an47 cd47 ct47 sl47 "paired" 52)
  (h61:fH K f61 oc61 od61 kV61 dc61 pm61 an61 cd61 ct61 sl61 "refuse_big" 35)
  (h62:fH K f62 oc62 od62 kV62 dc62 pm62 an62 cd62 ct62 sl62 "bits_near" 36)
  (h63:fH K f63 oc63 od63 kV63 dc63 pm63 an63 cd63 ct63 sl63 "one_cell_walks" 37)
  (h64:fH K f64 oc64 od64 kV64 dc64 pm64 an64 cd64 ct64 sl64 "one_cell_longer" 38)
  (h65:fH K f65 oc65 od65 kV65 dc65 pm65 an65 cd65 ct65 sl65 "layers_from" 39)
  (h66:fH K f66 oc66 od66 kV66 dc66 pm66 an66 cd66 ct66 sl66 "walk_between" 40)
  (h67:fH K f67 oc67 od67 kV67 dc67 pm67 an67 cd67 ct67 sl67 "walk" 41)
  (h68:fH K f68 oc68 od68 kV68 dc68 pm68 an68 cd68 ct68 sl68 "ring_walk" 42)
  (h69:fH K f69 oc69 od69 kV69 dc69 pm69 an69 cd69 ct69 sl69 "leaves_too_many" 43)
  (h70:fH K f70 oc70 od70 kV70 dc70 pm70 an70 cd70 ct70 sl70 "one_cell_more" 44)
  (h71:fH K f71 oc71 od71 kV71 dc71 pm71 an71 cd71 ct71 sl71 "cut_of" 45)
  (h77:fH K f77 oc77 od77 kV77 dc77 pm77 an77 cd77 ct77 sl77 "law" 58)
  (z_isinstance:PySem.W.nsIn K mainGlobals "isinstance"=some none)
  (z_int:PySem.W.nsIn K mainGlobals "int"=some none)
  (z_bool:PySem.W.nsIn K mainGlobals "bool"=some none)
  (z_len:PySem.W.nsIn K mainGlobals "len"=some none)
  (z_tuple:PySem.W.nsIn K mainGlobals "tuple"=some none)
  (z_range:PySem.W.nsIn K mainGlobals "range"=some none)
  (z_all:PySem.W.nsIn K mainGlobals "all"=some none)
  (z_abs:PySem.W.nsIn K mainGlobals "abs"=some none)
  (z_max:PySem.W.nsIn K mainGlobals "max"=some none)
  (z_min:PySem.W.nsIn K mainGlobals "min"=some none)
  (z_sorted:PySem.W.nsIn K mainGlobals "sorted"=some none)
  (z_enumerate:PySem.W.nsIn K mainGlobals "enumerate"=some none)
  (z_sum:PySem.W.nsIn K mainGlobals "sum"=some none)
  (z_reversed:PySem.W.nsIn K mainGlobals "reversed"=some none)
  (c0:PySem.W.nsIn K mainGlobals "LAST_LINE"=some (some (.int 7 t0)))
  (c1:PySem.W.nsIn K mainGlobals "MOST_CELLS"=some (some (.int 24 t1)))
  (c2:PySem.W.nsIn K mainGlobals "LONGEST_LEAP"=some (some (.int 4 t2)))
  (c3:PySem.W.nsIn K mainGlobals "MOST_TO_WALK"=some (some (.int 16 t3)))
  (c4:PySem.W.nsIn K mainGlobals "MOST_TO_CUT"=some (some (.int 9 t4)))
  : ∃F FD TK,Txt K mg F FD TK/\F 77=f77/\(∀(s:Shared) (u:Value),BindsTo s (FD 77) ⟨[u],[]⟩ [("_law_script",u)]):=
 let adF:Nat->Addr:=fun i=>match i with
  |1=>f1
  |2=>f2
  |3=>f3
  |4=>f4
  |5=>f5
  |6=>f6
  |7=>f7
  |8=>f8
  |9=>f9
  |10=>f10
  |11=>f11
  |12=>f12
  |13=>f13
  |14=>f14
  |15=>f15
  |16=>f16
  |20=>f20
  |21=>f21
  |22=>f22
  |23=>f23
  |24=>f24
  |25=>f25
  |30=>f30
  |37=>f37
  |38=>f38
  |39=>f39
  |40=>f40
  |43=>f43
  |47=>f47
  |61=>f61
  |62=>f62
  |63=>f63
  |64=>f64
  |65=>f65
  |66=>f66
  |67=>f67
  |68=>f68
  |69=>f69
  |70=>f70
  |71=>f71
  |77=>f77
  |_=>f0
 ⟨adF,
  fun i=>Jo K (adF i),
  fun i=>[t0,t1,t2,t3,t4].getD i 0,
  {
   n0:=yg X G h0 rfl fun _ _ _ _ _ _=>vN (fun _ _ _=>rfl)
   n1:=yg X G h1 rfl fun _ _ _ _ _ _=>vx (fun _=>rfl)
   n2:=yg X G h2 rfl fun _ _ _ _ _ _=>vx (fun _=>rfl)
   n3:=yg X G h3 rfl fun _ _ _ _ _ _=>vx (fun _=>rfl)
   n4:=yg X G h4 rfl fun _ _ _ _ _ _=>vx (fun _=>rfl)
   n5:=yg X G h5 rfl fun _ _ _ _ _ _=>vx (fun _=>rfl)
   n6:=yg X G h6 rfl fun _ _ _ _ _ _=>vx (fun _=>rfl)
   n7:=yg X G h7 rfl fun _ _ _ _ _ _=>vx (fun _=>rfl)
   n8:=yg X G h8 rfl fun _ _ _ _ _ _=>wc (fun _ _=>rfl)
   n9:=yg X G h9 rfl fun _ _ _ _ _ _=>wc (fun _ _=>rfl)
   n10:=yg X G h10 rfl fun _ _ _ _ _ _=>vN (fun _ _ _=>rfl)
   n11:=yg X G h11 rfl fun _ _ _ _ _ _=>vN (fun _ _ _=>rfl)
   n12:=yg X G h12 rfl fun _ _ _ _ _ _=>vN (fun _ _ _=>rfl)
   n13:=yg X G h13 rfl fun _ _ _ _ _ _=>wc (fun _ _=>rfl)
   n14:=yg X G h14 rfl fun _ _ _ _ _ _=>vN (fun _ _ _=>rfl)
   n15:=yg X G h15 rfl fun _ _ _ _ _ _=>vN (fun _ _ _=>rfl)
   n16:=yg X G h16 rfl fun _ _ _ _ _ _=>vx (fun _=>rfl)
   n20:=yg X G h20 rfl fun _ _ _ _ _ _=>vN (fun _ _ _=>rfl)
   n21:=yg X G h21 rfl fun _ _ _ _ _ _=>vx (fun _=>rfl)
   n22:=yg X G h22 rfl fun _ _ _ _ _ _=>vx (fun _=>rfl)
   n23:=yg X G h23 rfl fun _ _ _ _ _ _=>wc (fun _ _=>rfl)
   n24:=yg X G h24 rfl fun _ _ _ _ _ _=>vN (fun _ _ _=>rfl)
   n25:=yg X G h25 rfl fun _ _ _ _ _ _=>wc (fun _ _=>rfl)
   n30:=yg X G h30 rfl fun _ _ _ _ _ _=>wc (fun _ _=>rfl)
   n37:=yg X G h37 rfl fun _ _ _ _ _ _=>zkO (fun _ _ _ _ _=>rfl)
   n38:=yg X G h38 rfl fun _ _ _ _ _ _=>wc (fun _ _=>rfl)
   n39:=yg X G h39 rfl fun _ _ _ _ _ _=>wc (fun _ _=>rfl)
   n40:=yg X G h40 rfl fun _ _ _ _ _ _=>qS (fun _ _ _ _=>rfl)
   n43:=yg X G h43 rfl fun _ _ _ _ _ _=>wc (fun _ _=>rfl)
   n47:=yg X G h47 rfl fun _ _ _ _ _ _=>wc (fun _ _=>rfl)
   n61:=yg X G h61 rfl fun _ _ _ _ _ _=>wc (fun _ _=>rfl)
   n62:=yg X G h62 rfl fun _ _ _ _ _ _=>vN (fun _ _ _=>rfl)
   n63:=yg X G h63 rfl fun _ _ _ _ _ _=>wc (fun _ _=>rfl)
   n64:=yg X G h64 rfl fun _ _ _ _ _ _=>wc (fun _ _=>rfl)
   n65:=yg X G h65 rfl fun _ _ _ _ _ _=>wc (fun _ _=>rfl)
   n66:=yg X G h66 rfl fun _ _ _ _ _ _=>qS (fun _ _ _ _=>rfl)
   n67:=yg X G h67 rfl fun _ _ _ _ _ _=>wc (fun _ _=>rfl)
   n68:=yg X G h68 rfl fun _ _ _ _ _ _=>wc (fun _ _=>rfl)
   n69:=yg X G h69 rfl fun _ _ _ _ _ _=>qS (fun _ _ _ _=>rfl)
   n70:=yg X G h70 rfl fun _ _ _ _ _ _=>wc (fun _ _=>rfl)
   n71:=yg X G h71 rfl fun _ _ _ _ _ _=>vN (fun _ _ _=>rfl)
   n77:=yg X G h77 rfl fun _ _ _ _ _ _=>vx (fun _=>rfl)
   z_isinstance:=Kw X G z_isinstance
   z_int:=Kw X G z_int
   z_bool:=Kw X G z_bool
   z_len:=Kw X G z_len
   z_tuple:=Kw X G z_tuple
   z_range:=Kw X G z_range
   z_all:=Kw X G z_all
   z_abs:=Kw X G z_abs
   z_max:=Kw X G z_max
   z_min:=Kw X G z_min
   z_sorted:=Kw X G z_sorted
   z_enumerate:=Kw X G z_enumerate
   z_sum:=Kw X G z_sum
   z_reversed:=Kw X G z_reversed
   c0:=Kv X G c0
   c1:=Kv X G c1
   c2:=Kv X G c2
   c3:=Kv X G c3
   c4:=Kv X G c4
  },rfl,fun s u=>by
   show BindsTo s (Jo K f77) _ _;rw[zft h77.l];exact .of_eq rfl⟩
end
end LK
namespace LK
open PySem PySem.W L2
noncomputable def en(P:Params)(x:Str)(t:Nat)(v:Value):DictEntry:=⟨PyData.keyHash P x,.str x t,v⟩
noncomputable def fo(i:Nat)(x m:Str)(t c:Nat):Obj:=⟨.type "function",none,.func (fnOf x x (Yd (zA i)) (jf (zA i)) (zu (zA i)) .none .none .none (.str m t) none (.ref c) .none), #[]⟩
noncomputable def co(x:Str)(t l a r h:Nat):Obj:=⟨.type "code",none,.fields #[.str x t,.str x (t+1),.str "/claim/cut.py" (t+2),.int l 0,.int a 0,.int 0 0,.int 0 0,.int 3 0,.ref r,.bool true,.int 181 0,.ref (r+1),.none,.ref (r+2),.ref (r+3),.ref (r+4),.int h 0,.int l 0,.str "/claim/cut.py" (h+1)], #[]⟩
noncomputable def cn(x:Str)(t l a r h:Nat):Obj:=⟨.type "code",none,.fields #[.str x t,.str x (t+1),.str "/claim/cut.py" (t+2),.int l 0,.int a 0,.int 0 0,.int 0 0,.int 3 0,.ref r,.bool true,.int 181 0,.ref (r+1),.none,.none,.none,.ref (r+2),.int h 0,.int l 0,.str "/claim/cut.py" (h+1)], #[]⟩
noncomputable def HK(P:Params):Frag:=[(3,.mk (.type "dict") none (.dict #[en P "__name__" 165 (.str "law_leaperwalk_k11_whole_why_no_walk" 614),en P "__doc__" 166 .none,en P "__package__" 167 .none,en P "__loader__" 168 (.builtin "__main__.__loader__#opaque"),en P "__spec__" 169 .none,en P "__annotations__" 170 (.ref 6),en P "__builtins__" 171 (.ref 4),en P "__file__" 173 (.str "/claim/cut.py" 172),en P "__cached__" 174 .none,en P "LeapError" 206 (.ref 24),en P "BadFloor" 222 (.ref 37),en P "BadLeap" 238 (.ref 49),en P "NoCell" 254 (.ref 61),en P "BadNumber" 270 (.ref 73),en P "TooBig" 286 (.ref 85),en P "LAST_LINE" 290 (.int 7 289),en P "MOST_CELLS" 292 (.int 24 291),en P "LONGEST_LEAP" 294 (.int 4 293),en P "is_whole" 303 (.ref 94),en P "is_couple" 310 (.ref 101),en P "is_cell" 317 (.ref 108),en P "is_leap" 324 (.ref 115),en P "is_rising" 330 (.ref 120),en P "is_floor" 336 (.ref 125),en P "checked" 343 (.ref 132),en P "checked_leap" 350 (.ref 139),en P "checked_cell" 358 (.ref 146),en P "folded" 368 (.ref 153),en P "are_near" 377 (.ref 160),en P "cells_near" 383 (.ref 165),en P "leads_to" 397 (.ref 172),en P "parts_within" 409 (.ref 179),en P "greatest_divisor" 415 (.ref 184),en P "has_odd_sum" 423 (.ref 191),en P "hue_of" 434 (.ref 198),en P "cells_of_hue" 440 (.ref 203),en P "near_cells" 449 (.ref 210),en P "hues_of" 457 (.ref 217),en P "MOST_TO_WALK" 461 (.int 16 460),en P "MOST_TO_CUT" 463 (.int 9 462),en P "refuse_big" 471 (.ref 224),en P "bits_near" 477 (.ref 229),en P "one_cell_walks" 487 (.ref 236),en P "one_cell_longer" 499 (.ref 243),en P "layers_from" 508 (.ref 250),en P "walk_between" 523 (.ref 257),en P "walk" 529 (.ref 262),en P "ring_walk" 535 (.ref 267),en P "leaves_too_many" 541 (.ref 272),en P "one_cell_more" 552 (.ref 279),en P "cut_of" 563 (.ref 286),en P "finds_mate" 577 (.ref 293),en P "all_mates" 587 (.ref 300),en P "pairs_of" 593 (.ref 305),en P "crowd_and_around" 599 (.ref 310),en P "most_pairs" 607 (.ref 317),en P "paired" 613 (.ref 322),en P "_law_cell" 623 (.ref 329),en P "_law_mix" 632 (.ref 336),en P "_law_floor" 651 (.ref 343),en P "_law_leap" 659 (.ref 350),en P "law" 665 (.ref 355)] 62) #[]),
 (93,co "is_whole" 295 18 3 88 301),
 (94,fo 11 "is_whole" "leaperwalk.floors" 287 93),
 (100,co "is_couple" 304 22 1 95 308),
 (101,fo 12 "is_couple" "leaperwalk.floors" 287 100),
 (107,co "is_cell" 311 24 1 102 315),
 (108,fo 13 "is_cell" "leaperwalk.floors" 287 107),
 (114,co "is_leap" 318 26 1 109 322),
 (115,fo 14 "is_leap" "leaperwalk.floors" 287 114),
 (119,cn "is_rising" 325 28 1 116 328),
 (120,fo 15 "is_rising" "leaperwalk.floors" 287 119),
 (124,cn "is_floor" 331 30 1 121 334),
 (125,fo 16 "is_floor" "leaperwalk.floors" 287 124),
 (131,co "checked" 337 34 1 126 341),
 (132,fo 17 "checked" "leaperwalk.floors" 287 131),
 (138,co "checked_leap" 344 38 1 133 348),
 (139,fo 18 "checked_leap" "leaperwalk.floors" 287 138),
 (145,co "checked_cell" 351 42 2 140 356),
 (146,fo 19 "checked_cell" "leaperwalk.floors" 287 145),
 (152,co "folded" 361 47 2 147 366),
 (153,fo 21 "folded" "leaperwalk.leaps" 359 152),
 (159,co "are_near" 369 49 3 154 375),
 (160,fo 22 "are_near" "leaperwalk.leaps" 359 159),
 (164,cn "cells_near" 378 51 3 161 381),
 (165,fo 23 "cells_near" "leaperwalk.leaps" 359 164),
 (171,co "leads_to" 384 53 3 166 395),
 (172,fo 24 "leads_to" "leaperwalk.leaps" 359 171),
 (178,co "parts_within" 398 65 2 173 407),
 (179,fo 25 "parts_within" "leaperwalk.leaps" 359 178),
 (183,cn "greatest_divisor" 410 74 1 180 413),
 (184,fo 26 "greatest_divisor" "leaperwalk.leaps" 359 183),
 (190,co "has_odd_sum" 416 76 1 185 421),
 (191,fo 27 "has_odd_sum" "leaperwalk.leaps" 359 190),
 (197,co "hue_of" 424 79 2 192 432),
 (198,fo 28 "hue_of" "leaperwalk.leaps" 359 197),
 (202,cn "cells_of_hue" 435 86 3 199 438),
 (203,fo 29 "cells_of_hue" "leaperwalk.leaps" 359 202),
 (209,co "near_cells" 441 88 3 204 447),
 (210,fo 30 "near_cells" "leaperwalk.leaps" 359 209),
 (216,co "hues_of" 450 93 2 211 455),
 (217,fo 31 "hues_of" "leaperwalk.leaps" 359 216),
 (223,co "refuse_big" 464 100 2 218 469),
 (224,fo 35 "refuse_big" "leaperwalk.walks" 458 223),
 (228,cn "bits_near" 472 103 3 225 475),
 (229,fo 36 "bits_near" "leaperwalk.walks" 458 228),
 (235,co "one_cell_walks" 478 105 2 230 485),
 (236,fo 37 "one_cell_walks" "leaperwalk.walks" 458 235),
 (242,co "one_cell_longer" 488 111 2 237 497),
 (243,fo 38 "one_cell_longer" "leaperwalk.walks" 458 242),
 (249,co "layers_from" 500 119 2 244 506),
 (250,fo 39 "layers_from" "leaperwalk.walks" 458 249),
 (256,co "walk_between" 509 124 4 251 521),
 (257,fo 40 "walk_between" "leaperwalk.walks" 458 256),
 (261,cn "walk" 524 136 2 258 527),
 (262,fo 41 "walk" "leaperwalk.walks" 458 261),
 (266,cn "ring_walk" 530 143 2 263 533),
 (267,fo 42 "ring_walk" "leaperwalk.walks" 458 266),
 (271,cn "leaves_too_many" 536 151 4 268 539),
 (272,fo 43 "leaves_too_many" "leaperwalk.walks" 458 271),
 (278,co "one_cell_more" 542 155 2 273 550),
 (279,fo 44 "one_cell_more" "leaperwalk.walks" 458 278),
 (285,co "cut_of" 553 162 3 280 561),
 (286,fo 45 "cut_of" "leaperwalk.walks" 458 285),
 (292,co "finds_mate" 566 176 5 287 575),
 (293,fo 47 "finds_mate" "leaperwalk.pairs" 564 292),
 (299,co "all_mates" 578 185 2 294 585),
 (300,fo 48 "all_mates" "leaperwalk.pairs" 564 299),
 (304,cn "pairs_of" 588 190 2 301 591),
 (305,fo 49 "pairs_of" "leaperwalk.pairs" 564 304),
 (309,cn "crowd_and_around" 594 192 4 306 597),
 (310,fo 50 "crowd_and_around" "leaperwalk.pairs" 564 309),
 (316,co "most_pairs" 600 206 2 311 605),
 (317,fo 51 "most_pairs" "leaperwalk.pairs" 564 316),
 (321,cn "paired" 608 210 2 318 611),
 (322,fo 52 "paired" "leaperwalk.pairs" 564 321),
 (328,co "_law_cell" 616 220 2 323 621),
 (329,fo 54 "_law_cell" "law_leaperwalk_k11_whole_why_no_walk" 614 328),
 (335,co "_law_mix" 624 224 3 330 630),
 (336,fo 55 "_law_mix" "law_leaperwalk_k11_whole_why_no_walk" 614 335),
 (342,co "_law_floor" 633 226 3 337 649),
 (343,fo 56 "_law_floor" "law_leaperwalk_k11_whole_why_no_walk" 614 342),
 (349,co "_law_leap" 652 242 1 344 657),
 (350,fo 57 "_law_leap" "law_leaperwalk_k11_whole_why_no_walk" 614 349),
 (354,cn "law" 660 245 1 351 663),
 (355,fo 58 "law" "law_leaperwalk_k11_whole_why_no_walk" 614 354)]
noncomputable def HA:List Addr:=[3,93,94,100,101,107,108,114,115,119,120,124,125,131,132,138,139,145,146,152,153,159,160,164,165,171,172,178,179,183,184,190,191,197,198,202,203,209,210,216,217,223,224,228,229,235,236,242,243,249,250,256,257,261,262,266,267,271,272,278,279,285,286,292,293,299,300,304,305,309,310,316,317,321,322,328,329,335,336,342,343,349,350,354,355]
noncomputable def HQ:Program:=view PySem.Challenge.pw_leaperwalk_k11_whole_why_no_walk [1,2,3,4,5,6,8,9,10,11,12,13,14,15,16,17,18,19,21,22,23,24,25,26,27,28,29,30,31,33,34,35,36,37,38,39,40,41,42,43,44,45,47,48,49,50,51,52,54,55,56,57,58]
theorem zuB: ∀P,HA=(HK P).map (·.1):=fun P=>by kernel_rfl
noncomputable def HH:Hook:=kHook HK HA zuB
noncomputable def tu(a:Array Value):Obj:=⟨.type "tuple",none,.seq a, #[]⟩
noncomputable def fi(c:Value)(a:Array Value):Obj:=⟨c,none,.fields a, #[]⟩
noncomputable def di(a:Array DictEntry)(n:Nat):Obj:=⟨.type "dict",none,.dict a n, #[]⟩
noncomputable def MH(P:Params):Heap:=⟨#[boot_o_0 P,
 boot_o_1 P,
 boot_o_2 P,
 di #[en P "__name__" 165 (.str "leaperwalk.errors" 187),en P "__doc__" 166 .none,en P "__package__" 167 .none,en P "__loader__" 168 (.builtin "__main__.__loader__#opaque"),en P "__spec__" 169 .none,en P "__annotations__" 170 (.ref 6),en P "__builtins__" 171 (.ref 4),en P "__file__" 173 (.str "/claim/cut.py" 172),en P "__cached__" 174 .none,en P "LeapError" 206 (.ref 24),en P "BadFloor" 222 (.ref 37),en P "BadLeap" 238 (.ref 49),en P "NoCell" 254 (.ref 61),en P "BadNumber" 270 (.ref 73),en P "TooBig" 286 (.ref 85)] 15,
 boot_o_4 P,
 boot_o_5 P,
 boot_o_6 P,
 boot_o_7 P,
 boot_o_8 P,
 boot_o_9 P,
 boot_o_10 P,
 tu #[],
 fi .none #[.int 2 0,.int 0 0,.ref 20,.int 4 0,.int 0 0,.ref 33,.int 6 0,.int 0 0,.ref 45,.int 8 0,.int 0 0,.ref 57,.int 10 0,.int 0 0,.ref 69,.int 12 0,.int 0 0,.ref 81],
 fi (.type "code") #[.str "<module>" 182,.str "<module>" 183,.str "/claim/cut.py" 184,.int 1 0,.int 0 0,.int 0 0,.int 0 0,.int 0 0,.ref 11,.bool false,.int 181 0,.ref 12,.none,.none,.none,.none,.int 185 0,.int 1 0,.str "/claim/cut.py" 186],
 .mk (.type "frame") none .plain #[some (.ref 13),some (.ref 3),some (.ref 3),none,some (.str "__main__" 164),none,some (.ref 0)],
 tu #[.type "ValueError"],
 fi (.type "builtin_function_or_method") #[.builtin "type.__prepare__",.type "type"],
 di #[en P "__module__" 196 (.str "leaperwalk.errors" 187),en P "__qualname__" 198 (.str "LeapError" 197),en P "__firstlineno__" 200 (.int 2 199),en P "__static_attributes__" 201 (.ref 22)] 4,
 tu #[],
 fi .none #[],
 fi (.type "code") #[.str "LeapError" 191,.str "LeapError" 192,.str "/claim/cut.py" 193,.int 2 0,.int 0 0,.int 0 0,.int 0 0,.int 0 0,.ref 18,.bool false,.int 181 0,.ref 19,.none,.none,.none,.none,.int 194 0,.int 2 0,.str "/claim/cut.py" 195],
 .mk (.type "frame") none .plain #[some (.ref 20),some (.ref 3),some (.ref 17),none,some (.str "leaperwalk.errors" 187),none,some (.ref 0)],
 tu #[],
 di #[en P "__module__" 196 (.str "leaperwalk.errors" 187),en P "__firstlineno__" 200 (.int 2 199),en P "__static_attributes__" 201 (.ref 22),en P "__weakref__" 203 (.ref 25),en P "__doc__" 204 .none] 3,
 .mk (.type "type") none (.cls (.mk "LeapError" [.type "ValueError"] [.ref 24,.type "ValueError",.type "Exception",.type "BaseException",.type "object"] 23 "LeapError" true [] [.ref 37,.ref 49,.ref 61,.ref 73,.ref 85] false none false)) #[some (.ref 15),none,some (.str "LeapError" 189),some (.str "LeapError" 197),some (.builtin "ValueError.__new__"),some (.bool true)],
 fi (.type "getset_descriptor") #[.str "__weakref__" 202,.ref 24,.builtin "ExceptionGroup.__weakref__",.none],
 fi (.type "super") #[.ref 24,.ref 24,.ref 24],
 fi (.type "builtin_function_or_method") #[.builtin "object.__init_subclass__",.ref 24],
 tu #[.ref 24],
 fi (.type "builtin_function_or_method") #[.builtin "type.__prepare__",.type "type"],
 di #[en P "__module__" 214 (.str "leaperwalk.errors" 187),en P "__qualname__" 216 (.str "BadFloor" 215),en P "__firstlineno__" 218 (.int 4 217),en P "__static_attributes__" 219 (.ref 35)] 4,
 tu #[],
 fi .none #[],
 fi (.type "code") #[.str "BadFloor" 209,.str "BadFloor" 210,.str "/claim/cut.py" 211,.int 4 0,.int 0 0,.int 0 0,.int 0 0,.int 0 0,.ref 31,.bool false,.int 181 0,.ref 32,.none,.none,.none,.none,.int 212 0,.int 4 0,.str "/claim/cut.py" 213],
 .mk (.type "frame") none .plain #[some (.ref 33),some (.ref 3),some (.ref 30),none,some (.str "leaperwalk.errors" 187),none,some (.ref 0)],
 tu #[],
 di #[en P "__module__" 214 (.str "leaperwalk.errors" 187),en P "__firstlineno__" 218 (.int 4 217),en P "__static_attributes__" 219 (.ref 35),en P "__doc__" 220 .none] 2,
 .mk (.type "type") none (.cls (.mk "BadFloor" [.ref 24] [.ref 37,.ref 24,.type "ValueError",.type "Exception",.type "BaseException",.type "object"] 36 "BadFloor" true [] [] false none false)) #[some (.ref 28),none,some (.str "BadFloor" 207),some (.str "BadFloor" 215),some (.builtin "ValueError.__new__"),some (.bool true)],
 fi (.type "super") #[.ref 37,.ref 37,.ref 37],
 fi (.type "builtin_function_or_method") #[.builtin "object.__init_subclass__",.ref 37],
 tu #[.ref 24],
 fi (.type "builtin_function_or_method") #[.builtin "type.__prepare__",.type "type"],
 di #[en P "__module__" 230 (.str "leaperwalk.errors" 187),en P "__qualname__" 232 (.str "BadLeap" 231),en P "__firstlineno__" 234 (.int 6 233),en P "__static_attributes__" 235 (.ref 47)] 4,
 tu #[],
 fi .none #[],
 fi (.type "code") #[.str "BadLeap" 225,.str "BadLeap" 226,.str "/claim/cut.py" 227,.int 6 0,.int 0 0,.int 0 0,.int 0 0,.int 0 0,.ref 43,.bool false,.int 181 0,.ref 44,.none,.none,.none,.none,.int 228 0,.int 6 0,.str "/claim/cut.py" 229],
 .mk (.type "frame") none .plain #[some (.ref 45),some (.ref 3),some (.ref 42),none,some (.str "leaperwalk.errors" 187),none,some (.ref 0)],
 tu #[],
 di #[en P "__module__" 230 (.str "leaperwalk.errors" 187),en P "__firstlineno__" 234 (.int 6 233),en P "__static_attributes__" 235 (.ref 47),en P "__doc__" 236 .none] 2,
 .mk (.type "type") none (.cls (.mk "BadLeap" [.ref 24] [.ref 49,.ref 24,.type "ValueError",.type "Exception",.type "BaseException",.type "object"] 48 "BadLeap" true [] [] false none false)) #[some (.ref 40),none,some (.str "BadLeap" 223),some (.str "BadLeap" 231),some (.builtin "ValueError.__new__"),some (.bool true)],
 fi (.type "super") #[.ref 49,.ref 49,.ref 49],
 fi (.type "builtin_function_or_method") #[.builtin "object.__init_subclass__",.ref 49],
 tu #[.ref 24],
 fi (.type "builtin_function_or_method") #[.builtin "type.__prepare__",.type "type"],
 di #[en P "__module__" 246 (.str "leaperwalk.errors" 187),en P "__qualname__" 248 (.str "NoCell" 247),en P "__firstlineno__" 250 (.int 8 249),en P "__static_attributes__" 251 (.ref 59)] 4,
 tu #[],
 fi .none #[],
 fi (.type "code") #[.str "NoCell" 241,.str "NoCell" 242,.str "/claim/cut.py" 243,.int 8 0,.int 0 0,.int 0 0,.int 0 0,.int 0 0,.ref 55,.bool false,.int 181 0,.ref 56,.none,.none,.none,.none,.int 244 0,.int 8 0,.str "/claim/cut.py" 245],
 .mk (.type "frame") none .plain #[some (.ref 57),some (.ref 3),some (.ref 54),none,some (.str "leaperwalk.errors" 187),none,some (.ref 0)],
 tu #[],
 di #[en P "__module__" 246 (.str "leaperwalk.errors" 187),en P "__firstlineno__" 250 (.int 8 249),en P "__static_attributes__" 251 (.ref 59),en P "__doc__" 252 .none] 2,
 .mk (.type "type") none (.cls (.mk "NoCell" [.ref 24] [.ref 61,.ref 24,.type "ValueError",.type "Exception",.type "BaseException",.type "object"] 60 "NoCell" true [] [] false none false)) #[some (.ref 52),none,some (.str "NoCell" 239),some (.str "NoCell" 247),some (.builtin "ValueError.__new__"),some (.bool true)],
 fi (.type "super") #[.ref 61,.ref 61,.ref 61],
 fi (.type "builtin_function_or_method") #[.builtin "object.__init_subclass__",.ref 61],
 tu #[.ref 24],
 fi (.type "builtin_function_or_method") #[.builtin "type.__prepare__",.type "type"],
 di #[en P "__module__" 262 (.str "leaperwalk.errors" 187),en P "__qualname__" 264 (.str "BadNumber" 263),en P "__firstlineno__" 266 (.int 10 265),en P "__static_attributes__" 267 (.ref 71)] 4,
 tu #[],
 fi .none #[],
 fi (.type "code") #[.str "BadNumber" 257,.str "BadNumber" 258,.str "/claim/cut.py" 259,.int 10 0,.int 0 0,.int 0 0,.int 0 0,.int 0 0,.ref 67,.bool false,.int 181 0,.ref 68,.none,.none,.none,.none,.int 260 0,.int 10 0,.str "/claim/cut.py" 261],
 .mk (.type "frame") none .plain #[some (.ref 69),some (.ref 3),some (.ref 66),none,some (.str "leaperwalk.errors" 187),none,some (.ref 0)],
 tu #[],
 di #[en P "__module__" 262 (.str "leaperwalk.errors" 187),en P "__firstlineno__" 266 (.int 10 265),en P "__static_attributes__" 267 (.ref 71),en P "__doc__" 268 .none] 2,
 .mk (.type "type") none (.cls (.mk "BadNumber" [.ref 24] [.ref 73,.ref 24,.type "ValueError",.type "Exception",.type "BaseException",.type "object"] 72 "BadNumber" true [] [] false none false)) #[some (.ref 64),none,some (.str "BadNumber" 255),some (.str "BadNumber" 263),some (.builtin "ValueError.__new__"),some (.bool true)],
 fi (.type "super") #[.ref 73,.ref 73,.ref 73],
 fi (.type "builtin_function_or_method") #[.builtin "object.__init_subclass__",.ref 73],
 tu #[.ref 24],
 fi (.type "builtin_function_or_method") #[.builtin "type.__prepare__",.type "type"],
 di #[en P "__module__" 278 (.str "leaperwalk.errors" 187),en P "__qualname__" 280 (.str "TooBig" 279),en P "__firstlineno__" 282 (.int 12 281),en P "__static_attributes__" 283 (.ref 83)] 4,
 tu #[],
 fi .none #[],
 fi (.type "code") #[.str "TooBig" 273,.str "TooBig" 274,.str "/claim/cut.py" 275,.int 12 0,.int 0 0,.int 0 0,.int 0 0,.int 0 0,.ref 79,.bool false,.int 181 0,.ref 80,.none,.none,.none,.none,.int 276 0,.int 12 0,.str "/claim/cut.py" 277],
 .mk (.type "frame") none .plain #[some (.ref 81),some (.ref 3),some (.ref 78),none,some (.str "leaperwalk.errors" 187),none,some (.ref 0)],
 tu #[],
 di #[en P "__module__" 278 (.str "leaperwalk.errors" 187),en P "__firstlineno__" 282 (.int 12 281),en P "__static_attributes__" 283 (.ref 83),en P "__doc__" 284 .none] 2,
 .mk (.type "type") none (.cls (.mk "TooBig" [.ref 24] [.ref 85,.ref 24,.type "ValueError",.type "Exception",.type "BaseException",.type "object"] 84 "TooBig" true [] [] false none false)) #[some (.ref 76),none,some (.str "TooBig" 271),some (.str "TooBig" 279),some (.builtin "ValueError.__new__"),some (.bool true)],
 fi (.type "super") #[.ref 85,.ref 85,.ref 85],
 fi (.type "builtin_function_or_method") #[.builtin "object.__init_subclass__",.ref 85]],(boot_heap P).life⟩
noncomputable def ME:PySem.Env:={ scope:=PySem.Challenge.pw_leaperwalk_k11_whole_why_no_walk.main.scope,locals:=mainNs,globals:=mainNs,cells:=[],code:=.ref 13,frame:=some 14 }
noncomputable def MT:Thread:=⟨((execs ((behindTheImports PySem.Challenge.pw_leaperwalk_k11_whole_why_no_walk).drop 7) ME).onRaise (leaving ME)).bind fun f=>(Sem.pure (Fin.done f):Sem Fin),.body (behindTheImports PySem.Challenge.pw_leaperwalk_k11_whole_why_no_walk) ME,⟨12,0,13,8⟩,[topFrame ⟨0,0,0,0⟩]⟩
set_option maxHeartbeats 0 in
theorem zuC: ∀w os,topGo treeTable PySem.Challenge.pw_leaperwalk_k11_whole_why_no_walk w 11 (some (.ref 6)) 1272 ⟨boot_heap w.params,Array.mk [],boot_drawn,boot_toks,os⟩ (topStub PySem.Challenge.pw_leaperwalk_k11_whole_why_no_walk)=some (⟨MH w.params, #[],boot_drawn,287,os⟩,MT):=by
 intro w os
 kernel_rfl
theorem zuD{p q:Program}{loose:List Str}{Xt:Shared->Bool}{α:Type}{Yf:Shared->α}{Ya:World->α}{m n M:Nat}{ann:Option Value}{H:Params->Heap}{k:Nat}{th:Thread}
  (e:opening p=plainProg p.main.scope.names) (hN:Nat.ble 600 (n+M)=true) (f: ∀s,fenceModules? p s=some s)
  (z1: ∀P,(boot_heap P).isNs mainGlobals=true) (z2: ∀P,(boot_heap P).objs.size=m) (z3: ∀P,(boot_heap P).nsMap mainGlobals "__annotations__"=ann)
  (A: ∀w os,topGo treeTable p w m ann n ⟨boot_heap w.params,Array.mk [],boot_drawn,boot_toks,os⟩ (topStub p)=some (⟨H w.params, #[],boot_drawn,k,os⟩,th))
  (B: ∀w os,(topRun treeTable p w m ann M ⟨H w.params, #[],boot_drawn,k,os⟩ th).map (fun s=>
    ((staticsOk (importedModules p.main.body) (boot_heap w.params) s.heap&&namesBound p s.heap&&gensDone s&&laidKept (boot_heap w.params) s.heap:Bool),(openSeen q loose (importedModules p.main.body) Xt true s).1))=some (true,(openGood q loose).1))
  (B': ∀w os,(topRun treeTable p w m ann M ⟨H w.params, #[],boot_drawn,k,os⟩ th).map (fun s=>((openSeen q loose (importedModules p.main.body) Xt true s).2,Yf s))=some ((openGood q loose).2,Ya w)):
  LeftO p q loose Xt Yf Ya (n+M):=fun w=>by
 obtain⟨⟨h,gs,d,t,os⟩,e1,e2⟩:=jo2.mp (boot_open e hN f w);simp only[Prod.mk.injEq] at e2;obtain⟨rfl,rfl,rfl,rfl⟩:=e2;obtain⟨s,r1,r2⟩:=jo2.mp (B w os);simp only[Prod.mk.injEq] at r2;obtain⟨l1,l2⟩:=r2;have r3:=B' w os;rw[r1] at r3;simp only[Option.map_some,Option.some.injEq,Prod.mk.injEq] at r3;have r:=go_top (A w os) r1
 have E:topFrom treeTable p w (n+M) ⟨boot_heap w.params,Array.mk [],boot_drawn,boot_toks,os⟩=some s:=by
  unfold topFrom;simp only[z1,z2,z3,Bool.true_and];rw[r];show (match _ with|true=>some s|false=>none)=some s;rw[l1]
 show ((fencedOpening treeTable p w (n+M)).bind (topFrom treeTable p w (n+M))).map _=_;rw[e1];show (topFrom treeTable p w (n+M) _).map _=_;rw[E,<-r3.2];exact congrArg (fun x=>some (x,Yf s)) (Prod.ext l2 r3.1)
set_option maxHeartbeats 0 in
theorem zuE: ∀w os,(topRun treeTable PySem.Challenge.pw_leaperwalk_k11_whole_why_no_walk w 11 (some (.ref 6)) 1448 ⟨MH w.params, #[],boot_drawn,287,os⟩ MT).map (fun s=>
  ((staticsOk (importedModules PySem.Challenge.pw_leaperwalk_k11_whole_why_no_walk.main.body) (boot_heap w.params) s.heap&&namesBound PySem.Challenge.pw_leaperwalk_k11_whole_why_no_walk s.heap&&gensDone s&&laidKept (boot_heap w.params) s.heap:Bool),(openSeen HQ [] (importedModules PySem.Challenge.pw_leaperwalk_k11_whole_why_no_walk.main.body) (fun s=>xlAt HQ [] s&&recOk (RowW.records (OpenRow.toRowW (OpenLaw.row PySem.Challenge.rw_leaperwalk_k11_whole_why_no_walk))) s) true s).1))=some (true,(openGood HQ []).1):=by
 intro w os
 kernel_rfl
set_option maxHeartbeats 0 in
theorem zuF: ∀w os,(topRun treeTable PySem.Challenge.pw_leaperwalk_k11_whole_why_no_walk w 11 (some (.ref 6)) 1448 ⟨MH w.params, #[],boot_drawn,287,os⟩ MT).map (fun s=>
  ((openSeen HQ [] (importedModules PySem.Challenge.pw_leaperwalk_k11_whole_why_no_walk.main.body) (fun s=>xlAt HQ [] s&&recOk (RowW.records (OpenRow.toRowW (OpenLaw.row PySem.Challenge.rw_leaperwalk_k11_whole_why_no_walk))) s) true s).2,HH.obs s))=some ((openGood HQ []).2,HH.val w):=by
 intro w os
 kernel_rfl
theorem zuG:LeftO PySem.Challenge.pw_leaperwalk_k11_whole_why_no_walk HQ [] (fun s=>xlAt HQ [] s&&recOk (RowW.records (OpenRow.toRowW (OpenLaw.row PySem.Challenge.rw_leaperwalk_k11_whole_why_no_walk))) s) HH.obs HH.val (1272+1448):=
 zuD (by kernel_rfl) (by decide) (fun s=>by kernel_rfl) (fun P=>by kernel_rfl) (fun P=>by kernel_rfl) (fun P=>by kernel_rfl) zuC zuE zuF
end LK
open PySem PySem.W PyProof.Rows
set_option maxRecDepth 100000 in
set_option maxHeartbeats 0 in
theorem PySem.Challenge.cw_leaperwalk_k11_whole_why_no_walk_holds : PySem.Challenge.rw_leaperwalk_k11_whole_why_no_walk.Holds := by
 w_on;o_law
 refine PySem.W.holds_open (XP:=XL LK.HQ []) LK.zuG (Hook.of LK.HH) (Hook.keeps LK.HH) (fun s e=>xl_of s (Bool.and_eq_true_iff.mp e).1) XL.keeps (by rfl) (by rfl) (by rfl) (fun s e=>recFacts_of (Bool.and_eq_true_iff.mp e).2) (by rfl) (by assumption) (by decide+kernel) ⟨rfl,rfl,rfl,rfl,rfl,by decide+kernel⟩ ?hw ?hc
 case hw=>w_witness2
 refine L2.zkf (K:=LK.HK) (l:=PySem.Challenge.rw_leaperwalk_k11_whole_why_no_walk) (n:=63) (k:=LK.depth) (x:="_law_script") (CX:=L2.wr) (sp:=fun K=>L2.LW.vf K (L2.LW.zD LK.U LK.zh LK.depth) 77 []) rfl (by decide) rfl ⟨rfl,by decide,by decide⟩ (fun w h Y=>Y) ?F ?S ?C
 case F=>
  intro w mg fa h KX G hmg;have l0:List.lookup 94 (LK.HK w.params)=some (LK.fo 11 "is_whole" "leaperwalk.floors" 287 93):=by kernel_rfl
  have l1:List.lookup 101 (LK.HK w.params)=some (LK.fo 12 "is_couple" "leaperwalk.floors" 287 100):=by kernel_rfl
  have l2:List.lookup 108 (LK.HK w.params)=some (LK.fo 13 "is_cell" "leaperwalk.floors" 287 107):=by kernel_rfl
  have l3:List.lookup 115 (LK.HK w.params)=some (LK.fo 14 "is_leap" "leaperwalk.floors" 287 114):=by kernel_rfl
  have l4:List.lookup 120 (LK.HK w.params)=some (LK.fo 15 "is_rising" "leaperwalk.floors" 287 119):=by kernel_rfl
  have l5:List.lookup 125 (LK.HK w.params)=some (LK.fo 16 "is_floor" "leaperwalk.floors" 287 124):=by kernel_rfl
  have l6:List.lookup 132 (LK.HK w.params)=some (LK.fo 17 "checked" "leaperwalk.floors" 287 131):=by kernel_rfl
  have l7:List.lookup 139 (LK.HK w.params)=some (LK.fo 18 "checked_leap" "leaperwalk.floors" 287 138):=by kernel_rfl
  have l8:List.lookup 146 (LK.HK w.params)=some (LK.fo 19 "checked_cell" "leaperwalk.floors" 287 145):=by kernel_rfl
  have l9:List.lookup 153 (LK.HK w.params)=some (LK.fo 21 "folded" "leaperwalk.leaps" 359 152):=by kernel_rfl
  have l10:List.lookup 160 (LK.HK w.params)=some (LK.fo 22 "are_near" "leaperwalk.leaps" 359 159):=by kernel_rfl
  have l11:List.lookup 165 (LK.HK w.params)=some (LK.fo 23 "cells_near" "leaperwalk.leaps" 359 164):=by kernel_rfl
  have l12:List.lookup 210 (LK.HK w.params)=some (LK.fo 30 "near_cells" "leaperwalk.leaps" 359 209):=by kernel_rfl
  have l13:List.lookup 329 (LK.HK w.params)=some (LK.fo 54 "_law_cell" "law_leaperwalk_k11_whole_why_no_walk" 614 328):=by kernel_rfl
  have l14:List.lookup 336 (LK.HK w.params)=some (LK.fo 55 "_law_mix" "law_leaperwalk_k11_whole_why_no_walk" 614 335):=by kernel_rfl
  have l15:List.lookup 343 (LK.HK w.params)=some (LK.fo 56 "_law_floor" "law_leaperwalk_k11_whole_why_no_walk" 614 342):=by kernel_rfl
  have l16:List.lookup 350 (LK.HK w.params)=some (LK.fo 57 "_law_leap" "law_leaperwalk_k11_whole_why_no_walk" 614 349):=by kernel_rfl
  have l20:List.lookup 172 (LK.HK w.params)=some (LK.fo 24 "leads_to" "leaperwalk.leaps" 359 171):=by kernel_rfl
  have l21:List.lookup 184 (LK.HK w.params)=some (LK.fo 26 "greatest_divisor" "leaperwalk.leaps" 359 183):=by kernel_rfl
  have l22:List.lookup 191 (LK.HK w.params)=some (LK.fo 27 "has_odd_sum" "leaperwalk.leaps" 359 190):=by kernel_rfl
  have l23:List.lookup 198 (LK.HK w.params)=some (LK.fo 28 "hue_of" "leaperwalk.leaps" 359 197):=by kernel_rfl
  have l24:List.lookup 203 (LK.HK w.params)=some (LK.fo 29 "cells_of_hue" "leaperwalk.leaps" 359 202):=by kernel_rfl
  have l25:List.lookup 217 (LK.HK w.params)=some (LK.fo 31 "hues_of" "leaperwalk.leaps" 359 216):=by kernel_rfl
  have l30:List.lookup 179 (LK.HK w.params)=some (LK.fo 25 "parts_within" "leaperwalk.leaps" 359 178):=by kernel_rfl
  have l37:List.lookup 293 (LK.HK w.params)=some (LK.fo 47 "finds_mate" "leaperwalk.pairs" 564 292):=by kernel_rfl
  have l38:List.lookup 300 (LK.HK w.params)=some (LK.fo 48 "all_mates" "leaperwalk.pairs" 564 299):=by kernel_rfl
  have l39:List.lookup 305 (LK.HK w.params)=some (LK.fo 49 "pairs_of" "leaperwalk.pairs" 564 304):=by kernel_rfl
  have l40:List.lookup 310 (LK.HK w.params)=some (LK.fo 50 "crowd_and_around" "leaperwalk.pairs" 564 309):=by kernel_rfl
  have l43:List.lookup 317 (LK.HK w.params)=some (LK.fo 51 "most_pairs" "leaperwalk.pairs" 564 316):=by kernel_rfl
  have l47:List.lookup 322 (LK.HK w.params)=some (LK.fo 52 "paired" "leaperwalk.pairs" 564 321):=by kernel_rfl
  have l61:List.lookup 224 (LK.HK w.params)=some (LK.fo 35 "refuse_big" "leaperwalk.walks" 458 223):=by kernel_rfl
  have l62:List.lookup 229 (LK.HK w.params)=some (LK.fo 36 "bits_near" "leaperwalk.walks" 458 228):=by kernel_rfl
  have l63:List.lookup 236 (LK.HK w.params)=some (LK.fo 37 "one_cell_walks" "leaperwalk.walks" 458 235):=by kernel_rfl
  have l64:List.lookup 243 (LK.HK w.params)=some (LK.fo 38 "one_cell_longer" "leaperwalk.walks" 458 242):=by kernel_rfl
  have l65:List.lookup 250 (LK.HK w.params)=some (LK.fo 39 "layers_from" "leaperwalk.walks" 458 249):=by kernel_rfl
  have l66:List.lookup 257 (LK.HK w.params)=some (LK.fo 40 "walk_between" "leaperwalk.walks" 458 256):=by kernel_rfl
  have l67:List.lookup 262 (LK.HK w.params)=some (LK.fo 41 "walk" "leaperwalk.walks" 458 261):=by kernel_rfl
  have l68:List.lookup 267 (LK.HK w.params)=some (LK.fo 42 "ring_walk" "leaperwalk.walks" 458 266):=by kernel_rfl
  have l69:List.lookup 272 (LK.HK w.params)=some (LK.fo 43 "leaves_too_many" "leaperwalk.walks" 458 271):=by kernel_rfl
  have l70:List.lookup 279 (LK.HK w.params)=some (LK.fo 44 "one_cell_more" "leaperwalk.walks" 458 278):=by kernel_rfl
  have l71:List.lookup 286 (LK.HK w.params)=some (LK.fo 45 "cut_of" "leaperwalk.walks" 458 285):=by kernel_rfl
  have l77:List.lookup 355 (LK.HK w.params)=some (LK.fo 58 "law" "law_leaperwalk_k11_whole_why_no_walk" 614 354):=by kernel_rfl
  obtain⟨F,FD,TK,T,e0,hb⟩:=LK.zuA (t0:=289) (t1:=291) (t2:=293) (t3:=460) (t4:=462) KX G ⟨by kernel_rfl,l0,by kernel_rfl,by kernel_rfl⟩ ⟨by kernel_rfl,l1,by kernel_rfl,by kernel_rfl⟩ ⟨by kernel_rfl,l2,by kernel_rfl,by kernel_rfl⟩ ⟨by kernel_rfl,l3,by kernel_rfl,by kernel_rfl⟩ ⟨by kernel_rfl,l4,by kernel_rfl,by kernel_rfl⟩ ⟨by kernel_rfl,l5,by kernel_rfl,by kernel_rfl⟩ ⟨by kernel_rfl,l6,by kernel_rfl,by kernel_rfl⟩ ⟨by kernel_rfl,l7,by kernel_rfl,by kernel_rfl⟩ ⟨by kernel_rfl,l8,by kernel_rfl,by kernel_rfl⟩ ⟨by kernel_rfl,l9,by kernel_rfl,by kernel_rfl⟩ ⟨by kernel_rfl,l10,by kernel_rfl,by kernel_rfl⟩ ⟨by kernel_rfl,l11,by kernel_rfl,by kernel_rfl⟩ ⟨by kernel_rfl,l12,by kernel_rfl,by kernel_rfl⟩ ⟨by kernel_rfl,l13,by kernel_rfl,by kernel_rfl⟩ ⟨by kernel_rfl,l14,by kernel_rfl,by kernel_rfl⟩ ⟨by kernel_rfl,l15,by kernel_rfl,by kernel_rfl⟩ ⟨by kernel_rfl,l16,by kernel_rfl,by kernel_rfl⟩ ⟨by kernel_rfl,l20,by kernel_rfl,by kernel_rfl⟩ ⟨by kernel_rfl,l21,by kernel_rfl,by kernel_rfl⟩ ⟨by kernel_rfl,l22,by kernel_rfl,by kernel_rfl⟩ ⟨by kernel_rfl,l23,by kernel_rfl,by kernel_rfl⟩ ⟨by kernel_rfl,l24,by kernel_rfl,by kernel_rfl⟩ ⟨by kernel_rfl,l25,by kernel_rfl,by kernel_rfl⟩ ⟨by kernel_rfl,l30,by kernel_rfl,by kernel_rfl⟩ ⟨by kernel_rfl,l37,by kernel_rfl,by kernel_rfl⟩ ⟨by kernel_rfl,l38,by kernel_rfl,by kernel_rfl⟩ ⟨by kernel_rfl,l39,by kernel_rfl,by kernel_rfl⟩ ⟨by kernel_rfl,l40,by kernel_rfl,by kernel_rfl⟩ ⟨by kernel_rfl,l43,by kernel_rfl,by kernel_rfl⟩ ⟨by kernel_rfl,l47,by kernel_rfl,by kernel_rfl⟩ ⟨by kernel_rfl,l61,by kernel_rfl,by kernel_rfl⟩ ⟨by kernel_rfl,l62,by kernel_rfl,by kernel_rfl⟩ ⟨by kernel_rfl,l63,by kernel_rfl,by kernel_rfl⟩ ⟨by kernel_rfl,l64,by kernel_rfl,by kernel_rfl⟩ ⟨by kernel_rfl,l65,by kernel_rfl,by kernel_rfl⟩ ⟨by kernel_rfl,l66,by kernel_rfl,by kernel_rfl⟩ ⟨by kernel_rfl,l67,by kernel_rfl,by kernel_rfl⟩ ⟨by kernel_rfl,l68,by kernel_rfl,by kernel_rfl⟩ ⟨by kernel_rfl,l69,by kernel_rfl,by kernel_rfl⟩ ⟨by kernel_rfl,l70,by kernel_rfl,by kernel_rfl⟩ ⟨by kernel_rfl,l71,by kernel_rfl,by kernel_rfl⟩ ⟨by kernel_rfl,l77,by kernel_rfl,by kernel_rfl⟩ (by kernel_rfl) (by kernel_rfl) (by kernel_rfl) (by kernel_rfl) (by kernel_rfl) (by kernel_rfl) (by kernel_rfl) (by kernel_rfl) (by kernel_rfl) (by kernel_rfl) (by kernel_rfl) (by kernel_rfl) (by kernel_rfl) (by kernel_rfl) (by kernel_rfl) (by kernel_rfl) (by kernel_rfl) (by kernel_rfl) (by kernel_rfl);have e1:=hmg.symm.trans T.n77.m;cases e1;exact⟨_,hb,fun base _ _=>LK.yc T LK.depth 77⟩
 case S=>exact fun K H a ns hl _ hS=>L2.LW.zlq (LK.zpl ns hl) hS
 case C=>exact fun _ _ _ _ z=>z
