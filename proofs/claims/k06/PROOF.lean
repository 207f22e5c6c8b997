import PyProof.Rows.All
import Wide.All
import OpenK.AllK
import Wide.FinOn
import Lean
import PyProof.EqAt
import PyProof.EqKinds
import PyProof.TupleCall
import PyProof.SeqI3
import KE.KTupSum
import KE.LcSums
import KE.KDictSum
import KE.KTryMore
import PyProof.ExcBaseAll.ValueError
import OpenK.KOwn
import KE.RegKTryMore
import KE.RegKIsAll
import PyProof.ListMulRoad
import PyProof.Draws
import PyProof.EnumStmt
import PyProof.EnumMake
import PyProof.StrLawsTight
import PyProof.StrLawsChain
import PyProof.Rows.StrNews
import PyProof.Rows.StrJoin2
import PyProof.Rows.EnumRows
import PyProof.FString
import PyProof.SetKind
import PyProof.Rows.SetFrom
import PySem.Challenge.RW_leaperwalk_k06_fewest_leaps
set_option Elab.async false
set_option linter.all false
set_option maxRecDepth 100000
theorem jo1{a b:Type}{x:Option a}{f:a->Option b}{y:b}:x.bind f=some y↔∃z,x=some z/\f z=some y:=Option.bind_eq_some_iff
theorem jo2{a b:Type}{x:Option a}{f:a->b}{y:b}:x.map f=some y↔∃z,x=some z/\f z=y:=Option.map_eq_some_iff
set_option Elab.async false
set_option maxRecDepth 100000
namespace L2
open PySem PySem.Spec PyProof.Rows
noncomputable abbrev Key:=Sum Int Str
noncomputable def zit:Key->Value->Bool
 | .inl k,v=>Value.isInt k v
 | .inr x,v=>Value.isStrOf x v
noncomputable def zxy(w:World):Key->Int
 | .inl k=>hashInt k
 | .inr x=>hashStr w x
theorem zaW: ∀{k:Key} {v:Value},zit k v=true->(∃i t,k=Sum.inl i/\v=Value.int i t)\/(∃x t,k=Sum.inr x/\v=Value.str x t)
 | .inl i,v,h=>by
  obtain⟨t,e⟩:=Value.isInt_shape (k:=i) (v:=v) h
  exact .inl ⟨i,t,rfl,e⟩
 | .inr x,v,h=>by
  obtain⟨t,e⟩:=Value.isStrOf_shape (x:=x) (v:=v) h
  exact .inr ⟨x,t,rfl,e⟩
theorem zkL(i:Int)(t:Tok):zit (.inl i) (.int i t)=true:=by simp[zit,Value.isInt]
theorem zkM(x:Str)(t:Tok):zit (.inr x) (.str x t)=true:=by simp[zit,Value.isStrOf]
theorem zqE(a b:Int):decide ((Sum.inl a:Key)=Sum.inl b)=(a==b):=by
 by_cases e:a=b
 ·subst e;simp
 ·have h: ¬(Sum.inl a:Key)=Sum.inl b:=fun q=>e (Sum.inl.inj q)
  rw[decide_eq_false h]
  exact (beq_eq_false_iff_ne.mpr e).symm
theorem zqF(a b:Str):decide ((Sum.inr a:Key)=Sum.inr b)=decide (a=b):=by
 by_cases e:a=b
 ·subst e;simp
 ·have h: ¬(Sum.inr a:Key)=Sum.inr b:=fun q=>e (Sum.inr.inj q)
  rw[decide_eq_false h,decide_eq_false e]
theorem zqG(a:Int)(b:Str):decide ((Sum.inl a:Key)=Sum.inr b)=false:=decide_eq_false (fun q=>nomatch q)
theorem zqH(a:Str)(b:Int):decide ((Sum.inr a:Key)=Sum.inl b)=false:=decide_eq_false (fun q=>nomatch q)
noncomputable def zaS(prog:Program)(w:World):PySem.KeyKind prog w Key where
 is:=zit
 hash:=zxy w
 inj:=fun v a b ha hb=>by
  rcases zaW ha with ⟨i,t,rfl,rfl⟩|⟨x,t,rfl,rfl⟩
  ·rcases zaW hb with ⟨j,u,rfl,e⟩|⟨y,u,rfl,e⟩
   ·injection e with e1 _;rw[e1]
   ·exact nomatch e
  ·rcases zaW hb with ⟨j,u,rfl,e⟩|⟨y,u,rfl,e⟩
   ·exact nomatch e
   ·injection e with e1 _;rw[e1]
 byValue:=fun k v h=>by
  rcases zaW h with ⟨i,t,rfl,rfl⟩|⟨x,t,rfl,rfl⟩<;>rfl
 pyHash:=fun hv h=>by
  rcases zaW hv with ⟨i,t,rfl,rfl⟩|⟨x,t,rfl,rfl⟩
  ·exact wpAny_pyHash_int h
  ·exact wpAny_pyHash_str h
 eqBool:=fun hu hv h=>by
  rcases zaW hu with ⟨i,t,rfl,rfl⟩|⟨x,t,rfl,rfl⟩
  ·rcases zaW hv with ⟨j,u,rfl,rfl⟩|⟨y,u,rfl,rfl⟩
   ·rw[zqE] at h;exact wpAny_eqBool_int h
   ·rw[zqG] at h;exact SeqAt.EqAt.int_str i t y u _ _ _ _ h
  ·rcases zaW hv with ⟨j,u,rfl,rfl⟩|⟨y,u,rfl,rfl⟩
   ·rw[zqH] at h;exact SeqAt.EqAt.str_int x t j u _ _ _ _ h
   ·rw[zqF] at h;exact wpAny_eqBool_str h
 «strs»:=fun k x t v h=>by
  rcases zaW h with ⟨i,u,rfl,e⟩|⟨y,u,rfl,e⟩
  ·exact nomatch e
  ·injection e with e1 _
   subst e1
   cases v<;>rfl
theorem ziu(prog:Program)(w:World)(i:Int)(t:Tok):(zaS prog w).is (.inl i) (.int i t)=true:=zkL i t
theorem ziv(prog:Program)(w:World)(x:Str)(t:Tok):(zaS prog w).is (.inr x) (.str x t)=true:=zkM x t
end L2
namespace L2
open PySem PySem.Spec PyProof.Rows
inductive V where
 |non|bl (b:Bool)|int (i:Int)|str (x:Str)|byt (b:Array UInt8)|flt (b:UInt64)|ref (a:Addr)|ty (n:String)
 deriving DecidableEq
noncomputable def RelV:V->Value->Prop
 | .non,u=>u=Value.none
 | .bl b,u=>u=Value.bool b
 | .int i,u=>∃t,u=Value.int i t
 | .str x,u=>∃t,u=Value.str x t
 | .byt b,u=>∃t,u=Value.bytes b t
 | .flt b,u=>∃t,u=Value.float b t
 | .ref a,u=>u=Value.ref a
 | .ty n,u=>u=Value.type n
noncomputable abbrev Vals:List V->List Value->Prop:=Paired RelV
theorem Vals.length{xs:List V}{us:List Value}(r:Vals xs us):xs.length=us.length:=Paired.length r
theorem Vals.get: ∀{xs:List V} {us:List Value} {i:Nat} {x:V},Vals xs us->xs[i]? =some x->∃u,us[i]? =some u/\RelV x u
 |_,_,_,_,.nil,e=>by simp at e
 |_,_,0,_,.cons r _,e=>by simp at e;subst e;exact⟨_,rfl,r⟩
 |_,_,i+1,x,.cons _ t,e=>by
  obtain⟨u,h1,h2⟩:=Vals.get (i:=i) (x:=x) t (by simpa using e)
  exact⟨u,by simpa using h1,h2⟩
theorem Vals.set{x:V}{u:Value}(r:RelV x u): ∀{xs:List V} {us:List Value} (i:Nat),Vals xs us->Vals (xs.set i x) (us.set i u)
 |_,_,_,.nil=>.nil
 |_,_,0,.cons _ t=>.cons r t
 |_,_,i+1,.cons q t=>.cons q (Vals.set r i t)
theorem Vals.append: ∀{xs ys:List V} {us ws:List Value},Vals xs us->Vals ys ws->Vals (xs++ys) (us++ws)
 |_,_,_,_,.nil,s=>s
 |_,_,_,_,.cons r t,s=>.cons r (Vals.append t s)
theorem Vals.take: ∀{xs:List V} {us:List Value} (n:Nat),Vals xs us->Vals (xs.take n) (us.take n)
 |_,_,0,_=>.nil
 |_,_,_+1,.nil=>.nil
 |_,_,n+1,.cons r t=>.cons r (Vals.take n t)
theorem Vals.drop: ∀{xs:List V} {us:List Value} (n:Nat),Vals xs us->Vals (xs.drop n) (us.drop n)
 |_,_,0,r=>r
 |_,_,_+1,.nil=>.nil
 |_,_,n+1,.cons _ t=>Vals.drop n t
noncomputable def RelO:Option V->Option Value->Prop
 |some v,some u=>RelV v u
 |none,none=>True
 |_,_=>False
noncomputable def KV{κ:Type}:List (κ×V)->List (κ×Value)->Prop:=Paired fun (p:κ×V) (q:κ×Value)=>p.1=q.1/\RelV p.2 q.2
noncomputable def kV:Key->V
 | .inl i=>.int i
 | .inr x=>.str x
inductive HO where
 |lst (xs:List V)
 |tup (xs:List V)
 |dK (kvs:List (Key×V))|dT (kvs:List (List Key×V))
 |set (S:Int->Bool) (n:Nat)
 |ins (C dx:Addr) (fs:List (Str×V))
 |own (x:Addr)
 |xd (fs:List (Str×V))
 |met (f x:Addr)
 |rng (lo hi:Int)
 |frz (o:Obj) (u:HO)
 |tbl (ps:Array Value)
 |ext (φ:Heap->Prop)
noncomputable abbrev Hp:=Addr->Option HO
noncomputable def upd(H:Hp)(a:Addr)(o:HO):Hp:=fun b=>if b=a then some o else H b
theorem za8{H:Hp}{a:Addr}{o:HO}:upd H a o a=some o:=by unfold upd;rw[if_pos rfl]
theorem zaN{H:Hp}{a b:Addr}{o:HO}(h:b≠a):upd H a o b=H b:=by unfold upd;rw[if_neg h]
theorem zqI{H:Hp}{a b:Addr}{o u:HO}(h:H a=some o)(h':H b=some u)(d:o≠u):a≠b:=by
 intro e;subst e;rw[h] at h';exact d (Option.some.inj h')
theorem zbk{H:Hp}{a b:Addr}{o:HO}(h:H a=some o)(h':H b=none):a≠b:=by
 intro e;subst e;rw[h] at h';cases h'
section
variable (P:Program) (w:World)
noncomputable def ObjOk(H:Hp)(h:Heap)(a:Addr):HO->Prop
 | .lst xs=>xs.length<=sizeLine/\∃(its:List Value) (n:Nat),Vals xs its/\h.get? a=some { cls:=.type "list",data:=.seq its.toArray n }
 | .tup xs=>xs.length<=sizeLine/\∃its:List Value,Vals xs its/\IsTup h a its.toArray
 | .dK kvs=>kvs.length<=sizeLine/\(a==sysModules)=false/\∃vs,KV kvs vs/\h.DictOf (zaS P w) a vs
 | .dT kvs=>kvs.length<=sizeLine/\(a==sysModules)=false/\∃xs:List (List Key×Addr×Value),
   Paired (fun (p:List Key×V) (q:List Key×Addr×Value)=>p.1=q.1/\H q.2.1=some (.tup (p.1.map kV))/\RelV p.2 q.2.2) kvs xs/\
   ∃o es ep,h.get? a=some o/\o.ExactDict/\o.data= .dict es ep/\es.toList=xs.map (entryOfKey (tupleKind (zaS P w)))/\(xs.map (·.1)).Nodup
 | .set S n=>h.SetOf (intKind P w) a S n
 | .ins C dx fs=>H dx=some (.own a)/\fs.length<=1000/\dx≠a/\h.get? a=some (PySem.W.instObj C dx)/\
   ∃mA,h.Ns1 dx mA/\(∀f,RelO (fs.lookup f) (mA f))/\PySem.Within mA (fs.map (·.1))
 | .own _=>∃o,h.get? a=some o
 | .xd fs=>∃mA,h.Ns1 a mA/\∀f,RelO (fs.lookup f) (mA f)
 | .rng lo hi=>∃t u v,h.get? a=some { cls:=.type "range",data:=.fields #[.int lo t,.int hi u,.int 1 v] }
 | .frz o u=>h.get? a=some o/\ObjOk H h a u
 | .tbl ps=>h.get? a=some { cls:=.none,data:=.fields ps }
 | .met f x=>h.get? a=some (PySem.W.methodObj (.ref f) (.ref x))
 | .ext φ=>φ h/\(∃o,h.get? a=some o)/\∀h1 h2:Heap,φ h1->(∀o,h1.get? a=some o->h2.get? a=some o)->φ h2
noncomputable def HOk(H:Hp)(h:Heap):Prop:=∀a o,H a=some o->ObjOk P w H h a o
end
section
variable {P:Program} {w:World} {H H':Hp} {h h':Heap} {a:Addr} {o:HO}
theorem ObjOk.lt(x:ObjOk P w H h a o):a<h.objs.size:=by
 cases o with
 |lst xs=>obtain⟨_,_,_,_,e⟩:=x;exact Heap.lt_size e
 |tup xs=>obtain⟨_,_,_,p⟩:=x;exact p.lt
 |dK kvs=>obtain⟨_,_,_,_,o,_,_,e,_⟩:=x;exact Heap.lt_size e
 |dT kvs=>obtain⟨_,_,_,_,o,_,_,e,_⟩:=x;exact Heap.lt_size e
 |set S n=>obtain⟨o,_,_,_,e,_⟩:=x;exact Heap.lt_size e
 |ins C dx fs=>obtain⟨_,_,_,e,_⟩:=x;exact Heap.lt_size e
 |own y=>obtain⟨_,e⟩:=x;exact Heap.lt_size e
 |xd fs=>obtain⟨_,⟨_,_,_,e,_⟩,_⟩:=x;exact Heap.lt_size e
 |rng lo hi=>obtain⟨_,_,_,e⟩:=x;exact Heap.lt_size e
 |frz ob u=>obtain⟨e,_⟩:=x;exact Heap.lt_size e
 |tbl ps=>exact Heap.lt_size (show h.get? a=some _ from x)
 |met f y=>exact Heap.lt_size (show h.get? a=some _ from x)
 |ext φ=>obtain⟨_,⟨_,e⟩,_⟩:=x;exact Heap.lt_size e
theorem Paired.mapP{α β:Type}{F G:α->β->Prop}: ∀{l₁:List α} {l₂:List β},Paired F l₁ l₂->(∀a b,F a b->G a b)->Paired G l₁ l₂
 |_,_,.nil,_=>.nil
 |_,_,.cons r t,f=>.cons (f _ _ r) (Paired.mapP t f)
theorem Paired.imp'{α β:Type}{F G:α->β->Prop}(f: ∀a b,F a b->G a b){l₁:List α}{l₂:List β}(r:Paired F l₁ l₂):Paired G l₁ l₂:=Paired.mapP r f
theorem ObjOk.stay(x:ObjOk P w H h a o)(k: ∀b u,(b=a\/H b=some (.own a))->h.get? b=some u->h'.get? b=some u)
  (ho: ∀b,H b=some (.own a)->H' b=some (.own a)) (ht: ∀b xs,H b=some (.tup xs)->H' b=some (.tup xs)):ObjOk P w H' h' a o:=by
 induction o with
 |lst xs=>obtain⟨z,its,n,r,e⟩:=x;exact⟨z,its,n,r,k _ _ (.inl rfl) e⟩
 |tup xs=>obtain⟨z,its,r,ob,e,c⟩:=x;exact⟨z,its,r,ob,k _ _ (.inl rfl) e,c⟩
 |dK kvs=>obtain⟨z,y,vs,r,ob,es,ep,e,c⟩:=x;exact⟨z,y,vs,r,ob,es,ep,k _ _ (.inl rfl) e,c⟩
 |dT kvs=>
  obtain⟨z,y,xs,r,ob,es,ep,e,c⟩:=x
  exact⟨z,y,xs,Paired.mapP r fun p q z=>⟨z.1,ht _ _ z.2.1,z.2.2⟩,ob,es,ep,k _ _ (.inl rfl) e,c⟩
 |set S n=>obtain⟨ob,es,ep,t,e,c⟩:=x;exact⟨ob,es,ep,t,k _ _ (.inl rfl) e,c⟩
 |ins C dx fs=>
  obtain⟨d,z,ne,e,mA,⟨od,es,ep,e2,c⟩,r⟩:=x
  exact⟨ho _ d,z,ne,k _ _ (.inl rfl) e,mA,⟨od,es,ep,k _ _ (.inr d) e2,c⟩,r⟩
 |own y=>obtain⟨ob,e⟩:=x;exact⟨ob,k _ _ (.inl rfl) e⟩
 |xd fs=>obtain⟨mA,⟨od,es,ep,e,c⟩,r⟩:=x;exact⟨mA,⟨od,es,ep,k _ _ (.inl rfl) e,c⟩,r⟩
 |rng lo hi=>obtain⟨t,u,v,e⟩:=x;exact⟨t,u,v,k _ _ (.inl rfl) e⟩
 |frz ob u ih=>obtain⟨e,q⟩:=x;exact⟨k _ _ (.inl rfl) e,ih q⟩
 |tbl ps=>
  have e:h.get? a=some { cls:=.none,data:=.fields ps }:=x
  show h'.get? a=some { cls:=.none,data:=.fields ps }
  exact k a _ (.inl rfl) e
 |met f y=>
  have e:h.get? a=some (PySem.W.methodObj (.ref f) (.ref y)):=x
  show h'.get? a=some (PySem.W.methodObj (.ref f) (.ref y))
  exact k a _ (.inl rfl) e
 |ext φ=>obtain⟨p,⟨o,e⟩,st⟩:=x;exact⟨st _ _ p fun o q=>k _ _ (.inl rfl) q,⟨o,k _ _ (.inl rfl) e⟩,st⟩
theorem HOk.lt(x:HOk P w H h)(e:H a=some o):a<h.objs.size:=(x a o e).lt
theorem HOk.fresh(x:HOk P w H h)(e:h.objs.size<=a):H a=none:=by
 cases q:H a with
 |none=>rfl
 |some u=>exact absurd (Nat.lt_of_lt_of_le (x.lt q) e) (Nat.lt_irrefl _)
theorem HOk.kept(x:HOk P w H h)(k: ∀b u,h.get? b=some u->h'.get? b=some u):HOk P w H h':=fun a o e=>
 (x a o e).stay (fun b u _ q=>k b u q) (fun _ q=>q) fun _ _ q=>q
theorem HOk.laid(x:HOk P w H h)(k: ∀b u,h.get? b=some u->h'.get? b=some u)(hp:h.objs.size<=a)(new:ObjOk P w (upd H a o) h' a o):HOk P w (upd H a o) h':=fun b u e=>by
 have hn:=x.fresh hp
 by_cases hb:b=a
 ·subst hb;rw[za8] at e;cases e;exact new
 ·rw[zaN hb] at e
  exact (x b u e).stay (fun c v _ q=>k c v q) (fun c q=>by rw[zaN (zbk q hn)];exact q) fun c xs q=>by rw[zaN (zbk q hn)];exact q
end
noncomputable def Rd(H:Hp)(a:Addr)(u:HO):Prop:=H a=some u\/∃o,H a=some (.frz o u)
theorem Rd.of{H:Hp}{a:Addr}{u:HO}(h:H a=some u):Rd H a u:=.inl h
theorem Rd.ok{P:Program}{w:World}{H:Hp}{h:Heap}{a:Addr}{u:HO}(r:Rd H a u)(x:HOk P w H h):ObjOk P w H h a u:=by
 rcases r with r|⟨o,r⟩
 ·exact x a u r
 ·obtain⟨_,q⟩:=x a _ r
  exact q
noncomputable def Mut:Option HO->Prop
 |some (.lst _)=>True
 |some (.dK _)=>True
 |some (.dT _)=>True
 |some (.set _ _)=>True
 |some (.ins _ _ _)=>True
 |some (.ext _)=>True
 |_=>False
section
variable {P:Program} {w:World} {H:Hp} {h h':Heap} {x e:Addr} {o':HO}
theorem HOk.write(ok:HOk P w H h)(mu:Mut (H x))(he:e=x\/H e=some (.own x))(k: ∀b u,b≠e->h.get? b=some u->h'.get? b=some u)(heo: ∃u,h'.get? e=some u)
  (new:ObjOk P w (upd H x o') h' x o'):HOk P w (upd H x o') h':=fun b u q=>by
 have nown: ∀c y,H c=some (.own y)->c≠x:=fun c y r z=>by subst z;rw[r] at mu;exact mu
 have ntup: ∀c xs,H c=some (.tup xs)->c≠x:=fun c xs r z=>by subst z;rw[r] at mu;exact mu
 by_cases hb:b=x
 ·subst hb;rw[za8] at q;cases q;exact new
 ·rw[zaN hb] at q
  by_cases hbe:b=e
  ·have q':H b=some (.own x):=by
    rcases he with z|z
    ·exact absurd (hbe.trans z) hb
    ·rw[hbe];exact z
   rw[q] at q';cases q'
   obtain⟨v,hv⟩:=heo
   exact⟨v,by rw[hbe];exact hv⟩
  ·refine (ok b u q).stay (fun c v hc r=>k c v ?_ r) (fun c r=>by rw[zaN (nown c b r)];exact r) fun c xs r=>by rw[zaN (ntup c xs r)];exact r
   rcases hc with rfl|hc
   ·exact hbe
   ·rintro rfl
    rcases he with z|z
    ·exact nown c b hc z
    ·rw[hc] at z;cases z;exact hb rfl
end
structure Un (fs ex:List Addr)(H H':Hp)(h h':Heap):Prop where
 keep: ∀b o,h.get? b=some o->H b=none->b∉fs->b∉ex->h'.get? b=some o
 slot: ∀b o,h.get? b=some o->H b=none->b∈fs->b∉ex->∃sl,h'.get? b=some { o with slots:=sl }
 free: ∀b o,h.get? b=some o->H b=none->b∉ex->H' b=none
 there: ∀b o,h.get? b=some o->b∉ex->∃o',h'.get? b=some o'
 tups: ∀b xs,H b=some (.tup xs)->H' b=some (.tup xs)
 frzs: ∀b o u,H b=some (.frz o u)->H' b=some (.frz o u)
 tbls: ∀b ps,H b=some (.tbl ps)->∃more,H' b=some (.tbl (ps++more))
section
variable {fs fs' ex ex':List Addr} {H H1 H2:Hp} {h h1 h2 h':Heap} {a x e:Addr} {o:HO}
theorem Un.any(u:Un fs ex H H1 h h1){b:Addr}{ob:Obj}(q:h.get? b=some ob)(n:H b=none)(hx:b∉ex): ∃sl,h1.get? b=some { ob with slots:=sl }:=by
 by_cases hb:b∈fs
 ·exact u.slot b ob q n hb hx
 ·exact⟨ob.slots,u.keep b ob q n hb hx⟩
theorem Un.trans(a:Un fs ex H H1 h h1)(b:Un fs ex H1 H2 h1 h2):Un fs ex H H2 h h2 where
 keep:=fun c ob q n hc hx=>b.keep c ob (a.keep c ob q n hc hx) (a.free c ob q n hx) hc hx
 slot:=fun c ob q n hc hx=>by
  obtain⟨sl,e1⟩:=a.slot c ob q n hc hx
  obtain⟨sl',e2⟩:=b.slot c _ e1 (a.free c ob q n hx) hc hx
  exact⟨sl',e2⟩
 free:=fun c ob q n hx=>by
  obtain⟨o',e1⟩:=a.there c ob q hx
  exact b.free c o' e1 (a.free c ob q n hx) hx
 there:=fun c ob q hx=>by
  obtain⟨o',e1⟩:=a.there c ob q hx
  exact b.there c o' e1 hx
 tups:=fun c xs q=>b.tups c xs (a.tups c xs q)
 frzs:=fun c ob xs q=>b.frzs c ob xs (a.frzs c ob xs q)
 tbls:=fun c ps q=>by
  obtain⟨m1,e1⟩:=a.tbls c ps q
  obtain⟨m2,e2⟩:=b.tbls c _ e1
  exact⟨m1++m2,by rw[e2,Array.append_assoc]⟩
theorem Un.kept(k: ∀b u,h.get? b=some u->h'.get? b=some u):Un fs ex H H h h':=
 ⟨fun b ob q _ _ _=>k b ob q,fun b ob q _ _ _=>⟨ob.slots,k b ob q⟩,fun _ _ _ n _=>n,fun b ob q _=>⟨ob,k b ob q⟩,fun _ _ q=>q,fun _ _ _ q=>q,fun _ ps q=>⟨#[],by rw[q];simp⟩⟩
theorem Un.refl:Un fs ex H H h h:=Un.kept fun _ _ q=>q
theorem Un.laid(k: ∀b u,h.get? b=some u->h'.get? b=some u)(hp:h.objs.size<=a)(hn:H a=none):Un fs ex H (upd H a o) h h' where
 keep:=fun b u q _ _ _=>k b u q
 slot:=fun b u q _ _ _=>⟨u.slots,k b u q⟩
 free:=fun b u q n _=>by rw[zaN (Nat.ne_of_lt (Nat.lt_of_lt_of_le (Heap.lt_size q) hp))];exact n
 there:=fun b u q _=>⟨u,k b u q⟩
 tups:=fun b xs q=>by rw[zaN (zbk q hn)];exact q
 frzs:=fun b u xs q=>by rw[zaN (zbk q hn)];exact q
 tbls:=fun b ps q=>⟨#[],by rw[zaN (zbk q hn),q];simp⟩
theorem Un.write(mu:Mut (H x))(he:e=x\/H e=some (.own x))(k: ∀b u,b≠e->h.get? b=some u->h'.get? b=some u)(heo: ∃u,h'.get? e=some u):Un fs ex H (upd H x o) h h':=by
 have hx: ∀b,H b=none->b≠x:=fun b n z=>by subst z;rw[n] at mu;exact mu
 have hb: ∀b,H b=none->b≠e:=fun b n z=>by
  subst z
  rcases he with r|r
  ·exact hx b n r
  ·rw[n] at r;cases r
 have hm: ∀b u,H b=some u->¬Mut (some u)->b≠x:=fun b u q nm z=>by subst z;rw[q] at mu;exact nm mu
 refine⟨fun b u q n _ _=>k b u (hb b n) q,fun b u q n _ _=>⟨u.slots,k b u (hb b n) q⟩,fun b u q n _=>by rw[zaN (hx b n)];exact n,fun b u q _=>?_,
  fun b xs q=>by rw[zaN (hm b _ q fun z=>z)];exact q,fun b u xs q=>by rw[zaN (hm b _ q fun z=>z)];exact q,fun b ps q=>⟨#[],by rw[zaN (hm b _ q fun z=>z),q];simp⟩⟩
 by_cases hbe:b=e
 ·subst hbe;exact heo
 ·exact⟨u,k b u hbe q⟩
theorem Un.mono(u:Un fs ex H H1 h h1)(hs: ∀b∈fs,b∈fs')(hx: ∀b∈ex,b∈ex'):Un fs' ex' H H1 h h1:=
 ⟨fun b ob q n hb he=>u.keep b ob q n (fun z=>hb (hs b z)) fun z=>he (hx b z),fun _ _ q n _ he=>u.any q n fun z=>he (hx _ z),fun b ob q n he=>u.free b ob q n fun z=>he (hx b z),fun b ob q he=>u.there b ob q fun z=>he (hx b z),u.tups,u.frzs,u.tbls⟩
end
noncomputable def trk(h:Heap)(H:Hp):List Addr:=(List.range h.objs.size).filter fun a=>(H a).isSome
noncomputable def zm0(h:Heap)(H:Hp):Heap:=PySem.W.hideAll h (trk h H)
theorem zkN(h:Heap)(H:Hp):(zm0 h H).objs.size=h.objs.size:=PySem.W.hideAll_size _ _
theorem zm1{h:Heap}{H:Hp}{b:Addr}{o:Obj}(e:h.get? b=some o)(n:H b=none):(zm0 h H).get? b=some o:=
 PySem.W.hideAll_get _ e fun hm=>by
  have q:(H b).isSome=true:=(List.mem_filter.mp hm).2
  rw[n] at q;simp at q
theorem zoN{h:Heap}{H:Hp}{b:Addr}{o:Obj}(e:(zm0 h H).get? b=some o):h.get? b=some o/\H b=none:=by
 have e':h.get? b=some o:=PySem.W.of_hideAll (trk h H) e
 refine⟨e',?_⟩
 cases q:H b with
 |none=>rfl
 |some x=>
  have hm:b∈trk h H:=List.mem_filter.mpr ⟨List.mem_range.mpr (Heap.lt_size e'),by simp[q]⟩
  have z:(zm0 h H).get? b=none:=PySem.W.hideAll_none (trk h H) hm
  rw[z] at e;cases e
noncomputable def zoO(g h:Heap)(L:Addr):List (Addr×Obj):=(List.range h.objs.size).filterMap fun a=>if a=L\/(g.get? a).isSome=true then none else (h.get? a).map fun o=>(a,o)
noncomputable def zck(g h:Heap)(L d:Addr):List (Addr×Obj):=(zoO g h L).filter fun p=>decide (p.1≠d)
end L2
namespace L2
open PySem PySem.Spec PyProof.Rows
structure Mod (K:PySem.W.Frag)(mg:Str->Option Value)(base:Heap):Prop where
 kin:K.In base
 glob:base.Ns mainGlobals mg
 blt: ∃mb,base.Ns builtinsNs mb/\∀x:Str,x≠"__name__"->mb x=bootBuiltins x
 nolimit:base.NoLimit
structure Cx where
 prog:Program
 w:World
 K:PySem.W.Frag
 mg:Str->Option Value
 base:Heap
 A:Around
 N:List Str
 s₀:Shared
 H₀:Hp
 env:Env
 outer:List Env
 stack:List Env
 ex:List Addr
 fn:Str->Bool
 calm:Bool
 pn:List (Addr×Obj)
 xe:Value->Shared->Prop
noncomputable def frs(l:List Env):List Addr:=l.filterMap (·.frame)
noncomputable abbrev Cx.fs(X:Cx):List Addr:=frs X.outer
noncomputable def Vis(sc:Scope)(x:Str):Prop:=sc.names.lookup x=some .local\/sc.names.lookup x=some .cell\/sc.names.lookup x=some .free
noncomputable def Loc(sc:Scope)(x:Str):Prop:=sc.names.lookup x=some .local\/sc.names.lookup x=some .cell
noncomputable def zxz(env:Env)(h:Heap)(m:Str->Option Value)(x:Str)(u:Value):Prop:=
 (env.kindOf x=some .local/\m x=some u)\/((env.kindOf x=some .cell\/env.kindOf x=some .free)/\∃c,env.cells.lookup x=some c/\h.IsCell c (some u))
structure Cx.Ok (X:Cx):Prop where
 mod:Mod X.K X.mg X.base
 kind:X.env.scope.kind= .function
 glob:X.env.globals=mainGlobals
 blt:X.env.builtins=builtinsNs
 above:X.s₀.heap.objs.size<=X.env.locals
 inj: ∀x y c,X.env.cells.lookup x=some c->X.env.cells.lookup y=some c->x=y
 has: ∀x,(X.env.kindOf x=some .cell\/X.env.kindOf x=some .free)->∃c,X.env.cells.lookup x=some c
 cab: ∀x c,X.fn x=true->X.env.cells.lookup x=some c->X.s₀.heap.objs.size<=c
 hd:X.calm=true->X.A.handled=none
 frames:X.A.frames=some X.stack
 stk:X.stack=X.outer\/(X.stack=X.env::X.outer/\X.env.frame=some X.env.locals)
 exf: ∀b∈X.ex,b≠X.env.locals/\∀x c,X.env.cells.lookup x=some c->c≠b
 bs: ∀b o,X.base.get? b=some o->X.s₀.heap.get? b=some o/\X.H₀ b=none
 bsz:X.base.objs.size<=X.s₀.heap.objs.size
 noex: ∀b o,X.base.get? b=some o->b∉X.ex
 exfs: ∀b∈X.ex,b∉X.fs
 funs:X.s₀.heap.FunFrames X.base X.outer
 frf: ∀b∈X.fs,X.H₀ b=none
structure Inv (X:Cx)(pins:List (Addr×Obj))(σ:List (Option V))(H:Hp)(s:Shared):Prop where
 ok:X.Ok
 os:s.os=X.s₀.os
 bare:AllBare s.gens
 base:Un X.fs X.ex X.H₀ H X.s₀.heap s.heap
 loc: ∃m,s.heap.Ns X.env.locals m/\∀(i:Nat) (x:Str) (v:V),X.N[i]? =some x->σ[i]? =some (some v)->Vis X.env.scope x->∃u,RelV v u/\zxz X.env s.heap m x u
 cell: ∀x c,X.env.cells.lookup x=some c->∃v,s.heap.IsCell c v
 free:H X.env.locals=none
 freeC: ∀x c,X.env.cells.lookup x=some c->H c=none
 pin: ∀p∈X.pn++pins,s.heap.get? p.1=some p.2/\H p.1=none/\p.1≠X.env.locals/\p.1∉X.fs/\∀v,p.2.data≠ .cell v
 hok:HOk X.prog X.w H s.heap
 len:σ.length=X.N.length
section
variable {X:Cx} {pins:List (Addr×Obj)} {σ:List (Option V)} {H H':Hp} {s:Shared} {h':Heap}
theorem Cx.Ok.nofr(ok:X.Ok){b:Addr}{o:Obj}(e:X.base.get? b=some o):b∉X.fs:=fun hb=>by
 have:=(ok.funs.mem hb).1
 rw[e] at this;cases this
theorem Inv.bs(I:Inv X pins σ H s): ∀b o,X.base.get? b=some o->s.heap.get? b=some o/\H b=none:=fun b o e=>
 ⟨I.base.keep b o (I.ok.bs b o e).1 (I.ok.bs b o e).2 (I.ok.nofr e) (I.ok.noex b o e),I.base.free b o (I.ok.bs b o e).1 (I.ok.bs b o e).2 (I.ok.noex b o e)⟩
theorem Inv.bk(I:Inv X pins σ H s): ∀b o,X.base.get? b=some o->s.heap.get? b=some o:=fun b o e=>(I.bs b o e).1
theorem Inv.mod(I:Inv X pins σ H s):Mod X.K X.mg X.base:=I.ok.mod
theorem Inv.kIn(I:Inv X pins σ H s):X.K.In s.heap:=I.ok.mod.kin.keeps I.bk
theorem Inv.nolimit(I:Inv X pins σ H s):s.heap.NoLimit:=I.ok.mod.nolimit.keeps I.bk
theorem Inv.fr(I:Inv X pins σ H s): ∃m,Fr X.base X.env.locals s.heap m:=
 let ⟨m,hn,_⟩:=I.loc
 ⟨m,hn,I.bk,Nat.le_trans I.ok.bsz I.ok.above⟩
theorem Inv.lt(I:Inv X pins σ H s):X.env.locals<s.heap.objs.size:=let ⟨_,hn,_⟩:=I.loc;hn.lt
theorem Inv.sz(I:Inv X pins σ H s):X.s₀.heap.objs.size<=s.heap.objs.size:=Nat.le_trans I.ok.above (Nat.le_of_lt I.lt)
theorem Inv.nofs(I:Inv X pins σ H s){a:Addr}(h:s.heap.objs.size<=a):a∉X.fs:=fun hb=>by
 obtain⟨_,o,ho,_⟩:=I.ok.funs.mem hb
 exact absurd (Nat.lt_of_lt_of_le (Heap.lt_size ho) (Nat.le_trans I.sz h)) (Nat.lt_irrefl _)
theorem Inv.cne(I:Inv X pins σ H s): ∀x c,X.env.cells.lookup x=some c->c≠X.env.locals:=fun x c e z=>by
 obtain⟨v,o,ho,hd⟩:=I.cell x c e
 obtain⟨m,⟨o',es,ep,ho',hd',_⟩,_⟩:=I.loc
 rw[z,ho'] at ho;cases ho;rw[hd'] at hd;cases hd
theorem Inv.funs(I:Inv X pins σ H s):s.heap.FunFrames X.base X.outer:=by
 have all: ∀(l:List Env),(∀b∈frs l,b∈X.fs)->X.s₀.heap.FunFrames X.base l->s.heap.FunFrames X.base l:=by
  intro l
  induction l with
  |nil=>intro _ _;trivial
  |cons env r ih=>
   intro hs hl
   obtain⟨hk,⟨L,o,hf,hn,ho,hd⟩,hr⟩:=hl
   have hL:L∈X.fs:=hs L (by unfold frs;rw[List.filterMap_cons,hf];exact List.mem_cons_self)
   obtain⟨sl,e⟩:=I.base.slot L o ho (I.ok.frf L hL) hL fun z=>I.ok.exfs L z hL
   exact⟨hk,⟨L,_,hf,hn,e,hd⟩,ih (fun b hb=>hs b (by unfold frs;rw[List.filterMap_cons,hf];exact List.mem_cons_of_mem _ hb)) hr⟩
 exact all X.outer (fun _ hb=>hb) I.ok.funs
theorem Inv.stack(I:Inv X pins σ H s):s.heap.FunFrames X.base X.stack:=by
 rcases I.ok.stk with e|⟨e,hf⟩
 ·rw[e];exact I.funs
 ·rw[e]
  obtain⟨m,hn,_⟩:=I.loc
  refine .cons (by rw[I.ok.kind];decide) hf hn ?_ I.funs
  exact Heap.get?_none_of_le (Nat.le_trans I.ok.bsz I.ok.above)
theorem Inv.stkSub(I:Inv X pins σ H s): ∀b∈frs X.stack,b∈X.env.locals::X.fs:=fun b hb=>by
 rcases I.ok.stk with e|⟨e,hf⟩
 ·rw[e] at hb;exact List.mem_cons_of_mem _ hb
 ·rw[e] at hb
  unfold frs at hb
  rw[List.filterMap_cons,hf] at hb
  exact hb
theorem Inv.stkFree(I:Inv X pins σ H s): ∀b∈frs X.stack,H b=none:=fun b hb=>by
 rcases List.mem_cons.mp (I.stkSub b hb) with e|hb
 ·rw[e];exact I.free
 ·obtain⟨_,o,ho,_⟩:=I.ok.funs.mem hb
  exact I.base.free b o ho (I.ok.frf b hb) fun z=>I.ok.exfs b z hb
theorem Inv.step{g':Array GenState}{t':Nat}{d':Drawn}{ch:List Addr}(I:Inv X pins σ H s)
  (hch: ∀b∈ch,(b∈X.ex\/X.s₀.heap.objs.size<=b)/\b≠X.env.locals/\(∀x c,X.env.cells.lookup x=some c->c≠b)/\∀p∈X.pn++pins,p.1≠b)
  (keep: ∀b o,b≠X.env.locals->b∉X.fs->b∉ch->s.heap.get? b=some o->H b=none->h'.get? b=some o)
  (slot: ∀b o,b≠X.env.locals->b∈X.fs->b∉ch->s.heap.get? b=some o->H b=none->∃sl,h'.get? b=some { o with slots:=sl }) (free: ∀b o,b∉ch->s.heap.get? b=some o->H b=none->H' b=none)
  (there: ∀b o,b∉ch->s.heap.get? b=some o->∃o',h'.get? b=some o')
  (tups: ∀b xs,H b=some (.tup xs)->H' b=some (.tup xs)) (frzs: ∀b o u,H b=some (.frz o u)->H' b=some (.frz o u)) (tbls: ∀b ps,H b=some (.tbl ps)->∃more,H' b=some (.tbl (ps++more)))
  (ns: ∀m,s.heap.Ns X.env.locals m->h'.Ns X.env.locals m) (hok:HOk X.prog X.w H' h') (hg:AllBare g'):
  Inv X pins σ H' { s with heap:=h',gens:=g',drawn:=d',toks:=t' }:=by
 have neL: ∀b o,X.s₀.heap.get? b=some o->b≠X.env.locals:=fun b o e=>Nat.ne_of_lt (Nat.lt_of_lt_of_le (Heap.lt_size e) I.ok.above)
 have neC: ∀b o,X.s₀.heap.get? b=some o->b∉X.ex->b∉ch:=fun b o e hx hb=>by
  rcases (hch b hb).1 with z|z
  ·exact hx z
  ·exact absurd (Nat.lt_of_lt_of_le (Heap.lt_size e) z) (Nat.lt_irrefl _)
 have cellK: ∀x c,X.env.cells.lookup x=some c->∀v,s.heap.IsCell c v->h'.IsCell c v:=fun x c e v ⟨o,ho,hd⟩=>by
  have nch:c∉ch:=fun z=>(hch c z).2.2.1 x c e rfl
  by_cases hc:c∈X.fs
  ·obtain⟨sl,q⟩:=slot c o (I.cne x c e) hc nch ho (I.freeC x c e)
   exact⟨_,q,hd⟩
  ·exact⟨o,keep c o (I.cne x c e) hc nch ho (I.freeC x c e),hd⟩
 refine⟨I.ok,I.os,hg,⟨fun b o e n hb hx=>?_,fun b o e n hb hx=>?_,fun b o e n hx=>?_,fun b o e hx=>?_,fun b xs e=>tups b xs (I.base.tups b xs e),fun b o xs e=>frzs b o xs (I.base.frzs b o xs e),fun b ps e=>?_⟩,?_,fun x c e=>?_,?_,fun x c e=>?_,fun p hp=>?_,hok,I.len⟩
 ·exact keep b o (neL b o e) hb (neC b o e hx) (I.base.keep b o e n hb hx) (I.base.free b o e n hx)
 ·obtain⟨sl,e1⟩:=I.base.slot b o e n hb hx
  obtain⟨sl',e2⟩:=slot b _ (neL b o e) hb (neC b o e hx) e1 (I.base.free b o e n hx)
  exact⟨sl',e2⟩
 ·obtain⟨o',e1⟩:=I.base.there b o e hx
  exact free b o' (neC b o e hx) e1 (I.base.free b o e n hx)
 ·obtain⟨o',e1⟩:=I.base.there b o e hx
  exact there b o' (neC b o e hx) e1
 ·obtain⟨m1,e1⟩:=I.base.tbls b ps e
  obtain⟨m2,e2⟩:=tbls b _ e1
  exact⟨m1++m2,by rw[e2,Array.append_assoc]⟩
 ·obtain⟨m,hn,hl⟩:=I.loc
  refine⟨m,ns m hn,fun i x v e1 e2 e3=>?_⟩
  obtain⟨u,r,l⟩:=hl i x v e1 e2 e3
  refine⟨u,r,?_⟩
  rcases l with l|⟨k,c,e,z⟩
  ·exact .inl l
  ·exact .inr ⟨k,c,e,cellK x c e _ z⟩
 ·obtain⟨v,z⟩:=I.cell x c e
  exact⟨v,cellK x c e v z⟩
 ·obtain⟨m,⟨o,_,_,ho,_⟩,_⟩:=I.loc
  exact free _ o (fun z=>(hch _ z).2.1 rfl) ho I.free
 ·obtain⟨v,o,ho,hd⟩:=I.cell x c e
  exact free c o (fun z=>(hch c z).2.2.1 x c e rfl) ho (I.freeC x c e)
 ·obtain⟨e,n,ne,nf,d⟩:=I.pin p hp
  have nch:p.1∉ch:=fun z=>(hch p.1 z).2.2.2 p hp rfl
  exact⟨keep p.1 p.2 ne nf nch e n,free p.1 p.2 nch e n,ne,nf,d⟩
theorem Inv.un{t':Nat}(I:Inv X pins σ H s)(u:Un X.fs [] H H' s.heap h')(hok:HOk X.prog X.w H' h'):Inv X pins σ H' { s with heap:=h',toks:=t' }:=by
 obtain⟨m,⟨o,es,ep,ho,r⟩,_⟩:=id I.loc
 obtain⟨sl,hL⟩:=u.any ho I.free (by simp)
 exact I.step (g':=s.gens) (d':=s.drawn) (ch:=[]) (fun _ z=>nomatch z) (fun b o _ hb _ e n=>u.keep b o e n hb (by simp)) (fun b o _ hb _ e n=>u.slot b o e n hb (by simp)) (fun b o _ e n=>u.free b o e n (by simp)) (fun b o _ e=>u.there b o e (by simp)) u.tups u.frzs u.tbls (fun m' hm=>by
  obtain⟨o',es',ep',ho',r'⟩:=hm
  rw[ho] at ho';cases ho'
  exact⟨_,es',ep',hL,r'⟩) hok I.bare
theorem Inv.call{g':Array GenState}{t':Nat}{d':Drawn}{ch:List Addr}(I:Inv X pins σ H s)(u:Un (frs X.stack) ch H H' s.heap h')(hok:HOk X.prog X.w H' h')(hg:AllBare g')
  (hch: ∀b∈ch,(b∈X.ex\/X.s₀.heap.objs.size<=b)/\b≠X.env.locals/\(∀x c,X.env.cells.lookup x=some c->c≠b)/\∀p∈X.pn++pins,p.1≠b):
  Inv X pins σ H' { s with heap:=h',gens:=g',drawn:=d',toks:=t' }:=by
 obtain⟨m,⟨o,es,ep,ho,r⟩,_⟩:=id I.loc
 obtain⟨sl,hL⟩:=u.any ho I.free fun z=>(hch _ z).2.1 rfl
 exact I.step (ch:=ch) hch (fun b o hL hb hc e n=>u.keep b o e n (fun z=>(List.mem_cons.mp (I.stkSub b z)).elim hL hb) hc) (fun b o _ _ hc e n=>u.any e n hc) (fun b o hc e n=>u.free b o e n hc) (fun b o hc e=>u.there b o e hc) u.tups u.frzs u.tbls (fun m' hm=>by
  obtain⟨o',es',ep',ho',r'⟩:=hm
  rw[ho] at ho';cases ho'
  exact⟨_,es',ep',hL,r'⟩) hok hg
theorem Inv.turned{t':Nat}{it:Addr}(I:Inv X pins σ H s)(k: ∀b o,b≠it->s.heap.get? b=some o->h'.get? b=some o)(hn:H it=none)(hL:it≠X.env.locals)
  (h1:it∈X.ex\/X.s₀.heap.objs.size<=it) (h2: ∀x c,X.env.cells.lookup x=some c->c≠it) (h3: ∀p∈X.pn++pins,p.1≠it):Inv X pins σ H { s with heap:=h',toks:=t' }:=by
 have nit: ∀b u,H b=some u->b≠it:=fun b u e z=>by rw[z,hn] at e;cases e
 refine I.step (g':=s.gens) (d':=s.drawn) (ch:=[it]) (fun b hb=>?_) (fun b o _ _ hc e _=>k b o (fun z=>hc (by simp[z])) e) (fun b o _ _ hc e _=>⟨o.slots,k b o (fun z=>hc (by simp[z])) e⟩) (fun _ _ _ _ n=>n)
  (fun b o hc e=>⟨o,k b o (fun z=>hc (by simp[z])) e⟩) (fun _ _ e=>e) (fun _ _ _ e=>e) (fun b ps e=>⟨#[],by rw[e];simp⟩) (fun m hm=>?_) (fun b u e=>?_) I.bare
 ·have e:b=it:=by simpa using hb
  subst e
  exact⟨h1,hL,h2,h3⟩
 ·obtain⟨o,es,ep,ho,r⟩:=hm
  exact⟨o,es,ep,k _ o (Ne.symm hL) ho,r⟩
 ·refine (I.hok b u e).stay (fun c v hc q=>k c v ?_ q) (fun _ q=>q) fun _ _ q=>q
  rcases hc with z|z
  ·rw[z];exact nit b u e
  ·exact nit c _ z
theorem Inv.tok(I:Inv X pins σ H s)(t:Nat):Inv X pins σ H { s with toks:=t }:=I.un (h':=s.heap) (t':=t) Un.refl I.hok
theorem Inv.kept{t':Nat}(I:Inv X pins σ H s)(k: ∀b u,s.heap.get? b=some u->h'.get? b=some u):Inv X pins σ H { s with heap:=h',toks:=t' }:=I.un (Un.kept k) (I.hok.kept k)
theorem Inv.laid{a:Addr}{o:HO}{t':Nat}(I:Inv X pins σ H s)(k: ∀b u,s.heap.get? b=some u->h'.get? b=some u)(hp:s.heap.objs.size<=a)(new:ObjOk X.prog X.w (upd H a o) h' a o):
  Inv X pins σ (upd H a o) { s with heap:=h',toks:=t' }:=I.un (Un.laid k hp (I.hok.fresh hp)) (I.hok.laid k hp new)
theorem Inv.write{x e:Addr}{o:HO}{t':Nat}(I:Inv X pins σ H s)(mu:Mut (H x))(he:e=x\/H e=some (.own x))(k: ∀b u,b≠e->s.heap.get? b=some u->h'.get? b=some u)(heo: ∃u,h'.get? e=some u)
  (new:ObjOk X.prog X.w (upd H x o) h' x o):Inv X pins σ (upd H x o) { s with heap:=h',toks:=t' }:=I.un (Un.write mu he k heo) (I.hok.write mu he k heo new)
theorem Inv.pins_of{pins':List (Addr×Obj)}(I:Inv X pins σ H s)(h: ∀p∈pins',s.heap.get? p.1=some p.2/\H p.1=none/\p.1≠X.env.locals/\p.1∉X.fs/\∀v,p.2.data≠ .cell v):Inv X pins' σ H s:=
 ⟨I.ok,I.os,I.bare,I.base,I.loc,I.cell,I.free,I.freeC,fun p hp=>(List.mem_append.mp hp).elim (fun z=>I.pin p (List.mem_append_left _ z)) (h p),I.hok,I.len⟩
theorem zjf{N:List Str}(hN:N.Nodup){i j:Nat}{x:Str}(a:N[i]? =some x)(b:N[j]? =some x):i=j:=by
 obtain⟨h1,e1⟩:=List.getElem?_eq_some_iff.mp a
 obtain⟨h2,e2⟩:=List.getElem?_eq_some_iff.mp b
 exact (List.getElem_inj hN).mp (e1.trans e2.symm)
theorem zkO{M:Model}{A:Around}{E:Value->Shared->Prop}{i:Nat}{x:Str}{v:V}{u:Value}{Q:Unit->Shared->Prop}(I:Inv X pins σ H s)(hN:X.N.Nodup)(hi:X.N[i]? =some x)(hx:Loc X.env.scope x)(r:RelV v u)
  (h: ∀s',Inv X pins (σ.set i (some v)) H s'->(∃a,Heap.SameBut a s.heap s'.heap/\(a=X.env.locals\/X.env.cells.lookup x=some a))->Q () s') (hf:X.fn x=true\/X.env.scope.names.lookup x=some .local:=by first|exact .inl rfl|exact .inr rfl|assumption):wpAny M A (storeName X.env x u) Q E s:=by
 obtain⟨m,hn,hl⟩:=id I.loc
 have hcls:(X.env.scope.kind== .class||(X.env.scope.kind== .module&&X.env.locals != X.env.globals))=false:=by rw[I.ok.kind];rfl
 have hiσ:i<σ.length:=by rw[I.len];exact (List.getElem?_eq_some_iff.mp hi).1
 have cne:=I.cne
 have tracked: ∀{a:Addr} {h':Heap},(∃o,s.heap.get? a=some o/\H a=none)->Heap.SameBut a s.heap h'->HOk X.prog X.w H h':=fun {a h'} ha hs b ob e=>by
  obtain⟨_,_,hfree⟩:=ha
  refine (I.hok b ob e).stay (fun c w' hc q=>(hs.2 c ?_).trans q) (fun _ q=>q) fun _ _ q=>q
  rintro rfl
  rcases hc with rfl|hc
  ·rw[hfree] at e;cases e
  ·rw[hfree] at hc;cases hc
 rcases hx with hk|hk
 ·refine wpAny_storeName_local hk hn (fun h' hn' hs=>?_) hcls
  obtain⟨oL,_,_,hoL,_⟩:=id hn
  refine h _ ⟨I.ok,I.os,I.bare,⟨fun b o e n hb hx=>?_,fun b o e n hb hx=>?_,I.base.free,fun b o e hx=>?_,I.base.tups,I.base.frzs,I.base.tbls⟩,⟨_,hn',fun j y v' e1 e2 e3=>?_⟩,fun y c e=>?_,I.free,I.freeC,fun p hp=>?_,tracked ⟨oL,hoL,I.free⟩ hs,by simpa using I.len⟩ ⟨_,hs,.inl rfl⟩
  ·exact (hs.2 b (Nat.ne_of_lt (Nat.lt_of_lt_of_le (Heap.lt_size e) I.ok.above))).trans (I.base.keep b o e n hb hx)
  ·obtain⟨sl,e1⟩:=I.base.slot b o e n hb hx
   exact⟨sl,(hs.2 b (Nat.ne_of_lt (Nat.lt_of_lt_of_le (Heap.lt_size e) I.ok.above))).trans e1⟩
  ·obtain⟨o',e1⟩:=I.base.there b o e hx
   exact⟨o',(hs.2 b (Nat.ne_of_lt (Nat.lt_of_lt_of_le (Heap.lt_size e) I.ok.above))).trans e1⟩
  ·by_cases hj:j=i
   ·subst hj
    rw[hi] at e1;cases e1
    rw[List.getElem?_set_self hiσ] at e2
    cases e2
    exact⟨u,r,.inl ⟨hk,by simp⟩⟩
   ·rw[List.getElem?_set_ne (Ne.symm hj)] at e2
    obtain⟨u',r',q⟩:=hl j y v' e1 e2 e3
    refine⟨u',r',?_⟩
    rcases q with ⟨k,e⟩|⟨k,c,e,z⟩
    ·refine .inl ⟨k,?_⟩
     have:y≠x:=fun e=>hj (zjf hN e1 (e▸hi))
     simp[this,e]
    ·exact .inr ⟨k,c,e,z.sameBut hs (cne y c e)⟩
  ·obtain⟨w',z⟩:=I.cell y c e
   exact⟨w',z.sameBut hs (cne y c e)⟩
  ·obtain⟨e,n,ne,nf,d⟩:=I.pin p hp
   exact⟨(hs.2 p.1 ne).trans e,n,ne,nf,d⟩
 ·have hfn:X.fn x=true:=by
   rcases hf with z|z
   ·exact z
   ·rw[z] at hk;cases hk
  obtain⟨c,hc⟩:=I.ok.has x (.inl hk)
  obtain⟨w',z⟩:=I.cell x c hc
  refine wpAny_storeName_cell I.ok.kind hk hc z (fun h' hc' hs=>?_)
  obtain⟨oc,hoc,hocd⟩:=id z
  refine h { s with heap:=h' } ⟨I.ok,I.os,I.bare,⟨fun b o e n hb hx=>?_,fun b o e n hb hx=>?_,I.base.free,fun b o e hx=>?_,I.base.tups,I.base.frzs,I.base.tbls⟩,⟨m,hn.sameBut hs (Ne.symm (cne x c hc)),fun j y v' e1 e2 e3=>?_⟩,fun y c' e=>?_,I.free,I.freeC,fun p hp=>?_,tracked ⟨oc,hoc,I.freeC x c hc⟩ hs,by simpa using I.len⟩ ⟨c,hs,.inr hc⟩
  ·exact (hs.2 b (Nat.ne_of_lt (Nat.lt_of_lt_of_le (Heap.lt_size e) (I.ok.cab x c hfn hc)))).trans (I.base.keep b o e n hb hx)
  ·obtain⟨sl,e1⟩:=I.base.slot b o e n hb hx
   exact⟨sl,(hs.2 b (Nat.ne_of_lt (Nat.lt_of_lt_of_le (Heap.lt_size e) (I.ok.cab x c hfn hc)))).trans e1⟩
  ·obtain⟨o',e1⟩:=I.base.there b o e hx
   exact⟨o',(hs.2 b (Nat.ne_of_lt (Nat.lt_of_lt_of_le (Heap.lt_size e) (I.ok.cab x c hfn hc)))).trans e1⟩
  ·by_cases hj:j=i
   ·subst hj
    rw[hi] at e1;cases e1
    rw[List.getElem?_set_self hiσ] at e2
    cases e2
    exact⟨u,r,.inr ⟨.inl hk,c,hc,hc'⟩⟩
   ·rw[List.getElem?_set_ne (Ne.symm hj)] at e2
    obtain⟨u',r',q⟩:=hl j y v' e1 e2 e3
    refine⟨u',r',?_⟩
    rcases q with q|⟨k,c',e,z'⟩
    ·exact .inl q
    ·refine .inr ⟨k,c',e,z'.sameBut hs ?_⟩
     rintro rfl
     exact hj (zjf hN e1 (I.ok.inj _ _ _ e hc▸hi))
  ·by_cases hcc:c'=c
   ·subst hcc;exact⟨_,hc'⟩
   ·obtain⟨w2,z2⟩:=I.cell y c' e
    exact⟨w2,z2.sameBut hs hcc⟩
  ·obtain⟨e,n,ne,nf,d⟩:=I.pin p hp
   refine⟨(hs.2 p.1 ?_).trans e,n,ne,nf,d⟩
   intro q
   rw[q,hoc] at e
   have q':oc=p.2:=Option.some.inj e
   exact d w' (by rw[<-q'];exact hocd)
theorem zjg{M:Model}{A:Around}{E:Value->Shared->Prop}{i:Nat}{x:Str}{v:V}{u:Value}{Q:Unit->Shared->Prop}(I:Inv X pins σ H s)(hN:X.N.Nodup)(hi:X.N[i]? =some x)(hx:Loc X.env.scope x)(r:RelV v u)
  (h: ∀s',Inv X pins (σ.set i (some v)) H s'->Q () s') (hf:X.fn x=true\/X.env.scope.names.lookup x=some .local:=by first|exact .inl rfl|exact .inr rfl|assumption):wpAny M A (storeName X.env x u) Q E s:=
 zkO I hN hi hx r (fun s' I' _=>h s' I') hf
theorem Inv.call'{s':Shared}{ch:List Addr}(I:Inv X pins σ H s)(ho:s'.os=s.os)(u:Un (frs X.stack) ch H H' s.heap s'.heap)(hok:HOk X.prog X.w H' s'.heap)(hg:AllBare s'.gens)
  (hch: ∀b∈ch,(b∈X.ex\/X.s₀.heap.objs.size<=b)/\b≠X.env.locals/\(∀x c,X.env.cells.lookup x=some c->c≠b)/\∀p∈X.pn++pins,p.1≠b):Inv X pins σ H' s':=by
 obtain⟨h',g',d',t',o'⟩:=s'
 have e:o'=s.os:=ho
 subst e
 exact I.call (g':=g') (t':=t') (d':=d') u hok hg hch
end
noncomputable abbrev XK:=Value->Option Addr->Hp->Prop
noncomputable abbrev St:=List (Option V)
noncomputable abbrev VK:=V->Hp->Prop
noncomputable abbrev TE:=St->Hp->VK->Prop
noncomputable abbrev TT:=St->Hp->(Bool->Hp->Prop)->Prop
noncomputable abbrev TA:=St->Hp->(List V->Hp->Prop)->Prop
structure Ends where
 nx:St->Hp->Prop
 rt:VK
 bk:St->Hp->Prop:=fun _ _=>False
 ct:St->Hp->Prop:=fun _ _=>False
noncomputable abbrev TS:=Ends->St->Hp->Prop
noncomputable def EP(X:Cx)(pins:List (Addr×Obj))(σ:St)(Q:VK)(u:Value)(s':Shared):Prop:=∃v H',Inv X pins σ H' s'/\RelV v u/\Q v H'
noncomputable def TP(X:Cx)(pins:List (Addr×Obj))(σ:St)(Q:Bool->Hp->Prop)(b:Bool)(s':Shared):Prop:=∃H',Inv X pins σ H' s'/\Q b H'
noncomputable def AP(X:Cx)(pins:List (Addr×Obj))(σ:St)(Q:List V->Hp->Prop)(us:List Value)(s':Shared):Prop:=∃vs H',Inv X pins σ H' s'/\Vals vs us/\Q vs H'
noncomputable def SP(X:Cx)(pins:List (Addr×Obj))(D:Ends)(f:Flow)(s':Shared):Prop:=
 match f with
 | .next=>∃σ' H',Inv X pins σ' H' s'/\D.nx σ' H'
 | .brk=>∃σ' H',Inv X pins σ' H' s'/\D.bk σ' H'
 | .cont=>∃σ' H',Inv X pins σ' H' s'/\D.ct σ' H'
 | .ret u=>∃v σ' H',Inv X pins σ' H' s'/\RelV v u/\D.rt v H'
noncomputable def PE(X:Cx)(e:Expr)(t:TE):Prop:=
 ∀(pins:List (Addr×Obj)) (s:Shared) (σ:St) (H:Hp) (Q:VK),Inv X pins σ H s->t σ H Q->wpAny (model X.prog X.w) X.A (eval e X.env) (EP X pins σ Q) X.xe s
noncomputable def PT(X:Cx)(e:Expr)(t:TT):Prop:=
 ∀(pins:List (Addr×Obj)) (s:Shared) (σ:St) (H:Hp) (Q:Bool->Hp->Prop),Inv X pins σ H s->t σ H Q->wpAny (model X.prog X.w) X.A (isTrue e X.env (eval e X.env)) (TP X pins σ Q) X.xe s
noncomputable def PW(X:Cx)(e:Expr)(t:TT):Prop:=
 ∀(whole:Sem Value) (pins:List (Addr×Obj)) (s:Shared) (σ:St) (H:Hp) (Q:Bool->Hp->Prop),Inv X pins σ H s->t σ H Q->wpAny (model X.prog X.w) X.A (isTrue e X.env whole) (TP X pins σ Q) X.xe s
theorem PW.pt{X:Cx}{e:Expr}{t:TT}(h:PW X e t):PT X e t:=h _
noncomputable def PA(X:Cx)(es:List Expr)(t:TA):Prop:=
 ∀(pos:Pos) (pins:List (Addr×Obj)) (s:Shared) (σ:St) (H:Hp) (Q:List V->Hp->Prop),Inv X pins σ H s->t σ H Q->wpAny (model X.prog X.w) X.A (spliced (backTo pos (starEach es X.env))) (AP X pins σ Q) X.xe s
noncomputable def PS(X:Cx)(st:Stmt)(t:TS):Prop:=
 ∀(pins:List (Addr×Obj)) (s:Shared) (σ:St) (H:Hp) (D:Ends),Inv X pins σ H s->t D σ H->wpAny (model X.prog X.w) X.A (exec st X.env) (SP X pins D) X.xe s
noncomputable def PSs(X:Cx)(st:List Stmt)(t:TS):Prop:=
 ∀(pins:List (Addr×Obj)) (s:Shared) (σ:St) (H:Hp) (D:Ends),Inv X pins σ H s->t D σ H->wpAny (model X.prog X.w) X.A (execs st X.env) (SP X pins D) X.xe s
theorem thn{α:Type}{t:Sem α}{Q Q':α->Shared->Prop}{M:Model}{A:Around}{E:Value->Shared->Prop}{s:Shared}(h:wpAny M A t Q E s)(hQ: ∀a s,Q a s->Q' a s):wpAny M A t Q' E s:=wpAny_mono h hQ fun _ _ x=>x
end L2
namespace L2
open PySem PySem.Spec PyProof.Rows
section
variable {X:Cx}
noncomputable def zxA(i:Nat):TE:=fun σ H Q=>∃v,σ[i]? =some (some v)/\Q v H
noncomputable def tC(v:V):TE:=fun _ H Q=>Q v H
theorem zfA{i:Nat}{x:Str}{pos:Pos}(hN:X.N[i]? =some x)(hv:Vis X.env.scope x)(hd:(x==("__debug__":Str))=false:=by decide)(hcd:(x==("__classdict__":Str))=false:=by decide):PE X (.Name x pos) (zxA i):=by
 intro pins s σ H Q I h
 obtain⟨v,e,h⟩:=h
 obtain⟨m,hn,hl⟩:=I.loc
 obtain⟨u,r,l⟩:=hl i x v hN e hv
 have fin:EP X pins σ Q u s:=⟨v,H,I,r,h⟩
 rcases l with ⟨hk,hm⟩|⟨hk,c,hc,zfj⟩
 ·exact wpAny_Name (wpAny_loadName_local I.ok.kind hk hn hm fin) hd
 ·rcases hk with hk|hk
  ·exact wpAny_Name (wpAny_loadName_cell I.ok.kind hk hc zfj fin) hd
  ·exact wpAny_Name (wpAny_loadName_free I.ok.kind hk hc zfj fin hcd) hd
theorem zqJ{i j pos}:PE X (.Constant (.int i) j pos) (tC (.int i)):=fun _ _ _ H _ I h=>wpAny_Constant_int ⟨.int i,H,I.tok _,⟨_,rfl⟩,h⟩
theorem zuZ{b j pos}:PE X (.Constant (.bool b) j pos) (tC (.bl b)):=fun _ _ _ H _ I h=>Constant_bool ⟨.bl b,H,I,rfl,h⟩
theorem zqK{j pos}:PE X (.Constant .none j pos) (tC .non):=fun _ _ _ H _ I h=>Constant_none ⟨.non,H,I,rfl,h⟩
noncomputable def Gl(X:Cx)(x:Str):Prop:=X.env.kindOf x=some .globalImplicit
theorem zkP{E:Value->Shared->Prop}{pins:List (Addr×Obj)}{s:Shared}{σ:St}{H:Hp}{x:Str}{u:Value}{pos:Pos}{Q:Value->Shared->Prop}(I:Inv X pins σ H s)(hg:Gl X x)(hm:X.mg x=some u)(h:Q u s)
  (hd:(x==("__debug__":Str))=false:=by decide):wpAny (model X.prog X.w) X.A (eval (.Name x pos) X.env) Q E s:=
 Calls.Name_function_global I.ok.kind hg (Calls.loadGlobal_global (by rw[I.ok.glob];exact I.mod.glob.keeps I.bk) hm h) hd
theorem zhb{E:Value->Shared->Prop}{pins:List (Addr×Obj)}{s:Shared}{σ:St}{H:Hp}{x:Str}{u:Value}{pos:Pos}{Q:Value->Shared->Prop}(I:Inv X pins σ H s)(hg:Gl X x)(hm:X.mg x=none)(hv:bootBuiltins x=some u)(h:Q u s)
  (hn:x≠"__name__":=by decide) (hd:(x==("__debug__":Str))=false:=by decide):wpAny (model X.prog X.w) X.A (eval (.Name x pos) X.env) Q E s:=by
 obtain⟨mb,h1,h2⟩:=I.mod.blt
 exact Calls.Name_function_global I.ok.kind hg (Calls.loadGlobal_builtin (by rw[I.ok.glob];exact I.mod.glob.keeps I.bk) hm (by rw[I.ok.blt];exact h1.keeps I.bk) ((h2 x hn).trans hv) h) hd
theorem zoP{x:Str}{v:V}{u:Value}{pos:Pos}(hg:Gl X x)(hm:X.mg x=some u)(r:RelV v u)(hd:(x==("__debug__":Str))=false:=by decide):PE X (.Name x pos) (tC v):=
 fun _ _ _ H _ I h=>zkP I hg hm ⟨v,H,I,r,h⟩ hd
theorem zoQ{x:Str}{v:V}{u:Value}{pos:Pos}(hg:Gl X x)(hm:X.mg x=none)(hv:bootBuiltins x=some u)(r:RelV v u)(hn:x≠"__name__":=by decide)(hd:(x==("__debug__":Str))=false:=by decide):PE X (.Name x pos) (tC v):=
 fun _ _ _ H _ I h=>zhb I hg hm hv ⟨v,H,I,r,h⟩ hn hd
variable {a b:Expr} {ta tb:TE} {pos:Pos}
noncomputable def PC(X:Cx)(op:CmpOp)(a b:Expr)(t:TE):Prop:=
 ∀(pins:List (Addr×Obj)) (s:Shared) (σ:St) (H:Hp) (Q:VK),Inv X pins σ H s->t σ H Q->
  wpAny (model X.prog X.w) X.A (eval a X.env) (fun v s₁=>wpAny (model X.prog X.w) X.A (eval b X.env) (fun u s₂=>wpAny (model X.prog X.w) X.A (compareOp op v u) (EP X pins σ Q) X.xe s₂) X.xe s₁) X.xe s
theorem zjh(b:Expr){op:CmpOp}(h:op≠ .In)(h2:op≠ .NotIn):behindInMarks op b=false:=by
 have e1:(op==CmpOp.In)=false:=by cases op<;>first|rfl|exact absurd rfl h
 have e2:(op==CmpOp.NotIn)=false:=by cases op<;>first|rfl|exact absurd rfl h2
 cases b<;>simp[behindInMarks,e1,e2]
noncomputable def zxB(ta:TE):TE:=fun σ H Q=>ta σ H fun x H1=>Q (.bl (decide (x= .non))) H1
noncomputable def zu0(ta:TE):TE:=fun σ H Q=>ta σ H fun x H1=>Q (.bl (!decide (x= .non))) H1
theorem RelV.none_iff{x:V}{v:Value}(r:RelV x v):(v==Value.none)=decide (x= .non):=by
 cases x with
 |non=>cases r;rfl
 |bl _=>cases r;rfl
 |int _=>obtain⟨t,rfl⟩:=r;rfl
 |str _=>obtain⟨t,rfl⟩:=r;rfl
 |byt _=>obtain⟨t,rfl⟩:=r;rfl
 |flt _=>obtain⟨t,rfl⟩:=r;rfl
 |ref _=>cases r;rfl
 |ty _=>cases r;rfl
theorem zoh{j pos'}(ha:PE X a ta):PC X .Is a (.Constant .none j pos') (zxB ta):=by
 intro pins s σ H Q I h
 refine thn (ha pins s σ H _ I h) fun v s1 ⟨x,H1,I1,r1,q1⟩=>?_
 exact Constant_none (is_none_gen ⟨.bl _,H1,I1,by rw[r1.none_iff];rfl,q1⟩)
theorem zoR{j pos'}(ha:PE X a ta):PC X .IsNot a (.Constant .none j pos') (zu0 ta):=by
 intro pins s σ H Q I h
 refine thn (ha pins s σ H _ I h) fun v s1 ⟨x,H1,I1,r1,q1⟩=>?_
 exact Constant_none (isnot_none_gen ⟨.bl _,H1,I1,by rw[r1.none_iff];rfl,q1⟩)
noncomputable def tB(t:TE):TT:=fun σ H Q=>t σ H fun x H1=>∃c,x= .bl c/\Q c H1
theorem zqL{op:CmpOp}{t:TE}(h:PC X op a b t)(h1:behindInMarks op b=false:=by first|exact zjh _ (by decide) (by decide)|rfl):PE X (.Compare a [op] [b] pos) t:=fun pins s σ H Q I hw=>wpAny_Compare1 (h pins s σ H Q I hw) h1
theorem zoi{op:CmpOp}{t:TE}(h:PC X op a b t)(h1:behindInMarks op b=false:=by first|exact zjh _ (by decide) (by decide)|rfl):PT X (.Compare a [op] [b] pos) (tB t):=by
 intro pins s σ H Q I hw
 refine wpAny_isTrue_Compare1 (thn (h pins s σ H _ I hw) fun v s1 h1=>thn h1 fun u s2 h2=>thn h2 fun c s3 ⟨x,H1,I1,r1,q1⟩=>?_) h1
 obtain⟨d,rfl,q⟩:=q1
 cases r1
 exact wpAny_truthy_bool ⟨H1,I1,q⟩
variable {tA tB':TT} {zck:List Expr}
noncomputable def tOr(t u:TT):TT:=fun σ H Q=>t σ H fun c H1=>if c=true then Q true H1 else u σ H1 Q
noncomputable def zxC(t:TT):TT:=fun σ H Q=>t σ H fun c H1=>Q (!c) H1
theorem zqM(ha:PT X a tA):PW X (.BoolOp .Or [a] pos) tA:=by
 intro wh pins s σ H Q I h
 refine isTrue_or (thn (ha pins s σ H Q I h) fun c s1 e=>?_)
 cases c with
 |false=>exact isTrue_or_nil e
 |true=>exact e
theorem zu1(ha:PT X a tA)(hb:PW X (.BoolOp .Or (b::zck) pos) tB'):PW X (.BoolOp .Or (a::b::zck) pos) (tOr tA tB'):=by
 intro wh pins s σ H Q I h
 refine isTrue_or (thn (ha pins s σ H _ I h) fun c s1 ⟨H1,I1,q1⟩=>?_)
 cases c with
 |true=>exact⟨H1,I1,q1⟩
 |false=>exact hb wh pins s1 σ H1 Q I1 q1
theorem zqN(ha:PT X a tA):PT X (.UnaryOp .Not a pos) (zxC tA):=by
 intro pins s σ H Q I h
 exact isTrue_not (ha pins s σ H (fun c H1=>Q (!c) H1) I h)
noncomputable def zu2(ta tb:TE):TE:=fun σ H Q=>ta σ H fun x H1=>∃c,x= .bl c/\if c=true then tb σ H1 Q else Q (.bl false) H1
noncomputable def zu3(ta:TE):TE:=fun σ H Q=>ta σ H fun x H1=>∃c,x= .bl c/\Q (.bl (!c)) H1
theorem zqO{op}{t:TE}(h:PE X a t):PE X (.BoolOp op [a] pos) t:=fun pins s σ H Q I hw=>BoolOp_one (h pins s σ H Q I hw)
theorem zqP(ha:PE X a ta)(hb:PE X (.BoolOp .And (b::zck) pos) tb):PE X (.BoolOp .And (a::b::zck) pos) (zu2 ta tb):=by
 intro pins s σ H Q I h
 refine BoolOp_and (thn (ha pins s σ H _ I h) fun v s1 ⟨x,H1,I1,r1,q1⟩=>?_)
 obtain⟨c,rfl,q1⟩:=q1
 cases r1
 refine wpAny_truthy_bool ?_
 cases c with
 |true=>exact hb pins s1 σ H1 Q I1 q1
 |false=>exact⟨.bl false,H1,I1,rfl,q1⟩
theorem zqQ(ha:PE X a ta):PE X (.UnaryOp .Not a pos) (zu3 ta):=by
 intro pins s σ H Q I h
 refine UnaryOp_ (thn (ha pins s σ H _ I h) fun v s1 ⟨x,H1,I1,r1,q1⟩=>?_)
 obtain⟨c,rfl,q1⟩:=q1
 cases r1
 exact not_of (wpAny_truthy_bool ⟨.bl (!c),H1,I1,rfl,q1⟩)
noncomputable def tIf(t:TT)(ta tb:TE):TE:=fun σ H Q=>t σ H fun c H1=>if c=true then ta σ H1 Q else tb σ H1 Q
theorem zm2{c:Expr}(hc:PT X c tA)(ha:PE X a ta)(hb:PE X b tb):PE X (.IfExp c a b pos) (tIf tA ta tb):=by
 intro pins s σ H Q I h
 refine wpAny_IfExp (thn (hc pins s σ H _ I h) fun d s1 ⟨H1,I1,q1⟩=>?_)
 cases d with
 |true=>exact ha pins s1 σ H1 Q I1 q1
 |false=>exact hb pins s1 σ H1 Q I1 q1
end
end L2
namespace L2
open PySem PySem.Spec PyProof.Rows
noncomputable def SqL(K:PySem.W.Frag)(H:Hp)(a:Addr)(xs:List V):Prop:=
 Rd H a (.lst xs)\/
  ∃(o:Obj) (its:Array Value) (n:Nat),K.lookup a=some o/\o.cls= .type "list"/\o.dict=none/\o.data= .seq its n/\its.size<=sizeLine/\Vals xs its.toList
noncomputable def SqT(K:PySem.W.Frag)(H:Hp)(a:Addr)(xs:List V):Prop:=
 Rd H a (.tup xs)\/
  ∃(o:Obj) (its:Array Value) (n:Nat),K.lookup a=some o/\o.cls= .type "tuple"/\o.data= .seq its n/\its.size<=sizeLine/\Vals xs its.toList
noncomputable def zxD:Value->Option V
 | .none=>some .non
 | .bool b=>some (.bl b)
 | .int i _=>some (.int i)
 | .str x _=>some (.str x)
 | .bytes b _=>some (.byt b)
 | .float b _=>some (.flt b)
 | .ref a=>some (.ref a)
 | .type n=>some (.ty n)
 |_=>none
theorem RelV.abs{x:V}{u:Value}(r:RelV x u):zxD u=some x:=by
 cases x with
 |non=>cases r;rfl
 |bl _=>cases r;rfl
 |int _=>obtain⟨t,rfl⟩:=r;rfl
 |str _=>obtain⟨t,rfl⟩:=r;rfl
 |byt _=>obtain⟨t,rfl⟩:=r;rfl
 |flt _=>obtain⟨t,rfl⟩:=r;rfl
 |ref _=>cases r;rfl
 |ty _=>cases r;rfl
theorem RelV.inj{x y:V}{u:Value}(r:RelV x u)(q:RelV y u):x=y:=Option.some.inj (r.abs.symm.trans q.abs)
theorem Vals.inj: ∀{xs ys:List V} {us:List Value},Vals xs us->Vals ys us->xs=ys
 |_,_,_,.nil,.nil=>rfl
 |_,_,_,.cons r t,.cons r' t'=>by rw[r.inj r',Vals.inj t t']
section
variable {X:Cx} {pins:List (Addr×Obj)} {σ:St} {H:Hp} {s:Shared} {a:Addr} {xs ys:List V}
theorem SqL.of{K:PySem.W.Frag}(h:H a=some (.lst xs)):SqL K H a xs:=.inl (.inl h)
theorem SqT.of{K:PySem.W.Frag}(h:H a=some (.tup xs)):SqT K H a xs:=.inl (.inl h)
theorem Inv.list(I:Inv X pins σ H s)(h:SqL X.K H a xs): ∃its:List Value,Vals xs its/\PlainL s.heap a its.toArray/\xs.length<=sizeLine:=by
 rcases h with h|⟨o,its,n,hk,hc,hd,hs,hz,r⟩
 ·obtain⟨z,its,n,r,e⟩:=h.ok I.hok
  exact⟨its,r,⟨_,n,e,rfl,rfl,rfl⟩,z⟩
 ·refine⟨its.toList,r,⟨o,n,I.kIn a o hk,hc,hd,by simpa using hs⟩,?_⟩
  have e:=r.length
  simp only[Array.length_toList] at e
  omega
theorem Inv.tuple(I:Inv X pins σ H s)(h:SqT X.K H a xs): ∃its:List Value,Vals xs its/\IsTup s.heap a its.toArray/\xs.length<=sizeLine:=by
 rcases h with h|⟨o,its,n,hk,hc,hs,hz,r⟩
 ·obtain⟨z,its,r,p⟩:=h.ok I.hok
  exact⟨its,r,p,z⟩
 ·refine⟨its.toList,r,⟨o,I.kIn a o hk,hc,n,by simpa using hs⟩,?_⟩
  have e:=r.length
  simp only[Array.length_toList] at e
  omega
theorem Inv.list_inj(I:Inv X pins σ H s)(h:SqL X.K H a xs)(h':SqL X.K H a ys):xs=ys:=by
 obtain⟨its,r,⟨o,n,e,_,_,d⟩,_⟩:=I.list h
 obtain⟨its',r',⟨o',n',e',_,_,d'⟩,_⟩:=I.list h'
 rw[e] at e';cases e'
 rw[d] at d'
 injection d' with d1 _
 have:its=its':=by simpa using congrArg Array.toList d1
 subst this
 exact r.inj r'
theorem Inv.tuple_inj(I:Inv X pins σ H s)(h:SqT X.K H a xs)(h':SqT X.K H a ys):xs=ys:=by
 obtain⟨its,r,⟨o,e,_,n,d⟩,_⟩:=I.tuple h
 obtain⟨its',r',⟨o',e',_,n',d'⟩,_⟩:=I.tuple h'
 rw[e] at e';cases e'
 rw[d] at d'
 injection d' with d1 _
 have:its=its':=by simpa using congrArg Array.toList d1
 subst this
 exact r.inj r'
end
noncomputable abbrev Cx.wish(X:Cx)(E:Value->Shared->Prop):Cx:={ X with xe:=E }
noncomputable abbrev Cx.nox(X:Cx):Cx:=X.wish fun _ _=>False
theorem Cx.Ok.wish{X:Cx}(ok:X.Ok)(E:Value->Shared->Prop):(X.wish E).Ok:=
 ⟨ok.mod,ok.kind,ok.glob,ok.blt,ok.above,ok.inj,ok.has,ok.cab,ok.hd,ok.frames,ok.stk,ok.exf,ok.bs,ok.bsz,ok.noex,ok.exfs,ok.funs,ok.frf⟩
theorem Cx.Ok.unwish{X:Cx}{E:Value->Shared->Prop}(ok:(X.wish E).Ok):X.Ok:=
 ⟨ok.mod,ok.kind,ok.glob,ok.blt,ok.above,ok.inj,ok.has,ok.cab,ok.hd,ok.frames,ok.stk,ok.exf,ok.bs,ok.bsz,ok.noex,ok.exfs,ok.funs,ok.frf⟩
section
variable {X:Cx} {pins:List (Addr×Obj)} {σ:St} {H:Hp} {s:Shared} {E:Value->Shared->Prop}
theorem Inv.wish(I:Inv X pins σ H s)(E:Value->Shared->Prop):Inv (X.wish E) pins σ H s:=⟨I.ok.wish E,I.os,I.bare,I.base,I.loc,I.cell,I.free,I.freeC,I.pin,I.hok,I.len⟩
theorem Inv.unwish(I:Inv (X.wish E) pins σ H s):Inv X pins σ H s:=⟨I.ok.unwish,I.os,I.bare,I.base,I.loc,I.cell,I.free,I.freeC,I.pin,I.hok,I.len⟩
theorem SP.unwish{D:Ends}{f:Flow}{s':Shared}(h:SP (X.wish E) pins D f s'):SP X pins D f s':=by
 cases f with
 |next=>obtain⟨σ',H',I,q⟩:=h;exact⟨σ',H',I.unwish,q⟩
 |brk=>obtain⟨σ',H',I,q⟩:=h;exact⟨σ',H',I.unwish,q⟩
 |cont=>obtain⟨σ',H',I,q⟩:=h;exact⟨σ',H',I.unwish,q⟩
 |ret u=>obtain⟨v,σ',H',I,r,q⟩:=h;exact⟨v,σ',H',I.unwish,r,q⟩
theorem PE.nox{e:Expr}{t:TE}(h:PE X.nox e t):PE X e t:=fun pins s σ H Q I hw=>
 wpAny_mono (h pins s σ H Q (I.wish _) hw) (fun _ _ ⟨v,H',I',r,q⟩=>⟨v,H',I'.unwish,r,q⟩) fun _ _ z=>False.elim z
theorem PT.nox{e:Expr}{t:TT}(h:PT X.nox e t):PT X e t:=fun pins s σ H Q I hw=>
 wpAny_mono (h pins s σ H Q (I.wish _) hw) (fun _ _ ⟨H',I',q⟩=>⟨H',I'.unwish,q⟩) fun _ _ z=>False.elim z
theorem PSs.nox{st:List Stmt}{t:TS}(h:PSs X.nox st t):PSs X st t:=fun pins s σ H D I hw=>
 wpAny_mono (h pins s σ H D (I.wish _) hw) (fun _ _ q=>q.unwish) fun _ _ z=>False.elim z
end
section
variable {X:Cx} {st:Stmt} {zck:List Stmt} {t u:TS} {e:Expr} {te:TE} {pos:Pos}
noncomputable def zu4:TS:=fun D σ H=>D.nx σ H
noncomputable def zxE(t u:TS):TS:=fun D σ H=>t { D with nx:=u D } σ H
theorem zoS:PSs X [] zu4:=fun _ _ σ H _ I h=>wpAny_execs_nil ⟨σ,H,I,h⟩
theorem zm3(h1:PS X st t)(h2:PSs X zck u):PSs X (st::zck) (zxE t u):=by
 intro pins s σ H D I h
 refine wpAny_execs_cons (thn (h1 pins s σ H { D with nx:=u D } I h) fun f s1 q=>?_)
 cases f with
 |next=>
  obtain⟨σ',H',I',q⟩:=q
  exact h2 pins s1 σ' H' D I' q
 |ret v=>exact q
 |brk=>exact q
 |cont=>exact q
theorem Inv.quiet{pins:List (Addr×Obj)}{σ:St}{H:Hp}{s:Shared}(I:Inv X pins σ H s):interactive X.env=false:=by simp[interactive,I.ok.kind]
noncomputable def zu5(te:TE):TS:=fun D σ H=>te σ H fun _ H1=>D.nx σ H1
theorem zkQ(he:PE X e te)(hs:swapsWith e none pos.line X.env=pure false:=by rfl):PS X (.Expr e pos) (zu5 te):=by
 intro pins s σ H D I h
 exact wpAny_Expr_any (thn (he pins s σ H _ I h) fun v s1 ⟨x,H1,I1,r1,q1⟩=>⟨σ,H1,I1,q1⟩) I.quiet hs
noncomputable def zxF(te:TE):TS:=fun D σ H=>te σ H D.rt
theorem zoj(he:PE X e te):PS X (.Return (some e) pos) (zxF te):=by
 intro pins s σ H D I h
 exact wpAny_Return_some (thn (he pins s σ H _ I h) fun v s1 ⟨x,H1,I1,r1,q1⟩=>⟨x,σ,H1,I1,r1,q1⟩)
noncomputable def zxG(c:TT)(t u:TS):TS:=fun D σ H=>c σ H fun b H1=>if b=true then t D σ H1 else u D σ H1
theorem zu6{c:Expr}{a b:List Stmt}{tc:TT}(hc:PT X c tc)(ha:PSs X a t)(hb:PSs X b u):PS X (.If c a b pos) (zxG tc t u):=by
 intro pins s σ H D I h
 refine wpAny_If (thn (hc pins s σ H _ I h) fun d s1 ⟨H1,I1,q1⟩=>?_)
 cases d with
 |true=>exact ha pins s1 σ H1 D I1 q1
 |false=>exact hb pins s1 σ H1 D I1 q1
noncomputable def zqR:TS:=fun _ _ _=>False
theorem zm4:PS X st zqR:=fun _ _ _ _ _ _ h=>h.elim
end
noncomputable abbrev TG:=V->St->Hp->(St->Hp->Prop)->Prop
noncomputable def PG(X:Cx)(target:Expr)(t:TG):Prop:=
 ∀(pins:List (Addr×Obj)) (s:Shared) (σ:St) (H:Hp) (v:V) (u:Value) (Q:St->Hp->Prop),Inv X pins σ H s->RelV v u->t v σ H Q->
  wpAny (model X.prog X.w) X.A (assign target X.env u) (fun _ s'=>∃σ' H',Inv X pins σ' H' s'/\Q σ' H') X.xe s
section
variable {X:Cx} {pos:Pos}
noncomputable def zoT(i:Nat):TG:=fun v σ H Q=>Q (σ.set i (some v)) H
theorem ziw{i:Nat}{x:Str}(hN:X.N.Nodup)(hi:X.N[i]? =some x)(hx:Loc X.env.scope x)(hf:X.fn x=true\/X.env.scope.names.lookup x=some .local:=by first|exact .inl rfl|exact .inr rfl|assumption):PG X (.Name x pos) (zoT i):=by
 intro pins s σ H v u Q I r h
 exact wpAny_assign_Name (zjg I hN hi hx r (fun s' I'=>⟨_,H,I',h⟩) hf)
noncomputable def zxH(te:TE)(g:TG):TS:=fun D σ H=>te σ H fun x H1=>g x σ H1 D.nx
theorem zok{i:Nat}{x:Str}{e:Expr}{te:TE}{pos':Pos}(hN:X.N.Nodup)(hi:X.N[i]? =some x)(hx:Loc X.env.scope x)(he:PE X e te)(hs:swapsWith e (some (.Name x pos')) pos.line X.env=pure false:=by rfl)(hf:X.fn x=true\/X.env.scope.names.lookup x=some .local:=by first|exact .inl rfl|exact .inr rfl|assumption):
  PS X (.Assign [.Name x pos'] e pos) (zxH te (zoT i)):=by
 intro pins s σ H D I h
 refine wpAny_Assign_Name (thn (he pins s σ H _ I h) fun v s1 ⟨y,H1,I1,r1,q1⟩=>?_) hs
 exact zjg I1 hN hi hx r1 (fun s2 I2=>⟨_,H1,I2,q1⟩) hf
end
section
variable {X:Cx} {pos:Pos}
noncomputable def zqS(c:TT)(tb:TS):TS:=fun D σ H=>∃W:Nat->St->Hp->Prop,(∃m,W m σ H)/\∀m σ H,W m σ H->
 c σ H fun b H1=>if b=true then ∃N:St->Hp->Prop,(∀σ' H',N σ' H'->∃m',m'<m/\W m' σ' H')/\tb { D with nx:=N,ct:=N,bk:=D.nx } σ H1 else D.nx σ H1
theorem zm5{c:Expr}{body:List Stmt}{tc:TT}{tb:TS}(hp:PassesOwn (model X.prog X.w) X.A X.env X.xe)(hc:PT X c tc)(hb:PSs X body tb):PS X (.While c body [] pos) (zqS tc tb):=by
 intro pins s σ H D I h
 obtain⟨W,⟨m0,w0⟩,turn⟩:=h
 refine wpAny_While (codeAny_whileLoop (fun n s'=>∃σ' H',Inv X pins σ' H' s'/\W n σ' H') ?_ m0 ⟨σ,H,I,w0⟩)
 rintro n s1 ⟨σ1,H1,I1,w1⟩
 refine wpAny_passesOwn hp (thn (hc pins s1 σ1 H1 _ I1 (turn n σ1 H1 w1)) fun b s2 ⟨H2,I2,q2⟩=>?_)
 cases b with
 |true=>
  obtain⟨N,hN,q2⟩:=q2
  rw[if_pos rfl]
  refine wpAny_passesOwn hp (thn (hb pins s2 σ1 H2 _ I2 q2) fun f s3 q3=>?_)
  cases f with
  |next=>
   obtain⟨σ3,H3,I3,n3⟩:=q3
   obtain⟨m',hm,w3⟩:=hN σ3 H3 n3
   exact⟨m',hm,σ3,H3,I3,w3⟩
  |cont=>
   obtain⟨σ3,H3,I3,n3⟩:=q3
   obtain⟨m',hm,w3⟩:=hN σ3 H3 n3
   exact⟨m',hm,σ3,H3,I3,w3⟩
  |brk=>exact q3
  |ret v=>exact q3
 |false=>
  rw[if_neg Bool.false_ne_true]
  exact wpAny_execs_nil ⟨σ1,H2,I2,q2⟩
end
structure It where
 go:Nat->Hp->Prop
 yld:Nat->Hp->V->Hp->Prop
 stop:Nat->Hp->Prop
noncomputable def zkG(X:Cx)(pins:List (Addr×Obj))(H:Hp)(b:Addr):Prop:=
 H b=none/\b≠X.env.locals/\b∉X.fs/\(b∈X.ex\/X.s₀.heap.objs.size<=b)/\(∀x c,X.env.cells.lookup x=some c->c≠b)/\∀p∈X.pn++pins,p.1≠b
theorem Inv.fpOk{X:Cx}{pins:List (Addr×Obj)}{σ:St}{H H':Hp}{s:Shared}{b:Addr}(I:Inv X pins σ H s)(hb:s.heap.objs.size<=b)(hn:H' b=none):zkG X pins H' b:=by
 refine⟨hn,Nat.ne_of_gt (Nat.lt_of_lt_of_le I.lt hb),I.nofs hb,.inr (Nat.le_trans I.sz hb),fun x c e z=>?_,fun p hp z=>?_⟩
 ·obtain⟨v,q⟩:=I.cell x c e
  exact absurd (Nat.lt_of_lt_of_le q.lt (by rw[z];exact hb)) (Nat.lt_irrefl _)
 ·exact absurd (Nat.lt_of_lt_of_le (Heap.lt_size (I.pin p hp).1) (by rw[z];exact hb)) (Nat.lt_irrefl _)
structure Turn (P:Program)(w:World)(K:PySem.W.Frag)(tg:Expr)(J:It)(fp:List Addr)(it:Addr)(tn:Nat->Heap->Prop):Prop where
 mem:it∈fp
 obj: ∀i h,tn i h->∀b∈fp,∃o,h.get? b=some o/\∀v,o.data≠ .cell v
 keep: ∀i h h',tn i h->(∀b∈fp,∀o,h.get? b=some o->h'.get? b=some o)->tn i h'
 item: ∀(X:Cx),X.prog=P->X.w=w->X.K=K->X.calm=true->∀(i:Nat) (pins:List (Addr×Obj)) (s:Shared) (σ:St) (H:Hp) (E:Value->Shared->Prop),Inv X pins σ H s->(∀b∈fp,zkG X pins H b)->tn i s.heap->J.go i H->
  wpAny (model P w) X.A (pyNext (.ref it)) (fun r s1=>∃u,r=some u/\
   wpAny (model P w) X.A (letOwnedTupleGo tg (.ref it) u) (fun _ s2=>∃x H',Inv X pins σ H' s2/\RelV x u/\J.yld i H x H'/\tn (i+1) s2.heap/\∀b∈fp,H' b=none) E s1) E s
 done: ∀(X:Cx),X.prog=P->X.w=w->X.K=K->X.calm=true->∀(i:Nat) (pins:List (Addr×Obj)) (s:Shared) (σ:St) (H:Hp) (E:Value->Shared->Prop),Inv X pins σ H s->(∀b∈fp,zkG X pins H b)->tn i s.heap->J.stop i H->
  wpAny (model P w) X.A (pyNext (.ref it)) (fun r s1=>r=none/\Inv X pins σ H s1) E s
 self: ∀(A:Around) (i:Nat) (s:Shared) (Q:Value->Shared->Prop) (E:Value->Shared->Prop),tn i s.heap->Q (.ref it) s->wpAny (model P w) A (pyIter (.ref it)) Q E s
noncomputable abbrev TI:=St->Hp->(It->Hp->Prop)->Prop
noncomputable def PIE(X:Cx)(pins:List (Addr×Obj))(σ:St)(tg:Expr)(R:It->Hp->Prop)(itv:Value)(s2:Shared):Prop:=
 ∃(it:Addr) (fp:List Addr) (tn:Nat->Heap->Prop) (J:It) (H':Hp),itv= .ref it/\Inv X pins σ H' s2/\Turn X.prog X.w X.K tg J fp it tn/\tn 0 s2.heap/\(∀b∈fp,zkG X pins H' b)/\R J H'
noncomputable def PI(X:Cx)(tg iter:Expr)(wi:TI):Prop:=
 ∀(pins:List (Addr×Obj)) (s:Shared) (σ:St) (H:Hp) (R:It->Hp->Prop),Inv X pins σ H s->wi σ H R->
  wpAny (model X.prog X.w) X.A (eval iter X.env) (fun v s1=>wpAny (model X.prog X.w) X.A (pyIter v) (PIE X pins σ tg R) X.xe s1) X.xe s
theorem zoU {M : Model} {A : Around} {E : Value → Shared → Prop} {s : Shared} {tg : Expr} {it : Addr} {u : Value} {o : Obj} {n : String} {vs : Array Value} {Q : Unit → Shared → Prop} (ho : s.heap.get? it = some o) (hc : o.cls = .type n) (hd : o.data = .fields vs)
    (hn : ["enumerate", "zip", "dict_itemiterator", "dict_reverseitemiterator", "odict_iterator", "itertools.zip_longest", "itertools.pairwise"].contains n = false) (hQ : Q () s) : wpAny M A (letOwnedTupleGo tg (.ref it) u) Q E s := by
  unfold letOwnedTupleGo
  cases tg <;> first
    | exact wpAny_pure hQ
    | (cases u <;> first
        | exact wpAny_pure hQ
        | (refine wpAny_bind (wpAny_load ho ?_)
           rw [hc, hd]
           show wpAny M A (if (["enumerate", "zip", "dict_itemiterator", "dict_reverseitemiterator", "odict_iterator", "itertools.zip_longest", "itertools.pairwise"].contains n && vs[0]? == some (rawInt _)) = true then _ else _) Q E s
           rw [if_neg (by intro h; rw [hn, Bool.false_and] at h; cases h)]
           exact wpAny_pure hQ))
noncomputable def Itl(K:PySem.W.Frag)(a:Addr):It:=
 ⟨fun i H=>∃xs x,SqL K H a xs/\xs[i]? =some x,fun i H x H'=>H'=H/\∀xs,SqL K H a xs->xs[i]? =some x,fun i H=>∃xs,SqL K H a xs/\xs.length<=i⟩
noncomputable def Itt(K:PySem.W.Frag)(a:Addr):It:=
 ⟨fun i H=>∃xs x,SqT K H a xs/\xs[i]? =some x,fun i H x H'=>H'=H/\∀xs,SqT K H a xs->xs[i]? =some x,fun i H=>∃xs,SqT K H a xs/\xs.length<=i⟩
noncomputable def Itr(lo:Int)(n:Nat):It:=⟨fun i _=>i<n,fun i H x H'=>H'=H/\x= .int (lo+i),fun i _=>n<=i⟩
theorem zkR{P:Program}{w:World}{K:PySem.W.Frag}{tg:Expr}(a it:Addr):Turn P w K tg (Itl K a) [it] it (fun i h=>h.IsListIter it a i) where
 mem:=by simp
 obj:=fun i h st b hb=>by
  have e:b=it:=by simpa using hb
  subst e
  obtain⟨o,e,c,d⟩:=st
  exact⟨o,e,fun v z=>by rw[d] at z;cases z⟩
 keep:=fun i h h' st k=>st.at fun o e=>k it (by simp) o e
 item:=by
  intro X hP hw hK hc i pins s σ H E I hf st hg
  subst hP hw hK
  obtain⟨xs,x,hq,hx⟩:=hg
  obtain⟨its,rv,p,hz⟩:=I.list hq
  obtain⟨u,hu,ru⟩:=rv.get hx
  obtain⟨f0,f1,f2,f3,f4,f5⟩:=hf it (by simp)
  refine wpAny_pyNext_list_item st p.isList (x:=u) (by simpa using hu) fun h' st' sb=>?_
  have I1:Inv X pins σ H { s with heap:=h' }:=I.turned (t':=s.toks) (fun b o hb e=>(sb.2 b hb).trans e) f0 f1 f3 f4 f5
  obtain⟨o,e,c,d⟩:=id st'
  exact⟨u,rfl,zoU (s:={ s with heap:=h' }) e c d (by decide) ⟨x,H,I1,ru,⟨rfl,fun ys hy=>by rw[I.list_inj hy hq];exact hx⟩,st',fun b hb=>(hf b hb).1⟩⟩
 done:=by
  intro X hP hw hK hc i pins s σ H E I hf st hg
  subst hP hw hK
  obtain⟨xs,hq,hx⟩:=hg
  obtain⟨its,rv,p,hz⟩:=I.list hq
  obtain⟨f0,f1,f2,f3,f4,f5⟩:=hf it (by simp)
  have hl:=rv.length
  exact wpAny_pyNext_list_end (I.ok.hd hc) st p.isList (by simp;omega) fun h' eb=>⟨rfl,I.turned (t':=s.toks) (fun b o hb e=>eb b o hb e) f0 f1 f3 f4 f5⟩
 self:=fun _ _ _ _ _ st h=>wpAny_pyIter_listiter st h
theorem zj5{P:Program}{w:World}{K:PySem.W.Frag}{tg:Expr}(a it:Addr):Turn P w K tg (Itt K a) [it] it (fun i h=>h.IsTupleIter it a i) where
 mem:=by simp
 obj:=fun i h st b hb=>by
  have e:b=it:=by simpa using hb
  subst e
  obtain⟨o,e,c,d⟩:=st
  exact⟨o,e,fun v z=>by rw[d] at z;cases z⟩
 keep:=fun i h h' st k=>st.at fun o e=>k it (by simp) o e
 item:=by
  intro X hP hw hK hc i pins s σ H E I hf st hg
  subst hP hw hK
  obtain⟨xs,x,hq,hx⟩:=hg
  obtain⟨its,rv,p,hz⟩:=I.tuple hq
  obtain⟨u,hu,ru⟩:=rv.get hx
  obtain⟨f0,f1,f2,f3,f4,f5⟩:=hf it (by simp)
  refine wpAny_pyNext_tuple_item st (show s.heap.IsTuple a its.toArray from p) (x:=u) (by simpa using hu) fun h' st' sb=>?_
  have I1:Inv X pins σ H { s with heap:=h' }:=I.turned (t':=s.toks) (fun b o hb e=>(sb.2 b hb).trans e) f0 f1 f3 f4 f5
  obtain⟨o,e,c,d⟩:=id st'
  exact⟨u,rfl,zoU (s:={ s with heap:=h' }) e c d (by decide) ⟨x,H,I1,ru,⟨rfl,fun ys hy=>by rw[I.tuple_inj hy hq];exact hx⟩,st',fun b hb=>(hf b hb).1⟩⟩
 done:=by
  intro X hP hw hK hc i pins s σ H E I hf st hg
  subst hP hw hK
  obtain⟨xs,hq,hx⟩:=hg
  obtain⟨its,rv,p,hz⟩:=I.tuple hq
  obtain⟨f0,f1,f2,f3,f4,f5⟩:=hf it (by simp)
  have hl:=rv.length
  exact wpAny_pyNext_tuple_end (I.ok.hd hc) st (show s.heap.IsTuple a its.toArray from p) (by simp;omega) fun h' eb=>⟨rfl,I.turned (t':=s.toks) (fun b o hb e=>eb b o hb e) f0 f1 f3 f4 f5⟩
 self:=fun _ _ _ _ _ st h=>wpAny_pyIter_tupleiter st h
theorem zj6{P:Program}{w:World}{K:PySem.W.Frag}{tg:Expr}(it:Addr)(lo:Int)(n:Nat):Turn P w K tg (Itr lo n) [it] it (fun i h=>IsRangeIter h it (lo+(i:Nat)*1) ((n:Int)-(i:Nat)) 1) where
 mem:=by simp
 obj:=fun i h st b hb=>by
  have e:b=it:=by simpa using hb
  subst e
  exact⟨_,st,fun v z=>by
   have z':Data.fields _=Data.cell v:=z
   cases z'⟩
 keep:=fun i h h' st k=>k it (by simp) _ st
 item:=by
  intro X hP hw hK hc i pins s σ H E I hf st hg
  subst hP hw hK
  obtain⟨f0,f1,f2,f3,f4,f5⟩:=hf it (by simp)
  have W:=Walks.range (prog:=X.prog) (w:=X.w) (I.ok.hd hc) it lo 1 n
  refine W.item i s _ _ hg st fun v h' tk hv st' kk=>?_
  obtain⟨t,rfl⟩:=hv
  have I1:Inv X pins σ H { s with heap:=h',toks:=tk }:=I.turned (fun b o hb e=>kk b o (by simpa using hb) e) f0 f1 f3 f4 f5
  refine⟨_,rfl,zoU (s:={ s with heap:=h',toks:=tk }) (n:="range_iterator") st' rfl rfl (by decide) ⟨.int (lo+i),H,I1,⟨t,?_⟩,⟨rfl,rfl⟩,st',fun b hb=>(hf b hb).1⟩⟩
  rw[Int.mul_one]
 done:=by
  intro X hP hw hK hc i pins s σ H E I hf st hg
  subst hP hw hK
  obtain⟨f0,f1,f2,f3,f4,f5⟩:=hf it (by simp)
  exact wpAny_pyNext_range_end (I.ok.hd hc) st (by have:n<=i:=hg;omega) fun h' eb=>⟨rfl,I.turned (t':=s.toks) (fun b o hb e=>eb b o hb e) f0 f1 f3 f4 f5⟩
 self:=fun _ _ _ _ _ st h=>wpAny_pyIter_rangeiter st h
end L2
namespace L2
open PySem PySem.Spec PyProof.Rows
section
variable {X:Cx} {tg:Expr}
theorem zji{pins:List (Addr×Obj)}{σ:St}{H:Hp}{s:Shared}{R:It->Hp->Prop}{E:Value->Shared->Prop}{lo hi:Int}{t u v:Tok}{tk:Nat}(I:Inv X pins σ H s)(h1: -(2 ^ 62)<=lo)(h2:lo<2 ^ 62)(h3: -(2 ^ 62)<=hi)(h4:hi<2 ^ 62)
  (q:R (Itr lo (hi-lo).toNat) H):wpAny (model X.prog X.w) X.A (pyIter (.ref s.heap.objs.size)) (PIE X pins σ tg R) E { s with heap:=s.heap.push { cls:=.type "range",data:=.fields #[.int lo t,.int hi u,.int 1 v] },toks:=tk }:=by
 refine wpAny_pyIter_range (IsRange.new ..) (small_one h1 h2 h3 h4) ?_
 have I1:Inv X pins σ H { s with heap:=s.heap.push { cls:=.type "range",data:=.fields #[.int lo t,.int hi u,.int 1 v] },toks:=tk }:=I.kept fun b o e=>Heap.get?_push_of_some _ e
 refine⟨(s.heap.push { cls:=.type "range",data:=.fields #[.int lo t,.int hi u,.int 1 v] }).objs.size,[(s.heap.push { cls:=.type "range",data:=.fields #[.int lo t,.int hi u,.int 1 v] }).objs.size],_,_,H,rfl,
  I1.kept (t':=tk) fun b o e=>Heap.get?_push_of_some _ e,zj6 _ lo (hi-lo).toNat,?_,fun b hb=>?_,q⟩
 ·have e1:lo+((0:Nat):Int)*1=lo:=by simp
  have e2:(((hi-lo).toNat:Nat):Int)-((0:Nat):Int)=Builtin.Range.rangeSize lo hi 1:=by rw[rangeSize_one];split<;>omega
  show IsRangeIter _ _ (lo+((0:Nat):Int)*1) ((((hi-lo).toNat:Nat):Int)-((0:Nat):Int)) 1
  rw[e1,e2]
  exact Heap.get?_push_size _ rfl
 ·have e:b=(s.heap.push { cls:=.type "range",data:=.fields #[.int lo t,.int hi u,.int 1 v] }).objs.size:=by simpa using hb
  subst e
  exact I1.fpOk (Nat.le_refl _) (I1.hok.fresh (Nat.le_refl _))
noncomputable def zu7(ta:TA):TI:=fun σ H R=>ta σ H fun vs H1=>∃j:Int,vs=[.int j]/\ -(2 ^ 62)<=j/\j<2 ^ 62/\R (Itr 0 j.toNat) H1
noncomputable def zu8(ta:TA):TI:=fun σ H R=>ta σ H fun vs H1=>∃i j:Int,vs=[.int i,.int j]/\(-(2 ^ 62)<=i/\i<2 ^ 62/\ -(2 ^ 62)<=j/\j<2 ^ 62)/\R (Itr i (j-i).toNat) H1
theorem zkS{a:Expr}{ta:TA}{p pos:Pos}(hg:Gl X "range")(hm:X.mg "range"=none)(ha:PA X [a] ta)(hs:starEach [a] X.env=[(false,eval a X.env)]:=by rfl):PI X tg (.Call (.Name "range" p) [a] [] pos) (zu7 ta):=by
 intro pins s σ H R I h
 refine Call_ (zhb I hg hm boot_range (PyProof.Rows.callWith_type1 (thn (ha pos pins s σ H _ I h) fun us s1 ⟨vs,H1,I1,r1,q1⟩=>?_) hs rfl))
 obtain⟨j,e,q1,q2,q⟩:=q1
 subst e
 cases r1 with
 |cons r rr=>
  cases rr
  obtain⟨t,rfl⟩:=r
  exact call_range_1 (zji I1 (by omega) (by omega) q1 q2 (by simpa using q))
theorem zkT{a b:Expr}{ta:TA}{p pos:Pos}(hg:Gl X "range")(hm:X.mg "range"=none)(ha:PA X [a,b] ta)(hs:starEach [a,b] X.env=[(false,eval a X.env),(false,eval b X.env)]:=by rfl)(hs2:starEach [b] X.env=[(false,eval b X.env)]:=by rfl):
  PI X tg (.Call (.Name "range" p) [a,b] [] pos) (zu8 ta):=by
 intro pins s σ H R I h
 refine Call_ (zhb I hg hm boot_range (PyProof.Rows.callWith_type1 (thn (ha pos pins s σ H _ I h) fun us s1 ⟨vs,H1,I1,r1,q1⟩=>?_) (by rw[hs,hs2]) (by rw[hs2];rfl)))
 obtain⟨i,j,e,⟨q1,q2,q3,q4⟩,q⟩:=q1
 subst e
 cases r1 with
 |cons r rr=>
  cases rr with
  |cons r' rr=>
   cases rr
   obtain⟨t,rfl⟩:=r
   obtain⟨t',rfl⟩:=r'
   exact call_range_2 (zji I1 q1 q2 q3 q4 q)
noncomputable def zxI(wi:TI)(g:TG)(tb:TS):TS:=fun D σ H=>wi σ H fun J H1=>∃W:Nat->Nat->St->Hp->Prop,(∃m,W 0 m σ H1)/\∀i m σ H,W i m σ H->
 (J.stop i H/\D.nx σ H)\/(J.go i H/\∃N:St->Hp->Prop,(∀σ' H',N σ' H'->∃m',m'<m/\W (i+1) m' σ' H')/\∀x H',J.yld i H x H'->g x σ H' fun σ2 H2=>tb { D with nx:=N,ct:=N,bk:=D.nx } σ2 H2)
noncomputable def zhc(fp:List Addr)(h:Heap):List (Addr×Obj):=fp.filterMap fun b=>(h.get? b).map fun o=>(b,o)
theorem zcM{fp:List Addr}{h:Heap}{b:Addr}{o:Obj}(hb:b∈fp)(e:h.get? b=some o):(b,o)∈zhc fp h:=List.mem_filterMap.mpr ⟨b,hb,by rw[e];rfl⟩
theorem zkU{fp:List Addr}{h:Heap}{p:Addr×Obj}(hp:p∈zhc fp h):p.1∈fp/\h.get? p.1=some p.2:=by
 obtain⟨b,hb,e⟩:=List.mem_filterMap.mp hp
 cases q:h.get? b with
 |none=>rw[q] at e;cases e
 |some o=>
  rw[q] at e
  have e':(b,o)=p:=Option.some.inj e
  subst e'
  exact⟨hb,q⟩
theorem Inv.pinned{pins:List (Addr×Obj)}{σ:St}{H:Hp}{s:Shared}{fp:List Addr}(I:Inv X pins σ H s)(hf: ∀b∈fp,zkG X pins H b)(ho: ∀b∈fp,∃o,s.heap.get? b=some o/\∀v,o.data≠ .cell v):Inv X (pins++zhc fp s.heap) σ H s:=
 I.pins_of fun p hp=>(List.mem_append.mp hp).elim (fun z=>I.pin p (List.mem_append_right _ z)) fun z=>by
  obtain⟨hb,e⟩:=zkU z
  obtain⟨f0,f1,f2,_⟩:=hf p.1 hb
  obtain⟨o,e',d⟩:=ho p.1 hb
  rw[e] at e';cases e'
  exact⟨e,f0,f1,f2,d⟩
theorem Inv.unpinned{pins pl:List (Addr×Obj)}{σ:St}{H:Hp}{s:Shared}(I:Inv X (pins++pl) σ H s):Inv X pins σ H s:=I.pins_of fun p hp=>I.pin p (List.mem_append_right _ (List.mem_append_left _ hp))
theorem zol{iter:Expr}{body:List Stmt}{wi:TI}{g:TG}{tb:TS}{pos:Pos}(hp:PassesOwn (model X.prog X.w) X.A X.env X.xe)(hc:X.calm=true)(hi:PI X tg iter wi)(hg:PG X tg g)(hb:PSs X body tb)
  (hs: ∀x,foldedSetIterable iter X.env x=pure x:=by intro _;rfl):PS X (.For tg iter body [] pos) (zxI wi g tb):=by
 intro pins s σ H D I h
 refine wpAny_For (thn (hi pins s σ H _ I h) fun v s1 h1=>thn h1 fun itv s2 h2=>?_) hs
 obtain⟨it,fp,tn,J,H2,e,I2,T,st2,f2,W,⟨m0,w0⟩,turn⟩:=h2
 subst e
 have stat: ∀{H':Hp},(∀b∈fp,H' b=none)->∀b∈fp,zkG X pins H' b:=fun hn b hb=>⟨hn b hb,(f2 b hb).2⟩
 refine codeAny_forLoop_any (fun n s'=>∃i σ' H',Inv X pins σ' H' s'/\tn i s'.heap/\(∀b∈fp,H' b=none)/\W i n σ' H') ?_ m0 ⟨0,σ,H2,I2,st2,fun b hb=>(f2 b hb).1,w0⟩
 rintro n s3 ⟨i,σ3,H3,I3,st3,fr3,w3⟩
 rcases turn i n σ3 H3 w3 with ⟨stop,qn⟩|⟨go,N,hN,step⟩
 ·refine wpAny_passesOwn hp (thn (T.done X rfl rfl rfl hc i pins s3 σ3 H3 X.xe I3 (stat fr3) st3 stop) fun r s4 ⟨hr,I4⟩=>?_)
  subst hr
  exact wpAny_execs_nil ⟨σ3,H3,I4,qn⟩
 ·refine wpAny_passesOwn hp (thn (T.item X rfl rfl rfl hc i pins s3 σ3 H3 X.xe I3 (stat fr3) st3 go) fun r s4 ⟨u,hr,h4⟩=>?_)
  subst hr
  refine wpAny_passesOwn hp (thn h4 fun _ s5 ⟨x,H5,I5,r5,y5,st5,fr5⟩=>?_)
  have I5':=I5.pinned (stat fr5) (T.obj _ _ st5)
  refine wpAny_passesOwn hp (thn (hg _ s5 σ3 H5 x u _ I5' r5 (step x H5 y5)) fun _ s6 ⟨σ6,H6,I6,q6⟩=>?_)
  refine wpAny_passesOwn hp (thn (hb _ s6 σ6 H6 _ I6 q6) fun f s7 q7=>?_)
  have again: ∀{σ7:St} {H7:Hp},Inv X (pins++zhc fp s5.heap) σ7 H7 s7->N σ7 H7->∃m,m<n/\∃i σ' H',Inv X pins σ' H' s7/\tn i s7.heap/\(∀b∈fp,H' b=none)/\W i m σ' H':=fun {σ7 H7} I7 n7=>by
   obtain⟨m',hm,w7⟩:=hN σ7 H7 n7
   refine⟨m',hm,i+1,σ7,H7,I7.unpinned,T.keep _ _ _ st5 fun b hb o e=>(I7.pin (b,o) (List.mem_append_right _ (List.mem_append_right _ (zcM hb e)))).1,fun b hb=>?_,w7⟩
   obtain⟨o,e,d⟩:=T.obj _ _ st5 b hb
   exact (I7.pin (b,o) (List.mem_append_right _ (List.mem_append_right _ (zcM hb e)))).2.1
  cases f with
  |next=>obtain⟨σ7,H7,I7,n7⟩:=q7;exact again I7 n7
  |cont=>obtain⟨σ7,H7,I7,n7⟩:=q7;exact again I7 n7
  |brk=>obtain⟨σ7,H7,I7,q7⟩:=q7;exact⟨σ7,H7,I7.unpinned,q7⟩
  |ret v=>obtain⟨x7,σ7,H7,I7,r7,q7⟩:=q7;exact⟨x7,σ7,H7,I7.unpinned,r7,q7⟩
end
end L2
namespace L2
open PySem PySem.Spec PyProof.Rows
noncomputable abbrev R2:=V->V->Hp->VK->Prop
noncomputable def OpR(X:Cx)(f:Value->Value->Sem Value)(r:R2):Prop:=
 ∀(pins:List (Addr×Obj)) (s:Shared) (σ:St) (H:Hp) (x y:V) (v u:Value) (Q:VK),Inv X pins σ H s->RelV x v->RelV y u->r x y H Q->
  wpAny (model X.prog X.w) X.A (f v u) (EP X pins σ Q) X.xe s
noncomputable def UnR(X:Cx)(f:Value->Sem Value)(r:V->Hp->VK->Prop):Prop:=
 ∀(pins:List (Addr×Obj)) (s:Shared) (σ:St) (H:Hp) (x:V) (v:Value) (Q:VK),Inv X pins σ H s->RelV x v->r x H Q->
  wpAny (model X.prog X.w) X.A (f v) (EP X pins σ Q) X.xe s
noncomputable def CallR(X:Cx)(f:Value)(r:List V->Hp->VK->Prop):Prop:=
 ∀(pins:List (Addr×Obj)) (s:Shared) (σ:St) (H:Hp) (xs:List V) (us:List Value) (Q:VK),Inv X pins σ H s->Vals xs us->r xs H Q->
  wpAny (model X.prog X.w) X.A (call f us) (EP X pins σ Q) X.xe s
noncomputable def zxJ(X:Cx)(r:V->Hp->(Bool->Hp->Prop)->Prop):Prop:=
 ∀(pins:List (Addr×Obj)) (s:Shared) (σ:St) (H:Hp) (x:V) (v:Value) (Q:Bool->Hp->Prop),Inv X pins σ H s->RelV x v->r x H Q->
  wpAny (model X.prog X.w) X.A (truthy v) (TP X pins σ Q) X.xe s
noncomputable def tOp(r:R2)(ta tb:TE):TE:=fun σ H Q=>ta σ H fun x H1=>tb σ H1 fun y H2=>r x y H2 Q
noncomputable def tUn(r:V->Hp->VK->Prop)(ta:TE):TE:=fun σ H Q=>ta σ H fun x H1=>r x H1 Q
noncomputable def rI(C:Int->Int->Prop)(g:Int->Int->V):R2:=fun x y H Q=>∃i j,x= .int i/\y= .int j/\C i j/\Q (g i j) H
noncomputable def rI0(g:Int->Int->V):R2:=fun x y H Q=>∃i j,x= .int i/\y= .int j/\Q (g i j) H
noncomputable def rU(g:Int->V):V->Hp->VK->Prop:=fun x H Q=>∃i,x= .int i/\Q (g i) H
section
variable {X:Cx} {a b c:Expr} {ta tb tc:TE} {pos:Pos}
theorem zu9(ha:PE X a ta)(hb:PE X b tb){pins:List (Addr×Obj)}{s:Shared}{σ:St}{H:Hp}{R:V->V->Hp->Prop}(I:Inv X pins σ H s)
  (h:ta σ H fun x H1=>tb σ H1 fun y H2=>R x y H2) {Q:Value->Shared->Prop} {f:Value->Value->Sem Value}
  (hf: ∀v u s2 x y H2,Inv X pins σ H2 s2->RelV x v->RelV y u->R x y H2->wpAny (model X.prog X.w) X.A (f v u) Q X.xe s2):
  wpAny (model X.prog X.w) X.A (eval a X.env) (fun v s₁=>wpAny (model X.prog X.w) X.A (eval b X.env) (fun u s₂=>wpAny (model X.prog X.w) X.A (f v u) Q X.xe s₂) X.xe s₁) X.xe s:=by
 refine thn (ha pins s σ H _ I h) fun v s1 ⟨x,H1,I1,r1,q1⟩=>?_
 refine thn (hb pins s1 σ H1 _ I1 q1) fun u s2 ⟨y,H2,I2,r2,q2⟩=>?_
 exact hf v u s2 x y H2 I2 r1 r2 q2
theorem zva{op:Operator}{r:R2}(ho:OpR X (binaryOp op) r)(ha:PE X a ta)(hb:PE X b tb):PE X (.BinOp a op b pos) (tOp r ta tb):=by
 intro pins s σ H Q I h
 exact wpAny_BinOp (zu9 ha hb I h fun v u s2 x y H2 I2 rx ry q=>ho pins s2 σ H2 x y v u Q I2 rx ry q)
theorem zvb{op:UnaryOp}{r:V->Hp->VK->Prop}(ho:UnR X (unaryOp op) r)(ha:PE X a ta):PE X (.UnaryOp op a pos) (tUn r ta):=by
 intro pins s σ H Q I h
 exact UnaryOp_ (thn (ha pins s σ H _ I h) fun v s1 ⟨x,H1,I1,r1,q1⟩=>ho pins s1 σ H1 x v Q I1 r1 q1)
theorem opI{f:Value->Value->Sem Value}{C:Int->Int->Prop}{g:Int->Int->Int}
  (rule: ∀(i j:Int) (t u:Tok) (s:Shared) (Q:Value->Shared->Prop) (E:Value->Shared->Prop),C i j->Q (.int (g i j) s.toks) { s with toks:=s.toks+1 }->wpAny (model X.prog X.w) X.A (f (.int i t) (.int j u)) Q E s):
  OpR X f (rI C fun i j=>.int (g i j)):=by
 intro pins s σ H x y v u Q I rx ry h
 obtain⟨i,j,rfl,rfl,hc,q⟩:=h
 obtain⟨t,rfl⟩:=rx
 obtain⟨t',rfl⟩:=ry
 exact rule i j t t' s _ _ hc ⟨.int (g i j),H,I.tok _,⟨_,rfl⟩,q⟩
theorem zwW{f:Value->Value->Sem Value}{g:Int->Int->Int}
  (rule: ∀(i j:Int) (t u:Tok) (s:Shared) (Q:Value->Shared->Prop) (E:Value->Shared->Prop),Q (.int (g i j) s.toks) { s with toks:=s.toks+1 }->wpAny (model X.prog X.w) X.A (f (.int i t) (.int j u)) Q E s):
  OpR X f (rI0 fun i j=>.int (g i j)):=by
 intro pins s σ H x y v u Q I rx ry h
 obtain⟨i,j,rfl,rfl,q⟩:=h
 obtain⟨t,rfl⟩:=rx
 obtain⟨t',rfl⟩:=ry
 exact rule i j t t' s _ _ ⟨.int (g i j),H,I.tok _,⟨_,rfl⟩,q⟩
theorem zvc{f:Value->Value->Sem Value}{g:Int->Int->Bool}
  (rule: ∀(i j:Int) (t u:Tok) (s:Shared) (Q:Value->Shared->Prop) (E:Value->Shared->Prop),Q (.bool (g i j)) s->wpAny (model X.prog X.w) X.A (f (.int i t) (.int j u)) Q E s):
  OpR X f (rI0 fun i j=>.bl (g i j)):=by
 intro pins s σ H x y v u Q I rx ry h
 obtain⟨i,j,rfl,rfl,q⟩:=h
 obtain⟨t,rfl⟩:=rx
 obtain⟨t',rfl⟩:=ry
 exact rule i j t t' s _ _ ⟨.bl (g i j),H,I,rfl,q⟩
noncomputable def CMul(i j:Int):Prop:=(-(2 ^ 64)<i/\i<2 ^ 64)\/(-(2 ^ 64)<j/\j<2 ^ 64)
theorem CMul.ok{i j:Int}(h:CMul i j):IntMulOk i j:=by
 rcases h with ⟨h1,h2⟩|⟨h1,h2⟩
 ·exact .of_left (intBits_le_64 h1 h2)
 ·exact .of_right (intBits_le_64 h1 h2)
theorem zqT:OpR X (binaryOp .Add) (rI0 fun i j=>.int (i+j)):=zwW fun _ _ _ _ _ _ _ q=>add_int q
theorem zqU:OpR X (binaryOp .Sub) (rI0 fun i j=>.int (i-j)):=zwW fun _ _ _ _ _ _ _ q=>sub_int q
theorem zqV:OpR X (binaryOp .Mult) (rI CMul fun i j=>.int (i*j)):=opI fun _ _ _ _ _ _ _ hc q=>mul_int q hc.ok
theorem zqW:OpR X (binaryOp .Mod) (rI (fun _ j=>0<j) fun i j=>.int (i%j)):=opI fun i j _ _ _ _ _ hc q=>by
 have h1:(0:Int)<j:=hc
 exact mod_int' (by omega) (by rw[Int.fmod_eq_emod_of_nonneg i (by omega)];exact q)
theorem unI{f:Value->Sem Value}{g:Int->Int}
  (rule: ∀(i:Int) (t:Tok) (s:Shared) (Q:Value->Shared->Prop) (E:Value->Shared->Prop),Q (.int (g i) s.toks) { s with toks:=s.toks+1 }->wpAny (model X.prog X.w) X.A (f (.int i t)) Q E s):
  UnR X f (rU fun i=>.int (g i)):=by
 intro pins s σ H x v Q I rx h
 obtain⟨i,rfl,q⟩:=h
 obtain⟨t,rfl⟩:=rx
 exact rule i t s _ _ ⟨.int (g i),H,I.tok _,⟨_,rfl⟩,q⟩
theorem zqX:UnR X (unaryOp .USub) (rU fun i=>.int (-i)):=unI fun _ _ _ _ _ q=>neg_int q
end
section
variable {X:Cx} {a b c:Expr} {ta tb tc:TE} {pos:Pos}
theorem zvd:OpR X (compareOp .Lt) (rI0 fun i j=>.bl (decide (i<j))):=zvc fun _ _ _ _ _ _ _ q=>lt_int q
theorem zve:OpR X (compareOp .LtE) (rI0 fun i j=>.bl (decide (i<=j))):=zvc fun _ _ _ _ _ _ _ q=>le_int q
theorem zvf:OpR X (compareOp .Gt) (rI0 fun i j=>.bl (decide (j<i))):=zvc fun _ _ _ _ _ _ _ q=>gt_int q
theorem OpR.or{f:Value->Value->Sem Value}{r r':R2}(h:OpR X f r)(h':OpR X f r'):OpR X f (fun x y H Q=>r x y H Q\/r' x y H Q):=by
 intro pins s σ H x y v u Q I rx ry q
 rcases q with q|q
 ·exact h pins s σ H x y v u Q I rx ry q
 ·exact h' pins s σ H x y v u Q I rx ry q
theorem zbY(b:Expr){op:CmpOp}(h:op≠ .In:=by decide)(h2:op≠ .NotIn:=by decide):behindInMarks op b=false:=by
 have e1:(op==CmpOp.In)=false:=by cases op<;>first|rfl|exact absurd rfl h
 have e2:(op==CmpOp.NotIn)=false:=by cases op<;>first|rfl|exact absurd rfl h2
 cases b<;>simp[behindInMarks,e1,e2]
theorem zoV{op:CmpOp}{r:R2}(ho:OpR X (compareOp op) r)(ha:PE X a ta)(hb:PE X b tb)(hm:behindInMarks op b=false):PE X (.Compare a [op] [b] pos) (tOp r ta tb):=by
 intro pins s σ H Q I h
 exact wpAny_Compare1 (zu9 ha hb I h fun v u s2 x y H2 I2 rx ry q=>ho pins s2 σ H2 x y v u Q I2 rx ry q) hm
noncomputable def zqY(t:TE):TT:=fun σ H Q=>t σ H fun x H'=>∃k,x= .bl k/\Q k H'
theorem zoW{op:CmpOp}{r:R2}(ho:OpR X (compareOp op) r)(ha:PE X a ta)(hb:PE X b tb)(hm:behindInMarks op b=false):PT X (.Compare a [op] [b] pos) (zqY (tOp r ta tb)):=by
 intro pins s σ H Q I h
 refine wpAny_isTrue_Compare1 (thn (ha pins s σ H _ I h) fun v s1 ⟨x,H1,I1,r1,q1⟩=>thn (hb pins s1 σ H1 _ I1 q1) fun u s2 ⟨y,H2,I2,r2,q2⟩=>
  thn (ho pins s2 σ H2 x y v u _ I2 r1 r2 q2) fun c s3 ⟨z,H3,I3,r3,k,e,q3⟩=>?_) hm
 subst e
 cases r3
 exact wpAny_truthy_bool ⟨H3,I3,q3⟩
noncomputable def zom(r r':R2)(ta tb tc:TE):TE:=fun σ H Q=>ta σ H fun x H1=>tb σ H1 fun y H2=>r x y H2 fun z H3=>∃k,z= .bl k/\
 (if k=true then tc σ H3 fun w' H4=>r' y w' H4 Q else Q (.bl false) H3)
theorem zm6{op op':CmpOp}{r r':R2}(ho:OpR X (compareOp op) r)(ho':OpR X (compareOp op') r')(ha:PE X a ta)(hb:PE X b tb)(hc:PE X c tc)
  (hm:lastMarks [op,op'] [b,c]=false:=by with_unfolding_all rfl):PE X (.Compare a [op,op'] [b,c] pos) (zom r r' ta tb tc):=by
 intro pins s σ H Q I h
 refine Compare_chain (thn (ha pins s σ H _ I h) fun v s1 ⟨x,H1,I1,r1,q1⟩=>chain_link (thn (hb pins s1 σ H1 _ I1 q1) fun u s2 ⟨y,H2,I2,r2,q2⟩=>
  thn (ho pins s2 σ H2 x y v u _ I2 r1 r2 q2) fun d s3 ⟨z,H3,I3,r3,k,e,q3⟩=>?_)) hm
 subst e
 cases r3
 refine wpAny_truthy_bool ?_
 cases k with
 |false=>exact ite_ff ⟨.bl false,H3,I3,rfl,q3⟩
 |true=>exact ite_tt (chain_last (thn (hc pins s3 σ H3 _ I3 q3) fun w' s4 ⟨z',H4,I4,r4,q4⟩=>ho' pins s4 σ H4 y z' u w' Q I4 r2 r4 q4))
theorem zm7{op op':CmpOp}{r r':R2}(ho:OpR X (compareOp op) r)(ho':OpR X (compareOp op') r')(ha:PE X a ta)(hb:PE X b tb)(hc:PE X c tc)
  (hm:lastMarks [op,op'] [b,c]=false:=by with_unfolding_all rfl):PT X (.Compare a [op,op'] [b,c] pos) (zqY (zom r r' ta tb tc)):=by
 intro pins s σ H Q I h
 refine isTrue_chain (thn (ha pins s σ H _ I h) fun v s1 ⟨x,H1,I1,r1,q1⟩=>test_link (thn (hb pins s1 σ H1 _ I1 q1) fun u s2 ⟨y,H2,I2,r2,q2⟩=>
  thn (ho pins s2 σ H2 x y v u _ I2 r1 r2 q2) fun d s3 ⟨z,H3,I3,r3,k,e,q3⟩=>?_)) hm
 subst e
 cases r3
 refine wpAny_truthy_bool ?_
 cases k with
 |false=>
  obtain⟨k',e',q'⟩:=q3
  cases e'
  exact ite_ff ⟨H3,I3,q'⟩
 |true=>
  refine ite_tt (test_last (thn (hc pins s3 σ H3 _ I3 q3) fun w' s4 ⟨z',H4,I4,r4,q4⟩=>thn (ho' pins s4 σ H4 y z' u w' _ I4 r2 r4 q4) fun d' s5 ⟨z2,H5,I5,r5,k2,e2,q5⟩=>?_))
  subst e2
  cases r5
  exact wpAny_truthy_bool ⟨H5,I5,q5⟩
noncomputable def zvg(K:PySem.W.Frag)(x:V)(H:Hp)(k:Bool):Prop:=
 match x with
 | .non=>k=false
 | .bl b=>k=b
 | .int i=>k=(i != 0)
 | .str y=>y.length<=sizeLine/\k=((y.length:Int) != 0)
 | .byt y=>y.size<=sizeLine/\k=((y.size:Int) != 0)
 | .ref p=>(∃xs,SqL K H p xs/\k= !xs.isEmpty)\/(∃xs,SqT K H p xs/\k= !xs.isEmpty)\/∃kvs,H p=some (.dK kvs)/\k= !kvs.isEmpty
 |_=>False
theorem zj7{κ:Type}{kvs:List (κ×V)}{vs:List (κ×Value)}(r:KV kvs vs):(!vs.isEmpty)= !kvs.isEmpty:=by
 cases r<;>rfl
theorem zfB{xs:List V}{its:List Value}(r:Vals xs its):(!its.toArray.isEmpty)= !xs.isEmpty:=by
 cases r<;>simp
theorem zjj:(sizeLine:Nat)<2 ^ 63:=by rw[sizeLine_eq];decide
theorem zqZ:zxJ X (fun x H Q=>∃k,zvg X.K x H k/\Q k H):=by
 intro pins s σ H x v Q I rx h
 obtain⟨k,e,q⟩:=h
 have hl:=zjj
 have hs:sizeLine=16777216:=sizeLine_eq
 cases x with
 |non=>
  cases rx
  have e':k=false:=e
  subst e'
  exact truthy_none ⟨H,I,q⟩
 |bl b=>
  cases rx
  have e':k=b:=e
  subst e'
  exact wpAny_truthy_bool ⟨H,I,q⟩
 |int i=>
  obtain⟨t,rfl⟩:=rx
  have e':k=(i != 0):=e
  subst e'
  exact PySem.P.truthy_int ⟨H,I,q⟩
 |str y=>
  obtain⟨t,rfl⟩:=rx
  obtain⟨hy,e'⟩:y.length<=sizeLine/\k=((y.length:Int) != 0):=e
  subst e'
  exact PySem.P.truthy_str (by omega) ⟨H,I.tok _,q⟩
 |byt y=>
  obtain⟨t,rfl⟩:=rx
  obtain⟨hy,e'⟩:y.size<=sizeLine/\k=((y.size:Int) != 0):=e
  subst e'
  exact PySem.W.truthy_bytes (by omega) ⟨H,I.tok _,q⟩
 |ref p=>
  cases rx
  have e':(∃xs,SqL X.K H p xs/\k= !xs.isEmpty)\/(∃xs,SqT X.K H p xs/\k= !xs.isEmpty)\/∃kvs,H p=some (.dK kvs)/\k= !kvs.isEmpty:=e
  rcases e' with ⟨xs,hx,e'⟩|⟨xs,hx,e'⟩|⟨kvs,hx,e'⟩
  ·subst e'
   obtain⟨its,r,pl,hz⟩:=I.list hx
   have hlen:=r.length
   exact wpAny_truthy_list pl.isList (by simp only[List.size_toArray];omega) ⟨H,I.tok _,by rw[zfB r];exact q⟩
  ·subst e'
   obtain⟨its,r,pl,hz⟩:=I.tuple hx
   have hlen:=r.length
   exact truthy_tuple pl (by simp only[List.size_toArray];omega) ⟨H,I.tok _,by rw[zfB r];exact q⟩
  ·subst e'
   obtain⟨hz,hS,vs,r,m⟩:kvs.length<=sizeLine/\(p==sysModules)=false/\∃vs,KV kvs vs/\s.heap.DictOf (zaS X.prog X.w) p vs:=I.hok p _ hx
   have hlen:kvs.length=vs.length:=Paired.length r
   exact wpAny_truthy_dict hS m (by omega) ⟨H,I.tok _,by rw[zj7 r];exact q⟩
 |_=>exact (show False from e).elim
theorem zm8(ha:PE X a ta)(he: ∀whole,isTrue a X.env whole=(do let v <-whole;standAt a.pos;holding [v] (truthy v))):
  PT X a (fun σ H Q=>ta σ H fun x H'=>∃k,zvg X.K x H' k/\Q k H'):=by
 intro pins s σ H Q I h
 exact isTrue_plain (thn (ha pins s σ H _ I h) fun v s1 ⟨x,H1,I1,r1,q1⟩=>zqZ pins s1 σ H1 x v Q I1 r1 q1) (he _)
theorem zhd{x:V}{us:List Value}(r:Vals [x] us): ∃u,us=[u]/\RelV x u:=by
 cases r with
 |cons r1 r2=>cases r2;exact⟨_,rfl,r1⟩
theorem zoX{x y:V}{us:List Value}(r:Vals [x,y] us): ∃u w',us=[u,w']/\RelV x u/\RelV y w':=by
 cases r with
 |cons r1 r2=>
  cases r2 with
  |cons r3 r4=>cases r4;exact⟨_,_,rfl,r1,r3⟩
theorem zm9:CallR X (.builtin "abs") (fun xs H Q=>∃i,xs=[.int i]/\Q (.int (if i<0 then -i else i)) H):=by
 intro pins s σ H xs us Q I r h
 obtain⟨i,rfl,q⟩:=h
 obtain⟨u,rfl,t,rfl⟩:=zhd r
 exact call_abs_int fun u tk=>⟨.int (if i<0 then -i else i),H,I.tok _,⟨_,rfl⟩,q⟩
theorem zkV(hc:X.calm=true):CallR X (.builtin "max") (fun xs H Q=>∃i j,xs=[.int i,.int j]/\Q (.int (if j>i then j else i)) H):=by
 intro pins s σ H xs us Q I r h
 obtain⟨i,j,rfl,q⟩:=h
 obtain⟨u,w',rfl,⟨t,rfl⟩,⟨t',rfl⟩⟩:=zoX r
 refine max_two_ints (I.ok.hd hc) fun h' tk k=>⟨_,H,I.kept k,?_,q⟩
 by_cases hj:j>i
 ·rw[if_pos hj,if_pos hj];exact⟨_,rfl⟩
 ·rw[if_neg hj,if_neg hj];exact⟨_,rfl⟩
theorem zkW(hc:X.calm=true):CallR X (.builtin "min") (fun xs H Q=>∃i j,xs=[.int i,.int j]/\Q (.int (if j<i then j else i)) H):=by
 intro pins s σ H xs us Q I r h
 obtain⟨i,j,rfl,q⟩:=h
 obtain⟨u,w',rfl,⟨t,rfl⟩,⟨t',rfl⟩⟩:=zoX r
 refine min_two_ints (I.ok.hd hc) fun h' tk k=>⟨_,H,I.kept k,?_,q⟩
 by_cases hj:j<i
 ·rw[if_pos hj,if_pos hj];exact⟨_,rfl⟩
 ·rw[if_neg hj,if_neg hj];exact⟨_,rfl⟩
end
end L2
namespace L2
open PySem PySem.Spec PyProof.Rows
structure ObjM (h:Heap)(x dx C:Addr)(mA:Str->Option Value):Prop where
 obj:h.get? x=some (PySem.W.instObj C dx)
 ns:h.Ns1 dx mA
 ne:dx≠x
theorem zkX{h:Heap}{dx:Addr}{mA:Str->Option Value}(n:h.Ns1 dx mA): ∃od,h.get? dx=some od/\∀name,PySem.W.lookIn name od=some (mA name):=by
 obtain⟨o,es,ep,ho,hd,hk,_,hm⟩:=n
 refine⟨o,ho,fun name=>?_⟩
 have e:=hm name
 unfold nsFind findBy at e
 rw[<-Array.find?_toList] at e
 unfold PySem.W.lookIn
 rw[hd]
 dsimp only
 split
 ·rename_i y q
  rw[q] at e
  exact congrArg some e
 ·rename_i q
  rw[q] at e
  have a:es.toList.any (·.refKey)=false:=by
   rw[List.any_eq_false]
   intro y hy
   obtain⟨z,t,hkey⟩:=hk y (Array.mem_toList_iff.mp hy)
   simp[DictEntry.refKey,hkey]
  have a': ¬es.toList.any (·.refKey)=true:=by rw[a];exact Bool.false_ne_true
  rw[if_neg a']
  exact congrArg some e
theorem ObjM.look{h:Heap}{x dx C:Addr}{mA:Str->Option Value}(I:ObjM h x dx C mA): ∃od,PySem.W.InstAt h x (PySem.W.instObj C dx) C (some od)/\∀name,PySem.W.lookIn name od=some (mA name):=
 let ⟨od,ho,hl⟩:=zkX I.ns
 ⟨od,⟨I.obj,rfl,rfl,ho⟩,hl⟩
theorem RelO.some_of{v:V}{o:Option Value}(r:RelO (some v) o): ∃u,o=some u/\RelV v u:=by
 cases o with
 |none=>exact (show False from r).elim
 |some u=>exact⟨u,rfl,r⟩
section
variable {P:Program} {w:World} {H H':Hp} {h h':Heap} {a C dx:Addr} {fs fs':List (Str×V)}
theorem ins_get(hok:HOk P w H h)(e:H a=some (.ins C dx fs)): ∃mA,ObjM h a dx C mA/\(∀f,RelO (fs.lookup f) (mA f))/\PySem.Within mA (fs.map (·.1))/\fs.length<=1000/\H dx=some (.own a):=by
 obtain⟨d,z,ne,ob,mA,n,r,q⟩:=(show ObjOk P w H h a (.ins C dx fs) from hok a _ e)
 exact⟨mA,⟨ob,n,ne⟩,r,q,z,d⟩
end
structure Cls (K:PySem.W.Frag)(C:Addr):Prop where
 pg:PySem.W.plainGet K C Str.empty=true
 hd:PySem.W.hasDictIn K C=true
 po:PySem.W.plainOver K C=true
 sa:PySem.W.findIn K (.ref C) "__setattr__"=some (some (.builtin "object.__setattr__"))
theorem Cls.get{K:PySem.W.Frag}{C:Addr}(c:Cls K C)(f:Str):PySem.W.plainGet K C f=true:=c.pg
section
variable {X:Cx} {pins:List (Addr×Obj)} {σ:St} {H:Hp} {s:Shared} {a C dx:Addr} {fs:List (Str×V)} {f:Str} {v:V} {A:Around} {E:Value->Shared->Prop}
theorem Inv.made(I:Inv X pins σ H s):Inv X pins σ (upd (upd H s.heap.objs.size (.own (s.heap.objs.size+1))) (s.heap.objs.size+1) (.ins C s.heap.objs.size []))
  { s with heap:=(s.heap.push PySem.W.emptyDict).push (PySem.W.instObj C s.heap.objs.size) }:=by
 have e1:(s.heap.push PySem.W.emptyDict).get? s.heap.objs.size=some PySem.W.emptyDict:=Heap.get?_push_size s.heap rfl
 have e2:((s.heap.push PySem.W.emptyDict).push (PySem.W.instObj C s.heap.objs.size)).get? (s.heap.objs.size+1)=some (PySem.W.instObj C s.heap.objs.size):=by
  have:=Heap.get?_push_size (s.heap.push PySem.W.emptyDict) (o:=PySem.W.instObj C s.heap.objs.size) rfl
  rwa [Heap.size_push] at this
 have e3:(s.heap.push PySem.W.emptyDict).Ns s.heap.objs.size (fun _=>none):=⟨PySem.W.emptyDict, #[],_,e1,rfl,(fun e he=>absurd he (by simp)),fun _=>rfl⟩
 have I1:=I.laid (a:=s.heap.objs.size) (o:=.own (s.heap.objs.size+1)) (h':=s.heap.push PySem.W.emptyDict) (t':=s.toks) (fun b u q=>Heap.get?_push_of_some _ q) (Nat.le_refl _) ⟨_,e1⟩
 refine I1.laid (a:=s.heap.objs.size+1) (o:=.ins C s.heap.objs.size []) (t':=s.toks) (fun b u q=>Heap.get?_push_of_some _ q) (Nat.le_of_eq (Heap.size_push _ _)) ?_
 have ne:s.heap.objs.size≠s.heap.objs.size+1:=Nat.ne_of_lt (Nat.lt_succ_self _)
 refine⟨by rw[zaN ne,za8],Nat.zero_le _,ne,e2,fun _=>none,(Heap.Ns1.of_empty e3).at fun o q=>Heap.get?_push_of_some _ q,fun _=>True.intro,fun y hy=>absurd rfl hy⟩
end
end L2
namespace L2
open PySem PySem.Spec PyProof.Rows
structure Room (k:Nat)(A:Around):Prop where
 hd:A.handled=none
 dp:A.depth+3*k+5<recursionLimit
 un:A.units+16*k+200<cLine
theorem Room.mono{j k:Nat}{A:Around}(r:Room k A)(h:j<=k):Room j A:=⟨r.hd,by have:=r.dp;omega,by have:=r.un;omega⟩
theorem Room.deeper{k:Nat}{A:Around}(r:Room (k+1) A)(env:Env):Room k (A.deeper env):=
 ⟨r.hd,by have:=r.dp;show A.depth+1+3*k+5<_;omega,by have:=r.un;show A.units+3+16*k+200<_;omega⟩
theorem Room.in1{k:Nat}{A:Around}(r:Room (k+1) A):Room k A.in1:=
 ⟨r.hd,by have:=r.dp;show A.depth+3*k+5<_;omega,by have:=r.un;show A.units+1+16*k+200<_;omega⟩
theorem Room.depth{k:Nat}{A:Around}(r:Room k A):A.depth<recursionLimit:=by have:=r.dp;omega
theorem Room.units{k:Nat}{A:Around}(r:Room k A):A.units+64<cLine:=by have:=r.un;omega
noncomputable def zxK:TA:=fun _ H Q=>Q [] H
noncomputable def zvh(ta:TE)(tr:TA):TA:=fun σ H Q=>ta σ H fun x H1=>tr σ H1 fun xs H2=>Q (x::xs) H2
section
variable {X:Cx} {e:Expr} {es:List Expr} {te:TE} {t:TA} {pos:Pos}
theorem zhe:PA X [] zxK:=fun _ _ _ _ H Q I h=>Calls.spliced_nil ⟨[],H,I,.nil,h⟩
theorem zd5(ha:PE X e te)(hr:PA X es t)(hs:starEach (e::es) X.env=(false,eval e X.env)::starEach es X.env:=by rfl):PA X (e::es) (zvh te t):=by
 intro pos pins s σ H Q I h
 rw[hs]
 show wpAny _ _ (spliced ((false,eval e X.env)::backTo pos (starEach es X.env))) _ _ s
 refine Calls.spliced_cons (thn (ha pins s σ H _ I h) fun u s1 ⟨x,H1,I1,r1,q1⟩=>?_)
 exact thn (hr pos pins s1 σ H1 _ I1 q1) fun us s2 ⟨xs,H2,I2,r2,q2⟩=>⟨x::xs,H2,I2,.cons r1 r2,q2⟩
noncomputable def zxL(t:TA):TE:=fun σ H Q=>t σ H fun xs H1=>xs.length<=sizeLine/\∀p,H1 p=none->Q (.ref p) (upd H1 p (.tup xs))
noncomputable def zxM(t:TA):TE:=fun σ H Q=>t σ H fun xs H1=>xs.length<=sizeLine/\∀p,H1 p=none->Q (.ref p) (upd H1 p (.lst xs))
theorem zq0{x1}(h:PA X es t):PE X (.Tuple es x1 pos) (zxL t):=by
 intro pins s σ H Q I hq
 refine wpAny_Tuple_spliced (thn (h pos pins s σ H _ I hq) fun us s1 ⟨xs,H1,I1,r,z,q⟩=>⟨by rw[<-r.length];exact z,?_⟩)
 have hf:H1 s1.heap.objs.size=none:=I1.hok.fresh (Nat.le_refl _)
 refine⟨.ref s1.heap.objs.size,upd H1 s1.heap.objs.size (.tup xs),I1.laid (t':=s1.toks) (fun b u e=>Heap.get?_push_of_some _ e) (Nat.le_refl _) ?_,rfl,q _ hf⟩
 exact⟨z,us,r,⟨_,Heap.get?_push_size _ rfl,rfl,_,rfl⟩⟩
theorem zq1(h:PA X es t):PE X (.List es pos) (zxM t):=by
 intro pins s σ H Q I hq
 refine wpAny_List_spliced (thn (h pos pins s σ H _ I hq) fun us s1 ⟨xs,H1,I1,r,z,q⟩=>⟨by rw[<-r.length];exact z,?_⟩)
 have hf:H1 s1.heap.objs.size=none:=I1.hok.fresh (Nat.le_refl _)
 refine⟨.ref s1.heap.objs.size,upd H1 s1.heap.objs.size (.lst xs),I1.laid (t':=s1.toks) (fun b u e=>Heap.get?_push_of_some _ e) (Nat.le_refl _) ?_,rfl,q _ hf⟩
 exact⟨z,us,0,r,Heap.get?_push_size _ rfl⟩
end
noncomputable abbrev Sp:=List V->Hp->VK->XK->Prop
noncomputable abbrev CXT:=List Env->Hp->Shared->XK->Value->Shared->Prop
structure Env0 (P:Program)(w:World)(K:PySem.W.Frag)(mg:Str->Option Value)(base:Heap)(A:Around)(outer:List Env)(s:Shared)(H:Hp):Prop where
 frames:A.frames=some outer
 mod:Mod K mg base
 bs: ∀b o,base.get? b=some o->s.heap.get? b=some o/\H b=none
 bsz:base.objs.size<=s.heap.objs.size
 funs:s.heap.FunFrames base outer
 frf: ∀b∈frs outer,H b=none
 hok:HOk P w H s.heap
 bare:AllBare s.gens
noncomputable def CE(outer:List Env)(P:Program)(w:World)(H:Hp)(s:Shared)(Q:VK)(u:Value)(s':Shared):Prop:=
 ∃v H',s'.os=s.os/\AllBare s'.gens/\Un (frs outer) [] H H' s.heap s'.heap/\HOk P w H' s'.heap/\RelV v u/\Q v H'
noncomputable def CR(CX:CXT)(outer:List Env)(P:Program)(w:World)(H:Hp)(s:Shared)(Q:VK)(E:XK)(r:Result)(s':Shared):Prop:=
 match r with
 | .ok (.ret u)=>CE outer P w H s Q u s'
 | .ok _=>False
 | .error e=>CX outer H s E e s'
structure FnOk (P:Program)(w:World)(K:PySem.W.Frag)(mg:Str->Option Value)(base:Heap)(CX:CXT)(k:Nat)(f:Addr)(fd:FuncData)(ps:List Str)(sp:Sp):Prop where
 len: ∀vs H Q E,sp vs H Q E->vs.length=ps.length
 run: ∀(A:Around) (outer:List Env) (s:Shared) (H:Hp) (args:Args) (us:List Value) (vs:List V) (Q:VK) (E:XK),Room k A->Env0 P w K mg base A outer s H->BindsTo s fd args (ps.zip us)->Vals vs us->sp vs H Q E->
  codeAny (model P w) A (.call (.ref f) args) (CR CX outer P w H s Q E) s
theorem FnOk.mono{P:Program}{w:World}{K:PySem.W.Frag}{mg:Str->Option Value}{base:Heap}{CX:CXT}{j k:Nat}{f:Addr}{fd:FuncData}{ps:List Str}{sp:Sp}(F:FnOk P w K mg base CX j f fd ps sp)(h:j<=k):
  FnOk P w K mg base CX k f fd ps sp:=⟨F.len,fun A outer s H args us vs Q E hr=>F.run A outer s H args us vs Q E (hr.mono h)⟩
theorem FnOk.imp{P:Program}{w:World}{K:PySem.W.Frag}{mg:Str->Option Value}{base:Heap}{CX:CXT}{k:Nat}{f:Addr}{fd:FuncData}{ps:List Str}{sp sp':Sp}(F:FnOk P w K mg base CX k f fd ps sp)
  (h: ∀vs H Q E,sp' vs H Q E->sp vs H Q E):FnOk P w K mg base CX k f fd ps sp':=
 ⟨fun vs H Q E q=>F.len vs H Q E (h _ _ _ _ q),fun A outer s H args us vs Q E hr he hb hv hs=>F.run A outer s H args us vs Q E hr he hb hv (h _ _ _ _ hs)⟩
theorem Env0.in1{P:Program}{w:World}{K:PySem.W.Frag}{mg:Str->Option Value}{base:Heap}{A:Around}{outer:List Env}{s:Shared}{H:Hp}(e:Env0 P w K mg base A outer s H):
  Env0 P w K mg base A.in1 outer s H:=⟨e.frames,e.mod,e.bs,e.bsz,e.funs,e.frf,e.hok,e.bare⟩
section
variable {X:Cx} {pins:List (Addr×Obj)} {σ:St} {H:Hp} {s s':Shared}
theorem Inv.env0(I:Inv X pins σ H s):Env0 X.prog X.w X.K X.mg X.base X.A X.stack s H:=
 ⟨I.ok.frames,I.ok.mod,I.bs,Nat.le_trans I.ok.bsz I.sz,I.stack,I.stkFree,I.hok,I.bare⟩
theorem Inv.after{Q:VK}{u:Value}(I:Inv X pins σ H s)(h:CE X.stack X.prog X.w H s Q u s'):EP X pins σ Q u s':=by
 obtain⟨v,H',os,bare,un,hok,r,q⟩:=h
 obtain⟨hh,g,d,t,os'⟩:=s'
 obtain rfl:os'=s.os:=os
 exact⟨v,H',I.call (h':=hh) (g':=g) (d':=d) (t':=t) (ch:=[]) un hok bare (fun b z=>absurd z (by simp)),r,q⟩
end
noncomputable def zvi(sp:Sp)(dvs:List V)(E:XK)(t:TA):TE:=fun σ H Q=>t σ H fun vs H1=>sp (vs++dvs) H1 Q E
noncomputable def Binds(K:PySem.W.Frag)(fd:FuncData)(ps:List Str)(ds:List Value):Prop:=
 ∀(s:Shared) (us:List Value),K.In s.heap->(us++ds).length=ps.length->BindsTo s fd ⟨us,[]⟩ (ps.zip (us++ds))
theorem Binds.all{K:PySem.W.Frag}{fd:FuncData}{ps:List Str}(h: ∀us:List Value,us.length=ps.length->bindArgs fd ⟨us,[]⟩=pure (ps.zip us)):Binds K fd ps []:=fun s us _ hl=>by
 rw[List.append_nil] at hl⊢
 exact .of_eq (h us hl)
noncomputable def zkY(CX:CXT)(X:Cx)(E:XK):Prop:=∀(pins:List (Addr×Obj)) (σ:St) (H:Hp) (s:Shared) (e:Value) (s':Shared),Inv X pins σ H s->CX X.stack H s E e s'->X.xe e s'
section
variable {X:Cx} {CX:CXT} {k:Nat} {f C:Addr} {fd:FuncData} {ps:List Str} {sp:Sp} {dvs:List V} {ds:List Value} {E:XK} {x m:Str} {p pos apos:Pos} {e o:Expr} {es:List Expr} {ta:TE} {t:TA}
theorem zq2{pins:List (Addr×Obj)}{σ:St}{H:Hp}{s:Shared}{Q:VK}{us:List Value}{vs:List V}(F:FnOk X.prog X.w X.K X.mg X.base CX k f fd ps sp)(hr:Room k X.A)(hb:Binds X.K fd ps ds)(hd:Vals dvs ds)(hx:zkY CX X E)
  (I:Inv X pins σ H s) (r:Vals vs us) (h:sp (vs++dvs) H Q E):wpAny (model X.prog X.w) X.A (call (.ref f) us) (EP X pins σ Q) X.xe s:=by
 have r2:Vals (vs++dvs) (us++ds):=r.append hd
 have hl:(us++ds).length=ps.length:=by rw[<-r2.length];exact F.len _ _ _ _ h
 refine wpAny_call (codeAny_mono (F.run X.A X.stack s H ⟨us,[]⟩ (us++ds) (vs++dvs) Q E hr I.env0 (hb s us I.kIn hl) r2 h) fun r s' hq=>?_)
 cases r with
 |error e=>exact hx pins σ H s e s' I hq
 |ok fl=>
  cases fl with
  |ret u=>exact I.after hq
  |next=>exact False.elim hq
  |brk=>exact False.elim hq
  |cont=>exact False.elim hq
theorem zoY(F:FnOk X.prog X.w X.K X.mg X.base CX k f fd ps sp)(hr:Room k X.A)(hg:Gl X x)(hm:X.mg x=some (.ref f))(hk:PySem.W.keepIn X.K (.ref f)=true)(hb:Binds X.K fd ps ds)(hd:Vals dvs ds)(hx:zkY CX X E)
  (ha:PA X (e::es) t) (hdb:(x==("__debug__":Str))=false:=by decide) (he:starEach (e::es) X.env=(false,eval e X.env)::starEach es X.env:=by rfl) (hpl:(backTo pos (starEach es X.env)).any (·.1)=false:=by rfl):
  PE X (.Call (.Name x p) (e::es) [] pos) (zvi sp dvs E t):=by
 intro pins s σ H Q I h
 refine wpAny_Call_Name_kw (zkP I hg hm ?_ hdb)
 refine PySem.W.callWith_K (h₀:=X.base) I.ok.mod.kin hk (thn (ha pos pins s σ H _ I h) fun us s1 ⟨vs,H1,I1,r,q⟩=>⟨I1.kIn,?_⟩) he hpl
 exact zq2 F hr hb hd hx I1 r q
end
structure FnScope (N P:List Str)(sc:Scope):Prop where
 kind:sc.kind= .function
 co:sc.isCoroutine=false
 gen:sc.isGenerator=false
 nd:N.Nodup
 pre:N.take P.length=P
 par: ∀x∈P,sc.names.lookup x=some .local\/sc.names.lookup x=some .cell
 nofree: ∀y∈sc.names,y.2≠ .free
theorem zhf{kindOf:Str->Option NameKind}{x:Str}: ∀{binds:List (Str×Value)} {m:Str->Option Value},(∀v,(x,v)∉binds)->bindL kindOf binds m x=m x
 |[],_,_=>rfl
 |(n,v)::r,m,h=>by
  unfold bindL
  rw[zhf fun w hw=>h w (List.mem_cons_of_mem _ hw)]
  split
  ·have:x≠n:=by rintro rfl;exact h v List.mem_cons_self
   simp[this]
  ·rfl
theorem zhg{kindOf:Str->Option NameKind}{x:Str}: ∀{binds:List (Str×Value)} {m:Str->Option Value},(∀v,(x,v)∉binds)->bindC kindOf binds m x=m x
 |[],_,_=>rfl
 |(n,v)::r,m,h=>by
  unfold bindC
  rw[zhg fun w hw=>h w (List.mem_cons_of_mem _ hw)]
  split
  ·rfl
  ·have:x≠n:=by rintro rfl;exact h v List.mem_cons_self
   simp[this]
theorem zhh{kindOf:Str->Option NameKind}{x:Str}{v:Value}: ∀{P:List Str} {vs:List Value} {i:Nat} {m:Str->Option Value},P.Nodup->P[i]? =some x->vs[i]? =some v->kindOf x=some .local->
  bindL kindOf (P.zip vs) m x=some v
 |[],_,_,_,_,h,_,_=>by simp at h
 |_::_,[],_,_,_,_,h,_=>by simp at h
 |p::P,w::vs,0,m,nd,h1,h2,hk=>by
  simp at h1 h2;subst h1;subst h2
  show bindL kindOf ((p,w)::P.zip vs) m p=_
  unfold bindL
  rw[zhf fun v hv=>(List.nodup_cons.mp nd).1 (List.of_mem_zip hv).1,if_pos hk]
  simp
 |p::P,w::vs,i+1,m,nd,h1,h2,hk=>by
  show bindL kindOf ((p,w)::P.zip vs) m x=_
  unfold bindL
  exact zhh (i:=i) (List.nodup_cons.mp nd).2 (by simpa using h1) (by simpa using h2) hk
theorem zhi{kindOf:Str->Option NameKind}{x:Str}{v:Value}: ∀{P:List Str} {vs:List Value} {i:Nat} {m:Str->Option Value},P.Nodup->P[i]? =some x->vs[i]? =some v->kindOf x≠some .local->
  bindC kindOf (P.zip vs) m x=some v
 |[],_,_,_,_,h,_,_=>by simp at h
 |_::_,[],_,_,_,_,h,_=>by simp at h
 |p::P,w::vs,0,m,nd,h1,h2,hk=>by
  simp at h1 h2;subst h1;subst h2
  show bindC kindOf ((p,w)::P.zip vs) m p=_
  unfold bindC
  rw[zhg fun v hv=>(List.nodup_cons.mp nd).1 (List.of_mem_zip hv).1,if_neg hk]
  simp
 |p::P,w::vs,i+1,m,nd,h1,h2,hk=>by
  show bindC kindOf ((p,w)::P.zip vs) m x=_
  unfold bindC
  exact zhi (i:=i) (List.nodup_cons.mp nd).2 (by simpa using h1) (by simpa using h2) hk
noncomputable def zdn(N:List Str)(vs:List V):St:=vs.map some++List.replicate (N.length-vs.length) none
noncomputable def zc8(CX:CXT)(P:Program)(w:World)(K:PySem.W.Frag)(mg:Str->Option Value)(base:Heap)(N:List Str)(qual:Str)(scope:Scope)(f:Addr)(cd:Value)(A:Around)(outer:List Env)(s:Shared)(H:Hp)(E:XK):Cx where
 prog:=P
 w:=w
 K:=K
 mg:=mg
 base:=base
 A:=A.deeper (envOfC qual scope s.heap.objs.size f cd)
 N:=N
 s₀:=s
 H₀:=H
 env:=envOfC qual scope s.heap.objs.size f cd
 outer:=outer
 stack:=envOfC qual scope s.heap.objs.size f cd::outer
 ex:=[]
 calm:=true
 fn:=fun _=>true
 pn:=[]
 xe:=fun e s'=>wpAny (model P w) (A.deeper (envOfC qual scope s.heap.objs.size f cd)) (leaving (envOfC qual scope s.heap.objs.size f cd) e) (fun _ s''=>CX outer H s E e s'') (fun e' s''=>CX outer H s E e' s'') s'
theorem zjk{sc:Scope}{n:Nat}{x:Str}(h:sc.names.lookup x=some .cell): ∃c,(cellsFrom n sc.names []).lookup x=some c:=by
 have q:=PySem.W.cellsFrom_some sc.names n [] (.inl h)
 exact Option.isSome_iff_exists.mp q
theorem zkZ{CX:CXT}{P:Program}{w:World}{K:PySem.W.Frag}{mg:Str->Option Value}{base:Heap}{N ps:List Str}{qual:Str}{scope:Scope}{f:Addr}{cd:Value}{A:Around}{outer:List Env}{s s1:Shared}{H:Hp}{E:XK}{us:List Value}{vs:List V}
  (S:FnScope N ps scope) (hd:A.handled=none) (e0:Env0 P w K mg base A outer s H) (hl:vs.length=ps.length) (r:Vals vs us)
  (x:InCallC s s.heap.objs.size (bindL (envOfC qual scope s.heap.objs.size f cd).kindOf (ps.zip us) fun _=>none) (cellsFrom (s.heap.objs.size+1) scope.names []) (bindC (envOfC qual scope s.heap.objs.size f cd).kindOf (ps.zip us) fun _=>none) s1):
  Inv (zc8 CX P w K mg base N qual scope f cd A outer s H E) [] (zdn N vs) H s1:=by
 have hpl:ps.length<=N.length:=by have:=congrArg List.length S.pre;rw[List.length_take] at this;omega
 obtain⟨h1,tk,rfl,hk⟩:=x.done
 have noA: ∀b:Addr,b∉(zc8 CX P w K mg base N qual scope f cd A outer s H E).ex:=fun b z=>absurd (show b∈([]:List Addr) from z) (by simp)
 refine⟨⟨e0.mod,S.kind,rfl,rfl,Nat.le_refl _,fun y z c h1 h2=>?_,fun y hy=>?_,fun y c _ h=>?_,fun _=>hd,Around.frames_deeper e0.frames,.inr ⟨rfl,rfl⟩,fun b z=>absurd z (noA b),e0.bs,e0.bsz,fun b _ _=>noA b,fun b z=>absurd z (noA b),e0.funs,e0.frf⟩,
  rfl,e0.bare,Un.kept hk,⟨_,x.toInCall.ns,fun i y v h1 h2 h3=>?_⟩,fun y c h=>⟨_,x.cell y c h⟩,e0.hok.fresh (Nat.le_refl _),fun y c h=>?_,fun p hp=>absurd (show p∈([]:List (Addr×Obj)) from hp) (by simp),e0.hok.kept hk,?_⟩
 ·exact name_of_addr x.apart (PySem.mem_of_lookup h1) (PySem.mem_of_lookup h2)
 ·have hy:scope.names.lookup y=some .cell\/scope.names.lookup y=some .free:=hy
  rcases hy with hy|hy
  ·exact zjk hy
  ·exact absurd rfl (S.nofree _ (PySem.mem_of_lookup hy))
 ·exact Nat.le_of_lt (x.above y c (PySem.mem_of_lookup h))
 ·have hi:i<vs.length:=by
   unfold zdn at h2
   by_cases hi:i<vs.length
   ·exact hi
   ·rw[List.getElem?_append_right (by simpa using hi)] at h2
    rw[List.getElem?_replicate] at h2
    split at h2<;>cases h2
  have ha:vs[i]? =some v:=by
   unfold zdn at h2
   rw[List.getElem?_append_left (by simpa using hi),List.getElem?_map] at h2
   cases e:vs[i]? with
   |none=>rw[e] at h2;cases h2
   |some a=>rw[e] at h2;cases h2;rfl
  obtain⟨u,hu,rv⟩:=r.get ha
  have hp:ps[i]? =some y:=by
   rw[<-S.pre,List.getElem?_take_of_lt (by omega)];exact h1
  have ndP:ps.Nodup:=by rw[<-S.pre];exact S.nd.sublist (List.take_sublist _ _)
  refine⟨u,rv,?_⟩
  rcases S.par y (List.mem_of_getElem? hp) with k|k
  ·exact .inl ⟨k,zhh ndP hp hu k⟩
  ·obtain⟨c,e⟩:=zjk (n:=s.heap.objs.size+1) k
   refine .inr ⟨.inl k,c,e,?_⟩
   have q:=x.cell y c e
   rw[zhi ndP hp hu (by show scope.names.lookup y≠_;rw[k];decide)] at q
   exact q
 ·exact e0.hok.fresh (Nat.le_of_lt (x.above y c (PySem.mem_of_lookup h)))
 ·unfold zdn
  show _=N.length
  rw[List.length_append,List.length_map,List.length_replicate]
  omega
theorem zvj{CX:CXT}{P:Program}{w:World}{K:PySem.W.Frag}{mg:Str->Option Value}{base:Heap}{k:Nat}{f:Addr}{name qual:Str}{params:Arguments}{body:List Stmt}{scope:Scope}{dV kV doc pm cdv ct oc:Value}{an od:Option Addr}
  {osl:Array (Option Value)} {N ps:List Str} {sp:Sp} (lk:K.lookup f=some ⟨oc,od,.func (PySem.W.fnOf name qual params body scope dV kV doc pm an cdv ct),osl⟩) (hcd:PySem.W.codeIn K cdv qual=true) (S:FnScope N ps scope)
  (len: ∀vs H Q E,sp vs H Q E->vs.length=ps.length)
  (hbody: ∀(A:Around) (outer:List Env) (s:Shared) (H:Hp) (vs:List V) (Q:VK) (E:XK),Room k (A.deeper (envOfC qual scope s.heap.objs.size f cdv))->sp vs H Q E->
   ∃t,PSs (zc8 CX P w K mg base N qual scope f cdv A outer s H E) body t/\t { nx:=fun _ H'=>Q .non H',rt:=Q } (zdn N vs) H):
  FnOk P w K mg base CX (k+1) f (PySem.W.fnOf name qual params body scope dV kV doc pm an cdv ct) ps sp:=by
 refine⟨len,fun A outer s H args us vs Q E hr e0 hb r hsp=>?_⟩
 have hl:=len _ _ _ _ hsp
 have KX:K.In s.heap:=e0.mod.kin.keeps fun b o e=>(e0.bs b o e).1
 have lim:s.heap.NoLimit:=e0.mod.nolimit.keeps fun b o e=>(e0.bs b o e).1
 have hkind: ∀y∈ps.zip us,scope.names.lookup y.1=some .local\/(scope.names.lookup y.1=some .cell/\((cellsFrom (s.heap.objs.size+1) scope.names []).lookup y.1).isSome=true):=fun ⟨n,v⟩ hy=>by
  rcases S.par n (List.of_mem_zip hy).1 with q|q
  ·exact .inl q
  ·exact .inr ⟨q,PySem.W.cellsFrom_some _ _ _ (.inl q)⟩
 refine codeAny_call_function hr.depth (KX _ _ lk) rfl S.co S.gen rfl (PySem.W.codeRec_of KX hcd) (hb _ _ _ _ ?_)
 refine wpAny_newFunctionEnv_cells S.kind hkind fun env he s1 x=>?_
 subst he
 refine⟨lim.keeps x.toInCall.keep,codeAny_func ?_⟩
 obtain⟨t,ht,hq⟩:=hbody A outer s H vs Q E (hr.deeper _) hsp
 have I:Inv (zc8 CX P w K mg base N qual scope f cdv A outer s H E) [] (zdn N vs) H s1:=zkZ S hr.hd e0 hl r x
 refine wpAny_mono (ht [] s1 (zdn N vs) H _ I hq) (fun fl s' hs=>?_) fun e s' hs=>hs
 have fin: ∀{σ':St} {H':Hp} {v:V} {u:Value},Inv (zc8 CX P w K mg base N qual scope f cdv A outer s H E) [] σ' H' s'->RelV v u->Q v H'->CE outer P w H s Q u s':=
  fun {σ' H' v u} J rv q=>⟨v,H',J.os,J.bare,J.base,J.hok,rv,q⟩
 cases fl with
 |ret u=>
  obtain⟨v,σ',H',J,rv,q⟩:=hs
  exact fin J rv q
 |next=>
  obtain⟨σ',H',J,q⟩:=hs
  exact fin (v:=V.non) (u:=Value.none) J rfl q
 |brk=>
  obtain⟨_,_,_,q⟩:=hs
  exact False.elim q
 |cont=>
  obtain⟨_,_,_,q⟩:=hs
  exact False.elim q
end L2
namespace L2
open PySem PySem.Spec PyProof.Rows
section
variable {X:Cx} {x:Str} {p pos:Pos} {e:Expr} {es:List Expr} {t:TA} {id T:String} {r:List V->Hp->VK->Prop}
noncomputable def tCB(r:List V->Hp->VK->Prop)(t:TA):TE:=fun σ H Q=>t σ H fun vs H1=>r vs H1 Q
theorem zf6(hc:CallR X (.builtin id) r)(hg:Gl X x)(hm:X.mg x=none)(hv:bootBuiltins x=some (.builtin id))(ha:PA X (e::es) t)(hn:x≠"__name__":=by decide)(hdb:(x==("__debug__":Str))=false:=by decide)
  (he:starEach (e::es) X.env=(false,eval e X.env)::starEach es X.env:=by rfl) (hpl:(backTo pos (starEach es X.env)).any (·.1)=false:=by rfl):PE X (.Call (.Name x p) (e::es) [] pos) (tCB r t):=by
 intro pins s σ H Q I h
 refine wpAny_Call_Name_kw (zhb I hg hm hv ?_ hn hdb)
 exact PyProof.Rows.callWith_builtin1 (thn (ha pos pins s σ H _ I h) fun us s1 ⟨vs,H1,I1,r1,q1⟩=>hc pins s1 σ H1 vs us Q I1 r1 q1) he hpl
theorem zhj(hc:CallR X (.type T) r)(hg:Gl X x)(hm:X.mg x=none)(hv:bootBuiltins x=some (.type T))(ha:PA X (e::es) t)(hn:x≠"__name__":=by decide)(hdb:(x==("__debug__":Str))=false:=by decide)
  (he:starEach (e::es) X.env=(false,eval e X.env)::starEach es X.env:=by rfl) (hpl:(backTo pos (starEach es X.env)).any (·.1)=false:=by rfl):PE X (.Call (.Name x p) (e::es) [] pos) (tCB r t):=by
 intro pins s σ H Q I h
 refine wpAny_Call_Name_kw (zhb I hg hm hv ?_ hn hdb)
 exact PyProof.Rows.callWith_type1 (thn (ha pos pins s σ H _ I h) fun us s1 ⟨vs,H1,I1,r1,q1⟩=>hc pins s1 σ H1 vs us Q I1 r1 q1) he hpl
end
end L2
namespace HT
open PySem PyProof.Rows
noncomputable def lexLt:List Int->List Int->Bool
 |[],[]=>false
 |[],_::_=>true
 |_::_,[]=>false
 |x::xs,y::ys=>if x=y then lexLt xs ys else decide (x<y)
theorem lexLt_cons(x y:Int)(xs ys:List Int):lexLt (x::xs) (y::ys)=if x=y then lexLt xs ys else decide (x<y):=rfl
theorem zf7:lexLt [] []=false:=rfl
theorem zfk(y:Int)(ys:List Int):lexLt [] (y::ys)=true:=rfl
theorem zfl(x:Int)(xs:List Int):lexLt (x::xs) []=false:=rfl
theorem zna(A:Around)(s:Shared)(a:Int)(t:Tok)(c:Int)(u:Tok): ∃e,SeqAt.EqAt A s (.int a t) (.int c u) e/\(e=true↔a=c):=
 ⟨(a==c),SeqAt.EqAt.int_int a t c u,by simp⟩
theorem znb(A:Around)(s:Shared)(a:Int)(t:Tok)(c:Int)(u:Tok)(prog:Program)(w:World)(E:Value->Shared->Prop)(Q:Value->Shared->Prop)(h:Q (.bool (decide (a<c))) s):
  wpAny (model prog w) A (richCompare .Lt (.int a t) (.int c u)) Q E s:=
 (PyProof.Rows.lt_int h:wpAny (model prog w) A (compareOp .Lt (.int a t) (.int c u)) Q E s)
section
open PySem.SeqAt
open PySem.AutoSeq1 (wpAny_loadPart')
open PySem.MeetsSeq PySem.MeetsSeq2 PySem.MeetsSeq3
theorem zf8(l b:Addr)(items items2:Array Value)(n n2:Nat)(dd dd2:Option Addr)(sl sl2:Array (Option Value))(ns ms:List Int)(hi:IntsAre items.toList ns)(hj:IntsAre items2.toList ms):
  Meets (Builtin.«tuple.__lt__» ⟨[.ref l,.ref b],[]⟩)
   (fun _ R s=>s.heap.get? l=some { cls:=.type "tuple",dict:=dd,data:=.seq items n,slots:=sl }/\s.heap.get? b=some { cls:=.type "tuple",dict:=dd2,data:=.seq items2 n2,slots:=sl2 }/\
    R (.ok (.ret (.bool (lexLt ns ms)))) s):=
 .of_wp fun prog w A R s h=>by
  obtain⟨hp,g,d,tk,os⟩:=s;obtain⟨hl,hb,h⟩:=h
  have f2:=AutoSeq1.sub_tuple_tuple
  have z1:items.size=ns.length:=by rw[<-hi.length];simp
  have z2:items2.size=ms.length:=by rw[<-hj.length];simp
  wp_walk using wpAny_loadPart' hl,wpAny_loadPart' hb,wpAny_forIn_list _ (fun zck b s'=>b.1=none/\s'=⟨hp,g,d,tk,os⟩/\∃(vs ws:List Value) (ns' ms':List Int),zck=vs.zip ws/\
   IntsAre vs ns'/\IntsAre ws ms'/\ns'.length+items2.size=ms'.length+items.size/\R (.ok (.ret (.bool (lexLt ns' ms')))) ⟨hp,g,d,tk,os⟩) _
  case turn=>
   rintro⟨y,x⟩ zck b s' ⟨hb',rfl,vs,ws,ns',ms',hz,hvi,hwi,hlen,hR⟩
   cases hvi with
   |nil=>rw[List.zip_nil_left] at hz;cases hz
   |cons a t hvi'=>
    cases hwi with
    |nil=>rw[List.zip_nil_right] at hz;cases hz
    |cons c u hwi'=>
     rw[List.zip_cons_cons] at hz
     injection hz with hyx hrest
     injection hyx with hy hx
     subst hy hx
     rw[lexLt_cons] at hR
     simp only[List.length_cons] at hlen
     obtain⟨e,he,hiff⟩:=zna A.in1 ⟨hp,g,d,tk,os⟩ a t c u
     refine wpAny_bind (he prog w _ _ ?_)
     cases e with
     |true=>
      rw[if_pos (hiff.mp rfl)] at hR
      wp_walk
      exact⟨rfl,rfl,_,_,_,_,hrest,hvi',hwi',by omega,hR⟩
     |false=>
      rw[if_neg (fun q=>absurd (hiff.mpr q) Bool.false_ne_true)] at hR
      have hri:=znb A.in1 ⟨hp,g,d,tk,os⟩ a t c u prog w
      wp_walk using hri
      exact⟨_,rfl,by simpa using hR⟩
  case fin=>
   rintro⟨b1,b2⟩ s' ⟨hb',rfl,vs,ws,ns',ms',hz,hvi,hwi,hlen,hR⟩
   simp only at hb'
   subst hb'
   have hv:lexLt ns' ms'=decide (items.size<items2.size):=by
    cases hvi with
    |nil=>
     cases hwi with
     |nil=>
      simp only[List.length_nil] at hlen
      rw[zf7]
      exact (decide_eq_false (by omega)).symm
     |cons c u hw=>
      simp only[List.length_nil,List.length_cons] at hlen
      rw[zfk]
      exact (decide_eq_true (by omega)).symm
    |cons a t hv=>
     cases hwi with
     |nil=>
      simp only[List.length_nil,List.length_cons] at hlen
      rw[zfl]
      exact (decide_eq_false (by omega)).symm
     |cons c u hw=>
      rw[List.zip_cons_cons] at hz
      cases hz
   rw[hv] at hR
   wp_walk
   exact⟨_,rfl,by simpa [Builtin.Tuple.tupleCompareSizes] using hR⟩
  case h=>
   exact⟨rfl,rfl,items.toList,items2.toList,ns,ms,rfl,hi,hj,by omega,h⟩
end
section
variable {prog:Program} {w:World} {A:Around} {E:Value->Shared->Prop} {s:Shared}
theorem lt_tupInts{l b:Addr}{items items2:Array Value}{ns ms:List Int}{Q:Value->Shared->Prop}(hl:IsTup s.heap l items)(hb:IsTup s.heap b items2)(hi:IntsAre items.toList ns)(hj:IntsAre items2.toList ms)
  (hu:A.units<cLine) (h:Q (.bool (lexLt ns ms)) s):wpAny (model prog w) A (compareOp .Lt (.ref l) (.ref b)) Q E s:=by
 obtain⟨⟨cls,dd,data,sl⟩,ho,hc,n,hd⟩:=id hl
 obtain⟨⟨cls2,dd2,data2,sl2⟩,ho2,hc2,n2,hd2⟩:=id hb
 simp only at hc hd hc2 hd2
 subst hc hd hc2 hd2
 exact richCompare_meets_room (op:=.Lt) ⟨_,ho,rfl⟩ ⟨_,ho2,rfl⟩ PySem.F.slot_tuple_lt PySem.F.entry_tuple_lt (PySem.F.args_tuple_lt_2 _ _) (zf8 l b items items2 n n2 dd dd2 sl sl2 ns ms hi hj)
  ⟨ho,ho2,show Value.bool (lexLt ns ms)≠Value.notImplemented/\Q (.bool (lexLt ns ms)) s from ⟨(fun x=>nomatch x),h⟩⟩ hu
noncomputable def sIx(n d:Nat):Option Int->Nat
 |none=>d
 |some v=>if v<0 then (v+(n:Int)).toNat else min v.toNat n
theorem sIx_none(n d:Nat):sIx n d none=d:=rfl
theorem sIx_nat(n d k:Nat):sIx n d (some (k:Int))=min k n:=by
 show (if (k:Int)<0 then ((k:Int)+(n:Int)).toNat else min (k:Int).toNat n)=min k n
 rw[if_neg (by omega),Int.toNat_natCast]
end
end HT
namespace L2
open PySem PySem.Spec PyProof.Rows
noncomputable abbrev TO:=St->Hp->(Option Int->Hp->Prop)->Prop
noncomputable def PO(X:Cx)(e:Option Expr)(t:TO):Prop:=
 ∀(pins:List (Addr×Obj)) (s:Shared) (σ:St) (H:Hp) (Q:Option Int->Hp->Prop),Inv X pins σ H s->t σ H Q->
  wpAny (model X.prog X.w) X.A (evalPart e X.env) (fun u s'=>∃o H',Inv X pins σ H' s'/\IsPart u o/\Q o H') X.xe s
noncomputable def zoZ:TO:=fun _ H Q=>Q none H
noncomputable def zvk(t:TE):TO:=fun σ H Q=>t σ H fun x H1=>∃i,x= .int i/\Q (some i) H1
theorem zcN{ns:List Int}: ∀{us:List Value},Vals (ns.map V.int) us->IntsAre us ns:=by
 induction ns with
 |nil=>intro us r;rw[List.map_nil] at r;cases r;exact .nil
 |cons n ns ih=>
  intro us r
  rw[List.map_cons] at r
  cases r with
  |cons r1 r2=>
   obtain⟨t,e⟩:=r1
   subst e
   exact .cons n t (ih r2)
section
variable {X:Cx} {e:Expr} {te:TE} {lo hi:Option Expr} {tl th:TO} {pos p2:Pos}
theorem zo0:PO X none zoZ:=by
 intro pins s σ H Q I h
 rw[evalPart_none]
 exact wpAny_pure ⟨none,H,I,.none,h⟩
theorem zo1(h:PE X e te):PO X (some e) (zvk te):=by
 intro pins s σ H Q I hw
 rw[evalPart_some]
 refine thn (h pins s σ H _ I hw) fun u s1 ⟨x,H1,I1,r1,q1⟩=>?_
 obtain⟨i,rfl,q⟩:=q1
 obtain⟨t,rfl⟩:=r1
 exact⟨some i,H1,I1,.int i t,q⟩
noncomputable def SlR(X:Cx)(r:V->Option Int->Option Int->Hp->VK->Prop):Prop:=
 ∀(pins:List (Addr×Obj)) (s:Shared) (σ:St) (H:Hp) (x:V) (v vl vu:Value) (lo hi:Option Int) (sl:Addr) (Q:VK),Inv X pins σ H s->RelV x v->s.heap.IsSliceOf sl vl vu .none->IsPart vl lo->IsPart vu hi->r x lo hi H Q->
  ∃T id,typeLookup (.type T) "__getitem__"=pure (some (.builtin id))/\s.TypeIs v T/\wpAny (model X.prog X.w) X.A (getItem v (.ref sl)) (EP X pins σ Q) X.xe s
theorem SlR.or{r r':V->Option Int->Option Int->Hp->VK->Prop}(h:SlR X r)(h':SlR X r'):SlR X (fun x lo hi H Q=>r x lo hi H Q\/r' x lo hi H Q):=by
 intro pins s σ H x v vl vu lo hi sl Q I rx hs pl pu q
 rcases q with q|q
 ·exact h pins s σ H x v vl vu lo hi sl Q I rx hs pl pu q
 ·exact h' pins s σ H x v vl vu lo hi sl Q I rx hs pl pu q
noncomputable def tSl(r:V->Option Int->Option Int->Hp->VK->Prop)(te:TE)(tl th:TO):TE:=fun σ H Q=>te σ H fun x H1=>tl σ H1 fun l H2=>th σ H2 fun u H3=>r x l u H3 Q
theorem znc{r:V->Option Int->Option Int->Hp->VK->Prop}(hr:SlR X r)(he:PE X e te)(hl:PO X lo tl)(hu:PO X hi th):PE X (.Subscript e (.Slice lo hi none p2) pos) (tSl r te tl th):=by
 intro pins s σ H Q I h
 refine Subscript_ (thn (he pins s σ H _ I h) fun v s1 ⟨x,H1,I1,r1,q1⟩=>?_)
 refine wpAny_Slice (thn (hl pins s1 σ H1 _ I1 q1) fun vl s2 ⟨l,H2,I2,pl,q2⟩=>thn (hu pins s2 σ H2 _ I2 q2) fun vu s3 ⟨u,H3,I3,pu,q3⟩=>?_)
 rw[evalPart_none]
 refine wpAny_pure ?_
 have I4:Inv X pins σ H3 { s3 with heap:=s3.heap.push { cls:=.type "slice",data:=.fields #[vl,vu,.none] } }:=I3.kept (t':=s3.toks) fun b ob q=>Heap.get?_push_of_some _ q
 obtain⟨T,id,hT,ht,hg⟩:=hr pins { s3 with heap:=s3.heap.push { cls:=.type "slice",data:=.fields #[vl,vu,.none] } } σ H3 x v vl vu l u s3.heap.objs.size Q I4 r1 (Heap.IsSliceOf.new ..) pl pu q3
 show wpAny (model X.prog X.w) X.A (subscriptTail e (.Slice lo hi none p2) v (.ref s3.heap.objs.size)) (EP X pins σ Q) X.xe { s3 with heap:=s3.heap.push { cls:=.type "slice",data:=.fields #[vl,vu,.none] } }
 exact tail_any (ops:=[.ref s3.heap.objs.size,v]) ht hT hg (by with_unfolding_all rfl)
noncomputable def zqi(xs:List V)(lo hi:Option Int):List V:=(xs.drop (HT.sIx xs.length 0 lo)).take (HT.sIx xs.length xs.length hi-HT.sIx xs.length 0 lo)
theorem zix(xs:List V)(lo hi:Option Int):(zqi xs lo hi).length<=xs.length:=by
 unfold zqi
 rw[List.length_take,List.length_drop]
 omega
noncomputable def zxN(K:PySem.W.Frag):R2:=fun x y H Q=>∃a b ns ms,x= .ref a/\y= .ref b/\SqT K H a (ns.map V.int)/\SqT K H b (ms.map V.int)/\Q (.bl (HT.lexLt ns ms)) H
theorem zq3(hu:X.A.units<cLine):OpR X (compareOp .Lt) (zxN X.K):=by
 intro pins s σ H x y v u Q I rx ry h
 obtain⟨a,b,ns,ms,rfl,rfl,ha,hb,q⟩:=h
 cases rx
 cases ry
 obtain⟨its,r1,p1,_⟩:=I.tuple ha
 obtain⟨its2,r2,p2,_⟩:=I.tuple hb
 have i1:IntsAre its.toArray.toList ns:=zcN r1
 have i2:IntsAre its2.toArray.toList ms:=zcN r2
 exact HT.lt_tupInts p1 p2 i1 i2 hu ⟨.bl (HT.lexLt ns ms),H,I,rfl,q⟩
end
end L2
namespace L2
open PySem PySem.Spec PyProof.Rows
noncomputable def ixN(n:Nat)(i:Int):Option Nat:=if 0<=i then (if i<n then some i.toNat else none) else if -(n:Int)<=i then some (i+n).toNat else none
noncomputable def atI{α:Type}(xs:List α)(i:Int):Option α:=(ixN xs.length i).bind fun j=>xs[j]?
theorem zo2{n:Nat}{i:Int}{j:Nat}(h:ixN n i=some j):seqIndex? i n=some j/\j<n/\ -(n:Int)<=i/\i<n:=by
 unfold ixN at h
 by_cases h0:0<=i
 ·rw[if_pos h0] at h
  by_cases h1:i<n
  ·rw[if_pos h1] at h
   have e:i.toNat=j:=Option.some.inj h
   exact⟨by rw[seqIndex_of h0 h1,e],by omega,by omega,h1⟩
  ·rw[if_neg h1] at h;cases h
 ·rw[if_neg h0] at h
  by_cases h1: -(n:Int)<=i
  ·rw[if_pos h1] at h
   have e:(i+n).toNat=j:=Option.some.inj h
   exact⟨by rw[seqIndex_neg (by omega) h1,e],by omega,h1,by omega⟩
  ·rw[if_neg h1] at h;cases h
theorem zk0{α:Type}{xs:List α}{i:Int}{v:α}(h:atI xs i=some v): ∃j,seqIndex? i xs.length=some j/\xs[j]? =some v/\j<xs.length/\ -(xs.length:Int)<=i/\i<xs.length:=by
 unfold atI at h
 cases e:ixN xs.length i with
 |none=>rw[e] at h;cases h
 |some j=>
  rw[e] at h
  obtain⟨h1,h2,h3,h4⟩:=zo2 e
  exact⟨j,h1,h,h2,h3,h4⟩
theorem atI_nat{α:Type}{xs:List α}{j:Nat}{v:α}(h:xs[j]? =some v):atI xs (j:Int)=some v:=by
 have hj:j<xs.length:=(List.getElem?_eq_some_iff.mp h).1
 have e:ixN xs.length (j:Int)=some j:=by
  unfold ixN
  rw[if_pos (by omega),if_pos (by omega)];simp
 unfold atI;rw[e];exact h
noncomputable def zk1(b:Expr):Prop:=∀o i,subscripted b false o i=operate [o,i] (getItem o i)
noncomputable def IxR(X:Cx)(r:R2):Prop:=
 ∀(value slice:Expr) (pins:List (Addr×Obj)) (s:Shared) (σ:St) (H:Hp) (x y:V) (v u:Value) (Q:VK),Inv X pins σ H s->RelV x v->RelV y u->r x y H Q->
  subscripted slice false v u=operate [v,u] (getItem v u)->wpAny (model X.prog X.w) X.A (subscriptTail value slice v u) (EP X pins σ Q) X.xe s
noncomputable def MtR(X:Cx)(id:String)(r:V->List V->Hp->VK->Prop):Prop:=
 ∀(pins:List (Addr×Obj)) (s:Shared) (σ:St) (H:Hp) (x:V) (xs:List V) (v:Value) (us:List Value) (Q:VK),Inv X pins σ H s->RelV x v->Vals xs us->r x xs H Q->
  wpAny (model X.prog X.w) X.A (call (.builtin id) (v::us)) (EP X pins σ Q) X.xe s
section
variable {X:Cx} {a b:Expr} {ta tb:TE} {pos:Pos}
theorem IxR.or{r r':R2}(h:IxR X r)(h':IxR X r'):IxR X (fun x y H Q=>r x y H Q\/r' x y H Q):=by
 intro value slice pins s σ H x y v u Q I rx ry q hs
 rcases q with q|q
 ·exact h value slice pins s σ H x y v u Q I rx ry q hs
 ·exact h' value slice pins s σ H x y v u Q I rx ry q hs
theorem MtR.or{id:String}{r r':V->List V->Hp->VK->Prop}(h:MtR X id r)(h':MtR X id r'):MtR X id (fun x xs H Q=>r x xs H Q\/r' x xs H Q):=by
 intro pins s σ H x xs v us Q I rx rs q
 rcases q with q|q
 ·exact h pins s σ H x xs v us Q I rx rs q
 ·exact h' pins s σ H x xs v us Q I rx rs q
theorem zvl{r:R2}(hr:IxR X r)(ha:PE X a ta)(hb:PE X b tb)(hs:zk1 b):PE X (.Subscript a b pos) (tOp r ta tb):=by
 intro pins s σ H Q I h
 exact Subscript_ (zu9 ha hb I h fun v u s2 x y H2 I2 rx ry q=>hr a b pins s2 σ H2 x y v u Q I2 rx ry q (hs _ _))
noncomputable def zxO(K:PySem.W.Frag):R2:=fun x y H Q=>∃p xs i v,x= .ref p/\y= .int i/\SqL K H p xs/\atI xs i=some v/\Q v H
noncomputable def zxP(K:PySem.W.Frag):R2:=fun x y H Q=>∃p xs i v,x= .ref p/\y= .int i/\SqT K H p xs/\atI xs i=some v/\Q v H
theorem zo3:IxR X (zxO X.K):=by
 intro value slice pins s σ H x y v u Q I rx ry h hs
 obtain⟨p,xs,i,z,rfl,rfl,hq,he,q⟩:=h
 cases rx
 obtain⟨t,rfl⟩:=ry
 obtain⟨its,r,pl,hz⟩:=I.list hq
 obtain⟨j,h1,h2,h3,h4,h5⟩:=zk0 he
 obtain⟨w,ew,rw'⟩:=r.get h2
 have hl:=r.length
 have hn:=zjj
 have fin:EP X pins σ Q w s:=⟨z,H,I,rw',q⟩
 by_cases h0:0<=i
 ·have hj:i.toNat=j:=by
   rw[seqIndex_of h0 h5] at h1
   exact Option.some.inj h1
  exact item_listR pl.isList h0 (by omega) (by rw[hj];simpa using ew) fin hs
 ·have hj:(i+(its.toArray.size:Int)).toNat=j:=by
   rw[seqIndex_neg (by omega) h4] at h1
   rw[List.size_toArray,<-hl]
   exact Option.some.inj h1
  exact subscriptTail_builtinR (x:=w) pl.isList.typeIs slot_list_getitem.lookup
   (wpAny_getItem_list_neg (Q:=fun r s'=>r=w/\EP X pins σ Q r s') pl.isList (by omega) (by rw[List.size_toArray]<;>omega) (by omega) (by rw[hj];simpa using ew) ⟨rfl,fin⟩) hs
theorem zq4:IxR X (zxP X.K):=by
 intro value slice pins s σ H x y v u Q I rx ry h hs
 obtain⟨p,xs,i,z,rfl,rfl,hq,he,q⟩:=h
 cases rx
 obtain⟨t,rfl⟩:=ry
 obtain⟨its,r,pl,hz⟩:=I.tuple hq
 obtain⟨j,h1,h2,h3,h4,h5⟩:=zk0 he
 obtain⟨w,ew,rw'⟩:=r.get h2
 have hl:=r.length
 have hn:=zjj
 have fin:EP X pins σ Q w s:=⟨z,H,I,rw',q⟩
 exact subscriptTail_builtinR (x:=w) pl.typeIs slot_tuple_getitem.lookup
  (getItem_tuple (j:=j) (Q:=fun r s'=>r=w/\EP X pins σ Q r s') pl (by omega) (by omega) (by rw[List.size_toArray,<-hl];exact h1) (by simpa using ew) ⟨rfl,fin⟩) hs
theorem Inv.lst{pins:List (Addr×Obj)}{σ:St}{H:Hp}{s:Shared}{p:Addr}{xs:List V}(I:Inv X pins σ H s)(h:H p=some (.lst xs)):
  ∃(its:List Value) (n:Nat),Vals xs its/\s.heap.get? p=some { cls:=.type "list",data:=.seq its.toArray n }/\xs.length<=sizeLine:=by
 obtain⟨z,its,n,r,e⟩:=I.hok p _ h
 exact⟨its,n,r,e,z⟩
theorem zhk(lo hi:Option Int)(n:Nat):(sliceBounds lo hi none n).1=((HT.sIx n 0 lo:Nat):Int)/\(sliceBounds lo hi none n).2.1=((HT.sIx n n hi:Nat):Int)/\(sliceBounds lo hi none n).2.2=1:=by
 refine⟨?_,?_,rfl⟩
 ·cases lo with
  |none=>simp[sliceBounds,HT.sIx]
  |some i=>
   simp only[sliceBounds,HT.sIx,Option.getD_none,show (1:Int)>0 by decide,if_true]
   by_cases h:i<0
   ·simp only[h,if_true]<;>omega
   ·simp only[h,if_false]<;>omega
 ·cases hi with
  |none=>simp[sliceBounds,HT.sIx]
  |some i=>
   simp only[sliceBounds,HT.sIx,Option.getD_none,show (1:Int)>0 by decide,if_true]
   by_cases h:i<0
   ·simp only[h,if_true]<;>omega
   ·simp only[h,if_false]<;>omega
theorem zf9(its:List Value)(lo hi:Option Int):slicePick its.toArray lo hi none=((its.drop (HT.sIx its.length 0 lo)).take (HT.sIx its.length its.length hi-HT.sIx its.length 0 lo)).toArray:=by
 obtain⟨h1,h2,h3⟩:=zhk lo hi its.toArray.size
 unfold slicePick
 rw[h1,h2,h3]
 simp only[sliceRange_one,pick_run,List.size_toArray]<;>rfl
noncomputable def zxQ(K:PySem.W.Frag):V->Option Int->Option Int->Hp->VK->Prop:=fun x lo hi H Q=>∃a xs,x= .ref a/\SqL K H a xs/\∀p,H p=none->Q (.ref p) (upd H p (.lst (zqi xs lo hi)))
theorem zo4:SlR X (zxQ X.K):=by
 intro pins s σ H x v vl vu lo hi sl Q I rx hs pl pu h
 obtain⟨a,xs,rfl,hx,q⟩:=h
 cases rx
 obtain⟨its,r,ht,hz⟩:=I.list hx
 have hlen:=r.length
 refine⟨"list",_,slot_list_getitem.lookup,ht.isList.typeIs,?_⟩
 refine wpAny_getItem_list_slice ht.isList hs pl pu .none (by simp) ?_ (by rw[List.size_toArray]<;>omega)
 rw[zf9,<-hlen]
 refine⟨.ref s.heap.objs.size,_,I.laid (t':=s.toks) (o:=.lst (zqi xs lo hi)) (fun b ob q=>Heap.get?_push_of_some _ q) (Nat.le_refl _) ?_,rfl,q _ (I.hok.fresh (Nat.le_refl _))⟩
 exact⟨Nat.le_trans (zix xs lo hi) hz,_,0,(r.drop (HT.sIx xs.length 0 lo)).take (HT.sIx xs.length xs.length hi-HT.sIx xs.length 0 lo),Heap.get?_push_size _ rfl⟩
theorem zek:CallR X (.builtin "len") (fun xs H Q=>∃p ys,xs=[.ref p]/\(SqL X.K H p ys\/SqT X.K H p ys)/\Q (.int ys.length) H):=by
 intro pins s σ H xs us Q I r h
 obtain⟨p,ys,rfl,hq,q⟩:=h
 obtain⟨u,rfl,rx⟩:=zhd r
 cases rx
 have hn:=zjj
 rcases hq with hq|hq
 ·obtain⟨its,r',pl,hz⟩:=I.list hq
  have hlen:=r'.length
  exact Calls.call_len_list pl.isList (by simp only[List.size_toArray]<;>omega) ⟨.int ys.length,H,I.tok _,⟨s.toks+1,by rw[List.size_toArray,hlen]⟩,q⟩
 ·obtain⟨its,r',pl,hz⟩:=I.tuple hq
  have hlen:=r'.length
  exact len_tuple pl (by simp only[List.size_toArray]<;>omega) ⟨.int ys.length,H,I.tok _,⟨s.toks+1,by rw[List.size_toArray,hlen]⟩,q⟩
theorem CallR.or{f:Value}{r r':List V->Hp->VK->Prop}(h:CallR X f r)(h':CallR X f r'):CallR X f (fun xs H Q=>r xs H Q\/r' xs H Q):=by
 intro pins s σ H xs us Q I rs q
 rcases q with q|q
 ·exact h pins s σ H xs us Q I rs q
 ·exact h' pins s σ H xs us Q I rs q
theorem zel:CallR X (.type "list") (fun xs H Q=>∃p ys,xs=[.ref p]/\(SqL X.K H p ys\/SqT X.K H p ys)/\∀l,H l=none->Q (.ref l) (upd H l (.lst ys))):=by
 intro pins s σ H xs us Q I r h
 obtain⟨p,ys,rfl,hq,q⟩:=h
 obtain⟨u,rfl,rx⟩:=zhd r
 cases rx
 have fin: ∀(its:List Value),Vals ys its->ys.length<=sizeLine->∀(h':Heap) (c':Nat),(∀b o',s.heap.get? b=some o'->h'.get? b=some o')->
   h'.get? s.heap.objs.size=some { cls:=.type "list",dict:=none,data:=.seq its.toArray c',slots:= #[] }->EP X pins σ Q (.ref s.heap.objs.size) { s with heap:=h' }:=fun its r' hz h' c' kp e=>
  ⟨.ref s.heap.objs.size,_,I.laid (t':=s.toks) kp (Nat.le_refl _) (show ObjOk X.prog X.w _ h' _ (.lst ys) from ⟨hz,its,c',r',e⟩),rfl,q _ (I.hok.fresh (Nat.le_refl _))⟩
 rcases hq with hq|hq
 ·obtain⟨its,r',pl,hz⟩:=I.list hq
  have hlen:=r'.length
  obtain⟨o,ho,hc,n,hd⟩:=pl.isList
  exact call_list_seq p (.inl rfl) ho hc hd (fun h' c' kp e=>fin its r' hz h' c' kp e) (by simp only[List.size_toArray]<;>omega)
 ·obtain⟨its,r',pl,hz⟩:=I.tuple hq
  have hlen:=r'.length
  obtain⟨o,ho,hc,n,hd⟩:=pl
  exact call_list_seq p (.inr rfl) ho hc hd (fun h' c' kp e=>fin its r' hz h' c' kp e) (by simp only[List.size_toArray]<;>omega)
theorem zdo:CallR X (.type "tuple") (fun xs H Q=>∃p ys,xs=[.ref p]/\((SqL X.K H p ys/\∀l,H l=none->Q (.ref l) (upd H l (.tup ys)))\/(SqT X.K H p ys/\Q (.ref p) H))):=by
 intro pins s σ H xs us Q I r h
 obtain⟨p,ys,rfl,h⟩:=h
 obtain⟨u,rfl,rx⟩:=zhd r
 cases rx
 rcases h with ⟨hq,q⟩|⟨hq,q⟩
 ·obtain⟨its,r',pl,hz⟩:=I.list hq
  have hlen:=r'.length
  refine call_tuple_list pl.isList (fun h' kp=>?_) (by simp only[List.size_toArray]<;>omega)
  have I1:Inv X pins σ H { s with heap:=h' }:=I.kept (t':=s.toks) kp
  have I2:Inv X pins σ (upd H h'.objs.size (.tup ys)) { s with heap:=h'.push { cls:=.type "tuple",data:=.seq its.toArray } }:=
   I1.laid (t':=s.toks) (fun b o e=>Heap.get?_push_of_some _ e) (Nat.le_refl _) (show ObjOk X.prog X.w _ _ _ (.tup ys) from ⟨hz,its,r',IsTup.new _ _⟩)
  exact⟨.ref h'.objs.size,_,I2,rfl,q _ (I1.hok.fresh (Nat.le_refl _))⟩
 ·obtain⟨its,r',pl,hz⟩:=I.tuple hq
  exact call_tuple_same pl ⟨.ref p,H,I,rfl,q⟩
noncomputable def tyV(K:PySem.W.Frag)(T:String)(x:V)(H:Hp):Prop:=match x with
 | .str _=>T="str"
 | .int _=>T="int"
 | .ref p=>(T="list"/\∃xs,SqL K H p xs)\/(T="tuple"/\∃o,K.lookup p=some o/\o.cls= .type "tuple"/\o.dict=none)\/
   (T="dict"/\((∃kvs,H p=some (.dK kvs))\/∃kvs,H p=some (.dT kvs)))\/(T="set"/\∃S n,H p=some (.set S n))
 |_=>False
theorem zq5{pins:List (Addr×Obj)}{σ:St}{H:Hp}{s:Shared}{T:String}{x:V}{v:Value}(I:Inv X pins σ H s)(r:RelV x v)(ty:tyV X.K T x H):
  s.TypeIs v T/\∀a,v= .ref a->∃ob,s.heap.get? a=some ob/\ob.dict=none:=by
 cases x with
 |str z=>
  obtain⟨t,rfl⟩:=r
  cases (show T="str" from ty)
  exact⟨typeIs_str s z t,fun _ e=>nomatch e⟩
 |int i=>
  obtain⟨t,rfl⟩:=r
  cases (show T="int" from ty)
  exact⟨typeIs_int s i t,fun _ e=>nomatch e⟩
 |ref p=>
  cases r
  rcases ty with ⟨rfl,xs,hq⟩|⟨rfl,o,hk,hc,hd⟩|⟨rfl,hk⟩|⟨rfl,S,n,hk⟩
  ·obtain⟨its,_,pl,_⟩:=I.list hq
   refine⟨pl.isList.typeIs,fun a e=>?_⟩
   cases e
   obtain⟨o,n,e,c,hd,_⟩:=pl
   exact⟨o,e,hd⟩
  ·refine⟨⟨o,I.kIn p o hk,hc⟩,fun a e=>?_⟩
   cases e
   exact⟨o,I.kIn _ o hk,hd⟩
  ·have z: ∃o,s.heap.get? p=some o/\o.ExactDict:=by
    rcases hk with ⟨kvs,hk⟩|⟨kvs,hk⟩
    ·obtain⟨_,_,_,_,o,_,_,e,ex,_⟩:=I.hok p _ hk
     exact⟨o,e,ex⟩
    ·obtain⟨_,_,_,_,o,_,_,e,ex,_⟩:=I.hok p _ hk
     exact⟨o,e,ex⟩
   obtain⟨o,e,ex⟩:=z
   refine⟨⟨o,e,ex.1⟩,fun a e2=>?_⟩
   cases e2
   exact⟨o,e,ex.2.1⟩
  ·obtain⟨o,_,_,_,e,ex,_⟩:=I.hok p _ hk
   refine⟨⟨o,e,ex.1⟩,fun a e2=>?_⟩
   cases e2
   exact⟨o,e,ex.2.1⟩
 |_=>exact False.elim ty
noncomputable def tBM(K:PySem.W.Frag)(T:String)(r:V->List V->Hp->VK->Prop)(to:TE)(t:TA):TE:=fun σ H Q=>to σ H fun x H1=>tyV K T x H1/\t σ H1 fun xs H2=>r x xs H2 Q
variable {o e:Expr} {es:List Expr} {to:TE} {t:TA} {name:Str} {apos cpos:Pos} {T id:String} {r:V->List V->Hp->VK->Prop}
theorem zvm(pa:PlainAttrs T)(slot:Slot T name id)(hty:typeOf (.builtin id)=pure (.type "method_descriptor"))(hm:MtR X id r)(ho:PE X o to)(ha:PA X (e::es) t)
  (hbase:attributeBase o name X.env (eval o X.env)=eval o X.env:=by rfl)
  (hfew:((backTo cpos (starEach (e::es) X.env)).all (fun x=> !x.1)&&(backToKw cpos (keywordEach [] X.env)).all (fun x=>x.1.isSome)
   &&decide ((e::es).length+([]:List Keyword).length+(if ([]:List Keyword).isEmpty then 0 else 1)<30))=true:=by rfl)
  (hline:(apos.endLine==cpos.line)=true:=by rfl) (hs:starEach (e::es) X.env=(false,eval e X.env)::starEach es X.env:=by rfl) (hplain:(backTo cpos (starEach es X.env)).any (·.1)=false:=by rfl):
  PE X (.Call (.Attribute o name apos) (e::es) [] cpos) (tBM X.K T r to t):=by
 intro pins s σ H Q I h
 refine wpAny_Call_method_late hbase hfew hline rfl (thn (ho pins s σ H _ I h) fun v s1 ⟨x,H1,I1,r1,ty,q1⟩=>?_)
 obtain⟨h1,h2⟩:=zq5 I1 r1 ty
 refine⟨T,id,pa,slot,hty,h1,h2,?_⟩
 have hA:=ha cpos pins s1 σ H1 _ I1 q1
 rw[hs] at hA⊢
 refine Calls.callWith_builtin (by show (false||(backTo cpos (starEach es X.env)).any (·.1))=false;rw[hplain]<;>rfl) (Calls.evalArgs_plain ?_)
 exact thn hA fun us s2 ⟨vs,H2,I2,r2,q2⟩=>hm pins s2 σ H2 x vs v us Q I2 r1 r2 q2
end
end L2
namespace L2
open PySem PySem.Spec PyProof.Rows
noncomputable def MtM(X:Cx)(id:String)(r:V->List V->Hp->VK->Prop):Prop:=
 ∀(pins:List (Addr×Obj)) (s:Shared) (σ:St) (H:Hp) (x:V) (xs:List V) (v:Value) (us:List Value) (Q:VK),Inv X pins σ H s->RelV x v->Vals xs us->r x xs H Q->
  wpAny (model X.prog X.w) X.A (call (.builtin id) (v::us)) (EP X pins σ Q) X.xe s
theorem Vals.one: ∀{x:V} {us:List Value},Vals [x] us->∃u,us=[u]/\RelV x u
 |_,_,.cons r .nil=>⟨_,rfl,r⟩
theorem Vals.two: ∀{x y:V} {us:List Value},Vals [x,y] us->∃u v,us=[u,v]/\RelV x u/\RelV y v
 |_,_,_,.cons r (.cons q .nil)=>⟨_,_,rfl,r,q⟩
theorem Vals.zero: ∀{us:List Value},Vals [] us->us=[]
 |_,.nil=>rfl
theorem Vals.eraseIdx: ∀{xs:List V} {us:List Value} (i:Nat),Vals xs us->Vals (xs.eraseIdx i) (us.eraseIdx i)
 |_,_,_,.nil=>.nil
 |_,_,0,.cons _ t=>t
 |_,_,i+1,.cons r t=>.cons r (Vals.eraseIdx i t)
theorem Vals.reverse{xs:List V}{us:List Value}(h:Vals xs us):Vals xs.reverse us.reverse:=by
 induction h with
 |nil=>exact .nil
 |cons r t ih=>rw[List.reverse_cons,List.reverse_cons];exact Vals.append ih (.cons r .nil)
theorem Vals.rep{xs:List V}{us:List Value}(h:Vals xs us): ∀k:Nat,Vals (List.replicate k xs).flatten (List.replicate k us).flatten
 |0=>.nil
 |k+1=>by
  rw[List.replicate_succ,List.replicate_succ,List.flatten_cons,List.flatten_cons]
  exact Vals.append h (Vals.rep h k)
section
variable {X:Cx} {pins:List (Addr×Obj)} {σ:St} {H:Hp} {s:Shared} {l b:Addr} {xs ys zs:List V}
theorem Inv.lset{its its':List Value}{n:Nat}{f:Array Value->Array Value}{t':Nat}(I:Inv X pins σ H s)(hH:H l=some (.lst xs))
  (e:s.heap.get? l=some { cls:=.type "list",data:=.seq its.toArray n }) (hf:f its.toArray=its'.toArray) (hv:Vals ys its') (hz:ys.length<=sizeLine):
  Inv X pins σ (upd H l (.lst ys)) { s with heap:=s.heap.update l (Obj.mapSeq f),toks:=t' }:=by
 have q:=PySem.IsL.update e f
 rw[hf] at q
 refine I.write (x:=l) (e:=l) (by rw[hH];exact trivial) (.inl rfl) (fun b' u hb hu=>(Heap.get?_update_other s.heap (Obj.mapSeq f) (Ne.symm hb)).trans hu) ⟨_,q⟩ ?_
 exact⟨hz,its',_,hv,q⟩
theorem Inv.lnew{its:List Value}{t':Nat}(I:Inv X pins σ H s)(hv:Vals ys its)(hz:ys.length<=sizeLine):
  Inv X pins σ (upd H s.heap.objs.size (.lst ys)) { s with heap:=s.heap.push { cls:=.type "list",data:=.seq its.toArray },toks:=t' }:=
 I.laid (fun _ _ q=>Heap.get?_push_of_some _ q) (Nat.le_refl _) ⟨hz,its,0,hv,Heap.get?_push_size _ rfl⟩
theorem Inv.fresh(I:Inv X pins σ H s):H s.heap.objs.size=none:=I.hok.fresh (Nat.le_refl _)
theorem Inv.lstM(I:Inv X pins σ H s)(hH:H l=some (.lst xs)):xs.length<=sizeLine/\∃(its:List Value) (n:Nat),Vals xs its/\xs.length=its.length/\s.heap.get? l=some { cls:=.type "list",data:=.seq its.toArray n }:=by
 obtain⟨z,its,n,r,e⟩:=I.hok l _ hH
 exact⟨z,its,n,r,r.length,e⟩
end
section
variable {X:Cx}
noncomputable def zo5:V->List V->Hp->VK->Prop:=fun x vs H Q=>∃l xs y,x= .ref l/\vs=[y]/\H l=some (.lst xs)/\xs.length<sizeLine/\Q .non (upd H l (.lst (xs++[y])))
theorem zhl:MtM X "list.append" zo5:=by
 intro pins s σ H x vs v us Q I rx rv h
 obtain⟨l,xs,y,rfl,rfl,hH,hz,q⟩:=h
 cases rx
 obtain⟨u,rfl,ru⟩:=rv.one
 obtain⟨z,its,n,r,hl,e⟩:=I.lstM hH
 refine call_meets F.slot_list_append ⟨_,e,rfl⟩ F.entry_list_append (F.args_list_append_2 _ _) (PySem.list_append l its.toArray n u (by rw[List.size_toArray];omega)) ⟨e,?_⟩
 refine⟨.non,_,I.lset (its':=its++[u]) hH e (by simp) (r.append (.cons ru .nil)) ?_,rfl,q⟩
 rw[List.length_append,List.length_singleton]
 omega
end
end L2
namespace L2
open PySem PySem.Spec PyProof.Rows
section
variable {κ:Type} [DecidableEq κ]
noncomputable def zfC(kvs:List (κ×V))(k:κ):Option V:=(kvs.find? fun kv=>decide (kv.1=k)).map (·.2)
noncomputable def zfD(kvs:List (κ×V))(k:κ)(v:V):List (κ×V):=
 if (kvs.any fun kv=>decide (kv.1=k))=true then kvs.map (fun kv=>if kv.1=k then (kv.1,v) else kv) else kvs++[(k,v)]
noncomputable def zq6(kvs:List (κ×V))(k:κ):List (κ×V):=kvs.filter fun kv=>decide (kv.1≠k)
theorem zdp{p:κ×V}{r:List (κ×V)}{k:κ}(e:p.1=k):zfC (p::r) k=some p.2:=by simp[zfC,List.find?_cons,e]
theorem zdq{p:κ×V}{r:List (κ×V)}{k:κ}(e: ¬p.1=k):zfC (p::r) k=zfC r k:=by simp[zfC,List.find?_cons,e]
theorem zeG(k:κ): ∀kvs:List (κ×V),(kvs.any fun kv=>decide (kv.1=k))=(zfC kvs k).isSome
 |[]=>rfl
 |p::r=>by
  rw[List.any_cons]
  by_cases e:p.1=k
  ·simp only[zdp e,decide_eq_true e,Bool.true_or,Option.isSome_some]
  ·rw[zdq e,decide_eq_false e,Bool.false_or];exact zeG k r
theorem zeN(kvs:List (κ×V))(k:κ)(v:V):(zfD kvs k v).length<=kvs.length+1:=by
 unfold zfD
 split
 ·rw[List.length_map];omega
 ·rw[List.length_append,List.length_cons,List.length_nil];omega
theorem RelO.isSome_eq{o:Option V}{u:Option Value}(r:RelO o u):o.isSome=u.isSome:=by
 cases o with
 |none=>cases u with
  |none=>rfl
  |some _=>exact (show False from r).elim
 |some _=>cases u with
  |none=>exact (show False from r).elim
  |some _=>rfl
theorem RelO.getD{o:Option V}{u:Option Value}{d:V}{d':Value}(r:RelO o u)(rd:RelV d d'):RelV (o.getD d) (u.getD d'):=by
 cases o with
 |none=>cases u with
  |none=>exact rd
  |some _=>exact (show False from r).elim
 |some _=>cases u with
  |none=>exact (show False from r).elim
  |some _=>exact r
theorem KV.val{kvs:List (κ×V)}{vs:List (κ×Value)}(r:KV kvs vs)(k:κ):RelO (zfC kvs k) (valueAt vs k):=by
 unfold KV at r
 induction r with
 |nil=>exact True.intro
 | @cons p q ps qs h t ih=>
  obtain⟨h1,h2⟩:=h
  by_cases e:p.1=k
  ·have e':q.1=k:=h1.symm.trans e
   have b:valueAt (q::qs) k=some q.2:=by simp[valueAt,List.find?_cons,e']
   rw[zdp e,b];exact h2
  ·have e': ¬q.1=k:=fun z=>e (h1.trans z)
   have b:valueAt (q::qs) k=valueAt qs k:=by simp[valueAt,List.find?_cons,e']
   rw[zdq e,b];exact ih
theorem KV.any{kvs:List (κ×V)}{vs:List (κ×Value)}(r:KV kvs vs)(k:κ):(kvs.any fun kv=>decide (kv.1=k))=vs.any fun kv=>decide (kv.1=k):=by
 unfold KV at r
 induction r with
 |nil=>rfl
 |cons h t ih=>rw[List.any_cons,List.any_cons,ih,h.1]
theorem KV.repl{kvs:List (κ×V)}{vs:List (κ×Value)}(r:KV kvs vs)(k:κ){y:V}{u:Value}(ry:RelV y u):
  KV (kvs.map fun kv=>if kv.1=k then (kv.1,y) else kv) (vs.map fun kv=>if kv.1=k then (kv.1,u) else kv):=by
 unfold KV at r⊢
 induction r with
 |nil=>exact .nil
 | @cons p q ps qs h t ih=>
  rw[List.map_cons,List.map_cons]
  refine .cons ?_ ih
  obtain⟨h1,h2⟩:=h
  by_cases e:p.1=k
  ·rw[if_pos e,if_pos (h1.symm.trans e)];exact⟨h1,ry⟩
  ·rw[if_neg e,if_neg (fun z=>e (h1.trans z))];exact⟨h1,h2⟩
theorem KV.put{kvs:List (κ×V)}{vs:List (κ×Value)}(r:KV kvs vs)(k:κ){y:V}{u:Value}(ry:RelV y u):KV (zfD kvs k y) (stored vs k u):=by
 unfold zfD stored
 rw[r.any k]
 by_cases e:(vs.any fun kv=>decide (kv.1=k))=true
 ·rw[if_pos e,if_pos e];exact r.repl k ry
 ·rw[if_neg e,if_neg e];exact Paired.snoc r ⟨rfl,ry⟩
theorem KV.drop{kvs:List (κ×V)}{vs:List (κ×Value)}(r:KV kvs vs)(k:κ):KV (zq6 kvs k) (without vs k):=by
 unfold KV at r⊢
 unfold zq6 without
 induction r with
 |nil=>exact .nil
 | @cons p q ps qs h t ih=>
  obtain⟨h1,h2⟩:=h
  rw[List.filter_cons,List.filter_cons]
  by_cases e:p.1=k
  ·have a: ¬decide (p.1≠k)=true:=by simp[e]
   have b: ¬decide (q.1≠k)=true:=by simp[h1.symm.trans e]
   rw[if_neg a,if_neg b];exact ih
  ·have e': ¬q.1=k:=fun z=>e (h1.trans z)
   have a:decide (p.1≠k)=true:=by simp[e]
   have b:decide (q.1≠k)=true:=by simp[e']
   rw[if_pos a,if_pos b];exact .cons ⟨h1,h2⟩ ih
theorem KV.keys{kvs:List (κ×V)}{vs:List (κ×Value)}(r:KV kvs vs):kvs.map (·.1)=vs.map (·.1):=by
 unfold KV at r
 induction r with
 |nil=>rfl
 |cons h t ih=>rw[List.map_cons,List.map_cons,ih,h.1]
theorem KV.length{kvs:List (κ×V)}{vs:List (κ×Value)}(r:KV kvs vs):kvs.length=vs.length:=Paired.length r
end
theorem zk2{P:Program}{w:World}{k:Key}{u:Value}(r:RelV (kV k) u):(zaS P w).is k u=true:=by
 cases k with
 |inl i=>obtain⟨t,e⟩:=(show ∃t,u=Value.int i t from r);subst e;exact ziu P w i t
 |inr x=>obtain⟨t,e⟩:=(show ∃t,u=Value.str x t from r);subst e;exact ziv P w x t
theorem zhm{P:Program}{w:World}: ∀{ks:List Key} {us:List Value},Vals (ks.map kV) us->ItemsAre (zaS P w) ks us
 |[],_,r=>by rw[List.map_nil] at r;cases r;exact .nil
 |k::ks,_,r=>by
  rw[List.map_cons] at r
  cases r with
  |cons h t=>exact .cons (zk2 h) (zhm t)
noncomputable abbrev KT(H:Hp):List (List Key×V)->List (List Key×Addr×Value)->Prop:=Paired fun p q=>p.1=q.1/\H q.2.1=some (.tup (p.1.map kV))/\RelV p.2 q.2.2
theorem KT.val{H:Hp}{kvs:List (List Key×V)}{xs:List (List Key×Addr×Value)}(r:KT H kvs xs)(k:List Key):RelO (zfC kvs k) ((atKey xs k).map (·.2)):=by
 induction r with
 |nil=>exact True.intro
 | @cons p q ps qs h t ih=>
  obtain⟨h1,_,h2⟩:=h
  by_cases e:p.1=k
  ·have e':q.1=k:=h1.symm.trans e
   have b:atKey (q::qs) k=some q.2:=by simp[atKey,List.find?_cons,e']
   rw[zdp e,b];exact h2
  ·have e': ¬q.1=k:=fun z=>e (h1.trans z)
   have b:atKey (q::qs) k=atKey qs k:=by simp[atKey,List.find?_cons,e']
   rw[zdq e,b];exact ih
theorem KT.repl{H:Hp}{kvs:List (List Key×V)}{xs:List (List Key×Addr×Value)}(r:KT H kvs xs)(k:List Key){y:V}{u:Value}(ry:RelV y u):
  KT H (kvs.map fun kv=>if kv.1=k then (kv.1,y) else kv) (xs.map (putAt k u)):=by
 induction r with
 |nil=>exact .nil
 | @cons p q ps qs h t ih=>
  rw[List.map_cons,List.map_cons]
  refine .cons ?_ ih
  obtain⟨h1,h2,h3⟩:=h
  unfold putAt
  by_cases e:p.1=k
  ·rw[if_pos e,if_pos (h1.symm.trans e)];exact⟨h1,h2,ry⟩
  ·rw[if_neg e,if_neg (fun z=>e (h1.trans z))];exact⟨h1,h2,h3⟩
theorem KT.put{H:Hp}{kvs:List (List Key×V)}{xs:List (List Key×Addr×Value)}(r:KT H kvs xs)(k:List Key){b:Addr}{y:V}{u:Value}(hb:H b=some (.tup (k.map kV)))(ry:RelV y u):
  KT H (zfD kvs k y) (storedH xs k b u):=by
 have e:(kvs.any fun kv=>decide (kv.1=k))=(atKey xs k).isSome:=by
  rw[zeG,(r.val k).isSome_eq,Option.isSome_map]
 unfold zfD storedH
 rw[e]
 by_cases q:(atKey xs k).isSome=true
 ·rw[if_pos q,if_pos q];exact r.repl k ry
 ·rw[if_neg q,if_neg q];exact Paired.snoc r ⟨rfl,hb,ry⟩
theorem KT.keeps{H H':Hp}{kvs:List (List Key×V)}{xs:List (List Key×Addr×Value)}(r:KT H kvs xs)(ht: ∀b ys,H b=some (.tup ys)->H' b=some (.tup ys)):KT H' kvs xs:=
 Paired.mapP r fun _ _ z=>⟨z.1,ht _ _ z.2.1,z.2.2⟩
section
variable {P:Program} {w:World} {H:Hp} {h:Heap} {a:Addr}
theorem zq7{u:HO}(ok:HOk P w H h)(e:Rd H a u):ObjOk P w H h a u:=e.ok ok
theorem zj8{kvs:List (Key×V)}(ok:HOk P w H h)(e:Rd H a (.dK kvs)):kvs.length<=sizeLine/\(a==sysModules)=false/\∃vs,KV kvs vs/\h.DictOf (zaS P w) a vs:=
 show ObjOk P w H h a (.dK kvs) from zq7 ok e
theorem zvn{kvs:List (Key×V)}(ok:HOk P w H h)(e:H a=some (.dK kvs)):kvs.length<=sizeLine/\(a==sysModules)=false/\∃vs,KV kvs vs/\h.DictOf (zaS P w) a vs:=zj8 ok (.inl e)
theorem zeO{ks:List Key}(ok:HOk P w H h)(e:H a=some (.tup (ks.map kV))):(tupleKind (zaS P w)).is h ks a:=by
 obtain⟨_,its,r,o,h1,h2,n,h3⟩:=(show ObjOk P w H h a (.tup (ks.map kV)) from ok a _ e)
 exact⟨o,its.toArray,n,h1,h2,h3,by simpa using zhm r⟩
theorem zj9{kvs:List (List Key×V)}(ok:HOk P w H h)(e:Rd H a (.dT kvs)):kvs.length<=sizeLine/\(a==sysModules)=false/\
  ∃xs,KT H kvs xs/\h.DictOfH (tupleKind (zaS P w)) a xs:=by
 obtain⟨z,y,xs,r,o,es,ep,h1,h2,h3,h4,h5⟩:=(show ObjOk P w H h a (.dT kvs) from zq7 ok e)
 refine⟨z,y,xs,r,o,es,ep,h1,h2,h3,h4,fun x hx=>?_,h5⟩
 have all: ∀{l:List (List Key×V)} {m:List (List Key×Addr×Value)},KT H l m->∀x∈m,(tupleKind (zaS P w)).is h x.1 x.2.1:=by
  intro l m q
  induction q with
  |nil=>intro x hx;exact nomatch hx
  | @cons p q ps qs hq t ih=>
   intro x hx
   rcases List.mem_cons.mp hx with e|hx
   ·subst e
    exact zeO ok (by rw[<-hq.1];exact hq.2.1)
   ·exact ih x hx
 exact all r x hx
theorem zq8{kvs:List (List Key×V)}(ok:HOk P w H h)(e:H a=some (.dT kvs)):kvs.length<=sizeLine/\(a==sysModules)=false/\
  ∃xs,KT H kvs xs/\h.DictOfH (tupleKind (zaS P w)) a xs:=zj9 ok (.inl e)
end
noncomputable def DGet(H:Hp)(a:Addr)(y:V)(r:Option V):Prop:=
 (∃kvs k,Rd H a (.dK kvs)/\y=kV k/\r=zfC kvs k)\/∃kvs k b,Rd H a (.dT kvs)/\y= .ref b/\H b=some (.tup (k.map kV))/\r=zfC kvs k
noncomputable def DPut(H:Hp)(a:Addr)(y v:V)(H':Hp):Prop:=
 (∃kvs k,H a=some (.dK kvs)/\y=kV k/\kvs.length<sizeLine/\H'=upd H a (.dK (zfD kvs k v)))\/
 ∃kvs k b,H a=some (.dT kvs)/\y= .ref b/\H b=some (.tup (k.map kV))/\kvs.length<sizeLine/\H'=upd H a (.dT (zfD kvs k v))
theorem DGet.k{H:Hp}{a:Addr}{kvs:List (Key×V)}{k:Key}(e:H a=some (.dK kvs)):DGet H a (kV k) (zfC kvs k):=.inl ⟨kvs,k,.inl e,rfl,rfl⟩
theorem DGet.t{H:Hp}{a b:Addr}{kvs:List (List Key×V)}{k:List Key}(e:H a=some (.dT kvs))(eb:H b=some (.tup (k.map kV))):DGet H a (.ref b) (zfC kvs k):=.inr ⟨kvs,k,b,.inl e,rfl,eb,rfl⟩
theorem DPut.k{H:Hp}{a:Addr}{kvs:List (Key×V)}{k:Key}{v:V}(e:H a=some (.dK kvs))(hl:kvs.length<sizeLine):DPut H a (kV k) v (upd H a (.dK (zfD kvs k v))):=.inl ⟨kvs,k,e,rfl,hl,rfl⟩
theorem DPut.t{H:Hp}{a b:Addr}{kvs:List (List Key×V)}{k:List Key}{v:V}(e:H a=some (.dT kvs))(eb:H b=some (.tup (k.map kV)))(hl:kvs.length<sizeLine):
  DPut H a (.ref b) v (upd H a (.dT (zfD kvs k v))):=.inr ⟨kvs,k,b,e,rfl,eb,hl,rfl⟩
section
variable {X:Cx} {pins:List (Addr×Obj)} {σ:St} {H:Hp} {s:Shared} {a:Addr} {y v:V} {u r:Value} {o:Option V} {A:Around} {E:Value->Shared->Prop}
theorem Inv.big(I:Inv X pins σ H s):sysModules<s.heap.objs.size:=by
 have h:mainGlobals<s.heap.objs.size:=(I.mod.glob.keeps I.bk).lt
 exact Nat.lt_trans (by decide) h
theorem zk3{Q:Value->Shared->Prop}(hu:A.units+1<cLine)(I:Inv X pins σ H s)(g:DGet H a y (some v))(ry:RelV y u)(h: ∀w' s',Inv X pins σ H s'->RelV v w'->Q w' s'):
  wpAny (model X.prog X.w) A (getItem (.ref a) u) Q E s:=by
 rcases g with ⟨kvs,k,e,ey,l⟩|⟨kvs,k,b,e,ey,eb,l⟩
 ·subst ey
  obtain⟨z,hd,vs,rel,dd⟩:=zj8 I.hok e
  obtain⟨w',hw,rw'⟩:=RelO.some_of (v:=v) (o:=valueAt vs k) (by rw[l];exact rel.val k)
  exact wpAny_getItem_of (zk2 ry) dd.mapOf hw (h w' _ (I.tok _) rw')
 ·subst ey
  cases (show u=Value.ref b from ry)
  obtain⟨z,hd,xs,rel,dd⟩:=zj9 I.hok e
  obtain⟨w',hw,rw'⟩:=RelO.some_of (v:=v) (o:=(atKey xs k).map (·.2)) (by rw[l];exact rel.val k)
  obtain⟨p,hp,hp2⟩:=jo2.mp hw
  refine wpAny_getItem_heap (tupleKind_room_in1 hu) (zeO I.hok eb) dd hp ?_
  rw[hp2]
  exact h w' _ (I.tok _) rw'
theorem zwX{Q:Value->Shared->Prop}(hu:A.units+1<cLine)(I:Inv X pins σ H s)(g:DGet H a y o)(ry:RelV y u)(h: ∀s',Inv X pins σ H s'->Q (.bool o.isSome) s'):
  wpAny (model X.prog X.w) A (compareOp .In u (.ref a)) Q E s:=by
 rcases g with ⟨kvs,k,e,ey,l⟩|⟨kvs,k,b,e,ey,eb,l⟩
 ·subst ey
  obtain⟨z,hd,vs,rel,dd⟩:=zj8 I.hok e
  refine wpAny_in_of (zk2 ry) hd dd.mapOf ?_
  rw[<-(rel.val k).isSome_eq,<-l]
  exact h _ (I.tok _)
 ·subst ey
  cases (show u=Value.ref b from ry)
  obtain⟨z,hd,xs,rel,dd⟩:=zj9 I.hok e
  refine wpAny_in_heap (tupleKind_room_in1 hu) (zeO I.hok eb) hd dd ?_
  have q:=(rel.val k).isSome_eq
  rw[Option.isSome_map] at q
  rw[<-q,<-l]
  exact h _ (I.tok _)
theorem zk4{Q:Value->Shared->Prop}(hu:A.units+1<cLine)(I:Inv X pins σ H s)(g:DGet H a y o)(ry:RelV y u)(h: ∀s',Inv X pins σ H s'->Q (.bool (!o.isSome)) s'):
  wpAny (model X.prog X.w) A (compareOp .NotIn u (.ref a)) Q E s:=by
 rcases g with ⟨kvs,k,e,ey,l⟩|⟨kvs,k,b,e,ey,eb,l⟩
 ·subst ey
  obtain⟨z,hd,vs,rel,dd⟩:=zj8 I.hok e
  refine wpAny_notIn_of (zk2 ry) hd dd.mapOf ?_
  rw[<-(rel.val k).isSome_eq,<-l]
  exact h _ (I.tok _)
 ·subst ey
  cases (show u=Value.ref b from ry)
  obtain⟨z,hd,xs,rel,dd⟩:=zj9 I.hok e
  refine wpAny_notIn_heap (tupleKind_room_in1 hu) (zeO I.hok eb) hd dd ?_
  have q:=(rel.val k).isSome_eq
  rw[Option.isSome_map] at q
  rw[<-q,<-l]
  exact h _ (I.tok _)
theorem ziy{h':Heap}{t':Nat}{ob:HO}(I:Inv X pins σ H s)(mu:Mut (H a))(hs:Heap.SameBut a s.heap h')(he: ∃q,h'.get? a=some q)(new:ObjOk X.prog X.w (upd H a ob) h' a ob):
  Inv X pins σ (upd H a ob) { s with heap:=h',toks:=t' }:=
 I.write (x:=a) (e:=a) mu (.inl rfl) (fun b q hb z=>(hs.2 b hb).trans z) he new
theorem zq9{P:Program}{w:World}{H':Hp}{h':Heap}{kvs:List (Key×V)}{vs:List (Key×Value)}(z:kvs.length<=sizeLine)(hd:(a==sysModules)=false)(rel:KV kvs vs)(dd:h'.DictOf (zaS P w) a vs):
  ObjOk P w H' h' a (.dK kvs):=⟨z,hd,vs,rel,dd⟩
theorem zk5{H':Hp}{Q:Unit->Shared->Prop}(hu:A.units+1<cLine)(I:Inv X pins σ H s)(g:DPut H a y v H')(ry:RelV y u)(rv:RelV v r)(h: ∀s',Inv X pins σ H' s'->Q () s'):
  wpAny (model X.prog X.w) A (setItem (.ref a) u r) Q E s:=by
 rcases g with ⟨kvs,k,e,ey,l,eH⟩|⟨kvs,k,b,e,ey,eb,l,eH⟩
 ·subst ey eH
  obtain⟨z,hd,vs,rel,dd⟩:=zvn I.hok e
  have hz:vs.length<=sizeLine:=by rw[<-rel.length];exact z
  have hl:(zfD kvs k v).length<=sizeLine:=by have:=zeN kvs k v;omega
  refine wpAny_setItem_pairs (hsz:=hz) (zk2 ry) dd fun h' dd' hs=>h _ ?_
  have he: ∃q,h'.get? a=some q:=let ⟨q,_,_,hq,_⟩:=dd';⟨q,hq⟩
  exact ziy I (by rw[e];exact True.intro) hs he (zq9 hl hd (rel.put k rv) dd')
 ·subst ey eH
  cases (show u=Value.ref b from ry)
  obtain⟨z,hd,xs,rel,dd⟩:=zq8 I.hok e
  have hz:xs.length<=sizeLine:=by rw[<-Paired.length rel];exact z
  have hl:(zfD kvs k v).length<=sizeLine:=by have:=zeN kvs k v;omega
  refine wpAny_setItem_heap (hsz:=hz) (tupleKind_room_in1 hu) (zeO I.hok eb) dd fun h' dd' hs=>h _ ?_
  obtain⟨q,es,ep,hq,h2,h3,h4,_,h5⟩:=dd'
  refine ziy I (by rw[e];exact True.intro) hs ⟨q,hq⟩ ⟨hl,hd,_,(rel.put k eb rv).keeps fun c ys ec=>?_,q,es,ep,hq,h2,h3,h4,h5⟩
  rw[zaN (zqI ec e (fun z=>nomatch z))]
  exact ec
end
theorem ziz{X:Cx}{pins:List (Addr×Obj)}{σ:St}{H:Hp}{s:Shared}{a:Addr}{y:V}{o:Option V}(I:Inv X pins σ H s)(g:DGet H a y o):s.TypeIs (.ref a) "dict":=by
 rcases g with ⟨kvs,k,e,_,_⟩|⟨kvs,k,b,e,_,_,_⟩
 ·obtain⟨_,_,vs,_,dd⟩:=zj8 I.hok e
  exact dd.typeIs
 ·obtain⟨_,_,xs,_,dd⟩:=zj9 I.hok e
  exact dd.typeIs
noncomputable def zvo(td ty tv:TE):TS:=fun D σ H=>tv σ H fun v H1=>td σ H1 fun x H2=>ty σ H2 fun y H3=>∃a H4,x= .ref a/\DPut H3 a y v H4/\D.nx σ H4
section
variable {X:Cx} {o i e value:Expr} {pos pos' tpos:Pos} {td ty tv:TE}
theorem zo6(hu:X.A.units+1<cLine)(ho:PE X o td)(hi:PE X i ty)(hv:PE X value tv)(hs:swapsWith value (some (.Subscript o i pos')) pos.line X.env=pure false):
  PS X (.Assign [.Subscript o i pos'] value pos) (zvo td ty tv):=by
 intro pins s σ H D I h
 refine wpAny_Assign_Subscript (thn (hv pins s σ H _ I h) fun r s1 ⟨v,H1,I1,rv,q1⟩=>thn (ho pins s1 σ H1 _ I1 q1) fun u s2 ⟨x,H2,I2,rx,q2⟩=>thn (hi pins s2 σ H2 _ I2 q2) fun iv s3 ⟨y,H3,I3,ry,a,H4,ex,g,q3⟩=>?_) hs
 subst ex
 obtain rfl:u=Value.ref a:=rx
 exact zk5 hu I3 g ry rv fun s4 I4=>⟨σ,H4,I4,q3⟩
end
theorem znd{P:Program}{w:World}{H:Hp}(h:Heap)(hb:sysModules<h.objs.size):ObjOk P w H (h.push { cls:=.type "dict",data:=.dict #[] }) h.objs.size (.dT []):=
 ⟨Nat.zero_le _,beq_eq_false_iff_ne.mpr (Ne.symm (Nat.ne_of_lt hb)),[],.nil,_, #[],0,Heap.get?_push_size _ rfl,⟨rfl,rfl,rfl⟩,rfl,rfl,List.nodup_nil⟩
noncomputable def zra(kvs more:List (Key×V)):List (Key×V):=more.foldl (fun acc kv=>zfD acc kv.1 kv.2) kvs
theorem KV.merge: ∀{more:List (Key×V)} {rs:List (Key×Value)} {kvs:List (Key×V)} {vs:List (Key×Value)},KV more rs->KV kvs vs->KV (zra kvs more) (merged vs rs):=by
 intro more rs kvs vs r
 unfold KV at r
 induction r generalizing kvs vs with
 |nil=>intro q;exact q
 | @cons p q ps qs h t ih=>
  intro r0
  have e:KV (zfD kvs p.1 p.2) (stored vs q.1 q.2):=by
   have:=r0.put p.1 h.2
   rw[<-h.1];exact this
  exact ih e
end L2
namespace Att
open PySem PySem.W PySem.Calls PyProof.Rows
theorem zeP{P:Params}{h:Heap}: ∀(ns:List Int) (vs:List Value),WellAll P h vs (ns.map WData.int)->IntsAre vs ns:=by
 intro ns
 induction ns with
 |nil=>
  intro vs w
  rw[List.map_nil] at w
  cases w
  exact .nil
 |cons n ns ih=>
  intro vs w
  rw[List.map_cons] at w
  cases w with
  |cons a b=>
   cases a
   exact .cons _ _ (ih _ b)
theorem zk6{l:OpenLaw}{n:Nat}(hn:l.most=some n){P:Params}{h:Heap}{args:List WData}{vals:List Value}
  (hpre:l.row.toRowW.claim.pre args=true) (hwl:WellAll P h vals args):
  ∃a vs ns,vals=[Value.ref a]/\args=[WData.list (ns.map WData.int)]/\h.get? a=some { cls:=.type "list",data:=.seq vs.toArray }/\IntsAre vs ns/\ns.length<=n:=by
 have hsh:WShape.hasAll [] args [.list .int]=true:=(pre_splitW hpre).1
 have hc:l.pre.holds [] { args:=args }=true:=(pre_splitW hpre).2
 obtain⟨d,r,rfl,h1,h2⟩:=hasAllW_cons hsh
 obtain rfl:=hasAllW_nil h2
 obtain⟨xs,rfl,h3⟩:=hasW_list h1
 obtain⟨ns,rfl⟩:=items_int h3
 have hlen:ns.length<=n:=by
  unfold OpenLaw.pre at hc
  have h4:(WTm.not (.lt (.lit (.int (n:Int))) (.len (.arg 0)))).holds [] { args:=[.list (ns.map .int)] }=true:=by
   have h4:=(holds_andW hc).1
   rw[hn] at h4
   exact h4
  have h5:=condW_of h4 (w_not (w_lt w_lit (w_len_list (w_arg rfl))))
  rw[List.length_map] at h5
  refine Nat.le_of_not_lt fun q=>?_
  have q':(n:Int)<((ns.length:Nat):Int):=by omega
  first
   |(rw[decide_eq_true q'] at h5;exact absurd h5 (by decide))
   |(simp at h5;omega)
 cases hwl with
 |cons w1 w2=>
  cases w2
  cases w1 with
  |list ho hall=>exact⟨_,_,ns,rfl,rfl,ho,zeP ns _ hall,hlen⟩
theorem zk7(l:OpenLaw)(args:List WData):l.row.toRowW.claim.post args (.bool true) args=true:=
 postW_of (r:=l.row.toRowW) (X:=(true==true))
  (show WShape.has [] (.bool true) .bool=true by first|rfl|decide|simp[WShape.has,WShape.arms,WShape.armsAll])
  (show (WTm.eq .res (.lit (.bool true))).value [] { args:=args,res:=some (.bool true),after:=args }=some (.bool (true==true)) from w_eq_bool (w_res rfl) w_lit) rfl
theorem attach_call{l:OpenLaw}{n:Nat}{q:Program}{loose:List Str}{XP:(Str->Option Value)->Heap->Prop}{YP:World->Heap->Prop}{d:DefRec}
  (hn:l.most=some n) (hdf:d.params.defaults=[])
  (call: ∀(w:World) (s₀ s₁:Shared) (mg mb:Str->Option Value) (fa:Addr) (o:Obj) (pm cd doc:Value) (a:Addr) (vs:List Value) (ns:List Int),
   Ground q loose [] XP w s₀ mg mb s₁.heap->YP w s₁.heap->
   s₁.heap.get? fa=some o->o.data= .func (docDef d.name d.params d.body d.scope pm cd doc)->s₁.heap.CodeRec cd d.name->mg d.name=some (.ref fa)->
   s₁.heap.get? a=some { cls:=.type "list",data:=.seq vs.toArray }->IntsAre vs ns->ns.length<=n->s₁.gens= #[]->
   codeAny (model l.prog w) callerA (.call (.ref fa) ⟨[.ref a],[]⟩) (fun r s'=>r= .ok (.ret (.bool true))/\OldK s₁.heap s'.heap/\s'.os=s₁.os/\AllBare s'.gens) s₁):
  WalkO q loose XP YP l.row.toRowW d [] (fun f vs=>PySem.call f vs):=by
 intro w s₀ s₁ mg mb G Y fa o pm cd doc dV kV ho hd hcd hD hmg hg args vals as hpre hlay hrd hwl hlo
 obtain rfl:dV= .none:=Dflts.none hD hdf
 obtain rfl:kV= .none:=Dflts.noKw hD
 obtain⟨a,vs,ns,rfl,rfl,hobj,hints,hlen⟩:=zk6 hn hpre hwl
 refine enter_call (codeAny_mono (call w s₀ s₁ mg mb fa o pm cd doc a vs ns G Y ho (fd_plain hd) hcd hmg hobj hints hlen hg) fun r s' hq=>?_)
 obtain⟨rfl,h2,h3,h4⟩:=hq
 exact⟨.inl ⟨.bool true,.bool true,[],rfl,fun _=>rfl,.bool true,zk7 l _,fun _=>⟨List.Pairwise.nil,fun _ hm=>(nomatch hm)⟩⟩,h2,h3,h4⟩
section
variable {prog:Program} {w:World} {A:Around} {E:Value->Shared->Prop} {s:Shared} {K:Frag}
noncomputable def zwY(h:Heap)(L d:Addr):List (Addr×Obj):=(List.range h.objs.size).filterMap fun a=>if a=L\/a=d then none else (h.get? a).map fun o=>(a,o)
end
end Att
namespace L2
open PySem PySem.Spec PyProof.Rows
theorem zeQ: ∀{vs:List Value} {ns:List Int},IntsAre vs ns->Vals (ns.map V.int) vs
 |_,_,.nil=>.nil
 |_,_,.cons n t h=>.cons ⟨t,rfl⟩ (zeQ h)
noncomputable def ztx(H:Hp):Prop:=∀b,H b=none\/∃o xs,H b=some (.frz o (.lst xs))
theorem zne{P:Program}{w:World}{K:PySem.W.Frag}{mg mb:Str->Option Value}{CX:CXT}{k:Nat}{fa a:Addr}{fd:FuncData}{x:Str}{sp:Sp}{s₁:Shared}{vs:List Value}{ns:List Int}
  (KX:K.In s₁.heap) (hns:s₁.heap.Ns mainGlobals mg) (hb:s₁.heap.Ns builtinsNs mb) (hbb: ∀x:Str,x≠"__name__"->mb x=bootBuiltins x) (hlim:s₁.heap.NoLimit) (hg:s₁.gens= #[])
  (ha:s₁.heap.get? a=some { cls:=.type "list",data:=.seq vs.toArray }) (hi:IntsAre vs ns) (hl:ns.length<=sizeLine) (hr:Room k callerA)
  (F: ∀base:Heap,K.In base->base.Ns mainGlobals mg->FnOk P w K mg base CX k fa fd [x] sp) (hbind: ∀(s:Shared) (u:Value),BindsTo s fd ⟨[u],[]⟩ [(x,u)])
  (hsp: ∀H:Hp,ztx H->SqL K H a (ns.map V.int)->sp [.ref a] H (fun v _=>v= .bl true) fun _ _ _=>False)
  (hCX: ∀H e s',CX [] H s₁ (fun _ _ _=>False) e s'->False):
  codeAny (model P w) callerA (.call (.ref fa) ⟨[.ref a],[]⟩) (fun r s'=>r= .ok (.ret (.bool true))/\OldK s₁.heap s'.heap/\s'.os=s₁.os/\AllBare s'.gens) s₁:=by
 have rv:=zeQ hi
 have lenV:=hi.length
 have core: ∀H:Hp,ztx H->SqL K H a (ns.map V.int)->HOk P w H s₁.heap->(∀b,H b≠none->b=a)->(H a≠none->K.lookup a=none)->
   codeAny (model P w) callerA (.call (.ref fa) ⟨[.ref a],[]⟩) (fun r s'=>r= .ok (.ret (.bool true))/\OldK s₁.heap s'.heap/\s'.os=s₁.os/\AllBare s'.gens) s₁:=by
  intro H hO hS hok hA hK
  have base_of: ∀{b:Addr} {o:Obj},s₁.heap.get? b=some o->H b=none->(zm0 s₁.heap H).get? b=some o:=fun e n=>zm1 e n
  have noA: ∀{b:Addr} {o:Obj} {es:Array DictEntry} {ep:Nat},s₁.heap.get? b=some o->o.data= .dict es ep->H b=none:=fun {b o es ep} e d=>by
   cases q:H b with
   |none=>rfl
   |some u=>
    have e':b=a:=hA b (by rw[q];simp)
    subst e'
    rw[ha] at e;cases e
    have d':Data.seq vs.toArray _=Data.dict es ep:=d
    cases d'
  have nsK: ∀{b:Addr} {m:Str->Option Value},s₁.heap.Ns b m->(zm0 s₁.heap H).Ns b m:=fun {b m} ⟨o,es,ep,e,d,r⟩=>⟨o,es,ep,base_of e (noA e d),d,r⟩
  have hKb:K.In (zm0 s₁.heap H):=fun b o e=>base_of (KX b o e) (by
   cases q:H b with
   |none=>rfl
   |some u=>
    have e':b=a:=hA b (by rw[q];simp)
    subst e'
    rw[hK (by rw[q];simp)] at e;cases e)
  have hM:Mod K mg (zm0 s₁.heap H):=⟨hKb,nsK hns,⟨mb,nsK hb,hbb⟩,let ⟨mc,h1,h2⟩:=hlim;⟨mc,nsK h1,h2⟩⟩
  have e0:Env0 P w K mg (zm0 s₁.heap H) callerA [] s₁ H:=⟨rfl,hM,fun b o e=>zoN e,Nat.le_of_eq (zkN _ _),trivial,fun b hb=>absurd (show b∈([]:List Addr) from hb) (by simp),hok,.of_eq hg⟩
  refine codeAny_mono ((F _ hKb (nsK hns)).run callerA [] s₁ H ⟨[.ref a],[]⟩ [.ref a] [.ref a] _ _ hr e0 (hbind s₁ (.ref a)) (.cons rfl .nil) (hsp H hO hS)) fun r s' h=>?_
  cases r with
  |error e=>exact (hCX H e s' h).elim
  |ok fl=>
   cases fl with
   |next=>exact False.elim h
   |brk=>exact False.elim h
   |cont=>exact False.elim h
   |ret u=>
    obtain⟨v,H',os,bare,un,hok',r',q⟩:=h
    have q':v= .bl true:=q
    subst q'
    obtain rfl:u=Value.bool true:=r'
    refine⟨rfl,OldK.of_keep fun b o e=>?_,os,bare⟩
    cases q:H b with
    |none=>exact un.keep b o e q (by intro z;exact absurd (show b∈([]:List Addr) from z) (by simp)) (by simp)
    |some u=>
     rcases hO b with z|⟨ob,xs,z⟩
     ·rw[q] at z;cases z
     ·have z2:=un.frzs b ob _ z
      obtain⟨e1,_⟩:=hok b _ z
      obtain⟨e2,_⟩:=hok' b _ z2
      rw[e] at e1;cases e1
      exact e2
 cases hk:K.lookup a with
 |some o=>
  have e:=KX a o hk
  rw[ha] at e
  cases e
  refine core (fun _=>none) (fun _=>.inl rfl) (.inr ⟨_,vs.toArray,_,hk,rfl,rfl,rfl,by rw[List.size_toArray,lenV];exact hl,by simpa using rv⟩) (fun b u z=>by have z':(none:Option HO)=some u:=z;cases z') (fun b z=>absurd rfl z) fun z=>absurd rfl z
 |none=>
  refine core (fun b=>if b=a then some (.frz { cls:=.type "list",data:=.seq vs.toArray } (.lst (ns.map V.int))) else none) (fun b=>?_) (.inl (.inr ⟨{ cls:=.type "list",data:=.seq vs.toArray },if_pos rfl⟩)) (fun b u z=>?_) (fun b z=>?_) fun _=>hk
  ·by_cases hb:b=a
   ·exact .inr ⟨_,_,if_pos hb⟩
   ·exact .inl (if_neg hb)
  ·by_cases hb:b=a
   ·have z':=(if_pos hb).symm.trans z
    cases z'
    subst hb
    exact⟨ha,by rw[List.length_map];exact hl,vs,_,rv,ha⟩
   ·have z':=(if_neg hb).symm.trans z
    cases z'
  ·by_cases hb:b=a
   ·exact hb
   ·exact absurd (if_neg hb) z
end L2
namespace L2
open PySem PySem.Spec PyProof.Rows
noncomputable abbrev KOf{K:PySem.W.Frag}{h:Heap}(_:K.In h):PySem.W.Frag:=K
theorem zo7{l:PySem.W.OpenLaw}{n k:Nat}{q:Program}{loose:List Str}{XP:(Str->Option Value)->Heap->Prop}{YP:World->Heap->Prop}{d:DefRec}{K:Params->PySem.W.Frag}{CX:World->CXT}{sp:World->Sp}{x:Str}
  (hn:l.most=some n) (hn2:n<=sizeLine) (hdf:d.params.defaults=[]) (hr:Room k callerA)
  (hY: ∀(w:World) (h:Heap),YP w h->(K w.params).In h)
  (F: ∀(w:World) (mg:Str->Option Value) (fa:Addr) (h:Heap),(K w.params).In h->h.Ns mainGlobals mg->mg d.name=some (.ref fa)->
   ∃fd:FuncData,(∀(s:Shared) (u:Value),BindsTo s fd ⟨[u],[]⟩ [(x,u)])/\
    ∀base:Heap,(K w.params).In base->base.Ns mainGlobals mg->FnOk l.prog w (K w.params) mg base (CX w) k fa fd [x] (sp w))
  (hsp: ∀(w:World) (H:Hp) (a:Addr) (ns:List Int),ns.length<=n->ztx H->SqL (K w.params) H a (ns.map V.int)->sp w [.ref a] H (fun v _=>v= .bl true) fun _ _ _=>False)
  (hCX: ∀(w:World) (H:Hp) (s:Shared) (e:Value) (s':Shared),CX w [] H s (fun _ _ _=>False) e s'->False):
  PySem.W.WalkO q loose XP YP l.row.toRowW d [] (fun f vs=>PySem.call f vs):=by
 refine Att.attach_call hn hdf fun w s₀ s₁ mg mb fa o pm cd doc a vs ns G Y ho hd hcd hmg hobj hints hlen hg=>?_
 have KX:=hY w _ Y
 obtain⟨fd,hb,hF⟩:=F w mg fa _ KX G.T.g hmg
 exact zne KX G.T.g G.T.b G.T.builtins G.T.nolimit hg hobj hints (Nat.le_trans hlen hn2) hr hF hb (fun H hO hS=>hsp w H a ns hlen hO hS) fun H e s'=>hCX w H s₁ e s'
theorem znf{l:PySem.W.OpenLaw}{n k:Nat}{q:Program}{loose:List Str}{XP:(Str->Option Value)->Heap->Prop}{YP:World->Heap->Prop}{d:DefRec}{K:Params->PySem.W.Frag}{CX:CXT}{sp:PySem.W.Frag->Sp}{x:Str}
  (hn:l.most=some n) (hn2:n<=sizeLine) (hdf:d.params.defaults=[]) (hr:Room k callerA)
  (hY: ∀(w:World) (h:Heap),YP w h->(K w.params).In h)
  (F: ∀(w:World) (mg:Str->Option Value) (fa:Addr) (h:Heap),(K w.params).In h->h.Ns mainGlobals mg->mg d.name=some (.ref fa)->
   ∃fd:FuncData,(∀(s:Shared) (u:Value),BindsTo s fd ⟨[u],[]⟩ [(x,u)])/\
    ∀base:Heap,(K w.params).In base->base.Ns mainGlobals mg->FnOk l.prog w (K w.params) mg base CX k fa fd [x] (sp (K w.params)))
  (hsp: ∀(K:PySem.W.Frag) (H:Hp) (a:Addr) (ns:List Int),ns.length<=n->ztx H->SqL K H a (ns.map V.int)->sp K [.ref a] H (fun v _=>v= .bl true) fun _ _ _=>False)
  (hCX: ∀(H:Hp) (s:Shared) (e:Value) (s':Shared),CX [] H s (fun _ _ _=>False) e s'->False):
  PySem.W.WalkO q loose XP YP l.row.toRowW d [] (fun f vs=>PySem.call f vs):=
 zo7 (K:=K) (CX:=fun _=>CX) (sp:=fun w=>sp (K w.params)) hn hn2 hdf hr hY F (fun w H a ns h1 h2 h3=>hsp (K w.params) H a ns h1 h2 h3) fun _ H s e s'=>hCX H s e s'
end L2
namespace L2
open PySem PySem.Spec PyProof.Rows
noncomputable def zam(s:Stmt):Arguments:=match s with
 | .FunctionDef _ a _ _ _ _ _ _ _ _=>a
 |_=>{ posonlyargs:=[],args:=[],vararg:=none,kwonlyargs:=[],kw_defaults:=[],kwarg:=none,defaults:=[] }
noncomputable def zag(s:Stmt):List Stmt:=match s with
 | .FunctionDef _ _ b _ _ _ _ _ _ _=>b
 |_=>[]
noncomputable def zaa(s:Stmt):Scope:=match s with
 | .FunctionDef _ _ _ _ _ _ sc _ _ _=>sc
 |_=>{ kind:=.function,names:=[],isGenerator:=false,isCoroutine:=false }
noncomputable abbrev CX0:CXT:=fun _ _ _ _ _ _=>False
noncomputable abbrev E0:XK:=fun _ _ _=>False
theorem zvp{X:Cx}:zkY CX0 X E0:=fun _ _ _ _ _ _ _ h=>h.elim
structure Fun (K:PySem.W.Frag)(x qual:Str)(st:Stmt)(f:Addr)(fd:FuncData):Prop where
 ex: ∃(oc:Value) (od:Option Addr) (kV doc pm:Value) (an:Option Addr) (cdv ct:Value) (osl:Array (Option Value)),
  fd=PySem.W.fnOf x qual (zam st) (zag st) (zaa st) .none kV doc pm an cdv ct/\K.lookup f=some ⟨oc,od,.func fd,osl⟩/\PySem.W.codeIn K cdv qual=true
 kp:PySem.W.keepIn K (.ref f)=true
section
variable {P:Program} {w:World} {K:PySem.W.Frag} {mg:Str->Option Value} {base:Heap}
theorem Fun.ok{x qual:Str}{st:Stmt}{f:Addr}{fd:FuncData}{N ps:List Str}{k:Nat}{sp:Sp}(F:Fun K x qual st f fd)(S:FnScope N ps (zaa st))(len: ∀vs H Q E,sp vs H Q E->vs.length=ps.length)
  (hbody: ∀(cdv:Value) (A:Around) (outer:List Env) (s:Shared) (H:Hp) (vs:List V) (Q:VK) (E:XK),Room k (A.deeper (envOfC qual (zaa st) s.heap.objs.size f cdv))->sp vs H Q E->
   ∃t,PSs (zc8 CX0 P w K mg base N qual (zaa st) f cdv A outer s H E).nox (zag st) t/\t { nx:=fun _ H'=>Q .non H',rt:=Q } (zdn N vs) H):FnOk P w K mg base CX0 (k+1) f fd ps sp:=by
 obtain⟨oc,od,kV,doc,pm,an,cdv,ct,osl,rfl,lk,hcd⟩:=F.ex
 refine zvj lk hcd S len fun A outer s H vs Q E hr hsp=>?_
 obtain⟨t,h,q⟩:=hbody cdv A outer s H vs Q E hr hsp
 exact⟨t,h.nox,q⟩
theorem Fun.binds{x qual:Str}{st:Stmt}{f:Addr}{fd:FuncData}{ps:List Str}(F:Fun K x qual st f fd)
  (h: ∀(kV doc pm:Value) (an:Option Addr) (cdv ct:Value) (us:List Value),us.length=ps.length->bindArgs (PySem.W.fnOf x qual (zam st) (zag st) (zaa st) .none kV doc pm an cdv ct) ⟨us,[]⟩=pure (ps.zip us)):Binds K fd ps []:=by
 obtain⟨oc,od,kV,doc,pm,an,cdv,ct,osl,rfl,lk,hcd⟩:=F.ex
 exact .all (h kV doc pm an cdv ct)
theorem zay{x qual:Str}{st:Stmt}{f:Addr}{oc:Value}{od an:Option Addr}{osl:Array (Option Value)}{kV doc pm cdv ct:Value}(l:K.lookup f=some ⟨oc,od,.func (PySem.W.fnOf x qual (zam st) (zag st) (zaa st) .none kV doc pm an cdv ct),osl⟩)
  (c:PySem.W.codeIn K cdv qual=true) (k:PySem.W.keepIn K (.ref f)=true):Fun K x qual st f (PySem.W.fnOf x qual (zam st) (zag st) (zaa st) .none kV doc pm an cdv ct):=⟨⟨oc,od,kV,doc,pm,an,cdv,ct,osl,rfl,l,c⟩,k⟩
end
theorem zcp{n:Nat}(h:n<=1000):n<sizeLine:=Nat.lt_of_le_of_lt h (by decide)
theorem zxR{A B:Prop}(h:B):if false=true then A else B:=by
 rw[if_neg Bool.false_ne_true]
 exact h
theorem zxS{A B:Prop}(h:A):if true=true then A else B:=by
 rw[if_pos rfl]
 exact h
noncomputable def Same(H H':Hp):Prop:=∀b o,H b=some o->H' b=some o
theorem Same.refl(H:Hp):Same H H:=fun _ _ h=>h
theorem Same.trans{H H1 H2:Hp}(a:Same H H1)(b:Same H1 H2):Same H H2:=fun c o h=>b c o (a c o h)
theorem Same.free{H H':Hp}(e:Same H H'){l:Addr}(h:H' l=Option.none):H l=Option.none:=by
 cases q:H l with
 |none=>rfl
 |some o=>
  rw[e l o q] at h
  cases h
theorem Same.seq{K:PySem.W.Frag}{H H':Hp}{a:Addr}{xs:List V}(e:Same H H')(h:SqL K H a xs):SqL K H' a xs:=by
 rcases h with (h|⟨o,h⟩)|h
 ·exact .inl (.inl (e _ _ h))
 ·exact .inl (.inr ⟨o,e _ _ h⟩)
 ·exact .inr h
end L2
namespace L2.LW
open PySem
set_option genSizeOf false
inductive D where
 |int (i:Int)|bl (b:Bool)|non|str (x:Str)|tup (l:List D)|lst (l:List D)
 |dct (t:Bool) (ks vs:List D)
mutual
noncomputable def eqD:D->D->Bool
 | .int a,.int b=>a==b
 | .bl a,.bl b=>a==b
 | .int a,.bl b=>a==(if b then 1 else 0)
 | .bl a,.int b=>(if a then 1 else 0)==b
 | .non,.non=>true
 | .str a,.str b=>a==b
 | .tup xs,.tup ys=>zfm xs ys
 | .lst xs,.lst ys=>zfm xs ys
 |_,_=>false
noncomputable def zfm:List D->List D->Bool
 |[],[]=>true
 |x::xs,y::ys=>eqD x y&&zfm xs ys
 |_,_=>false
end
mutual
noncomputable def plain:D->Bool
 | .lst _=>false
 | .dct _ _ _=>false
 | .tup l=>zbe l
 |_=>true
noncomputable def zbe:List D->Bool
 |[]=>true
 |x::xs=>plain x&&zbe xs
end
inductive SV where
 |val (d:D)|obj (o:Bool) (d:D)|io (d:D)
noncomputable abbrev SV.lis(o:Bool)(ds:List D):SV:=.obj o (.lst ds)
noncomputable def toD:SV->Option D
 | .val d=>some d
 | .obj true d=>some d
 |_=>none
noncomputable def zbu:SV->D
 | .val d=>d
 | .obj _ d=>d
 | .io d=>d
noncomputable def SV.lent:SV->Bool
 | .val _=>false
 | .obj true _=>false
 |_=>true
noncomputable def zb5:D->Bool
 | .lst ds=>zbe ds
 | .dct _ _ vs=>zbe vs
 |d=>plain d
noncomputable def SV.plain:SV->Bool
 | .val d=>LW.plain d
 | .obj _ d=>zb5 d
 | .io _=>false
noncomputable abbrev Env:=List (Option SV)
inductive Ty where
 |bool|int|str|list|tuple
 deriving DecidableEq
inductive Prim where
 |add|sub|mul|fdiv|mod|neg|eq|ne|lt|le|gt|ge|isN|notN|inn|nin|idx|len|abs|min2|max2|sorted|sortP|skeys|nset|sset|cutT|cutF|addT|mulT|addS|join0|splitN|eqS|neS|toList|toTup|all|inst (t:Ty)|cutTo|maxL|minL|sumL|intOf
set_option genInjectivity false
mutual
inductive E where
 |int (i:Int)|bl (b:Bool)|non|str (x:Str)
 |var (i:Nat)
 |prim (p:Prim) (es:Es)
 |tup (es:Es)|lst (es:Es)
 |and (a b:E)|or (a b:E)|not (a:E)
 |chain (p q:Prim) (a b c:E)
 |ite (c a b:E)
 |call (f:Nat) (es:Es)
 |comp (rng:Bool) (src:Es) (cond elt:E)
 |dnew (t:Bool)|done (t:Bool) (k v:E)
inductive Es where
 |nil|cons (e:E) (es:Es)
end
set_option genInjectivity true
noncomputable def zd6:Ty->D->Bool
 | .bool,.bl _=>true
 | .int,.int _=>true
 | .int,.bl _=>true
 | .str,.str _=>true
 | .list,.lst _=>true
 | .tuple,.tup _=>true
 |_,_=>false
noncomputable def ints? :List D->Option (List Int)
 |[]=>some []
 | .int i::r=>(ints? r).map (i:: ·)
 |_=>none
noncomputable def lexLt:List Int->List Int->Bool
 |_,[]=>false
 |[],_::_=>true
 |x::xs,y::ys=>if x=y then lexLt xs ys else decide (x<y)
noncomputable def ixN(n:Nat)(i:Int):Option Nat:=if 0<=i then (if i<n then some i.toNat else none) else if -(n:Int)<=i then some (i+n).toNat else none
noncomputable def atI{α:Type}(xs:List α)(i:Int):Option α:=(ixN xs.length i).bind fun j=>xs[j]?
noncomputable def bools? :List D->Option (List Bool)
 |[]=>some []
 | .bl i::r=>(bools? r).map (i:: ·)
 |_=>none
noncomputable def line:Nat:=16777216
noncomputable def zga:D->Option (List D)
 | .tup l=>some l
 | .lst l=>some l
 |_=>none
noncomputable def tups? :List D->Option (List (List Int))
 |[]=>some []
 | .tup l::r=>(ints? l).bind fun x=>(tups? r).map (x:: ·)
 |_=>none
noncomputable def zo8(x:List Int):List (List Int)->List (List Int)
 |[]=>[x]
 |y::r=>if lexLt x y then x::y::r else y::zo8 x r
noncomputable def zc9:List (List Int)->List (List Int)
 |[]=>[]
 |x::r=>zo8 x (zc9 r)
noncomputable def zgb(l:List Int):List Int:=l.mergeSort (fun a b=>decide (a<=b))
noncomputable def zbv:Nat->D->Bool
 |_,.int _=>true
 |_,.bl _=>true
 |_,.non=>true
 |_,.str _=>false
 |0,_=>false
 |n+1,.tup l=>l.all (zbv n)
 |n+1,.lst l=>l.all (zbv n)
 |_+1,.dct _ _ _=>false
noncomputable def zbx:Bool->D->Bool
 |false,.int _=>true
 |true,.tup l=>(ints? l).isSome
 |_,_=>false
noncomputable def kix(ks:List D)(k:D):Option Nat:=ks.findIdx? fun x=>eqD x k
noncomputable def zo9(ks vs:List D)(k:D):Option D:=(kix ks k).bind fun i=>vs[i]?
noncomputable def zkH(t:Bool)(ks vs:List D)(k v:D):D:=if (kix ks k).isSome then .dct t ks (List.zipWith (fun k' v'=>if eqD k' k then v else v') ks vs) else .dct t (ks++[k]) (vs++[v])
noncomputable def zb6(r:Int):Option SV:=some (.val (.int r))
noncomputable def zd3(r:Bool):Option SV:=some (.val (.bl r))
noncomputable def zty:List D->Option SV
 |[.int a,.int b]=>zb6 (a+b)
 |[.lst a,.lst b]=>if a.length+b.length<=line then some (SV.obj true (.lst (a++b))) else none
 |_=>none
noncomputable def zvq:List D->Option SV
 |[.int a,.int b]=>zb6 (a-b)
 |_=>none
noncomputable def ztz:List D->Option SV
 |[.int a,.int b]=>if (-(2 ^ 64)<a/\a<2 ^ 64)\/(-(2 ^ 64)<b/\b<2 ^ 64) then zb6 (a*b) else none
 |_=>none
noncomputable def zvr:List D->Option SV
 |[.int a,.int b]=>if 0<b/\b<1073741824 then zb6 (a/b) else none
 |_=>none
noncomputable def ztA:List D->Option SV
 |[.int a,.int b]=>if 0<b then zb6 (a%b) else none
 |_=>none
noncomputable def zvs:List D->Option SV
 |[.int a]=>zb6 (-a)
 |_=>none
noncomputable def pEq:List D->Option SV
 |[a,b]=>if zbv 8 a&&zbv 8 b then zd3 (eqD a b) else none
 |_=>none
noncomputable def pNe:List D->Option SV
 |[a,b]=>if zbv 8 a&&zbv 8 b then zd3 (!eqD a b) else none
 |_=>none
noncomputable def pLt:List D->Option SV
 |[.int a,.int b]=>zd3 (decide (a<b))
 |[.tup a,.tup b]=>(ints? a).bind fun x=>(ints? b).bind fun y=>zd3 (lexLt x y)
 |_=>none
noncomputable def pLe:List D->Option SV
 |[.int a,.int b]=>zd3 (decide (a<=b))
 |_=>none
noncomputable def pGt:List D->Option SV
 |[.int a,.int b]=>zd3 (decide (b<a))
 |_=>none
noncomputable def pGe:List D->Option SV
 |[.int a,.int b]=>zd3 (decide (b<=a))
 |[.tup a,.tup b]=>(ints? a).bind fun x=>(ints? b).bind fun y=>zd3 (!lexLt x y)
 |_=>none
noncomputable def zfn:D->Bool
 | .non=>true
 |_=>false
noncomputable def zwZ:List D->Option SV
 |[d]=>zd3 (zfn d)
 |_=>none
noncomputable def zrb:List D->Option SV
 |[d]=>zd3 (!zfn d)
 |_=>none
noncomputable def pIn:List D->Option SV
 |[x,.dct t ks _]=>if zbx t x then zd3 (kix ks x).isSome else none
 |[x,.tup l]=>if zbv 8 x&&l.all (zbv 8) then zd3 (l.any fun y=>eqD y x) else none
 |[x,.lst l]=>if zbv 8 x&&l.all (zbv 8) then zd3 (l.any fun y=>eqD y x) else none
 |_=>none
noncomputable def zng:List D->Option SV
 |[x,.dct t ks _]=>if zbx t x then zd3 (!(kix ks x).isSome) else none
 |[x,.tup l]=>if zbv 8 x&&l.all (zbv 8) then zd3 (!l.any fun y=>eqD y x) else none
 |[x,.lst l]=>if zbv 8 x&&l.all (zbv 8) then zd3 (!l.any fun y=>eqD y x) else none
 |_=>none
noncomputable def ztB:List D->Option SV
 |[.dct t ks vs,k]=>if zbx t k then (zo9 ks vs k).map .val else none
 |[.tup l,.int i]=>(atI l i).map .val
 |[.lst l,.int i]=>(atI l i).map .val
 |_=>none
noncomputable def zvt:List D->Option SV
 |[.tup l]=>zb6 l.length
 |[.lst l]=>zb6 l.length
 |_=>none
noncomputable def zvu:List D->Option SV
 |[.int i]=>zb6 (if i<0 then -i else i)
 |_=>none
noncomputable def zpa:List D->Option SV
 |[.int i,.int j]=>zb6 (if j<i then j else i)
 |_=>none
noncomputable def zpb:List D->Option SV
 |[.int i,.int j]=>zb6 (if j>i then j else i)
 |_=>none
noncomputable def ziA(l:List D):Option SV:=match ints? l with
 |some ns=>if ns.length<64 then some (.obj true (.lst ((zgb ns).map .int))) else none
 |none=>(tups? l).bind fun ks=>if ks.length<64/\ks.Nodup/\ks.all (fun k=> !k.isEmpty)=true then some (.obj true (.lst ((zc9 ks).map fun k=>.tup (k.map .int)))) else none
noncomputable def zgc:List D->Option SV
 |[.lst l]=>ziA l
 |_=>none
noncomputable def zpc(l:List D):Option SV:=(tups? l).bind fun ks=>if ks.length<64/\ks.Nodup/\ks.all (fun k=> !k.isEmpty)=true then some (.obj true (.lst ((zc9 ks).map fun k=>.tup (k.map .int)))) else none
noncomputable def zrc:List D->Option SV
 |[.dct true ks _]=>zpc ks
 |_=>none
noncomputable def zvv:List D->Option SV
 |[.tup l,.int k]=>if 0<=k/\k<l.length then some (.val (.tup (l.take k.toNat))) else none
 |_=>none
noncomputable def zvw:List D->Option SV
 |[.tup l,.int k]=>if 0<k/\0<l.length then some (.val (.tup (l.drop k.toNat))) else none
 |_=>none
noncomputable def zvx:List D->Option SV
 |[.tup a,.tup b]=>if a.length+b.length<=10000000 then some (.val (.tup (a++b))) else none
 |_=>none
noncomputable def zvy:List D->Option SV
 |[.tup l,.int k]=>if k=2/\l.length<=1000/\l≠[] then some (.val (.tup (l++l))) else none
 |_=>none
noncomputable def zvz:List D->Option SV
 |[.str a,.str b]=>if a.length+b.length<=10000000 then some (.val (.str (a++b))) else none
 |_=>none
noncomputable def strs? :List D->Option (List Str)
 |[]=>some []
 | .str x::r=>(strs? r).map (x:: ·)
 |_=>none
noncomputable def zvA(ys:List Str):Str:=⟨(ys.flatMap fun y=>y.cps.toList).toArray⟩
noncomputable def zrd:List D->Option SV
 |[.lst l]=>(strs? l).bind fun ys=>if (ys.map (·.length)).sum<=10000000 then some (.val (.str (zvA ys))) else none
 |_=>none
noncomputable def zvB(c:Nat):List Nat->List (List Nat)
 |[]=>[[]]
 |a::r=>if a=c then []::zvB c r else match zvB c r with
  |p::ps=>(a::p)::ps
  |[]=>[[a]]
noncomputable def zre(x:Str):List Str:=(zvB 10 x.cps.toList).map fun l=>⟨l.toArray⟩
noncomputable def zpd:List D->Option SV
 |[.str x]=>if x.length<=10000000 then some (.obj true (.lst ((zre x).map D.str))) else none
 |_=>none
noncomputable def zrf(x:Str):List D:=x.cps.toList.map fun c=>D.str ⟨#[c]⟩
noncomputable def zw0:List D->Option SV
 |[.str a,.str b]=>some (.val (.bl (decide (a=b))))
 |_=>none
noncomputable def zw1:List D->Option SV
 |[.str a,.str b]=>some (.val (.bl (!decide (a=b))))
 |_=>none
noncomputable def ziB:List D->Option SV
 |[.tup l]=>some (SV.obj true (.lst l))
 |[.lst l]=>some (SV.obj true (.lst l))
 |_=>none
noncomputable def zk8:List D->Option SV
 |[.tup l]=>some (.val (.tup l))
 |[.lst l]=>some (.val (.tup l))
 |_=>none
noncomputable def ztC:List D->Option SV
 |[.lst l]=>(bools? l).bind fun bs=>zd3 (bs.all id)
 |_=>none
noncomputable def zrg(t:Ty):List D->Option SV
 |[d]=>zd3 (zd6 t d)
 |_=>none
noncomputable def zjl:List D->Option SV
 |[.lst l,.int k]=>if 0<=k then some (SV.obj true (.lst (l.take k.toNat))) else none
 |_=>none
noncomputable def zvC:List D->Option SV
 |[.lst l]=>(ints? l).bind fun ns=>match ns with
  |[]=>none
  |n::r=>zb6 (r.foldl max n)
 |_=>none
noncomputable def zvD:List D->Option SV
 |[.lst l]=>(ints? l).bind fun ns=>match ns with
  |[]=>none
  |n::r=>zb6 (r.foldl min n)
 |_=>none
noncomputable def zvE:List D->Option SV
 |[.lst l]=>(ints? l).bind fun ns=>zb6 ns.sum
 |[.tup l]=>(ints? l).bind fun ns=>zb6 ns.sum
 |_=>none
noncomputable def zrh:List D->Option SV
 |[.int i]=>zb6 i
 |[.bl b]=>zb6 (if b then 1 else 0)
 |_=>none
noncomputable def prs? :List D->Option (List (List Int))
 |[]=>some []
 | .tup [.tup [.int a,.int b],.tup [.int c,.int d]]::r=>(prs? r).map ([a,b,c,d]:: ·)
 |_::_=>none
noncomputable def zri:List Int->D
 |[a,b,c,d]=>.tup [.tup [.int a,.int b],.tup [.int c,.int d]]
 |_=>.non
noncomputable def zrj:List D->Option SV
 |[.lst l]=>(prs? l).bind fun ks=>if ks.length<64/\ks.Nodup then some (.obj true (.lst ((zc9 ks).map zri))) else none
 |_=>none
noncomputable def zpe:D->Option (Int×Int)
 | .tup [.int a,.int b]=>if 0<=a/\a<=7/\0<=b/\b<=7 then some (a,b) else none
 |_=>none
noncomputable def zeR:List D->Option (List (Int×Int))
 |[]=>some []
 |d::r=>(zpe d).bind fun c=>(zeR r).map (c:: ·)
noncomputable def nub{α:Type}[DecidableEq α]:List α->List α
 |[]=>[]
 |c::r=>if c∈r then nub r else c::nub r
noncomputable def zrk:List D->Option (List Int)
 |[]=>some []
 | .int i::r=>(zrk r).map (i:: ·)
 |_::_=>none
noncomputable def zvF:List D->Option SV
 |[.lst ds]=>match zeR ds with
  |some cs=>some (.val (.int (nub cs).length))
  |none=>(zrk ds).bind fun is=>if is.length<=1000 then some (.val (.int (nub is).length)) else none
 |_=>none
noncomputable def zk9:List D->Option SV
 |[.lst ds]=>(zeR ds).bind fun cs=>if (nub cs).length<64 then some (.obj true (.lst ((zc9 ((nub cs).map fun c=>[c.1,c.2])).map fun k=>.tup (k.map .int)))) else none
 |_=>none
noncomputable def zah:Prim->List D->Option SV
 | .add=>zty| .sub=>zvq| .mul=>ztz| .fdiv=>zvr| .mod=>ztA| .neg=>zvs| .eq=>pEq| .ne=>pNe| .lt=>pLt| .le=>pLe| .gt=>pGt| .ge=>pGe
 | .isN=>zwZ| .notN=>zrb| .inn=>pIn| .nin=>zng| .idx=>ztB| .len=>zvt| .abs=>zvu| .min2=>zpa| .max2=>zpb
 | .sorted=>zgc| .sortP=>zrj| .skeys=>zrc| .nset=>zvF| .sset=>zk9| .cutT=>zvv| .cutF=>zvw| .addT=>zvx| .mulT=>zvy| .addS=>zvz| .join0=>zrd| .splitN=>zpd| .eqS=>zw0| .neS=>zw1| .toList=>ziB| .toTup=>zk8| .all=>ztC| .inst t=>zrg t| .cutTo=>zjl| .maxL=>zvC| .minL=>zvD| .sumL=>zvE| .intOf=>zrh
noncomputable def zbn:SV->Option Bool
 | .val (.bl b)=>some b
 | .val (.int i)=>some (i != 0)
 | .val .non=>some false
 | .val (.tup l)=>some (!l.isEmpty)
 | .val (.lst l)=>some (!l.isEmpty)
 | .obj _ (.lst l)=>some (!l.isEmpty)
 |_=>none
noncomputable def look(ρ:Env)(i:Nat):Option SV:=match ρ[i]? with
 |some (some (.val d))=>some (.val d)
 |some (some (.obj _ d))=>some (.obj false d)
 |some (some (.io d))=>some (.obj false d)
 |_=>none
noncomputable def free(ρ:Env)(i:Nat):Bool:=match ρ[i]? with
 |some (some (.io _))=>false
 |_=>true
noncomputable def SV.cell:SV->Option D
 | .obj true d=>some d
 | .io d=>some d
 |_=>none
noncomputable def SV.put:SV->D->SV
 | .io _,d=>.io d
 |_,d=>.obj true d
noncomputable def inR(j:Int):Prop:= -(2 ^ 62)<=j/\j<2 ^ 62
noncomputable instance (j:Int):Decidable (inR j):=by unfold inR;exact inferInstance
noncomputable def zaE:Bool->List SV->Option (List D)
 |false,[r]=>zga (zbu r)
 |true,[.val (.int n)]=>if inR n then some ((List.range n.toNat).map fun (k:Nat)=>D.int (0+(k:Int))) else none
 |true,[.val (.int a),.val (.int b)]=>if inR a/\inR b then some ((List.range (b-a).toNat).map fun (k:Nat)=>D.int (a+(k:Int))) else none
 |_,_=>none
noncomputable def zco(test:D->Option Bool)(elt:D->Option SV):List D->Option (List D)
 |[]=>some []
 |d::r=>(test d).bind fun b=>match b with
  |true=>(elt d).bind fun x=>(toD x).bind fun y=>(zco test elt r).map (y:: ·)
  |false=>zco test elt r
noncomputable def zd7(rs:List SV)(r:Option SV):Option SV:=r.bind fun x=>if rs.any SV.lent&& !x.plain then none else some x
noncomputable def zhn:List SV->Option (List D)
 |[]=>some []
 |r::rs=>(toD r).bind fun d=>(zhn rs).map (d:: ·)
mutual
noncomputable def evE(fn:Nat->List D->Option SV):E->Env->Option SV
 | .int i,_=>some (.val (.int i))
 | .bl b,_=>some (.val (.bl b))
 | .non,_=>some (.val .non)
 | .str x,_=>some (.val (.str x))
 | .var i,ρ=>look ρ i
 | .prim p es,ρ=>(zbZ fn es ρ).bind fun rs=>zah p (rs.map zbu)
 | .tup es,ρ=>(zbZ fn es ρ).bind fun rs=>(zhn rs).map fun ds=>.val (.tup ds)
 | .lst es,ρ=>(zbZ fn es ρ).bind fun rs=>(zhn rs).map fun ds=>SV.obj true (.lst ds)
 | .and a b,ρ=>(evE fn a ρ).bind fun r=>match r with
  | .val (.bl true)=>evE fn b ρ
  | .val (.bl false)=>some (.val (.bl false))
  |_=>none
 | .or a b,ρ=>(evE fn a ρ).bind fun r=>match r with
  | .val (.bl true)=>some (.val (.bl true))
  | .val (.bl false)=>evE fn b ρ
  |_=>none
 | .not a,ρ=>(evE fn a ρ).bind fun r=>match r with
  | .val (.bl b)=>some (.val (.bl (!b)))
  |_=>none
 | .chain p q a b c,ρ=>(evE fn a ρ).bind fun x=>(evE fn b ρ).bind fun y=>(zah p [zbu x,zbu y]).bind fun z=>match z with
  | .val (.bl true)=>(evE fn c ρ).bind fun w=>zah q [zbu y,zbu w]
  | .val (.bl false)=>some (.val (.bl false))
  |_=>none
 | .ite c a b,ρ=>(evT fn c ρ).bind fun k=>if k then evE fn a ρ else evE fn b ρ
 | .call f es,ρ=>(zbZ fn es ρ).bind fun rs=>zd7 rs (fn f (rs.map zbu))
 | .dnew t,_=>some (.obj true (.dct t [] []))
 | .done t k v,ρ=>(evE fn k ρ).bind fun x=>(evE fn v ρ).bind fun y=>(toD x).bind fun a=>(toD y).bind fun b=>if zbx t a then some (.obj true (.dct t [a] [b])) else none
 | .comp rng src cond elt,ρ=>(zbZ fn src ρ).bind fun rs=>(zaE rng rs).bind fun ds=>
  if ds.length<=line then (zco (fun d=>evT fn cond (some (.val d)::ρ)) (fun d=>evE fn elt (some (.val d)::ρ)) ds).map fun l=>SV.obj true (.lst l) else none
noncomputable def zbZ(fn:Nat->List D->Option SV):Es->Env->Option (List SV)
 | .nil,_=>some []
 | .cons e es,ρ=>(evE fn e ρ).bind fun r=>(zbZ fn es ρ).map (r:: ·)
noncomputable def evT(fn:Nat->List D->Option SV):E->Env->Option Bool
 | .and a b,ρ=>(evT fn a ρ).bind fun k=>if k then evT fn b ρ else some false
 | .or a b,ρ=>(evT fn a ρ).bind fun k=>if k then some true else evT fn b ρ
 | .not a,ρ=>(evT fn a ρ).map (!·)
 | .int i,_=>some (i != 0)
 | .bl b,_=>some b
 | .non,_=>some false
 | .str _,_=>none
 | .var i,ρ=>(look ρ i).bind zbn
 | .prim p es,ρ=>(zbZ fn es ρ).bind fun rs=>(zah p (rs.map zbu)).bind zbn
 | .tup _,_=>none
 | .lst _,_=>none
 | .chain p q a b c,ρ=>(evE fn a ρ).bind fun x=>(evE fn b ρ).bind fun y=>(zah p [zbu x,zbu y]).bind fun z=>match z with
  | .val (.bl true)=>(evE fn c ρ).bind fun w=>(zah q [zbu y,zbu w]).bind zbn
  | .val (.bl false)=>some false
  |_=>none
 | .ite _ _ _,_=>none
 | .call f es,ρ=>(zbZ fn es ρ).bind fun rs=>(zd7 rs (fn f (rs.map zbu))).bind zbn
 | .comp rng src cond elt,ρ=>(zbZ fn src ρ).bind fun rs=>(zaE rng rs).bind fun ds=>
  if ds.length<=line then (zco (fun d=>evT fn cond (some (.val d)::ρ)) (fun d=>evE fn elt (some (.val d)::ρ)) ds).map fun l=> !l.isEmpty else none
 | .dnew _,_=>none
 | .done _ _ _,_=>none
end
inductive Ans where
 |ok (r:SV) (outs:List D)
 |ex (c:Nat)
noncomputable def prj(fa:Nat->List D->Option Ans)(f:Nat)(ds:List D):Option SV:=match fa f ds with
 |some (.ok r [])=>some r
 |_=>none
set_option genInjectivity false
inductive MA where
 |nil|e (c:E) (r:MA)|s (i:Nat) (r:MA)|n (t:Bool) (r:MA)
inductive AV where
 |e (d:D)|l (ds:List D)|s (i:Nat) (d:D)|n (t:Bool)
inductive M where
 |call (f:Nat) (ma:MA)
 |op (p:Prim) (a:E) (m:M)
set_option genInjectivity true
noncomputable def zka:D->Bool
 | .dct _ _ vs=>zbe vs
 |_=>false
noncomputable def SV.fine:SV->Bool
 | .val d=>LW.plain d
 | .obj true d=>zb5 d
 |_=>false
noncomputable def zla:SV->Option AV
 | .val (.lst ds)=>if zbe ds then some (.l ds) else none
 | .val d=>if plain d then some (.e d) else none
 | .obj _ (.lst ds)=>if zbe ds then some (.l ds) else none
 |_=>none
noncomputable def zeS(ρ:Env)(i:Nat):Option D:=match ρ[i]? with
 |some (some x)=>x.cell
 |_=>none
noncomputable def zkI(fn:Nat->List D->Option SV):MA->Env->Option (List AV)
 | .nil,_=>some []
 | .e c r,ρ=>(evE fn c ρ).bind fun x=>(zla x).bind fun a=>(zkI fn r ρ).map (a:: ·)
 | .s i r,ρ=>(zeS ρ i).bind fun d=>if zka d then (zkI fn r ρ).map (.s i d:: ·) else none
 | .n t r,ρ=>(zkI fn r ρ).map (.n t:: ·)
noncomputable def zqj:AV->D
 | .e d=>d
 | .l ds=>.lst ds
 | .s _ d=>d
 | .n t=>.dct t [] []
noncomputable def ztD(ρ:Env)(i:Nat)(d:D):Env:=match ρ[i]? with
 |some (some x)=>ρ.set i (some (x.put d))
 |_=>ρ
noncomputable def zio(ρ:Env):List AV->List D->Option Env
 |[],[]=>some ρ
 | .s i _::r,d::ds=>zio (ztD ρ i d) r ds
 | .n _::r,_::ds=>zio ρ r ds
 | .e _::r,ds=>zio ρ r ds
 | .l _::r,ds=>zio ρ r ds
 |_,_=>none
noncomputable def evM(fa:Nat->List D->Option Ans):M->Env->Option (SV×Env)
 | .call f ma,ρ=>(zkI (prj fa) ma ρ).bind fun xs=>(fa f (xs.map zqj)).bind fun a=>match a with
  | .ok r outs=>if r.fine&&outs.all zb5 then (zio ρ xs outs).map fun ρ'=>(r,ρ') else none
  | .ex _=>none
 | .op p a m,ρ=>(evE (prj fa) a ρ).bind fun x=>match x with
  | .val d=>if plain d then (evM fa m ρ).bind fun y=>(zah p [d,zbu y.1]).map fun z=>(z,y.2) else none
  |_=>none
set_option genInjectivity false
mutual
inductive S where
 |expr (e:E)|asg (i:Nat) (e:E)|mov (i j:Nat)|app (i:Nat) (e:E)|dset (i:Nat) (k v:E)|dupd (i j:Nat)|unp3 (i j k:Nat) (e:E)|exprM (m:M)|asgM (i:Nat) (m:M)|ifO (c:E) (m:M) (a b:Ss)|ret (e:E)|retV (i:Nat)|retN
 |ifs (c:E) (a b:Ss)|for_ (i:Nat) (rng:Bool) (src:Es) (body:Ss)|forV (i j:Nat) (body:Ss)|forU (i j:Nat) (rng:Bool) (src:Es) (body:Ss)|forE (i j:Nat) (src:E) (body:Ss)|while_ (c:E) (body:Ss)|frz (js:List Nat) (s:S)|brk|cnt|pass|stop
inductive Ss where
 |nil|cons (s:S) (ss:Ss)
end
set_option genInjectivity true
inductive Fl where
 |nx|br|ct|rt (r:SV)
noncomputable def zeT(i:Nat)(body:Env->Option (Fl×Env)):List D->Env->Option (Fl×Env)
 |[],ρ=>some (.nx,ρ)
 |d::r,ρ=>(body (ρ.set i (some (.val d)))).bind fun x=>match x.1 with
  | .nx=>zeT i body r x.2
  | .ct=>zeT i body r x.2
  | .br=>some (.nx,x.2)
  | .rt v=>some (.rt v,x.2)
noncomputable def zrl:D->Bool
 | .tup [.int a,.int b]=>decide (0<=a/\a<=7/\0<=b/\b<=7)
 |_=>false
noncomputable def zlb(ks vs:List D):List D->List D->List D×List D
 |k::ks2,v::vs2=>match zkH true ks vs k v with
  | .dct _ a b=>zlb a b ks2 vs2
  |_=>(ks,vs)
 |_,_=>(ks,vs)
noncomputable def zvG(ρ:Env)(i:Nat)(x:SV):Option D->Option D->Option (Fl×Env)
 |some (.dct true ks vs),some (.dct true ks2 vs2)=>if ks2.all zrl&&decide (ks.length+ks2.length<line) then some (.nx,ρ.set i (some (x.put (.dct true (zlb ks vs ks2 vs2).1 (zlb ks vs ks2 vs2).2)))) else none
 |_,_=>none
noncomputable def zrm(ρ:Env)(i j:Nat):Option (Fl×Env):=if i=j then none else match ρ[i]? with
 |some (some x)=>zvG ρ i x x.cell (zeS ρ j)
 |_=>none
noncomputable def zrn(ρ:Env)(i j k:Nat):SV->Option (Fl×Env)
 | .obj true (.lst [a,b,c])=>if free ρ i&&free ρ j&&free ρ k then some (.nx,((ρ.set i (some (.val a))).set j (some (.val b))).set k (some (.val c))) else none
 |_=>none
noncomputable def zlc:Nat->List D->List D
 |_,[]=>[]
 |k,d::r=>.tup [.int k,d]::zlc (k+1) r
noncomputable def zvH:SV->Option (List D)
 | .obj true (.lst l)=>some (zlc 0 l)
 | .val (.str x)=>some (zlc 0 (zrf x))
 |_=>none
noncomputable def znh(i j:Nat)(body:Env->Option (Fl×Env)):List D->Env->Option (Fl×Env)
 |[],ρ=>some (.nx,ρ)
 | .tup [a,b]::r,ρ=>(body ((ρ.set i (some (.val a))).set j (some (.val b)))).bind fun x=>match x.1 with
  | .nx=>znh i j body r x.2
  | .ct=>znh i j body r x.2
  | .br=>some (.nx,x.2)
  | .rt v=>some (.rt v,x.2)
 |_,_=>none
noncomputable def zbM(test:Env->Option Bool)(body:Env->Option (Fl×Env)):Nat->Env->Option (Fl×Env)
 |0,_=>none
 |n+1,ρ=>(test ρ).bind fun b=>if b then (body ρ).bind fun x=>(match x.1 with
  | .nx=>zbM test body n x.2
  | .ct=>zbM test body n x.2
  | .br=>some (.nx,x.2)
  | .rt v=>some (.rt v,x.2)) else some (.nx,ρ)
noncomputable def zfE(ρ:Env)(j:Nat):Option (List D×Env):=match ρ[j]? with
 |some (some (.val d))=>(zga d).map fun l=>(l,ρ)
 |some (some (.obj _ (.lst ds)))=>some (ds,ρ.set j (some (.val (.lst ds))))
 |_=>none
noncomputable def ztE(ρ:Env)(j:Nat):Env:=match ρ[j]? with
 |some (some (.obj true d))=>ρ.set j (some (.val d))
 |_=>ρ
mutual
noncomputable def exS(fa:Nat->List D->Option Ans)(fuel:Nat):S->Env->Option (Fl×Env)
 | .expr e,ρ=>(evE (prj fa) e ρ).map fun _=>(.nx,ρ)
 | .asg i e,ρ=>(evE (prj fa) e ρ).bind fun r=>if r.lent|| !free ρ i then none else some (.nx,ρ.set i (some r))
 | .mov i j,ρ=>if free ρ i then (match ρ[j]? with
  |some (some (.val d))=>some (.nx,ρ.set i (some (.val d)))
  |some (some (.obj _ d))=>some (.nx,(ρ.set j (some (.val d))).set i (some (.val d)))
  |_=>none) else none
 | .app i e,ρ=>match ρ[i]? with
  |some (some x)=>(match x.cell with
   |some (.lst ds)=>(evE (prj fa) e ρ).bind fun r=>(toD r).bind fun d=>if ds.length<line then some (.nx,ρ.set i (some (x.put (.lst (ds++[d]))))) else none
   |_=>none)
  |_=>none
 | .dupd i j,ρ=>zrm ρ i j
 | .unp3 i j k e,ρ=>(evE (prj fa) e ρ).bind (zrn ρ i j k)
 | .dset i k v,ρ=>match ρ[i]? with
  |some (some x)=>(match x.cell with
   |some (.dct t ks vs)=>(evE (prj fa) v ρ).bind fun r=>(toD r).bind fun d=>(evE (prj fa) k ρ).bind fun r=>(toD r).bind fun a=>if zbx t a&&decide (ks.length<line) then some (.nx,ρ.set i (some (x.put (zkH t ks vs a d)))) else none
   |_=>none)
  |_=>none
 | .exprM m,ρ=>(evM fa m ρ).map fun x=>(.nx,x.2)
 | .asgM i m,ρ=>(evM fa m ρ).bind fun x=>if x.1.lent|| !free x.2 i then none else some (.nx,x.2.set i (some (.val (zbu x.1))))
 | .ifO c m a b,ρ=>(evT (prj fa) c ρ).bind fun k=>if k then zaV fa fuel a ρ else (evM fa m ρ).bind fun x=>(zbn x.1).bind fun k=>if k then zaV fa fuel a x.2 else zaV fa fuel b x.2
 | .ret e,ρ=>(evE (prj fa) e ρ).bind fun r=>if r.lent then none else some (.rt r,ρ)
 | .retV i,ρ=>match ρ[i]? with
  |some (some (.val d))=>some (.rt (.val d),ρ)
  |some (some (.obj _ d))=>some (.rt (.obj true d),ρ.set i none)
  |_=>none
 | .retN,ρ=>some (.rt (.val .non),ρ)
 | .ifs c a b,ρ=>(evT (prj fa) c ρ).bind fun k=>if k then zaV fa fuel a ρ else zaV fa fuel b ρ
 | .for_ i rng src body,ρ=>(zbZ (prj fa) src ρ).bind fun rs=>if rs.any SV.lent|| !free ρ i then none else (zaE rng rs).bind fun ds=>zeT i (zaV fa fuel body) ds ρ
 | .forV i j body,ρ=>if free ρ i then (zfE ρ j).bind fun x=>zeT i (zaV fa fuel body) x.1 x.2 else none
 | .forU i j rng src body,ρ=>(zbZ (prj fa) src ρ).bind fun rs=>if rs.any SV.lent|| !free ρ i|| !free ρ j then none else (zaE rng rs).bind fun ds=>znh i j (zaV fa fuel body) ds ρ
 | .forE i j src body,ρ=>(evE (prj fa) src ρ).bind fun r=>if !free ρ i|| !free ρ j then none else (zvH r).bind fun ds=>znh i j (zaV fa fuel body) ds ρ
 | .while_ c body,ρ=>zbM (evT (prj fa) c) (zaV fa fuel body) fuel ρ
 | .frz js s,ρ=>exS fa fuel s (js.foldl ztE ρ)
 | .brk,ρ=>some (.br,ρ)
 | .cnt,ρ=>some (.ct,ρ)
 | .pass,ρ=>some (.nx,ρ)
 | .stop,_=>none
noncomputable def zaV(fa:Nat->List D->Option Ans)(fuel:Nat):Ss->Env->Option (Fl×Env)
 | .nil,ρ=>some (.nx,ρ)
 | .cons s ss,ρ=>(exS fa fuel s ρ).bind fun x=>match x.1 with
  | .nx=>zaV fa fuel ss x.2
  |_=>some x
end
inductive Hd where
 |ret (ks:List Nat)|two (i n:Nat) (ks ks2:List Nat)
mutual
inductive T where
 |pl (s:S)|raise (c:Nat)|raiseF (c k:Nat)|callX (i:Nat) (es:Es)|retX (i:Nat) (es:Es)|asgX (k i:Nat) (es:Es)|ifX (neg:Bool) (i:Nat) (es:Es) (a b:Ts)|ifs (c:E) (a b:Ts)|tryX (b:Ts) (k:Nat) (cs:List Nat) (h:Hd)|stuck
inductive Ts where
 |nil|cons (t:T) (ts:Ts)
end
inductive FlX where
 |fl (f:Fl)|ex (c:Nat)
noncomputable def zxT(c k:Nat):Bool:=k==c||k==0||k==7
noncomputable def zmX(fa:Nat->List D->Option Ans)(i:Nat)(es:Es)(ρ:Env):Option Ans:=(zbZ (prj fa) es ρ).bind fun rs=>if rs.any SV.lent then none else fa i (rs.map zbu)
noncomputable def zxU:Option SV->Bool
 |some (.io _)=>false
 |_=>true
noncomputable def hdX(c:Nat)(ρ:Env):Hd->Option (FlX×Env)
 | .ret ks=>if ks.all (zxT c) then some (.fl (.rt (.obj true (.lst (ks.map fun _=>.bl true)))),ρ) else none
 | .two i n ks ks2=>if ρ.all zxU then some (.fl .nx,(List.replicate n none).set i (some (.obj true (.lst ((ks++ks2).map fun x=>.bl (x==c)))))) else none
mutual
noncomputable def exT(fa:Nat->List D->Option Ans)(fuel:Nat):T->Env->Option (FlX×Env)
 | .pl s,ρ=>(exS fa fuel s ρ).map fun x=>(.fl x.1,x.2)
 | .raise c,ρ=>some (.ex c,ρ)
 | .raiseF c k,ρ=>match look ρ k with
  |some (.val (.int i))=>if 0<=i/\i<1000 then some (.ex c,ρ) else none
  |_=>none
 | .callX i es,ρ=>(zmX fa i es ρ).bind fun a=>match a with
  | .ok _ []=>some (.fl .nx,ρ)
  | .ex c=>some (.ex c,ρ)
  |_=>none
 | .retX i es,ρ=>(zmX fa i es ρ).bind fun a=>match a with
  | .ok r []=>if r.lent then none else some (.fl (.rt r),ρ)
  | .ex c=>some (.ex c,ρ)
  |_=>none
 | .asgX k i es,ρ=>(zmX fa i es ρ).bind fun a=>match a with
  | .ok r []=>if r.lent|| !free ρ k then none else some (.fl .nx,ρ.set k (some r))
  | .ex c=>some (.ex c,ρ)
  |_=>none
 | .ifX neg i es a b,ρ=>(zmX fa i es ρ).bind fun x=>match x with
  | .ok (.val (.bl k)) []=>if k != neg then zho fa fuel a ρ else zho fa fuel b ρ
  | .ex c=>some (.ex c,ρ)
  |_=>none
 | .ifs c a b,ρ=>(evT (prj fa) c ρ).bind fun k=>if k then zho fa fuel a ρ else zho fa fuel b ρ
 | .tryX b k cs h,ρ=>(zho fa fuel b ρ).bind fun x=>match x.1 with
  | .fl _=>some x
  | .ex c=>if cs.contains c then hdX c x.2 h else none
 | .stuck,_=>none
noncomputable def zho(fa:Nat->List D->Option Ans)(fuel:Nat):Ts->Env->Option (FlX×Env)
 | .nil,ρ=>some (.fl .nx,ρ)
 | .cons t ts,ρ=>(exT fa fuel t ρ).bind fun x=>match x.1 with
  | .fl .nx=>zho fa fuel ts x.2
  |_=>some x
end
structure Fn where
 np:Nat
 nl:Nat
 body:Ss
 io:List Nat:=[]
 xb:Option Ts:=none
noncomputable def ztF:Option (FlX×Env)->Option Ans
 |some (.fl (.rt r),_)=>some (.ok r [])
 |some (.fl .nx,_)=>some (.ok (.val .non) [])
 |some (.ex c,_)=>some (.ex c)
 |_=>none
noncomputable def zb7(ρ:Env):List Nat->Option (List D)
 |[]=>some []
 |i::r=>match ρ[i]? with
  |some (some (.io d))=>(zb7 ρ r).map (d:: ·)
  |_=>none
noncomputable def zpf(io:List Nat):Option (Fl×Env)->Option Ans
 |some (.rt r,ρ)=>(zb7 ρ io).map (Ans.ok r)
 |some (.nx,ρ)=>(zb7 ρ io).map (Ans.ok (.val .non))
 |_=>none
noncomputable def zdr(io:List Nat):Nat->List D->Env
 |_,[]=>[]
 |k,d::r=>some (if io.contains k then .io d else .val d)::zdr io (k+1) r
noncomputable def zat(P:Nat->Option Fn)(fuel:Nat):Nat->Nat->List D->Option Ans
 |0,_,_=>none
 |n+1,f,ds=>(P f).bind fun F=>if ds.length=F.np then (match F.xb with
  |none=>zpf F.io (zaV (zat P fuel n) fuel F.body (zdr F.io 0 ds++List.replicate (F.nl-F.np) none))
  |some t=>ztF (zho (zat P fuel n) fuel t (zdr [] 0 ds++List.replicate (F.nl-F.np) none))) else none
noncomputable def zaP(P:Nat->Option Fn)(fuel n:Nat):Nat->List D->Option SV:=prj (zat P fuel n)
theorem zon{fn i ρ}:evE fn (E.int i) ρ=(some (.val (.int i))):=id rfl
theorem zvI{fn b ρ}:evE fn (E.bl b) ρ=(some (.val (.bl b))):=id rfl
theorem zro{fn ρ}:evE fn (E.non) ρ=(some (.val .non)):=id rfl
theorem zrp{fn i ρ}:evE fn (E.var i) ρ=(look ρ i):=id rfl
theorem zb1{fn p es ρ}:evE fn (E.prim p es) ρ=((zbZ fn es ρ).bind fun rs=>zah p (rs.map zbu)):=id rfl
theorem zrq{fn es ρ}:evE fn (E.tup es) ρ=((zbZ fn es ρ).bind fun rs=>(zhn rs).map fun ds=>.val (.tup ds)):=id rfl
theorem zrr{fn es ρ}:evE fn (E.lst es) ρ=((zbZ fn es ρ).bind fun rs=>(zhn rs).map fun ds=>SV.obj true (.lst ds)):=id rfl
theorem zrs{fn a b ρ}:evE fn (E.and a b) ρ=((evE fn a ρ).bind fun r=>match r with
  | .val (.bl true)=>evE fn b ρ
  | .val (.bl false)=>some (.val (.bl false))
  |_=>none):=id rfl
theorem zrt{fn a ρ}:evE fn (E.not a) ρ=((evE fn a ρ).bind fun r=>match r with
  | .val (.bl b)=>some (.val (.bl (!b)))
  |_=>none):=id rfl
theorem zni{fn p q a b c ρ}:evE fn (E.chain p q a b c) ρ=((evE fn a ρ).bind fun x=>(evE fn b ρ).bind fun y=>(zah p [zbu x,zbu y]).bind fun z=>match z with
  | .val (.bl true)=>(evE fn c ρ).bind fun w=>zah q [zbu y,zbu w]
  | .val (.bl false)=>some (.val (.bl false))
  |_=>none):=id rfl
theorem zru{fn c a b ρ}:evE fn (E.ite c a b) ρ=((evT fn c ρ).bind fun k=>if k then evE fn a ρ else evE fn b ρ):=id rfl
theorem zld{fn f es ρ}:evE fn (E.call f es) ρ=((zbZ fn es ρ).bind fun rs=>zd7 rs (fn f (rs.map zbu))):=id rfl
theorem zpg{fn t k v ρ}:evE fn (E.done t k v) ρ=((evE fn k ρ).bind fun x=>(evE fn v ρ).bind fun y=>(toD x).bind fun a=>(toD y).bind fun b=>if zbx t a then some (.obj true (.dct t [a] [b])) else none):=id rfl
theorem ziC{fn rng src cond elt ρ}:evE fn (E.comp rng src cond elt) ρ=((zbZ fn src ρ).bind fun rs=>(zaE rng rs).bind fun ds=>
  if ds.length<=line then (zco (fun d=>evT fn cond (some (.val d)::ρ)) (fun d=>evE fn elt (some (.val d)::ρ)) ds).map fun l=>SV.obj true (.lst l) else none):=id rfl
theorem zby{fn ρ}:zbZ fn (Es.nil) ρ=(some []):=id rfl
theorem zbc{fn e es ρ}:zbZ fn (Es.cons e es) ρ=((evE fn e ρ).bind fun r=>(zbZ fn es ρ).map (r:: ·)):=id rfl
theorem zvJ{fn a b ρ}:evT fn (E.or a b) ρ=((evT fn a ρ).bind fun k=>if k then some true else evT fn b ρ):=id rfl
theorem zrv{fn a ρ}:evT fn (E.not a) ρ=((evT fn a ρ).map (!·)):=id rfl
theorem zvK{fn b ρ}:evT fn (E.bl b) ρ=(some b):=id rfl
theorem zgd{fn p es ρ}:evT fn (E.prim p es) ρ=((zbZ fn es ρ).bind fun rs=>(zah p (rs.map zbu)).bind zbn):=id rfl
theorem znj{fn p q a b c ρ}:evT fn (E.chain p q a b c) ρ=((evE fn a ρ).bind fun x=>(evE fn b ρ).bind fun y=>(zah p [zbu x,zbu y]).bind fun z=>match z with
  | .val (.bl true)=>(evE fn c ρ).bind fun w=>(zah q [zbu y,zbu w]).bind zbn
  | .val (.bl false)=>some false
  |_=>none):=id rfl
theorem zph{fn f es ρ}:evT fn (E.call f es) ρ=((zbZ fn es ρ).bind fun rs=>(zd7 rs (fn f (rs.map zbu))).bind zbn):=id rfl
theorem zle{fn rng src cond elt ρ}:evT fn (E.comp rng src cond elt) ρ=((zbZ fn src ρ).bind fun rs=>(zaE rng rs).bind fun ds=>
  if ds.length<=line then (zco (fun d=>evT fn cond (some (.val d)::ρ)) (fun d=>evE fn elt (some (.val d)::ρ)) ds).map fun l=> !l.isEmpty else none):=id rfl
theorem zpi{fa fuel e ρ}:exS fa fuel (S.expr e) ρ=((evE (prj fa) e ρ).map fun _=>(.nx,ρ)):=id rfl
theorem zrw{fa fuel i e ρ}:exS fa fuel (S.asg i e) ρ=((evE (prj fa) e ρ).bind fun r=>if r.lent|| !free ρ i then none else some (.nx,ρ.set i (some r))):=id rfl
theorem zoo{fa fuel i j ρ}:exS fa fuel (S.mov i j) ρ=(if free ρ i then (match ρ[j]? with
  |some (some (.val d))=>some (.nx,ρ.set i (some (.val d)))
  |some (some (.obj _ d))=>some (.nx,(ρ.set j (some (.val d))).set i (some (.val d)))
  |_=>none) else none):=id rfl
theorem zop{fa fuel i e ρ}:exS fa fuel (S.app i e) ρ=(match ρ[i]? with
  |some (some x)=>(match x.cell with
   |some (.lst ds)=>(evE (prj fa) e ρ).bind fun r=>(toD r).bind fun d=>if ds.length<line then some (.nx,ρ.set i (some (x.put (.lst (ds++[d]))))) else none
   |_=>none)
  |_=>none):=id rfl
theorem zlf{fa fuel i k v ρ}:exS fa fuel (S.dset i k v) ρ=(match ρ[i]? with
  |some (some x)=>(match x.cell with
   |some (.dct t ks vs)=>(evE (prj fa) v ρ).bind fun r=>(toD r).bind fun d=>(evE (prj fa) k ρ).bind fun r=>(toD r).bind fun a=>if zbx t a&&decide (ks.length<line) then some (.nx,ρ.set i (some (x.put (zkH t ks vs a d)))) else none
   |_=>none)
  |_=>none):=id rfl
theorem zrx{fa fuel e ρ}:exS fa fuel (S.ret e) ρ=((evE (prj fa) e ρ).bind fun r=>if r.lent then none else some (.rt r,ρ)):=id rfl
theorem zlg{fa fuel i ρ}:exS fa fuel (S.retV i) ρ=(match ρ[i]? with
  |some (some (.val d))=>some (.rt (.val d),ρ)
  |some (some (.obj _ d))=>some (.rt (.obj true d),ρ.set i none)
  |_=>none):=id rfl
theorem zry{fa fuel c a b ρ}:exS fa fuel (S.ifs c a b) ρ=((evT (prj fa) c ρ).bind fun k=>if k then zaV fa fuel a ρ else zaV fa fuel b ρ):=id rfl
theorem zpj{fa fuel i rng src body ρ}:exS fa fuel (S.for_ i rng src body) ρ=((zbZ (prj fa) src ρ).bind fun rs=>if rs.any SV.lent|| !free ρ i then none else (zaE rng rs).bind fun ds=>zeT i (zaV fa fuel body) ds ρ):=id rfl
theorem zpk{fa fuel i j body ρ}:exS fa fuel (S.forV i j body) ρ=(if free ρ i then (zfE ρ j).bind fun x=>zeT i (zaV fa fuel body) x.1 x.2 else none):=id rfl
theorem zlh{fa fuel c body ρ}:exS fa fuel (S.while_ c body) ρ=(zbM (evT (prj fa) c) (zaV fa fuel body) fuel ρ):=id rfl
theorem zpl{fa fuel ρ}:exS fa fuel (S.stop) ρ=(none):=id rfl
theorem zpm{fa fuel ρ}:zaV fa fuel (Ss.nil) ρ=(some (.nx,ρ)):=id rfl
theorem znk{fa fuel s ss ρ}:zaV fa fuel (Ss.cons s ss) ρ=((exS fa fuel s ρ).bind fun x=>match x.1 with
  | .nx=>zaV fa fuel ss x.2
  |_=>some x):=id rfl
theorem on1{α:Type}{P:List α->Prop}(h: ∀a0,P [a0])(us:List α)(hl:us.length=1):P us:=by
 cases us with
 |nil=>cases hl
 |cons a0 r0=>
  cases r0 with
  |nil=>exact h a0
  |cons _ _=>simp at hl
theorem on2{α:Type}{P:List α->Prop}(h: ∀a0 a1,P [a0,a1])(us:List α)(hl:us.length=2):P us:=by
 cases us with
 |nil=>cases hl
 |cons a0 r0=>
  cases r0 with
  |nil=>cases hl
  |cons a1 r1=>
   cases r1 with
   |nil=>exact h a0 a1
   |cons _ _=>simp at hl
theorem on3{α:Type}{P:List α->Prop}(h: ∀a0 a1 a2,P [a0,a1,a2])(us:List α)(hl:us.length=3):P us:=by
 cases us with
 |nil=>cases hl
 |cons a0 r0=>
  cases r0 with
  |nil=>cases hl
  |cons a1 r1=>
   cases r1 with
   |nil=>cases hl
   |cons a2 r2=>
    cases r2 with
    |nil=>exact h a0 a1 a2
    |cons _ _=>simp at hl
theorem on4{α:Type}{P:List α->Prop}(h: ∀a0 a1 a2 a3,P [a0,a1,a2,a3])(us:List α)(hl:us.length=4):P us:=by
 cases us with
 |nil=>cases hl
 |cons a0 r0=>
  cases r0 with
  |nil=>cases hl
  |cons a1 r1=>
   cases r1 with
   |nil=>cases hl
   |cons a2 r2=>
    cases r2 with
    |nil=>cases hl
    |cons a3 r3=>
     cases r3 with
     |nil=>exact h a0 a1 a2 a3
     |cons _ _=>simp at hl
end L2.LW
set_option maxHeartbeats 4000000
namespace L2.LW
open PySem PySem.Spec PyProof.Rows
noncomputable def zvL(K:PySem.W.Frag)(a:Addr)(xs:List V):Prop:=
 ∃(o:Obj) (its:Array Value) (n:Nat),K.lookup a=some o/\o.cls= .type "list"/\o.dict=Option.none/\o.data= .seq its n/\its.size<=sizeLine/\Vals xs its.toList
noncomputable def zhp(ns:List Int)(ys:List V):List (Key×V):=(ns.map Sum.inl).zip ys
noncomputable def zhq(ns:List (List Int))(ys:List V):List (List Key×V):=(ns.map fun l=>l.map Sum.inl).zip ys
noncomputable def kT(l:List Int):D:=.tup (l.map D.int)
mutual
inductive Rep (K:PySem.W.Frag)(W:Addr->Prop)(H:Hp):D->V->Prop where
 |int (i:Int):Rep K W H (.int i) (.int i)
 |bl (b:Bool):Rep K W H (.bl b) (.bl b)
 |non:Rep K W H .non .non
 |str (x:Str):Rep K W H (.str x) (.str x)
 |tup {a:Addr} {xs:List V} {ds:List D} (h:H a=some (.tup xs)) (r:Reps K W H ds xs):Rep K W H (.tup ds) (.ref a)
 |lst {a:Addr} {xs:List V} {ds:List D} (h:(¬W a/\Rd H a (.lst xs))\/zvL K a xs) (r:Reps K W H ds xs):Rep K W H (.lst ds) (.ref a)
 |dK {a:Addr} {ns:List Int} {ys:List V} {vs:List D} (n: ¬W a) (h:H a=some (.dK (zhp ns ys))) (l:ns.length=ys.length) (r:Reps K W H vs ys):Rep K W H (.dct false (ns.map D.int) vs) (.ref a)
 |dT {a:Addr} {ns:List (List Int)} {ys:List V} {vs:List D} (n: ¬W a) (h:H a=some (.dT (zhq ns ys))) (l:ns.length=ys.length) (r:Reps K W H vs ys):Rep K W H (.dct true (ns.map kT) vs) (.ref a)
inductive Reps (K:PySem.W.Frag)(W:Addr->Prop)(H:Hp):List D->List V->Prop where
 |nil:Reps K W H [] []
 |cons {d:D} {v:V} {ds:List D} {vs:List V} (h:Rep K W H d v) (t:Reps K W H ds vs):Reps K W H (d::ds) (v::vs)
end
inductive ORep (K:PySem.W.Frag)(W:Addr->Prop)(H:Hp):D->HO->Prop where
 |lst {xs:List V} {ds:List D} (r:Reps K W H ds xs):ORep K W H (.lst ds) (.lst xs)
 |dK {ns:List Int} {ys:List V} {vs:List D} (l:ns.length=ys.length) (r:Reps K W H vs ys):ORep K W H (.dct false (ns.map D.int) vs) (.dK (zhp ns ys))
 |dT {ns:List (List Int)} {ys:List V} {vs:List D} (l:ns.length=ys.length) (r:Reps K W H vs ys):ORep K W H (.dct true (ns.map kT) vs) (.dT (zhq ns ys))
structure Ext (W:Addr->Prop)(H:Hp)(W':Addr->Prop)(H':Hp):Prop where
 keep: ∀a o,H a=some o->¬W a->H' a=some o
 tup: ∀a xs,H a=some (.tup xs)->H' a=some (.tup xs)
 frz: ∀a o u,H a=some (.frz o u)->H' a=some (.frz o u)
 win: ∀a,W' a->W a\/H a=Option.none
theorem Ext.refl(W:Addr->Prop)(H:Hp):Ext W H W H:=⟨fun _ _ h _=>h,fun _ _ h=>h,fun _ _ _ h=>h,fun _ h=>.inl h⟩
theorem Ext.out{W W':Addr->Prop}{H H':Hp}(x:Ext W H W' H'){a:Addr}{o:HO}(h:H a=some o)(n: ¬W a): ¬W' a:=fun w=>by
 rcases x.win a w with q|q
 ·exact n q
 ·rw[h] at q;cases q
theorem Ext.trans{W W1 W2:Addr->Prop}{H H1 H2:Hp}(x:Ext W H W1 H1)(y:Ext W1 H1 W2 H2):Ext W H W2 H2:=by
 refine⟨fun a o h n=>y.keep a o (x.keep a o h n) (x.out h n),fun a xs h=>y.tup a xs (x.tup a xs h),fun a o u h=>y.frz a o u (x.frz a o u h),fun a w=>?_⟩
 rcases y.win a w with q|q
 ·exact x.win a q
 ·cases e:H a with
  |none=>exact .inr rfl
  |some o=>
   by_cases hw:W a
   ·exact .inl hw
   ·rw[x.keep a o e hw] at q;cases q
theorem Ext.same{W:Addr->Prop}{H H':Hp}(s:Same H H'):Ext W H W H':=⟨fun a o h _=>s a o h,fun a xs h=>s a _ h,fun a o u h=>s a _ h,fun _ w=>.inl w⟩
section
variable {K:PySem.W.Frag} {W W':Addr->Prop} {H H':Hp}
mutual
theorem Rep.ext(x:Ext W H W' H'): ∀{d:D} {v:V},Rep K W H d v->Rep K W' H' d v
 |_,_,.int i=>.int i
 |_,_,.bl b=>.bl b
 |_,_,.non=>.non
 |_,_,.str s=>.str s
 |_,_,.dK n h l r=>.dK (x.out h n) (x.keep _ _ h n) l (Reps.ext x r)
 |_,_,.dT n h l r=>.dT (x.out h n) (x.keep _ _ h n) l (Reps.ext x r)
 |_,_,.tup h r=>.tup (x.tup _ _ h) (Reps.ext x r)
 |_,_,.lst h r=>.lst (by
   rcases h with ⟨n,h|⟨o,h⟩⟩|h
   ·exact .inl ⟨x.out h n,.inl (x.keep _ _ h n)⟩
   ·exact .inl ⟨x.out h n,.inr ⟨o,x.keep _ _ h n⟩⟩
   ·exact .inr h) (Reps.ext x r)
theorem Reps.ext(x:Ext W H W' H'): ∀{ds:List D} {vs:List V},Reps K W H ds vs->Reps K W' H' ds vs
 |_,_,.nil=>.nil
 |_,_,.cons h t=>.cons (Rep.ext x h) (Reps.ext x t)
end
mutual
theorem Rep.less(x: ∀a,W' a->W a): ∀{d:D} {v:V},Rep K W H d v->Rep K W' H d v
 |_,_,.int i=>.int i
 |_,_,.bl b=>.bl b
 |_,_,.non=>.non
 |_,_,.str s=>.str s
 |_,_,.dK n h l r=>.dK (fun w=>n (x _ w)) h l (Reps.less x r)
 |_,_,.dT n h l r=>.dT (fun w=>n (x _ w)) h l (Reps.less x r)
 |_,_,.tup h r=>.tup h (Reps.less x r)
 |_,_,.lst h r=>.lst (by
   rcases h with ⟨n,h⟩|h
   ·exact .inl ⟨fun w=>n (x _ w),h⟩
   ·exact .inr h) (Reps.less x r)
theorem Reps.less(x: ∀a,W' a->W a): ∀{ds:List D} {vs:List V},Reps K W H ds vs->Reps K W' H ds vs
 |_,_,.nil=>.nil
 |_,_,.cons h t=>.cons (Rep.less x h) (Reps.less x t)
end
mutual
theorem Rep.plain: ∀{d:D} {v:V},Rep K W H d v->LW.plain d=true->Rep K W' H d v
 |_,_,.int i,_=>.int i
 |_,_,.bl b,_=>.bl b
 |_,_,.non,_=>.non
 |_,_,.str s,_=>.str s
 |_,_,.tup h r,p=>.tup h (Reps.plain r (by simpa [LW.plain] using p))
 |_,_,.lst h r,p=>by simp[LW.plain] at p
 |_,_,.dK _ _ _ _,p=>by simp[LW.plain] at p
 |_,_,.dT _ _ _ _,p=>by simp[LW.plain] at p
theorem Reps.plain: ∀{ds:List D} {vs:List V},Reps K W H ds vs->zbe ds=true->Reps K W' H ds vs
 |_,_,.nil,_=>.nil
 |_,_,.cons h t,p=>by
  simp only[zbe,Bool.and_eq_true] at p
  exact .cons (Rep.plain h p.1) (Reps.plain t p.2)
end
theorem Reps.length: ∀{ds:List D} {vs:List V},Reps K W H ds vs->ds.length=vs.length
 |_,_,.nil=>rfl
 |_,_,.cons _ t=>by simp[Reps.length t]
theorem Reps.get: ∀{ds:List D} {vs:List V} {i:Nat} {d:D},Reps K W H ds vs->ds[i]? =some d->∃v,vs[i]? =some v/\Rep K W H d v
 |_,_,_,_,.nil,e=>by simp at e
 |_,_,0,_,.cons h _,e=>by simp at e;subst e;exact⟨_,rfl,h⟩
 |_,_,i+1,d,.cons _ t,e=>by
  obtain⟨v,h1,h2⟩:=Reps.get (i:=i) (d:=d) t (by simpa using e)
  exact⟨v,by simpa using h1,h2⟩
theorem Reps.append: ∀{ds es:List D} {vs us:List V},Reps K W H ds vs->Reps K W H es us->Reps K W H (ds++es) (vs++us)
 |_,_,_,_,.nil,s=>s
 |_,_,_,_,.cons h t,s=>.cons h (Reps.append t s)
theorem Reps.take: ∀{ds:List D} {vs:List V} (n:Nat),Reps K W H ds vs->Reps K W H (ds.take n) (vs.take n)
 |_,_,0,_=>.nil
 |_,_,_+1,.nil=>.nil
 |_,_,n+1,.cons h t=>.cons h (Reps.take n t)
theorem Reps.drop: ∀{ds:List D} {vs:List V} (n:Nat),Reps K W H ds vs->Reps K W H (ds.drop n) (vs.drop n)
 |_,_,0,r=>r
 |_,_,_+1,.nil=>.nil
 |_,_,n+1,.cons _ t=>Reps.drop n t
theorem Reps.ints: ∀(ns:List Int),Reps K W H (ns.map D.int) (ns.map V.int)
 |[]=>.nil
 |i::r=>.cons (.int i) (Reps.ints r)
theorem Reps.ofInts: ∀{ds:List D} {vs:List V} {ns:List Int},Reps K W H ds vs->ints? ds=some ns->vs=ns.map V.int
 |_,_,ns,.nil,e=>by simp[ints?] at e;subst e;rfl
 |_,_,ns,.cons (d:=d) h t,e=>by
  cases h with
  |int i=>
   simp only[ints?,jo2] at e
   obtain⟨ms,e1,rfl⟩:=e
   rw[Reps.ofInts t e1];rfl
  |_=>simp[ints?] at e
theorem ORep.ext{d:D}{o:HO}(h:ORep K W H d o)(x:Ext W H W' H'):ORep K W' H' d o:=by
 cases h with
 |lst r=>exact .lst (r.ext x)
 |dK l r=>exact .dK l (r.ext x)
 |dT l r=>exact .dT l (r.ext x)
theorem ORep.less{d:D}{o:HO}(h:ORep K W H d o)(x: ∀a,W' a->W a):ORep K W' H d o:=by
 cases h with
 |lst r=>exact .lst (r.less x)
 |dK l r=>exact .dK l (r.less x)
 |dT l r=>exact .dT l (r.less x)
theorem ORep.plain{d:D}{o:HO}(h:ORep K W H d o)(p:zb5 d=true):ORep K W' H d o:=by
 cases h with
 |lst r=>exact .lst (r.plain p)
 |dK l r=>exact .dK l (r.plain p)
 |dT l r=>exact .dT l (r.plain p)
theorem ORep.rep{d:D}{o:HO}{a:Addr}(h:ORep K W H d o)(n: ¬W a)(e:H a=some o):Rep K W H d (.ref a):=by
 cases h with
 |lst r=>exact .lst (.inl ⟨n,.inl e⟩) r
 |dK l r=>exact .dK n e l r
 |dT l r=>exact .dT n e l r
theorem ORep.kind{d:D}{o:HO}(h:ORep K W H d o):(∀xs,o≠ .tup xs)/\(∀b u,o≠ .frz b u):=by
 cases h<;>exact⟨fun _ z=>(nomatch z),fun _ _ z=>(nomatch z)⟩
noncomputable def add(W:Addr->Prop)(a:Addr):Addr->Prop:=fun b=>W b\/b=a
inductive Frz (K:PySem.W.Frag)(W:Addr->Prop)(H:Hp):SV->V->Prop where
 |val {d:D} {v:V} (h:Rep K W H d v):Frz K W H (.val d) v
 |lis {d:D} {a:Addr} {o:HO} (h: ¬W a) (e:H a=some o) (r:ORep K W H d o):Frz K W H (.obj true d) (.ref a)
 |see {d:D} {a:Addr} {o:HO} (h:W a) (e:H a=some o) (r:ORep K W H d o):Frz K W H (.obj false d) (.ref a)
inductive Res (K:PySem.W.Frag)(W:Addr->Prop)(H H':Hp):SV->V->Prop where
 |val {d:D} {v:V} (h:Rep K W H' d v):Res K W H H' (.val d) v
 |new {d:D} {a:Addr} {o:HO} (h:H a=Option.none) (e:H' a=some o) (r:ORep K (add W a) H' d o):Res K W H H' (.obj true d) (.ref a)
 |see {d:D} {a:Addr} {o:HO} (h:W a) (e:H' a=some o) (r:ORep K W H' d o):Res K W H H' (.obj false d) (.ref a)
noncomputable def Wf(W:Addr->Prop)(H:Hp):Prop:=∀a,W a->H a≠Option.none
theorem Res.frz{r:SV}{v:V}(h:Res K W H H' r v)(wf:Wf W H):Frz K W H' r v:=by
 cases h with
 |val h=>exact .val h
 |new h e r=>exact .lis (fun w=>wf _ w h) e (r.less fun b w=>.inl w)
 |see h e r=>exact .see h e r
theorem Frz.same{r:SV}{v:V}(h:Frz K W H r v)(s:Same H H'):Frz K W H' r v:=by
 cases h with
 |val h=>exact .val (h.ext (.same s))
 |lis h e r=>exact .lis h (s _ _ e) (r.ext (.same s))
 |see h e r=>exact .see h (s _ _ e) (r.ext (.same s))
noncomputable def Sees(K:PySem.W.Frag)(W:Addr->Prop)(H:Hp)(d:D)(v:V):Prop:=
 Rep K W H d v\/∃a o,v= .ref a/\H a=some o/\ORep K W H d o
theorem Frz.sees{r:SV}{v:V}(h:Frz K W H r v):Sees K W H (zbu r) v:=by
 cases h with
 |val h=>exact .inl h
 |lis h e r=>exact .inr ⟨_,_,rfl,e,r⟩
 |see h e r=>exact .inr ⟨_,_,rfl,e,r⟩
theorem Sees.lst{ds:List D}{v:V}(h:Sees K W H (.lst ds) v): ∃a xs,v= .ref a/\SqL K H a xs/\Reps K W H ds xs:=by
 rcases h with h|⟨a,o,rfl,e,r⟩
 ·cases h with
  |lst h r=>
   rcases h with ⟨_,h⟩|h
   ·exact⟨_,_,rfl,.inl h,r⟩
   ·exact⟨_,_,rfl,.inr h,r⟩
 ·cases r with
  |lst r=>exact⟨_,_,rfl,.of e,r⟩
theorem Sees.tupH{ds:List D}{v:V}(h:Sees K W H (.tup ds) v): ∃a xs,v= .ref a/\H a=some (.tup xs)/\Reps K W H ds xs:=by
 rcases h with h|⟨a,o,rfl,e,r⟩
 ·cases h with
  |tup h r=>exact⟨_,_,rfl,h,r⟩
 ·cases r
theorem Sees.tup{ds:List D}{v:V}(h:Sees K W H (.tup ds) v): ∃a xs,v= .ref a/\SqT K H a xs/\Reps K W H ds xs:=by
 obtain⟨a,xs,e,h,r⟩:=h.tupH
 exact⟨a,xs,e,.of h,r⟩
theorem Sees.dK{ks vs:List D}{v:V}(h:Sees K W H (.dct false ks vs) v): ∃a ns ys,v= .ref a/\ks=ns.map D.int/\H a=some (.dK (zhp ns ys))/\ns.length=ys.length/\Reps K W H vs ys:=by
 rcases h with h|⟨a,o,rfl,e,r⟩
 ·cases h with
  |dK n h l r=>exact⟨_,_,_,rfl,rfl,h,l,r⟩
 ·cases r with
  |dK l r=>exact⟨_,_,_,rfl,rfl,e,l,r⟩
theorem Sees.dT{ks vs:List D}{v:V}(h:Sees K W H (.dct true ks vs) v): ∃a ns ys,v= .ref a/\ks=ns.map kT/\H a=some (.dT (zhq ns ys))/\ns.length=ys.length/\Reps K W H vs ys:=by
 rcases h with h|⟨a,o,rfl,e,r⟩
 ·cases h with
  |dT n h l r=>exact⟨_,_,_,rfl,rfl,h,l,r⟩
 ·cases r with
  |dT l r=>exact⟨_,_,_,rfl,rfl,e,l,r⟩
theorem Sees.int{i:Int}{v:V}(h:Sees K W H (.int i) v):v= .int i:=by
 rcases h with h|⟨a,o,rfl,e,r⟩
 ·cases h;rfl
 ·cases r
theorem Sees.bl{i:Bool}{v:V}(h:Sees K W H (.bl i) v):v= .bl i:=by
 rcases h with h|⟨a,o,rfl,e,r⟩
 ·cases h;rfl
 ·cases r
theorem Sees.str{i:Str}{v:V}(h:Sees K W H (.str i) v):v= .str i:=by
 rcases h with h|⟨a,o,rfl,e,r⟩
 ·cases h;rfl
 ·cases r
theorem Sees.non{v:V}(h:Sees K W H .non v):v= .non:=by
 rcases h with h|⟨a,o,rfl,e,r⟩
 ·cases h;rfl
 ·cases r
theorem Frz.toD{r:SV}{v:V}{d:D}(h:Frz K W H r v)(e:LW.toD r=some d):Rep K W H d v:=by
 cases h with
 |val h=>simp[LW.toD] at e;subst e;exact h
 |lis h e' r=>simp[LW.toD] at e;subst e;exact r.rep h e'
 |see h e' r=>simp[LW.toD] at e
noncomputable def Own(ρ:LW.Env)(σ:St)(a:Addr):Prop:=∃(i:Nat) (x:SV) (d:D),ρ[i]? =some (some x)/\x.cell=some d/\σ[i]? =some (some (.ref a))
structure R (K:PySem.W.Frag)(W:Addr->Prop)(ρ:LW.Env)(σ:St)(H:Hp):Prop where
 val: ∀(i:Nat) (d:D),ρ[i]? =some (some (.val d))->∃v,σ[i]? =some (some v)/\Rep K W H d v
 nol: ∀(i:Nat) (d:D),ρ[i]? ≠some (some (.obj false d))
 own: ∀(i:Nat) (x:SV) (d:D),ρ[i]? =some (some x)->x.cell=some d->∃a o,σ[i]? =some (some (.ref a))/\W a/\H a=some o/\ORep K W H d o
 inj: ∀(i j:Nat) (x y:SV) (d e:D) (a:Addr),ρ[i]? =some (some x)->ρ[j]? =some (some y)->x.cell=some d->y.cell=some e->σ[i]? =some (some (.ref a))->σ[j]? =some (some (.ref a))->i=j
 wf:Wf W H
 len:ρ.length=σ.length
theorem R.ownW{ρ:LW.Env}{σ:St}(r:R K W ρ σ H){a:Addr}(o:Own ρ σ a):W a/\∃o d,H a=some o/\ORep K W H d o:=by
 obtain⟨i,x,d,h1,h2,h3⟩:=o
 obtain⟨b,o,e,w,q,z⟩:=r.own i x d h1 h2
 rw[h3] at e;cases e
 exact⟨w,o,d,q,z⟩
theorem R.same{ρ:LW.Env}{σ:St}(r:R K W ρ σ H)(s:Same H H'):R K W ρ σ H':=by
 refine⟨fun i d h=>?_,r.nol,fun i x d h h'=>?_,r.inj,fun a w=>?_,r.len⟩
 ·obtain⟨v,h1,h2⟩:=r.val i d h
  exact⟨v,h1,h2.ext (.same s)⟩
 ·obtain⟨a,o,h1,h2,h3,h4⟩:=r.own i x d h h'
  exact⟨a,o,h1,h2,s _ _ h3,h4.ext (.same s)⟩
 ·cases e:H a with
  |none=>exact absurd e (r.wf a w)
  |some o=>rw[s a o e];exact fun z=>nomatch z
theorem R.look{ρ:LW.Env}{σ:St}(r:R K W ρ σ H){i:Nat}{x:SV}(h:look ρ i=some x): ∃v,σ[i]? =some (some v)/\Frz K W H x v/\Res K W H H x v:=by
 unfold LW.look at h
 split at h
 ·rename_i d e
  cases h
  obtain⟨v,h1,h2⟩:=r.val i d e
  exact⟨v,h1,.val h2,.val h2⟩
 ·rename_i o d e
  cases h
  cases o with
  |false=>exact absurd e (r.nol i d)
  |true=>
   obtain⟨a,o,h1,h2,h3,h4⟩:=r.own i _ d e rfl
   exact⟨_,h1,.see h2 h3 h4,.see h2 h3 h4⟩
 ·rename_i d e
  cases h
  obtain⟨a,o,h1,h2,h3,h4⟩:=r.own i _ d e rfl
  exact⟨_,h1,.see h2 h3 h4,.see h2 h3 h4⟩
 ·cases h
noncomputable def ziq(ρ:LW.Env)(i:Nat):Prop:=∃d,ρ[i]? =some (some (.io d))
theorem zd8{ρ:LW.Env}{i:Nat}(h:LW.free ρ i=true): ¬ziq ρ i:=fun zz0=>by
 obtain⟨d,e⟩:=zz0
 unfold LW.free at h;rw[e] at h;cases h
structure SPost (K:PySem.W.Frag)(W:Addr->Prop)(ρ:LW.Env)(σ:St)(H:Hp)(W':Addr->Prop)(ρ':LW.Env)(σ':St)(H':Hp):Prop where
 r:R K W' ρ' σ' H'
 keep: ∀a o,H a=some o->¬Own ρ σ a->H' a=some o
 win: ∀a,W' a->W a\/H a=Option.none
 wout: ∀a,W a->¬Own ρ σ a->W' a/\¬Own ρ' σ' a
 io: ∀i,(ziq ρ' i↔ziq ρ i)/\(ziq ρ i->σ'[i]? =σ[i]?)
theorem SPost.trans{W1 W2:Addr->Prop}{ρ ρ1 ρ2:LW.Env}{σ σ1 σ2:St}{H1 H2:Hp}(x:SPost K W ρ σ H W1 ρ1 σ1 H1)(y:SPost K W1 ρ1 σ1 H1 W2 ρ2 σ2 H2)(r0:R K W ρ σ H):SPost K W ρ σ H W2 ρ2 σ2 H2:=by
 have no1: ∀a o,H a=some o->¬Own ρ σ a->¬Own ρ1 σ1 a:=fun a o h n z=>by
  rcases x.win a (x.r.ownW z).1 with w|w
  ·exact (x.wout a w n).2 z
  ·rw[h] at w;cases w
 refine⟨y.r,fun a o h n=>y.keep a o (x.keep a o h n) (no1 a o h n),fun a w=>?_,fun a w n=>?_,fun i=>⟨(y.io i).1.trans (x.io i).1,fun z=>((y.io i).2 ((x.io i).1.mpr z)).trans ((x.io i).2 z)⟩⟩
 ·rcases y.win a w with q|q
  ·exact x.win a q
  ·cases e:H a with
   |none=>exact .inr rfl
   |some o=>
    by_cases n:Own ρ σ a
    ·exact .inl (r0.ownW n).1
    ·rw[x.keep a o e n] at q;cases q
 ·obtain⟨w1,n1⟩:=x.wout a w n
  exact y.wout a w1 n1
theorem SPost.ext{W1:Addr->Prop}{ρ ρ1:LW.Env}{σ σ1:St}{H1:Hp}(x:SPost K W ρ σ H W1 ρ1 σ1 H1)(r0:R K W ρ σ H):Ext W H W1 H1:=by
 refine⟨fun a o h n=>x.keep a o h fun z=>n (r0.ownW z).1,fun a xs h=>x.keep a _ h fun z=>?_,fun a o u h=>x.keep a _ h fun z=>?_,x.win⟩
 ·obtain⟨_,o,d,e,q⟩:=r0.ownW z
  rw[h] at e;cases e;exact q.kind.1 xs rfl
 ·obtain⟨_,o,d,e,q⟩:=r0.ownW z
  rw[h] at e;cases e;exact q.kind.2 _ _ rfl
theorem SPost.same{ρ:LW.Env}{σ:St}(r0:R K W ρ σ H)(s:Same H H'):SPost K W ρ σ H W ρ σ H':=
 ⟨r0.same s,fun a o h _=>s a o h,fun a w=>.inl w,fun a w n=>⟨w,n⟩,fun _=>⟨.rfl,fun _=>rfl⟩⟩
end
noncomputable def zxV(ρ:LW.Env)(σ:St)(a:Addr):Prop:=∃i,ziq ρ i/\σ[i]? =some (some (.ref a))
inductive Ret (K:PySem.W.Frag)(W:Addr->Prop)(ρ:LW.Env)(σ:St)(W':Addr->Prop)(H':Hp):SV->V->Prop where
 |val {d:D} {v:V} (h:Rep K W' H' d v):Ret K W ρ σ W' H' (.val d) v
 |new {d:D} {a:Addr} {o:HO} (h:W' a) (n: ¬(W a/\¬Own ρ σ a)) (n': ¬zxV ρ σ a) (e:H' a=some o) (r:ORep K W' H' d o):Ret K W ρ σ W' H' (.obj true d) (.ref a)
noncomputable def tE(K:PySem.W.Frag)(fn:Nat->List D->Option SV)(c:E):TE:=fun σ H Q=>∃W ρ r,R K W ρ σ H/\evE fn c ρ=some r/\∀v H',Same H H'->Res K W H H' r v->Q v H'
noncomputable def tV(K:PySem.W.Frag)(fn:Nat->List D->Option SV)(c:E):TE:=fun σ H Q=>∃W ρ r,R K W ρ σ H/\evE fn c ρ=some r/\∀v H',Same H H'->Frz K W H' r v->Q v H'
noncomputable def tVs(K:PySem.W.Frag)(fn:Nat->List D->Option SV)(cs:Es):TA:=fun σ H Q=>∃W ρ rs,R K W ρ σ H/\zbZ fn cs ρ=some rs/\∀vs H',Same H H'->Paired (Frz K W H') rs vs->Q vs H'
noncomputable def tT(K:PySem.W.Frag)(fn:Nat->List D->Option SV)(c:E):TT:=fun σ H Q=>∃W ρ b,R K W ρ σ H/\evT fn c ρ=some b/\∀H',Same H H'->Q b H'
noncomputable def FlOk(K:PySem.W.Frag)(W:Addr->Prop)(ρ:LW.Env)(σ:St)(W':Addr->Prop)(ρ':LW.Env)(σ':St)(H':Hp)(D:Ends):Fl->Prop
 | .nx=>D.nx σ' H'
 | .br=>D.bk σ' H'
 | .ct=>D.ct σ' H'
 | .rt r=>∀v,Ret K W ρ σ W' H' r v->D.rt v H'
noncomputable def tSs(K:PySem.W.Frag)(ex:LW.Env->Option (Fl×LW.Env)):TS:=fun D σ H=>∃W ρ x,R K W ρ σ H/\ex ρ=some x/\∀W' σ' H',SPost K W ρ σ H W' x.2 σ' H'->FlOk K W ρ σ W' x.2 σ' H' D x.1
theorem _root_.L2.PE.imp{X:Cx}{e:Expr}{t t':TE}(h:PE X e t)(i: ∀σ H Q,t' σ H Q->t σ H Q):PE X e t':=fun pins s σ H Q I q=>h pins s σ H Q I (i σ H Q q)
theorem _root_.L2.PT.imp{X:Cx}{e:Expr}{t t':TT}(h:PT X e t)(i: ∀σ H Q,t' σ H Q->t σ H Q):PT X e t':=fun pins s σ H Q I q=>h pins s σ H Q I (i σ H Q q)
theorem _root_.L2.PW.imp{X:Cx}{e:Expr}{t t':TT}(h:PW X e t)(i: ∀σ H Q,t' σ H Q->t σ H Q):PW X e t':=fun wh pins s σ H Q I q=>h wh pins s σ H Q I (i σ H Q q)
theorem _root_.L2.PA.imp{X:Cx}{e:List Expr}{t t':TA}(h:PA X e t)(i: ∀σ H Q,t' σ H Q->t σ H Q):PA X e t':=fun pos pins s σ H Q I q=>h pos pins s σ H Q I (i σ H Q q)
theorem _root_.L2.PS.imp{X:Cx}{e:Stmt}{t t':TS}(h:PS X e t)(i: ∀D σ H,t' D σ H->t D σ H):PS X e t':=fun pins s σ H D I q=>h pins s σ H D I (i D σ H q)
theorem _root_.L2.PSs.imp{X:Cx}{e:List Stmt}{t t':TS}(h:PSs X e t)(i: ∀D σ H,t' D σ H->t D σ H):PSs X e t':=fun pins s σ H D I q=>h pins s σ H D I (i D σ H q)
end L2.LW
set_option maxHeartbeats 4000000
set_option maxHeartbeats 4000000
namespace L2.LW
open PySem PySem.Spec PyProof.Rows
noncomputable def VR(K:PySem.W.Frag)(f:List D->Option SV)(vs:List V)(H:Hp)(Q:VK):Prop:=
 ∃W ds r,Wf W H/\Paired (Sees K W H) ds vs/\f ds=some r/\∀v H',Same H H'->Res K W H H' r v->Q v H'
noncomputable def VR2(K:PySem.W.Frag)(f:List D->Option SV):R2:=fun x y H Q=>VR K f [x,y] H Q
noncomputable def VR1(K:PySem.W.Frag)(f:List D->Option SV):V->Hp->VK->Prop:=fun x H Q=>VR K f [x] H Q
theorem pr1{α β:Type}{F:α->β->Prop}{ds:List α}{x:β}(h:Paired F ds [x]): ∃d,ds=[d]/\F d x:=by
 cases h with
 |cons h t=>cases t;exact⟨_,rfl,h⟩
theorem pr2{α β:Type}{F:α->β->Prop}{ds:List α}{x y:β}(h:Paired F ds [x,y]): ∃d e,ds=[d,e]/\F d x/\F e y:=by
 cases h with
 |cons h t=>
  obtain⟨e,rfl,h2⟩:=pr1 t
  exact⟨_,e,rfl,h,h2⟩
mutual
noncomputable def zb2:D->PyData
 | .int i=>.int i
 | .bl b=>.bool b
 | .non=>.none
 | .str x=>.str x
 | .tup l=>.tuple (zb8 l)
 | .lst l=>.list (zb8 l)
 | .dct _ _ _=>.dict []
noncomputable def zb8:List D->List PyData
 |[]=>[]
 |x::xs=>zb2 x::zb8 xs
end
mutual
theorem zeH: ∀d e:D,PyData.eqv (zb2 d) (zb2 e)=eqD d e
 | .int a,e=>by cases e<;>simp[zb2,PyData.eqv,eqD]
 | .bl a,e=>by cases e<;>simp[zb2,PyData.eqv,eqD]
 | .non,e=>by cases e<;>simp[zb2,PyData.eqv,eqD]
 | .str a,e=>by cases e<;>simp[zb2,PyData.eqv,eqD]
 | .tup l,e=>by
  cases e with
  |tup m=>simp only[zb2,PyData.eqv,eqD];exact zd9 l m
  |_=>simp[zb2,PyData.eqv,eqD]
 | .lst l,e=>by
  cases e with
  |lst m=>simp only[zb2,PyData.eqv,eqD];exact zd9 l m
  |_=>simp[zb2,PyData.eqv,eqD]
 | .dct t a b,e=>by cases e<;>simp[zb2,PyData.eqv,eqD]
theorem zd9: ∀ds es:List D,PyData.eqvAll (zb8 ds) (zb8 es)=zfm ds es
 |[],[]=>by simp[zb8,PyData.eqvAll,zfm]
 |[],_::_=>by simp[zb8,PyData.eqvAll,zfm]
 |_::_,[]=>by simp[zb8,PyData.eqvAll,zfm]
 |x::xs,y::ys=>by simp only[zb8,PyData.eqvAll,zfm];rw[zeH x y,zd9 xs ys]
end
theorem zda{n:Nat}(ih: ∀d,zbv n d=true->(zb2 d).canLay0=true/\(zb2 d).depth<=n): ∀l:List D,l.all (zbv n)=true->PyData.canLayAll0 (zb8 l)=true/\PyData.depthAll (zb8 l)<=n
 |[],_=>by simp[zb8,PyData.canLayAll0,PyData.depthAll]
 |x::xs,h=>by
  simp only[List.all_cons,Bool.and_eq_true] at h
  obtain⟨h1,h2⟩:=ih x h.1
  obtain⟨h3,h4⟩:=zda ih xs h.2
  refine⟨by simp[zb8,PyData.canLayAll0,h1,h3],?_⟩
  simp only[zb8,PyData.depthAll]
  omega
theorem zaX: ∀(n:Nat) (d:D),zbv n d=true->(zb2 d).canLay0=true/\(zb2 d).depth<=n
 |_,.int _,_=>by simp[zb2,PyData.canLay0,PyData.depth]
 |_,.bl _,_=>by simp[zb2,PyData.canLay0,PyData.depth]
 |_,.non,_=>by simp[zb2,PyData.canLay0,PyData.depth]
 |_,.str _,h=>by simp[zbv] at h
 |0,.dct _ _ _,h=>by simp[zbv] at h
 |_+1,.dct _ _ _,h=>by simp[zbv] at h
 |0,.tup _,h=>by simp[zbv] at h
 |0,.lst _,h=>by simp[zbv] at h
 |n+1,.tup l,h=>by
  obtain⟨h1,h2⟩:=zda (zaX n) l (by simpa [zbv] using h)
  exact⟨by simpa [zb2,PyData.canLay0] using h1,by simp only[zb2,PyData.depth];omega⟩
 |n+1,.lst l,h=>by
  obtain⟨h1,h2⟩:=zda (zaX n) l (by simpa [zbv] using h)
  exact⟨by simpa [zb2,PyData.canLay0] using h1,by simp only[zb2,PyData.depth];omega⟩
theorem zcq(d:D): ∀l:List D,((zb8 l).any fun y=>PyData.eqv y (zb2 d))=l.any fun y=>eqD y d
 |[]=>by simp[zb8]
 |x::xs=>by simp only[zb8,List.any_cons];rw[zeH x d,zcq d xs]
section
variable {X:Cx} {pins:List (Addr×Obj)} {σ:St} {H:Hp} {s:Shared} {W:Addr->Prop}
mutual
theorem Rep.reads(I:Inv X pins σ H s): ∀{n:Nat} {d:D} {x:V} {v:Value},zbv n d=true->Rep X.K W H d x->RelV x v->∃as,Reads s.heap v (zb2 d) as
 |_,_,_,_,_,.int i,r=>by obtain⟨t,rfl⟩:=r;exact⟨_,.int _ _⟩
 |_,_,_,_,_,.bl b,r=>by cases r;exact⟨_,.bool _⟩
 |_,_,_,_,_,.non,r=>by cases r;exact⟨_,.none⟩
 |_,_,_,_,_,.str x,r=>by obtain⟨t,rfl⟩:=r;exact⟨_,.str _ _⟩
 |0,_,_,_,n,.tup h rs,r=>by simp[zbv] at n
 |0,_,_,_,n,.lst h rs,r=>by simp[zbv] at n
 |_+1,_,_,_,n,.tup h rs,r=>by
  cases r
  obtain⟨its,rv,⟨o,ho,hc,m,hd⟩,hz⟩:=I.tuple (.of h)
  obtain⟨as,q⟩:=Reps.reads I (by simpa [zbv] using n) rs rv
  exact⟨as,by simp only[zb2];exact .tuple ho hc hd (by simpa using q)⟩
 |_+1,_,_,_,n,.lst h rs,r=>by
  cases r
  obtain⟨its,rv,⟨o,m,ho,hc,_,hd⟩,hz⟩:=I.list (show SqL X.K H _ _ from h.elim (fun z=>.inl z.2) fun z=>.inr z)
  obtain⟨as,q⟩:=Reps.reads I (by simpa [zbv] using n) rs rv
  exact⟨_,by simp only[zb2];exact .list ho hc hd (by simpa using q)⟩
 |0,_,_,_,n,.dK _ _ _ _,r=>by simp[zbv] at n
 |0,_,_,_,n,.dT _ _ _ _,r=>by simp[zbv] at n
 |_+1,_,_,_,n,.dK _ _ _ _,r=>by simp[zbv] at n
 |_+1,_,_,_,n,.dT _ _ _ _,r=>by simp[zbv] at n
theorem Reps.reads(I:Inv X pins σ H s): ∀{n:Nat} {ds:List D} {xs:List V} {vs:List Value},ds.all (zbv n)=true->Reps X.K W H ds xs->Vals xs vs->∃as,ReadsAll s.heap vs (zb8 ds) as
 |_,_,_,_,_,.nil,r=>by cases r;exact⟨_,by simp only[zb8];exact .nil⟩
 |_,_,_,_,n,.cons h t,r=>by
  cases r with
  |cons r1 r2=>
   simp only[List.all_cons,Bool.and_eq_true] at n
   obtain⟨as,q1⟩:=Rep.reads I n.1 h r1
   obtain⟨bs,q2⟩:=Reps.reads I n.2 t r2
   exact⟨_,by simp only[zb8];exact .cons q1 q2⟩
end
theorem Sees.reads(I:Inv X pins σ H s){n:Nat}{d:D}{x:V}{v:Value}(hn:zbv n d=true)(h:Sees X.K W H d x)(r:RelV x v): ∃as,Reads s.heap v (zb2 d) as:=by
 rcases h with h|⟨a,o,rfl,e,rs⟩
 ·exact h.reads I hn r
 ·cases r
  cases rs with
  |lst rs=>
   obtain⟨its,rv,⟨o,m,ho,hc,_,hd⟩,hz⟩:=I.list (show SqL X.K H _ _ from .of e)
   cases n with
   |zero=>simp[zbv] at hn
   |succ n=>
    obtain⟨as,q⟩:=rs.reads I (n:=n) (by simpa [zbv] using hn) rv
    exact⟨_,by simp only[zb2];exact .list ho hc hd (by simpa using q)⟩
  |dK l r=>cases n<;>simp[zbv] at hn
  |dT l r=>cases n<;>simp[zbv] at hn
theorem Sees.readsL(I:Inv X pins σ H s){n:Nat}{l:List D}{x:V}{v:Value}(hn:l.all (zbv n)=true)(h:Sees X.K W H (.lst l) x)(r:RelV x v): ∃as,Reads s.heap v (zb2 (.lst l)) as:=
 h.reads I (n:=n+1) (by simpa [zbv] using hn) r
theorem Sees.readsT(I:Inv X pins σ H s){n:Nat}{l:List D}{x:V}{v:Value}(hn:l.all (zbv n)=true)(h:Sees X.K W H (.tup l) x)(r:RelV x v): ∃as,Reads s.heap v (zb2 (.tup l)) as:=
 h.reads I (n:=n+1) (by simpa [zbv] using hn) r
end
theorem zaQ{H:Hp}{p:Addr}(h:H p=Option.none)(o:HO):Same H (upd H p o):=fun b u q=>by rw[zaN (zbk q h)];exact q
theorem zcr{K:PySem.W.Frag}{W:Addr->Prop}{H:Hp}{p:Addr}{ds:List D}{xs:List V}(hp:H p=Option.none)(r:Reps K W H ds xs):Res K W H (upd H p (.lst xs)) (.lis true ds) (.ref p):=by
 refine .new hp za8 (.lst (r.ext ⟨fun a o h _=>zaQ hp _ a o h,fun a xs h=>zaQ hp _ a _ h,fun a o u h=>zaQ hp _ a _ h,fun a w=>?_⟩))
 rcases w with w|rfl
 ·exact .inl w
 ·exact .inr hp
theorem zli{K:PySem.W.Frag}{W:Addr->Prop}{H:Hp}{p:Addr}{ds:List D}{xs:List V}(hp:H p=Option.none)(r:Reps K W H ds xs):Res K W H (upd H p (.tup xs)) (.val (.tup ds)) (.ref p):=
 .val (.tup za8 (r.ext (.same (zaQ hp _))))
section
variable {X:Cx}
theorem zge:line=sizeLine:=by rw[sizeLine_eq];rfl
theorem zdb: ∀{l:List D} {ns:List Int},ints? l=some ns->l=ns.map D.int
 |[],ns,e=>by simp[ints?] at e;subst e;rfl
 |d::r,ns,e=>by
  cases d with
  |int i=>
   simp only[ints?,jo2] at e
   obtain⟨ms,e1,rfl⟩:=e
   rw[zdb e1];rfl
  |_=>simp[ints?] at e
theorem zeU(ns:List Int):(ns.map Sum.inl).map kV=ns.map V.int:=by
 rw[List.map_map];rfl
theorem zds: ∀(a b:List Int),zfm (a.map D.int) (b.map D.int)=decide (a=b)
 |[],[]=>by simp[zfm]
 |[],_::_=>by simp[zfm]
 |_::_,[]=>by simp[zfm]
 |x::xs,y::ys=>by
  rw[Bool.eq_iff_iff]
  simp[zfm,eqD,zds xs ys]
theorem zjm{a b:List Int}(h:(a.map Sum.inl:List Key)=b.map Sum.inl):a=b:=(List.map_inj_right (fun _ _ z=>Sum.inl.inj z)).mp h
theorem zjn(k d:D)(ks:List D):kix (d::ks) k=if eqD d k then some 0 else (kix ks k).map (· +1):=by
 unfold kix;rw[List.findIdx?_cons]
theorem zlj: ∀{ns:List Int} {ys:List V},ns.length=ys.length->∀i:Int,zfC (zhp ns ys) (.inl i)=(kix (ns.map D.int) (.int i)).bind fun j=>ys[j]?
 |[],[],_,i=>rfl
 |n::ns,y::ys,h,i=>by
  have ih:=zlj (ns:=ns) (ys:=ys) (by simpa using h) i
  show zfC ((Sum.inl n,y)::zhp ns ys) (.inl i)=_
  rw[List.map_cons,zjn]
  by_cases e:n=i
  ·rw[zdp (by simp[e])];simp[eqD,e]
  ·rw[zdq (by simp[e]),ih]
   have:eqD (.int n) (.int i)=false:=by simp[eqD,e]
   rw[this]
   cases kix (ns.map D.int) (.int i)<;>simp
theorem zlk: ∀{ns:List (List Int)} {ys:List V},ns.length=ys.length->∀i:List Int,zfC (zhq ns ys) (i.map Sum.inl)=(kix (ns.map kT) (kT i)).bind fun j=>ys[j]?
 |[],[],_,i=>rfl
 |n::ns,y::ys,h,i=>by
  have ih:=zlk (ns:=ns) (ys:=ys) (by simpa using h) i
  show zfC ((n.map Sum.inl,y)::zhq ns ys) (i.map Sum.inl)=_
  rw[List.map_cons,zjn]
  by_cases e:n=i
  ·rw[zdp (by simp[e])]
   have:eqD (kT n) (kT i)=true:=by simp[kT,eqD,zds,e]
   rw[this];rfl
  ·rw[zdq (fun z=>e (zjm z)),ih]
   have:eqD (kT n) (kT i)=false:=by simp[kT,eqD,zds,e]
   rw[this]
   cases kix (ns.map kT) (kT i)<;>simp
theorem zoq{ks:List D}{k:D}{j:Nat}(h:kix ks k=some j):j<ks.length:=by
 unfold kix at h
 obtain⟨h1,_⟩:=List.findIdx?_eq_some_iff_getElem.mp h
 exact h1
theorem ziD{ns:List Int}{ys:List V}(h:ns.length=ys.length){i:Int}:(zfC (zhp ns ys) (.inl i)).isSome=(kix (ns.map D.int) (.int i)).isSome:=by
 rw[zlj h]
 cases e:kix (ns.map D.int) (.int i) with
 |none=>rfl
 |some j=>have:=zoq e;simp at this;simp;omega
theorem ziE{ns:List (List Int)}{ys:List V}(h:ns.length=ys.length){i:List Int}:(zfC (zhq ns ys) (i.map Sum.inl)).isSome=(kix (ns.map kT) (kT i)).isSome:=by
 rw[zlk h]
 cases e:kix (ns.map kT) (kT i) with
 |none=>rfl
 |some j=>have:=zoq e;simp at this;simp;omega
theorem zvM{K:PySem.W.Frag}{W:Addr->Prop}{H:Hp}{ns:List Int}{ys:List V}{vs:List D}{i:Int}{d:D}(h:ns.length=ys.length)(r:Reps K W H vs ys)(e:zo9 (ns.map D.int) vs (.int i)=some d): ∃y,zfC (zhp ns ys) (.inl i)=some y/\Rep K W H d y:=by
 unfold zo9 at e
 rw[jo1] at e
 obtain⟨j,e1,e2⟩:=e
 obtain⟨y,e3,e4⟩:=r.get e2
 exact⟨y,by rw[zlj h,e1];exact e3,e4⟩
theorem zvN{K:PySem.W.Frag}{W:Addr->Prop}{H:Hp}{ns:List (List Int)}{ys:List V}{vs:List D}{i:List Int}{d:D}(h:ns.length=ys.length)(r:Reps K W H vs ys)(e:zo9 (ns.map kT) vs (kT i)=some d): ∃y,zfC (zhq ns ys) (i.map Sum.inl)=some y/\Rep K W H d y:=by
 unfold zo9 at e
 rw[jo1] at e
 obtain⟨j,e1,e2⟩:=e
 obtain⟨y,e3,e4⟩:=r.get e2
 exact⟨y,by rw[zlk h,e1];exact e3,e4⟩
theorem zbw:OpR X (binaryOp .Add) (VR2 X.K (zah .add)):=by
 rintro pins s σ H x y v u Q I rx ry ⟨W,ds,r,wf,hs,hf,q⟩
 obtain⟨d,e,rfl,h1,h2⟩:=pr2 hs
 replace hf:zty [d,e]=some r:=hf
 unfold zty at hf
 split at hf
 ·rename_i a b z;cases z;cases hf
  cases h1.int;cases h2.int
  exact zqT pins s σ H _ _ v u Q I rx ry ⟨_,_,rfl,rfl,q _ H (.refl H) (.val (.int _))⟩
 ·rename_i a b z;cases z
  split at hf
  ·rename_i hl
   cases hf
   obtain⟨p,xs,rfl,hp,rp⟩:=h1.lst
   obtain⟨p2,xs2,rfl,hp2,rp2⟩:=h2.lst
   cases rx;cases ry
   obtain⟨its,rv,⟨⟨c1,d1,da1,sl1⟩,n,ho,hc,hdd,hd⟩,hz⟩:=I.list hp
   obtain⟨its2,rv2,⟨⟨c2,d2,da2,sl2⟩,n2,ho2,hc2,hdd2,hd2⟩,hz2⟩:=I.list hp2
   simp only at hc hd hdd hc2 hd2 hdd2
   subst hc hd hdd hc2 hd2 hdd2
   have l1:=rv.length
   have l2:=rv2.length
   have l3:=rp.length
   have l4:=rp2.length
   have le:=zge
   refine concat_meets ⟨_,ho,rfl⟩ ⟨_,ho2,rfl⟩ noFill_list_add seq_list_add PySem.F.slot_list_add PySem.F.entry_list_add (PySem.F.args_list_add_2 _ _) (list_addW p p2 its.toArray its2.toArray n n2 Option.none Option.none sl1 sl2 (by simp;omega)) ⟨ho,ho2,?_⟩
   have e:its.toArray++its2.toArray=(its++its2).toArray:=by simp
   rw[e]
   exact⟨.ref _,_,I.lnew (t':=s.toks) (rv.append rv2) (by rw[List.length_append];omega),rfl,q _ _ (zaQ I.fresh _) (zcr I.fresh (rp.append rp2))⟩
  ·cases hf
 ·cases hf
theorem zdt:OpR X (binaryOp .Sub) (VR2 X.K (zah .sub)):=by
 rintro pins s σ H x y v u Q I rx ry ⟨W,ds,r,wf,hs,hf,q⟩
 obtain⟨d,e,rfl,h1,h2⟩:=pr2 hs
 replace hf:zvq [d,e]=some r:=hf
 unfold zvq at hf
 split at hf
 ·rename_i a b z;cases z;cases hf
  cases h1.int;cases h2.int
  exact zqU pins s σ H _ _ v u Q I rx ry ⟨_,_,rfl,rfl,q _ H (.refl H) (.val (.int _))⟩
 ·cases hf
theorem zfF:OpR X (binaryOp .Mult) (VR2 X.K (zah .mul)):=by
 rintro pins s σ H x y v u Q I rx ry ⟨W,ds,r,wf,hs,hf,q⟩
 obtain⟨d,e,rfl,h1,h2⟩:=pr2 hs
 replace hf:ztz [d,e]=some r:=hf
 unfold ztz at hf
 split at hf
 ·rename_i a b z;cases z
  split at hf
  ·rename_i hc
   cases hf
   cases h1.int;cases h2.int
   exact zqV pins s σ H _ _ v u Q I rx ry ⟨_,_,rfl,rfl,hc,q _ H (.refl H) (.val (.int _))⟩
  ·cases hf
 ·cases hf
theorem zfG:OpR X (binaryOp .Mod) (VR2 X.K (zah .mod)):=by
 rintro pins s σ H x y v u Q I rx ry ⟨W,ds,r,wf,hs,hf,q⟩
 obtain⟨d,e,rfl,h1,h2⟩:=pr2 hs
 replace hf:ztA [d,e]=some r:=hf
 unfold ztA at hf
 split at hf
 ·rename_i a b z;cases z
  split at hf
  ·rename_i hc
   cases hf
   cases h1.int;cases h2.int
   exact zqW pins s σ H _ _ v u Q I rx ry ⟨_,_,rfl,rfl,hc,q _ H (.refl H) (.val (.int _))⟩
  ·cases hf
 ·cases hf
theorem zll:UnR X (unaryOp .USub) (VR1 X.K (zah .neg)):=by
 rintro pins s σ H x v Q I rx ⟨W,ds,r,wf,hs,hf,q⟩
 obtain⟨d,rfl,h1⟩:=pr1 hs
 replace hf:zvs [d]=some r:=hf
 unfold zvs at hf
 split at hf
 ·rename_i a z;cases z;cases hf
  cases h1.int
  exact zqX pins s σ H _ v Q I rx ⟨_,rfl,q _ H (.refl H) (.val (.int _))⟩
 ·cases hf
theorem zrz{A:Around}(hu:A.units+64<cLine){d e:D}(h:zbv 8 d=true):A.units+min (zb2 d).depth (zb2 e).depth<cLine:=by
 have h1:=(zaX 8 d h).2
 have h2:min (zb2 d).depth (zb2 e).depth<=(zb2 d).depth:=Nat.min_le_left _ _
 omega
theorem zlm(hu:X.A.units+64<cLine):OpR X (compareOp .Eq) (VR2 X.K (zah .eq)):=by
 rintro pins s σ H x y v u Q I rx ry ⟨W,ds,r,wf,hs,hf,q⟩
 obtain⟨d,e,rfl,h1,h2⟩:=pr2 hs
 replace hf:pEq [d,e]=some r:=hf
 simp only[pEq] at hf
 split at hf
 ·rename_i hc
  rw[Bool.and_eq_true] at hc
  cases hf
  obtain⟨as,ra⟩:=h1.reads I hc.1 rx
  obtain⟨bs,rb⟩:=h2.reads I hc.2 ry
  refine SeqAt.compareEq_reads ra rb (zaX 8 d hc.1).1 (zaX 8 e hc.2).1 (zrz hu hc.1) ?_
  rw[zeH]
  exact⟨.bl _,H,I,rfl,q _ H (.refl H) (.val (.bl _))⟩
 ·cases hf
theorem zln(hu:X.A.units+64<cLine):OpR X (compareOp .NotEq) (VR2 X.K (zah .ne)):=by
 rintro pins s σ H x y v u Q I rx ry ⟨W,ds,r,wf,hs,hf,q⟩
 obtain⟨d,e,rfl,h1,h2⟩:=pr2 hs
 replace hf:pNe [d,e]=some r:=hf
 simp only[pNe] at hf
 split at hf
 ·rename_i hc
  rw[Bool.and_eq_true] at hc
  cases hf
  obtain⟨as,ra⟩:=h1.reads I hc.1 rx
  obtain⟨bs,rb⟩:=h2.reads I hc.2 ry
  refine SeqAt.compareNe_reads ra rb (zaX 8 d hc.1).1 (zaX 8 e hc.2).1 (zrz hu hc.1) ?_
  rw[zeH]
  exact⟨.bl _,H,I,rfl,q _ H (.refl H) (.val (.bl _))⟩
 ·cases hf
theorem znl{A:Around}(hu:A.units+64<cLine){d:D}{l:List PyData}(h:zbv 8 d=true):A.units+1+min (PyData.depthAll l) (zb2 d).depth<cLine:=by
 have h1:=(zaX 8 d h).2
 have h2:min (PyData.depthAll l) (zb2 d).depth<=(zb2 d).depth:=Nat.min_le_right _ _
 omega
theorem zvO(hu:X.A.units+64<cLine):OpR X (compareOp .In) (VR2 X.K (zah .inn)):=by
 rintro pins s σ H x y v u Q I rx ry ⟨W,ds,r,wf,hs,hf,q⟩
 obtain⟨d,e,rfl,h1,h2⟩:=pr2 hs
 replace hf:pIn [d,e]=some r:=hf
 unfold pIn at hf
 split at hf
 ·rename_i x t ks vs z;cases z
  split at hf
  ·rename_i hk
   cases hf
   cases t with
   |false=>
    cases d with
    |int i=>
     cases h1.int
     obtain⟨a,ns,ys,rfl,rfl,hH,hl,_⟩:=h2.dK
     cases ry
     exact zwX (by omega) I (DGet.k (k:=.inl i) hH) rx fun s' I'=>⟨.bl _,H,I',rfl,q _ H (.refl H) (.val (by rw[ziD hl];exact .bl _))⟩
    |_=>simp[zbx] at hk
   |true=>
    cases d with
    |tup l=>
     obtain⟨ms,hms⟩: ∃ms,ints? l=some ms:=by simp only[zbx,Option.isSome_iff_exists] at hk;exact hk
     obtain⟨b,xs,rfl,hb,rp⟩:=h1.tupH
     obtain⟨a,ns,ys,rfl,rfl,hH,hl,_⟩:=h2.dT
     cases ry
     have e1:=rp.ofInts hms
     have e2:=zdb hms
     subst e1 e2
     exact zwX (by omega) I (DGet.t (k:=ms.map Sum.inl) hH (by rw[hb,zeU])) rx fun s' I'=>⟨.bl _,H,I',rfl,q _ H (.refl H) (.val (by rw[ziE hl];exact .bl _))⟩
    |_=>simp[zbx] at hk
  ·cases hf
 ·rename_i d l z;cases z
  split at hf
  ·rename_i hc
   rw[Bool.and_eq_true] at hc
   cases hf
   obtain⟨as,ra⟩:=h1.reads I hc.1 rx
   obtain⟨bs,rb⟩:=h2.readsT I hc.2 ry
   simp only[zb2] at rb
   refine SeqAt.in_tuple_reads rb ra (zda (zaX 8) l hc.2).1 (zaX 8 d hc.1).1 (znl hu hc.1) ?_
   rw[zcq]
   exact⟨.bl _,H,I,rfl,q _ H (.refl H) (.val (.bl _))⟩
  ·cases hf
 ·rename_i d l z;cases z
  split at hf
  ·rename_i hc
   rw[Bool.and_eq_true] at hc
   cases hf
   obtain⟨as,ra⟩:=h1.reads I hc.1 rx
   obtain⟨bs,rb⟩:=h2.readsL I hc.2 ry
   simp only[zb2] at rb
   refine SeqAt.in_list_reads rb ra (zda (zaX 8) l hc.2).1 (zaX 8 d hc.1).1 (znl hu hc.1) ?_
   rw[zcq]
   exact⟨.bl _,H,I,rfl,q _ H (.refl H) (.val (.bl _))⟩
  ·cases hf
 ·cases hf
theorem zhr(hu:X.A.units+64<cLine):OpR X (compareOp .NotIn) (VR2 X.K (zah .nin)):=by
 rintro pins s σ H x y v u Q I rx ry ⟨W,ds,r,wf,hs,hf,q⟩
 obtain⟨d,e,rfl,h1,h2⟩:=pr2 hs
 replace hf:zng [d,e]=some r:=hf
 unfold zng at hf
 split at hf
 ·rename_i x t ks vs z;cases z
  split at hf
  ·rename_i hk
   cases hf
   cases t with
   |false=>
    cases d with
    |int i=>
     cases h1.int
     obtain⟨a,ns,ys,rfl,rfl,hH,hl,_⟩:=h2.dK
     cases ry
     exact zk4 (by omega) I (DGet.k (k:=.inl i) hH) rx fun s' I'=>⟨.bl _,H,I',rfl,q _ H (.refl H) (.val (by rw[ziD hl];exact .bl _))⟩
    |_=>simp[zbx] at hk
   |true=>
    cases d with
    |tup l=>
     obtain⟨ms,hms⟩: ∃ms,ints? l=some ms:=by simp only[zbx,Option.isSome_iff_exists] at hk;exact hk
     obtain⟨b,xs,rfl,hb,rp⟩:=h1.tupH
     obtain⟨a,ns,ys,rfl,rfl,hH,hl,_⟩:=h2.dT
     cases ry
     have e1:=rp.ofInts hms
     have e2:=zdb hms
     subst e1 e2
     exact zk4 (by omega) I (DGet.t (k:=ms.map Sum.inl) hH (by rw[hb,zeU])) rx fun s' I'=>⟨.bl _,H,I',rfl,q _ H (.refl H) (.val (by rw[ziE hl];exact .bl _))⟩
    |_=>simp[zbx] at hk
  ·cases hf
 ·rename_i d l z;cases z
  split at hf
  ·rename_i hc
   rw[Bool.and_eq_true] at hc
   cases hf
   obtain⟨as,ra⟩:=h1.reads I hc.1 rx
   obtain⟨bs,rb⟩:=h2.readsT I hc.2 ry
   simp only[zb2] at rb
   refine SeqAt.notIn_tuple_reads rb ra (zda (zaX 8) l hc.2).1 (zaX 8 d hc.1).1 (znl hu hc.1) ?_
   rw[zcq]
   exact⟨.bl _,H,I,rfl,q _ H (.refl H) (.val (.bl _))⟩
  ·cases hf
 ·rename_i d l z;cases z
  split at hf
  ·rename_i hc
   rw[Bool.and_eq_true] at hc
   cases hf
   obtain⟨as,ra⟩:=h1.reads I hc.1 rx
   obtain⟨bs,rb⟩:=h2.readsL I hc.2 ry
   simp only[zb2] at rb
   refine SeqAt.notIn_list_reads rb ra (zda (zaX 8) l hc.2).1 (zaX 8 d hc.1).1 (znl hu hc.1) ?_
   rw[zcq]
   exact⟨.bl _,H,I,rfl,q _ H (.refl H) (.val (.bl _))⟩
  ·cases hf
 ·cases hf
theorem zjo: ∀x y:List Int,LW.lexLt x y=HT.lexLt x y
 |[],[]=>rfl
 |[],_::_=>rfl
 |_::_,[]=>rfl
 |a::x,b::y=>by rw[HT.lexLt_cons,LW.lexLt,zjo x y]
theorem zrA(hu:X.A.units+64<cLine):OpR X (compareOp .Lt) (VR2 X.K (zah .lt)):=by
 rintro pins s σ H x y v u Q I rx ry ⟨W,ds,r,wf,hs,hf,q⟩
 obtain⟨d,e,rfl,h1,h2⟩:=pr2 hs
 replace hf:pLt [d,e]=some r:=hf
 unfold pLt at hf
 split at hf
 ·rename_i a b z;cases z;cases hf
  cases h1.int;cases h2.int
  exact zvd pins s σ H _ _ v u Q I rx ry ⟨_,_,rfl,rfl,q _ H (.refl H) (.val (.bl _))⟩
 ·rename_i a b z;cases z
  simp only[jo1] at hf
  obtain⟨ns,e1,ms,e2,hf⟩:=hf
  cases hf
  obtain⟨p,xs,rfl,hp,rp⟩:=h1.tup
  obtain⟨p2,xs2,rfl,hp2,rp2⟩:=h2.tup
  rw[rp.ofInts e1] at hp
  rw[rp2.ofInts e2] at hp2
  refine zq3 (by omega) pins s σ H _ _ v u Q I rx ry ⟨_,_,ns,ms,rfl,rfl,hp,hp2,?_⟩
  rw[<-zjo]
  exact q _ H (.refl H) (.val (.bl _))
 ·cases hf
theorem znm:OpR X (compareOp .LtE) (VR2 X.K (zah .le)):=by
 rintro pins s σ H x y v u Q I rx ry ⟨W,ds,r,wf,hs,hf,q⟩
 obtain⟨d,e,rfl,h1,h2⟩:=pr2 hs
 replace hf:pLe [d,e]=some r:=hf
 unfold pLe at hf
 split at hf
 ·rename_i a b z;cases z;cases hf
  cases h1.int;cases h2.int
  exact zve pins s σ H _ _ v u Q I rx ry ⟨_,_,rfl,rfl,q _ H (.refl H) (.val (.bl _))⟩
 ·cases hf
theorem zrB:OpR X (compareOp .Gt) (VR2 X.K (zah .gt)):=by
 rintro pins s σ H x y v u Q I rx ry ⟨W,ds,r,wf,hs,hf,q⟩
 obtain⟨d,e,rfl,h1,h2⟩:=pr2 hs
 replace hf:pGt [d,e]=some r:=hf
 unfold pGt at hf
 split at hf
 ·rename_i a b z;cases z;cases hf
  cases h1.int;cases h2.int
  exact zvf pins s σ H _ _ v u Q I rx ry ⟨_,_,rfl,rfl,q _ H (.refl H) (.val (.bl _))⟩
 ·cases hf
theorem zlo{K:PySem.W.Frag}{W:Addr->Prop}{H:Hp}{ds:List D}{xs:List V}{i:Int}{d:D}(r:Reps K W H ds xs)(h:LW.atI ds i=some d): ∃x,L2.atI xs i=some x/\Rep K W H d x:=by
 unfold LW.atI at h
 unfold L2.atI
 rw[jo1] at h
 obtain⟨j,h1,h2⟩:=h
 obtain⟨x,e,q⟩:=r.get h2
 refine⟨x,?_,q⟩
 rw[<-r.length]
 rw[jo1]
 exact⟨j,h1,e⟩
theorem zlp{value slice:Expr}{pins:List (Addr×Obj)}{s:Shared}{σ:St}{H:Hp}{a:Addr}{y v:V}{u:Value}{Q:VK}(hu:X.A.units+64<cLine)(I:Inv X pins σ H s)(g:DGet H a y (some v))(ry:RelV y u)(q:Q v H)
  (hs:subscripted slice false (.ref a) u=operate [.ref a,u] (getItem (.ref a) u)):wpAny (model X.prog X.w) X.A (subscriptTail value slice (.ref a) u) (EP X pins σ Q) X.xe s:=by
 have hT:=ziz I g
 unfold subscriptTail
 refine wpAny_bind ?_
 rw[getitemInPython_of_ne hT.not_modules]
 refine wpAny_bind (wpAny_specialOf hT PySem.F.slot_dict_getitem.lookup ?_)
 have fin:wpAny (model X.prog X.w) X.A (subscripted slice false (.ref a) u) (fun r s₃=>wpAny (model X.prog X.w) X.A (letTemporaryGo value (.ref a) r >>= fun _=>pure r) (EP X pins σ Q) X.xe s₃) X.xe s:=by
  rw[hs]
  refine wpAny_operating (wpAny_mono (zk3 (Q:=EP X pins σ Q) (by omega) I g ry fun w' s' I' rv=>⟨v,H,I',rv,q⟩) (fun r s₃ h₃=>wpAny_bind (wpAny_letTemporaryGo (wpAny_pure h₃))) fun _ _ x=>x)
 first
  |exact wpAny_pure (wpAny_bind fin)
  |exact wpAny_bind (wpAny_pure (wpAny_bind fin))
  |exact wpAny_pure (wpAny_bind (wpAny_pure (wpAny_bind fin)))
  |exact wpAny_bind (wpAny_bind (wpAny_pure fin))
theorem zrC(hu:X.A.units+64<cLine):IxR X (VR2 X.K (zah .idx)):=by
 rintro value slice pins s σ H x y v u Q I rx ry ⟨W,ds,r,wf,hs,hf,q⟩ hsub
 obtain⟨d,e,rfl,h1,h2⟩:=pr2 hs
 replace hf:ztB [d,e]=some r:=hf
 unfold ztB at hf
 split at hf
 ·rename_i t ks vs k z;cases z
  split at hf
  ·rename_i hk
   rw[jo2] at hf
   obtain⟨d',e1,rfl⟩:=hf
   cases t with
   |false=>
    cases e with
    |int i=>
     cases h2.int
     obtain⟨a,ns,ys,rfl,rfl,hH,hl,rp⟩:=h1.dK
     cases rx
     obtain⟨y,e2,ry'⟩:=zvM hl rp e1
     exact zlp hu I (by rw[<-e2];exact DGet.k (k:=.inl i) hH) ry (q _ H (.refl H) (.val ry')) hsub
    |_=>simp[zbx] at hk
   |true=>
    cases e with
    |tup l=>
     obtain⟨ms,hms⟩: ∃ms,ints? l=some ms:=by simp only[zbx,Option.isSome_iff_exists] at hk;exact hk
     obtain⟨b,xs,rfl,hb,rpb⟩:=h2.tupH
     obtain⟨a,ns,ys,rfl,rfl,hH,hl,rp⟩:=h1.dT
     cases rx
     have z1:=rpb.ofInts hms
     have z2:=zdb hms
     subst z1 z2
     obtain⟨y,e2,ry'⟩:=zvN hl rp e1
     exact zlp hu I (by rw[<-e2];exact DGet.t (k:=ms.map Sum.inl) hH (by rw[hb,zeU])) ry (q _ H (.refl H) (.val ry')) hsub
    |_=>simp[zbx] at hk
  ·cases hf
 ·rename_i l i z;cases z
  rw[jo2] at hf
  obtain⟨d,e1,rfl⟩:=hf
  obtain⟨p,xs,rfl,hp,rp⟩:=h1.tup
  cases h2.int
  obtain⟨z,e2,rz⟩:=zlo rp e1
  exact zq4 value slice pins s σ H _ _ v u Q I rx ry ⟨p,xs,i,z,rfl,rfl,hp,e2,q _ H (.refl H) (.val rz)⟩ hsub
 ·rename_i l i z;cases z
  rw[jo2] at hf
  obtain⟨d,e1,rfl⟩:=hf
  obtain⟨p,xs,rfl,hp,rp⟩:=h1.lst
  cases h2.int
  obtain⟨z,e2,rz⟩:=zlo rp e1
  exact zo3 value slice pins s σ H _ _ v u Q I rx ry ⟨p,xs,i,z,rfl,rfl,hp,e2,q _ H (.refl H) (.val rz)⟩ hsub
 ·cases hf
theorem zdu:CallR X (.builtin "len") (VR X.K (zah .len)):=by
 rintro pins s σ H xs us Q I rv ⟨W,ds,r,wf,hs,hf,q⟩
 replace hf:zvt ds=some r:=hf
 unfold zvt at hf
 split at hf
 ·cases hf
  cases hs with
  |cons h1 t=>
   cases t
   obtain⟨p,ys,rfl,hp,rp⟩:=h1.tup
   refine zek pins s σ H _ us Q I rv ⟨p,ys,rfl,.inr hp,?_⟩
   rw[<-rp.length]
   exact q _ H (.refl H) (.val (.int _))
 ·cases hf
  cases hs with
  |cons h1 t=>
   cases t
   obtain⟨p,ys,rfl,hp,rp⟩:=h1.lst
   refine zek pins s σ H _ us Q I rv ⟨p,ys,rfl,.inl hp,?_⟩
   rw[<-rp.length]
   exact q _ H (.refl H) (.val (.int _))
 ·cases hf
theorem zfH:CallR X (.builtin "abs") (VR X.K (zah .abs)):=by
 rintro pins s σ H xs us Q I rv ⟨W,ds,r,wf,hs,hf,q⟩
 replace hf:zvu ds=some r:=hf
 unfold zvu at hf
 split at hf
 ·cases hf
  cases hs with
  |cons h1 t=>
   cases t
   cases h1.int
   exact zm9 pins s σ H _ us Q I rv ⟨_,rfl,q _ H (.refl H) (.val (.int _))⟩
 ·cases hf
theorem zpn(hc:X.calm=true):CallR X (.builtin "min") (VR X.K (zah .min2)):=by
 rintro pins s σ H xs us Q I rv ⟨W,ds,r,wf,hs,hf,q⟩
 replace hf:zpa ds=some r:=hf
 unfold zpa at hf
 split at hf
 ·cases hf
  cases hs with
  |cons h1 t=>
   cases t with
   |cons h2 t=>
    cases t
    cases h1.int;cases h2.int
    exact zkW hc pins s σ H _ us Q I rv ⟨_,_,rfl,q _ H (.refl H) (.val (.int _))⟩
 ·cases hf
theorem zpo(hc:X.calm=true):CallR X (.builtin "max") (VR X.K (zah .max2)):=by
 rintro pins s σ H xs us Q I rv ⟨W,ds,r,wf,hs,hf,q⟩
 replace hf:zpb ds=some r:=hf
 unfold zpb at hf
 split at hf
 ·cases hf
  cases hs with
  |cons h1 t=>
   cases t with
   |cons h2 t=>
    cases t
    cases h1.int;cases h2.int
    exact zkV hc pins s σ H _ us Q I rv ⟨_,_,rfl,q _ H (.refl H) (.val (.int _))⟩
 ·cases hf
theorem zlq:CallR X (.type "list") (VR X.K (zah .toList)):=by
 rintro pins s σ H xs us Q I rv ⟨W,ds,r,wf,hs,hf,q⟩
 replace hf:ziB ds=some r:=hf
 unfold ziB at hf
 split at hf
 ·cases hf
  cases hs with
  |cons h1 t=>
   cases t
   obtain⟨p,ys,rfl,hp,rp⟩:=h1.tup
   exact zel pins s σ H _ us Q I rv ⟨p,ys,rfl,.inr hp,fun l hl=>q _ _ (zaQ hl _) (zcr hl rp)⟩
 ·cases hf
  cases hs with
  |cons h1 t=>
   cases t
   obtain⟨p,ys,rfl,hp,rp⟩:=h1.lst
   exact zel pins s σ H _ us Q I rv ⟨p,ys,rfl,.inl hp,fun l hl=>q _ _ (zaQ hl _) (zcr hl rp)⟩
 ·cases hf
theorem znn:CallR X (.type "tuple") (VR X.K (zah .toTup)):=by
 rintro pins s σ H xs us Q I rv ⟨W,ds,r,wf,hs,hf,q⟩
 replace hf:zk8 ds=some r:=hf
 unfold zk8 at hf
 split at hf
 ·cases hf
  cases hs with
  |cons h1 t=>
   cases t
   obtain⟨p,ys,rfl,hp,rp⟩:=h1.tupH
   exact zdo pins s σ H _ us Q I rv ⟨p,ys,rfl,.inr ⟨.of hp,q _ H (.refl H) (.val (.tup hp rp))⟩⟩
 ·cases hf
  cases hs with
  |cons h1 t=>
   cases t
   obtain⟨p,ys,rfl,hp,rp⟩:=h1.lst
   exact zdo pins s σ H _ us Q I rv ⟨p,ys,rfl,.inl ⟨hp,fun l hl=>q _ _ (zaQ hl _) (zli hl rp)⟩⟩
 ·cases hf
end
end L2.LW
set_option maxHeartbeats 4000000
namespace L2.LW
open PySem PySem.Spec PyProof.Rows
structure IE (X:Cx)(fn:Nat->List D->Option SV)(e:Expr)(c:E):Prop where
 h:PE X e (tE X.K fn c)
structure IA (X:Cx)(fn:Nat->List D->Option SV)(es:List Expr)(cs:Es):Prop where
 h:PA X es (tVs X.K fn cs)
structure IT (X:Cx)(fn:Nat->List D->Option SV)(e:Expr)(c:E):Prop where
 h:PT X e (tT X.K fn c)
structure IW (X:Cx)(fn:Nat->List D->Option SV)(e:Expr)(c:E):Prop where
 h:PW X e (tT X.K fn c)
theorem Res.back{K:PySem.W.Frag}{W:Addr->Prop}{H H1 H2:Hp}{r:SV}{v:V}(h:Res K W H1 H2 r v)(s:Same H H1):Res K W H H2 r v:=by
 cases h with
 |val h=>exact .val h
 |new h e r=>exact .new (s.free h) e r
 |see h e r=>exact .see h e r
theorem R.wf'{K:PySem.W.Frag}{W:Addr->Prop}{ρ:LW.Env}{σ:St}{H H':Hp}(r:R K W ρ σ H)(s:Same H H'):Wf W H':=(r.same s).wf
theorem zgf{K:PySem.W.Frag}{W:Addr->Prop}{H:Hp}: ∀{rs:List SV} {vs:List V},Paired (Frz K W H) rs vs->Paired (Sees K W H) (rs.map zbu) vs
 |_,_,.nil=>.nil
 |_,_,.cons h t=>.cons h.sees (zgf t)
theorem zgg{K:PySem.W.Frag}{W:Addr->Prop}{H:Hp}: ∀{rs:List SV} {vs:List V} {ds:List D},Paired (Frz K W H) rs vs->zhn rs=some ds->Reps K W H ds vs
 |_,_,_,.nil,e=>by simp[zhn] at e;subst e;exact .nil
 |_,_,_,.cons h t,e=>by
  simp only[zhn,jo1,jo2] at e
  obtain⟨d,e1,ds,e2,rfl⟩:=e
  exact .cons (h.toD e1) (zgg t e2)
section
variable {es:List Expr} {env:PySem.Env}
theorem zab{a b}:starEach (.Name a b::es) env=(false,eval (.Name a b) env)::starEach es env:=rfl
theorem zac{a b c}:starEach (.Constant a b c::es) env=(false,eval (.Constant a b c) env)::starEach es env:=rfl
theorem zaw{a b c d}:starEach (.BinOp a b c d::es) env=(false,eval (.BinOp a b c d) env)::starEach es env:=rfl
theorem zaC{a b c d}:starEach (.Call a b c d::es) env=(false,eval (.Call a b c d) env)::starEach es env:=rfl
theorem zal{a b c}:starEach (.Subscript a b c::es) env=(false,eval (.Subscript a b c) env)::starEach es env:=rfl
theorem zax{a b c}:starEach (.Tuple a b c::es) env=(false,eval (.Tuple a b c) env)::starEach es env:=rfl
theorem zhs{a b}:starEach (.List a b::es) env=(false,eval (.List a b) env)::starEach es env:=rfl
theorem zbN{a b c d}:starEach (.ListComp a b c d::es) env=(false,eval (.ListComp a b c d) env)::starEach es env:=rfl
theorem zaj{pos:Pos}:(backTo pos (starEach [] env)).any (·.1)=false:=rfl
theorem zai{pos:Pos}{e:Expr}(h:starEach (e::es) env=(false,eval e env)::starEach es env)(t:(backTo pos (starEach es env)).any (·.1)=false):(backTo pos (starEach (e::es) env)).any (·.1)=false:=by
 rw[h];simpa [backTo] using t
theorem zlr{a b}: ∀whole,isTrue (.Name a b) env whole=(do let v <-whole;standAt (Expr.Name a b).pos;holding [v] (truthy v)):=fun _=>rfl
theorem zbS{a b c d}: ∀whole,isTrue (.Call a b c d) env whole=(do let v <-whole;standAt (Expr.Call a b c d).pos;holding [v] (truthy v)):=fun _=>rfl
end
section
variable {X:Cx} {fn:Nat->List D->Option SV} {a b c e:Expr} {ca cb cc ce:E} {es:List Expr} {cs:Es} {pos p:Pos} {x:Str}
theorem IE.v(h:IE X fn e ce):PE X e (tV X.K fn ce):=h.h.imp fun σ H Q ⟨W,ρ,r,hR,he,q⟩=>⟨W,ρ,r,hR,he,fun v H' s x=>q v H' s (x.frz hR.wf)⟩
theorem zan{i:Int}{j:Nat}:IE X fn (.Constant (.int i) j pos) (.int i):=.mk <| zqJ.imp fun σ H Q zz3=>by
 obtain⟨W,ρ,r,hR,he,q⟩:=zz3
 simp only[zon] at he;cases he;exact q _ H (.refl H) (.val (.int i))
theorem zrD{i:Bool}{j:Nat}:IE X fn (.Constant (.bool i) j pos) (.bl i):=.mk <| zuZ.imp fun σ H Q zz3=>by
 obtain⟨W,ρ,r,hR,he,q⟩:=zz3
 simp only[zvI] at he;cases he;exact q _ H (.refl H) (.val (.bl i))
theorem zno{j:Nat}:IE X fn (.Constant .none j pos) .non:=.mk <| zqK.imp fun σ H Q zz3=>by
 obtain⟨W,ρ,r,hR,he,q⟩:=zz3
 simp only[zro] at he;cases he;exact q _ H (.refl H) (.val .non)
theorem zaf(i:Nat)(hN:X.N[i]? =some x)(hv:Vis X.env.scope x)(hd:(x==("__debug__":Str))=false:=by decide)(hcd:(x==("__classdict__":Str))=false:=by decide):IE X fn (.Name x pos) (.var i):=
 .mk <| (zfA hN hv hd hcd).imp fun σ H Q zz3=>by
  obtain⟨W,ρ,r,hR,he,q⟩:=zz3
  simp only[zrp] at he
  obtain⟨v,h1,_,h3⟩:=hR.look he
  exact⟨v,h1,q v H (.refl H) h3⟩
theorem zgh{i:Int}{t:Tok}(hg:Gl X x)(hm:X.mg x=some (.int i t))(hd:(x==("__debug__":Str))=false:=by decide):IE X fn (.Name x pos) (.int i):=
 .mk <| (zoP hg hm (v:=.int i) ⟨t,rfl⟩ hd).imp fun σ H Q zz3=>by
  obtain⟨W,ρ,r,hR,he,q⟩:=zz3
  simp only[zon] at he;cases he;exact q _ H (.refl H) (.val (.int i))
theorem zao:IA X fn [] .nil:=.mk <| zhe.imp fun σ H Q zz3=>by
 obtain⟨W,ρ,rs,hR,he,q⟩:=zz3
 simp only[zby] at he;cases he;exact q _ H (.refl H) .nil
theorem zad(ha:IE X fn e ce)(hr:IA X fn es cs)(hs:starEach (e::es) X.env=(false,eval e X.env)::starEach es X.env:=by rfl):IA X fn (e::es) (.cons ce cs):=
 .mk <| (zd5 ha.v hr.h hs).imp fun σ H Q zz3=>by
  obtain⟨W,ρ,rs,hR,he,q⟩:=zz3
  simp only[zbc,jo1,jo2] at he
  obtain⟨r,e1,rs',e2,rfl⟩:=he
  exact⟨W,ρ,r,hR,e1,fun v H1 s1 f1=>⟨W,ρ,rs',hR.same s1,e2,fun vs H2 s2 f2=>q _ H2 (s1.trans s2) (.cons (f1.same s2) f2)⟩⟩
theorem zgi{K:PySem.W.Frag}{p:Prim}{W:Addr->Prop}{ρ:LW.Env}{σ:St}{H H1:Hp}{Q:VK}{rs:List SV}{vs:List V}{r:SV}(hR:R K W ρ σ H)(s1:Same H H1)(f:Paired (Frz K W H1) rs vs)
  (e:zah p (rs.map zbu)=some r) (q: ∀v H',Same H H'->Res K W H H' r v->Q v H'):VR K (zah p) vs H1 Q:=
 ⟨W,rs.map zbu,r,hR.wf' s1,zgf f,e,fun v H' s2 h=>q v H' (s1.trans s2) (h.back s1)⟩
theorem zjp{K:PySem.W.Frag}{p:Prim}{ρ:LW.Env}{σ:St}{H:Hp}{Q:VK}{W:Addr->Prop}{r:SV}(hR:R K W ρ σ H)(he:evE fn (.prim p (.cons ca (.cons cb .nil))) ρ=some r)(q: ∀v H',Same H H'->Res K W H H' r v->Q v H'):
  tOp (VR2 K (zah p)) (tV K fn ca) (tV K fn cb) σ H Q:=by
 simp only[zb1,zby,zbc,jo1,jo2] at he
 obtain⟨rs,⟨r1,e1,rs',⟨r2,e2,rs'',e3,rfl⟩,rfl⟩,e4⟩:=he
 cases e3
 exact⟨W,ρ,r1,hR,e1,fun v1 H1 s1 f1=>⟨W,ρ,r2,hR.same s1,e2,fun v2 H2 s2 f2=>zgi hR (s1.trans s2) (.cons (f1.same s2) (.cons f2 .nil)) e4 q⟩⟩
theorem zcc{op:Operator}{pr:Prim}(ho:OpR X (binaryOp op) (VR2 X.K (zah pr)))(ha:IE X fn a ca)(hb:IE X fn b cb):IE X fn (.BinOp a op b pos) (.prim pr (.cons ca (.cons cb .nil))):=
 .mk <| (zva ho ha.v hb.v).imp fun σ H Q ⟨W,ρ,r,hR,he,q⟩=>zjp hR he q
theorem zvP{op:UnaryOp}{pr:Prim}(ho:UnR X (unaryOp op) (VR1 X.K (zah pr)))(ha:IE X fn a ca):IE X fn (.UnaryOp op a pos) (.prim pr (.cons ca .nil)):=
 .mk <| (zvb ho ha.v).imp fun σ H Q zz3=>by
  obtain⟨W,ρ,r,hR,he,q⟩:=zz3
  simp only[zb1,zby,zbc,jo1,jo2] at he
  obtain⟨rs,⟨r1,e1,rs',e3,rfl⟩,e4⟩:=he
  cases e3
  exact⟨W,ρ,r1,hR,e1,fun v1 H1 s1 f1=>zgi hR s1 (.cons f1 .nil) e4 q⟩
theorem zls{op:CmpOp}{pr:Prim}(ho:OpR X (compareOp op) (VR2 X.K (zah pr)))(ha:IE X fn a ca)(hb:IE X fn b cb)(hm:behindInMarks op b=false):IE X fn (.Compare a [op] [b] pos) (.prim pr (.cons ca (.cons cb .nil))):=
 .mk <| (zoV ho ha.v hb.v hm).imp fun σ H Q ⟨W,ρ,r,hR,he,q⟩=>zjp hR he q
theorem zd4(hu:X.A.units+64<cLine)(ha:IE X fn a ca)(hb:IE X fn b cb)(hs:zk1 b):IE X fn (.Subscript a b pos) (.prim .idx (.cons ca (.cons cb .nil))):=
 .mk <| (zvl (zrC hu) ha.v hb.v hs).imp fun σ H Q ⟨W,ρ,r,hR,he,q⟩=>zjp hR he q
theorem zlt{K:PySem.W.Frag}{pr:Prim}{ρ:LW.Env}{σ:St}{H:Hp}{Q:VK}{W:Addr->Prop}{r:SV}(hR:R K W ρ σ H)(he:evE fn (.prim pr cs) ρ=some r)(q: ∀v H',Same H H'->Res K W H H' r v->Q v H'):
  tCB (VR K (zah pr)) (tVs K fn cs) σ H Q:=by
 simp only[zb1,jo1] at he
 obtain⟨rs,e1,e2⟩:=he
 exact⟨W,ρ,rs,hR,e1,fun vs H1 s1 f=>zgi hR s1 f e2 q⟩
theorem za0{id:String}{pr:Prim}(hc:CallR X (.builtin id) (VR X.K (zah pr)))(hg:Gl X x)(hm:X.mg x=none)(hv:bootBuiltins x=some (.builtin id))(ha:IA X fn (e::es) cs)(hn:x≠"__name__":=by decide)(hdb:(x==("__debug__":Str))=false:=by decide)
  (he:starEach (e::es) X.env=(false,eval e X.env)::starEach es X.env:=by rfl) (hpl:(backTo pos (starEach es X.env)).any (·.1)=false:=by rfl):IE X fn (.Call (.Name x p) (e::es) [] pos) (.prim pr cs):=
 .mk <| (zf6 hc hg hm hv ha.h hn hdb he hpl).imp fun σ H Q ⟨W,ρ,r,hR,h,q⟩=>zlt hR h q
theorem zjq{T:String}{pr:Prim}(hc:CallR X (.type T) (VR X.K (zah pr)))(hg:Gl X x)(hm:X.mg x=none)(hv:bootBuiltins x=some (.type T))(ha:IA X fn (e::es) cs)(hn:x≠"__name__":=by decide)(hdb:(x==("__debug__":Str))=false:=by decide)
  (he:starEach (e::es) X.env=(false,eval e X.env)::starEach es X.env:=by rfl) (hpl:(backTo pos (starEach es X.env)).any (·.1)=false:=by rfl):IE X fn (.Call (.Name x p) (e::es) [] pos) (.prim pr cs):=
 .mk <| (zhj hc hg hm hv ha.h hn hdb he hpl).imp fun σ H Q ⟨W,ρ,r,hR,h,q⟩=>zlt hR h q
theorem zgj{K:PySem.W.Frag}{W:Addr->Prop}{H:Hp}: ∀{rs:List SV} {ds:List D},zhn rs=some ds->ds.length=rs.length
 |[],_,e=>by simp[zhn] at e;subst e;rfl
 |r::rs,_,e=>by
  simp only[zhn,jo1,jo2] at e
  obtain⟨d,e1,ds,e2,rfl⟩:=e
  simp[zgj (K:=K) (W:=W) (H:=H) e2]
noncomputable def zlu:Es->Nat
 | .nil=>0
 | .cons _ r=>zlu r+1
theorem zgk: ∀{cs:Es} {ρ:LW.Env} {rs:List SV},zbZ fn cs ρ=some rs->rs.length=zlu cs
 | .nil,_,_,e=>by simp only[zby] at e;cases e;rfl
 | .cons c cs,_,_,e=>by
  simp only[zbc,jo1,jo2] at e
  obtain⟨r,e1,rs',e2,rfl⟩:=e
  simp[zlu,zgk e2]
theorem zbX{k:Nat}(h:IA X fn es cs)(hl:zlu cs<=1000:=by decide):IE X fn (.Tuple es k pos) (.tup cs):=
 .mk <| (zq0 h.h).imp fun σ H Q zz3=>by
  obtain⟨W,ρ,r,hR,he,q⟩:=zz3
  simp only[zrq,jo1,jo2] at he
  obtain⟨rs,e1,ds,e2,rfl⟩:=he
  refine⟨W,ρ,rs,hR,e1,fun vs H1 s1 f=>?_⟩
  have r1:=zgg f e2
  have l1:=r1.length
  have l2:=zgj (K:=X.K) (W:=W) (H:=H) e2
  have l3:=zgk e1
  exact⟨Nat.le_of_lt (zcp (by omega)),fun p hp=>q _ _ (s1.trans (zaQ hp _)) ((zli hp r1).back s1)⟩
theorem zea(h:IA X fn es cs)(hl:zlu cs<=1000:=by decide):IE X fn (.List es pos) (.lst cs):=
 .mk <| (zq1 h.h).imp fun σ H Q zz3=>by
  obtain⟨W,ρ,r,hR,he,q⟩:=zz3
  simp only[zrr,jo1,jo2] at he
  obtain⟨rs,e1,ds,e2,rfl⟩:=he
  refine⟨W,ρ,rs,hR,e1,fun vs H1 s1 f=>?_⟩
  have r1:=zgg f e2
  have l1:=r1.length
  have l2:=zgj (K:=X.K) (W:=W) (H:=H) e2
  have l3:=zgk e1
  exact⟨Nat.le_of_lt (zcp (by omega)),fun p hp=>q _ _ (s1.trans (zaQ hp _)) ((zcr hp r1).back s1)⟩
theorem zkb{op:BoolOp}(h:IE X fn a ca):IE X fn (.BoolOp op [a] pos) ca:=.mk (zqO h.h)
theorem zht{zck:List Expr}(ha:IE X fn a ca)(hb:IE X fn (.BoolOp .And (b::zck) pos) cb):IE X fn (.BoolOp .And (a::b::zck) pos) (.and ca cb):=
 .mk <| (zqP ha.h hb.h).imp fun σ H Q zz3=>by
  obtain⟨W,ρ,r,hR,he,q⟩:=zz3
  simp only[zrs,jo1] at he
  obtain⟨r1,e1,e2⟩:=he
  refine⟨W,ρ,r1,hR,e1,fun v H1 s1 f=>?_⟩
  split at e2
  ·cases f with
   |val h=>
    cases h
    exact⟨true,rfl,by rw[if_pos rfl];exact⟨W,ρ,r,hR.same s1,e2,fun v H2 s2 h=>q v H2 (s1.trans s2) (h.back s1)⟩⟩
  ·cases f with
   |val h=>
    cases h;cases e2
    exact⟨false,rfl,by rw[if_neg Bool.false_ne_true];exact q _ H1 s1 (.val (.bl false))⟩
  ·cases e2
theorem zvQ(ha:IE X fn a ca):IE X fn (.UnaryOp .Not a pos) (.not ca):=
 .mk <| (zqQ ha.h).imp fun σ H Q zz3=>by
  obtain⟨W,ρ,r,hR,he,q⟩:=zz3
  simp only[zrt,jo1] at he
  obtain⟨r1,e1,e2⟩:=he
  refine⟨W,ρ,r1,hR,e1,fun v H1 s1 f=>?_⟩
  split at e2
  ·cases f with
   |val h=>
    cases h;cases e2
    exact⟨_,rfl,q _ H1 s1 (.val (.bl _))⟩
  ·cases e2
theorem zvR(hc:IT X fn c cc)(ha:IE X fn a ca)(hb:IE X fn b cb):IE X fn (.IfExp c a b pos) (.ite cc ca cb):=
 .mk <| (zm2 hc.h ha.h hb.h).imp fun σ H Q zz3=>by
  obtain⟨W,ρ,r,hR,he,q⟩:=zz3
  simp only[zru,jo1] at he
  obtain⟨k,e1,e2⟩:=he
  refine⟨W,ρ,k,hR,e1,fun H1 s1=>?_⟩
  cases k with
  |true=>rw[if_pos rfl] at e2⊢;exact⟨W,ρ,r,hR.same s1,e2,fun v H2 s2 h=>q v H2 (s1.trans s2) (h.back s1)⟩
  |false=>rw[if_neg Bool.false_ne_true] at e2⊢;exact⟨W,ρ,r,hR.same s1,e2,fun v H2 s2 h=>q v H2 (s1.trans s2) (h.back s1)⟩
theorem zpp{op op':CmpOp}{p q:Prim}(ho:OpR X (compareOp op) (VR2 X.K (zah p)))(ho':OpR X (compareOp op') (VR2 X.K (zah q)))(ha:IE X fn a ca)(hb:IE X fn b cb)(hc:IE X fn c cc)
  (hm:lastMarks [op,op'] [b,c]=false:=by with_unfolding_all rfl):IE X fn (.Compare a [op,op'] [b,c] pos) (.chain p q ca cb cc):=
 .mk <| (zm6 ho ho' ha.v hb.v hc.v hm).imp fun σ H Q zz3=>by
  obtain⟨W,ρ,r,hR,he,hq⟩:=zz3
  simp only[zni,jo1] at he
  obtain⟨r1,e1,r2,e2,z,e3,e4⟩:=he
  refine⟨W,ρ,r1,hR,e1,fun v1 H1 s1 f1=>⟨W,ρ,r2,hR.same s1,e2,fun v2 H2 s2 f2=>?_⟩⟩
  refine⟨W,_,z,hR.wf' (s1.trans s2),.cons (f1.same s2).sees (.cons f2.sees .nil),e3,fun v H3 s3 h3=>?_⟩
  split at e4
  ·cases h3 with
   |val h3=>
    cases h3
    simp only[jo1] at e4
    obtain⟨r3,e5,e6⟩:=e4
    refine⟨true,rfl,?_⟩
    rw[if_pos rfl]
    have s13:=(s1.trans s2).trans s3
    refine⟨W,ρ,r3,hR.same s13,e5,fun v4 H4 s4 f4=>?_⟩
    exact⟨W,_,r,hR.wf' (s13.trans s4),.cons ((f2.same s3).same s4).sees (.cons f4.sees .nil),e6,fun v5 H5 s5 h5=>hq v5 H5 (s13.trans (s4.trans s5)) (h5.back (s13.trans s4))⟩
  ·cases h3 with
   |val h3=>
    cases h3;cases e4
    exact⟨false,rfl,by rw[if_neg Bool.false_ne_true];exact hq _ H3 ((s1.trans s2).trans s3) (.val (.bl false))⟩
  ·cases e4
theorem IW.t(h:IW X fn e ce):IT X fn e ce:=.mk (PW.pt h.h)
theorem zkc(h:IT X fn a ca):IW X fn (.BoolOp .Or [a] pos) ca:=.mk (zqM h.h)
theorem znp{zck:List Expr}(ha:IT X fn a ca)(hb:IW X fn (.BoolOp .Or (b::zck) pos) cb):IW X fn (.BoolOp .Or (a::b::zck) pos) (.or ca cb):=
 .mk <| (zu1 ha.h hb.h).imp fun σ H Q zz3=>by
  obtain⟨W,ρ,k,hR,he,q⟩:=zz3
  simp only[zvJ,jo1] at he
  obtain⟨k1,e1,e2⟩:=he
  refine⟨W,ρ,k1,hR,e1,fun H1 s1=>?_⟩
  cases k1 with
  |true=>rw[if_pos rfl] at e2⊢;cases e2;exact q H1 s1
  |false=>rw[if_neg Bool.false_ne_true] at e2⊢;exact⟨W,ρ,k,hR.same s1,e2,fun H2 s2=>q H2 (s1.trans s2)⟩
theorem zfo(ha:IT X fn a ca):IT X fn (.UnaryOp .Not a pos) (.not ca):=
 .mk <| (zqN ha.h).imp fun σ H Q zz3=>by
  obtain⟨W,ρ,k,hR,he,q⟩:=zz3
  simp only[zrv,jo2] at he
  obtain⟨k1,e1,rfl⟩:=he
  exact⟨W,ρ,k1,hR,e1,fun H1 s1=>q H1 s1⟩
noncomputable def zgl:Prim->Bool
 | .eq=>true| .ne=>true| .lt=>true| .le=>true| .gt=>true| .ge=>true| .inn=>true| .nin=>true| .isN=>true| .notN=>true| .eqS=>true| .neS=>true
 |_=>false
theorem ziF{b:Bool}{r:SV}(h:zd3 b=some r):r= .val (.bl b):=by cases h;rfl
theorem zfI{p:Prim}(hp:zgl p=true){ds:List D}{r:SV}(h:zah p ds=some r): ∃b,r= .val (.bl b):=by
 cases p<;>first|cases hp|skip
 all_goals
  simp only[zah] at h
  first|unfold zw0 at h|unfold zw1 at h|unfold pEq at h|unfold pNe at h|unfold pLt at h|unfold pLe at h|unfold pGt at h|unfold pGe at h|unfold pIn at h|unfold zng at h|unfold zwZ at h|unfold zrb at h
  split at h
  all_goals first
   |exact⟨_,ziF h⟩
   |cases h
   |(split at h<;>first|exact⟨_,ziF h⟩|cases h)
   |(simp only[jo1] at h;obtain⟨_,_,_,_,h⟩:=h;exact⟨_,ziF h⟩)
theorem zdc{op:CmpOp}{pr:Prim}(hp:zgl pr=true)(ho:OpR X (compareOp op) (VR2 X.K (zah pr)))(ha:IE X fn a ca)(hb:IE X fn b cb)(hm:behindInMarks op b=false):IT X fn (.Compare a [op] [b] pos) (.prim pr (.cons ca (.cons cb .nil))):=
 .mk <| (zoW ho ha.v hb.v hm).imp fun σ H Q zz3=>by
  obtain⟨W,ρ,k,hR,he,q⟩:=zz3
  have he':(evE fn (.prim pr (.cons ca (.cons cb .nil))) ρ).bind zbn=some k:=by
   rw[zgd] at he
   rw[zb1]
   simp only[jo1] at he⊢
   obtain⟨rs,e1,r,e2,e3⟩:=he
   exact⟨r,⟨rs,e1,e2⟩,e3⟩
  rw[jo1] at he'
  obtain⟨r,e1,e2⟩:=he'
  have e1':=e1
  rw[zb1] at e1'
  simp only[jo1] at e1'
  obtain⟨rs,_,e3⟩:=e1'
  obtain⟨b,rfl⟩:=zfI hp e3
  simp only[zbn] at e2
  cases e2
  exact zjp hR e1 fun v H' s h=>by
   cases h with
   |val h=>cases h;exact⟨_,rfl,q H' s⟩
theorem zpq{op op':CmpOp}{p q:Prim}(hp:zgl p=true)(hq':zgl q=true)(ho:OpR X (compareOp op) (VR2 X.K (zah p)))(ho':OpR X (compareOp op') (VR2 X.K (zah q)))(ha:IE X fn a ca)(hb:IE X fn b cb)(hc:IE X fn c cc)
  (hm:lastMarks [op,op'] [b,c]=false:=by with_unfolding_all rfl):IT X fn (.Compare a [op,op'] [b,c] pos) (.chain p q ca cb cc):=
 .mk <| (zm7 ho ho' ha.v hb.v hc.v hm).imp fun σ H Q zz3=>by
  obtain⟨W,ρ,k,hR,he,hq⟩:=zz3
  simp only[znj,jo1] at he
  obtain⟨r1,e1,r2,e2,z,e3,e4⟩:=he
  refine⟨W,ρ,r1,hR,e1,fun v1 H1 s1 f1=>⟨W,ρ,r2,hR.same s1,e2,fun v2 H2 s2 f2=>?_⟩⟩
  refine⟨W,_,z,hR.wf' (s1.trans s2),.cons (f1.same s2).sees (.cons f2.sees .nil),e3,fun v H3 s3 h3=>?_⟩
  split at e4
  ·cases h3 with
   |val h3=>
    cases h3
    simp only[jo1] at e4
    obtain⟨r3,e5,r4,e6,e7⟩:=e4
    refine⟨true,rfl,?_⟩
    rw[if_pos rfl]
    have s13:=(s1.trans s2).trans s3
    refine⟨W,ρ,r3,hR.same s13,e5,fun v4 H4 s4 f4=>?_⟩
    refine⟨W,_,r4,hR.wf' (s13.trans s4),.cons ((f2.same s3).same s4).sees (.cons f4.sees .nil),e6,fun v5 H5 s5 h5=>?_⟩
    obtain⟨b5,rfl⟩:=zfI hq' e6
    simp only[zbn] at e7
    cases e7
    cases h5 with
    |val h5=>cases h5;exact⟨_,rfl,hq H5 (s13.trans (s4.trans s5))⟩
  ·cases h3 with
   |val h3=>
    cases h3;cases e4
    exact⟨false,rfl,by rw[if_neg Bool.false_ne_true];exact⟨false,rfl,hq H3 ((s1.trans s2).trans s3)⟩⟩
  ·cases e4
theorem zpr{K:PySem.W.Frag}{W:Addr->Prop}{H:Hp}{r:SV}{v:V}{k:Bool}(f:Frz K W H r v)(h:zbn r=some k):zvg K v H k:=by
 unfold zbn at h
 split at h
 ·cases h;cases f with|val f=>cases f;rfl
 ·cases h;cases f with|val f=>cases f;rfl
 ·cases h;cases f with|val f=>cases f;rfl
 ·rename_i l
  cases h
  obtain⟨a,xs,rfl,hq,rp⟩:=Frz.sees f |>.tup
  refine .inr (.inl ⟨xs,hq,?_⟩)
  cases rp<;>rfl
 ·cases h
  obtain⟨a,xs,rfl,hq,rp⟩:=Frz.sees f |>.lst
  refine .inl ⟨xs,hq,?_⟩
  cases rp<;>rfl
 ·cases h
  obtain⟨a,xs,rfl,hq,rp⟩:=Frz.sees f |>.lst
  refine .inl ⟨xs,hq,?_⟩
  cases rp<;>rfl
 ·cases h
theorem zdv(hE:IE X fn e ce)(hev: ∀ρ,evT fn ce ρ=(evE fn ce ρ).bind zbn)(he: ∀whole,isTrue e X.env whole=(do let v <-whole;standAt e.pos;holding [v] (truthy v)):=by intro _;rfl):IT X fn e ce:=
 .mk <| (zm8 hE.v he).imp fun σ H Q zz3=>by
  obtain⟨W,ρ,k,hR,ht,q⟩:=zz3
  rw[hev,jo1] at ht
  obtain⟨r,e1,e2⟩:=ht
  exact⟨W,ρ,r,hR,e1,fun v H1 s1 f=>⟨k,zpr f e2,q H1 s1⟩⟩
theorem zor(i:Nat): ∀ρ,evT fn (.var i) ρ=(evE fn (.var i) ρ).bind zbn:=fun ρ=>id rfl
theorem zgm(p:Prim)(cs:Es): ∀ρ,evT fn (.prim p cs) ρ=(evE fn (.prim p cs) ρ).bind zbn:=fun ρ=>by rw[zgd,zb1,Option.bind_assoc]
theorem zdd(f:Nat)(cs:Es): ∀ρ,evT fn (.call f cs) ρ=(evE fn (.call f cs) ρ).bind zbn:=fun ρ=>by rw[zph,zld,Option.bind_assoc]
end
end L2.LW
set_option maxHeartbeats 4000000
namespace L2.LW
open PySem PySem.Spec PyProof.Rows
noncomputable def spI(K:PySem.W.Frag)(fn:Nat->List D->Option SV)(i:Nat):Sp:=fun vs H Q _=>∃W ds r,Wf W H/\Reps K W H ds vs/\fn i ds=some r/\∀v H',Same H H'->Res K W H H' r v->Q v H'
structure ARep (K:PySem.W.Frag)(W:Addr->Prop)(H:Hp)(io:List Nat)(ds:List D)(vs:List V):Prop where
 len:ds.length=vs.length
 val: ∀(k:Nat) (d:D),ds[k]? =some d->k∉io->∃v,vs[k]? =some v/\Rep K W H d v
 obj: ∀(k:Nat) (d:D),ds[k]? =some d->k∈io->∃a o,vs[k]? =some (.ref a)/\W a/\H a=some o/\ORep K W H d o
 inj: ∀(j k:Nat) (a:Addr),j∈io->k∈io->vs[j]? =some (.ref a)->vs[k]? =some (.ref a)->j=k
noncomputable def ioV(io:List Nat)(vs:List V)(a:Addr):Prop:=∃k∈io,vs[k]? =some (.ref a)
noncomputable def zw2(K:PySem.W.Frag)(W:Addr->Prop)(H:Hp)(io:List Nat)(vs:List V)(outs:List D):Prop:=
 Paired (fun k d=>∃a o,vs[k]? =some (.ref a)/\H a=some o/\ORep K W H d o) io outs
noncomputable def spA(K:PySem.W.Frag)(fa:Nat->List D->Option Ans)(i:Nat)(io:List Nat):Sp:=fun vs H Q _=>∃W ds r outs,Wf W H/\ARep K W H io ds vs/\fa i ds=some (.ok r outs)/\
 ∀v H',(∀a o,H a=some o->¬ioV io vs a->H' a=some o)->zw2 K W H' io vs outs->Res K W H H' r v->Q v H'
theorem Reps.get'{K:PySem.W.Frag}{W:Addr->Prop}{H:Hp}{ds:List D}{vs:List V}(r:Reps K W H ds vs):ARep K W H [] ds vs:=
 ⟨r.length,fun k d h _=>r.get h,fun k d _ h=>(by cases h),fun j k a h=>(by cases h)⟩
theorem zjr{fa:Nat->List D->Option Ans}{i:Nat}{ds:List D}{r:SV}(h:prj fa i ds=some r):fa i ds=some (.ok r []):=by
 unfold prj at h
 split at h
 ·rename_i r' e;cases h;exact e
 ·cases h
theorem zau{Pg:Program}{w:World}{K:PySem.W.Frag}{mg:Str->Option Value}{base:Heap}{k:Nat}{f:Addr}{fd:FuncData}{ps:List Str}{fa:Nat->List D->Option Ans}{i:Nat}{io:List Nat}
  (F:FnOk Pg w K mg base CX0 k f fd ps (spA K fa i io)) (h:io=[]):FnOk Pg w K mg base CX0 k f fd ps (spI K (prj fa) i):=by
 subst h
 exact F.imp fun vs H Q E ⟨W,ds,r,wf,rp,e,q⟩=>⟨W,ds,r,[],wf,rp.get',zjr e,fun v H' k _ res=>q v H' (fun a o h=>k a o h fun ⟨_,z,_⟩=>by cases z) res⟩
theorem zjs{K:PySem.W.Frag}{W:Addr->Prop}{H:Hp}: ∀{rs:List SV} {vs:List V},Paired (Frz K W H) rs vs->rs.any SV.lent=false->Reps K W H (rs.map zbu) vs
 |_,_,.nil,_=>.nil
 |_,_,.cons h t,e=>by
  simp only[List.any_cons,Bool.or_eq_false_iff] at e
  refine .cons ?_ (zjs t e.2)
  cases h with
  |val h=>exact h
  |lis h e' r=>exact r.rep h e'
  |see h e' r=>simp[SV.lent] at e
theorem zlv{K:PySem.W.Frag}{W:Addr->Prop}{H:Hp}: ∀{rs:List SV} {vs:List V},Paired (Frz K W H) rs vs->Reps K (fun _=>False) H (rs.map zbu) vs
 |_,_,.nil=>.nil
 |_,_,.cons h t=>by
  refine .cons ?_ (zlv t)
  cases h with
  |val h=>exact h.less fun _ z=>z.elim
  |lis h e' r=>exact (r.less fun _ z=>z.elim).rep (fun z=>z) e'
  |see h e' r=>exact (r.less fun _ z=>z.elim).rep (fun z=>z) e'
theorem Res.plain{K:PySem.W.Frag}{W W':Addr->Prop}{H H':Hp}{r:SV}{v:V}(h:Res K W' H H' r v)(wf: ∀a,W' a->W a)(p:r.plain=true):Res K W H H' r v:=by
 cases h with
 |val h=>exact .val (h.plain p)
 |new h e r=>exact .new h e (r.plain p)
 |see h e r=>exact .see (wf _ h) e (r.plain p)
section
variable {X:Cx} {fn:Nat->List D->Option SV} {fuel:Nat} {a b c e:Expr} {ca cb cc ce:E} {es:List Expr} {cs:Es} {pos p:Pos} {x:Str}
theorem zaD{k:Nat}{f:Addr}{fd:FuncData}{ps:List Str}{i:Nat}(F:FnOk X.prog X.w X.K X.mg X.base CX0 k f fd ps (spI X.K fn i))(hr:Room k X.A)(hg:Gl X x)(hm:X.mg x=some (.ref f))(hk:PySem.W.keepIn X.K (.ref f)=true)
  (hb:Binds X.K fd ps []) (ha:IA X fn (e::es) cs) (hdb:(x==("__debug__":Str))=false:=by decide) (he:starEach (e::es) X.env=(false,eval e X.env)::starEach es X.env:=by rfl)
  (hpl:(backTo pos (starEach es X.env)).any (·.1)=false:=by rfl):IE X fn (.Call (.Name x p) (e::es) [] pos) (.call i cs):=
 .mk <| (zoY F hr hg hm hk hb .nil zvp ha.h hdb he hpl).imp fun σ H Q zz3=>by
  obtain⟨W,ρ,r,hR,h,q⟩:=zz3
  simp only[zld,jo1,zd7] at h
  obtain⟨rs,e1,r',e2,e3⟩:=h
  split at e3
  ·cases e3
  ·rename_i hc
   cases e3
   refine⟨W,ρ,rs,hR,e1,fun vs H1 s1 f=>?_⟩
   show spI X.K fn i (vs++[]) H1 Q E0
   rw[List.append_nil]
   cases hl:rs.any SV.lent with
   |false=>exact⟨W,_,r,hR.wf' s1,zjs f hl,e2,fun v H' s2 h=>q v H' (s1.trans s2) (h.back s1)⟩
   |true=>
    have hp:r.plain=true:=by
     cases hp:r.plain with
     |true=>rfl
     |false=>exact absurd (by rw[hl,hp];rfl) hc
    exact⟨fun _=>False,_,r,fun _ z=>z.elim,zlv f,e2,fun v H' s2 h=>q v H' (s1.trans s2) ((h.plain (fun _ z=>z.elim) hp).back s1)⟩
section
variable {K:PySem.W.Frag} {W:Addr->Prop} {ρ:LW.Env} {σ:St} {H H':Hp} {i j:Nat} {d:D} {v:V}
theorem zaO{α:Type}{l:List α}{i j:Nat}{x y:α}(h:(l.set i x)[j]? =some y):(i=j/\y=x/\j<l.length)\/(i≠j/\l[j]? =some y):=by
 rw[List.getElem?_set] at h
 split at h
 ·rename_i e
  subst e
  split at h
  ·cases h;exact .inl ⟨rfl,rfl,by assumption⟩
  ·cases h
 ·exact .inr ⟨by assumption,h⟩
theorem zde{α:Type}{l:List α}{i:Nat}{x:α}(h:i<l.length):(l.set i x)[i]? =some x:=by simp[h]
theorem zaF{α:Type}{l:List α}{i j:Nat}{x:α}(h:i≠j):(l.set i x)[j]? =l[j]? :=List.getElem?_set_ne h
theorem R.set_val(r:R K W ρ σ H)(h:Rep K W H d v):R K W (ρ.set i (some (.val d))) (σ.set i (some v)) H:=by
 refine⟨fun j e hj=>?_,fun j e hj=>?_,fun j x e hj hc=>?_,fun j k x y e1 e2 a h1 h2 c1 c2 h3 h4=>?_,r.wf,by simpa using r.len⟩
 ·rcases zaO hj with ⟨rfl,z,hl⟩|⟨n,z⟩
  ·cases z
   exact⟨v,zde (by rw[<-r.len];exact hl),h⟩
  ·obtain⟨u,h1,h2⟩:=r.val j e z
   exact⟨u,by rw[zaF n];exact h1,h2⟩
 ·rcases zaO hj with ⟨rfl,z,hl⟩|⟨n,z⟩
  ·cases z
  ·exact r.nol j e z
 ·rcases zaO hj with ⟨rfl,z,hl⟩|⟨n,z⟩
  ·cases z;cases hc
  ·obtain⟨a,o,h1,h2⟩:=r.own j x e z hc
   exact⟨a,o,by rw[zaF n];exact h1,h2⟩
 ·rcases zaO h1 with ⟨rfl,z,hl⟩|⟨n,z⟩
  ·cases z;cases c1
  ·rcases zaO h2 with ⟨rfl,z',hl⟩|⟨n',z'⟩
   ·cases z';cases c2
   ·rw[zaF n] at h3
    rw[zaF n'] at h4
    exact r.inj j k x y e1 e2 a z z' c1 c2 h3 h4
theorem ziG{a:Addr}(h:Own (ρ.set i (some (.val d))) (σ.set i (some v)) a):Own ρ σ a:=by
 obtain⟨j,x,e,h1,hc,h2⟩:=h
 rcases zaO h1 with ⟨rfl,z,hl⟩|⟨n,z⟩
 ·cases z;cases hc
 ·rw[zaF n] at h2
  exact⟨j,x,e,z,hc,h2⟩
theorem zhu{x:SV}(hx: ∀d,x≠ .io d)(hf: ¬ziq ρ i)(j:Nat):(ziq (ρ.set i (some x)) j↔ziq ρ j)/\(ziq ρ j->i≠j):=by
 refine⟨⟨fun ⟨d,h⟩=>?_,fun ⟨d,h⟩=>?_⟩,fun h e=>hf (by rw[e];exact h)⟩
 ·rcases zaO h with ⟨rfl,z,hl⟩|⟨n,z⟩
  ·cases z;exact absurd rfl (hx d)
  ·exact⟨d,z⟩
 ·exact⟨d,by rw[zaF (fun e=>hf (by rw[e];exact⟨d,h⟩))];exact h⟩
theorem zb0(r:R K W ρ σ H)(s:Same H H')(h:Rep K W H' d v)(hf: ¬ziq ρ i):SPost K W ρ σ H W (ρ.set i (some (.val d))) (σ.set i (some v)) H':=
 ⟨(r.same s).set_val h,fun a o q _=>s a o q,fun a w=>.inl w,fun a w n=>⟨w,fun z=>n (ziG z)⟩,fun j=>⟨(zhu (x:=.val d) (fun _ z=>(nomatch z)) hf j).1,fun z=>zaF ((zhu (x:=.val d) (fun _ z=>(nomatch z)) hf j).2 z)⟩⟩
theorem zrE{a:Addr}(wf:Wf W H)(s:Same H H'){o:HO}(e:H' a=some o):Wf (add W a) H':=fun b w=>by
 rcases w with w|rfl
 ·cases q:H b with
  |none=>exact absurd q (wf b w)
  |some u=>rw[s b u q];exact fun z=>nomatch z
 ·rw[e];exact fun z=>nomatch z
theorem zgn{a:Addr}(s:Same H H')(h:H a=Option.none):Ext W H (add W a) H':=
 ⟨fun b o q _=>s b o q,fun b xs q=>s b _ q,fun b o u q=>s b _ q,fun b w=>by
  rcases w with w|rfl
  ·exact .inl w
  ·exact .inr h⟩
theorem R.add{a:Addr}{o:HO}(r:R K W ρ σ H)(s:Same H H')(h:H a=Option.none)(e:H' a=some o):R K (LW.add W a) ρ σ H':=by
 refine⟨fun j d hj=>?_,r.nol,fun j x d hj hc=>?_,r.inj,zrE r.wf s e,r.len⟩
 ·obtain⟨u,h1,h2⟩:=r.val j d hj
  exact⟨u,h1,h2.ext (zgn s h)⟩
 ·obtain⟨b,o,h1,h2,h3,h4⟩:=r.own j x d hj hc
  exact⟨b,o,h1,.inl h2,s _ _ h3,h4.ext (zgn s h)⟩
theorem R.noOwn{a:Addr}(r:R K W ρ σ H)(h:H a=Option.none): ¬Own ρ σ a:=fun z=>by
 obtain⟨_,o,d,e,_⟩:=r.ownW z
 rw[h] at e;cases e
theorem zhv{a:Addr}{o:HO}(r:R K W ρ σ H)(s:Same H H')(h:H a=Option.none)(e:H' a=some o)(rp:ORep K (LW.add W a) H' d o)(hf: ¬ziq ρ i):
  SPost K W ρ σ H (LW.add W a) (ρ.set i (some (.obj true d))) (σ.set i (some (.ref a))) H':=by
 have ra:=r.add s h e
 refine⟨⟨fun j d hj=>?_,fun j d hj=>?_,fun j x es hj hc=>?_,fun j k x y e1 e2 b h1 h2 c1 c2 h3 h4=>?_,ra.wf,by simpa using r.len⟩,fun b o q _=>s b o q,(zgn (W:=W) s h).win,fun b w n=>⟨.inl w,fun z=>?_⟩,
  fun j=>⟨(zhu (x:=.obj true d) (fun _ z=>(nomatch z)) hf j).1,fun z=>zaF ((zhu (x:=.obj true d) (fun _ z=>(nomatch z)) hf j).2 z)⟩⟩
 ·rcases zaO hj with ⟨rfl,z,hl⟩|⟨n,z⟩
  ·cases z
  ·obtain⟨u,h1,h2⟩:=ra.val j d z
   exact⟨u,by rw[zaF n];exact h1,h2⟩
 ·rcases zaO hj with ⟨rfl,z,hl⟩|⟨n,z⟩
  ·cases z
  ·exact r.nol j d z
 ·rcases zaO hj with ⟨rfl,z,hl⟩|⟨n,z⟩
  ·cases z;cases hc
   exact⟨a,o,zde (by rw[<-r.len];exact hl),.inr rfl,e,rp⟩
  ·obtain⟨b,ys,h1,h2⟩:=ra.own j x es z hc
   exact⟨b,ys,by rw[zaF n];exact h1,h2⟩
 ·have other: ∀{k:Nat} {x:SV} {e:D},ρ[k]? =some (some x)->x.cell=some e->σ[k]? =some (some (.ref a))->False:=fun {k x e} q1 q3 q2=>r.noOwn h ⟨k,x,e,q1,q3,q2⟩
  rcases zaO h1 with ⟨rfl,z,hl⟩|⟨n,z⟩
  ·rcases zaO h2 with ⟨rfl,_,_⟩|⟨n',z'⟩
   ·rfl
   ·rw[zde (by rw[<-r.len];exact hl)] at h3
    cases h3
    rw[zaF n'] at h4
    exact (other z' c2 h4).elim
  ·rcases zaO h2 with ⟨rfl,z',hl⟩|⟨n',z'⟩
   ·rw[zde (by rw[<-r.len];exact hl)] at h4
    cases h4
    rw[zaF n] at h3
    exact (other z c1 h3).elim
   ·rw[zaF n] at h3
    rw[zaF n'] at h4
    exact r.inj j k x y e1 e2 b z z' c1 c2 h3 h4
 ·obtain⟨j,x,es,h1,hc,h2⟩:=z
  rcases zaO h1 with ⟨rfl,_,hl⟩|⟨n',z'⟩
  ·rw[zde (by rw[<-r.len];exact hl)] at h2
   cases h2
   exact r.wf _ w h
  ·rw[zaF n'] at h2
   exact n ⟨j,x,es,z',hc,h2⟩
noncomputable def del(W:Addr->Prop)(a:Addr):Addr->Prop:=fun b=>W b/\b≠a
theorem zgo{a:Addr}: ∀b,del W a b->W b:=fun _ h=>h.1
theorem zeV{a:Addr}{o:Bool}(r:R K W ρ σ H)(h:ρ[j]? =some (some (.obj o d)))(h':σ[j]? =some (some (.ref a))):
  SPost K W ρ σ H (del W a) (ρ.set j (some (.val d))) σ H/\Rep K (del W a) H d (.ref a):=by
 cases o with
 |false=>exact absurd h (r.nol j d)
 |true=>
 obtain⟨a',o,e1,e2,e3,e4⟩:=r.own j _ d h rfl
 rw[h'] at e1;cases e1
 have rp:Rep K (del W a) H d (.ref a):=(e4.less zgo).rep (fun z=>z.2 rfl) e3
 have nio: ¬ziq ρ j:=fun ⟨d',z⟩=>by rw[h] at z;cases z
 refine⟨⟨⟨fun k d' hk=>?_,fun k d' hk=>?_,fun k x es hk hc=>?_,fun k l x y e1 e2 b h1 h2 c1 c2 h3 h4=>?_,fun b w=>r.wf b w.1,by simpa using r.len⟩,fun b o q _=>q,fun b w=>.inl w.1,fun b w n=>⟨⟨w,fun z=>?_⟩,fun z=>?_⟩,
  fun k=>⟨(zhu (x:=.val d) (fun _ z=>(nomatch z)) nio k).1,fun _=>rfl⟩⟩,rp⟩
 ·rcases zaO hk with ⟨rfl,z,hl⟩|⟨n,z⟩
  ·cases z;exact⟨_,h',rp⟩
  ·obtain⟨u,h1,h2⟩:=r.val k d' z
   exact⟨u,h1,h2.less zgo⟩
 ·rcases zaO hk with ⟨rfl,z,hl⟩|⟨n,z⟩
  ·cases z
  ·exact r.nol k d' z
 ·rcases zaO hk with ⟨rfl,z,hl⟩|⟨n,z⟩
  ·cases z;cases hc
  ·obtain⟨b,ys,h1,h2,h3,h4⟩:=r.own k x es z hc
   refine⟨b,ys,h1,⟨h2,fun z'=>?_⟩,h3,h4.less zgo⟩
   subst z'
   exact n (r.inj j k _ x d es b h z rfl hc h' h1)
 ·rcases zaO h1 with ⟨rfl,z,hl⟩|⟨n,z⟩
  ·cases z;cases c1
  ·rcases zaO h2 with ⟨rfl,z',hl⟩|⟨n',z'⟩
   ·cases z';cases c2
   ·exact r.inj k l x y e1 e2 b z z' c1 c2 h3 h4
 ·subst z
  exact n ⟨j,_,d,h,rfl,h'⟩
 ·obtain⟨k,x,es,h1,hc,h2⟩:=z
  rcases zaO h1 with ⟨rfl,z,hl⟩|⟨n',z⟩
  ·cases z;cases hc
  ·exact n ⟨k,x,es,z,hc,h2⟩
theorem znq(x:SV)(d:D):(x.put d).cell=some d:=by cases x<;>rfl
theorem zps(x:SV)(d d':D):x.put d≠ .val d':=by cases x<;>exact fun z=>nomatch z
theorem zpt(x:SV)(d d':D):x.put d≠ .obj false d':=by
 cases x<;>intro z<;>first|cases z|(simp[SV.put] at z)
theorem zos{x:SV}{d:D}:(∃d',x.put d= .io d')↔∃d',x= .io d':=by
 cases x with
 |io y=>exact⟨fun _=>⟨_,rfl⟩,fun _=>⟨_,rfl⟩⟩
 |_=>exact⟨fun ⟨_,z⟩=>(nomatch z),fun ⟨_,z⟩=>(nomatch z)⟩
theorem zgp{a:Addr}{x:SV}{d0 d':D}{o o':HO}(r:R K W ρ σ H)(h:ρ[i]? =some (some x))(hc:x.cell=some d0)(h':σ[i]? =some (some (.ref a)))(s:Same H H')(e:H' a=some o)(hk:(∀xs,o≠ .tup xs)/\(∀b u,o≠ .frz b u))
  (rp:ORep K W H' d' o'):SPost K W ρ σ H W (ρ.set i (some (x.put d'))) σ (upd H' a o'):=by
 have r':=r.same s
 have hO:Own ρ σ a:=⟨i,x,d0,h,hc,h'⟩
 have hW:W a:=(r.ownW hO).1
 have ext:Ext W H' W (upd H' a o'):=by
  refine⟨fun b o q n=>?_,fun b ys q=>?_,fun b o u q=>?_,fun b w=>.inl w⟩
  ·rw[zaN (fun z=>n (by rw[z];exact hW))];exact q
  ·rw[zaN (fun z=>by rw[z,e] at q;cases q;exact hk.1 _ rfl)];exact q
  ·rw[zaN (fun z=>by rw[z,e] at q;cases q;exact hk.2 _ _ rfl)];exact q
 have old: ∀{k:Nat} {y:SV} {es:D},(ρ.set i (some (x.put d')))[k]? =some (some y)->y.cell=some es->∃y' es',ρ[k]? =some (some y')/\y'.cell=some es':=fun {k y es} q c=>by
  rcases zaO q with ⟨rfl,_,_⟩|⟨_,z⟩
  ·exact⟨_,_,h,hc⟩
  ·exact⟨_,_,z,c⟩
 refine⟨⟨fun k d' hk=>?_,fun k d' hk=>?_,fun k y es hk hc'=>?_,fun k l x y e1 e2 b h1 h2 c1 c2 h3 h4=>?_,fun b w=>?_,by simpa using r.len⟩,fun b o q n=>?_,fun b w=>.inl w,fun b w n=>⟨w,fun z=>?_⟩,fun j=>⟨?_,fun _=>rfl⟩⟩
 ·rcases zaO hk with ⟨rfl,z,hl⟩|⟨n,z⟩
  ·exact absurd (Option.some.inj z).symm (zps _ _ _)
  ·obtain⟨u,h1,h2⟩:=r'.val k d' z
   exact⟨u,h1,h2.ext ext⟩
 ·rcases zaO hk with ⟨rfl,z,hl⟩|⟨n,z⟩
  ·exact absurd (Option.some.inj z).symm (zpt _ _ _)
  ·exact r.nol k d' z
 ·rcases zaO hk with ⟨rfl,z,hl⟩|⟨n,z⟩
  ·cases z
   rw[znq] at hc'
   cases hc'
   exact⟨a,_,h',hW,za8,rp.ext ext⟩
  ·obtain⟨b,ys,h1,h2,h3,h4⟩:=r'.own k y es z hc'
   refine⟨b,ys,h1,h2,?_,h4.ext ext⟩
   rw[zaN (fun z'=>by subst z';exact n (r.inj i k x y d0 es b h z hc hc' h' h1))]
   exact h3
 ·obtain⟨_,_,z1,w1⟩:=old h1 c1
  obtain⟨_,_,z2,w2⟩:=old h2 c2
  exact r.inj k l _ _ _ _ b z1 z2 w1 w2 h3 h4
 ·by_cases z:b=a
  ·subst z;rw[za8];exact fun z=>nomatch z
  ·rw[zaN z];exact r'.wf b w
 ·rw[zaN (fun z=>n (by rw[z];exact hO))]
  exact s b o q
 ·obtain⟨k,y,es,h1,hc',h2⟩:=z
  obtain⟨_,_,z,w⟩:=old h1 hc'
  exact n ⟨k,_,_,z,w,h2⟩
 ·by_cases e:i=j
  ·subst e
   have hl:i<ρ.length:=by
    obtain⟨z,_⟩:=List.getElem?_eq_some_iff.mp h;exact z
   constructor
   ·rintro⟨d',z⟩
    rw[zde hl] at z
    have z:=Option.some.inj (Option.some.inj z)
    obtain⟨d2,w⟩:=zos.mp ⟨d',z⟩
    exact⟨d2,by rw[h,w]⟩
   ·rintro⟨d2,z⟩
    rw[h] at z
    obtain⟨d3,w⟩:=zos (d:=d').mpr ⟨d2,Option.some.inj (Option.some.inj z)⟩
    exact⟨d3,by rw[zde hl,w]⟩
  ·unfold ziq;rw[zaF e]
end
theorem Ret.back{K:PySem.W.Frag}{W W1 W2:Addr->Prop}{ρ ρ1:LW.Env}{σ σ1:St}{H H1 H2:Hp}{r:SV}{v:V}(p:SPost K W ρ σ H W1 ρ1 σ1 H1)(h:Ret K W1 ρ1 σ1 W2 H2 r v):Ret K W ρ σ W2 H2 r v:=by
 cases h with
 |val h=>exact .val h
 |new h n n' e r=>exact .new h (fun ⟨w,z⟩=>n (p.wout _ w z)) (fun ⟨i,z1,z2⟩=>n' ⟨i,(p.io i).1.mpr z1,by rw[(p.io i).2 z1];exact z2⟩) e r
theorem FlOk.back{K:PySem.W.Frag}{W W1 W2:Addr->Prop}{ρ ρ1 ρ2:LW.Env}{σ σ1 σ2:St}{H H1 H2:Hp}{D:Ends}{fl:Fl}(p:SPost K W ρ σ H W1 ρ1 σ1 H1)(h:FlOk K W ρ σ W2 ρ2 σ2 H2 D fl):FlOk K W1 ρ1 σ1 W2 ρ2 σ2 H2 D fl:=by
 cases fl with
 |rt r=>exact fun v q=>h v (q.back p)
 |_=>exact h
structure IS (X:Cx)(ex:LW.Env->Option (Fl×LW.Env))(st:Stmt):Prop where
 h:PS X st (tSs X.K ex)
structure ISs (X:Cx)(ex:LW.Env->Option (Fl×LW.Env))(st:List Stmt):Prop where
 h:PSs X st (tSs X.K ex)
variable {fa:Nat->List D->Option Ans} {st:Stmt} {sts:List Stmt} {s:S} {ss s1 s2:Ss}
theorem zap:ISs X (zaV fa fuel .nil) []:=.mk <| zoS.imp fun D σ H zz3=>by
 obtain⟨W,ρ,x,hR,hx,q⟩:=zz3
 simp only[zpm] at hx;cases hx;exact q W σ H (.same hR (.refl H))
theorem zae(h1:IS X (exS fa fuel s) st)(h2:ISs X (zaV fa fuel ss) sts):ISs X (zaV fa fuel (.cons s ss)) (st::sts):=
 .mk <| (zm3 h1.h h2.h).imp fun D σ H zz3=>by
  obtain⟨W,ρ,x,hR,hx,q⟩:=zz3
  simp only[znk,jo1] at hx
  obtain⟨⟨fl,ρ1⟩,e1,e2⟩:=hx
  refine⟨W,ρ,(fl,ρ1),hR,e1,fun W1 σ1 H1 p1=>?_⟩
  cases fl with
  |nx=>exact⟨W1,ρ1,x,p1.r,e2,fun W2 σ2 H2 p2=>FlOk.back p1 (q W2 σ2 H2 (p1.trans p2 hR))⟩
  |br=>cases e2;exact q W1 σ1 H1 p1
  |ct=>cases e2;exact q W1 σ1 H1 p1
  |rt r=>cases e2;exact q W1 σ1 H1 p1
theorem zjt(he:IE X (prj fa) e ce)(hs:swapsWith e Option.none pos.line X.env=pure false:=by rfl):IS X (exS fa fuel (.expr ce)) (.Expr e pos):=
 .mk <| (zkQ he.h hs).imp fun D σ H zz3=>by
  obtain⟨W,ρ,x,hR,hx,q⟩:=zz3
  simp only[zpi,jo2] at hx
  obtain⟨r,e1,rfl⟩:=hx
  exact⟨W,ρ,r,hR,e1,fun v H1 s1 _=>q W σ H1 (.same hR s1)⟩
theorem zbh(i:Nat){pos':Pos}(hN:X.N.Nodup)(hi:X.N[i]? =some x)(hx:Loc X.env.scope x)(he:IE X (prj fa) e ce)(hs:swapsWith e (some (.Name x pos')) pos.line X.env=pure false:=by rfl)
  (hf:X.fn x=true\/X.env.scope.names.lookup x=some .local:=by first|exact .inl rfl|exact .inr rfl|assumption):IS X (exS fa fuel (.asg i ce)) (.Assign [.Name x pos'] e pos):=
 .mk <| (zok hN hi hx he.h hs hf).imp fun D σ H zz3=>by
  obtain⟨W,ρ,y,hR,hy,q⟩:=zz3
  simp only[zrw,jo1] at hy
  obtain⟨r,e1,e2⟩:=hy
  split at e2
  ·cases e2
  ·rename_i hl
   cases e2
   simp only[Bool.not_eq_true,Bool.or_eq_false_iff,Bool.not_eq_false'] at hl
   refine⟨W,ρ,r,hR,e1,fun v H1 s1 h=>?_⟩
   cases h with
   |val h=>exact q W _ H1 (zb0 hR s1 h (zd8 hl.2))
   |new h e r=>exact q _ _ H1 (zhv hR s1 h e r (zd8 hl.2))
   |see h e r=>simp[SV.lent] at hl
theorem zvS(i j:Nat){y:Str}{pos':Pos}(hN:X.N.Nodup)(hi:X.N[i]? =some x)(hx:Loc X.env.scope x)(hj:X.N[j]? =some y)(hv:Vis X.env.scope y)(hs:swapsWith (.Name y p) (some (.Name x pos')) pos.line X.env=pure false:=by rfl)
  (hf:X.fn x=true\/X.env.scope.names.lookup x=some .local:=by first|exact .inl rfl|exact .inr rfl|assumption) (hd:(y==("__debug__":Str))=false:=by decide) (hcd:(y==("__classdict__":Str))=false:=by decide):
  IS X (exS fa fuel (.mov i j)) (.Assign [.Name x pos'] (.Name y p) pos):=
 .mk <| (zok hN hi hx (zfA hj hv hd hcd) hs hf).imp fun D σ H zz3=>by
  obtain⟨W,ρ,z,hR,hz,q⟩:=zz3
  simp only[zoo] at hz
  split at hz
  ·rename_i hfr
   split at hz
   ·rename_i d h
    cases hz
    obtain⟨v,h1,h2⟩:=hR.val j d h
    exact⟨v,h1,q W _ H (zb0 hR (.refl H) h2 (zd8 hfr))⟩
   ·rename_i o ds h
    cases hz
    cases o with
    |false=>exact absurd h (hR.nol j ds)
    |true=>
    obtain⟨a,xs,h1,_⟩:=hR.own j _ ds h rfl
    obtain⟨p1,rp⟩:=zeV hR h h1
    exact⟨_,h1,q _ _ H (p1.trans (zb0 p1.r (.refl H) rp fun z=>zd8 hfr ((p1.io _).1.mp z)) hR)⟩
   ·cases hz
  ·cases hz
theorem zbz(he:IE X (prj fa) e ce):IS X (exS fa fuel (.ret ce)) (.Return (some e) pos):=
 .mk <| (zoj he.h).imp fun D σ H zz3=>by
  obtain⟨W,ρ,y,hR,hy,q⟩:=zz3
  simp only[zrx,jo1] at hy
  obtain⟨r,e1,e2⟩:=hy
  split at e2
  ·cases e2
  ·rename_i hl
   cases e2
   refine⟨W,ρ,r,hR,e1,fun v H1 s1 h=>?_⟩
   cases h with
   |val h=>exact q W σ H1 (.same hR s1) v (.val h)
   |new h e r=>
    refine q _ σ H1 ⟨hR.add s1 h e,fun b o q _=>s1 b o q,(zgn (W:=W) s1 h).win,fun b w n=>⟨.inl w,n⟩,fun _=>⟨.rfl,fun _=>rfl⟩⟩ _ (.new (.inr rfl) (fun z=>hR.wf _ z.1 h) (fun ⟨i,⟨d,z1⟩,z2⟩=>hR.noOwn h ⟨i,_,d,z1,rfl,z2⟩) e r)
   |see h e r=>simp[SV.lent] at hl
theorem zfJ(i:Nat)(hN:X.N[i]? =some x)(hv:Vis X.env.scope x)(hd:(x==("__debug__":Str))=false:=by decide)(hcd:(x==("__classdict__":Str))=false:=by decide):IS X (exS fa fuel (.retV i)) (.Return (some (.Name x p)) pos):=
 .mk <| (zoj (zfA hN hv hd hcd)).imp fun D σ H zz3=>by
  obtain⟨W,ρ,y,hR,hy,q⟩:=zz3
  simp only[zlg] at hy
  split at hy
  ·rename_i d h
   cases hy
   obtain⟨v,h1,h2⟩:=hR.val i d h
   exact⟨v,h1,q W σ H (.same hR (.refl H)) v (.val h2)⟩
  ·rename_i o ds h
   cases hy
   cases o with
   |false=>exact absurd h (hR.nol i ds)
   |true=>
   obtain⟨a,xs,h1,h2,h3,h4⟩:=hR.own i _ ds h rfl
   refine⟨_,h1,q W σ H ?_ _ (.new h2 (fun z=>z.2 ⟨i,_,ds,h,rfl,h1⟩) (fun zz0=>by
    obtain⟨j,⟨d',z1⟩,z2⟩:=zz0
    have:=hR.inj i j _ _ ds d' a h z1 rfl rfl h1 z2
    subst this
    rw[h] at z1;cases z1) h3 h4)⟩
   have old: ∀{k:Nat} {z:SV},(ρ.set i Option.none)[k]? =some (some z)->ρ[k]? =some (some z):=fun {k z} q=>by
    rcases zaO q with ⟨_,w,_⟩|⟨_,w⟩
    ·cases w
    ·exact w
   exact⟨⟨fun k d hk=>hR.val k d (old hk),fun k d hk=>hR.nol k d (old hk),fun k o es hk=>hR.own k o es (old hk),fun k l x y e1 e2 b z1 z2=>hR.inj k l x y e1 e2 b (old z1) (old z2),hR.wf,by simpa using hR.len⟩,fun b o q _=>q,fun b w=>.inl w,fun b w n=>⟨w,fun ⟨k,x,es,z1,c,z2⟩=>n ⟨k,x,es,old z1,c,z2⟩⟩,
    fun k=>⟨⟨fun ⟨d',z⟩=>⟨d',old z⟩,fun ⟨d',z⟩=>⟨d',by rw[zaF (fun e=>by subst e;rw[h] at z;cases z)];exact z⟩⟩,fun _=>rfl⟩⟩
  ·cases hy
theorem zlw:IS X (exS fa fuel .stop) st:=.mk <| zm4.imp fun D σ H zz3=>by
 obtain⟨W,ρ,y,hR,hy,q⟩:=zz3
 simp only[zpl] at hy;cases hy
theorem ziH(hc:IT X (prj fa) c cc)(h1:ISs X (zaV fa fuel s1) sts)(h2:ISs X (zaV fa fuel s2) sts'):IS X (exS fa fuel (.ifs cc s1 s2)) (.If c sts sts' pos):=
 .mk <| (zu6 hc.h h1.h h2.h).imp fun D σ H zz3=>by
  obtain⟨W,ρ,y,hR,hy,q⟩:=zz3
  simp only[zry,jo1] at hy
  obtain⟨k,e1,e2⟩:=hy
  refine⟨W,ρ,k,hR,e1,fun H1 w1=>?_⟩
  have p1:=SPost.same hR w1
  show if k=true then tSs X.K (zaV fa fuel s1) D σ H1 else tSs X.K (zaV fa fuel s2) D σ H1
  cases k with
  |true=>rw[if_pos rfl] at e2⊢;exact⟨W,ρ,y,p1.r,e2,fun W2 σ2 H2 p2=>FlOk.back p1 (q W2 σ2 H2 (p1.trans p2 hR))⟩
  |false=>rw[if_neg Bool.false_ne_true] at e2⊢;exact⟨W,ρ,y,p1.r,e2,fun W2 σ2 H2 p2=>FlOk.back p1 (q W2 σ2 H2 (p1.trans p2 hR))⟩
theorem zpu(i:Nat){apos cpos:Pos}(hN:X.N[i]? =some x)(hv:Vis X.env.scope x)(he:IE X (prj fa) e ce)(hst:starEach [e] X.env=(false,eval e X.env)::starEach [] X.env)(hd:(x==("__debug__":Str))=false)(hcd:(x==("__classdict__":Str))=false)
  (hs:swapsWith (.Call (.Attribute (.Name x p) "append" apos) [e] [] cpos) Option.none pos.line X.env=pure false:=by rfl)
  (hbase:attributeBase (.Name x p) "append" X.env (eval (.Name x p) X.env)=eval (.Name x p) X.env:=by rfl)
  (hline:(apos.endLine==cpos.line)=true:=by rfl):
  IS X (exS fa fuel (.app i ce)) (.Expr (.Call (.Attribute (.Name x p) "append" apos) [e] [] cpos) pos):=
 .mk <| (zkQ (zvm PySem.F.plainAttrs_list PySem.F.slot_list_append PySem.F.type_list_append zhl (zfA hN hv hd hcd) (zd5 he.v zhe hst) hbase (by rw[hst];rfl) hline hst zaj) hs).imp fun D σ H zz3=>by
  obtain⟨W,ρ,y,hR,hy,q⟩:=zz3
  simp only[zop] at hy
  split at hy
  ·rename_i x h
   split at hy
   ·rename_i ds hc
    simp only[jo1] at hy
    obtain⟨r,e1,d,e2,e3⟩:=hy
    split at e3
    ·rename_i hl
     cases e3
     obtain⟨a,o,h1,h2,h3,h4⟩:=hR.own i _ _ h hc
     cases h4 with
     |lst h4=>
     rename_i xs
     refine⟨_,h1,.inl ⟨rfl,xs,.of h3⟩,?_⟩
     refine⟨W,ρ,r,hR,e1,fun v H1 w1 f=>?_⟩
     refine⟨a,xs,v,rfl,rfl,w1 _ _ h3,?_,?_⟩
     ·rw[<-h4.length,<-zge];exact hl
     ·exact q W σ _ (zgp hR h hc h1 w1 (w1 _ _ h3) ⟨fun _ z=>(nomatch z),fun _ _ z=>(nomatch z)⟩ (.lst ((h4.ext (.same w1)).append (.cons (f.toD e2) .nil))))
    ·cases e3
   ·cases hy
  ·cases hy
end
end L2.LW
set_option maxHeartbeats 4000000
namespace L2.LW
open PySem PySem.Spec PyProof.Rows
noncomputable def Yl(K:PySem.W.Frag)(J:It)(W:Addr->Prop)(H:Hp)(ds:List D):Prop:=
 ∀W' H',Ext W H W' H'->∀k:Nat,(k=ds.length->J.stop k H')/\∀d,ds[k]? =some d->J.go k H'/\∀x H'',J.yld k H' x H''->H''=H'/\Rep K W' H' d x
noncomputable def Ys(K:PySem.W.Frag)(J:It)(W:Addr->Prop)(H:Hp)(ds:List D):Prop:=
 ∀W' H',Same H H'->(∀a,W' a->W a\/H a=Option.none)->∀k:Nat,(k=ds.length->J.stop k H')/\∀d,ds[k]? =some d->J.go k H'/\∀x H'',J.yld k H' x H''->H''=H'/\Rep K W' H' d x
theorem Ext.sameW{W W':Addr->Prop}{H H':Hp}(s:Same H H')(w: ∀a,W' a->W a\/H a=Option.none):Ext W H W' H':=⟨fun a o h _=>s a o h,fun a xs h=>s a _ h,fun a o u h=>s a _ h,w⟩
section
variable {K:PySem.W.Frag} {W:Addr->Prop} {H:Hp} {a:Addr} {xs:List V} {ds:List D}
theorem zhw{H':Hp}{W':Addr->Prop}(hq:SqL K H' a xs)(rp:Reps K W' H' ds xs)(k:Nat):
  (k=ds.length->(Itl K a).stop k H')/\∀d,ds[k]? =some d->(Itl K a).go k H'/\∀x H'',(Itl K a).yld k H' x H''->H''=H'/\Rep K W' H' d x:=by
 refine⟨fun e=>⟨xs,hq,by rw[<-rp.length,e];exact Nat.le_refl _⟩,fun d e=>?_⟩
 obtain⟨v,e1,e2⟩:=rp.get e
 refine⟨⟨xs,v,hq,e1⟩,fun x H'' ⟨z,y⟩=>⟨z,?_⟩⟩
 have:=y xs hq
 rw[e1] at this
 cases this
 exact e2
theorem zlx{H':Hp}{W':Addr->Prop}(hq:SqT K H' a xs)(rp:Reps K W' H' ds xs)(k:Nat):
  (k=ds.length->(Itt K a).stop k H')/\∀d,ds[k]? =some d->(Itt K a).go k H'/\∀x H'',(Itt K a).yld k H' x H''->H''=H'/\Rep K W' H' d x:=by
 refine⟨fun e=>⟨xs,hq,by rw[<-rp.length,e];exact Nat.le_refl _⟩,fun d e=>?_⟩
 obtain⟨v,e1,e2⟩:=rp.get e
 refine⟨⟨xs,v,hq,e1⟩,fun x H'' ⟨z,y⟩=>⟨z,?_⟩⟩
 have:=y xs hq
 rw[e1] at this
 cases this
 exact e2
theorem zju{H':Hp}{W':Addr->Prop}{lo:Int}{n:Nat}(k:Nat):
  (k=((List.range n).map fun (k:Nat)=>D.int (lo+(k:Int))).length->(Itr lo n).stop k H')/\
   ∀d,((List.range n).map fun (k:Nat)=>D.int (lo+(k:Int)))[k]? =some d->(Itr lo n).go k H'/\∀x H'',(Itr lo n).yld k H' x H''->H''=H'/\Rep K W' H' d x:=by
 refine⟨fun e=>?_,fun d e=>?_⟩
 ·rw[List.length_map,List.length_range] at e
  exact Nat.le_of_eq e.symm
 ·rw[List.getElem?_map,jo2] at e
  obtain⟨j,e1,rfl⟩:=e
  obtain⟨h1,h2⟩:=List.getElem?_eq_some_iff.mp e1
  rw[List.length_range] at h1
  rw[List.getElem_range] at h2
  subst h2
  exact⟨h1,fun x H'' ⟨z,y⟩=>⟨z,by rw[y];exact .int _⟩⟩
theorem ziI{W':Addr->Prop}{H':Hp}(h:(¬W a/\Rd H a (.lst xs))\/zvL K a xs)(x:Ext W H W' H'):SqL K H' a xs:=by
 rcases h with ⟨n,h|⟨o,h⟩⟩|h
 ·exact .inl (.inl (x.keep _ _ h n))
 ·exact .inl (.inr ⟨o,x.keep _ _ h n⟩)
 ·exact .inr h
end
noncomputable def zxW(K:PySem.W.Frag)(tl:TE):TI:=fun σ H R=>tl σ H fun x H1=>∃a,x= .ref a/\(((∃xs,SqL K H1 a xs)/\R (Itl K a) H1)\/((∃xs,SqT K H1 a xs)/\R (Itt K a) H1))
section
variable {X:Cx} {tg l:Expr}
theorem zot{tl:TE}(hl:PE X l tl):PI X tg l (zxW X.K tl):=by
 intro pins s σ H R I h
 refine thn (hl pins s σ H _ I h) fun v s1 ⟨x,H1,I1,r1,q1⟩=>?_
 obtain⟨a,e,q⟩:=q1
 subst e
 cases r1
 rcases q with ⟨⟨xs,hq⟩,q⟩|⟨⟨xs,hq⟩,q⟩
 ·obtain⟨its,rv,p,hz⟩:=I1.list hq
  refine wpAny_pyIter_list p.isList ?_
  refine⟨s1.heap.objs.size,[s1.heap.objs.size],_,_,H1,rfl,I1.kept (t':=s1.toks) fun b o e=>Heap.get?_push_of_some _ e,zkR a _,⟨_,Heap.get?_push_size _ rfl,rfl,rfl⟩,fun b hb=>?_,q⟩
  have e:b=s1.heap.objs.size:=by simpa using hb
  subst e
  exact I1.fpOk (Nat.le_refl _) (I1.hok.fresh (Nat.le_refl _))
 ·obtain⟨its,rv,p,hz⟩:=I1.tuple hq
  refine wpAny_pyIter_tuple (show s1.heap.IsTuple a its.toArray from p) ?_
  refine⟨s1.heap.objs.size,[s1.heap.objs.size],_,_,H1,rfl,I1.kept (t':=s1.toks) fun b o e=>Heap.get?_push_of_some _ e,zj5 a _,⟨_,Heap.get?_push_size _ rfl,rfl,rfl⟩,fun b hb=>?_,q⟩
  have e:b=s1.heap.objs.size:=by simpa using hb
  subst e
  exact I1.fpOk (Nat.le_refl _) (I1.hok.fresh (Nat.le_refl _))
end
noncomputable def tI(K:PySem.W.Frag)(fn:Nat->List D->Option SV)(rng:Bool)(src:Es):TI:=fun σ H R0=>∃W ρ rs ds,R K W ρ σ H/\zbZ fn src ρ=some rs/\zaE rng rs=some ds/\
 ∀J H',Same H H'->Ys K J W H' ds->(rs.any SV.lent=false->Yl K J W H' ds)->R0 J H'
structure Src (X:Cx)(fn:Nat->List D->Option SV)(tg e:Expr)(rng:Bool)(src:Es):Prop where
 h:PI X tg e (tI X.K fn rng src)
theorem _root_.L2.PI.imp{X:Cx}{tg l:Expr}{t t':TI}(h:PI X tg l t)(i: ∀σ H Q,t' σ H Q->t σ H Q):PI X tg l t':=fun pins s σ H Q I q=>h pins s σ H Q I (i σ H Q q)
section
variable {X:Cx} {fn:Nat->List D->Option SV} {fuel:Nat} {a b c e tg:Expr} {ca cb cc ce:E} {es:List Expr} {cs:Es} {pos p:Pos} {x:Str}
theorem zeb(he:IE X fn e ce):Src X fn tg e false (.cons ce .nil):=
 .mk <| (zot he.v).imp fun σ H R0 zz3=>by
  obtain⟨W,ρ,rs,ds,hR,h1,h2,q⟩:=zz3
  simp only[zby,zbc,jo1,jo2] at h1
  obtain⟨r,e1,rs',e3,rfl⟩:=h1
  cases e3
  simp only[zaE] at h2
  refine⟨W,ρ,r,hR,e1,fun v H1 s1 f=>?_⟩
  unfold zga at h2
  split at h2
  ·rename_i l hd
   cases h2
   have hs:=f.sees
   rw[hd] at hs
   obtain⟨a,xs,rfl,hq,rp⟩:=hs.tupH
   refine⟨a,rfl,.inr ⟨⟨xs,.of hq⟩,q _ H1 s1 (fun W' H' s w k=>zlx (.of (s _ _ hq)) (rp.ext (.sameW s w)) k) fun _ W' H' x k=>zlx (.of (x.tup _ _ hq)) (rp.ext x) k⟩⟩
  ·rename_i l hd
   cases h2
   have hs:=f.sees
   rw[hd] at hs
   obtain⟨a,xs,rfl,hq,rp⟩:=hs.lst
   refine⟨a,rfl,.inl ⟨⟨xs,hq⟩,q _ H1 s1 (fun W' H' s w k=>zhw (s.seq hq) (rp.ext (.sameW s w)) k) fun hl W' H' x k=>?_⟩⟩
   have hl':r.lent=false:=by simpa using hl
   cases f with
   |val h=>
    change _=D.lst _ at hd
    subst hd
    cases h with
    |lst h r'=>exact zhw (ziI h x) (r'.ext x) k
   |lis h e r'=>
    change _=D.lst _ at hd
    subst hd
    cases r' with
    |lst r'=>exact zhw (.of (x.keep _ _ e h)) (r'.ext x) k
   |see h e r'=>simp[SV.lent] at hl'
  ·cases h2
theorem zgq(hg:Gl X "range")(hm:X.mg "range"=Option.none)(ha:IA X fn [a] (.cons ca .nil))(hs:starEach [a] X.env=(false,eval a X.env)::starEach [] X.env):Src X fn tg (.Call (.Name "range" p) [a] [] pos) true (.cons ca .nil):=
 .mk <| (zkS hg hm ha.h hs).imp fun σ H R0 zz3=>by
  obtain⟨W,ρ,rs,ds,hR,h1,h2,q⟩:=zz3
  refine⟨W,ρ,rs,hR,h1,fun vs H1 s1 f=>?_⟩
  simp only[zby,zbc,jo1,jo2] at h1
  obtain⟨r,e1,rs',e3,rfl⟩:=h1
  cases e3
  obtain⟨v,rfl,g⟩: ∃v,vs=[v]/\Frz X.K W H1 r v:=by
   cases f with
   |cons f t=>cases t;exact⟨_,rfl,f⟩
  clear f
  cases g with
  |val g=>
   cases g with
   |int n=>
    simp only[zaE] at h2
    split at h2
    ·rename_i hn
     cases h2
     exact⟨n,rfl,hn.1,hn.2,q _ H1 s1 (fun W' H' s w k=>zju k) fun _ W' H' x k=>zju k⟩
    ·cases h2
   |_=>simp[zaE] at h2
  |_=>simp[zaE] at h2
theorem znr(hg:Gl X "range")(hm:X.mg "range"=Option.none)(ha:IA X fn [a,b] (.cons ca (.cons cb .nil)))(hs:starEach [a,b] X.env=(false,eval a X.env)::starEach [b] X.env)(hs2:starEach [b] X.env=(false,eval b X.env)::starEach [] X.env):
  Src X fn tg (.Call (.Name "range" p) [a,b] [] pos) true (.cons ca (.cons cb .nil)):=
 .mk <| (zkT hg hm ha.h (by rw[hs,hs2];rfl) hs2).imp fun σ H R0 zz3=>by
  obtain⟨W,ρ,rs,ds,hR,h1,h2,q⟩:=zz3
  refine⟨W,ρ,rs,hR,h1,fun vs H1 s1 f=>?_⟩
  simp only[zby,zbc,jo1,jo2] at h1
  obtain⟨r,e1,rs',⟨r2,e2,rs'',e3,rfl⟩,rfl⟩:=h1
  cases e3
  obtain⟨v,v2,rfl,g,f2⟩: ∃v v2,vs=[v,v2]/\Frz X.K W H1 r v/\Frz X.K W H1 r2 v2:=by
   cases f with
   |cons f t=>cases t with
    |cons f' t=>cases t;exact⟨_,_,rfl,f,f'⟩
  clear f
  cases g with
  |val g=>
   cases f2 with
   |val f2=>
    cases g with
    |int n=>
     cases f2 with
     |int m=>
      simp only[zaE] at h2
      split at h2
      ·rename_i hn
       cases h2
       exact⟨n,m,rfl,⟨hn.1.1,hn.1.2,hn.2.1,hn.2.2⟩,q _ H1 s1 (fun W' H' s w k=>zju k) fun _ W' H' x k=>zju k⟩
      ·cases h2
     |_=>simp[zaE] at h2
    |_=>simp[zaE] at h2
   |_=>simp[zaE] at h2
  |_=>simp[zaE] at h2
theorem zhx{α:Type}{l:List α}{k:Nat}{d:α}(h:l[k]? =some d):l.drop k=d::l.drop (k+1):=by
 obtain⟨h1,h2⟩:=List.getElem?_eq_some_iff.mp h
 rw[List.drop_eq_getElem_cons h1,h2]
theorem zeI{K:PySem.W.Frag}{J:It}{ds:List D}{i:Nat}{ex:LW.Env->Option (Fl×LW.Env)}{W:Addr->Prop}{ρ:LW.Env}{σ:St}{H:Hp}{x:Fl×LW.Env}{D0:Ends}(hR:R K W ρ σ H)(hfr: ¬ziq ρ i)(hy:Yl K J W H ds)
  (hx:zeT i ex ds ρ=some x) (q: ∀W' σ' H',SPost K W ρ σ H W' x.2 σ' H'->FlOk K W ρ σ W' x.2 σ' H' D0 x.1):
  ∃Wv:Nat->Nat->St->Hp->Prop,(∃m,Wv 0 m σ H)/\∀k m σ' H',Wv k m σ' H'->
   (J.stop k H'/\D0.nx σ' H')\/(J.go k H'/\∃N:St->Hp->Prop,(∀σ2 H2,N σ2 H2->∃m',m'<m/\Wv (k+1) m' σ2 H2)/\∀v H2,J.yld k H' v H2->zoT i v σ' H2 fun σ2 H2=>tSs K ex { D0 with nx:=N,ct:=N,bk:=D0.nx } σ2 H2):=by
 refine⟨fun k m σ' H'=>m=ds.length-k/\k<=ds.length/\∃W' ρ',SPost K W ρ σ H W' ρ' σ' H'/\zeT i ex (ds.drop k) ρ'=some x,⟨_,rfl,Nat.zero_le _,W,ρ,.same hR (.refl H),hx⟩,?_⟩
 rintro k m σ' H' ⟨rfl,hk,W',ρ',p,hf⟩
 obtain⟨hstop,hgo⟩:=hy W' H' (p.ext hR) k
 by_cases hlt:k<ds.length
 ·have hd:ds[k]? =some ds[k]:=by simp[hlt]
  obtain⟨g1,g2⟩:=hgo _ hd
  rw[zhx hd,zeT,jo1] at hf
  obtain⟨⟨fl,ρ2⟩,e1,e2⟩:=hf
  refine .inr ⟨g1,fun σ2 H2=>(ds.length-(k+1))=ds.length-(k+1)/\k+1<=ds.length/\∃W' ρ',SPost K W ρ σ H W' ρ' σ2 H2/\zeT i ex (ds.drop (k+1)) ρ'=some x,fun σ2 H2 h=>⟨_,by omega,h⟩,fun v H2 y=>?_⟩
  obtain⟨rfl,rv⟩:=g2 v H2 y
  have p1:=zb0 (i:=i) p.r (.refl H2) rv fun z=>hfr ((p.io i).1.mp z)
  have p01:=p.trans p1 hR
  refine⟨W',_,(fl,ρ2),p1.r,e1,fun W3 σ3 H3 p3=>?_⟩
  have p03:=p01.trans p3 hR
  cases fl with
  |nx=>exact⟨rfl,hlt,W3,ρ2,p03,e2⟩
  |ct=>exact⟨rfl,hlt,W3,ρ2,p03,e2⟩
  |br=>cases e2;exact q W3 σ3 H3 p03
  |rt r=>cases e2;exact fun v hv=>q W3 σ3 H3 p03 v (hv.back p01)
 ·have e:k=ds.length:=by omega
  rw[List.drop_of_length_le (by omega),zeT] at hf
  cases hf
  exact .inl ⟨hstop e,q W' σ' H' p⟩
variable {fa:Nat->List D->Option Ans} {sts:List Stmt} {ss:Ss}
theorem zpv(i:Nat){rng:Bool}{src:Es}{px:Pos}(hp:PassesOwn (model X.prog X.w) X.A X.env X.xe)(hc:X.calm=true)(hN:X.N.Nodup)(hi:X.N[i]? =some x)(hx:Loc X.env.scope x)(hs:Src X (prj fa) (.Name x px) e rng src)(hb:ISs X (zaV fa fuel ss) sts)
  (hf:X.fn x=true\/X.env.scope.names.lookup x=some .local:=by first|exact .inl rfl|exact .inr rfl|assumption) (hfo: ∀x,foldedSetIterable e X.env x=pure x:=by intro _;rfl):IS X (exS fa fuel (.for_ i rng src ss)) (.For (.Name x px) e sts [] pos):=
 .mk <| (zol hp hc hs.h (ziw hN hi hx hf) hb.h hfo).imp fun D0 σ H zz3=>by
  obtain⟨W,ρ,y,hR,hy,q⟩:=zz3
  simp only[zpj,jo1] at hy
  obtain⟨rs,e1,e2⟩:=hy
  split at e2
  ·cases e2
  ·rename_i hl
   simp only[Bool.not_eq_true,Bool.or_eq_false_iff,Bool.not_eq_false'] at hl
   rw[jo1] at e2
   obtain⟨ds,e3,e4⟩:=e2
   refine⟨W,ρ,rs,ds,hR,e1,e3,fun J H1 s1 _ hyl=>?_⟩
   have p1:=SPost.same hR s1
   exact zeI p1.r (zd8 hl.2) (hyl hl.1) e4 fun W' σ' H' p=>FlOk.back p1 (q W' σ' H' (p1.trans p hR))
theorem zou(i j:Nat){y:Str}{px:Pos}(hp:PassesOwn (model X.prog X.w) X.A X.env X.xe)(hc:X.calm=true)(hN:X.N.Nodup)(hi:X.N[i]? =some x)(hx:Loc X.env.scope x)(hj:X.N[j]? =some y)(hv:Vis X.env.scope y)(hb:ISs X (zaV fa fuel ss) sts)
  (hf:X.fn x=true\/X.env.scope.names.lookup x=some .local:=by first|exact .inl rfl|exact .inr rfl|assumption) (hd:(y==("__debug__":Str))=false:=by decide) (hcd:(y==("__classdict__":Str))=false:=by decide)
  (hfo: ∀x,foldedSetIterable (.Name y p) X.env x=pure x:=by intro _;rfl):IS X (exS fa fuel (.forV i j ss)) (.For (.Name x px) (.Name y p) sts [] pos):=
 .mk <| (zol hp hc (zot (zfA hj hv hd hcd)) (ziw hN hi hx hf) hb.h hfo).imp fun D0 σ H zz3=>by
  obtain⟨W,ρ,z,hR,hz,q⟩:=zz3
  simp only[zpk] at hz
  split at hz
  case isFalse=>cases hz
  rename_i hfr
  have hfr:=zd8 hfr
  simp only[jo1,zfE] at hz
  obtain⟨⟨ds,ρ1⟩,e1,e2⟩:=hz
  split at e1
  ·rename_i d h
   rw[jo2] at e1
   obtain⟨l,e3,e4⟩:=e1
   cases e4
   obtain⟨v,h1,h2⟩:=hR.val j d h
   refine⟨v,h1,?_⟩
   unfold zga at e3
   split at e3
   ·cases e3
    cases h2 with
    |tup hq rp=>exact⟨_,rfl,.inr ⟨⟨_,.of hq⟩,zeI hR hfr (fun W' H' x k=>zlx (.of (x.tup _ _ hq)) (rp.ext x) k) e2 q⟩⟩
   ·cases e3
    cases h2 with
    |lst hq rp=>exact⟨_,rfl,.inl ⟨⟨_,hq.elim (fun z=>.inl z.2) fun z=>.inr z⟩,zeI hR hfr (fun W' H' x k=>zhw (ziI hq x) (rp.ext x) k) e2 q⟩⟩
   ·cases e3
  ·rename_i o es h
   cases e1
   cases o with
   |false=>exact absurd h (hR.nol j _)
   |true=>
   obtain⟨a,xs,h1,h2,h3,h4⟩:=hR.own j _ _ h rfl
   cases h4 with
   |lst h4=>
   obtain⟨p1,rp⟩:=zeV hR h h1
   refine⟨_,h1,a,rfl,.inl ⟨⟨_,.of h3⟩,?_⟩⟩
   refine zeI p1.r (fun z=>hfr ((p1.io i).1.mp z)) (fun W' H' x k=>?_) e2 fun W' σ' H' p=>FlOk.back p1 (q W' σ' H' (p1.trans p hR))
   cases rp with
   |lst hq rp=>exact zhw (ziI hq x) (rp.ext x) k
  ·cases e1
theorem ziJ(hp:PassesOwn (model X.prog X.w) X.A X.env X.xe)(hc:IT X (prj fa) c cc)(hb:ISs X (zaV fa fuel ss) sts):IS X (exS fa fuel (.while_ cc ss)) (.While c sts [] pos):=
 .mk <| (zm5 hp hc.h hb.h).imp fun D0 σ H zz3=>by
  obtain⟨W,ρ,y,hR,hy,q⟩:=zz3
  simp only[zlh] at hy
  refine⟨fun m σ' H'=>∃W' ρ',SPost X.K W ρ σ H W' ρ' σ' H'/\zbM (evT (prj fa) cc) (zaV fa fuel ss) m ρ'=some y,⟨fuel,W,ρ,.same hR (.refl H),hy⟩,?_⟩
  rintro m σ' H' ⟨W',ρ',p,hw⟩
  cases m with
  |zero=>simp[zbM] at hw
  |succ m=>
   rw[zbM,jo1] at hw
   obtain⟨k,e1,e2⟩:=hw
   refine⟨W',ρ',k,p.r,e1,fun H1 s1=>?_⟩
   have p1:=SPost.same p.r s1
   have p01:=p.trans p1 hR
   cases k with
   |false=>
    rw[if_neg Bool.false_ne_true] at e2
    cases e2
    exact zxR (q W' σ' H1 p01)
   |true=>
    rw[if_pos rfl] at e2
    rw[jo1] at e2
    obtain⟨⟨fl,ρ2⟩,e3,e4⟩:=e2
    refine zxS ⟨fun σ2 H2=>∃W' ρ',SPost X.K W ρ σ H W' ρ' σ2 H2/\zbM (evT (prj fa) cc) (zaV fa fuel ss) m ρ'=some y,fun σ2 H2 h=>⟨m,Nat.lt_succ_self m,h⟩,?_⟩
    refine⟨W',ρ',(fl,ρ2),p1.r,e3,fun W3 σ3 H3 p3=>?_⟩
    have p03:=p01.trans p3 hR
    cases fl with
    |nx=>exact⟨W3,ρ2,p03,e4⟩
    |ct=>exact⟨W3,ρ2,p03,e4⟩
    |br=>cases e4;exact q W3 σ3 H3 p03
    |rt r=>cases e4;exact fun v hv=>q W3 σ3 H3 p03 v (hv.back p01)
end
theorem zhy(io:List Nat): ∀(ds:List D) (k i:Nat),(zdr io k ds)[i]? =(ds[i]?).map fun d=>some (if io.contains (k+i) then SV.io d else .val d)
 |[],k,i=>by simp[zdr]
 |d::r,k,0=>by simp[zdr]
 |d::r,k,i+1=>by
  rw[zdr,List.getElem?_cons_succ,zhy io r (k+1) i,List.getElem?_cons_succ]
  have:k+1+i=k+(i+1):=by omega
  rw[this]
theorem zdw(io:List Nat): ∀(ds:List D) (k:Nat),(zdr io k ds).length=ds.length
 |[],k=>rfl
 |d::r,k=>by simp[zdr,zdw io r (k+1)]
theorem zpw{io:List Nat}{ds:List D}{n:Nat}{i:Nat}{x:SV}(h:(zdr io 0 ds++List.replicate n Option.none)[i]? =some (some x)):
  ∃d,ds[i]? =some d/\x=if io.contains i then SV.io d else .val d:=by
 by_cases hi:i<ds.length
 ·rw[List.getElem?_append_left (by rw[zdw];exact hi),zhy,jo2] at h
  obtain⟨d,e1,e2⟩:=h
  rw[Nat.zero_add] at e2
  exact⟨d,e1,(Option.some.inj e2).symm⟩
 ·rw[List.getElem?_append_right (by rw[zdw];omega)] at h
  rw[List.getElem?_replicate] at h
  split at h<;>cases h
theorem zcO{N:List Str}{vs:List V}{i:Nat}{v:V}(h:vs[i]? =some v):(zdn N vs)[i]? =some (some v):=by
 have hi:i<vs.length:=(List.getElem?_eq_some_iff.mp h).1
 unfold zdn
 rw[List.getElem?_append_left (by simpa using hi),List.getElem?_map,h]
 rfl
theorem ziK{K:PySem.W.Frag}{W W':Addr->Prop}{H':Hp}{ρ':LW.Env}{σ':St}{vs:List V}(hR:R K W' ρ' σ' H')(sub: ∀b,W b->W' b): ∀{io:List Nat} {outs:List D},zb7 ρ' io=some outs->(∀k∈io,ziq ρ' k->∃a,σ'[k]? =some (some (.ref a))/\vs[k]? =some (.ref a))->zw2 K W H' io vs outs
 |[],outs,e,_=>by simp only[zb7] at e;cases e;exact .nil
 |k::r,outs,e,hs=>by
  simp only[zb7] at e
  split at e
  ·rename_i d h
   rw[jo2] at e
   obtain⟨l,e1,rfl⟩:=e
   obtain⟨a,h1,h2⟩:=hs k List.mem_cons_self ⟨d,h⟩
   obtain⟨a',o,h3,_,h5,h6⟩:=hR.own k _ d h rfl
   rw[h1] at h3;cases h3
   exact .cons ⟨a,o,h2,h5,h6.less sub⟩ (ziK hR sub e1 fun j hj=>hs j (List.mem_cons_of_mem _ hj))
  ·cases e
theorem zbO{Pg:Program}{w:World}{K:PySem.W.Frag}{mg:Str->Option Value}{base:Heap}{x qual:Str}{st:Stmt}{f:Addr}{fd:FuncData}{N ps:List Str}{k n i:Nat}{P:Nat->Option Fn}{fuel:Nat}{F0:Fn}{io:List Nat}
  (F:Fun K x qual st f fd) (S:FnScope N ps (zaa st)) (hP:P i=some F0) (hnp:F0.np=ps.length) (hnl:F0.nl=N.length) (hio:F0.io=io) (hiop:io.all (fun k=>decide (k<F0.np))=true) (hxb:F0.xb=Option.none)
  (hbody: ∀(cdv:Value) (A:Around) (outer:List PySem.Env) (s:Shared) (H:Hp) (E:XK),Room k (A.deeper (envOfC qual (zaa st) s.heap.objs.size f cdv))->
   ISs (zc8 CX0 Pg w K mg base N qual (zaa st) f cdv A outer s H E).nox (zaV (zat P fuel n) fuel F0.body) (zag st)):
  FnOk Pg w K mg base CX0 (k+1) f fd ps (spA K (zat P fuel (n+1)) i io):=by
 subst hio
 have dec: ∀{ds:List D} {r:Ans},zat P fuel (n+1) i ds=some r->ds.length=F0.np/\zpf F0.io (zaV (zat P fuel n) fuel F0.body (zdr F0.io 0 ds++List.replicate (F0.nl-F0.np) Option.none))=some r:=fun {ds r} h=>by
  rw[zat,hP] at h
  simp only[Option.bind_some,hxb] at h
  split at h
  ·exact⟨by assumption,h⟩
  ·cases h
 refine F.ok S (fun vs H Q E h=>?_) (fun cdv A outer s H vs Q E hr h=>⟨_,(hbody cdv A outer s H E hr).h,?_⟩)
 ·obtain⟨W,ds,r,outs,wf,rp,e,_⟩:=h
  rw[<-rp.len,(dec e).1,hnp]
 ·obtain⟨W,ds,r,outs,wf,rp,e,q⟩:=h
  obtain⟨hl,he⟩:=dec e
  have hlv:=rp.len
  have hplN:ps.length<=N.length:=by have:=congrArg List.length S.pre;rw[List.length_take] at this;omega
  generalize hρ:zdr F0.io 0 ds++List.replicate (F0.nl-F0.np) Option.none=ρ at he
  have at_: ∀{j:Nat} {x:SV},ρ[j]? =some (some x)->∃d,ds[j]? =some d/\x=if F0.io.contains j then SV.io d else .val d:=fun {j x} h=>by rw[<-hρ] at h;exact zpw h
  have own_io: ∀a,Own ρ (zdn N vs) a->ioV F0.io vs a:=fun a zz1=>by
   obtain⟨j,x,d,h1,hc,h2⟩:=zz1
   obtain⟨d',e1,e2⟩:=at_ h1
   split at e2
   ·rename_i hj
    have hj:j∈F0.io:=by simpa using hj
    obtain⟨b,o,h3,_⟩:=rp.obj j d' e1 hj
    rw[zcO h3] at h2
    cases h2
    exact⟨j,hj,h3⟩
   ·subst e2;cases hc
  have hR:R K W ρ (zdn N vs) H:=by
   refine⟨fun j d h=>?_,fun j d h=>?_,fun j x d h hc=>?_,fun j k x y d e a h1 h2 c1 c2 h3 h4=>?_,wf,?_⟩
   ·obtain⟨d',e1,e2⟩:=at_ h
    split at e2
    ·cases e2
    ·rename_i hj
     cases e2
     obtain⟨v,h1,h2⟩:=rp.val j d e1 (by simpa using hj)
     exact⟨v,zcO h1,h2⟩
   ·obtain⟨d',e1,e2⟩:=at_ h
    split at e2<;>cases e2
   ·obtain⟨d',e1,e2⟩:=at_ h
    split at e2
    ·rename_i hj
     subst e2;cases hc
     obtain⟨b,o,h3,h4,h5,h6⟩:=rp.obj j d e1 (by simpa using hj)
     exact⟨b,o,zcO h3,h4,h5,h6⟩
    ·subst e2;cases hc
   ·obtain⟨d1,e1,e2⟩:=at_ h1
    obtain⟨d2,e3,e4⟩:=at_ h2
    split at e2
    ·rename_i hj
     split at e4
     ·rename_i hk
      have hj:j∈F0.io:=by simpa using hj
      have hk:k∈F0.io:=by simpa using hk
      obtain⟨b,o,z1,_⟩:=rp.obj j d1 e1 hj
      obtain⟨b',o',z2,_⟩:=rp.obj k d2 e3 hk
      rw[zcO z1] at h3;cases h3
      rw[zcO z2] at h4;cases h4
      exact rp.inj j k _ hj hk z1 z2
     ·subst e4;cases c2
    ·subst e2;cases c1
   ·rw[<-hρ]
    unfold zdn
    rw[List.length_append,List.length_append,zdw,List.length_map,List.length_replicate,List.length_replicate]
    omega
  cases hx:zaV (zat P fuel n) fuel F0.body ρ with
  |none=>rw[hx] at he;cases he
  |some y=>
   rw[hx] at he
   obtain⟨fl,ρ'⟩:=y
   refine⟨W,ρ,(fl,ρ'),hR,hx,fun W' σ' H' p=>?_⟩
   have kp: ∀a o,H a=some o->¬ioV F0.io vs a->H' a=some o:=fun b o h n=>p.keep b o h fun z=>n (own_io b z)
   have io_at: ∀k∈F0.io,ziq ρ' k->∃a,σ'[k]? =some (some (.ref a))/\vs[k]? =some (.ref a):=fun j hj z=>by
    have z0:=(p.io j).1.mp z
    obtain⟨d0,z1⟩:=z0
    obtain⟨d',e1,e2⟩:=at_ z1
    obtain⟨b,o,h3,_⟩:=rp.obj j d' e1 hj
    exact⟨b,by rw[(p.io j).2 ⟨d0,z1⟩,zcO h3],h3⟩
   have sub: ∀b,W b->W' b:=fun b w=>by
    by_cases hb:Own ρ (zdn N vs) b
    ·obtain⟨j,x,d,h1,hc,h2⟩:=hb
     obtain⟨d',e1,e2⟩:=at_ h1
     split at e2
     ·subst e2
      obtain⟨d2,z⟩:=(p.io j).1.mpr ⟨d',h1⟩
      obtain⟨a',o,h3,h4,_⟩:=p.r.own j _ d2 z rfl
      rw[(p.io j).2 ⟨d',h1⟩,h2] at h3
      cases h3
      exact h4
     ·subst e2;cases hc
    ·exact (p.wout b w hb).1
   cases fl with
   |br=>cases he
   |ct=>cases he
   |nx=>
    simp only[zpf,jo2] at he
    obtain⟨l,e1,e2⟩:=he
    cases e2
    exact q _ H' kp (ziK p.r sub e1 io_at) (.val .non)
   |rt r'=>
    simp only[zpf,jo2] at he
    obtain⟨l,e1,e2⟩:=he
    cases e2
    intro v hv
    have ho:=ziK p.r sub e1 io_at
    cases hv with
    |val h=>exact q v H' kp ho (.val (h.less sub))
    |new h nn n' eL rr=>
     have ha:=(p.win _ h).resolve_left fun w=>nn ⟨w,fun zz0=>by
      obtain⟨j,x,d,h1,hc,h2⟩:=zz0
      obtain⟨d',e1,e2⟩:=at_ h1
      split at e2
      ·subst e2;exact n' ⟨j,⟨d',h1⟩,h2⟩
      ·subst e2;cases hc⟩
     refine q _ H' kp ho (.new ha eL (rr.less fun b w=>?_))
     rcases w with w|rfl
     ·exact sub b w
     ·exact h
end L2.LW
set_option maxHeartbeats 4000000
namespace L2.LW
open PySem PySem.Spec PyProof.Rows
noncomputable def zir(env:PySem.Env):List (Str×NameKind)->List (Str×Addr)->List (Str×Addr)
 |[],acc=>acc
 |(n,k)::r,acc=>if k== .free then zir env r ((n,(env.cells.lookup n).getD 0)::acc) else zir env r acc
theorem zfK(env:PySem.Env): ∀(names:List (Str×NameKind)) (acc:List (Str×Addr)),(∀y∈names,y.2= .free->(env.cells.lookup y.1).isSome=true)->
  (forIn names acc fun (x:Str×NameKind) (cs:List (Str×Addr))=>(if (x.2==NameKind.free)=true then (do let c <-cellOf env x.1;pure (ForInStep.yield ((x.1,c)::cs)):Sem (ForInStep (List (Str×Addr)))) else pure (ForInStep.yield cs)))=(pure (zir env names acc):Sem (List (Str×Addr)))
 |[],acc,_=>rfl
 |(n,k)::r,acc,h=>by
  have ih:=fun acc=>zfK env r acc fun y hy=>h y (List.mem_cons_of_mem _ hy)
  rw[List.forIn_cons]
  by_cases hk:(k==NameKind.free)=true
  ·have hs:=h (n,k) List.mem_cons_self (by simpa using hk)
   obtain⟨c,hc⟩:=Option.isSome_iff_exists.mp hs
   have hc:env.cells.lookup n=some c:=hc
   simp only[hk,if_true,cellOf,hc,zir,Option.getD_some]
   show (forIn r ((n,c)::acc) _:Sem _)=_
   exact ih _
  ·simp only[hk,if_false,zir]
   show (forIn r acc _:Sem _)=_
   exact ih _
theorem zeW{scope:Scope}{env:PySem.Env}(h: ∀y∈scope.names,y.2= .free->(env.cells.lookup y.1).isSome=true):closureFor scope env=pure (zir env scope.names []):=by
 have key:closureFor scope env=((forIn scope.names ([]:List (Str×Addr)) fun (x:Str×NameKind) (cs:List (Str×Addr))=>
  (if (x.2==NameKind.free)=true then (do let c <-cellOf env x.1;pure (ForInStep.yield ((x.1,c)::cs)):Sem (ForInStep (List (Str×Addr)))) else pure (ForInStep.yield cs))) >>= fun cs=>pure cs):=rfl
 rw[key,zfK env scope.names [] h]
 rfl
theorem zcd{env:PySem.Env}{y:Str}{c:Addr}: ∀{names:List (Str×NameKind)} {acc:List (Str×Addr)},(∀z∈names,z.2= .free->(env.cells.lookup z.1).isSome=true)->(zir env names acc).lookup y=some c->
  acc.lookup y=some c\/env.cells.lookup y=some c
 |[],_,_,e=>.inl e
 |(n,k)::r,acc,h,e=>by
  unfold zir at e
  split at e
  ·rename_i hk
   rcases zcd (fun z hz=>h z (List.mem_cons_of_mem _ hz)) e with q|q
   ·rw[List.lookup_cons] at q
    split at q
    ·rename_i hy
     have hy:y=n:=by simpa using hy
     subst hy
     obtain⟨c',hc⟩:=Option.isSome_iff_exists.mp (h (y,k) List.mem_cons_self (by simpa using hk))
     have hc:env.cells.lookup y=some c':=hc
     rw[hc] at q
     cases q
     exact .inr hc
    ·exact .inl q
   ·exact .inr q
  ·exact zcd (fun z hz=>h z (List.mem_cons_of_mem _ hz)) e
theorem zgr{env:PySem.Env}{y:Str}: ∀{names:List (Str×NameKind)} {acc:List (Str×Addr)},((acc.lookup y).isSome=true\/(y,NameKind.free)∈names)->((zir env names acc).lookup y).isSome=true
 |[],acc,h=>by
  rcases h with h|h
  ·exact h
  ·cases h
 |(n,k)::r,acc,h=>by
  unfold zir
  split
  ·rename_i hk
   refine zgr ?_
   by_cases e:y=n
   ·subst e;exact .inl (by simp)
   ·have hb:(y==n)=false:=by simpa using e
    rcases h with h|h
    ·exact .inl (by rw[List.lookup_cons,hb];exact h)
    ·rcases List.mem_cons.mp h with z|z
     ·cases z;exact absurd rfl e
     ·exact .inr z
  ·rename_i hk
   refine zgr ?_
   rcases h with h|h
   ·exact .inl h
   ·rcases List.mem_cons.mp h with z|z
    ·cases z;exact absurd rfl hk
    ·exact .inr z
noncomputable def zov(x:Str)(N:List Str):List Str:=N.map fun y=>if y=x then ("":Str) else y
noncomputable def zcZ(scope:Scope)(x:Str)(c:Addr)(cl:List (Str×Addr)):List (Str×Addr):=if scope.names.lookup x=some .cell then (x,c)::cl else cl
noncomputable def zbA(X:Cx)(scope:Scope)(x:Str)(s₃:Shared)(H₃:Hp)(fp:List Addr)(pins:List (Addr×Obj)):Cx:=
 { X with N:=x::zov x X.N,s₀:=s₃,H₀:=H₃,env:=compEnvC scope (zcZ scope x (s₃.heap.objs.size+1) (zir X.env scope.names [])) s₃.heap.objs.size X.env,outer:=X.stack,stack:=X.stack,ex:=fp,fn:=fun y=>decide (y=x)&&decide (scope.names.lookup x=some .cell),pn:=X.pn++pins,xe:=fun _ _=>False }
structure CompSc (X:Cx)(scope:Scope)(x:Str):Prop where
 kind:scope.kind= .function
 loc:scope.names.lookup x=some .local\/scope.names.lookup x=some .cell
 names: ∀y∈scope.names,y.2= .local->scope.names.lookup y.1=some .local
 cell1:scope.names.filter (fun y=>y.2== .cell)=if scope.names.lookup x=some .cell then [(x,.cell)] else []
 free: ∀y∈scope.names,y.2= .free->X.env.scope.names.lookup y.1=some .cell\/X.env.scope.names.lookup y.1=some .free
 own: ∀y∈X.N,scope.names.lookup y=some .local->y=x
 none:scope.names.lookup ("":Str)=Option.none
 nd:(x::zov x X.N).Nodup
theorem zcP{y:Str}{k:NameKind}: ∀{l:List (Str×NameKind)},l.lookup y=some k->(y,k)∈l
 |[],h=>by cases h
 |(n,j)::r,h=>by
  rw[List.lookup_cons] at h
  split at h
  ·rename_i e
   have e:y=n:=by simpa using e
   cases h;subst e
   exact List.mem_cons_self
  ·exact List.mem_cons_of_mem _ (zcP h)
theorem za7{env:PySem.Env}{y:Str}{k:NameKind}: ∀{names:List (Str×NameKind)},
  (names.map fun (z:Str×NameKind)=>match z with|(n,k)=>if (k==NameKind.free&&env.scope.kind== .function&&env.kindOf n==some .cell)=true then (n,NameKind.cell) else (n,k)).lookup y=some k->
  names.lookup y=some k\/(k= .cell/\names.lookup y=some .free)
 |[],h=>by cases h
 |(n,j)::r,h=>by
  rw[List.map_cons,List.lookup_cons] at h
  rw[List.lookup_cons]
  by_cases hc:(j==NameKind.free&&env.scope.kind== .function&&env.kindOf n==some .cell)=true
  ·simp only[hc,if_true] at h
   cases e:y==n with
   |true=>
    rw[e] at h
    cases h
    have hj:j= .free:=by
     simp only[Bool.and_eq_true] at hc
     simpa using hc.1.1
    exact .inr ⟨rfl,by rw[hj]⟩
   |false=>rw[e] at h;exact za7 h
  ·simp only[hc,Bool.false_eq_true,if_false] at h
   cases e:y==n with
   |true=>rw[e] at h;exact .inl h
   |false=>rw[e] at h;exact za7 h
section
variable {X:Cx} {scope:Scope} {x:Str} {s₃:Shared} {H₃:Hp} {fp:List Addr} {pins:List (Addr×Obj)} {σ:St}
theorem CompSc.onlyC(S:CompSc X scope x){y:Str}(h:scope.names.lookup y=some .cell):y=x/\scope.names.lookup x=some .cell:=by
 have hm:(y,NameKind.cell)∈scope.names.filter (fun y=>y.2== .cell):=List.mem_filter.mpr ⟨zcP h,rfl⟩
 rw[S.cell1] at hm
 split at hm
 ·simp at hm;subst hm;exact⟨rfl,h⟩
 ·cases hm
theorem zdx{x:Str}: ∀(names:List (Str×NameKind)) (a:Nat) (acc:List (Str×Addr)) (h:Heap),names.filter (fun y=>y.2== .cell)=[(x,.cell)]->cellsFrom a names acc=(x,a)::acc/\pushCells h names=h.push { cls:=.type "cell",data:=.cell Option.none }
 |[],_,_,_,e=>by cases e
 |(n,k)::r,a,acc,h,e=>by
  have none_: ∀(names:List (Str×NameKind)) (a:Nat) (acc:List (Str×Addr)) (h:Heap),names.filter (fun y=>y.2== .cell)=[]->cellsFrom a names acc=acc/\pushCells h names=h:=by
   intro names
   induction names with
   |nil=>intro a acc h _;exact⟨rfl,rfl⟩
   |cons y r ih=>
    intro a acc h e
    obtain⟨n,k⟩:=y
    rw[List.filter_cons] at e
    split at e
    ·cases e
    ·rename_i hk
     have hk:(k==NameKind.cell)=false:=by simpa using hk
     unfold cellsFrom pushCells
     rw[hk]
     exact ih a acc h e
  rw[List.filter_cons] at e
  split at e
  ·rename_i hk
   injection e with e1 e2
   cases e1
   unfold cellsFrom pushCells
   simp only[beq_self_eq_true,if_true]
   exact none_ r _ _ _ e2
  ·rename_i hk
   have hk:(k==NameKind.cell)=false:=by simpa using hk
   unfold cellsFrom pushCells
   rw[hk]
   exact zdx r a acc h e
theorem zc0: ∀(names:List (Str×NameKind)) (a:Nat) (acc:List (Str×Addr)) (h:Heap),names.filter (fun y=>y.2== .cell)=[]->cellsFrom a names acc=acc/\pushCells h names=h
 |[],_,_,_,_=>⟨rfl,rfl⟩
 |(n,k)::r,a,acc,h,e=>by
  rw[List.filter_cons] at e
  split at e
  ·cases e
  ·rename_i hk
   have hk:(k==NameKind.cell)=false:=by simpa using hk
   unfold cellsFrom pushCells
   rw[hk]
   exact zc0 r a acc h e
theorem ziL{M:Model}{A:Around}{E:Value->Shared->Prop}{s:Shared}{globals:Addr}{cl:List (Str×Addr)}{qual:Str}{env:PySem.Env}{Q:PySem.Env->Shared->Prop}(S:CompSc X scope x)
  (h: ∀h₁,h₁.Ns s.heap.objs.size (fun _=>Option.none)->(∀b o,s.heap.get? b=some o->h₁.get? b=some o)->(scope.names.lookup x=some .cell->h₁.IsCell (s.heap.objs.size+1) Option.none)->
   Q (newEnv scope s.heap.objs.size globals (zcZ scope x (s.heap.objs.size+1) cl) qual Option.none .none (some env) builtinsNs) { s with heap:=h₁ }):
  wpAny M A (newFunctionEnv scope globals cl [] qual Option.none .none (some env)) Q E s:=by
 simp only[newFunctionEnv,Option.isSome_some,if_true]
 refine wpAny_bind (wpAny_alloc ?_)
 refine wpAny_bind (wpAny_layCells _ (fun name kind cells=>by cases hkc:kind==NameKind.cell<;>simp[hkc]) _ _ _ _ ?_)
 rw[List.forIn_nil]
 refine wpAny_bind (wpAny_pure (wpAny_pure ?_))
 rw[show ({ s with heap:=s.heap.push { cls:=.type "dict",data:=.dict #[] } }:Shared).heap.objs.size=s.heap.objs.size+1 from Heap.size_push ..]
 have hc:=S.cell1
 by_cases hx:scope.names.lookup x=some .cell
 ·rw[if_pos hx] at hc
  obtain⟨e1,e2⟩:=zdx (x:=x) scope.names (s.heap.objs.size+1) cl (s.heap.push { cls:=.type "dict",data:=.dict #[] }) hc
  have h':=h (pushCells (s.heap.push { cls:=.type "dict",data:=.dict #[] }) scope.names) ((Heap.Ns.new s.heap (.type "dict")).keeps (pushCells_keeps _ _)) (fun b o e=>pushCells_keeps _ _ b o (Heap.get?_push_of_some _ e)) (fun _=>by
   rw[e2]
   have:(s.heap.push { cls:=.type "dict",data:=.dict #[] }).objs.size=s.heap.objs.size+1:=Heap.size_push ..
   rw[<-this]
   exact⟨_,Heap.get?_push_size _ rfl,rfl⟩)
  rw[e1]
  unfold zcZ at h'
  rw[if_pos hx] at h'
  exact h'
 ·rw[if_neg hx] at hc
  obtain⟨e1,e2⟩:=zc0 scope.names (s.heap.objs.size+1) cl (s.heap.push { cls:=.type "dict",data:=.dict #[] }) hc
  have h':=h (pushCells (s.heap.push { cls:=.type "dict",data:=.dict #[] }) scope.names) ((Heap.Ns.new s.heap (.type "dict")).keeps (pushCells_keeps _ _)) (fun b o e=>pushCells_keeps _ _ b o (Heap.get?_push_of_some _ e)) (fun z=>absurd z hx)
  rw[e1]
  unfold zcZ at h'
  rw[if_neg hx] at h'
  exact h'
theorem CompSc.cells(S:CompSc X scope x)(ok:X.Ok): ∀y∈scope.names,y.2= .free->(X.env.cells.lookup y.1).isSome=true:=fun y hy hk=>by
 obtain⟨c,hc⟩:=ok.has y.1 (S.free y hy hk)
 rw[hc];rfl
theorem CompSc.look(S:CompSc X scope x)(ok:X.Ok){y:Str}{c:Addr}(h:(zbA X scope x s₃ H₃ fp pins).env.cells.lookup y=some c):
  (y=x/\scope.names.lookup x=some .cell/\c=s₃.heap.objs.size+1)\/((y≠x\/scope.names.lookup x≠some .cell)/\X.env.cells.lookup y=some c):=by
 have h:(zcZ scope x (s₃.heap.objs.size+1) (zir X.env scope.names [])).lookup y=some c:=h
 have old:(zir X.env scope.names []).lookup y=some c->X.env.cells.lookup y=some c:=fun h=>by
  rcases zcd (S.cells ok) h with q|q
  ·cases q
  ·exact q
 unfold zcZ at h
 split at h
 ·rename_i hc
  rw[List.lookup_cons] at h
  split at h
  ·rename_i e
   cases h
   exact .inl ⟨by simpa using e,hc,rfl⟩
  ·rename_i e
   exact .inr ⟨.inl (by simpa using e),old h⟩
 ·rename_i hc
  exact .inr ⟨.inr hc,old h⟩
theorem CompSc.kindOf(S:CompSc X scope x){y:Str}(h:(zbA X scope x s₃ H₃ fp pins).env.kindOf y=some .cell\/(zbA X scope x s₃ H₃ fp pins).env.kindOf y=some .free):scope.names.lookup y=some .free\/(y=x/\scope.names.lookup x=some .cell):=by
 rcases h with h|h
 ·rcases za7 (show _=_ from h) with q|⟨_,q⟩
  ·exact .inr (S.onlyC q)
  ·exact .inl q
 ·rcases za7 (show _=_ from h) with q|⟨z,q⟩
  ·exact .inl q
  ·cases z
theorem CompSc.has(S:CompSc X scope x){y:Str}(h:scope.names.lookup y=some .free): ∃c,(zbA X scope x s₃ H₃ fp pins).env.cells.lookup y=some c/\(zir X.env scope.names []).lookup y=some c:=by
 obtain⟨c,hc⟩:=Option.isSome_iff_exists.mp (zgr (env:=X.env) (names:=scope.names) (acc:=[]) (y:=y) (.inr (zcP h)))
 refine⟨c,?_,hc⟩
 show (zcZ scope x (s₃.heap.objs.size+1) (zir X.env scope.names [])).lookup y=some c
 unfold zcZ
 split
 ·rename_i hx
  have:(y==x)=false:=by
   cases e:y==x with
   |false=>rfl
   |true=>
    have e:y=x:=by simpa using e
    subst e;rw[h] at hx;cases hx
  rw[List.lookup_cons,this]
  exact hc
 ·exact hc
theorem zcs{env:PySem.Env}{y:Str}: ∀{names:List (Str×NameKind)},names.lookup y=some .cell->
  (names.map fun (z:Str×NameKind)=>match z with|(n,k)=>if (k==NameKind.free&&env.scope.kind== .function&&env.kindOf n==some .cell)=true then (n,NameKind.cell) else (n,k)).lookup y=some .cell
 |[],h=>by cases h
 |(n,j)::r,h=>by
  rw[List.lookup_cons] at h
  rw[List.map_cons,List.lookup_cons]
  by_cases hc:(j==NameKind.free&&env.scope.kind== .function&&env.kindOf n==some .cell)=true
  ·simp only[hc,if_true]
   cases e:y==n with
   |true=>rfl
   |false=>rw[e] at h;exact zcs h
  ·simp only[hc,Bool.false_eq_true,if_false]
   cases e:y==n with
   |true=>rw[e] at h;exact h
   |false=>rw[e] at h;exact zcs h
theorem CompSc.locX(S:CompSc X scope x):Loc (zbA X scope x s₃ H₃ fp pins).env.scope x:=by
 rcases S.loc with h|h
 ·exact .inl (lookup_relabel_local h)
 ·exact .inr (zcs h)
theorem CompSc.fnX(S:CompSc X scope x):(zbA X scope x s₃ H₃ fp pins).fn x=true\/(zbA X scope x s₃ H₃ fp pins).env.scope.names.lookup x=some .local:=by
 rcases S.loc with h|h
 ·exact .inr (lookup_relabel_local h)
 ·left
  show (decide (x=x)&&decide (scope.names.lookup x=some .cell))=true
  simp[h]
theorem zly(S:CompSc X scope x)(I:Inv X pins σ H₃ s₃)(hf: ∀b∈fp,zkG X pins H₃ b)(hlt: ∀b∈fp,b<s₃.heap.objs.size):(zbA X scope x s₃ H₃ fp pins).Ok where
 mod:=I.ok.mod
 kind:=S.kind
 glob:=I.ok.glob
 blt:=I.ok.blt
 above:=Nat.le_refl _
 inj:=fun y z c h1 h2=>by
  have old: ∀{y:Str} {c:Addr},X.env.cells.lookup y=some c->c<s₃.heap.objs.size:=fun {y c} h=>by
   obtain⟨v,o,ho,_⟩:=I.cell y c h
   exact Heap.lt_size ho
  rcases S.look I.ok h1 with ⟨e1,_,e2⟩|⟨_,q1⟩
  ·rcases S.look I.ok h2 with ⟨e3,_,e4⟩|⟨_,q2⟩
   ·rw[e1,e3]
   ·have:=old q2;rw[e2] at this;exact absurd this (Nat.not_lt.mpr (Nat.le_succ _))
  ·rcases S.look I.ok h2 with ⟨e3,_,e4⟩|⟨_,q2⟩
   ·have:=old q1;rw[e4] at this;exact absurd this (Nat.not_lt.mpr (Nat.le_succ _))
   ·exact I.ok.inj y z c q1 q2
 has:=fun y h=>by
  rcases S.kindOf h with q|⟨q1,q2⟩
  ·obtain⟨c,hc,_⟩:=S.has (s₃:=s₃) (H₃:=H₃) (fp:=fp) (pins:=pins) q
   exact⟨c,hc⟩
  ·refine⟨s₃.heap.objs.size+1,?_⟩
   show (zcZ scope x (s₃.heap.objs.size+1) (zir X.env scope.names [])).lookup y=_
   unfold zcZ
   rw[if_pos q2,q1,List.lookup_cons,beq_self_eq_true]
 cab:=fun y c h hc=>by
  have h:(decide (y=x)&&decide (scope.names.lookup x=some .cell))=true:=h
  rw[Bool.and_eq_true,decide_eq_true_iff,decide_eq_true_iff] at h
  rcases S.look I.ok hc with ⟨_,_,e⟩|⟨q,_⟩
  ·rw[e];exact Nat.le_succ _
  ·exact absurd h (fun z=>q.elim (fun w=>w z.1) fun w=>w z.2)
 hd:=I.ok.hd
 frames:=I.ok.frames
 stk:=.inl rfl
 exf:=fun b hb=>⟨Nat.ne_of_lt (hlt b hb),fun y c h=>by
  rcases S.look I.ok h with ⟨_,_,e⟩|⟨_,q⟩
  ·rw[e];exact fun z=>absurd (z▸hlt b hb) (Nat.not_lt.mpr (Nat.le_succ _))
  ·exact (hf b hb).2.2.2.2.1 y c q⟩
 bs:=I.bs
 bsz:=Nat.le_trans I.ok.bsz I.sz
 noex:=fun b o e hb=>by
  obtain⟨_,_,_,h,_⟩:=hf b hb
  rcases h with h|h
  ·exact I.ok.noex b o e h
  ·exact absurd (Nat.lt_of_lt_of_le (Heap.lt_size e) (Nat.le_trans I.ok.bsz h)) (Nat.lt_irrefl _)
 exfs:=fun b hb hz=>by
  obtain⟨_,h1,h2,_⟩:=hf b hb
  rcases List.mem_cons.mp (I.stkSub b hz) with e|e
  ·exact h1 e
  ·exact h2 e
 funs:=I.stack
 frf:=I.stkFree
theorem zns{N:List Str}{i:Nat}{y:Str}(h:(zov x N)[i]? =some y): ∃z,N[i]? =some z/\((z=x/\y="")\/(z≠x/\y=z)):=by
 unfold zov at h
 rw[List.getElem?_map,jo2] at h
 obtain⟨z,e1,e2⟩:=h
 refine⟨z,e1,?_⟩
 split at e2
 ·exact .inl ⟨by assumption,e2.symm⟩
 ·exact .inr ⟨by assumption,e2.symm⟩
theorem znt{h₁:Heap}{tk:Nat}(S:CompSc X scope x)(I:Inv X pins σ H₃ s₃)(hf: ∀b∈fp,zkG X pins H₃ b)(hlt: ∀b∈fp,b<s₃.heap.objs.size)(hns:h₁.Ns s₃.heap.objs.size fun _=>Option.none)
  (hk: ∀b o,s₃.heap.get? b=some o->h₁.get? b=some o) (zfj:scope.names.lookup x=some .cell->h₁.IsCell (s₃.heap.objs.size+1) Option.none):Inv (zbA X scope x s₃ H₃ fp pins) [] (Option.none::σ) H₃ { s₃ with heap:=h₁,toks:=tk }:=by
 refine⟨zly S I hf hlt,rfl,I.bare,Un.kept hk,⟨_,hns,fun i y v h1 h2 h3=>?_⟩,fun y c h=>?_,I.hok.fresh (Nat.le_refl _),fun y c h=>?_,fun p hp=>?_,I.hok.kept hk,?_⟩
 ·cases i with
  |zero=>cases h2
  |succ i=>
   have h1:(zov x X.N)[i]? =some y:=h1
   have h2:σ[i]? =some (some v):=h2
   obtain⟨z,e1,e2⟩:=zns h1
   have vis:scope.names.lookup y=some .local\/scope.names.lookup y=some .free:=by
    rcases h3 with q|q
    ·rcases za7 (show _=_ from q) with q|⟨z,q⟩
     ·exact .inl q
     ·cases z
    ·rcases S.kindOf q with q|⟨q,_⟩
     ·exact .inr q
     ·exfalso
      rcases e2 with ⟨_,z⟩|⟨ne,z⟩
      ·have hx:x="":=q.symm.trans z
       have hn:=S.none
       rw[<-hx] at hn
       rcases S.loc with w|w<;>rw[hn] at w<;>cases w
      ·exact ne (z.symm.trans q)
   rcases e2 with ⟨rfl,rfl⟩|⟨ne,rfl⟩
   ·rw[S.none] at vis
    rcases vis with q|q<;>cases q
   ·rcases vis with q|q
    ·exact absurd (S.own y (List.mem_of_getElem? e1) q) ne
    ·have kx:=S.free _ (zcP q) rfl
     obtain⟨m,_,hl⟩:=I.loc
     obtain⟨u,ru,l⟩:=hl i y v e1 h2 (.inr kx)
     refine⟨u,ru,.inr ⟨?_,?_⟩⟩
     ·rcases h3 with q'|q'
      ·rcases za7 (show _=_ from q') with q'|⟨z,_⟩
       ·rw[q] at q';cases q'
       ·cases z
      ·exact q'
     ·rcases l with ⟨k,_⟩|⟨_,c,hc,hcell'⟩
      ·have k:X.env.scope.names.lookup y=some .local:=k
       rcases kx with z|z
       ·have z:X.env.scope.names.lookup y=some .cell:=z
        rw[z] at k;cases k
       ·have z:X.env.scope.names.lookup y=some .free:=z
        rw[z] at k;cases k
      ·obtain⟨c',hc',hc2⟩:=S.has (s₃:=s₃) (H₃:=H₃) (fp:=fp) (pins:=pins) q
       have e:X.env.cells.lookup y=some c':=by
        rcases zcd (S.cells I.ok) hc2 with q|q
        ·cases q
        ·exact q
       rw[hc] at e
       cases e
       obtain⟨o,ho,hd⟩:=hcell'
       exact⟨c,hc',o,hk _ _ ho,hd⟩
 ·rcases S.look I.ok h with ⟨_,q,e⟩|⟨_,q⟩
  ·rw[e];exact⟨Option.none,zfj q⟩
  ·obtain⟨v,o,ho,hd⟩:=I.cell y c q
   exact⟨v,o,hk _ _ ho,hd⟩
 ·rcases S.look I.ok h with ⟨_,q,e⟩|⟨_,q⟩
  ·rw[e];exact I.hok.fresh (Nat.le_succ _)
  ·exact I.freeC y c q
 ·have hp:p∈X.pn++pins:=by simpa [zbA] using hp
  obtain⟨e,n,ne,nf,d⟩:=I.pin p hp
  refine⟨hk _ _ e,n,Nat.ne_of_lt (Heap.lt_size e),fun z=>?_,d⟩
  rcases List.mem_cons.mp (I.stkSub _ z) with q|q
  ·exact ne q
  ·exact nf q
 ·show σ.length+1=(x::zov x X.N).length
  unfold zov
  rw[List.length_cons,List.length_map,I.len]
theorem zlz{s':Shared}{h':Heap}{H':Hp}{σ':St}{ps:List (Addr×Obj)}(I:Inv X pins σ H₃ s₃)(hf: ∀b∈fp,zkG X pins H₃ b)(J:Inv (zbA X scope x s₃ H₃ fp pins) ps σ' H' s')(hs:Heap.SameBut s₃.heap.objs.size s'.heap h'):
  Inv X pins σ H' { s' with heap:=h' }:=by
 have ne: ∀b o,s₃.heap.get? b=some o->b≠s₃.heap.objs.size:=fun b o e=>Nat.ne_of_lt (Heap.lt_size e)
 have fr:H' s₃.heap.objs.size=Option.none:=J.free
 have same: ∀b,b≠s₃.heap.objs.size->h'.get? b=s'.heap.get? b:=fun b hb=>hs.2 b hb
 refine I.call' (s':={ s' with heap:=h' }) (ch:=fp) J.os ⟨fun b o e n hb hx=>?_,fun b o e n hb hx=>?_,fun b o e n hx=>J.base.free b o e n hx,fun b o e hx=>?_,J.base.tups,J.base.frzs,J.base.tbls⟩ (fun b o e=>?_) J.bare fun b hb=>?_
 ·exact (same b (ne b o e)).trans (J.base.keep b o e n hb hx)
 ·obtain⟨sl,q⟩:=J.base.slot b o e n hb hx
  exact⟨sl,(same b (ne b o e)).trans q⟩
 ·obtain⟨o',q⟩:=J.base.there b o e hx
  exact⟨o',(same b (ne b o e)).trans q⟩
 ·refine (J.hok b o e).stay (fun c v hc q=>(same c ?_).trans q) (fun _ q=>q) fun _ _ q=>q
  intro z
  rcases hc with w|w
  ·rw[<-w,z,fr] at e;cases e
  ·rw[z,fr] at w;cases w
 ·obtain⟨_,h1,_,h3,h4,h5⟩:=hf b hb
  exact⟨h3,h1,h4,h5⟩
end
theorem zkd{prog:Program}{w:World}{A:Around}{E:Result->Shared->Prop}{s:Shared}{elt target iter:Expr}{ifs:List Expr}{scope:Scope}{pos:Pos}{it acc:Value}{env:PySem.Env}(J:Nat->Shared->Prop)
  (turn: ∀n s,J n s->wpAny (model prog w) A (pyNext it) (fun r s1=>match r with
   |Option.none=>E (.ok .next) s1
   |some v=>wpAny (model prog w) A (letOwnedTupleGo target it v) (fun _ s2=>wpAny (model prog w) A (assign target env v) (fun _ s3=>
     wpAny (model prog w) A (forIn ifs true fun c r=>if r=true then do let ok <-isTrue c env (eval c env);pure (ForInStep.yield ok) else pure (ForInStep.yield r)) (fun ok s4=>
      if ok=true then wpAny (model prog w) A (eval elt env) (fun y s5=>wpAny (model prog w) A (call (.builtin "list.append") [acc,y]) (fun _ s6=>∃m,m<n/\J m s6) (fun _ _=>False) s5) (fun _ _=>False) s4
      else ∃m,m<n/\J m s4) (fun _ _=>False) s3) (fun _ _=>False) s2) (fun _ _=>False) s1) (fun _ _=>False) s)
  (n:Nat) (h:J n s):codeAny (model prog w) A (.compLoop (.ListComp elt [⟨target,iter,ifs,0⟩] scope pos) 0 it acc env) E s:=by
 refine codeAny_loop rfl J (fun n s hJ=>?_) n h
 show wpAny _ _ ((compTurn (.ListComp elt [⟨target,iter,ifs,0⟩] scope pos) 0 it acc env).onRaise _) _ _ s
 refine wpAny_noted ?_
 rw[compTurn_list]
 have no: ∀(e:Value) (s':Shared),False->notedBy (model prog w) A env (fun e s'=>E (.error e) s') e s':=fun _ _ z=>z.elim
 refine wpAny_bind (wpAny_standAt (wpAny_bind (wpAny_mono (turn n s hJ) (fun r s1 h1=>?_) no)))
 cases r with
 |none=>exact wpAny_pure h1
 |some v=>
  refine wpAny_bind (wpAny_mono h1 (fun _ s2 h2=>?_) no)
  refine wpAny_bind (wpAny_mono h2 (fun _ s3 h3=>wpAny_bind (wpAny_mono h3 (fun ok s4 h4=>?_) no)) no)
  cases ok with
  |false=>exact wpAny_pure ⟨rfl,h4⟩
  |true=>exact wpAny_bind (wpAny_bind (wpAny_mono h4 (fun y s5 h5=>wpAny_bind (wpAny_mono h5 (fun _ s6 h6=>wpAny_pure (wpAny_pure ⟨rfl,h6⟩)) no)) no))
theorem R.cons{K:PySem.W.Frag}{W:Addr->Prop}{ρ:LW.Env}{σ:St}{H:Hp}{d:D}{v:V}(r:R K W ρ σ H)(h:Rep K W H d v):R K W (some (.val d)::ρ) (some v::σ) H:=by
 refine⟨fun i e hi=>?_,fun i e hi=>?_,fun i x e hi hc=>?_,fun i j x y d e a h1 h2 c1 c2 h3 h4=>?_,r.wf,by simpa using r.len⟩
 ·cases i with
  |zero=>cases hi;exact⟨v,rfl,h⟩
  |succ i=>exact r.val i e hi
 ·cases i with
  |zero=>cases hi
  |succ i=>exact r.nol i e hi
 ·cases i with
  |zero=>cases hi;cases hc
  |succ i=>exact r.own i x e hi hc
 ·cases i with
  |zero=>cases h1;cases c1
  |succ i=>
   cases j with
   |zero=>cases h2;cases c2
   |succ j=>rw[r.inj i j x y d e a h1 h2 c1 c2 h3 h4]
noncomputable def zlA(X:Cx)(fn:Nat->List D->Option SV)(scope:Scope)(x:Str)(ifs:List Expr)(cond:E):Prop:=
 (ifs=[]/\cond= .bl true)\/∃c,ifs=[c]/\∀s₃ H₃ fp pins,IT (zbA X scope x s₃ H₃ fp pins) fn c cond
section
variable {X:Cx} {fn:Nat->List D->Option SV}
theorem znu{scope:Scope}{x:Str}{ifs:List Expr}{cond:E}{s₃:Shared}{H₃:Hp}{fp:List Addr}{pins ps:List (Addr×Obj)}{σ:St}{H:Hp}{s:Shared}{W:Addr->Prop}{ρ:LW.Env}{k:Bool}{Q:Bool->Hp->Prop}
  (hc:zlA X fn scope x ifs cond) (I:Inv (zbA X scope x s₃ H₃ fp pins) ps σ H s) (hR:R X.K W ρ σ H) (he:evT fn cond ρ=some k) (q: ∀H',Same H H'->Q k H'):
  wpAny (model X.prog X.w) X.A (forIn ifs true fun c r=>if r=true then do let ok <-isTrue c (zbA X scope x s₃ H₃ fp pins).env (eval c (zbA X scope x s₃ H₃ fp pins).env);pure (ForInStep.yield ok) else pure (ForInStep.yield r))
   (TP (zbA X scope x s₃ H₃ fp pins) ps σ Q) (fun _ _=>False) s:=by
 rcases hc with ⟨rfl,rfl⟩|⟨c,rfl,hc⟩
 ·simp only[zvK] at he
  cases he
  exact wpAny_tests_nil ⟨H,I,q H (.refl H)⟩
 ·exact wpAny_tests_one ((hc s₃ H₃ fp pins).h ps s σ H Q I ⟨W,ρ,k,hR,he,q⟩)
theorem zeX{test:D->Option Bool}{elt:D->Option SV}: ∀{ds out:List D},zco test elt ds=some out->out.length<=ds.length
 |[],_,h=>by simp only[zco] at h;cases h;exact Nat.le_refl _
 |d::r,out,h=>by
  simp only[zco,jo1] at h
  obtain⟨b,e1,e2⟩:=h
  cases b with
  |true=>
   simp only[jo1,jo2] at e2
   obtain⟨_,_,_,_,l,e3,rfl⟩:=e2
   have:=zeX e3
   simp;omega
  |false=>have:=zeX e2;simp;omega
theorem zpx{scope:Scope}{x:Str}{s₃:Shared}{H₃ H':Hp}{fp:List Addr}{pins:List (Addr×Obj)}{σ:St}(S:CompSc X scope x)(I:Inv X pins σ H₃ s₃)(hf: ∀b∈fp,zkG X pins H₃ b)(hlt: ∀b∈fp,b<s₃.heap.objs.size)
  (hn: ∀b∈fp,H' b=Option.none): ∀b∈fp,zkG (zbA X scope x s₃ H₃ fp pins) [] H' b:=fun b hb=>by
 have ok:=zly S I hf hlt
 refine⟨hn b hb,(ok.exf b hb).1,ok.exfs b hb,.inl hb,(ok.exf b hb).2,fun p hp=>?_⟩
 have hp:p∈X.pn++pins:=by simpa [zbA] using hp
 exact (hf b hb).2.2.2.2.2 p hp
structure CSt (X:Cx)(scope:Scope)(x:Str)(s₃:Shared)(H₃:Hp)(fp:List Addr)(pins:List (Addr×Obj))(σ:St)(tn:Nat->Heap->Prop)(H2:Hp)(W:Addr->Prop)(L:Addr)(test:D->Option Bool)(elt:D->Option SV)(ds out:List D)
  (n k:Nat) (y:Option V) (H':Hp) (ys:List V) (out1 zck:List D) (s':Shared):Prop where
 inv:Inv (zbA X scope x s₃ H₃ fp pins) [] (y::σ) H' s'
 htn:tn k s'.heap
 hfp: ∀b∈fp,H' b=Option.none
 hn:n=ds.length+1-k
 hk:k<=ds.length
 same:Same H2 H'
 lst:H' L=some (.lst ys)
 reps:Reps X.K (add W L) H' out1 ys
 hrest:zco test elt (ds.drop k)=some zck
 hout:out=out1++zck
theorem zlB{iter elt:Expr}{x:Str}{px pos pos2:Pos}{ifs:List Expr}{scope:Scope}{rng:Bool}{src:Es}{cond ce:E}{pins:List (Addr×Obj)}{s:Shared}{σ:St}{H:Hp}{W:Addr->Prop}{ρ:LW.Env}{rs:List SV}{ds out:List D}{use:Option (Value->Sem Unit)}{Qe:Value->Shared->Prop}
  (hcalm:X.calm=true) (S:CompSc X scope x) (hsrc:Src X fn (.Name x px) iter rng src)
  (hcond:zlA X fn scope x ifs cond) (helt: ∀s₃ H₃ fp pins,IE (zbA X scope x s₃ H₃ fp pins) fn elt ce) (hfo: ∀y,foldedSetIterable iter X.env y=pure y) (I:Inv X pins σ H s) (hR:R X.K W ρ σ H)
  (e1:zbZ fn src ρ=some rs) (e2:zaE rng rs=some ds) (hline:ds.length<=line) (e3:zco (fun d=>evT fn cond (some (.val d)::ρ)) (fun d=>evE fn ce (some (.val d)::ρ)) ds=some out)
  (fin: ∀(s4:Shared) (fl:Flow) (m:Str->Option Value) (C L:Addr) (H':Hp),s4.heap.Ns C m->(∀h',Heap.SameBut C s4.heap h'->Inv X pins σ H' { s4 with heap:=h' })->(X.s₀.heap.objs.size<=C/\C≠X.env.locals/\(∀y c,X.env.cells.lookup y=some c->c≠C)/\(∀p∈X.pn++pins,p.1≠C)/\H' C=Option.none)->Same H H'->
   Res X.K W H H' (.obj true (.lst out)) (.ref L)->compPost (model X.prog X.w) X.A X.xe use Qe (.ref L) C (.ok fl) s4):
  wpAny (model X.prog X.w) X.A (comprehension (.ListComp elt [⟨.Name x px,iter,ifs,0⟩] scope pos) scope X.env pos2 (newList []) false (eval iter X.env) use) Qe X.xe s:=by
 have hclos:=zeW (scope:=scope) (env:=X.env) (S.cells I.ok)
 refine wpAny_comprehension_free (use:=use) rfl hfo hclos S.kind S.names ?_
 refine thn (hsrc.h pins s σ H (fun J H2=>Same H H2/\Ys X.K J W H2 ds) I ⟨W,ρ,rs,ds,hR,e1,e2,fun J H' s1 y _=>⟨s1,y⟩⟩) fun v s1 h1=>thn h1 fun itv s2 h2=>?_
 obtain⟨it,fp,tn,J,H2,rfl,I2,T,st2,f2,sm,hy⟩:=h2
 refine wpAny_newObj_type (ziL S fun h₁ hns₁ hk₁ hc₁=>?_)
 have I3:=I2.lnew (t':=s2.toks) (ys:=[]) (its:=[]) .nil (Nat.zero_le _)
 have hD:H2 s2.heap.objs.size=Option.none:=I2.fresh
 generalize hL:s2.heap.objs.size=L at hD
 generalize hs3:({ s2 with heap:=s2.heap.push { cls:=.type "list",data:=.seq ([]:List Value).toArray },toks:=s2.toks }:Shared)=s₃ at I3
 have hs3h:s₃.heap=s2.heap.push { cls:=.type "list",data:=.seq ([]:List Value).toArray }:=by rw[<-hs3]
 rw[hL] at I3
 generalize hH3:upd H2 L (.lst [])=H₃ at I3
 have blt: ∀b∈fp,b<s2.heap.objs.size:=fun b hb=>by
  obtain⟨o,e,_⟩:=T.obj _ _ st2 b hb
  exact Heap.lt_size e
 have hlt: ∀b∈fp,b<s₃.heap.objs.size:=fun b hb=>by rw[hs3h,Heap.size_push];exact Nat.lt_succ_of_lt (blt b hb)
 have hf: ∀b∈fp,zkG X pins H₃ b:=fun b hb=>by
  refine⟨?_,(f2 b hb).2⟩
  rw[<-hH3,zaN (by rw[<-hL];exact Nat.ne_of_lt (blt b hb))]
  exact (f2 b hb).1
 have keep1: ∀b o,s₃.heap.get? b=some o->h₁.get? b=some o:=fun b o e=>by
  rw[hs3h] at e
  exact hk₁ b o e
 have ns1:h₁.Ns s₃.heap.objs.size fun _=>Option.none:=by rw[hs3h];exact hns₁
 have Ic:=znt (tk:=s2.toks) S I3 hf hlt ns1 keep1 (by rw[hs3h];exact hc₁)
 have fpc:=fun {H':Hp} hn=>zpx (H':=H') S I3 hf hlt hn
 have win: ∀b,add W L b->W b\/H2 b=Option.none:=fun b w=>by
  rcases w with w|rfl
  ·exact .inl w
  ·exact .inr hD
 have hRL: ∀{H':Hp} {ys:List V},Same H2 H'->H' L=some (.lst ys)->R X.K (add W L) ρ σ H':=fun {H' ys} sm' e=>(hR.same sm).add sm' hD e
 have zxX:out.length<=ds.length:=zeX e3
 have loop: ∀s':Shared,s'={ s₃ with heap:=h₁,toks:=s2.toks }->codeAny (model X.prog X.w) X.A (.compLoop (.ListComp elt [⟨.Name x px,iter,ifs,0⟩] scope pos) 0 (.ref it) (.ref L) (zbA X scope x s₃ H₃ fp pins).env)
   (compPost (model X.prog X.w) X.A X.xe use Qe (.ref L) s₃.heap.objs.size) s':=by
  rintro s' rfl
  refine zkd (fun n s'=>∃k y H' ys out1 zck,CSt X scope x s₃ H₃ fp pins σ tn H2 W L (fun d=>evT fn cond (some (.val d)::ρ)) (fun d=>evE fn ce (some (.val d)::ρ)) ds out n k y H' ys out1 zck s') ?_ (ds.length+1)
   ⟨0,Option.none,H₃,[],[],out,Ic,T.keep _ _ _ st2 (fun b hb o e=>keep1 b o (by rw[hs3h];exact Heap.get?_push_of_some _ e)),fun b hb=>(hf b hb).1,rfl,Nat.zero_le _,by rw[<-hH3];exact zaQ hD _,by rw[<-hH3];exact za8,.nil,e3,rfl⟩
  rintro n s' ⟨k,y,H',ys,out1,zck,c⟩
  obtain⟨hstop,hgo⟩:=hy (add W L) H' c.same win k
  by_cases hk:k<ds.length
  ·have hd:ds[k]? =some ds[k]:=by simp[hk]
   obtain⟨g1,g2⟩:=hgo _ hd
   have crest:=c.hrest
   rw[zhx hd] at crest
   simp only[zco,jo1] at crest
   obtain⟨b,t1,t2⟩:=crest
   refine thn (T.item (zbA X scope x s₃ H₃ fp pins) rfl rfl rfl hcalm k [] s' (y::σ) H' _ c.inv (fpc c.hfp) c.htn g1) fun r s4 ⟨u,hr,h4⟩=>?_
   subst hr
   refine thn h4 fun _ s5 ⟨xv,H5,I5,r5,y5,st5,fr5⟩=>?_
   obtain⟨rfl,rv⟩:=g2 xv H5 y5
   have I5':=I5.pinned (fpc fr5) (T.obj _ _ st5)
   refine thn (ziw (X:=zbA X scope x s₃ H₃ fp pins) (i:=0) S.nd rfl S.locX S.fnX _ s5 (y::σ) H5 xv u (fun σ' H'=>σ'=some xv::σ/\H'=H5) I5' r5 ⟨rfl,rfl⟩) fun _ s6 ⟨σ6,H6,I6,q6,q7⟩=>?_
   subst q6 q7
   have hRc:=(hRL c.same c.lst).cons rv
   refine thn (znu (Q:=fun b' H7=>b'=b/\Same H6 H7) hcond I6 hRc t1 fun H7 s7=>⟨rfl,s7⟩) fun ok s7 ⟨H7,I7,q7,m7⟩=>?_
   subst q7
   have back: ∀{s':Shared} {H':Hp},Inv (zbA X scope x s₃ H₃ fp pins) ([]++zhc fp s5.heap) (some xv::σ) H' s'->tn (k+1) s'.heap/\∀b∈fp,H' b=Option.none:=fun {s' H'} J=>by
    refine⟨T.keep _ _ _ st5 fun b hb o e=>(J.pin (b,o) (List.mem_append_right _ (List.mem_append_right _ (zcM hb e)))).1,fun b hb=>?_⟩
    obtain⟨o,e,d⟩:=T.obj _ _ st5 b hb
    exact (J.pin (b,o) (List.mem_append_right _ (List.mem_append_right _ (zcM hb e)))).2.1
   cases ok with
   |false=>
    rw[if_neg Bool.false_ne_true]
    have bk:=back I7
    exact⟨_,by have:=c.hn;omega,k+1,some xv,H7,ys,out1,zck,I7.unpinned,bk.1,bk.2,rfl,hk,c.same.trans m7,m7 _ _ c.lst,c.reps.ext (.same m7),t2,c.hout⟩
   |true=>
    rw[if_pos rfl]
    simp only[jo1,jo2] at t2
    obtain⟨r8,t3,d8,t4,rest',t5,rfl⟩:=t2
    have hR7:=hRc.same m7
    refine thn ((helt s₃ H₃ fp pins).h _ s7 _ H7 (fun v H8=>Same H7 H8/\Rep X.K (add W L) H8 d8 v) I7 ⟨add W L,_,r8,hR7,t3,fun v8 H8 m8 res=>⟨m8,(res.frz hR7.wf).toD t4⟩⟩) fun u8 s8 ⟨v8,H8,I8,rl8,m8,rp8⟩=>?_
    have lst8:=m8 _ _ (m7 _ _ c.lst)
    have lenY:=c.reps.length
    have lenT:=congrArg List.length c.hout
    rw[List.length_append,List.length_cons] at lenT
    have le:=zge
    refine thn (zhl (X:=zbA X scope x s₃ H₃ fp pins) _ s8 _ H8 (.ref L) [v8] (.ref L) [u8] (fun _ H9=>H9=upd H8 L (.lst (ys++[v8]))) I8 rfl (.cons rl8 .nil) ⟨L,ys,v8,rfl,rfl,lst8,by omega,rfl⟩) fun _ s9 ⟨_,H9,I9,_,q9⟩=>?_
    subst q9
    have bk:=back I9
    have ext:Ext (add W L) H8 (add W L) (upd H8 L (.lst (ys++[v8]))):=by
     refine⟨fun b o q n=>?_,fun b zs q=>?_,fun b o u q=>?_,fun b w=>.inl w⟩
     ·rw[zaN (fun z=>n (.inr z))];exact q
     ·rw[zaN (fun z=>by rw[z,lst8] at q;cases q)];exact q
     ·rw[zaN (fun z=>by rw[z,lst8] at q;cases q)];exact q
    have smL:Same H2 (upd H8 L (.lst (ys++[v8]))):=fun b o q=>by
     rw[zaN (fun z=>by rw[z,hD] at q;cases q)]
     exact m8 _ _ (m7 _ _ (c.same _ _ q))
    exact⟨_,by have:=c.hn;omega,k+1,some xv,_,ys++[v8],out1++[d8],rest',I9.unpinned,bk.1,bk.2,rfl,hk,smL,za8,((c.reps.ext (.same (m7.trans m8))).ext ext).append (.cons (rp8.ext ext) .nil),t5,by rw[c.hout];simp⟩
  ·have ek:k=ds.length:=by have:=c.hk;omega
   refine thn (T.done (zbA X scope x s₃ H₃ fp pins) rfl rfl rfl hcalm k [] s' (y::σ) H' _ c.inv (fpc c.hfp) c.htn (hstop ek)) fun r s4 ⟨hr,I4⟩=>?_
   subst hr
   obtain⟨m,hn,_⟩:=I4.loc
   have er:=c.hrest
   rw[List.drop_of_length_le (by omega),zco] at er
   cases er
   have eo:=c.hout
   rw[List.append_nil] at eo
   refine fin s4 _ m _ L H' hn (fun h' hs=>zlz I3 hf I4 hs) ⟨I3.sz,(Nat.ne_of_lt I3.lt).symm,fun y cc hc=>?_,fun p hp=>?_,I4.free⟩ (sm.trans c.same) (by rw[eo];exact .new (sm.free hD) c.lst (.lst c.reps))
   ·obtain⟨v,o,ho,_⟩:=I3.cell y cc hc
    exact Nat.ne_of_lt (Heap.lt_size ho)
   ·exact Nat.ne_of_lt (Heap.lt_size (I3.pin p hp).1)
 have st0:tn 0 h₁:=T.keep _ _ _ st2 (fun b hb o e=>keep1 b o (by rw[hs3h];exact Heap.get?_push_of_some _ e))
 subst hs3 hL
 exact codeAny_compStart_list (loop _ rfl) (T.self X.A 0 _ _ _ st0 (loop _ rfl))
theorem zeY{iter elt:Expr}{x:Str}{px pos:Pos}{ifs:List Expr}{scope:Scope}{rng:Bool}{src:Es}{cond ce:E}(hcalm:X.calm=true)(S:CompSc X scope x)(hsrc:Src X fn (.Name x px) iter rng src)
  (hcond:zlA X fn scope x ifs cond) (helt: ∀s₃ H₃ fp pins,IE (zbA X scope x s₃ H₃ fp pins) fn elt ce) (hfo: ∀y,foldedSetIterable iter X.env y=pure y:=by intro _;rfl):
  IE X fn (.ListComp elt [⟨.Name x px,iter,ifs,0⟩] scope pos) (.comp rng src cond ce):=by
 refine .mk ?_
 rintro pins s σ H Q I ⟨W,ρ,r,hR,he,q⟩
 simp only[ziC,jo1] at he
 obtain⟨rs,e1,ds,e2,e3⟩:=he
 split at e3
 case isFalse=>cases e3
 rename_i hline
 rw[jo2] at e3
 obtain⟨out,e3,rfl⟩:=e3
 rw[eval_ListComp]
 refine zlB (use:=Option.none) hcalm S hsrc hcond helt hfo I hR e1 e2 hline e3 fun s4 fl m C L H' hn back _ sm res=>?_
 exact⟨m,hn,fun h' hs=>⟨.ref L,H',back h' hs,rfl,q _ H' sm res⟩⟩
end
end L2.LW
set_option maxHeartbeats 4000000
namespace L2.LW
open PySem PySem.Spec PyProof.Rows
noncomputable def tyN:Ty->String
 | .bool=>"bool"| .int=>"int"| .str=>"str"| .list=>"list"| .tuple=>"tuple"
noncomputable def dTy:D->String
 | .int _=>"int"| .bl _=>"bool"| .non=>"NoneType"| .str _=>"str"| .tup _=>"tuple"| .lst _=>"list"| .dct _ _ _=>"dict"
theorem zrF(K:PySem.W.Frag)(d:D)(t:Ty):PySem.W.kitOne K (.type (dTy d)) (.type (tyN t))=some (zd6 t d):=by
 cases d<;>cases t<;>rfl
section
variable {X:Cx} {fn:Nat->List D->Option SV}
theorem znv{pins:List (Addr×Obj)}{σ:St}{H:Hp}{s:Shared}{W:Addr->Prop}{A:Around}{E Q:Value->Shared->Prop}{d:D}{x:V}{u:Value}{t:Ty}(I:Inv X pins σ H s)(h:Sees X.K W H d x)(r:RelV x u)
  (q: ∀tk,Q (.bool (zd6 t d)) { s with toks:=tk }):wpAny (model X.prog X.w) A (call (.builtin "isinstance") [u,.type (tyN t)]) Q E s:=by
 have e:=zrF X.K d t
 cases d with
 |int i=>cases h.int;obtain⟨tk,rfl⟩:=r;exact PySem.W.kia_one PySem.W.kitx_int I.kIn True.intro e (fun z=>nomatch z) q
 |bl b=>cases h.bl;cases r;exact PySem.W.kia_one PySem.W.kitx_bool I.kIn True.intro e (fun z=>nomatch z) q
 |non=>cases h.non;cases r;exact PySem.W.kia_one PySem.W.kitx_none I.kIn True.intro e (fun z=>nomatch z) q
 |str y=>cases h.str;obtain⟨tk,rfl⟩:=r;exact PySem.W.kia_one PySem.W.kitx_str I.kIn True.intro e (fun z=>nomatch z) q
 |tup l=>
  obtain⟨a,xs,rfl,hq,_⟩:=h.tup
  cases r
  obtain⟨its,rv,⟨o,ho,hc,n,hd⟩,hz⟩:=I.tuple hq
  exact PySem.W.kia_one PySem.W.kitx_tuple I.kIn ⟨o,ho,hc⟩ e (fun z=>nomatch z) q
 |lst l=>
  obtain⟨a,xs,rfl,hq,_⟩:=h.lst
  cases r
  obtain⟨its,rv,⟨o,n,ho,hc,_,hd⟩,hz⟩:=I.list hq
  exact PySem.W.kia_one PySem.W.kitx_list I.kIn ⟨o,ho,hc⟩ e (fun z=>nomatch z) q
 |dct b ks vs=>
  cases b with
  |false=>
   obtain⟨a,ns,ys,rfl,_,hH,_⟩:=h.dK
   cases r
   obtain⟨_,_,vs,_,ob,_,_,h1,h2,_⟩:=zj8 I.hok (.inl hH)
   exact PySem.W.kia_one PySem.W.kitx_dict I.kIn ⟨ob,h1,h2.1⟩ e (fun z=>nomatch z) q
  |true=>
   obtain⟨a,ns,ys,rfl,_,hH,_⟩:=h.dT
   cases r
   obtain⟨_,_,xs,_,ob,_,_,h1,h2,_⟩:=zj9 I.hok (.inl hH)
   exact PySem.W.kia_one PySem.W.kitx_dict I.kIn ⟨ob,h1,h2.1⟩ e (fun z=>nomatch z) q
theorem zpy(t:Ty):CallR X (.builtin "isinstance") (fun xs H Q=>∃x,xs=[x,.ty (tyN t)]/\VR X.K (zah (.inst t)) [x] H Q):=by
 rintro pins s σ H xs us Q I rv ⟨x,rfl,W,ds,r,wf,hs,hf,q⟩
 obtain⟨d,rfl,h1⟩:=pr1 hs
 replace hf:zrg t [d]=some r:=hf
 cases hf
 obtain⟨u,w',rfl,r1,r2⟩:=zoX rv
 cases r2
 exact znv I h1 r1 fun tk=>⟨.bl _,H,I.tok tk,rfl,q _ H (.refl H) (.val (.bl _))⟩
theorem zeZ{a:Expr}{ca:E}{t:Ty}{y:Str}{p p2 pos:Pos}(hg:Gl X "isinstance")(hm:X.mg "isinstance"=Option.none)(hg2:Gl X y)(hm2:X.mg y=Option.none)(hv:bootBuiltins y=some (.type (tyN t)))(ha:IE X fn a ca)
  (hn:y≠"__name__":=by decide) (hdb:(y==("__debug__":Str))=false:=by decide)
  (h1:starEach [a,.Name y p2] X.env=(false,eval a X.env)::starEach [.Name y p2] X.env:=by rfl) (h2:starEach [.Name y p2] X.env=(false,eval (.Name y p2) X.env)::starEach [] X.env:=by rfl)
  (hpl:(backTo pos (starEach [.Name y p2] X.env)).any (·.1)=false:=by rfl):
  IE X fn (.Call (.Name "isinstance" p) [a,.Name y p2] [] pos) (.prim (.inst t) (.cons ca .nil)):=
 .mk <| (zf6 (zpy t) hg hm PyProof.Rows.boot_isinstance (zd5 ha.v (zd5 (zoQ hg2 hm2 hv (v:=.ty (tyN t)) rfl hn hdb) zhe h2) h1) (by decide) (by decide) h1 hpl).imp fun σ H Q zz3=>by
  obtain⟨W,ρ,r,hR,he,q⟩:=zz3
  simp only[zb1,zby,zbc,jo1,jo2] at he
  obtain⟨rs,⟨r1,e1,rs',e3,rfl⟩,e4⟩:=he
  cases e3
  exact⟨W,ρ,r1,hR,e1,fun v1 H1 s1 f1=>⟨v1,rfl,zgi hR s1 (.cons f1 .nil) e4 q⟩⟩
theorem ziM{K:PySem.W.Frag}{W:Addr->Prop}{H:Hp}{d:D}{v:V}(h:Sees K W H d v):decide (v= .non)=zfn d:=by
 cases d with
 |int i=>cases h.int;rfl
 |bl i=>cases h.bl;rfl
 |str i=>cases h.str;rfl
 |non=>cases h.non;rfl
 |tup l=>obtain⟨a,xs,rfl,_⟩:=h.tup;rfl
 |lst l=>obtain⟨a,xs,rfl,_⟩:=h.lst;rfl
 |dct b ks vs=>
  cases b with
  |false=>obtain⟨a,ns,ys,rfl,_⟩:=h.dK;rfl
  |true=>obtain⟨a,ns,ys,rfl,_⟩:=h.dT;rfl
theorem zrG{a:Expr}{ca:E}{j:Nat}{p pos:Pos}(ha:IE X fn a ca):IE X fn (.Compare a [.Is] [.Constant .none j p] pos) (.prim .isN (.cons ca .nil)):=
 .mk <| (zqL (zoh ha.v)).imp fun σ H Q zz3=>by
  obtain⟨W,ρ,r,hR,he,q⟩:=zz3
  simp only[zb1,zby,zbc,jo1,jo2] at he
  obtain⟨rs,⟨r1,e1,rs',e3,rfl⟩,e4⟩:=he
  cases e3;cases e4
  refine⟨W,ρ,r1,hR,e1,fun v1 H1 s1 f1=>?_⟩
  show Q (.bl (decide (v1= .non))) H1
  rw[ziM f1.sees]
  exact q _ H1 s1 (.val (.bl _))
theorem zrH{a:Expr}{ca:E}{j:Nat}{p pos:Pos}(ha:IE X fn a ca):IT X fn (.Compare a [.Is] [.Constant .none j p] pos) (.prim .isN (.cons ca .nil)):=
 .mk <| (zoi (zoh ha.v)).imp fun σ H Q zz3=>by
  obtain⟨W,ρ,k,hR,he,q⟩:=zz3
  simp only[zgd,zby,zbc,jo1,jo2] at he
  obtain⟨rs,⟨r1,e1,rs',e3,rfl⟩,r2,e4,e5⟩:=he
  cases e3;cases e4;cases e5
  refine⟨W,ρ,r1,hR,e1,fun v1 H1 s1 f1=>⟨_,rfl,?_⟩⟩
  rw[ziM f1.sees]
  exact q H1 s1
theorem zrI{a:Expr}{ca:E}{j:Nat}{p pos:Pos}(ha:IE X fn a ca):IT X fn (.Compare a [.IsNot] [.Constant .none j p] pos) (.prim .notN (.cons ca .nil)):=
 .mk <| (zoi (zoR ha.v)).imp fun σ H Q zz3=>by
  obtain⟨W,ρ,k,hR,he,q⟩:=zz3
  simp only[zgd,zby,zbc,jo1,jo2] at he
  obtain⟨rs,⟨r1,e1,rs',e3,rfl⟩,r2,e4,e5⟩:=he
  cases e3;cases e4;cases e5
  refine⟨W,ρ,r1,hR,e1,fun v1 H1 s1 f1=>⟨_,rfl,?_⟩⟩
  rw[ziM f1.sees]
  exact q H1 s1
theorem zfL(l:List Int):(zgb l).Perm l:=List.mergeSort_perm _ _
theorem zfp(l:List Int):(zgb l).Pairwise (· <= ·):=by
 have h:=List.pairwise_mergeSort (le:=fun (a b:Int)=>decide (a<=b)) (fun a b c h1 h2=>by simp at*;omega) (fun a b=>by simp;omega) l
 exact h.imp fun h=>by simpa using h
theorem zke{ds:List D}{ns:List Int}{pins:List (Addr×Obj)}{s:Shared}{σ:St}{H:Hp}{xs:List V}{us:List Value}{Q:VK}(I:Inv X pins σ H s)(rv:Vals xs us)
  {W:Addr->Prop} {l:List D} (hs:Paired (Sees X.K W H) [.lst l] xs) (e1:ints? l=some ns) (h64:ns.length<64) (q: ∀v H',Same H H'->Res X.K W H H' (.obj true (.lst ((zgb ns).map .int))) v->Q v H'):
  wpAny (model X.prog X.w) X.A (call (.builtin "sorted") us) (EP X pins σ Q) X.xe s:=by
 cases hs with
 |cons h1 t=>
  cases t
  obtain⟨p,ys,rfl,hp,rp⟩:=h1.lst
  have ey:=rp.ofInts e1
  subst ey
  obtain⟨u,rfl,ru⟩:=zhd rv
  cases ru
  obtain⟨its,rv',pl,hz⟩:=I.list hp
  have hi:=zcN rv'
  have hlen:=rv'.length
  rw[List.length_map] at hlen
  refine sorted_ints pl.isList hi (by omega) fun out ns' a1 a2 a3=>?_
  have en:ns'=zgb ns:=PySem.W.ksm_same (a2.trans (zfL ns).symm) a3 (zfp ns)
  subst en
  obtain⟨e,he⟩:=sortedAll_at s.heap its out
  have hl2:=(zfL ns).length_eq
  have fr:H (s.heap.objs.size+1)=Option.none:=I.hok.fresh (Nat.le_succ _)
  refine⟨.ref (s.heap.objs.size+1),upd H (s.heap.objs.size+1) (.lst ((zgb ns).map V.int)),I.laid (t':=s.toks) (fun _ _=>sortedAll_old) (Nat.le_succ _) ⟨?_,out.toList,e,zeQ a1,?_⟩,rfl,q _ _ (zaQ fr _) (zcr fr (.ints _))⟩
  ·rw[List.length_map];exact Nat.le_of_lt (zcp (by omega))
  ·simpa [seqObj] using he
theorem zfM{K:PySem.W.Frag}{W:Addr->Prop}{H:Hp}: ∀{ds:List D} {xs:List V} {bs:List Bool},Reps K W H ds xs->bools? ds=some bs->xs=bs.map V.bl
 |_,_,bs,.nil,e=>by simp[bools?] at e;subst e;rfl
 |_,_,bs,.cons h t,e=>by
  cases h with
  |bl i=>
   simp only[bools?,jo2] at e
   obtain⟨ms,e1,rfl⟩:=e
   rw[zfM t e1];rfl
  |_=>simp[bools?] at e
theorem zfN: ∀{bs:List Bool} {us:List Value},Vals (bs.map V.bl) us->us=bs.map Value.bool
 |[],us,r=>by cases r;rfl
 |b::bs,us,r=>by
  cases r with
  |cons h t=>cases h;rw[zfN t];rfl
theorem zlC(bs:List Bool):((List.range bs.length).all fun i=>bs.getD i true)=bs.all id:=by
 induction bs with
 |nil=>rfl
 |cons b r ih=>
  rw[List.length_cons,List.range_succ_eq_map,List.all_cons,List.all_map,List.all_cons]
  simp only[Function.comp_def,List.getD_cons_succ,List.getD_cons_zero]
  rw[ih];rfl
theorem zow(hc:X.calm=true):CallR X (.builtin "all") (VR X.K (zah .all)):=by
 rintro pins s σ H xs us Q I rv ⟨W,ds,r,wf,hs,hf,q⟩
 replace hf:ztC ds=some r:=hf
 unfold ztC at hf
 split at hf
 ·rename_i l
  rw[jo1] at hf
  obtain⟨bs,e1,hf⟩:=hf
  cases hf
  cases hs with
  |cons h1 t=>
   cases t
   obtain⟨p,ys,rfl,hp,rp⟩:=h1.lst
   have ey:=zfM rp e1
   subst ey
   obtain⟨u,rfl,ru⟩:=zhd rv
   cases ru
   obtain⟨its,rv',pl,hz⟩:=I.list hp
   have ei:=zfN rv'
   subst ei
   obtain⟨o,n,ho,hcl,hdi,hda⟩:=id pl
   have hne:p≠s.heap.objs.size:=Nat.ne_of_lt (Heap.lt_size ho)
   refine call_all_walk (wpAny_pyIter_list pl.isList ?_)
   refine⟨s.heap.objs.size,_,_,_,_,_,fun i=>bs.getD i true,rfl,Walks.list (A:=X.A.in1) (I.ok.hd hc) s.heap.objs.size p hne (bs.map Value.bool).toArray,⟨⟨_,Heap.get?_push_size _ rfl,rfl,rfl⟩,⟨o,Heap.get?_push_of_some _ ho,hcl,n,hda⟩⟩,?_,fun h' tk hk=>?_⟩
   ·intro i v s' Q' E' hv hQ
    have hv:(bs.map Value.bool).toArray[i]? =some v:=hv
    rw[List.getElem?_toArray,List.getElem?_map,jo2] at hv
    obtain⟨b,e2,rfl⟩:=hv
    have e3:bs.getD i true=b:=by rw[List.getD_eq_getElem?_getD,e2];rfl
    have hQ:Q' (bs.getD i true) s':=hQ
    rw[e3] at hQ
    exact wpAny_truthy_bool hQ
   ·rw[List.size_toArray,List.length_map,zlC]
    refine⟨.bl _,H,I.kept (t':=tk) (fun b o' e=>?_),rfl,q _ H (.refl H) (.val (.bl _))⟩
    exact hk b o' (by simpa using Nat.ne_of_lt (Heap.lt_size e)) (Heap.get?_push_of_some _ e)
 ·cases hf
theorem znw(xs:List V)(k:Int)(hk:0<=k):zqi xs Option.none (some k)=xs.take k.toNat:=by
 obtain⟨n,rfl⟩:=Int.eq_ofNat_of_zero_le hk
 unfold zqi
 rw[HT.sIx_none,HT.sIx_nat,List.drop_zero,Nat.sub_zero,Int.toNat_natCast]
 rcases Nat.le_total n xs.length with h|h
 ·rw[Nat.min_eq_left h]
 ·rw[Nat.min_eq_right h,List.take_of_length_le (Nat.le_refl _),List.take_of_length_le h]
theorem zpz{a b:Expr}{ca cb:E}{p pos:Pos}(ha:IE X fn a ca)(hb:IE X fn b cb):IE X fn (.Subscript a (.Slice Option.none (some b) Option.none p) pos) (.prim .cutTo (.cons ca (.cons cb .nil))):=
 .mk <| (znc zo4 ha.v zo0 (zo1 hb.v)).imp fun σ H Q zz3=>by
  obtain⟨W,ρ,r,hR,he,q⟩:=zz3
  simp only[zb1,zby,zbc,jo1,jo2] at he
  obtain⟨rs,⟨r1,e1,rs',⟨r2,e2,rs'',e3,rfl⟩,rfl⟩,e4⟩:=he
  cases e3
  refine⟨W,ρ,r1,hR,e1,fun v1 H1 s1 f1=>⟨W,ρ,r2,hR.same s1,e2,fun v2 H2 s2 f2=>?_⟩⟩
  replace e4:zjl [zbu r1,zbu r2]=some r:=e4
  unfold zjl at e4
  split at e4
  ·rename_i l k z
   have h1:=(f1.same s2).sees
   have h2:=f2.sees
   injection z with z1 z2
   injection z2 with z2 _
   rw[z1] at h1
   rw[z2] at h2
   split at e4
   ·rename_i hk
    cases e4
    obtain⟨p,xs,rfl,hp,rp⟩:=h1.lst
    cases h2.int
    refine⟨k,rfl,p,xs,rfl,hp,fun p' hp'=>?_⟩
    rw[znw xs k hk]
    have s12:=s1.trans s2
    exact q _ _ (s12.trans (zaQ hp' _)) ((zcr hp' (rp.take _)).back s12)
   ·cases e4
  ·cases e4
theorem zbo{scope:Scope}{env:PySem.Env}{y:Str}(h:scope.names.lookup y=some .free):Vis (relabel scope env) y:=by
 unfold Vis relabel
 have key: ∀(names:List (Str×NameKind)),names.lookup y=some .free->
   (names.map fun (z:Str×NameKind)=>match z with|(n,k)=>if (k==NameKind.free&&env.scope.kind== .function&&env.kindOf n==some .cell)=true then (n,NameKind.cell) else (n,k)).lookup y=some .cell\/
   (names.map fun (z:Str×NameKind)=>match z with|(n,k)=>if (k==NameKind.free&&env.scope.kind== .function&&env.kindOf n==some .cell)=true then (n,NameKind.cell) else (n,k)).lookup y=some .free:=by
  intro names
  induction names with
  |nil=>intro h;cases h
  |cons z r ih=>
   obtain⟨n,j⟩:=z
   intro h
   rw[List.lookup_cons] at h
   rw[List.map_cons,List.lookup_cons]
   by_cases hc:(j==NameKind.free&&env.scope.kind== .function&&env.kindOf n==some .cell)=true
   ·simp only[hc,if_true]
    cases e:y==n with
    |true=>exact .inl rfl
    |false=>rw[e] at h;exact ih h
   ·simp only[hc,Bool.false_eq_true,if_false]
    cases e:y==n with
    |true=>rw[e] at h;exact .inr h
    |false=>rw[e] at h;exact ih h
 exact .inr (key scope.names h)
theorem zbp{scope:Scope}{env:PySem.Env}{y:Str}(h:scope.names.lookup y=some .local):Vis (relabel scope env) y:=.inl (lookup_relabel_local h)
theorem zgs{scope:Scope}{env:PySem.Env}{y:Str}(h:scope.names.lookup y=some .globalImplicit):(relabel scope env).names.lookup y=some .globalImplicit:=by
 unfold relabel
 have key: ∀(names:List (Str×NameKind)),names.lookup y=some .globalImplicit->
   (names.map fun (z:Str×NameKind)=>match z with|(n,k)=>if (k==NameKind.free&&env.scope.kind== .function&&env.kindOf n==some .cell)=true then (n,NameKind.cell) else (n,k)).lookup y=some .globalImplicit:=by
  intro names
  induction names with
  |nil=>intro h;cases h
  |cons z r ih=>
   obtain⟨n,j⟩:=z
   intro h
   rw[List.lookup_cons] at h
   rw[List.map_cons,List.lookup_cons]
   by_cases hc:(j==NameKind.free&&env.scope.kind== .function&&env.kindOf n==some .cell)=true
   ·simp only[hc,if_true]
    cases e:y==n with
    |true=>
     rw[e] at h
     have h:j= .globalImplicit:=Option.some.inj h
     rw[h] at hc
     simp at hc
    |false=>rw[e] at h;exact ih h
   ·simp only[hc,Bool.false_eq_true,if_false]
    cases e:y==n with
    |true=>rw[e] at h;exact h
    |false=>rw[e] at h;exact ih h
 exact key scope.names h
noncomputable def zlD(sc:Scope)(N:List Str)(scope:Scope)(x:Str):Bool:=
 decide (scope.kind= .function)&&(decide (scope.names.lookup x=some .local)||decide (scope.names.lookup x=some .cell))&&scope.names.all (fun y=> !decide (y.2= .local)||decide (scope.names.lookup y.1=some .local))&&
 decide (scope.names.filter (fun y=>y.2== .cell)=if scope.names.lookup x=some .cell then [(x,.cell)] else [])&&
 scope.names.all (fun y=> !decide (y.2= .free)||(decide (sc.names.lookup y.1=some .cell)||decide (sc.names.lookup y.1=some .free)))&&N.all (fun y=> !decide (scope.names.lookup y=some .local)||decide (y=x))&&
 decide (scope.names.lookup ("":Str)=Option.none)&&decide ((x::zov x N).Nodup)
theorem ze0{scope sc:Scope}{N:List Str}{x:Str}(hs:X.env.scope=sc)(hN:X.N=N)(h:zlD sc N scope x=true):CompSc X scope x:=by
 subst hs hN
 simp only[zlD,Bool.and_eq_true,decide_eq_true_eq,List.all_eq_true,Bool.or_eq_true,Bool.not_eq_true',decide_eq_false_iff_not] at h
 obtain⟨⟨⟨⟨⟨⟨⟨h1,h2⟩,h3⟩,h4⟩,h5⟩,h6⟩,h7⟩,h8⟩:=h
 exact⟨h1,h2,fun y hy e=>(h3 y hy).resolve_left fun z=>z e,h4,fun y hy e=>(h5 y hy).resolve_left fun z=>z e,fun y hy e=>(h6 y hy).resolve_left fun z=>z e,h7,h8⟩
end
end L2.LW
set_option maxHeartbeats 4000000
namespace L2.LW
open PySem PySem.Spec PyProof.Rows
section
variable {Pg:Program} {w:World} {K:PySem.W.Frag} {mg:Str->Option Value} {base:Heap} {f:Addr} {fd:FuncData} {ps:List Str} {P:Nat->Option Fn} {fuel i n k:Nat}
theorem zjv{io:List Nat}(h: ∀ds,zat P fuel n i ds=Option.none):FnOk Pg w K mg base CX0 k f fd ps (spA K (zat P fuel n) i io):=by
 have no: ∀vs H Q E,¬spA K (zat P fuel n) i io vs H Q E:=fun vs H Q E zz4=>by
  obtain⟨W,ds,r,outs,_,_,e,_⟩:=zz4
  rw[h ds] at e;cases e
 exact⟨fun vs H Q E z=>absurd z (no vs H Q E),fun A outer s H args us vs Q E _ _ _ _ z=>absurd z (no vs H Q E)⟩
theorem zpA{io:List Nat}:FnOk Pg w K mg base CX0 k f fd ps (spA K (zat P fuel 0) i io):=zjv fun _=>rfl
theorem zbq{io:List Nat}(h:P i=Option.none):FnOk Pg w K mg base CX0 k f fd ps (spA K (zat P fuel (n+1)) i io):=zjv fun ds=>by rw[zat,h];rfl
theorem zrJ{H:Hp}{a:Addr}{ns:List Int}{E:XK}(h:zaP P fuel n i [.lst (ns.map D.int)]=some (.val (.bl true)))(hS:SqL K H a (ns.map V.int)):spA K (zat P fuel n) i [] [.ref a] H (fun v _=>v= .bl true) E:=by
 refine⟨fun _=>False,[.lst (ns.map D.int)],.val (.bl true),[],fun _ z=>z.elim,(Reps.cons (.lst ?_ (.ints ns)) .nil).get',zjr h,fun v H' _ _ r=>?_⟩
 ·rcases hS with hS|hS
  ·exact .inl ⟨fun z=>z,hS⟩
  ·exact .inr hS
 ·cases r with
  |val r=>cases r;rfl
end
end L2.LW
set_option maxHeartbeats 4000000
namespace L2.LW
open PySem PySem.Spec PyProof.Rows
noncomputable def zrK(tk tv:TE):TE:=fun σ H Q=>∀p,H p=Option.none->tk σ (upd H p (.dT [])) fun x H1=>tv σ H1 fun y H2=>H2 p=some (.dT [])/\∃b ks,x= .ref b/\H2 b=some (.tup (ks.map kV))/\Q (.ref p) (upd H2 p (.dT [(ks,y)]))
theorem znx{X:Cx}{pos:Pos}{k v:Expr}{tk tv:TE}(hu:X.A.units+64<cLine)(hk:PE X k tk)(hv:PE X v tv):PE X (.Dict [some k] [v] pos) (zrK tk tv):=by
 intro pins s σ H Q I q
 have hn:=I.hok.fresh (Nat.le_refl s.heap.objs.size)
 have I1:=I.laid (a:=s.heap.objs.size) (o:=.dT []) (h':=s.heap.push { cls:=.type "dict",data:=.dict #[] }) (t':=s.toks) (fun _ _ q=>Heap.get?_push_of_some _ q) (Nat.le_refl _) (znd s.heap I.big)
 refine wpAny_Dict_any rfl rfl (by simp) (by simp) (pairTrees_cons_walk (thn (hk pins _ σ _ _ I1 (q _ hn)) fun u s1 ⟨x,H1,I2,rx,q1⟩=>thn (hv pins s1 σ H1 _ I2 q1) fun w2 s2 ⟨y,H2,I3,ry,e,b,ks,ex,eb,q2⟩=>pairTrees_nil_walk ?_))
 subst ex
 cases rx
 unfold storeAll
 rw[List.forIn_cons]
 obtain⟨z,hd,xs,rel,dd⟩:=zq8 I3.hok e
 cases rel
 refine wpAny_bind (wpAny_bind (wpAny_dictSet_heap (hsz:=by simp) (knd:=tupleKind (zaS X.prog X.w)) (show X.A.units<cLine by omega) (zeO I3.hok eb) dd fun h' dd' hs=>wpAny_pure ?_))
 refine wpAny_pure ⟨.ref s.heap.objs.size,_,?_,rfl,q2⟩
 obtain⟨q,es,ep,hq,h2,h3,h4,_,h5⟩:=dd'
 refine ziy I3 (by rw[e];exact True.intro) hs ⟨q,hq⟩ ⟨by simp[sizeLine_eq],hd,_,((KT.put (H:=H2) (kvs:=[]) (xs:=[]) .nil ks eb ry)).keeps fun c ys ec=>?_,q,es,ep,hq,h2,h3,h4,h5⟩
 rw[zaN (zqI ec e (fun z=>nomatch z))]
 exact ec
section
variable {X:Cx} {fn:Nat->List D->Option SV} {fa:Nat->List D->Option Ans} {fuel:Nat} {a b c e:Expr} {ca cb cc ce:E} {es:List Expr} {cs:Es} {pos p:Pos} {x:Str} {st:Stmt} {sts:List Stmt} {s:S} {ss s1 s2:Ss}
theorem zny{H H1:Hp}{p:Addr}{o o':HO}(hp:H p=Option.none)(s:Same (upd H p o) H1):Same H (upd H1 p o'):=fun b u q=>by
 rw[zaN (zbk q hp)]
 exact s b u (by rw[zaN (zbk q hp)];exact q)
theorem zrL(hu:X.A.units+64<cLine)(ha:IE X fn a ca)(hb:IE X fn b cb):IE X fn (.Dict [some a] [b] pos) (.done true ca cb):=
 .mk <| (znx hu ha.v hb.v).imp fun σ H Q zz3=>by
  obtain⟨W,ρ,r,hR,he,q⟩:=zz3
  simp only[zpg,jo1] at he
  obtain⟨x,e1,y,e2,da,e3,db,e4,e5⟩:=he
  split at e5
  ·rename_i hk
   cases e5
   intro p hp
   have s0:=zaQ hp (.dT [])
   have hR0:=hR.add s0 hp za8
   refine⟨_,ρ,x,hR0,e1,fun v1 H1 s1 f1=>⟨_,ρ,y,hR0.same s1,e2,fun v2 H2 s2 f2=>⟨s2 _ _ (s1 _ _ za8),?_⟩⟩⟩
   have r1:=(f1.same s2).toD e3
   have r2:=f2.toD e4
   cases da with
   |tup l=>
    obtain⟨ms,hms⟩: ∃ms,ints? l=some ms:=by simp only[zbx,Option.isSome_iff_exists] at hk;exact hk
    cases r1 with
    |tup h1 rp=>
     have z1:=rp.ofInts hms
     have z2:=zdb hms
     subst z1 z2
     refine⟨_,ms.map Sum.inl,rfl,by rw[zeU];exact h1,q _ _ (zny hp (s1.trans s2)) (.new hp za8 (.dT (ns:=[ms]) (ys:=[v2]) rfl (.cons ?_ .nil)))⟩
     have e2p:=s2 _ _ (s1 _ _ (za8 (H:=H) (a:=p) (o:=.dT [])))
     refine r2.ext ⟨fun b o q n=>?_,fun b ys q=>?_,fun b o u q=>?_,fun b w=>.inl w⟩
     ·rw[zaN (fun z=>n (.inr z))];exact q
     ·rw[zaN (fun z=>by rw[z,e2p] at q;cases q)];exact q
     ·rw[zaN (fun z=>by rw[z,e2p] at q;cases q)];exact q
   |_=>simp[zbx] at hk
  ·cases e5
theorem zlE(i:Int)(v:V): ∀{ns:List Int} {ys:List V},ns.length=ys.length->(zhp ns ys).map (fun kv=>if kv.1=Sum.inl i then (kv.1,v) else kv)=zhp ns (List.zipWith (fun n y=>if n=i then v else y) ns ys)
 |[],[],_=>rfl
 |n::ns,y::ys,h=>by
  have ih:=zlE i v (ns:=ns) (ys:=ys) (by simpa using h)
  show (if (Sum.inl n:Key)=Sum.inl i then ((Sum.inl n:Key),v) else (Sum.inl n,y))::(zhp ns ys).map _=(Sum.inl n,if n=i then v else y)::zhp ns _
  rw[ih]
  by_cases e:n=i<;>simp[e]
theorem zlF(i:List Int)(v:V): ∀{ns:List (List Int)} {ys:List V},ns.length=ys.length->(zhq ns ys).map (fun kv=>if kv.1=i.map Sum.inl then (kv.1,v) else kv)=zhq ns (List.zipWith (fun n y=>if n=i then v else y) ns ys)
 |[],[],_=>rfl
 |n::ns,y::ys,h=>by
  have ih:=zlF i v (ns:=ns) (ys:=ys) (by simpa using h)
  show (if (n.map Sum.inl:List Key)=i.map Sum.inl then ((n.map Sum.inl:List Key),v) else (n.map Sum.inl,y))::(zhq ns ys).map _=(n.map Sum.inl,if n=i then v else y)::zhq ns _
  rw[ih]
  by_cases e:n=i
  ·simp[e]
  ·have: ¬((n.map Sum.inl:List Key)=i.map Sum.inl):=fun z=>e (zjm z)
   simp[e,this]
theorem zhz{K:PySem.W.Frag}{W:Addr->Prop}{H:Hp}{d:D}{v:V}(rv:Rep K W H d v)(i:Int): ∀{ns:List Int} {vs:List D} {ys:List V},Reps K W H vs ys->Reps K W H (List.zipWith (fun k' v'=>if eqD k' (.int i) then d else v') (ns.map D.int) vs) (List.zipWith (fun n y=>if n=i then v else y) ns ys)
 |[],_,_,_=>by simp;exact .nil
 |n::ns,_,_,.nil=>by simp;exact .nil
 |n::ns,_,_,.cons h t=>by
  have ih:=zhz rv i (ns:=ns) t
  simp only[List.map_cons,List.zipWith_cons_cons]
  refine .cons ?_ ih
  by_cases e:n=i
  ·simp[e,eqD];exact rv
  ·simp[e,eqD];exact h
theorem zhA{K:PySem.W.Frag}{W:Addr->Prop}{H:Hp}{d:D}{v:V}(rv:Rep K W H d v)(i:List Int): ∀{ns:List (List Int)} {vs:List D} {ys:List V},Reps K W H vs ys->Reps K W H (List.zipWith (fun k' v'=>if eqD k' (kT i) then d else v') (ns.map kT) vs) (List.zipWith (fun n y=>if n=i then v else y) ns ys)
 |[],_,_,_=>by simp;exact .nil
 |n::ns,_,_,.nil=>by simp;exact .nil
 |n::ns,_,_,.cons h t=>by
  have ih:=zhA rv i (ns:=ns) t
  simp only[List.map_cons,List.zipWith_cons_cons]
  refine .cons ?_ ih
  have:eqD (kT n) (kT i)=decide (n=i):=by simp[kT,eqD,zds]
  rw[this]
  by_cases e:n=i
  ·simp[e];exact rv
  ·simp[e];exact h
theorem zrM{K:PySem.W.Frag}{W:Addr->Prop}{H:Hp}{ns:List Int}{ys:List V}{vs:List D}{d:D}{v:V}(h:ns.length=ys.length)(r:Reps K W H vs ys)(i:Int)(rv:Rep K W H d v):
  ORep K W H (zkH false (ns.map D.int) vs (.int i) d) (.dK (zfD (zhp ns ys) (.inl i) v)):=by
 unfold zfD zkH
 rw[zeG,ziD h]
 split
 ·rw[zlE i v h]
  exact .dK (by simp[h]) (zhz rv i r)
 ·have e:zhp ns ys++[(Sum.inl i,v)]=zhp (ns++[i]) (ys++[v]):=by
   unfold zhp
   rw[List.map_append,List.zip_append (by simpa using h)]
   rfl
  rw[e]
  have:=ORep.dK (K:=K) (W:=W) (H:=H) (ns:=ns++[i]) (ys:=ys++[v]) (by simp[h]) (r.append (.cons rv .nil))
  rw[List.map_append] at this
  exact this
theorem zrN{K:PySem.W.Frag}{W:Addr->Prop}{H:Hp}{ns:List (List Int)}{ys:List V}{vs:List D}{d:D}{v:V}(h:ns.length=ys.length)(r:Reps K W H vs ys)(i:List Int)(rv:Rep K W H d v):
  ORep K W H (zkH true (ns.map kT) vs (kT i) d) (.dT (zfD (zhq ns ys) (i.map Sum.inl) v)):=by
 unfold zfD zkH
 rw[zeG,ziE h]
 split
 ·rw[zlF i v h]
  exact .dT (by simp[h]) (zhA rv i r)
 ·have e:zhq ns ys++[(i.map Sum.inl,v)]=zhq (ns++[i]) (ys++[v]):=by
   unfold zhq
   rw[List.map_append,List.zip_append (by simpa using h)]
   rfl
  rw[e]
  have:=ORep.dT (K:=K) (W:=W) (H:=H) (ns:=ns++[i]) (ys:=ys++[v]) (by simp[h]) (r.append (.cons rv .nil))
  rw[List.map_append] at this
  exact this
theorem znz{ns:List Int}{ys:List V}(h:ns.length=ys.length):(zhp ns ys).length=ns.length:=by simp[zhp,h]
theorem znA{ns:List (List Int)}{ys:List V}(h:ns.length=ys.length):(zhq ns ys).length=ns.length:=by simp[zhq,h]
theorem zrO(i:Nat){pos':Pos}(hu:X.A.units+64<cLine)(hN:X.N[i]? =some x)(hv:Vis X.env.scope x)(ha:IE X (prj fa) a ca)(hb:IE X (prj fa) b cb)(hd:(x==("__debug__":Str))=false)(hcd:(x==("__classdict__":Str))=false)
  (hs:swapsWith b (some (.Subscript (.Name x p) a pos')) pos.line X.env=pure false:=by rfl):IS X (exS fa fuel (.dset i ca cb)) (.Assign [.Subscript (.Name x p) a pos'] b pos):=
 .mk <| (zo6 (by omega) (zfA hN hv hd hcd) ha.v hb.v hs).imp fun D0 σ H zz3=>by
  obtain⟨W,ρ,y,hR,hy,q⟩:=zz3
  simp only[zlf] at hy
  split at hy
  ·rename_i x h
   split at hy
   ·rename_i t ks vs hc
    simp only[jo1] at hy
    obtain⟨r,e1,d,e2,r',e3,d',e4,e5⟩:=hy
    split at e5
    ·rename_i hk
     cases e5
     rw[Bool.and_eq_true,decide_eq_true_iff] at hk
     refine⟨W,ρ,r,hR,e1,fun v H1 s1 f1=>?_⟩
     have hR1:=hR.same s1
     obtain⟨a,o,h1,h2,h3,h4⟩:=hR1.own i _ _ h hc
     refine⟨_,h1,W,ρ,r',hR1,e3,fun v2 H2 s2 f2=>?_⟩
     have rv:=(f1.same s2).toD e2
     have rk:=f2.toD e4
     have le:=zge
     cases h4 with
     |dK l rp=>
      rename_i ns ys
      cases d' with
      |int n=>
       cases rk
       refine⟨a,_,rfl,DPut.k (k:=.inl n) (s2 _ _ h3) (by rw[znz l];simp at hk;omega),q W σ _ (zgp hR h hc h1 (s1.trans s2) (s2 _ _ h3) ⟨fun _ z=>(nomatch z),fun _ _ z=>(nomatch z)⟩ (zrM l (rp.ext (.same s2)) n rv))⟩
      |_=>simp[zbx] at hk
     |dT l rp=>
      rename_i ns ys
      cases d' with
      |tup kl=>
       obtain⟨ms,hms⟩: ∃ms,ints? kl=some ms:=by have:=hk.1;simp only[zbx,Option.isSome_iff_exists] at this;exact this
       cases rk with
       |tup hb rpb=>
       have z1:=rpb.ofInts hms
       have z2:=zdb hms
       subst z1 z2
       refine⟨a,_,rfl,DPut.t (k:=ms.map Sum.inl) (s2 _ _ h3) (by rw[hb,zeU]) (by rw[znA l];simp at hk;omega),q W σ _ (zgp hR h hc h1 (s1.trans s2) (s2 _ _ h3) ⟨fun _ z=>(nomatch z),fun _ _ z=>(nomatch z)⟩ (zrN l (rp.ext (.same s2)) ms rv))⟩
      |_=>simp[zbx] at hk
    ·cases e5
   ·cases hy
  ·cases hy
end
end L2.LW
set_option maxHeartbeats 4000000
namespace L2.LW
open PySem PySem.Spec PyProof.Rows
inductive ArgOk (K:PySem.W.Frag)(ρ:LW.Env)(σ:St)(H H':Hp):AV->V->Prop where
 |e {d:D} {v:V} (h: ∀W,Rep K W H' d v):ArgOk K ρ σ H H' (.e d) v
 |l {ds:List D} {a:Addr} {xs:List V} (e:SqL K H' a xs/\Rd H' a (.lst xs)\/zvL K a xs) (r: ∀W,Reps K W H' ds xs):ArgOk K ρ σ H H' (.l ds) (.ref a)
 |s {i:Nat} {x:SV} {d:D} {a:Addr} (h:ρ[i]? =some (some x)) (c:x.cell=some d) (k:zka d=true) (e:σ[i]? =some (some (.ref a))):ArgOk K ρ σ H H' (.s i d) (.ref a)
 |n {t:Bool} {a:Addr} {o:HO} (h:H a=Option.none) (e:H' a=some o) (r: ∀W,ORep K W H' (.dct t [] []) o):ArgOk K ρ σ H H' (.n t) (.ref a)
theorem ArgOk.same{K:PySem.W.Frag}{ρ:LW.Env}{σ:St}{H H' H'':Hp}{x:AV}{v:V}(h:ArgOk K ρ σ H H' x v)(s:Same H' H''):ArgOk K ρ σ H H'' x v:=by
 cases h with
 |e h=>exact .e fun W=>(h W).ext (.same s)
 |l e r=>
  refine .l ?_ fun W=>(r W).ext (.same s)
  rcases e with ⟨e1,e2⟩|e
  ·refine .inl ⟨s.seq e1,?_⟩
   rcases e2 with e2|⟨o,e2⟩
   ·exact .inl (s _ _ e2)
   ·exact .inr ⟨o,s _ _ e2⟩
  ·exact .inr e
 |s h c k e=>exact .s h c k e
 |n h e r=>exact .n h (s _ _ e) fun W=>(r W).ext (.same s)
theorem ArgOk.back{K:PySem.W.Frag}{ρ:LW.Env}{σ:St}{H H' H'':Hp}{x:AV}{v:V}(h:ArgOk K ρ σ H' H'' x v)(s:Same H H'):ArgOk K ρ σ H H'' x v:=by
 cases h with
 |e h=>exact .e h
 |l e r=>exact .l e r
 |s h c k e=>exact .s h c k e
 |n h e r=>exact .n (s.free h) e r
inductive OutsX (K:PySem.W.Frag)(W:Addr->Prop)(H:Hp):List AV->List V->List D->Prop where
 |nil:OutsX K W H [] [] []
 |e {d:D} {v:V} {xs:List AV} {vs:List V} {os:List D} (t:OutsX K W H xs vs os):OutsX K W H (.e d::xs) (v::vs) os
 |l {d:List D} {v:V} {xs:List AV} {vs:List V} {os:List D} (t:OutsX K W H xs vs os):OutsX K W H (.l d::xs) (v::vs) os
 |s {i:Nat} {d:D} {a:Addr} {o:HO} {d':D} {xs:List AV} {vs:List V} {os:List D} (e:H a=some o) (r:ORep K W H d' o) (t:OutsX K W H xs vs os):OutsX K W H (.s i d::xs) (.ref a::vs) (d'::os)
 |n {b:Bool} {v:V} {d':D} {xs:List AV} {vs:List V} {os:List D} (t:OutsX K W H xs vs os):OutsX K W H (.n b::xs) (v::vs) (d'::os)
section
variable {X:Cx} {fn:Nat->List D->Option SV} {fa:Nat->List D->Option Ans} {fuel:Nat} {a b c e:Expr} {ca cb cc ce:E} {es:List Expr} {cs:Es} {ma:MA} {m:M} {pos p:Pos} {x:Str} {st:Stmt} {sts sts':List Stmt} {s:S} {ss s1 s2:Ss}
theorem OutsX.plain{K:PySem.W.Frag}{W W':Addr->Prop}{H:Hp}{xs:List AV}{vs:List V}{os:List D}(h:OutsX K W H xs vs os)(p:os.all zb5=true):OutsX K W' H xs vs os:=by
 induction h with
 |nil=>exact .nil
 |e _ ih=>exact .e (ih p)
 |l _ ih=>exact .l (ih p)
 |s e r _ ih=>
  simp only[List.all_cons,Bool.and_eq_true] at p
  exact .s e (r.plain p.1) (ih p.2)
 |n _ ih=>
  simp only[List.all_cons,Bool.and_eq_true] at p
  exact .n (ih p.2)
theorem Res.fine{K:PySem.W.Frag}{W W':Addr->Prop}{H H':Hp}{r:SV}{v:V}(h:Res K W' H H' r v)(p:r.fine=true):Res K W H H' r v:=by
 cases h with
 |val h=>exact .val (h.plain p)
 |new h e r=>exact .new h e (r.plain p)
 |see h e r=>cases p
theorem SPost.wf'{K:PySem.W.Frag}{W W':Addr->Prop}{ρ ρ':LW.Env}{σ σ':St}{H H':Hp}(p:SPost K W ρ σ H W' ρ' σ' H'):Wf W' H':=p.r.wf
end
end L2.LW
set_option maxHeartbeats 4000000
namespace L2.LW
open PySem PySem.Spec PyProof.Rows
section
variable {X:Cx} {fn:Nat->List D->Option SV} {fa:Nat->List D->Option Ans} {fuel:Nat} {st:Stmt} {s:S}
theorem zpB(g:Bool)(src:Es)(cond elt:E): ∀ρ,evT fn (.comp g src cond elt) ρ=(evE fn (.comp g src cond elt) ρ).bind zbn:=fun ρ=>by
 rw[zle,ziC]
 cases zbZ fn src ρ with
 |none=>rfl
 |some rs=>
  simp only[Option.bind_some]
  cases zaE g rs with
  |none=>rfl
  |some ds=>
   simp only[Option.bind_some]
   split
   ·cases zco (fun d=>evT fn cond (some (.val d)::ρ)) (fun d=>evE fn elt (some (.val d)::ρ)) ds<;>rfl
   ·rfl
theorem ziN{env:PySem.Env}{a b c d}: ∀whole,PySem.isTrue (.ListComp a b c d) env whole=(do let v <-whole;standAt (Expr.ListComp a b c d).pos;holding [v] (truthy v)):=fun _=>rfl
end
end L2.LW
set_option maxHeartbeats 4000000
namespace L2.LW
open PySem PySem.W PyProof.Rows
section
variable {n:Nat} {r:Nat->Int} {cmp:Nat->Nat->(Bool->Shared->Prop)->Shared->Prop} {I:Shared->Prop}
noncomputable def kk(r:Nat->Int)(p:Array Nat)(i:Nat):Int:=r (p.getD i 0)
structure Pm (n:Nat)(r:Nat->Int)(p:Array Nat):Prop where
 perm:p.Perm (List.range n).toArray
 size:p.size=n
 lt: ∀i,i<n->p.getD i 0<n
 inj: ∀i j,i<n->j<n->i≠j->kk r p i≠kk r p j
theorem Pm.of{p:Array Nat}(hr: ∀i j,i<n->j<n->i≠j->r i≠r j)(h:p.Perm (List.range n).toArray):Pm n r p:=by
 have hs:p.size=n:=by have:=h.size_eq;simpa using this
 have hl:p.toList.Perm (List.range n):=Array.perm_iff_toList_perm.mp h
 have hlt: ∀i,i<n->p.getD i 0<n:=fun i hi=>by
  have hi':i<p.size:=by omega
  have:p[i]∈p.toList:=by simp
  have:=hl.mem_iff.mp this
  rw[List.mem_range] at this
  simpa [Array.getD,hi'] using this
 have hnd:p.toList.Nodup:=hl.nodup_iff.mpr List.nodup_range
 refine⟨h,hs,hlt,fun i j hi hj ne=>hr _ _ (hlt i hi) (hlt j hj) fun e=>ne ?_⟩
 have hi':i<p.size:=by omega
 have hj':j<p.size:=by omega
 simp only[Array.getD,hi',hj',dif_pos] at e
 have e':p.toList[i]'(by simpa using hi')=p.toList[j]'(by simpa using hj'):=by simpa using e
 exact (List.getElem_inj hnd).mp e'
noncomputable def Up(r:Nat->Int)(p:Array Nat)(k:Nat):Prop:=∀i j,i<j->j<k->kk r p i<kk r p j
noncomputable def Dn(r:Nat->Int)(p:Array Nat)(k:Nat):Prop:=∀i j,i<j->j<k->kk r p j<kk r p i
theorem Up.one{p:Array Nat}{k:Nat}(h:k<=1):Up r p k:=fun i j h1 h2=>by omega
theorem Dn.one{p:Array Nat}{k:Nat}(h:k<=1):Dn r p k:=fun i j h1 h2=>by omega
theorem Up.next{p:Array Nat}{k:Nat}(h:Up r p k)(hk:1<=k)(e:kk r p (k-1)<kk r p k):Up r p (k+1):=fun i j h1 h2=>by
 by_cases hj:j=k
 ·subst hj
  by_cases hi:i=j-1
  ·rw[hi];exact e
  ·exact Int.lt_trans (h i (j-1) (by omega) (by omega)) e
 ·exact h i j h1 (by omega)
theorem Dn.next{p:Array Nat}{k:Nat}(h:Dn r p k)(hk:1<=k)(e:kk r p k<kk r p (k-1)):Dn r p (k+1):=fun i j h1 h2=>by
 by_cases hj:j=k
 ·subst hj
  by_cases hi:i=j-1
  ·rw[hi];exact e
  ·exact Int.lt_trans e (h i (j-1) (by omega) (by omega))
 ·exact h i j h1 (by omega)
theorem Pm.lt'{p:Array Nat}(P:Pm n r p){i j:Nat}(hi:i<n)(hj:j<n)(ne:i≠j)(h: ¬kk r p i<kk r p j):kk r p j<kk r p i:=by
 have:=P.inj i j hi hj ne
 omega
variable (hc: ∀i j C s,i<n->j<n->I s->(∀s',I s'->C (decide (r i<r j)) s')->cmp i j C s)
include hc
theorem zlG{p:Array Nat}(P:Pm n r p){Q:Nat->Shared->Prop}: ∀(f m:Nat) (s:Shared),1<=m->m+f=n->I s->Up r p m->(∀k s',I s'->m<=k->k<=n->Up r p k->(k=n\/kk r p k<kk r p (k-1))->(k=m\/kk r p m>kk r p (m-1))->Q k s')->(kas_asc p f m).kasWp cmp Q s
 |0,m,s,h1,h2,hI,hu,q=>q m s hI (Nat.le_refl _) (by omega) hu (.inl (by omega)) (.inl rfl)
 |f+1,m,s,h1,h2,hI,hu,q=>by
  refine hc _ _ _ s (P.lt m (by omega)) (P.lt (m-1) (by omega)) hI fun s' hI'=>?_
  by_cases h:kk r p m<kk r p (m-1)
  ·have e:decide (r (p.getD m 0)<r (p.getD (m-1) 0))=true:=decide_eq_true h
   simp only[e,if_true]
   exact q m s' hI' (Nat.le_refl _) (by omega) hu (.inr h) (.inl rfl)
  ·have e:decide (r (p.getD m 0)<r (p.getD (m-1) 0))=false:=decide_eq_false h
   simp only[e,Bool.false_eq_true,if_false]
   have hlt:=P.lt' (by omega) (by omega) (by omega) h
   exact zlG P f (m+1) s' (by omega) (by omega) hI' (hu.next h1 hlt) fun k s'' hs h3 h4 h5 h6 _=>q k s'' hs (by omega) h4 h5 h6 (.inr hlt)
theorem zlH{p:Array Nat}(P:Pm n r p){Q:Array Nat×Nat×Nat->Shared->Prop}: ∀(f m:Nat) (s:Shared),1<=m->m+f=n->I s->Dn r p m->(∀k s',I s'->m<=k->k<=n->Dn r p k->Q (p,k,0) s')->(kas_desc f p m 0).kasWp cmp Q s
 |0,m,s,h1,h2,hI,hu,q=>q m s hI (Nat.le_refl _) (by omega) hu
 |f+1,m,s,h1,h2,hI,hu,q=>by
  refine hc _ _ _ s (P.lt m (by omega)) (P.lt (m-1) (by omega)) hI fun s' hI'=>?_
  by_cases h:kk r p m<kk r p (m-1)
  ·have e:decide (r (p.getD m 0)<r (p.getD (m-1) 0))=true:=decide_eq_true h
   simp only[e,if_true,Nat.lt_irrefl,if_false,gt_iff_lt]
   exact zlH P f (m+1) s' (by omega) (by omega) hI' (hu.next h1 h) fun k s'' hs h3 h4 h5=>q k s'' hs (by omega) h4 h5
  ·have e:decide (r (p.getD m 0)<r (p.getD (m-1) 0))=false:=decide_eq_false h
   simp only[e,Bool.false_eq_true,if_false]
   have hlt:=P.lt' (by omega) (by omega) (by omega) h
   refine hc _ _ _ s' (P.lt (m-1) (by omega)) (P.lt m (by omega)) hI' fun s'' hI''=>?_
   have e2:decide (r (p.getD (m-1) 0)<r (p.getD m 0))=true:=decide_eq_true hlt
   simp only[e2,if_true]
   exact q m s'' hI'' (Nat.le_refl _) (by omega) hu
omit hc in
theorem Pm.rev{p:Array Nat}(hr: ∀i j,i<n->j<n->i≠j->r i≠r j)(P:Pm n r p)(i j:Nat):Pm n r (kas_rev p i j):=Pm.of hr ((mirror_perm p i j _).trans P.perm)
omit hc in
theorem zox{p:Array Nat}{m k:Nat}(hm:m<=p.size):kk r (kas_rev p 0 m) k=if k<m then kk r p (m-1-k) else kk r p k:=by
 have e:=getElem?_mirror_all (i:=0) hm k
 simp only[Nat.zero_le,true_and,Nat.zero_add] at e
 by_cases h:k<m
 ·rw[if_pos h] at e⊢
  simp only[kk,kas_rev,Array.getD_eq_getD_getElem?,e]
 ·rw[if_neg h] at e⊢
  simp only[kk,kas_rev,Array.getD_eq_getD_getElem?,e]
omit hc in
theorem Dn.rev{p:Array Nat}{m:Nat}(hm:m<=p.size)(h:Dn r p m):Up r (kas_rev p 0 m) m:=fun i j h1 h2=>by
 rw[zox hm,zox hm,if_pos (by omega),if_pos h2]
 exact h _ _ (by omega) (by omega)
theorem znB(hr: ∀i j,i<n->j<n->i≠j->r i≠r j){p:Array Nat}(P:Pm n r p){m:Nat}{s:Shared}{Q:Nat×Array Nat->Shared->Prop}(h1:1<=m)(h2:m<=n)(hI:I s)(hd:Dn r p m)
  (q: ∀k p' s',I s'->k<=n->1<=k->Pm n r p'->Up r p' k->Q (k,p') s'):(kas_tail3 m n p).kasWp cmp Q s:=by
 unfold kas_tail3
 rw[KasT.kasWp_bind]
 have P':=P.rev hr 0 m
 refine zlG hc P' (n-m) m s h1 (by omega) hI (hd.rev (by rw[P.size];exact h2)) fun k s' hs h3 h4 h5 _ _=>?_
 exact q k _ s' hs h4 (by omega) P' h5
theorem ziO(hr: ∀i j,i<n->j<n->i≠j->r i≠r j){p:Array Nat}(P:Pm n r p){s:Shared}{Q:Nat×Array Nat->Shared->Prop}(h2:2<=n)(hI:I s)(hd:kk r p 1<kk r p 0)
  (q: ∀k p' s',I s'->k<=n->1<=k->Pm n r p'->Up r p' k->Q (k,p') s'):(kas_descPart 1 n p).kasWp cmp Q s:=by
 unfold kas_descPart
 rw[KasT.kasWp_bind]
 refine zlH hc P (n-2) 2 s (by omega) (by omega) hI ((Dn.one (k:=1) (Nat.le_refl _)).next (Nat.le_refl _) hd) fun k s' hs h3 h4 h5=>?_
 simp only[Nat.lt_irrefl,if_false,gt_iff_lt]
 exact znB hc hr P (by omega) h4 hs h5 q
theorem znC(hr: ∀i j,i<n->j<n->i≠j->r i≠r j){p:Array Nat}(P:Pm n r p){s:Shared}{Q:Nat×Array Nat->Shared->Prop}(h2:2<=n)(hI:I s)
  (q: ∀k p' s',I s'->k<=n->1<=k->Pm n r p'->Up r p' k->Q (k,p') s'):(kas_count n p).kasWp cmp Q s:=by
 unfold kas_count
 rw[KasT.kasWp_bind]
 refine zlG hc P (n-1) 1 s (Nat.le_refl _) (by omega) hI (Up.one (Nat.le_refl _)) fun k s' hs h3 h4 h5 h6 h7=>?_
 by_cases hk:k=n
 ·subst hk
  simp only[beq_self_eq_true,if_true]
  exact q _ p s' hs (Nat.le_refl _) h3 P h5
 ·have e:(k==n)=false:=by simpa using hk
  simp only[e,Bool.false_eq_true,if_false]
  by_cases h1:k>1
  ·simp only[h1,if_true]
   refine hc _ _ _ s' (P.lt 0 (by omega)) (P.lt (k-1) (by omega)) hs fun s'' hs'=>?_
   have e2:decide (r (p.getD 0 0)<r (p.getD (k-1) 0))=true:=decide_eq_true (h5 0 (k-1) (by omega) (by omega))
   simp only[e2,if_true]
   exact q _ p s'' hs' h4 h3 P h5
  ·have ek:k=1:=by omega
   subst ek
   simp only[Nat.lt_irrefl,if_false,gt_iff_lt]
   exact ziO hc hr P h2 hs (h6.resolve_left hk) q
theorem zgt{p:Array Nat}(P:Pm n r p){k:Nat}(hk:k<n){Q:Nat->Shared->Prop}: ∀(f l h:Nat) (s:Shared),h-l<=f->l<=h->h<=k->I s->(∀i,i<l->kk r p i<kk r p k)->(∀i,h<=i->i<k->kk r p k<kk r p i)->Up r p k->
  (∀l s',I s'->l<=k->(∀i,i<l->kk r p i<kk r p k)->(∀i,l<=i->i<k->kk r p k<kk r p i)->Q l s')->(kas_place p k f l h).kasWp cmp Q s
 |0,l,h,s,hf,h1,h2,hI,hl,hh,hu,q=>q l s hI (by omega) hl fun i h3 h4=>hh i (by omega) h4
 |f+1,l,h,s,hf,h1,h2,hI,hl,hh,hu,q=>by
  unfold kas_place
  by_cases hge:l>=h
  ·rw[if_pos hge]
   exact q l s hI (by omega) hl fun i h3 h4=>hh i (by omega) h4
  ·rw[if_neg hge]
   refine hc _ _ _ s (P.lt k hk) (P.lt _ (by omega)) hI fun s' hI'=>?_
   by_cases hm:kk r p k<kk r p ((l+h)/2)
   ·have e:decide (r (p.getD k 0)<r (p.getD ((l+h)/2) 0))=true:=decide_eq_true hm
    simp only[e,if_true]
    refine zgt P hk f l ((l+h)/2) s' (by omega) (by omega) (by omega) hI' hl (fun i h3 h4=>?_) hu q
    by_cases hi:i=(l+h)/2
    ·rw[hi];exact hm
    ·exact Int.lt_trans hm (hu _ _ (by omega) h4)
   ·have e:decide (r (p.getD k 0)<r (p.getD ((l+h)/2) 0))=false:=decide_eq_false hm
    simp only[e,Bool.false_eq_true,if_false]
    have hlt:=P.lt' hk (by omega) (by omega) hm
    refine zgt P hk f ((l+h)/2+1) h s' (by omega) (by omega) h2 hI' (fun i h3=>?_) hh hu q
    by_cases hi:i=(l+h)/2
    ·rw[hi];exact hlt
    ·exact Int.lt_trans (hu i ((l+h)/2) (by omega) (by omega)) hlt
omit hc in
theorem zhB{p:Array Nat}{k d:Nat}(hk:k<p.size)(hd:d<=k)(i:Nat):kk r (bubble p k d) i=if i=k-d then kk r p k else if k-d<i/\i<=k then kk r p (i-1) else kk r p i:=by
 have e:=getElem?_bubble hk d hd i
 by_cases h:i=k-d
 ·rw[if_pos h] at e⊢
  simp only[kk,Array.getD_eq_getD_getElem?,e]
 ·rw[if_neg h] at e⊢
  by_cases h':k-d<i/\i<=k
  ·rw[if_pos h'] at e⊢
   simp only[kk,Array.getD_eq_getD_getElem?,e]
  ·rw[if_neg h'] at e⊢
   simp only[kk,Array.getD_eq_getD_getElem?,e]
theorem zoy(hr: ∀i j,i<n->j<n->i≠j->r i≠r j){Q:Array Nat->Shared->Prop}: ∀(f:Nat) (p:Array Nat) (k:Nat) (s:Shared),1<=k->k+f=n->Pm n r p->I s->Up r p k->(∀p' s',I s'->Pm n r p'->Up r p' n->Q p' s')->(kas_bin f p k).kasWp cmp Q s
 |0,p,k,s,h1,h2,P,hI,hu,q=>q p s hI P (by rw[<-h2];exact hu)
 |f+1,p,k,s,h1,h2,P,hI,hu,q=>by
  unfold kas_bin
  rw[KasT.kasWp_bind]
  have hk:k<n:=by omega
  refine zgt hc P hk k 0 k s (by omega) (Nat.zero_le _) (Nat.le_refl _) hI (fun i h=>by omega) (fun i h3 h4=>by omega) hu fun l s' hI' hl h3 h4=>?_
  have hks:k<p.size:=by rw[P.size];exact hk
  have P':Pm n r (bubble p k (k-l)):=Pm.of hr ((bubble_perm p k _).trans P.perm)
  refine zoy hr f _ (k+1) s' (by omega) (by omega) P' hI' (fun i j hij hj=>?_) q
  rw[zhB hks (by omega),zhB hks (by omega)]
  have ekl:k-(k-l)=l:=by omega
  rw[ekl]
  by_cases hi:i=l
  ·rw[if_pos hi,if_neg (by omega)]
   rw[if_pos (by omega)]
   exact h4 _ (by omega) (by omega)
  ·rw[if_neg hi]
   by_cases hjl:j=l
   ·rw[if_pos hjl,if_neg (by omega)]
    exact h3 i (by omega)
   ·rw[if_neg hjl]
    by_cases hi2:l<i/\i<=k
    ·rw[if_pos hi2,if_pos (by omega)]
     exact hu _ _ (by omega) (by omega)
    ·rw[if_neg hi2]
     by_cases hj2:l<j/\j<=k
     ·rw[if_pos hj2]
      by_cases he:i=j-1
      ·omega
      ·exact hu _ _ (by omega) (by omega)
     ·rw[if_neg hj2]
      exact hu _ _ (by omega) (by omega)
theorem zpC(hr: ∀i j,i<n->j<n->i≠j->r i≠r j){s:Shared}{Q:Array Nat->Shared->Prop}(h2:2<=n)(hI:I s)(q: ∀p s',I s'->Pm n r p->Up r p n->Q p s'):(kas_sort n).kasWp cmp Q s:=by
 unfold kas_sort
 rw[KasT.kasWp_bind]
 have P0:Pm n r (List.toArray (List.range n)):=Pm.of hr (Array.Perm.refl _)
 refine znC hc hr P0 h2 hI fun k p s' hI' hk h1 P hu=>?_
 by_cases hlt:k<n
 ·simp only[hlt,if_true]
  have e:max k 1=k:=by omega
  rw[e]
  exact zoy hc hr (n-k) p k s' h1 (by omega) P hI' hu q
 ·simp only[hlt,if_false]
  have e:k=n:=by omega
  exact q p s' hI' P (by rw[<-e];exact hu)
end
end L2.LW
set_option maxHeartbeats 4000000
namespace L2.LW
open PySem PySem.Spec PySem.W PyProof.Rows
section
variable {prog:Program} {w:World} {A:Around} {E:Value->Shared->Prop} {s:Shared}
theorem zhC{a:Addr}{vs:List Value}{n:Nat}{P:PySem.Fin->Shared->Prop}{κ:SortKind}(ho:s.heap.get? a=some (seqObj "list" vs.toArray n))(h64:vs.length<64){r:Nat->Int}(hr: ∀i j,i<vs.length->j<vs.length->i≠j->r i≠r j)
  (hk:2<=vs.length->∀h' tk,(∀b o,b≠a->s.heap.get? b=some o->h'.get? b=some o)->wpAny (model prog w) A (keyKind' vs.toArray) (fun κ' s'=>κ'=κ/\∃tk',s'={ s with heap:=h',toks:=tk' }) (fun _ _=>False) { s with heap:=h',toks:=tk })
  (hc: ∀i j h' tk (C:Bool->Shared->Prop),i<vs.length->j<vs.length->(∀b o,b≠a->s.heap.get? b=some o->h'.get? b=some o)->(∀tk',C (decide (r i<r j)) { s with heap:=h',toks:=tk' })->
   wpAny (model prog w) A (keyLt' κ (vs.getD i Value.none) (vs.getD j Value.none)) C (fun _ _=>False) { s with heap:=h',toks:=tk })
  (h: ∀p tk,Pm vs.length r p->Up r p vs.length->P (.done (.ret .none)) { s with heap:=sortedHeap s.heap a vs (p.toList.map fun i=>vs.getD i Value.none).toArray,toks:=tk }):
  wpAny (model prog w) A (Builtin.«list.sort» ⟨[.ref a],[]⟩) P E s:=by
 rw[list_sort_plain]
 have ha:a<s.heap.objs.size:=Heap.lt_size ho
 refine wpAny_bind (listItems_at ho rfl ?_)
 refine wpAny_bind (listUpdate_at ho rfl ?_ (by rw[List.size_toArray,sizeLine_eq];omega) (Nat.zero_le _))
 obtain⟨e1,ho1⟩: ∃e1,(s.heap.update a (Obj.mapSeq fun _=> #[])).get? a=some (seqObj "list" #[] e1):=⟨_,get?_update_seq ho (fun _=> #[])⟩
 refine wpAny_bind (seqEpoch_at ho1 rfl ?_)
 refine wpAny_bind (wpAny_newTuple ?_ (by show vs.length<=_;rw[sizeLine_eq];omega))
 refine wpAny_bind (wpAny_newList ?_ (Nat.zero_le _))
 refine wpAny_holding ?_
 have ho6:(((s.heap.update a (Obj.mapSeq fun _=> #[])).push (seqObj "tuple" vs.toArray 0)).push (seqObj "list" #[] 0)).get? a=some (seqObj "list" #[] e1):=by
  rw[Heap.get?_push_ne _ _ _ (by rw[size_push',Heap.size_update];exact Nat.ne_of_lt (Nat.lt_succ_of_lt ha)),Heap.get?_push_ne _ _ _ (by rw[Heap.size_update];exact Nat.ne_of_lt ha)]
  exact ho1
 have keep: ∀b o,b≠a->s.heap.get? b=some o->(((s.heap.update a (Obj.mapSeq fun _=> #[])).push (seqObj "tuple" vs.toArray 0)).push (seqObj "list" #[] 0)).get? b=some o:=fun b o hb e=>
  Heap.get?_push_of_some _ (Heap.get?_push_of_some _ (by rw[Heap.get?_update_ne _ _ _ _ hb];exact e))
 show wpAny (model prog w) A _ P E { s with heap:=((s.heap.update a (Obj.mapSeq fun _=> #[])).push (seqObj "tuple" vs.toArray 0)).push (seqObj "list" #[] 0) }
 dsimp only
 have hsz:vs.toArray.size=vs.length:=by simp
 have hid:Pm vs.length r (List.range vs.length).toArray:=Pm.of hr (Array.Perm.refl _)
 by_cases h2:vs.toArray.size<2
 ·rw[if_pos h2,if_pos h2]
  refine wpAny_bind (wpAny_pure ?_)
  rw[StateT.run_pure]
  refine wpAny_bind (wpAny_pure ?_)
  dsimp only
  refine wpAny_bind (seqEpoch_at ho6 rfl ?_)
  refine wpAny_bind (listUpdate_at ho6 rfl ?_ (Nat.zero_le _) (by rw[Array.size_map];show (pairsOf vs).size<=_;rw[pairsOf_size,sizeLine_eq];omega))
  simp only[bne_self_eq_false,Bool.false_eq_true,if_false]
  have hh:=h (List.range vs.length).toArray s.toks hid (Up.one (by omega))
  have e:((List.range vs.length).toArray.toList.map fun i=>vs.getD i Value.none).toArray=(arrOf (SortSt.mk' general' (vs.toArray.zip vs.toArray) #[] 7 none)).map (·.2):=by
   show _=(vs.toArray.zip vs.toArray).map (·.2)
   apply Array.toList_inj.mp
   simp
   apply List.ext_getElem
   ·simp
   ·intro i h1 h2;simp at h1;simp[h1]
  rw[e] at hh
  exact wpAny_pure hh
 ·rw[if_neg h2,if_neg h2]
  rw[hsz] at h2
  have h2':2<=vs.length:=by omega
  refine wpAny_bind (wpAny_mono (hk h2' _ s.toks keep) (fun κ' s0 ⟨hκ,tk0,hs0⟩=>?_) fun _ _ x=>x.elim)
  subst hκ hs0
  refine wpAny_bind (wpAny_mono (kat_run (ks:=vs) (Q:=fun st' s'=>∃(p:Array Nat) (tk:Nat),Pm vs.length r p/\Up r p vs.length/\arrOf st'=p.map (kas_item (vs.toArray.zip vs.toArray))/\failedOf st'=Option.none/\
    s'={ s with heap:=((s.heap.update a (Obj.mapSeq fun _=> #[])).push (seqObj "tuple" vs.toArray 0)).push (seqObj "list" #[] 0),toks:=tk })
   (G:=fun p s'=>∃tk,Pm vs.length r p/\Up r p vs.length/\s'={ s with heap:=((s.heap.update a (Obj.mapSeq fun _=> #[])).push (seqObj "tuple" vs.toArray 0)).push (seqObj "list" #[] 0),toks:=tk })
   rfl h2' h64 (fun p st' s' a1 a2 a3 ⟨tk,a4,a5,a6⟩=>⟨p,tk,a4,a5,a2,a3,a6⟩) ?_) ?_ fun _ _ e=>e)
  ·exact zpC (I:=fun s'=>∃tk,s'={ s with heap:=((s.heap.update a (Obj.mapSeq fun _=> #[])).push (seqObj "tuple" vs.toArray 0)).push (seqObj "list" #[] 0),toks:=tk })
    (fun i j C s' hi hj zz6 q=>by
     obtain⟨tk,hs'⟩:=zz6
     subst hs'
     exact hc i j _ tk C hi hj keep fun tk'=>q _ ⟨tk',rfl⟩) hr h2' ⟨tk0,rfl⟩ fun p s' ⟨tk,hs'⟩ hp hu=>⟨tk,hp,hu,hs'⟩
  ·rintro⟨⟨⟩,st'⟩ s' ⟨p,tk,hp,hu,har,hf,rfl⟩
   dsimp only
   have hout:=kat_snds (ks:=vs) (vs:=vs) rfl har
   rw[hout]
   refine wpAny_bind (seqEpoch_at ho6 rfl ?_)
   refine wpAny_bind (listUpdate_at ho6 rfl ?_ (Nat.zero_le _) (by rw[List.size_toArray,List.length_map,Array.length_toList,hp.size,sizeLine_eq];omega))
   rw[hf]
   simp only[bne_self_eq_false,Bool.false_eq_true,if_false]
   exact wpAny_pure (h p tk hp hu)
theorem zkf{l:Addr}{vs:List Value}{Q:Value->Shared->Prop}{κ:SortKind}(hl:s.heap.IsList l vs.toArray)(h64:vs.length<64){r:Nat->Int}(hr: ∀i j,i<vs.length->j<vs.length->i≠j->r i≠r j)
  (hk:2<=vs.length->∀h' tk,(∀b o,s.heap.get? b=some o->h'.get? b=some o)->wpAny (model prog w) A.in1.in1 (keyKind' vs.toArray) (fun κ' s'=>κ'=κ/\∃tk',s'={ s with heap:=h',toks:=tk' }) (fun _ _=>False) { s with heap:=h',toks:=tk })
  (hc: ∀i j h' tk (C:Bool->Shared->Prop),i<vs.length->j<vs.length->(∀b o,s.heap.get? b=some o->h'.get? b=some o)->(∀tk',C (decide (r i<r j)) { s with heap:=h',toks:=tk' })->
   wpAny (model prog w) A.in1.in1 (keyLt' κ (vs.getD i Value.none) (vs.getD j Value.none)) C (fun _ _=>False) { s with heap:=h',toks:=tk })
  (h: ∀p tk,Pm vs.length r p->Up r p vs.length->Q (.ref (s.heap.objs.size+1)) { s with heap:=sortedAll s.heap vs (p.toList.map fun i=>vs.getD i Value.none).toArray,toks:=tk }):
  wpAny (model prog w) A (call (.builtin "sorted") [.ref l]) Q E s:=by
 refine Calls.call_function_entry kind_sorted plain_sorted entry_sorted (args_sorted1 _) ?_
 unfold Builtin.«sorted»
 refine wpAny_bind (m:=checkCount "sorted" 1 1 _) (wpAny_pure ?_)
 refine wpAny_bind (collect_list hl ?_ (by rw[sizeLine_eq];omega))
 refine wpAny_bind (wpAny_newList ?_ (by rw[sizeLine_eq];omega))
 have hsz:((s.heap.push (seqObj "list" #[] 0)).update s.heap.objs.size (Obj.mapSeq (· ++vs.toArray))).objs.size=s.heap.objs.size+1:=by
  rw[Heap.size_update,size_push']
 have hoL:(((s.heap.push (seqObj "list" #[] 0)).update s.heap.objs.size (Obj.mapSeq (· ++vs.toArray))).push (seqObj "list" vs.toArray 0)).get? (s.heap.objs.size+1)=some (seqObj "list" vs.toArray 0):=by
  rw[<-hsz];exact Heap.get?_push_size _ rfl
 have keep: ∀b o,s.heap.get? b=some o->(((s.heap.push (seqObj "list" #[] 0)).update s.heap.objs.size (Obj.mapSeq (· ++vs.toArray))).push (seqObj "list" vs.toArray 0)).get? b=some o:=fun b o q=>by
  have hlt:b<s.heap.objs.size:=Heap.lt_size q
  rw[Heap.get?_push_ne _ _ _ (by rw[hsz];exact Nat.ne_of_lt (Nat.lt_succ_of_lt hlt)),Heap.get?_update_ne _ _ _ _ (Nat.ne_of_lt hlt),Heap.get?_push_ne _ _ _ (Nat.ne_of_lt hlt)]
  exact q
 have nea: ∀b o,s.heap.get? b=some o->b≠s.heap.objs.size+1:=fun b o e=>Nat.ne_of_lt (Nat.lt_succ_of_lt (Heap.lt_size e))
 show wpAny _ _ _ _ _ { s with heap:=((s.heap.push (seqObj "list" #[] 0)).update s.heap.objs.size (Obj.mapSeq (· ++vs.toArray))).push (seqObj "list" vs.toArray 0) }
 rw[hsz]
 refine wpAny_bind (wpAny_holding (wpAny_call_entry slot_list_sort ⟨_,hoL,rfl⟩ entry_list_sort (zhC (κ:=κ) (r:=r) hoL h64 hr (fun h2 h' tk hk'=>?_) (fun i j h' tk C hi hj hk' q=>?_) fun p tk hp hu=>⟨_,rfl,?_⟩) (args_list_sort _)))
 ·exact hk h2 h' tk fun b o e=>hk' b o (nea b o e) (keep b o e)
 ·exact hc i j h' tk C hi hj (fun b o e=>hk' b o (nea b o e) (keep b o e)) q
 ·exact wpAny_pure ⟨_,rfl,h p tk hp hu⟩
end
theorem zbl: ∀x:List Int,LW.lexLt x x=false
 |[]=>rfl
 |a::x=>by rw[LW.lexLt,if_pos rfl];exact zbl x
theorem zb9: ∀{x y z:List Int},LW.lexLt x y=true->LW.lexLt y z=true->LW.lexLt x z=true
 |x,[],_,h,_=>by cases x<;>simp[LW.lexLt] at h
 |_,_::_,[],_,h=>by cases h
 |[],_::_,_::_,_,_=>rfl
 |a::x,b::y,c::z,h1,h2=>by
  rw[LW.lexLt] at h1 h2⊢
  by_cases e1:a=b
  ·by_cases e2:b=c
   ·rw[if_pos e1] at h1
    rw[if_pos e2] at h2
    rw[if_pos (e1.trans e2)]
    exact zb9 h1 h2
   ·rw[if_neg e2,decide_eq_true_iff] at h2
    rw[if_neg (by omega),decide_eq_true_iff]
    omega
  ·rw[if_neg e1,decide_eq_true_iff] at h1
   by_cases e2:b=c
   ·rw[if_neg (by omega),decide_eq_true_iff];omega
   ·rw[if_neg e2,decide_eq_true_iff] at h2
    rw[if_neg (by omega),decide_eq_true_iff];omega
theorem zct: ∀{x y:List Int},x≠y->LW.lexLt x y=true\/LW.lexLt y x=true
 |[],[],h=>absurd rfl h
 |[],_::_,_=>.inl rfl
 |_::_,[],_=>.inr rfl
 |a::x,b::y,h=>by
  rw[LW.lexLt,LW.lexLt]
  by_cases e:a=b
  ·rw[if_pos e,if_pos e.symm]
   exact zct fun z=>h (by rw[e,z])
  ·rw[if_neg e,if_neg (fun z=>e z.symm),decide_eq_true_iff,decide_eq_true_iff]
   omega
noncomputable abbrev zkJ(x y:List Int):Prop:=LW.lexLt x y=true
theorem ze1(x:List Int): ∀l,(zo8 x l).Perm (x::l)
 |[]=>.refl _
 |y::r=>by
  unfold zo8
  split
  ·exact .refl _
  ·exact ((ze1 x r).cons y).trans (.swap x y r)
theorem zbB: ∀l,(zc9 l).Perm l
 |[]=>.refl _
 |x::r=>(ze1 x _).trans ((zbB r).cons x)
theorem zlI{x:List Int}: ∀{l:List (List Int)},l.Pairwise zkJ->(∀y∈l,x≠y)->(zo8 x l).Pairwise zkJ
 |[],_,_=>by simp[zo8]
 |y::r,h,hn=>by
  rw[List.pairwise_cons] at h
  unfold zo8
  split
  ·rename_i hx
   rw[List.pairwise_cons,List.pairwise_cons]
   refine⟨fun z hz=>?_,h⟩
   rcases List.mem_cons.mp hz with rfl|hz
   ·exact hx
   ·exact zb9 hx (h.1 z hz)
  ·rename_i hx
   have hyx:zkJ y x:=(zct (hn y List.mem_cons_self)).resolve_left hx
   rw[List.pairwise_cons]
   refine⟨fun z hz=>?_,zlI h.2 fun z hz=>hn z (List.mem_cons_of_mem _ hz)⟩
   rcases List.mem_cons.mp ((ze1 x r).mem_iff.mp hz) with rfl|hz
   ·exact hyx
   ·exact h.1 z hz
theorem zcQ: ∀{l:List (List Int)},l.Nodup->(zc9 l).Pairwise zkJ
 |[],_=>List.Pairwise.nil
 |x::r,h=>by
  rw[List.nodup_cons] at h
  exact zlI (zcQ h.2) fun y hy e=>h.1 ((zbB r).mem_iff.mp (e▸hy))
theorem zgu: ∀{l m:List (List Int)},l.Perm m->l.Pairwise zkJ->m.Pairwise zkJ->l=m
 |[],m,h,_,_=>(List.Perm.nil_eq h)
 |x::l,[],h,_,_=>by have:=h.length_eq;simp at this
 |x::l,y::m,h,h1,h2=>by
  rw[List.pairwise_cons] at h1 h2
  have e:x=y:=by
   rcases List.mem_cons.mp (h.mem_iff.mp List.mem_cons_self) with e|hx
   ·exact e
   ·rcases List.mem_cons.mp (h.mem_iff.mpr List.mem_cons_self) with e|hy
    ·exact e.symm
    ·have q1:=h2.1 x hx
     have q2:=h1.1 y hy
     have:=zb9 q1 q2
     rw[zbl] at this;cases this
  subst e
  rw[zgu (List.Perm.cons_inv h) h1.2 h2.2]
noncomputable def rkT(ks:List (List Int))(x:List Int):Int:=((ks.filter fun y=>LW.lexLt y x).length:Nat)
theorem zfO{ks:List (List Int)}{x y:List Int}(hx:x∈ks)(h:zkJ x y):rkT ks x<rkT ks y:=by
 unfold rkT
 have key: ∀l:List (List Int),(l.filter fun z=>LW.lexLt z x).length<=(l.filter fun z=>LW.lexLt z y).length/\(x∈l->(l.filter fun z=>LW.lexLt z x).length<(l.filter fun z=>LW.lexLt z y).length):=by
  intro l
  induction l with
  |nil=>exact⟨Nat.le_refl _,fun z=>by cases z⟩
  |cons z l ih=>
   rw[List.filter_cons,List.filter_cons]
   by_cases h1:LW.lexLt z x=true
   ·have h2:=zb9 h1 h
    rw[if_pos h1,if_pos h2]
    simp only[List.length_cons]
    refine⟨by omega,fun hz=>?_⟩
    rcases List.mem_cons.mp hz with rfl|hz
    ·rw[zbl] at h1;cases h1
    ·have:=ih.2 hz;omega
   ·rw[if_neg h1]
    by_cases h2:LW.lexLt z y=true
    ·rw[if_pos h2]
     simp only[List.length_cons]
     exact⟨by omega,fun _=>by omega⟩
    ·rw[if_neg h2]
     refine⟨ih.1,fun hz=>?_⟩
     rcases List.mem_cons.mp hz with rfl|hz
     ·exact absurd h h2
     ·exact ih.2 hz
 have:=(key ks).2 hx
 omega
theorem zgv{ks:List (List Int)}{x y:List Int}(hx:x∈ks)(hy:y∈ks)(hne:x≠y):decide (rkT ks x<rkT ks y)=LW.lexLt x y:=by
 rcases zct hne with h|h
 ·have:=zfO hx h
  rw[h,decide_eq_true_iff];exact this
 ·have h1:=zfO hy h
  have h2:LW.lexLt x y=false:=by
   cases e:LW.lexLt x y with
   |false=>rfl
   |true=>have:=zb9 e h;rw[zbl] at this;cases this
  rw[h2,decide_eq_false_iff_not];omega
section
variable {X:Cx} {pins:List (Addr×Obj)} {σ:St} {H:Hp} {s:Shared} {W:Addr->Prop}
noncomputable def ziP(h:Heap)(v:Value)(k:List Int):Prop:=∃a o its n,v= .ref a/\h.get? a=some o/\o.cls= .type "tuple"/\o.data= .seq its n/\IntsAre its.toList k
theorem ziQ(I:Inv X pins σ H s): ∀{ds:List D} {xs:List V} {us:List Value} {ks:List (List Int)},Reps X.K W H ds xs->Vals xs us->tups? ds=some ks->Paired (ziP s.heap) us ks
 |_,_,_,ks,.nil,r,e=>by cases r;simp[tups?] at e;subst e;exact .nil
 |_,_,_,ks,.cons h t,r,e=>by
  cases r with
  |cons r1 r2=>
   cases h with
   |tup hH rp=>
    simp only[tups?,jo1,jo2] at e
    obtain⟨k,e1,ks',e2,rfl⟩:=e
    refine .cons ?_ (ziQ I t r2 e2)
    cases r1
    obtain⟨its,rv,⟨o,ho,hc,n,hd⟩,_⟩:=I.tuple (.of hH)
    rw[rp.ofInts e1] at rv
    exact⟨_,o,its.toArray,n,rfl,ho,hc,hd,by simpa using zcN rv⟩
   |_=>simp[tups?] at e
theorem zcu{α β:Type}{F:α->β->Prop}: ∀{xs:List α} {ys:List β} {i:Nat},Paired F xs ys->i<xs.length->∃x y,xs[i]? =some x/\ys[i]? =some y/\F x y
 |_,_,_,.nil,h=>by simp at h
 |_,_,0,.cons h _,_=>⟨_,_,rfl,rfl,h⟩
 |_,_,i+1,.cons _ t,h=>by
  obtain⟨x,y,h1,h2,h3⟩:=zcu (i:=i) t (by simpa using h)
  exact⟨x,y,by simpa using h1,by simpa using h2,h3⟩
theorem zec{h:Heap}: ∀{us:List Value} {ks:List (List Int)},Paired (ziP h) us ks->(∀k∈ks,k≠[])->∃fs,KatTups h us fs/\fs.length=us.length/\∀v∈fs,∃i t,v=Value.int i t
 |_,_,.nil,_=>⟨[],.nil,rfl,fun _ z=>by cases z⟩
 |_,_,.cons hx t,hn=>by
  obtain⟨fs,h1,h2,h3⟩:=zec t fun k hk=>hn k (List.mem_cons_of_mem _ hk)
  obtain⟨a,o,its,n,rfl,ho,hc,hd,hi⟩:=hx
  have hne:=hn _ List.mem_cons_self
  cases hi':its.toList with
  |nil=>rw[hi'] at hi;cases hi;exact absurd rfl hne
  |cons v r=>
   rw[hi'] at hi
   cases hi with
   |cons i t' hr=>
    refine⟨.int i t'::fs,.cons ho hc hd (by rw[<-Array.getElem?_toList,hi'];rfl) h1,by simp[h2],fun v hv=>?_⟩
    rcases List.mem_cons.mp hv with rfl|hv
    ·exact⟨_,_,rfl⟩
    ·exact h3 v hv
theorem zdf{prog:Program}{w:World}{A:Around}{Q:Bool->Shared->Prop}{s:Shared}{fin:Bool}: ∀{us vs:List Value} {x y:List Int} (i:Nat),IntsAre us x->IntsAre vs y->(fin=decide (us.length<vs.length))->Q (LW.lexLt x y) s->KatLex prog w A true fin Q (us.zip vs) i s
 |_,_,_,_,i,.nil,hv,hf,q=>by
  cases hv with
  |nil=>subst hf;exact kat_nil q
  |cons j t hv=>subst hf;exact kat_nil q
 |_,_,_,_,i,.cons a t hu,hv,hf,q=>by
  cases hv with
  |nil=>subst hf;exact kat_nil q
  |cons b t' hv=>
   refine kat_cons (wpAny_eqBool_int ?_)
   by_cases e:a=b
   ·subst e
    have:(a==a)=true:=by simp
    rw[this]
    refine kat_yes (zdf (i+1) hu hv (by rw[hf];simp) ?_)
    rw[LW.lexLt,if_pos rfl] at q
    exact q
   ·have:(a==b)=false:=by simpa using e
    rw[this]
    refine kat_no ?_
    rw[LW.lexLt,if_neg e] at q
    cases i with
    |zero=>exact oneLt_int q
    |succ i=>
     have e2:(true&&(i+1==0))=false:=rfl
     rw[e2]
     exact kat_one _ _ (lt_int q)
theorem zaM{α:Type}{l:List α}{i:Nat}{x d:α}(h:l[i]? =some x):l.getD i d=x:=by
 rw[List.getD_eq_getElem?_getD,h];rfl
theorem zhD{xs:List V}{us:List Value}(r:Vals xs us)(p:List Nat)(hp: ∀i∈p,i<us.length):Vals (p.map fun i=>xs.getD i .non) (p.map fun i=>us.getD i Value.none):=by
 induction p with
 |nil=>exact .nil
 |cons i p ih=>
  refine .cons ?_ (ih fun j hj=>hp j (List.mem_cons_of_mem _ hj))
  have hi:=hp i List.mem_cons_self
  have hl:=r.length
  obtain⟨u,h1,h2⟩:=r.get (i:=i) (x:=xs[i]'(by omega)) (by simp)
  show RelV (xs.getD i .non) (us.getD i Value.none)
  rw[zaM h1,zaM (x:=xs[i]'(by omega)) (by simp)]
  exact h2
theorem zhE{ds:List D}{xs:List V}(r:Reps X.K W H ds xs)(p:List Nat)(hp: ∀i∈p,i<ds.length):Reps X.K W H (p.map fun i=>ds.getD i .non) (p.map fun i=>xs.getD i .non):=by
 induction p with
 |nil=>exact .nil
 |cons i p ih=>
  refine .cons ?_ (ih fun j hj=>hp j (List.mem_cons_of_mem _ hj))
  have hi:=hp i List.mem_cons_self
  obtain⟨x,h1,h2⟩:=r.get (i:=i) (d:=ds[i]) (by simp)
  show Rep X.K W H (ds.getD i .non) (xs.getD i .non)
  rw[zaM h1,zaM (x:=ds[i]) (by simp)]
  exact h2
theorem zlJ: ∀{ds:List D} {ks:List (List Int)},tups? ds=some ks->ds=ks.map kT
 |[],ks,e=>by simp[tups?] at e;subst e;rfl
 |d::r,ks,e=>by
  cases d with
  |tup l=>
   simp only[tups?,jo1,jo2] at e
   obtain⟨k,e1,ks',e2,rfl⟩:=e
   rw[zlJ e2,zdb e1];rfl
  |_=>simp[tups?] at e
theorem zlK:CallR X (.builtin "sorted") (VR X.K (zah .sorted)):=by
 rintro pins s σ H xs us Q I rv ⟨W,ds,r,wf,hs,hf,q⟩
 replace hf:zgc ds=some r:=hf
 unfold zgc at hf
 split at hf
 case h_2=>cases hf
 rename_i l
 unfold ziA at hf
 split at hf
 ·rename_i ns e1
  split at hf
  ·rename_i h64
   cases hf
   exact zke (ds:=[.lst l]) I rv hs e1 h64 q
  ·cases hf
 ·rw[jo1] at hf
  obtain⟨ks,e1,hf⟩:=hf
  split at hf
  case isFalse=>cases hf
  rename_i hcond
  cases hf
  obtain⟨h64,hnd,hne⟩:=hcond
  have hne': ∀k∈ks,k≠[]:=fun k hk e=>by
   have:=List.all_eq_true.mp hne k hk
   rw[e] at this;cases this
  cases hs with
  |cons h1 t=>
   cases t
   obtain⟨p,ys,rfl,hp,rp⟩:=h1.lst
   obtain⟨u,rfl,ru⟩:=zhd rv
   cases ru
   obtain⟨its,rv',pl,hz⟩:=I.list hp
   have hT:=ziQ I rp rv' e1
   have hlen:its.length=ks.length:=Paired.length hT
   have hl2:=rp.length
   have hl3:=rv'.length
   let r:Nat->Int:=fun i=>rkT ks (ks.getD i [])
   have memk: ∀i,i<its.length->ks.getD i []∈ks:=fun i hi=>by
    rw[zaM (x:=ks[i]'(by omega)) (by simp)];exact List.getElem_mem _
   have injk: ∀i j,i<its.length->j<its.length->i≠j->ks.getD i []≠ks.getD j []:=fun i j hi hj ne e=>by
    rw[zaM (x:=ks[i]'(by omega)) (by simp),zaM (x:=ks[j]'(by omega)) (by simp)] at e
    exact ne ((List.getElem_inj hnd).mp e)
   have zce: ∀{h':Heap},(∀b o,s.heap.get? b=some o->h'.get? b=some o)->∀{v:Value} {k:List Int},ziP s.heap v k->ziP h' v k:=by
    intro h' hk v k ⟨a,o,i,n,h1,h2,h3⟩
    exact⟨a,o,i,n,h1,hk _ _ h2,h3⟩
   refine zkf (κ:=tuples' (Value.type "int" != Value.type "tuple")) (r:=r) pl.isList (by omega) (fun i j hi hj ne e=>?_) (fun h2 h' tk hk=>?_) (fun i j h' tk C hi hj hk qC=>?_) fun pm tk hpm hup=>?_
   ·rcases zct (injk i j hi hj ne) with z|z
    ·have:=zfO (memk i hi) z
     have e:rkT ks (ks.getD i [])=rkT ks (ks.getD j []):=e
     omega
    ·have:=zfO (memk j hj) z
     have e:rkT ks (ks.getD i [])=rkT ks (ks.getD j []):=e
     omega
   ·obtain⟨fs,f1,f2,f3⟩:=zec (Paired.imp' (fun v k z=>zce hk z) hT) hne'
    exact kat_kind (s:={ s with heap:=h',toks:=tk }) f1 (by omega) (fun v hv=>by obtain⟨i,t,rfl⟩:=f3 v hv;exact Looks.of_pure rfl) (by simp) ⟨rfl,tk,rfl⟩
   ·obtain⟨x1,k1,a1,a2,a3⟩:=zcu hT hi
    obtain⟨x2,k2,b1,b2,b3⟩:=zcu hT hj
    rw[zaM a1,zaM b1]
    obtain⟨a,o,i1,n,rfl,c1,c2,c3,c4⟩:=zce hk a3
    obtain⟨b,o',i2,n',rfl,d1,d2,d3,d4⟩:=zce hk b3
    have er:decide (r i<r j)=LW.lexLt k1 k2:=by
     show decide (rkT ks (ks.getD i [])<rkT ks (ks.getD j []))=_
     by_cases e:i=j
     ·subst e
      rw[a2] at b2;cases b2
      rw[zbl];simp
     ·have:=zgv (memk i hi) (memk j hj) (injk i j hi hj e)
      rw[zaM a2,zaM b2] at this
      rw[zaM a2,zaM b2]
      exact this
    rw[er] at qC
    refine kat_lt (s:={ s with heap:=h',toks:=tk }) c1 c3 d1 d3 ?_
    exact zdf 0 c4 d4 (by simp) (qC tk)
   ·obtain⟨e,he⟩:=sortedAll_at s.heap its (pm.toList.map fun i=>its.getD i Value.none).toArray
    have hlt: ∀i∈pm.toList,i<its.length:=fun i hi=>by
     have:=(Array.perm_iff_toList_perm.mp hpm.perm).mem_iff.mp hi
     simpa using this
    have fr:H (s.heap.objs.size+1)=Option.none:=I.hok.fresh (Nat.le_succ _)
    have hperm:(pm.toList.map fun i=>ks.getD i []).Perm ks:=by
     have h1:=(Array.perm_iff_toList_perm.mp hpm.perm).map fun i=>ks.getD i []
     refine h1.trans (List.Perm.of_eq ?_)
     apply List.ext_getElem
     ·simp[hlen]
     ·intro i h1 h2;simp at h1;simp[h1,h2]
    have hupk:(pm.toList.map fun i=>ks.getD i []).Pairwise zkJ:=by
     rw[List.pairwise_iff_getElem]
     intro i j hi hj hij
     rw[List.length_map,Array.length_toList,hpm.size] at hi hj
     have h1:=hup i j hij (by omega)
     have li:=hpm.lt i hi
     have lj:=hpm.lt j hj
     simp only[List.getElem_map,Array.getElem_toList]
     have gi:pm.getD i 0=pm[i]'(by rw[hpm.size];exact hi):=by simp[Array.getD,hpm.size,hi]
     have gj:pm.getD j 0=pm[j]'(by rw[hpm.size];exact hj):=by simp[Array.getD,hpm.size,hj]
     unfold kk at h1
     rw[gi] at h1 li
     rw[gj] at h1 lj
     have hne:pm[i]'(by rw[hpm.size];exact hi)≠pm[j]'(by rw[hpm.size];exact hj):=fun z=>by rw[z] at h1;omega
     have:=zgv (memk _ li) (memk _ lj) (injk _ _ li lj hne)
     show LW.lexLt _ _=true
     rw[<-this,decide_eq_true_iff]
     exact h1
    have heq:(pm.toList.map fun i=>ks.getD i [])=zc9 ks:=zgu (hperm.trans (zbB ks).symm) hupk (zcQ hnd)
    have hds:(pm.toList.map fun i=>l.getD i .non)=(zc9 ks).map kT:=by
     rw[<-heq,List.map_map]
     apply List.map_congr_left
     intro i hi
     have hi':=hlt i hi
     rw[zlJ e1]
     show (ks.map kT).getD i .non=kT (ks.getD i [])
     rw[zaM (x:=kT (ks[i]'(by omega))) (by simp[show i<ks.length by omega]),zaM (x:=ks[i]'(by omega)) (by simp)]
    have hrep:=zhE rp pm.toList fun i hi=>by have:=hlt i hi;omega
    rw[hds] at hrep
    have hvals:=zhD rv' pm.toList fun i hi=>hlt i hi
    refine⟨.ref (s.heap.objs.size+1),upd H (s.heap.objs.size+1) (.lst (pm.toList.map fun i=>ys.getD i .non)),I.laid (t':=tk) (fun _ _=>sortedAll_old) (Nat.le_succ _) ⟨?_,_,e,hvals,?_⟩,rfl,q _ _ (zaQ fr _) (zcr fr hrep)⟩
    ·rw[List.length_map,Array.length_toList,hpm.size];exact Nat.le_of_lt (zcp (by omega))
    ·simpa [seqObj] using he
end
end L2.LW
set_option maxHeartbeats 4000000
set_option maxHeartbeats 4000000
namespace L2.LW
open PySem PySem.Spec PySem.W PySem.Calls PyProof.Rows
noncomputable def RawD(h:Heap)(d:Addr)(tb:Array DictEntry)(ep:Nat):Prop:=∃o,h.get? d=some o/\o.ExactDict/\o.data= .dict tb ep
theorem RawD.at{h h2:Heap}{d:Addr}{tb:Array DictEntry}{ep:Nat}(x:RawD h d tb ep)(e: ∀o,h.get? d=some o->h2.get? d=some o):RawD h2 d tb ep:=let ⟨o,ho,r⟩:=x;⟨o,e _ ho,r⟩
theorem RawD.lt{h:Heap}{d:Addr}{tb:Array DictEntry}{ep:Nat}(x:RawD h d tb ep):d<h.objs.size:=let ⟨_,ho,_⟩:=x;Heap.lt_size ho
end L2.LW
set_option maxHeartbeats 4000000
namespace L2.LW
open PySem PySem.Spec PySem.W PySem.Calls PyProof.Rows
theorem zce{h h':Heap}(hk: ∀b o,h.get? b=some o->h'.get? b=some o){v:Value}{k:List Int}:ziP h v k->ziP h' v k:=fun ⟨a,o,i,n,h1,h2,h3⟩=>⟨a,o,i,n,h1,hk _ _ h2,h3⟩
theorem zkg{prog:Program}{w:World}{A:Around}{s:Shared}{its:List Value}{ks:List (List Int)}(hT:Paired (ziP s.heap) its ks)(hnd:ks.Nodup)(hne': ∀k∈ks,k≠[]):
  ∃r:Nat->Int,(∀i j,i<its.length->j<its.length->i≠j->r i≠r j)/\
   (2<=its.length->∀h' tk,(∀b o,s.heap.get? b=some o->h'.get? b=some o)->wpAny (model prog w) A (keyKind' its.toArray) (fun κ' s'=>κ'=tuples' (Value.type "int" != Value.type "tuple")/\∃tk',s'={ s with heap:=h',toks:=tk' }) (fun _ _=>False) { s with heap:=h',toks:=tk })/\
   (∀i j h' tk (C:Bool->Shared->Prop),i<its.length->j<its.length->(∀b o,s.heap.get? b=some o->h'.get? b=some o)->(∀tk',C (decide (r i<r j)) { s with heap:=h',toks:=tk' })->
    wpAny (model prog w) A (keyLt' (tuples' (Value.type "int" != Value.type "tuple")) (its.getD i Value.none) (its.getD j Value.none)) C (fun _ _=>False) { s with heap:=h',toks:=tk })/\
   ∀pm,Pm its.length r pm->Up r pm its.length->(pm.toList.map fun i=>ks.getD i [])=zc9 ks/\∀i∈pm.toList,i<its.length:=by
 have hlen:its.length=ks.length:=Paired.length hT
 let r:Nat->Int:=fun i=>rkT ks (ks.getD i [])
 have memk: ∀i,i<its.length->ks.getD i []∈ks:=fun i hi=>by
  rw[zaM (x:=ks[i]'(by omega)) (by simp)];exact List.getElem_mem _
 have injk: ∀i j,i<its.length->j<its.length->i≠j->ks.getD i []≠ks.getD j []:=fun i j hi hj ne e=>by
  rw[zaM (x:=ks[i]'(by omega)) (by simp),zaM (x:=ks[j]'(by omega)) (by simp)] at e
  exact ne ((List.getElem_inj hnd).mp e)
 refine⟨r,fun i j hi hj ne e=>?_,fun h2 h' tk hk=>?_,fun i j h' tk C hi hj hk qC=>?_,fun pm hpm hup=>?_⟩
 ·rcases zct (injk i j hi hj ne) with z|z
  ·have:=zfO (memk i hi) z
   have e:rkT ks (ks.getD i [])=rkT ks (ks.getD j []):=e
   omega
  ·have:=zfO (memk j hj) z
   have e:rkT ks (ks.getD i [])=rkT ks (ks.getD j []):=e
   omega
 ·obtain⟨fs,f1,f2,f3⟩:=zec (Paired.imp' (fun v k z=>zce hk z) hT) hne'
  exact kat_kind (s:={ s with heap:=h',toks:=tk }) f1 (by omega) (fun v hv=>by obtain⟨i,t,rfl⟩:=f3 v hv;exact Looks.of_pure rfl) (by simp) ⟨rfl,tk,rfl⟩
 ·obtain⟨x1,k1,a1,a2,a3⟩:=zcu hT hi
  obtain⟨x2,k2,b1,b2,b3⟩:=zcu hT hj
  rw[zaM a1,zaM b1]
  obtain⟨a,o,i1,n,rfl,c1,c2,c3,c4⟩:=zce hk a3
  obtain⟨b,o',i2,n',rfl,d1,d2,d3,d4⟩:=zce hk b3
  have er:decide (r i<r j)=LW.lexLt k1 k2:=by
   show decide (rkT ks (ks.getD i [])<rkT ks (ks.getD j []))=_
   by_cases e:i=j
   ·subst e
    rw[a2] at b2;cases b2
    rw[zbl];simp
   ·have:=zgv (memk i hi) (memk j hj) (injk i j hi hj e)
    rw[zaM a2,zaM b2] at this
    rw[zaM a2,zaM b2]
    exact this
  rw[er] at qC
  refine kat_lt (s:={ s with heap:=h',toks:=tk }) c1 c3 d1 d3 ?_
  exact zdf 0 c4 d4 (by simp) (qC tk)
 ·have hlt: ∀i∈pm.toList,i<its.length:=fun i hi=>by
   have:=(Array.perm_iff_toList_perm.mp hpm.perm).mem_iff.mp hi
   simpa using this
  have hperm:(pm.toList.map fun i=>ks.getD i []).Perm ks:=by
   have h1:=(Array.perm_iff_toList_perm.mp hpm.perm).map fun i=>ks.getD i []
   refine h1.trans (List.Perm.of_eq ?_)
   apply List.ext_getElem
   ·simp[hlen]
   ·intro i h1 h2;simp at h1;simp[h1,h2]
  have hupk:(pm.toList.map fun i=>ks.getD i []).Pairwise zkJ:=by
   rw[List.pairwise_iff_getElem]
   intro i j hi hj hij
   rw[List.length_map,Array.length_toList,hpm.size] at hi hj
   have h1:=hup i j hij (by omega)
   have li:=hpm.lt i hi
   have lj:=hpm.lt j hj
   simp only[List.getElem_map,Array.getElem_toList]
   have gi:pm.getD i 0=pm[i]'(by rw[hpm.size];exact hi):=by simp[Array.getD,hpm.size,hi]
   have gj:pm.getD j 0=pm[j]'(by rw[hpm.size];exact hj):=by simp[Array.getD,hpm.size,hj]
   unfold kk at h1
   rw[gi] at h1 li
   rw[gj] at h1 lj
   have hne:pm[i]'(by rw[hpm.size];exact hi)≠pm[j]'(by rw[hpm.size];exact hj):=fun z=>by rw[z] at h1;omega
   have:=zgv (memk _ li) (memk _ lj) (injk _ _ li lj hne)
   show LW.lexLt _ _=true
   rw[<-this,decide_eq_true_iff]
   exact h1
  exact⟨zgu (hperm.trans (zbB ks).symm) hupk (zcQ hnd),hlt⟩
section
variable {X:Cx}
theorem zhF{K:PySem.W.Frag}{W:Addr->Prop}{H:Hp}: ∀l:List Int,Reps K W H (l.map D.int) (l.map V.int)
 |[]=>.nil
 |i::r=>.cons (.int i) (zhF r)
end
end L2.LW
set_option maxHeartbeats 4000000
set_option maxHeartbeats 4000000
namespace L2.LW
open PySem PySem.Spec PySem.W PySem.Calls PyProof.Rows
noncomputable def zfj(i:Nat):Int:=reduceHash (Builtin.Tuple.tupleHashOf [hashInt ((i/8:Nat):Int),hashInt ((i%8:Nat):Int)])
theorem zkh:((List.range 64).map zfj).Nodup:=by decide+kernel
theorem zlL{P:Program}{w:World}{a b:Int}(h:0<=a/\a<=7/\0<=b/\b<=7):(a*8+b).toNat<64/\tupleKeyHash (zaS P w) [Sum.inl a,Sum.inl b]=zfj (a*8+b).toNat:=by
 refine⟨by omega,?_⟩
 unfold zfj
 rw[show (((a*8+b).toNat/8:Nat):Int)=a by omega,show (((a*8+b).toNat%8:Nat):Int)=b by omega]
 rfl
noncomputable def ziR(k:List Key):Prop:=∃a b:Int,k=[Sum.inl a,Sum.inl b]/\0<=a/\a<=7/\0<=b/\b<=7
theorem znD{P:Program}{w:World}{k k':List Key}(h:ziR k)(h':ziR k')(e:tupleKeyHash (zaS P w) k=tupleKeyHash (zaS P w) k'):k=k':=by
 obtain⟨a,b,rfl,r⟩:=h
 obtain⟨c,d,rfl,r'⟩:=h'
 obtain⟨l1,e1⟩:=zlL (P:=P) (w:=w) r
 obtain⟨l2,e2⟩:=zlL (P:=P) (w:=w) r'
 rw[e1,e2] at e
 have e3:((List.range 64).map zfj)[(a*8+b).toNat]'(by rw[List.length_map,List.length_range];exact l1)=((List.range 64).map zfj)[(c*8+d).toNat]'(by rw[List.length_map,List.length_range];exact l2):=by simpa using e
 have:=(List.getElem_inj zkh).mp e3
 have ea:a=c:=by omega
 have eb:b=d:=by omega
 rw[ea,eb]
section
variable {prog:Program} {w:World} {K:Type} [DecidableEq K] {knd:HeapKind prog w K} {A:Around} {E:Value->Shared->Prop} {s:Shared}
noncomputable def zpD(xs zs:List (K×Addr×Value)):List (K×Addr×Value):=zs.foldl (fun acc z=>storedH acc z.1 z.2.1 z.2.2) xs
end
end L2.LW
set_option maxHeartbeats 4000000
namespace L2.LW
open PySem PySem.Spec PySem.W PySem.Calls PyProof.Rows
noncomputable def zrP(kvs kvs2:List (List Key×V)):List (List Key×V):=kvs2.foldl (fun acc p=>zfD acc p.1 p.2) kvs
theorem KT.merge{H:Hp}: ∀{kvs2:List (List Key×V)} {zs:List (List Key×Addr×Value)},KT H kvs2 zs->∀{kvs:List (List Key×V)} {xs:List (List Key×Addr×Value)},KT H kvs xs->KT H (zrP kvs kvs2) (zpD xs zs)
 |_,_,.nil,_,_,r=>r
 |_,_,.cons (a:=p) (b:=z) h t,kvs,xs,r=>by
  have r1:KT H (zfD kvs p.1 p.2) (storedH xs z.1 z.2.1 z.2.2):=by
   have e:p.1=z.1:=h.1
   rw[e]
   exact KT.put r z.1 (by rw[<-e];exact h.2.1) h.2.2
  exact KT.merge t r1
end L2.LW
set_option maxHeartbeats 4000000
set_option maxHeartbeats 4000000
set_option maxHeartbeats 4000000
set_option maxHeartbeats 4000000
set_option maxHeartbeats 4000000
namespace L2.LW
open PySem PySem.Spec PySem.W PySem.Calls PyProof.Rows
noncomputable def FlXOk(K:PySem.W.Frag)(cl:Nat->Value)(E:XK)(W:Addr->Prop)(ρ:LW.Env)(σ:St)(W':Addr->Prop)(ρ':LW.Env)(σ':St)(H':Hp)(D:Ends):FlX->Prop
 | .fl f=>FlOk K W ρ σ W' ρ' σ' H' D f
 | .ex c=>E (cl c) Option.none H'
theorem FlXOk.back{K:PySem.W.Frag}{cl:Nat->Value}{E:XK}{W W1 W2:Addr->Prop}{ρ ρ1 ρ2:LW.Env}{σ σ1 σ2:St}{H H1 H2:Hp}{D:Ends}{fl:FlX}(p:SPost K W ρ σ H W1 ρ1 σ1 H1)(h:FlXOk K cl E W ρ σ W2 ρ2 σ2 H2 D fl):FlXOk K cl E W1 ρ1 σ1 W2 ρ2 σ2 H2 D fl:=by
 cases fl with
 |fl f=>exact FlOk.back (ρ2:=ρ2) p h
 |ex c=>exact h
section
variable {X:Cx} {cl:Nat->Value} {E:XK} {fa:Nat->List D->Option Ans} {fuel:Nat} {st:Stmt} {sts sts':List Stmt} {s:S} {t:T} {ts t1 t2:Ts} {e c:Expr} {es:List Expr} {cs:Es} {cc:LW.E} {x y:Str} {p pos:Pos}
noncomputable def tCx(K:PySem.W.Frag)(cl:Nat->Value)(E:XK)(fa:Nat->List D->Option Ans)(i:Nat)(cs:Es):TE:=fun σ H Q=>∃W ρ a,R K W ρ σ H/\zmX fa i cs ρ=some a/\match a with
 | .ok r []=>∀v H',Same H H'->Res K W H H' r v->Q v H'
 | .ok _ _=>False
 | .ex c=>∀H',Same H H'->E (cl c) Option.none H'
section
variable {i:Nat} (hp:PE X e (tCx X.K cl E fa i cs))
include hp
end
end
end L2.LW
set_option maxHeartbeats 4000000
set_option maxHeartbeats 4000000
set_option maxHeartbeats 4000000
namespace L2.LW
open PySem PySem.Spec PySem.W PySem.Calls PyProof.Rows
theorem all_cons{P:Nat->Prop}{a:Nat}{l:List Nat}(h:P a)(t: ∀c∈l,P c): ∀c∈a::l,P c:=fun c hc=>by
 rcases List.mem_cons.mp hc with rfl|hc
 ·exact h
 ·exact t c hc
end L2.LW
set_option maxHeartbeats 4000000
set_option maxRecDepth 100000
set_option maxHeartbeats 4000000
set_option maxHeartbeats 4000000
set_option maxHeartbeats 4000000
set_option maxHeartbeats 4000000
namespace L2.LW
open PySem PySem.Spec PySem.W PySem.Calls PyProof.Rows Builtin Builtin.ObjectAttr Builtin.Getset_descriptor
noncomputable def Lies(x D:Addr)(h:Heap):Prop:=∃o:Obj,h.get? x=some o/\o.cls= .ref D
theorem Lies.ty{x D:Addr}{M:Model}{h:Heap}(I:Lies x D h):Looks M h (typeOf (.ref x)) (.ref D):=by
 obtain⟨o,e1,e2⟩:=I
 exact e2▸(Looks.ld e1).andThen .now
section
variable {prog:Program} {w:World} {A:Around} {E:Value->Shared->Prop} {s:Shared} {K:PySem.W.Frag} {x C D:Addr}
structure Asks (K:PySem.W.Frag)(D:Addr):Prop where
 g:findIn K (.ref D) "__getattribute__"=some (some (.builtin "BaseException.__getattribute__"))
 h:findIn K (.ref D) "__getattr__"=some Option.none
 c:(clsIn K D).isSome=true
 a:findIn K (.ref D) "__class__"=some (some (.builtin "object.__class__"))
 n:specialIn K (.builtin "object.__class__") "__get__"=some (some (.builtin "getset_descriptor.__get__"))
 t:takesIn K (.builtin "object.__class__")=some true
 m:mroIn K D (.type "object")=some true
 e:mroIn K D (.type "BaseException")=some true
theorem Asks.find(Z:Asks K D){M:Model}{h:Heap}(X:K.In h):Looks M h (Builtin.ObjectAttr.find (.ref x) (.ref D) "__class__") (.bind (.builtin "getset_descriptor.__get__") (.builtin "object.__class__")):=
 (looks_findIn X Z.a).andThen ((looks_specialIn X Z.n).andThen ((show Looks M h (dataDescriptor? (some (.builtin "object.__class__")) (some (.builtin "getset_descriptor.__get__"))) (some _) from (looks_takesIn X Z.t).andThen .now).andThen (Looks.tag .now)))
theorem zlM:splitId "BaseException.__getattribute__"=some ("BaseException","__getattribute__"):=by decide+kernel
theorem zjw:builtinKind "BaseException.__getattribute__"=some .slot:=by decide+kernel
theorem zlN:plainId "BaseException.__getattribute__"=true:=by decide+kernel
theorem zlO:entryFor table "BaseException.__getattribute__"=some Builtin.«object.__getattribute__»:=
 entryFor_alias (id':="object.__getattribute__") (by kernel_rfl) (by first|rfl|decide+kernel) (by decide+kernel) (by kernel_rfl)
theorem znE(a b:Value):argsOk "BaseException.__getattribute__" ⟨[a,b],[]⟩:=by unfold argsOk;kernel_rfl
theorem znF(u:Value):bindSpecial (.builtin "BaseException.__getattribute__") u=pure (.builtin "BaseException.__getattribute__",[u]):=by
 have n1:withoutEnding? "BaseException.__getattribute__" "#opaque"=Option.none:=by decide+kernel
 have n2:withoutEnding? "BaseException.__getattribute__" "#data"=Option.none:=by decide+kernel
 simp only[bindSpecial,typeOf,builtinType,n1,n2,zjw]
 rfl
theorem Asks.check(Z:Asks K D){M:Model}{zck:List Value}{Q:Unit->Shared->Prop}(X:K.In s.heap)(I:Lies x D s.heap)(ok:argsOk "BaseException.__getattribute__" ⟨.ref x::zck,[]⟩)(q:Q () s):
  wpAny M A (checkBuiltinCall "BaseException.__getattribute__" ⟨.ref x::zck,[]⟩) Q E s:=by
 obtain⟨hp,gn,dw,tt,os⟩:=s
 have T0:Looks M hp (isInstance (.ref x) (.type "BaseException")) true:=(Lies.ty (M:=M) I).andThen (looks_mroIn X Z.e)
 simp only[checkBuiltinCall,zjw,zlM]
 refine wpAny_bind (T0.at ?_)
 simp only[Bool.not_true,Bool.false_eq_true,if_false]
 cases hs:Manifest.signature? "BaseException.__getattribute__" with
 |none=>exact wpAny_pure q
 |some sg=>
  simp only[argsOk,hs] at ok
  have ok2:Bind.checkArgs "BaseException.__getattribute__" sg ⟨.ref x::zck,[]⟩=pure ():=ok
  show wpAny M A (Bind.checkArgs _ sg _) Q E _
  rw[ok2]
  exact wpAny_pure q
theorem Asks.got(Z:Asks K D){tp:Value}{R:Result->Shared->Prop}(X:K.In s.heap)(I:Lies x D s.heap)(q:R (.ok (.ret (.ref D))) s):
  codeAny (model prog w) A (.call (.builtin "getset_descriptor.__get__") ⟨[.builtin "object.__class__",.ref x,tp],[]⟩) R s:=by
 obtain⟨hp,gn,dw,tt,os⟩:=s
 have T0:Looks (model prog w) hp (typeOf (.ref x)) (.ref D):=Lies.ty I
 have T1:=looks_mroIn (M:=model prog w) X Z.m
 refine codeAny_call_builtin KF.slot_gs.plain KF.entry_gs (KF.slot_gs.check _ _ _ _ _ _ _ _ KF.type_class (KF.args_gs _ _ _) ?_)
 unfold Builtin.«getset_descriptor.__get__» descrGet
 rw[dga_obj]
 refine wpAny_bind (wpAny_pure ?_)
 unfold descrGetter descrCheckInstance descrNameAndClass isInstance
 simp only[KF.owner_class]
 repeat lk
 refine⟨Code.quiet_builtin _ (by decide+kernel),codeAny_builtin KF.entry_class ?_⟩
 unfold Builtin.«object.__class__» shownTypeOf
 repeat lk
 exact q
theorem Asks.entry(Z:Asks K D){tk:Tok}{Q:Fin->Shared->Prop}(X:K.In s.heap)(I:Lies x D s.heap)(q:Q (.done (.ret (.ref D))) s):
  wpAny (model prog w) A (Builtin.«object.__getattribute__» ⟨[.ref x,.str "__class__" tk],[]⟩) Q E s:=by
 obtain⟨hp,gn,dw,tt,os⟩:=s
 have T0:Looks (model prog w) hp (typeOf (.ref x)) (.ref D):=Lies.ty I
 have T1:=Z.find (x:=x) (M:=model prog w) X
 refine wpAny_bind (wpAny_pure (wpAny_bind (wpAny_pure (wpAny_bind (T0.at (wpAny_bind (T1.at ?_)))))))
 show wpAny _ _ (holding [.builtin "object.__class__"] (call (.builtin "getset_descriptor.__get__") [.builtin "object.__class__",.ref x,.ref D]) >>= ret) _ _ _
 exact wpAny_bind (wpAny_holding (wpAny_call (Z.got X I (wpAny_pure q))))
theorem Asks.attr(Z:Asks K D){Q:Option Value->Shared->Prop}(X:K.In s.heap)(I:Lies x D s.heap)(q:Q (some (.ref D)) { s with toks:=s.toks+1 }):wpAny (model prog w) A (getAttr? (.ref x) "__class__") Q E s:=by
 obtain⟨hp,gn,dw,tt,os⟩:=s
 have T0:Looks (model prog w) hp (typeOf (.ref x)) (.ref D):=Lies.ty I
 have T1:=looks_findIn (M:=model prog w) X Z.g
 have T2:=looks_findIn (M:=model prog w) X Z.h
 unfold getAttr? getAttrBy? getAttrBy
 refine wpAny_bind (wpAny_mkText (wpAny_bind (wpAny_attempt (wpAny_holding (wpAny_bind (T0.at (wpAny_bind (T1.at ?_))))))))
 show wpAny _ _ (getAttrByItsOwn _ _ _ _ _ _) _ _ _
 unfold getAttrByItsOwn hookBefore
 refine wpAny_bind (T2.at ?_)
 refine wpAny_bind (wpAny_attempt (wpAny_holding ?_))
 show wpAny _ _ (bindSpecial (.builtin "BaseException.__getattribute__") (.ref x) >>= _) _ _ _
 refine wpAny_bind (wpAny_of_eq (znF _) ?_)
 refine wpAny_call (codeAny_call_builtin zlN zlO (Z.check (s:=⟨hp,gn,dw,tt+1,os⟩) X I (znE _ _) (Z.entry (s:=⟨hp,gn,dw,tt+1,os⟩) X I ?_)))
 exact wpAny_mono (handed_on (Q:=fun v s'=>v= .ref D/\s'=⟨hp,gn,dw,tt+1,os⟩) rfl ⟨rfl,rfl⟩) (fun v s' z=>by obtain⟨rfl,rfl⟩:=z;exact wpAny_pure q) fun _ _ z=>z
theorem isT{M:Model}{h:Heap}{B:Addr}(X:K.In h)(e:(clsIn K B).isSome=true):Looks M h (isType (.ref B)) true:=by
 unfold clsIn at e
 split at e
 case h_2=>cases e
 rename_i ho
 intro A1 Q1 E1 s1 k q
 unfold isType loadHead
 exact wpAny_bind (wpAny_loadPart (k _ _ (X _ _ ho)) (wpAny_pure q))
theorem Asks.nested(Z:Asks K D){c:Value}{dep:Int}{tk:Tok}{Q:Fin->Shared->Prop}(X:K.In s.heap)(I:Lies x D s.heap)(ty:Looks (model prog w) s.heap (typeOf c) (.type "type"))(it:Looks (model prog w) s.heap (isType c) true)
  (ne:(Value.ref D==c)=false) (sb:Looks (model prog w) s.heap (isSubtype (.ref D) c) false) (q:Q (.done (.ret (.bool false))) { s with toks:=s.toks+1 }):
  wpAny (model prog w) A (Builtin.«isinstance.nested» ⟨[.ref x,c,.int dep tk],[]⟩) Q E s:=by
 obtain⟨hp,gn,dw,tt,os⟩:=s
 have T0:Looks (model prog w) hp (typeOf (.ref x)) (.ref D):=Lies.ty I
 have TD:Looks (model prog w) hp (isType (.ref D)) true:=isT X Z.c
 have TI:Looks (model prog w) hp (isInstance (.ref x) c) false:=T0.andThen sb
 unfold Builtin.«isinstance.nested»
 refine wpAny_bind (T0.at ?_)
 rw[if_neg (by rw[ne];decide)]
 refine wpAny_bind (ty.at ?_)
 rw[if_pos (by decide)]
 k_delta "plainIsInstance"
 refine wpAny_bind (wpAny_bind (it.at ?_))
 simp only[Bool.not_true,Bool.false_eq_true,if_false]
 refine wpAny_bind (TI.at ?_)
 simp only[Bool.false_eq_true,if_false]
 refine wpAny_bind (Z.attr X I ?_)
 refine wpAny_bind (TD.at ?_)
 simp only[Bool.not_true,Bool.false_eq_true,if_false]
 refine wpAny_bind (wpAny_rule ?_)
 refine sb.at ?_
 first
  |exact wpAny_pure q
  |exact wpAny_pure (wpAny_pure q)
  |exact wpAny_bind (wpAny_pure (wpAny_pure q))
theorem Asks.not(Z:Asks K D){Q:Value->Shared->Prop}(X:K.In s.heap)(I:Lies x D s.heap)(e:kin_not K D C=true)(q:Q (.bool false) { s with toks:=s.toks+1 }):wpAny (model prog w) A (call (.builtin "isinstance") [.ref x,.ref C]) Q E s:=by
 unfold kin_not at e
 simp only[Bool.and_eq_true,decide_eq_true_eq,beq_iff_eq] at e
 obtain⟨⟨⟨e0,e1⟩,e2⟩,e3⟩:=e
 refine call_isinstance (S:=fun _ R s=>(K.In s.heap/\Lies x D s.heap)/\R (.ok (.ret (.bool false))) { s with toks:=s.toks+1 }) (fun _ _ _ _ _ hs=>isinstance_outer (Z.nested hs.1.1 hs.1.2 (looks_typeIn hs.1.1 e2) (isT hs.1.1 e1) ?_ (looks_subIn hs.1.1 e3) hs.2) (by intro z;cases z)) ⟨⟨X,I⟩,q⟩
 exact Bool.eq_false_iff.mpr fun z=>e0 (Value.ref.inj (beq_iff_eq.mp z))
end
end L2.LW
set_option maxHeartbeats 4000000
namespace L2.LW
open PySem PySem.Spec PySem.W PySem.Calls PyProof.Rows
noncomputable def zvT(K:PySem.W.Frag)(D:Addr):Bool:=findIn K (.ref D) "__getattribute__"==some (some (.builtin "BaseException.__getattribute__"))&&findIn K (.ref D) "__getattr__"==some Option.none&&(clsIn K D).isSome&&findIn K (.ref D) "__class__"==some (some (.builtin "object.__class__"))&&specialIn K (.builtin "object.__class__") "__get__"==some (some (.builtin "getset_descriptor.__get__"))&&
 takesIn K (.builtin "object.__class__")==some true&&mroIn K D (.type "object")==some true&&mroIn K D (.type "BaseException")==some true
noncomputable def apart(K:PySem.W.Frag)(CL:Nat->Addr)(cs:List Nat):Bool:=cs.all fun c=>zvT K (CL c)&&cs.all fun d=>c==d||kin_not K (CL c) (CL d)
end L2.LW
set_option maxHeartbeats 4000000
namespace L2.LW.ST
open PySem PySem.SetTable
noncomputable def lcg(m i:Nat):Nat:=(i*5+1)%(m+1)
noncomputable def it(m:Nat):Nat->Nat->Nat
 |0,i=>i
 |n+1,i=>it m n (lcg m i)
theorem zhG{m:Nat}: ∀(a b i:Nat),it m (a+b) i=it m b (it m a i)
 |0,b,i=>by rw[Nat.zero_add];rfl
 |a+1,b,i=>by rw[Nat.add_right_comm];exact zhG a b (lcg m i)
noncomputable def orb(m:Nat):List Nat:=(List.range (m+1)).map fun b=>it m b 0
noncomputable def Full(m:Nat):Prop:=(∀s,s<=m->∃b,b<=m/\it m b 0=s)/\it m (m+1) 0=0
noncomputable def zrQ(m:Nat):Bool:=((List.range (m+1)).all fun s=>(orb m).contains s)&&it m (m+1) 0==0
theorem ziS{m:Nat}(h:zrQ m=true):Full m:=by
 unfold zrQ at h
 rw[Bool.and_eq_true,beq_iff_eq,List.all_eq_true] at h
 refine⟨fun s hs=>?_,h.2⟩
 have h1:=h.1 s (List.mem_range.mpr (by omega))
 simp only[orb,List.contains_iff_mem,List.mem_map,List.mem_range] at h1
 obtain⟨b,h2,h3⟩:=h1
 exact⟨b,by omega,h3⟩
theorem full7:Full 7:=ziS (by decide+kernel)
theorem full31:Full 31:=ziS (by decide+kernel)
theorem full127:Full 127:=ziS (by decide+kernel)
theorem Full.all{m:Nat}(F:Full m){i s:Nat}(hi:i<=m)(hs:s<=m): ∃j,j<=m/\it m j i=s:=by
 obtain⟨a,a1,a2⟩:=F.1 i hi
 obtain⟨b,b1,b2⟩:=F.1 s hs
 by_cases h:a<=b
 ·refine⟨b-a,by omega,?_⟩
  rw[<-a2,<-zhG,show a+(b-a)=b by omega];exact b2
 ·refine⟨b+(m+1)-a,by omega,?_⟩
  rw[<-a2,<-zhG,show a+(b+(m+1)-a)=(m+1)+b by omega,zhG,F.2];exact b2
noncomputable def base(m:Nat)(b:Nat):Nat->Nat×Nat
 |0=>(b%(m+1),b)
 |k+1=>SetTable.leap m (base m b k).1 (base m b k).2
theorem zhH(m b:Nat): ∀k,(base m b k).2=b/32 ^ k
 |0=>by simp[base]
 |k+1=>by
  show (base m b k).2/32=_
  rw[zhH m b k,Nat.div_div_eq_div_mul,Nat.pow_succ]
theorem zpE(m b:Nat): ∀k,(base m b k).1<=m
 |0=>Nat.le_of_lt_succ (Nat.mod_lt b (Nat.succ_pos m))
 |k+1=>Nat.le_of_lt_succ (Nat.mod_lt ((base m b k).1*5+1+(base m b k).2/32) (Nat.succ_pos m))
theorem zjx{m b:Nat}(hb:b<2 ^ 64): ∀j,(base m b (13+j)).1=it m j (base m b 13).1
 |0=>rfl
 |j+1=>by
  have e:it m (j+1) (base m b 13).1=lcg m (it m j (base m b 13).1):=by rw[zhG j 1];rfl
  rw[e,<-zjx hb j]
  show ((base m b (13+j)).1*5+1+(base m b (13+j)).2/32)%(m+1)=_
  rw[zhH,show b/32 ^ (13+j)=0 from Nat.div_eq_of_lt (Nat.lt_of_lt_of_le hb (by
   rw[show (2:Nat) ^ 64=2 ^ 64 from rfl]
   exact Nat.le_trans (by decide:2 ^ 64<=32 ^ 13) (Nat.pow_le_pow_right (by decide) (by omega))))]
  rfl
theorem zjy{m b s:Nat}(F:Full m)(hb:b<2 ^ 64)(hs:s<=m): ∃k,k<=13+m/\(base m b k).1=s:=by
 obtain⟨j,h1,h2⟩:=F.all (zpE m b 13) hs
 exact⟨13+j,by omega,by rw[zjx hb];exact h2⟩
noncomputable def adv(t:SetTable):Nat->Probe->Probe
 |0,p=>p
 |n+1,p=>adv t n (t.advance p)
theorem zdg{t:SetTable}: ∀(a b:Nat) (p:Probe),adv t (a+b) p=adv t b (adv t a p)
 |0,b,p=>by rw[Nat.zero_add];rfl
 |a+1,b,p=>by rw[Nat.add_right_comm];exact zdg a b (t.advance p)
theorem zgw{t:SetTable}{p:Probe}: ∀n,n<=p.more->adv t n p={ p with j:=p.j+n,more:=p.more-n }
 |0,_=>rfl
 |n+1,h=>by
  rw[zdg n 1,zgw n (by omega)]
  show t.advance _=_
  unfold SetTable.advance
  rw[if_pos (show p.more-n>0 by omega)]
  simp only[Probe.mk.injEq,and_true,true_and]
  omega
noncomputable def at_(t:SetTable)(d:Option Nat)(q:Nat×Nat):Probe:={ j:=q.1,more:=runEnd t.mask q.1-q.1,i:=q.1,perturb:=q.2,dummy:=d }
theorem zlP{m i:Nat}:runEnd m i-i<=9:=by unfold runEnd;split<;>omega
theorem zjz(t:SetTable)(h:Int): ∀k,∃n,n<=10*k/\adv t n (t.probeStart h)=at_ t none (base t.mask (bits h) k)
 |0=>⟨0,Nat.le_refl _,rfl⟩
 |k+1=>by
  obtain⟨n,h1,h2⟩:=zjz t h k
  have ml:=zlP (m:=t.mask) (i:=(base t.mask (bits h) k).1)
  refine⟨n+(runEnd t.mask (base t.mask (bits h) k).1-(base t.mask (bits h) k).1)+1,by omega,?_⟩
  rw[zdg,zdg,h2,zgw (p:=at_ t none (base t.mask (bits h) k)) (runEnd t.mask (base t.mask (bits h) k).1-(base t.mask (bits h) k).1) (Nat.le_refl _)]
  show t.advance _=_
  unfold SetTable.advance
  rw[if_neg (by simp[at_])]
  rfl
theorem zpF{t:SetTable}{h:Int}{s:Nat}(F:Full t.mask)(hs:s<=t.mask): ∃n,n<10*turns t.mask/\(adv t n (t.probeStart h)).j=s:=by
 have hb:bits h<2 ^ 64:=by
  unfold bits
  have:=Int.emod_lt_of_pos h (show (0:Int)<2 ^ 64 by decide)
  have:=Int.emod_nonneg h (show (2 ^ 64:Int)≠0 by decide)
  omega
 obtain⟨k,h1,h2⟩:=zjy (b:=bits h) F hb hs
 obtain⟨n,h3,h4⟩:=zjz t h k
 refine⟨n,by unfold turns;omega,?_⟩
 rw[h4];exact h2
end L2.LW.ST
set_option maxHeartbeats 4000000
namespace L2.LW.ST
open PySem PySem.SetTable
noncomputable def Ris(l:List Nat):Prop:=∀i j:Nat,i<j->∀a b,l[i]? =some a->l[j]? =some b->a<b
theorem zgx{l:List Nat}{x:Nat}: ∀(fuel lo hi:Nat),hi<=lo+fuel->lo<=hi->hi<=l.length->(∀k a,k<lo->l[k]? =some a->a<x)->(∀k a,hi<=k->l[k]? =some a->x<=a)->Ris l->
  ∃r,below.go l.toArray x fuel lo hi=r/\r<=l.length/\(∀k a,k<r->l[k]? =some a->a<x)/\∀k a,r<=k->l[k]? =some a->x<=a
 |0,lo,hi,h1,h2,h3,h4,h5,_=>⟨lo,rfl,by omega,h4,fun k a hk=>h5 k a (by omega)⟩
 |fuel+1,lo,hi,h1,h2,h3,h4,h5,hr=>by
  unfold below.go
  by_cases hl:lo<hi
  ·rw[if_pos hl]
   have hm:(lo+hi)/2<l.length:=by omega
   obtain⟨a,ha⟩: ∃a,l[(lo+hi)/2]? =some a:=⟨_,List.getElem?_eq_getElem hm⟩
   have hg:l.toArray.getD ((lo+hi)/2) x=a:=by
    rw[Array.getD_eq_getD_getElem?,List.getElem?_toArray,ha];rfl
   show ∃r,(if l.toArray.getD ((lo+hi)/2) x<x then below.go l.toArray x fuel ((lo+hi)/2+1) hi else below.go l.toArray x fuel lo ((lo+hi)/2))=r/\_
   rw[hg]
   by_cases hx:a<x
   ·rw[if_pos hx]
    refine zgx fuel _ hi (by omega) (by omega) h3 (fun k b hk hb=>?_) h5 hr
    by_cases e:k=(lo+hi)/2
    ·subst e;rw[ha] at hb;cases hb;exact hx
    ·have:=hr k ((lo+hi)/2) (by omega) b a hb ha;omega
   ·rw[if_neg hx]
    refine zgx fuel lo _ (by omega) (by omega) (by omega) h4 (fun k b hk hb=>?_) hr
    by_cases e:k=(lo+hi)/2
    ·subst e;rw[ha] at hb;cases hb;omega
    ·have:=hr ((lo+hi)/2) k (by omega) a b ha hb;omega
  ·rw[if_neg hl]
   exact⟨lo,rfl,by omega,h4,fun k a hk=>h5 k a (by omega)⟩
theorem below_is{l:List Nat}(hr:Ris l)(x:Nat): ∃r,below l.toArray x=r/\r<=l.length/\(∀k a,k<r->l[k]? =some a->a<x)/\∀k a,r<=k->l[k]? =some a->x<=a:=by
 refine zgx (l:=l) (x:=x) l.toArray.size 0 l.toArray.size (by omega) (by omega) (by simp) (fun k a hk=>by omega) (fun k a hk ha=>?_) hr
 rw[List.getElem?_eq_none (by simpa using hk)] at ha;cases ha
theorem znG{l:List Nat}(hr:Ris l){x q:Nat}(h:l[q]? =some x):below l.toArray x=q:=by
 obtain⟨r,e,h1,h2,h3⟩:=below_is hr x
 rw[e]
 have a1:r<=q:=Nat.le_of_not_lt fun z=>absurd (h2 q x z h) (Nat.lt_irrefl x)
 rcases Nat.lt_or_ge r q with z|z
 ·obtain⟨b,hb⟩: ∃b,l[r]? =some b:=⟨_,List.getElem?_eq_getElem (Nat.lt_trans z (List.getElem?_eq_some_iff.mp h).1)⟩
  have:=hr r q z b x hb h
  have:=h3 r b (Nat.le_refl _) hb
  omega
 ·omega
structure Tb (t:SetTable)(pl:List Nat)(hs:List Int):Prop where
 full:Full t.mask
 dum:t.dummies= #[]
 plc:t.place=pl.toArray
 ris:Ris pl
 len:pl.length=hs.length
 le: ∀x∈pl,x<=t.mask
 nd:hs.Nodup
 room:hs.length<=t.mask
theorem zhI{t:SetTable}{pl:List Nat}{hs:List Int}(T:Tb t pl hs){x q:Nat}(h:pl[q]? =some x):t.slot x= .live q:=by
 unfold SetTable.slot
 have e:below t.place x=q:=by rw[T.plc];exact znG T.ris h
 simp only[e]
 rw[if_pos (by rw[T.plc,List.getElem?_toArray,h];exact beq_self_eq_true _)]
theorem zki{t:SetTable}{pl:List Nat}{hs:List Int}(T:Tb t pl hs){x:Nat}(h:x∉pl):t.slot x= .empty:=by
 unfold SetTable.slot
 simp only
 rw[if_neg,if_neg]
 ·rw[T.dum];unfold has;simp
 ·rw[T.plc]
  intro z
  rw[beq_iff_eq,List.getElem?_toArray] at z
  exact h (List.mem_of_getElem? z)
theorem zrR{P:Nat->Prop}: ∀{n:Nat},P n->∃m,m<=n/\P m/\∀k,k<m->¬P k
 |n,h=>by
  induction n using Nat.strongRecOn with
  |_ n ih=>
   by_cases e: ∃k,k<n/\P k
   ·obtain⟨k,h1,h2⟩:=e
    obtain⟨m,a,b,c⟩:=ih k h1 h2
    exact⟨m,by omega,b,c⟩
   ·exact⟨n,Nat.le_refl _,h,fun k hk z=>e ⟨k,hk,z⟩⟩
theorem zhJ{l:List Nat}: ∀{n:Nat},(∀s,s<n->s∈l)->n<=l.length
 |n,h=>by
  induction n generalizing l with
  |zero=>exact Nat.zero_le _
  |succ n ih=>
   have hm:=h n (Nat.lt_succ_self n)
   have:=ih (l:=l.erase n) fun s hs=>(List.mem_erase_of_ne (by omega)).mpr (h s (by omega))
   rw[List.length_erase_of_mem hm] at this
   have:=List.length_pos_of_mem hm
   omega
theorem zhK{t:SetTable}: ∀(n:Nat) (p:Probe),(adv t n p).dummy=p.dummy
 |0,p=>rfl
 |n+1,p=>by
  show (adv t n (t.advance p)).dummy=_
  rw[zhK n]
  unfold SetTable.advance
  split<;>rfl
theorem zoz{m i:Nat}(h:i<=m):i+(runEnd m i-i)<=m:=by unfold runEnd;split<;>omega
theorem zoA{t:SetTable}: ∀(n:Nat) (p:Probe),p.j+p.more<=t.mask->(adv t n p).j+(adv t n p).more<=t.mask
 |0,p,h=>h
 |n+1,p,h=>by
  refine zoA n (t.advance p) ?_
  unfold SetTable.advance
  split
  ·show p.j+1+(p.more-1)<=_;omega
  ·exact zoz (Nat.le_of_lt_succ (Nat.mod_lt _ (Nat.succ_pos _)))
theorem zlQ(t:SetTable)(h:Int)(n:Nat):(adv t n (t.probeStart h)).j<=t.mask:=
 Nat.le_trans (Nat.le_add_right _ _) (zoA n (t.probeStart h) (zoz (Nat.le_of_lt_succ (Nat.mod_lt _ (Nat.succ_pos _)))))
theorem zgy{t t':SetTable}(e:t.mask=t'.mask): ∀(n:Nat) (p:Probe),adv t n p=adv t' n p
 |0,_=>rfl
 |n+1,p=>by
  show adv t n (t.advance p)=adv t' n (t'.advance p)
  have:t.advance p=t'.advance p:=by unfold SetTable.advance;rw[e]
  rw[this];exact zgy e n _
theorem zpG{t:SetTable}{ha:Nat->Int}{h:Int}: ∀(n fuel:Nat) (p:Probe),n<fuel->p.dummy=none->(∀k,k<n->∃i,t.slot (adv t k p).j= .live i/\ha i≠h)->
  (t.slot (adv t n p).j= .empty->probe.go t ha h fuel p=some (.empty (adv t n p).j none))/\
  ∀i,t.slot (adv t n p).j= .live i->ha i=h->probe.go t ha h fuel p=some (.candidate (adv t n p).j i (t.advance (adv t n p)))
 |0,fuel+1,p,_,hd,_=>by
  unfold probe.go
  refine⟨fun e=>?_,fun i e q=>?_⟩
  ·have e:t.slot p.j= .empty:=e
   rw[e];simp only[hd];rfl
  ·have e:t.slot p.j= .live i:=e
   rw[e];simp only
   rw[if_pos (beq_iff_eq.mpr q)];rfl
 |n+1,fuel+1,p,hf,hd,hk=>by
  obtain⟨i,e1,e2⟩:=hk 0 (Nat.succ_pos n)
  have e1:t.slot p.j= .live i:=e1
  have ih:=zpG (t:=t) (ha:=ha) (h:=h) n fuel (t.advance p) (by omega) ((zhK 1 p).trans hd) fun k hn=>hk (k+1) (by omega)
  have st:probe.go t ha h (fuel+1) p=probe.go t ha h fuel (t.advance p):=by
   rw[probe.go,e1]
   simp only
   rw[if_neg (fun z=>e2 (beq_iff_eq.mp z))]
  rw[st]
  exact ih
noncomputable def Reach(t:SetTable)(pl:List Nat)(h:Int)(x:Nat):Prop:=∃n,n<10*turns t.mask/\(adv t n (t.probeStart h)).j=x/\∀k,k<n->(adv t k (t.probeStart h)).j∈pl
noncomputable def Found(t:SetTable)(pl:List Nat)(hs:List Int):Prop:=∀xh∈pl.zip hs,Reach t pl xh.2 xh.1
section
variable {t:SetTable} {pl:List Nat} {hs:List Int} {h:Int} {x q:Nat}
noncomputable def hat(hs:List Int)(i:Nat):Int:=hs[i]?.getD 0
theorem zlR(T:Tb t pl hs)(hx:x∈pl): ∃q g,pl[q]? =some x/\hs[q]? =some g/\t.slot x= .live q/\hat hs q=g:=by
 obtain⟨q,hq,e⟩:=List.mem_iff_getElem.mp hx
 have e1:pl[q]? =some x:=by rw[List.getElem?_eq_getElem hq,e]
 have h2:q<hs.length:=by rw[<-T.len];exact hq
 exact⟨q,hs[q],e1,List.getElem?_eq_getElem h2,zhI T e1,by unfold hat;rw[List.getElem?_eq_getElem h2];rfl⟩
theorem probe_new(T:Tb t pl hs)(hn:h∉hs): ∃j,j<=t.mask/\j∉pl/\Reach t pl h j/\t.probe (hat hs) h (t.probeStart h)=some (.empty j none):=by
 have hs0: ∃s,s<=t.mask/\s∉pl:=by
  refine Classical.byContradiction fun z=>?_
  have:=zhJ (l:=pl) (n:=t.mask+1) fun s hs=>Classical.byContradiction fun y=>z ⟨s,by omega,y⟩
  have:=T.len
  have:=T.room
  omega
 obtain⟨s,s1,s2⟩:=hs0
 obtain⟨n0,n1,n2⟩:=zpF (t:=t) (h:=h) T.full s1
 obtain⟨n,m1,m2,m3⟩:=zrR (P:=fun n=>(adv t n (t.probeStart h)).j∉pl) (n:=n0) (by simpa only[n2] using s2)
 have m3': ∀k,k<n->(adv t k (t.probeStart h)).j∈pl:=fun k hk=>Classical.byContradiction (m3 k hk)
 refine⟨_,zlQ t h n,m2,⟨n,by omega,rfl,m3'⟩,?_⟩
 refine (zpG n (10*turns t.mask) (t.probeStart h) (by omega) rfl fun k hk=>?_).1 (zki T m2)
 obtain⟨q,g,e1,e2,e3,e4⟩:=zlR T (m3' k hk)
 exact⟨q,e3,fun z=>hn (by rw[<-z,e4];exact List.mem_of_getElem? e2)⟩
theorem probe_old(T:Tb t pl hs)(F:Found t pl hs)(hx:pl[q]? =some x)(hh:hs[q]? =some h): ∃nx,t.probe (hat hs) h (t.probeStart h)=some (.candidate x q nx):=by
 have hz:(x,h)∈pl.zip hs:=List.mem_of_getElem? (i:=q) (by rw[List.getElem?_zip_eq_some];exact⟨hx,hh⟩)
 obtain⟨n0,n1,n2,n3⟩:=F _ hz
 obtain⟨n,m1,m2,m3⟩:=zrR (P:=fun n=>(adv t n (t.probeStart h)).j=x) (n:=n0) n2
 refine⟨_,by
  have:=(zpG (ha:=hat hs) (h:=h) n (10*turns t.mask) (t.probeStart h) (by omega) rfl fun k hk=>?_).2 q (by rw[m2];exact zhI T hx) (by unfold hat;rw[hh];rfl)
  ·rw[m2] at this;exact this
  ·obtain⟨q2,g,e1,e2,e3,e4⟩:=zlR T (n3 k (by omega))
   refine⟨q2,e3,fun z=>m3 k hk ?_⟩
   rw[z] at e4
   subst e4
   obtain⟨l1,w1⟩:=List.getElem?_eq_some_iff.mp hh
   obtain⟨l2,w2⟩:=List.getElem?_eq_some_iff.mp e2
   have:q2=q:=(List.getElem_inj T.nd).mp (w2.trans w1.symm)
   subst this
   rw[hx] at e1
   exact (Option.some.inj e1).symm⟩
theorem Reach.more(R:Reach t pl h x){pl':List Nat}(s: ∀y∈pl,y∈pl'){t':SetTable}(e:t.mask=t'.mask):Reach t' pl' h x:=by
 obtain⟨n,a,b,c⟩:=R
 have st:t.probeStart h=t'.probeStart h:=by unfold probeStart;rw[e]
 refine⟨n,by rw[<-e];exact a,by rw[<-st,<-zgy e];exact b,fun k hk=>?_⟩
 rw[<-st,<-zgy e]
 exact s _ (c k hk)
end
end L2.LW.ST
set_option maxHeartbeats 4000000
namespace L2.LW.ST
open PySem PySem.SetTable
section
variable {t:SetTable} {pl:List Nat} {hs:List Int} {h:Int} {j:Nat}
noncomputable def ins{α:Type}(l:List α)(p:Nat)(x:α):List α:=l.take p++x::l.drop p
theorem insertAt_eq{α:Type}(l:List α)(p:Nat)(x:α):insertAt l.toArray p x=(ins l p x).toArray:=by
 unfold insertAt ins
 apply Array.ext'
 simp[List.take_of_length_le]
theorem ins_len{α:Type}{l:List α}{p:Nat}{x:α}(h:p<=l.length):(ins l p x).length=l.length+1:=by
 unfold ins;simp;omega
theorem mem_ins{α:Type}{l:List α}{p:Nat}{x y:α}:y∈ins l p x↔y=x\/y∈l:=by
 unfold ins
 rw[List.mem_append,List.mem_cons]
 constructor
 ·rintro (h|h|h)
  ·exact .inr (List.mem_of_mem_take h)
  ·exact .inl h
  ·exact .inr (List.mem_of_mem_drop h)
 ·rintro (h|h)
  ·exact .inr (.inl h)
  ·rw[<-List.take_append_drop p l,List.mem_append] at h
   rcases h with h|h
   ·exact .inl h
   ·exact .inr (.inr h)
theorem ins_get{α:Type}{l:List α}{p k:Nat}{x:α}(h:p<=l.length):(ins l p x)[k]? =if k<p then l[k]? else if k=p then some x else l[k-1]? :=by
 unfold ins
 rw[List.getElem?_append,List.length_take,Nat.min_eq_left h]
 by_cases h1:k<p
 ·rw[if_pos h1,if_pos h1,List.getElem?_take,if_pos h1]
 ·rw[if_neg h1,if_neg h1]
  by_cases h2:k=p
  ·rw[if_pos h2,h2,Nat.sub_self];rfl
  ·rw[if_neg h2]
   obtain⟨m,rfl⟩: ∃m,k=p+1+m:=⟨k-(p+1),by omega⟩
   rw[show p+1+m-p=m+1 by omega,List.getElem?_cons_succ,List.getElem?_drop,show p+1+m-1=p+m by omega]
theorem zpH{l:List Nat}{m:List Int}{p:Nat}{x:Nat}{y:Int}(e:l.length=m.length)(h:p<=l.length):(ins l p x).zip (ins m p y)=ins (l.zip m) p (x,y):=by
 unfold ins
 rw[List.zip_append (by rw[List.length_take,List.length_take];omega),List.zip_cons_cons]
 simp only[List.zip,List.take_zipWith,List.drop_zipWith]
theorem put_ok(T:Tb t pl hs)(F:Found t pl hs)(hn:h∉hs)(jm:j<=t.mask)(jn:j∉pl)(R:Reach t pl h j)(room:hs.length+1<=t.mask):
  ∃p,p<=pl.length/\below t.place j=p/\t.put j=({ t with place:=(ins pl p j).toArray },p)/\Tb { t with place:=(ins pl p j).toArray } (ins pl p j) (ins hs p h)/\Found { t with place:=(ins pl p j).toArray } (ins pl p j) (ins hs p h):=by
 obtain⟨p,e0,h1,h2,h3⟩:=below_is T.ris j
 have e:below t.place j=p:=by rw[T.plc];exact e0
 have hp:p<=hs.length:=by rw[<-T.len];exact h1
 refine⟨p,h1,e,?_,⟨T.full,T.dum,rfl,?_,by rw[ins_len h1,ins_len hp,T.len],fun x hx=>?_,?_,by rw[ins_len hp];exact room⟩,fun xh hx=>?_⟩
 ·unfold SetTable.put
  simp only[e]
  rw[T.plc,insertAt_eq,T.dum]
  have:has (#[]:Array Nat) j=false:=by unfold has;simp
  rw[this]
  simp
 ·intro i k hik a b ha hb
  rw[ins_get h1] at ha hb
  by_cases i1:i<p
  ·rw[if_pos i1] at ha
   by_cases k1:k<p
   ·rw[if_pos k1] at hb;exact T.ris i k hik a b ha hb
   ·rw[if_neg k1] at hb
    have ai:=h2 i a i1 ha
    by_cases k2:k=p
    ·rw[if_pos k2] at hb;cases hb;exact ai
    ·rw[if_neg k2] at hb
     have:=h3 (k-1) b (by omega) hb
     omega
  ·rw[if_neg i1] at ha
   rw[if_neg (by omega),if_neg (by omega)] at hb
   by_cases i2:i=p
   ·rw[if_pos i2] at ha
    cases ha
    have:=h3 (k-1) b (by omega) hb
    rcases Nat.lt_or_eq_of_le this with z|z
    ·exact z
    ·exact absurd (z▸List.mem_of_getElem? hb) jn
   ·rw[if_neg i2] at ha
    exact T.ris (i-1) (k-1) (by omega) a b ha hb
 ·rcases mem_ins.mp hx with rfl|hx
  ·exact jm
  ·exact T.le x hx
 ·unfold ins
  have nd:=T.nd
  rw[<-List.take_append_drop p hs] at nd hn
  rw[List.nodup_append] at nd⊢
  rw[List.mem_append,not_or] at hn
  refine⟨nd.1,List.nodup_cons.mpr ⟨hn.2,nd.2.1⟩,fun a ha b hb=>?_⟩
  rcases List.mem_cons.mp hb with rfl|hb
  ·exact fun z=>hn.1 (z▸ha)
  ·exact nd.2.2 a ha b hb
 ·rw[zpH T.len h1] at hx
  rcases mem_ins.mp hx with rfl|hx
  ·exact R.more (fun y hy=>mem_ins.mpr (.inr hy)) rfl
  ·exact (F xh hx).more (fun y hy=>mem_ins.mpr (.inr hy)) rfl
end
end L2.LW.ST
set_option maxHeartbeats 4000000
namespace L2.LW.ST
open PySem PySem.SetTable
noncomputable def Oc(ow:Array (Option Nat))(x:Nat):Prop:=(ow.getD x (some 0)).isNone=false
section
variable {t:SetTable} {h:Int} {ow:Array (Option Nat)}
theorem zlS: ∀(fuel k n:Nat),n<=10*k->adv t n (t.probeStart h)=at_ t none (base t.mask (bits h) k)->(∀r,r<n->Oc ow (adv t r (t.probeStart h)).j)->
  (∃K,k<=K/\K<k+fuel/\¬Oc ow (base t.mask (bits h) K).1)->
  ∃j n',layClean.free t.mask ow fuel (base t.mask (bits h) k).1 (base t.mask (bits h) k).2=some j/\¬Oc ow j/\n'<10*(k+fuel)/\(adv t n' (t.probeStart h)).j=j/\∀r,r<n'->Oc ow (adv t r (t.probeStart h)).j
 |0,k,n,_,_,_,hK=>by obtain⟨K,a,b,_⟩:=hK;omega
 |fuel+1,k,n,hn,ha,ho,hK=>by
  have ml:=zlP (m:=t.mask) (i:=(base t.mask (bits h) k).1)
  have run: ∀d,d<=runEnd t.mask (base t.mask (bits h) k).1-(base t.mask (bits h) k).1->(adv t (n+d) (t.probeStart h)).j=(base t.mask (bits h) k).1+d:=fun d hd=>by
   rw[zdg,ha,zgw (p:=at_ t none (base t.mask (bits h) k)) d hd];rfl
  have le:(base t.mask (bits h) k).1<=runEnd t.mask (base t.mask (bits h) k).1:=by unfold runEnd;split<;>omega
  unfold layClean.free
  cases hf:(List.range (runEnd t.mask (base t.mask (bits h) k).1+1-(base t.mask (bits h) k).1)).find? fun d=>(ow.getD ((base t.mask (bits h) k).1+d) (some 0)).isNone with
  |some d=>
   rw[List.find?_range_eq_some] at hf
   obtain⟨f1,f2,f3⟩:=hf
   rw[List.mem_range] at f2
   refine⟨_,n+d,rfl,fun z=>?_,by omega,run d (by omega),fun r hr=>?_⟩
   ·unfold Oc at z;rw[f1] at z;cases z
   ·by_cases c:r<n
    ·exact ho r c
    ·obtain⟨e,rfl⟩: ∃e,r=n+e:=⟨r-n,by omega⟩
     rw[run e (by omega)]
     have:=f3 e (by omega)
     unfold Oc
     simpa using this
  |none=>
   rw[List.find?_range_eq_none] at hf
   have all: ∀d,d<=runEnd t.mask (base t.mask (bits h) k).1-(base t.mask (bits h) k).1->Oc ow ((base t.mask (bits h) k).1+d):=fun d hd=>by
    have:=hf d (by omega)
    unfold Oc
    simpa using this
   obtain⟨K,a,b,c⟩:=hK
   have ne:K≠k:=fun z=>c (by subst z;exact all 0 (Nat.zero_le _))
   have:=zlS fuel (k+1) (n+(runEnd t.mask (base t.mask (bits h) k).1-(base t.mask (bits h) k).1)+1) (by omega) (by
    rw[zdg,zdg,ha,zgw (p:=at_ t none (base t.mask (bits h) k)) (runEnd t.mask (base t.mask (bits h) k).1-(base t.mask (bits h) k).1) (Nat.le_refl _)]
    show t.advance _=_
    unfold SetTable.advance
    rw[if_neg (by simp[at_])]
    rfl) (fun r hr=>by
     by_cases c:r<n
     ·exact ho r c
     ·obtain⟨e,rfl⟩: ∃e,r=n+e:=⟨r-n,by omega⟩
      rw[run e (by omega)]
      exact all e (by omega)) ⟨K,by omega,by omega,c⟩
   obtain⟨j,n',w1,w2,w3,w4,w5⟩:=this
   exact⟨j,n',w1,w2,by omega,w4,w5⟩
end
structure Lay (t:SetTable)(ow:Array (Option Nat))(sl:List Nat)(hs:List Int):Prop where
 size:ow.size=t.mask+1
 len:sl.length=hs.length
 at_: ∀x q:Nat,ow[x]? =some (some q)↔sl[q]? =some x
 le: ∀x∈sl,x<=t.mask
 nd:sl.Nodup
 rc: ∀xh∈sl.zip hs,Reach t sl xh.2 xh.1
section
variable {t:SetTable} {ow:Array (Option Nat)} {sl:List Nat} {hs:List Int}
theorem Lay.oc(L:Lay t ow sl hs){x:Nat}(hx:x<=t.mask):Oc ow x↔x∈sl:=by
 have hs1:x<ow.size:=by rw[L.size];omega
 unfold Oc
 rw[Array.getD_eq_getD_getElem?,Array.getElem?_eq_getElem hs1]
 show (ow[x]).isNone=false↔_
 constructor
 ·intro h
  cases e:ow[x] with
  |none=>rw[e] at h;cases h
  |some q=>exact List.mem_of_getElem? ((L.at_ x q).mp (by rw[Array.getElem?_eq_getElem hs1,e]))
 ·intro h
  obtain⟨q,hq,e⟩:=List.mem_iff_getElem.mp h
  have:=(L.at_ x q).mpr (by rw[List.getElem?_eq_getElem hq,e])
  rw[Array.getElem?_eq_getElem hs1] at this
  rw[Option.some.inj this];rfl
theorem znH(L:Lay t ow sl hs)(F:Full t.mask)(hl:sl.length<=t.mask)(h:Int):
  ∃j,layClean.free t.mask ow (turns t.mask) (bits h%(t.mask+1)) (bits h)=some j/\Lay t (ow.setIfInBounds j (some sl.length)) (sl++[j]) (hs++[h]):=by
 have hs0: ∃s,s<=t.mask/\s∉sl:=by
  refine Classical.byContradiction fun z=>?_
  have:=zhJ (l:=sl) (n:=t.mask+1) fun s hs=>Classical.byContradiction fun y=>z ⟨s,by omega,y⟩
  omega
 obtain⟨s,s1,s2⟩:=hs0
 have hb:bits h<2 ^ 64:=by
  unfold bits
  have:=Int.emod_lt_of_pos h (show (0:Int)<2 ^ 64 by decide)
  have:=Int.emod_nonneg h (show (2 ^ 64:Int)≠0 by decide)
  omega
 obtain⟨K,k1,k2⟩:=zjy (b:=bits h) F hb s1
 obtain⟨j,n,w1,w2,w3,w4,w5⟩:=zlS (t:=t) (h:=h) (ow:=ow) (turns t.mask) 0 0 (Nat.le_refl _) rfl (fun r hr=>by omega) ⟨K,Nat.zero_le _,by unfold turns;omega,by rw[k2];exact fun z=>s2 ((L.oc s1).mp z)⟩
 have jm:j<=t.mask:=by rw[<-w4];exact zlQ t h n
 have jn:j∉sl:=fun z=>w2 ((L.oc jm).mpr z)
 have js:j<ow.size:=by rw[L.size];omega
 have rj:Reach t sl h j:=⟨n,by simpa using w3,w4,fun k hk=>(L.oc (zlQ t h k)).mp (w5 k hk)⟩
 refine⟨j,w1,⟨by simp[L.size],by simp[L.len],fun x q=>?_,fun x hx=>?_,?_,fun xh hx=>?_⟩⟩
 ·rw[Array.getElem?_setIfInBounds]
  by_cases e:j=x
  ·subst e
   rw[if_pos rfl,if_pos js]
   constructor
   ·intro z
    cases z
    rw[List.getElem?_append_right (Nat.le_refl _),Nat.sub_self];rfl
   ·intro z
    rw[List.getElem?_append] at z
    split at z
    ·exact absurd (List.mem_of_getElem? z) jn
    ·rename_i c
     have:=(List.getElem?_eq_some_iff.mp z).1
     simp only[List.length_singleton] at this
     have:q=sl.length:=by omega
     rw[this]
  ·rw[if_neg e,L.at_]
   constructor
   ·intro z
    rw[List.getElem?_append_left (List.getElem?_eq_some_iff.mp z).1];exact z
   ·intro z
    rw[List.getElem?_append] at z
    split at z
    ·exact z
    ·rename_i c
     have:=List.mem_of_getElem? z
     rw[List.mem_singleton] at this
     exact absurd this.symm e
 ·rcases List.mem_append.mp hx with hx|hx
  ·exact L.le x hx
  ·rw[List.mem_singleton] at hx;rw[hx];exact jm
 ·rw[List.nodup_append]
  exact⟨L.nd,by simp,fun a ha b hb=>by rw[List.mem_singleton] at hb;rw[hb];exact fun z=>jn (z▸ha)⟩
 ·rw[List.zip_append L.len] at hx
  rcases List.mem_append.mp hx with hx|hx
  ·exact (L.rc xh hx).more (fun y hy=>List.mem_append_left _ hy) rfl
  ·have:xh=(j,h):=by simpa using hx
   rw[this]
   exact rj.more (fun y hy=>List.mem_append_left _ hy) rfl
theorem zjA(F:Full t.mask): ∀(zck:List Int) (ow:Array (Option Nat)) (sl:List Nat) (hs:List Int),Lay t ow sl hs->hs.length+zck.length<=t.mask->
  ∃ow' sl',(zck.foldl (fun (acc:Option (Array (Option Nat)×Nat)) h=>do
   let (owner,k) <-acc
   let j <-layClean.free t.mask owner (turns t.mask) (bits h%(t.mask+1)) (bits h)
   pure (owner.setIfInBounds j (some k),k+1)) (some (ow,sl.length)))=some (ow',sl'.length)/\Lay t ow' sl' (hs++zck)
 |[],ow,sl,hs,L,_=>⟨ow,sl,rfl,by rw[List.append_nil];exact L⟩
 |h::zck,ow,sl,hs,L,hl=>by
  rw[List.length_cons] at hl
  obtain⟨j,e,L'⟩:=znH L F (by rw[L.len];omega) h
  obtain⟨ow',sl',e2,L2⟩:=zjA F zck _ _ _ L' (by simp;omega)
  refine⟨ow',sl',?_,by rw[List.append_assoc] at L2;exact L2⟩
  rw[List.foldl_cons]
  rw[List.length_append,List.length_singleton] at e2
  rw[<-e2]
  congr 1
  show (layClean.free t.mask ow (turns t.mask) (bits h%(t.mask+1)) (bits h)).bind _=_
  rw[e];rfl
end
end L2.LW.ST
set_option maxHeartbeats 4000000
namespace L2.LW.ST
open PySem PySem.SetTable
theorem zlT(hs:List Int):(List.range hs.length).map (hat hs)=hs:=by
 apply List.ext_getElem
 ·simp
 ·intro i h1 h2
  simp[hat,List.getElem?_eq_getElem h2]
theorem laid_ok{m fg mv:Nat}{ld pn:Bool}(F:Full m){hs:List Int}(nd:hs.Nodup)(hl:hs.length<=m):
  ∃lv:List (Nat×Nat),laid m fg mv ld pn hs.toArray=some ({ mask:=m,place:=(lv.map (·.1)).toArray,dummies:= #[],finger:=fg,led:=ld,moves:=mv,plain:=pn },(lv.map (·.2)).toArray)/\
   Tb { mask:=m,place:=(lv.map (·.1)).toArray,dummies:= #[],finger:=fg,led:=ld,moves:=mv,plain:=pn } (lv.map (·.1)) ((lv.map (·.2)).map (hat hs))/\
   Found { mask:=m,place:=(lv.map (·.1)).toArray,dummies:= #[],finger:=fg,led:=ld,moves:=mv,plain:=pn } (lv.map (·.1)) ((lv.map (·.2)).map (hat hs))/\(lv.map (·.2)).Perm (List.range hs.length):=by
 let t0:SetTable:={ mask:=m,place:= #[],dummies:= #[],finger:=fg,led:=ld,moves:=mv,plain:=pn }
 have L0:Lay t0 (Array.replicate (m+1) none) [] []:=by
  refine⟨by simp[t0],rfl,fun x q=>?_,fun x hx=>(nomatch hx),List.nodup_nil,fun x hx=>(nomatch hx)⟩
  rw[Array.getElem?_replicate]
  constructor
  ·intro z;split at z<;>cases z
  ·intro z;cases z
 obtain⟨ow,sl,e1,L⟩:=zjA (t:=t0) F hs _ _ _ L0 (by simpa using hl)
 rw[List.nil_append] at L
 have e2:layClean m hs.toArray=some ow:=by
  unfold layClean
  rw[<-Array.foldl_toList]
  have e1':=e1
  simp only[List.length_nil] at e1'
  exact (congrArg (Option.map (·.1)) e1').trans rfl
 let lv:List (Nat×Nat):=(List.range (m+1)).filterMap fun j=>(ow.getD j none).map (j,·)
 have mem: ∀x q,(x,q)∈lv↔sl[q]? =some x:=fun x q=>by
  rw[<-L.at_]
  simp only[lv,List.mem_filterMap,List.mem_range,jo2,Prod.mk.injEq]
  constructor
  ·rintro⟨j,h1,q2,h2,rfl,rfl⟩
   rw[Array.getD_eq_getD_getElem?] at h2
   cases e:ow[j]? with
   |none=>rw[e] at h2;cases h2
   |some o=>rw[e] at h2;have h2:o=some q2:=h2;rw[h2]
  ·intro h
   have hx:x<ow.size:=(Array.getElem?_eq_some_iff.mp h).1
   refine⟨x,by rw[L.size] at hx;exact hx,q,?_,rfl,rfl⟩
   rw[Array.getD_eq_getD_getElem?,h];rfl
 have pw:lv.Pairwise fun a b=>a.1<b.1:=by
  rw[List.pairwise_filterMap]
  refine List.pairwise_lt_range.imp fun {a b} hab c hc d hd=>?_
  obtain⟨_,_,rfl⟩:=jo2.mp hc
  obtain⟨_,_,rfl⟩:=jo2.mp hd
  exact hab
 have lt: ∀x q,sl[q]? =some x->q<hs.length:=fun x q h=>by rw[<-L.len];exact (List.getElem?_eq_some_iff.mp h).1
 have nd2:(lv.map (·.2)).Nodup:=by
  unfold List.Nodup
  rw[List.pairwise_map]
  refine pw.imp_of_mem fun {a b} ha hb hab z=>?_
  have h1:=(mem a.1 a.2).mp ha
  have h2:=(mem b.1 b.2).mp hb
  have z:a.2=b.2:=z
  rw[z,h2] at h1
  have:=Option.some.inj h1
  omega
 have pm:(lv.map (·.2)).Perm (List.range hs.length):=by
  rw[List.perm_ext_iff_of_nodup nd2 List.nodup_range]
  intro q
  rw[List.mem_map,List.mem_range]
  constructor
  ·rintro⟨z,hz,rfl⟩;exact lt _ _ ((mem z.1 z.2).mp hz)
  ·intro hq
   have hq':q<sl.length:=by rw[L.len];exact hq
   exact⟨(sl[q],q),(mem _ _).mpr (List.getElem?_eq_getElem hq'),rfl⟩
 refine⟨lv,?_,⟨F,rfl,rfl,?_,by simp,fun x hx=>?_,?_,?_⟩,fun xh hx=>?_,pm⟩
 ·unfold laid
  rw[e2];rfl
 ·intro i j hij a b ha hb
  have p2:(lv.map (·.1)).Pairwise (· < ·):=by rw[List.pairwise_map];exact pw
  obtain⟨l1,w1⟩:=List.getElem?_eq_some_iff.mp ha
  obtain⟨l2,w2⟩:=List.getElem?_eq_some_iff.mp hb
  have:=List.pairwise_iff_getElem.mp p2 i j l1 l2 hij
  rw[w1,w2] at this;exact this
 ·obtain⟨z,hz,rfl⟩:=List.mem_map.mp hx
  exact L.le _ (List.mem_of_getElem? ((mem z.1 z.2).mp hz))
 ·have:=(pm.map (hat hs)).nodup_iff
  rw[zlT] at this
  exact this.mpr nd
 ·rw[List.length_map,pm.length_eq,List.length_range];exact hl
 ·obtain⟨i,hi,e⟩:=List.mem_iff_getElem.mp hx
  have hi1:i<lv.length:=by simpa using hi
  have e3:xh=(lv[i].1,hat hs lv[i].2):=by rw[<-e];simp
  have hm:=(mem lv[i].1 lv[i].2).mp (List.getElem_mem hi1)
  have hq:=lt _ _ hm
  have hh:hs[lv[i].2]? =some (hat hs lv[i].2):=by unfold hat;rw[List.getElem?_eq_getElem hq];rfl
  rw[e3]
  refine (L.rc (lv[i].1,hat hs lv[i].2) (List.mem_of_getElem? (i:=lv[i].2) (by rw[List.getElem?_zip_eq_some];exact⟨hm,hh⟩))).more (fun y hy=>?_) rfl
  obtain⟨q,hq2,e4⟩:=List.mem_iff_getElem.mp hy
  exact List.mem_map.mpr ⟨(y,q),(mem y q).mpr (by rw[List.getElem?_eq_getElem hq2,e4]),rfl⟩
end L2.LW.ST
set_option maxHeartbeats 4000000
namespace L2.LW
open PySem PySem.Spec PySem.W PySem.Calls PyProof.Rows
noncomputable def zba(w:World):Bool:=w.params.followText "set-order"
structure Plain2 {prog:Program}{w:World}{K:Type}[DecidableEq K](knd:HeapKind prog w K)(nice:K->Prop):Prop where
 nocls: ∀{A:Around} {E:Value->Shared->Prop} {s:Shared} {k:K} {a:Addr} {Q:Bool->Shared->Prop},knd.is s.heap k a->Q false s->wpAny (model prog w) A (ofAClassStatement 8 (.ref a)) Q E s
 byval: ∀{A:Around} {E:Value->Shared->Prop} {s:Shared} {k:K} {a:Addr} {Q:Bool->Shared->Prop},knd.is s.heap k a->(∀b,(nice k->b=true)->Q b s)->wpAny (model prog w) A (hashByValue 8 (.ref a)) Q E s
 keep: ∀{h h':Heap} {k:K} {a d:Addr} {o:Obj} {es ep t},knd.is h k a->h.get? d=some o->o.data= .set es ep t->Heap.SameBut d h h'->knd.is h' k a
section
variable {prog:Program} {w:World} {K:Type} [DecidableEq K] {knd:HeapKind prog w K} {nice:K->Prop} {A:Around} {E:Value->Shared->Prop} {s:Shared}
noncomputable def zmY(knd:HeapKind prog w K)(z:K×Addr):Int×Value:=(knd.hash z.1,.ref z.2)
noncomputable def hsC(knd:HeapKind prog w K)(xs:List (K×Addr)):List Int:=xs.map fun z=>knd.hash z.1
theorem zed{α β:Type}{M:Model}{f:α->β->Sem (ForInStep β)}{b0:β}: ∀(ys:List α) {Q:β->Shared->Prop},(∀y∈ys,∀Q1:ForInStep β->Shared->Prop,Q1 (.yield b0) s->wpAny M A (f y b0) Q1 E s)->Q b0 s->wpAny M A (forIn ys b0 f) Q E s
 |[],Q,_,q=>wpAny_pure q
 |y::ys,Q,h,q=>by
  rw[List.forIn_cons]
  exact wpAny_bind (h y (List.mem_cons_self ..) _ (zed ys (fun z hz=>h z (List.mem_cons_of_mem _ hz)) q))
theorem zrS(P:Plain2 knd nice){k:K}{b:Addr}(hb:knd.is s.heap k b)(ys:List Value){Q:Bool->Shared->Prop}(hy: ∀y∈ys,∃(k':K) (c:Addr),y= .ref c/\knd.is s.heap k' c)(q:Q false s):
  wpAny (model prog w) A (searchCouldBeSeen (.ref b) ys) Q E s:=by
 unfold searchCouldBeSeen
 refine wpAny_bind (zed ys (fun y hm Q1 q1=>?_) (wpAny_pure q))
 obtain⟨k',c,rfl,hc⟩:=hy y hm
 dsimp only
 split
 ·exact wpAny_pure q1
 ·refine wpAny_bind (knd.quiet hb ?_)
  rw[if_neg (by decide)]
  refine wpAny_bind (knd.quiet hc ?_)
  rw[if_neg (by decide)]
  refine wpAny_bind (P.nocls hb ?_)
  rw[if_neg (by decide)]
  refine wpAny_bind (P.nocls hc ?_)
  rw[if_neg (by decide)]
  exact wpAny_pure q1
theorem zgz{t:SetTable}{pl:List Nat}{hs:List Int}{es:Array (Int×Value)}(T:ST.Tb t pl hs)(e:es.toList.length=hs.length):t.fits es.size=true:=by
 unfold SetTable.fits SetTable.fill
 rw[T.plc,T.dum]
 simp only[List.size_toArray,Bool.and_eq_true,beq_iff_eq,decide_eq_true_eq]
 rw[<-Array.length_toList,e,T.len]
 exact⟨rfl,by simpa using T.room⟩
theorem zlU(P:Plain2 knd nice){a:Addr}{o:Obj}{es:Array (Int×Value)}{ep:Nat}{t:SetTable}{pl:List Nat}{xs:List (K×Addr)}{k:K}{b:Addr}{Q:SetFound->Shared->Prop}
  (ho:s.heap.get? a=some o) (hd:o.data= .set es ep t) (he:es.toList=xs.map (zmY knd)) (al: ∀z∈xs,knd.is s.heap z.1 z.2) (T:ST.Tb t pl (hsC knd xs)) (F:ST.Found t pl (hsC knd xs)) (odd:t.gaveWay=false)
  (hu:knd.room A) (hb:knd.is s.heap k b) (inj: ∀z∈xs,knd.hash z.1=knd.hash k->z.1=k)
  (qn:(∀z∈xs,z.1≠k)->∀j,j<=t.mask->j∉pl->ST.Reach t pl (knd.hash k) j->Q (.free j false) s) (qo:(∃z∈xs,z.1=k)->Q (.there none) s):
  wpAny (model prog w) A (setSearch a (.ref b) (knd.hash k) true) Q E s:=by
 have fit:=zgz (es:=es) T (by rw[he];simp[hsC])
 have hat: ∀i,(es[i]?.map (·.1)).getD 0=ST.hat (hsC knd xs) i:=fun i=>by
  unfold ST.hat hsC
  rw[<-Array.getElem?_toList,he,List.getElem?_map,List.getElem?_map]
  cases xs[i]? <;>rfl
 show wpAny _ _ (setSearchFrom a (.ref b) (knd.hash k) true (99999+1) none) _ _ _
 rw[setSearchFrom]
 refine wpAny_bind (wpAny_setState_of ho hd fit ?_)
 dsimp only
 rw[odd,if_neg (by decide)]
 by_cases hk: ∃z∈xs,z.1=k
 ·obtain⟨z,hz,rfl⟩:=hk
  obtain⟨q,hq,ez⟩:=List.mem_iff_getElem.mp hz
  have e1:xs[q]? =some z:=by rw[List.getElem?_eq_getElem hq,ez]
  have hpl:q<pl.length:=by rw[T.len];simpa [hsC] using hq
  obtain⟨nx,pr⟩:=ST.probe_old T F (List.getElem?_eq_getElem hpl) (show (hsC knd xs)[q]? =some (knd.hash z.1) by unfold hsC;rw[List.getElem?_map,e1];rfl)
  split
  case h_2 z2=>exact (z2 _ ((congrArg (fun g=>t.probe g (knd.hash z.1) (t.probeStart (knd.hash z.1))) (funext fun i=>hat i)).trans pr)).elim
  rename_i met z2
  have em:met= .candidate pl[q] q nx:=by
   have:=((congrArg (fun g=>t.probe g (knd.hash z.1) (t.probeStart (knd.hash z.1))) (funext fun i=>hat i)).symm.trans z2).symm.trans pr
   exact Option.some.inj this
  subst em
  dsimp only
  have e2:es[q]? =some (knd.hash z.1,.ref z.2):=by rw[<-Array.getElem?_toList,he,List.getElem?_map,e1];rfl
  have ys: ∀y∈((es.filter (·.1==knd.hash z.1)).toList.map (·.2)),∃(k':K) (c:Addr),y= .ref c/\knd.is s.heap k' c:=fun y hy=>by
   obtain⟨e,h1,rfl⟩:=List.mem_map.mp hy
   rw[Array.toList_filter,List.mem_filter,he,List.mem_map] at h1
   obtain⟨⟨z3,h3,rfl⟩,_⟩:=h1
   exact⟨z3.1,z3.2,rfl,al z3 h3⟩
  have q0:=qo ⟨z,hz,rfl⟩
  split
  ·refine wpAny_bind (zrS P hb _ ys ?_)
   rw[if_neg (by decide),e2]
   refine wpAny_bind (wpAny_holding (knd.eqBool hu (al z hz) hb ?_))
   refine wpAny_bind (wpAny_setState_of ho hd fit ?_)
   rw[if_pos (by simp)]
   exact wpAny_pure q0
  ·rw[e2]
   refine wpAny_bind (wpAny_holding (knd.eqBool hu (al z hz) hb ?_))
   refine wpAny_bind (wpAny_setState_of ho hd fit ?_)
   rw[if_pos (by simp)]
   exact wpAny_pure q0
 ·have nk: ∀z∈xs,z.1≠k:=fun z hz e=>hk ⟨z,hz,e⟩
  have nh:knd.hash k∉hsC knd xs:=fun z=>by
   obtain⟨z1,h1,h2⟩:=List.mem_map.mp z
   exact nk z1 h1 (inj z1 h1 h2)
  obtain⟨j,j1,j2,j3,pr⟩:=ST.probe_new T nh
  split
  case h_2 z2=>exact (z2 _ ((congrArg (fun g=>t.probe g (knd.hash k) (t.probeStart (knd.hash k))) (funext fun i=>hat i)).trans pr)).elim
  rename_i met z2
  have em:met= .empty j none:=by
   have:=((congrArg (fun g=>t.probe g (knd.hash k) (t.probeStart (knd.hash k))) (funext fun i=>hat i)).symm.trans z2).symm.trans pr
   exact Option.some.inj this
  subst em
  exact wpAny_pure (qn nk j j1 j2 j3)
noncomputable def Roomy(t:SetTable)(n:Nat):Prop:=(t.mask=7/\n<=4)\/(t.mask=31/\n<=18)\/(t.mask=127/\n<=76)
structure SetC (knd:HeapKind prog w K)(nice:K->Prop)(h:Heap)(a:Addr)(xs:List (K×Addr)):Prop where
 ex: ∃o es ep t pl,h.get? a=some o/\o.ExactSet/\o.data= .set es ep t/\es.toList=xs.map (zmY knd)/\ST.Tb t pl (hsC knd xs)/\ST.Found t pl (hsC knd xs)/\Roomy t xs.length/\t.led=(!zba w)/\((∀z∈xs,nice z.1)->t.plain=true)
 al: ∀z∈xs,knd.is h z.1 z.2
theorem Roomy.odd{t:SetTable}{n:Nat}(r:Roomy t n):t.gaveWay=false:=by
 unfold SetTable.gaveWay
 rcases r with ⟨e,_⟩|⟨e,_⟩|⟨e,_⟩<;>rw[e]<;>rfl
theorem zrT{h:Heap}{a:Addr}{o:Obj}{es es':Array (Int×Value)}{ep:Nat}{t t':SetTable}(ho:h.get? a=some o)(hd:o.data= .set es ep t):
  (h.update a (Obj.putSet es' t')).get? a=some { o with data:=.set es' (ep+1) t' }:=by
 have z:=Heap.get?_update_self (Obj.putSet es' t') ho (by rw[putSet_of es' t' hd];rfl)
 rw[putSet_of es' t' hd] at z
 exact z
theorem zlV(xs:List (K×Addr)): ∀l:List Nat,(∀q∈l,q<xs.length)->hsC knd (l.filterMap (xs[·]?))=l.map (ST.hat (hsC knd xs))
 |[],_=>rfl
 |q::l,h=>by
  have hq:=h q (List.mem_cons_self ..)
  have ih:=zlV xs l fun z hz=>h z (List.mem_cons_of_mem _ hz)
  rw[List.filterMap_cons,List.getElem?_eq_getElem hq]
  show knd.hash (xs[q]).1::hsC knd _=_
  rw[ih,List.map_cons]
  congr 1
  unfold ST.hat hsC
  rw[List.getElem?_map,List.getElem?_eq_getElem hq];rfl
theorem zhL{α:Type}(xs:List α): ∀n:Nat,(List.range n).filterMap (xs[·]?)=xs.take n
 |0=>by simp
 |n+1=>by
  rw[List.range_succ,List.filterMap_append,zhL xs n,List.take_add_one]
  congr 1
theorem znI{α:Type}(xs:List α):(List.range xs.length).filterMap (xs[·]?)=xs:=by rw[zhL,List.take_length]
theorem znJ(P:Plain2 knd nice){a:Addr}{o:Obj}{es:Array (Int×Value)}{ep:Nat}{t:SetTable}{xs:List (K×Addr)}{n m:Nat}{Q:Unit->Shared->Prop}
  (ho:s.heap.get? a=some o) (hx:o.ExactSet) (hd:o.data= .set es ep t) (he:es.toList=xs.map (zmY knd)) (al: ∀z∈xs,knd.is s.heap z.1 z.2) (fit:t.fits es.size=true) (nd:(hsC knd xs).Nodup)
  (hm:SetTable.sizeAbove n=m+1) (F:ST.Full m) (hl:xs.length<=m) (big:m+1<=1000) (ro: ∀t':SetTable,t'.mask=m->Roomy t' xs.length) (fl:t.led=(!zba w)) (fp:(∀z∈xs,nice z.1)->t.plain=true)
  (q: ∀h' ys,ys.Perm xs->SetC knd nice h' a ys->Heap.SameBut a s.heap h'->Q () { s with heap:=h' }):wpAny (model prog w) A (setRelay a n) Q E s:=by
 unfold setRelay
 refine wpAny_bind (wpAny_setState_of ho hd fit ?_)
 dsimp only
 rw[hm,if_neg (by rw[sizeLine_eq];omega)]
 have eh:es.map (·.1)=(hsC knd xs).toArray:=by
  apply Array.ext'
  rw[Array.toList_map,he,List.map_map];rfl
 obtain⟨lv,e1,T,Fd,pm⟩:=ST.laid_ok (m:=m) (fg:=t.finger) (mv:=t.movedTo m) (ld:=t.led) (pn:=t.plain) F nd (by simpa [hsC] using hl)
 obtain⟨t2,e1,T,Fd,em,el,ep2⟩: ∃t2,SetTable.laid m t.finger (t.movedTo m) t.led t.plain (hsC knd xs).toArray=some (t2,(lv.map (·.2)).toArray)/\ST.Tb t2 (lv.map (·.1)) ((lv.map (·.2)).map (ST.hat (hsC knd xs)))/\
   ST.Found t2 (lv.map (·.1)) ((lv.map (·.2)).map (ST.hat (hsC knd xs)))/\t2.mask=m/\t2.led=t.led/\t2.plain=t.plain:=⟨_,e1,T,Fd,rfl,rfl,rfl⟩
 have er:t.relaid (es.map (·.1)) n=some (t2,(lv.map (·.2)).toArray):=by
  unfold SetTable.relaid
  rw[hm,Nat.add_sub_cancel,eh]
  exact e1
 have lq: ∀q∈lv.map (·.2),q<xs.length:=fun q hq=>by simpa [hsC] using pm.mem_iff.mp hq
 have py:((lv.map (·.2)).filterMap (xs[·]?)).Perm xs:=by
  have:=pm.filterMap (xs[·]?)
  rw[show (hsC knd xs).length=xs.length by simp[hsC],znI] at this
  exact this
 have hy:hsC knd ((lv.map (·.2)).filterMap (xs[·]?))=(lv.map (·.2)).map (ST.hat (hsC knd xs)):=zlV xs _ lq
 have e2:(lv.map (·.2)).toArray.filterMap (es[·]?)=(((lv.map (·.2)).filterMap (xs[·]?)).map (zmY knd)).toArray:=by
  apply Array.ext'
  rw[Array.toList_filterMap,List.map_filterMap]
  congr 1
  funext q
  rw[<-Array.getElem?_toList,he,List.getElem?_map]
 have sz:((lv.map (·.2)).toArray.filterMap (es[·]?)).size=es.size:=by
  rw[e2,List.size_toArray,List.length_map,py.length_eq,<-Array.length_toList,he,List.length_map]
 rw[er]
 refine wpAny_bind (wpAny_of_eq (a:=((lv.map (·.2)).toArray.filterMap (es[·]?),t2)) ?_ ?_)
 ·show (if (((lv.map (·.2)).toArray.filterMap (es[·]?)).size != es.size)=true then (_:Sem (Array (Int×Value)×SetTable)) else _)=_
  rw[if_neg (by rw[sz];simp)]
 ·dsimp only
  refine wpAny_storeSet_of ho hd ?_ (by rw[sz,<-Array.length_toList,he,List.length_map,sizeLine_eq];omega)
  refine q _ _ py ⟨⟨_,_,_,t2,lv.map (·.1),zrT ho hd,hx,rfl,by rw[e2],by rw[hy];exact T,by rw[hy];exact Fd,by rw[py.length_eq];exact ro t2 em,by rw[el];exact fl,fun hn=>by rw[ep2];exact fp fun z hz=>hn z (py.mem_iff.mpr hz)⟩,fun z hz=>?_⟩ (Heap.SameBut.update ..)
  exact P.keep (al z (py.mem_iff.mp hz)) ho hd (Heap.SameBut.update ..)
theorem znK{t:SetTable}{pl:List Nat}{hs:List Int}(T:ST.Tb t pl hs)(F:ST.Found t pl hs)(v:Bool):ST.Tb { t with plain:=v } pl hs/\ST.Found { t with plain:=v } pl hs:=
 ⟨⟨T.full,T.dum,T.plc,T.ris,T.len,T.le,T.nd,T.room⟩,fun xh hx=>(F xh hx).more (fun _ z=>z) rfl⟩
theorem zlW{xs:List (K×Addr)}{p:Nat}{z:K×Addr}:hsC knd (ST.ins xs p z)=ST.ins (hsC knd xs) p (knd.hash z.1):=by
 unfold hsC ST.ins
 rw[List.map_append,List.map_cons,List.map_take,List.map_drop]
theorem znL{α:Type}(xs:List α)(p:Nat)(z:α):(ST.ins xs p z).Perm (z::xs):=by
 unfold ST.ins
 refine List.perm_middle.trans (List.Perm.cons _ ?_)
 rw[List.take_append_drop]
theorem zrU(P:Plain2 knd nice){a:Addr}{xs:List (K×Addr)}{k:K}{b:Addr}{Q:Bool->Shared->Prop}(S:SetC knd nice s.heap a xs)(hu:knd.room A)(hb:knd.is s.heap k b)(inj: ∀z∈xs,knd.hash z.1=knd.hash k->z.1=k)(few:xs.length<76)
  (qo:(∃z∈xs,z.1=k)->Q false s) (qn:(∀z∈xs,z.1≠k)->∀h' ys,ys.Perm ((k,b)::xs)->SetC knd nice h' a ys->Heap.SameBut a s.heap h'->Q true { s with heap:=h' }):
  wpAny (model prog w) A (setAddHashed a (.ref b) (knd.hash k)) Q E s:=by
 obtain⟨⟨o,es,ep,t,pl,ho,hx,hd,he,T,F,ro,fl,fp⟩,al⟩:=S
 have fit:=zgz (es:=es) T (by rw[he];simp[hsC])
 have esz:es.size=xs.length:=by rw[<-Array.length_toList,he,List.length_map]
 unfold setAddHashed
 refine wpAny_holding ?_
 show wpAny _ _ (setAddHashedIn a (.ref b) (knd.hash k) (99999+1)) _ _ _
 rw[setAddHashedIn]
 refine wpAny_bind (wpAny_setState_of ho hd fit ?_)
 dsimp only
 rw[if_neg (show ¬(byScan (.ref b) es=true) from fun z=>by cases z)]
 refine wpAny_bind (zlU P ho hd he al T F ro.odd hu hb inj (fun nk j jm jn R=>?_) fun ok=>wpAny_pure (qo ok))
 have nh:knd.hash k∉hsC knd xs:=fun z=>by
  obtain⟨z1,h1,h2⟩:=List.mem_map.mp z
  exact nk z1 h1 (inj z1 h1 h2)
 have rm:(hsC knd xs).length+1<=t.mask:=by
  have:(hsC knd xs).length=xs.length:=by simp[hsC]
  rcases ro with ⟨e,h⟩|⟨e,h⟩|⟨e,h⟩<;>omega
 obtain⟨p,p1,p2,p3,T1,F1⟩:=ST.put_ok T F nh jm jn R rm
 dsimp only
 refine wpAny_bind (wpAny_setState_of ho hd fit ?_)
 dsimp only
 rw[p3]
 dsimp only
 have ei:SetTable.insertAt es p (knd.hash k,Value.ref b)=((ST.ins xs p (k,b)).map (zmY knd)).toArray:=by
  obtain⟨l⟩:=es
  have he:l=xs.map (zmY knd):=he
  rw[he,ST.insertAt_eq]
  unfold ST.ins
  rw[List.map_append,List.map_cons,List.map_take,List.map_drop]
  rfl
 have pz:p<=xs.length:=by rw[T.len] at p1;simpa [hsC] using p1
 have al1: ∀z∈ST.ins xs p (k,b),knd.is s.heap z.1 z.2:=fun z hz=>by
  rcases ST.mem_ins.mp hz with rfl|hz
  ·exact hb
  ·exact al z hz
 have pm:=znL xs p (k,b)
 have nd1:(hsC knd (ST.ins xs p (k,b))).Nodup:=by rw[zlW];exact T1.nd
 have zck: ∀v:Bool,((∀z∈ST.ins xs p (k,b),nice z.1)->v=true)->wpAny (model prog w) A (storeSet a (SetTable.insertAt es p (knd.hash k,Value.ref b)) { t with place:=(ST.ins pl p j).toArray,plain:=v }) (fun _ s1=>wpAny (model prog w) A
   (if (!false&&({ t with place:=(ST.ins pl p j).toArray,plain:=v }:SetTable).tooFull)=true then (do setRelay a (SetTable.grown (es.size+1));pure true) else pure true) Q E s1) E s:=fun v hv=>by
  obtain⟨T2,F2⟩:=znK T1 F1 v
  rw[ei]
  refine wpAny_storeSet_of ho hd ?_ (by rw[List.size_toArray,List.length_map,ST.ins_len pz,sizeLine_eq];omega)
  have ho1:=zrT (es':=((ST.ins xs p (k,b)).map (zmY knd)).toArray) (t':={ t with place:=(ST.ins pl p j).toArray,plain:=v }) ho hd
  have sb1:=Heap.SameBut.update s.heap a (Obj.putSet ((ST.ins xs p (k,b)).map (zmY knd)).toArray { t with place:=(ST.ins pl p j).toArray,plain:=v })
  have al2: ∀z∈ST.ins xs p (k,b),knd.is (s.heap.update a (Obj.putSet ((ST.ins xs p (k,b)).map (zmY knd)).toArray { t with place:=(ST.ins pl p j).toArray,plain:=v })) z.1 z.2:=fun z hz=>P.keep (al1 z hz) ho hd sb1
  have fil:({ t with place:=(ST.ins pl p j).toArray,plain:=v }:SetTable).fill=xs.length+1:=by
   unfold SetTable.fill
   show (ST.ins pl p j).toArray.size+t.dummies.size=_
   rw[T.dum,List.size_toArray,ST.ins_len p1,T.len]
   simp[hsC]
  have ln:(ST.ins xs p (k,b)).length=xs.length+1:=ST.ins_len pz
  have fit1:=zgz (es:=((ST.ins xs p (k,b)).map (zmY knd)).toArray) T2 (by rw[ST.ins_len (show p<=(hsC knd xs).length by simpa [hsC] using pz)];simp[ln,hsC])
  split
  ·rename_i tf
   have tf:(xs.length+1)*5>=t.mask*3:=by
    have:({ t with place:=(ST.ins pl p j).toArray,plain:=v }:SetTable).tooFull=true:=by simpa using tf
    unfold SetTable.tooFull at this
    rw[fil] at this
    simpa using this
   obtain⟨m,hm,Fm,lm,bm,rm2⟩: ∃m,SetTable.sizeAbove (SetTable.grown (es.size+1))=m+1/\ST.Full m/\xs.length+1<=m/\m+1<=1000/\∀t':SetTable,t'.mask=m->Roomy t' (xs.length+1):=by
    rw[esz]
    rcases ro with ⟨e,h⟩|⟨e,h⟩|⟨e,h⟩
    ·have:xs.length=4:=by omega
     rw[this]
     exact⟨31,by decide,ST.full31,by decide,by decide,fun t' e'=>.inr (.inl ⟨e',by decide⟩)⟩
    ·have:xs.length=18:=by omega
     rw[this]
     exact⟨127,by decide,ST.full127,by decide,by decide,fun t' e'=>.inr (.inr ⟨e',by decide⟩)⟩
    ·omega
   refine wpAny_bind (znJ P (s:={ s with heap:=_ }) ho1 hx rfl (by simp) al2 fit1 nd1 hm Fm (by rw[ln];exact lm) bm (by rw[ln];exact rm2) fl hv fun h2 ys y1 y2 y3=>wpAny_pure (qn nk h2 ys (y1.trans pm) y2 (sb1.trans y3)))
  ·rename_i tf
   have tf: ¬((xs.length+1)*5>=t.mask*3):=fun z=>tf (by
    unfold SetTable.tooFull
    rw[fil]
    simpa using z)
   refine wpAny_pure (qn nk _ _ pm ⟨⟨_,_,_,_,ST.ins pl p j,ho1,hx,rfl,by simp,by rw[zlW];exact T2,by rw[zlW];exact F2,?_,fl,hv⟩,al2⟩ sb1)
   rw[ln]
   rcases ro with ⟨e,h⟩|⟨e,h⟩|⟨e,h⟩
   ·exact .inl ⟨e,by omega⟩
   ·exact .inr (.inl ⟨e,by omega⟩)
   ·exact .inr (.inr ⟨e,by omega⟩)
 have old:(∀z∈ST.ins xs p (k,b),nice z.1)->t.plain=true:=fun hn=>fp fun z hz=>hn z (ST.mem_ins.mpr (.inr hz))
 split
 ·refine wpAny_bind (P.byval hb fun v hv=>?_)
  cases v with
  |true=>exact wpAny_bind (zck t.plain old)
  |false=>exact wpAny_bind (zck false fun hn=>hv (hn (k,b) (ST.mem_ins.mpr (.inl rfl))))
 ·exact wpAny_bind (wpAny_pure (wpAny_bind (zck t.plain old)))
end
section
variable {prog:Program} {w:World} {K:Type} [DecidableEq K] {kn:KeyKind prog w K}
theorem zlX{n:Nat}{v:Value}(h:carriedByValue v=true):ofAClassStatement n v=pure false:=by
 cases v<;>first|(cases h;done)|(unfold ofAClassStatement;rfl)
theorem zlY{n:Nat}{v:Value}(h:carriedByValue v=true): ∃b,hashByValue n v=pure b:=by
 cases v<;>first|(cases h;done)|exact⟨_,by unfold hashByValue;rfl⟩
theorem zhM{α β:Type}{M:Model}{A:Around}{E:Value->Shared->Prop}{s:Shared}{f:α->β->Sem (ForInStep β)}: ∀(ys:List α) (b0:β) {Q:β->Shared->Prop},(∀y∈ys,∀b,∃r,f y b=pure r)->(∀b,Q b s)->wpAny M A (forIn ys b0 f) Q E s
 |[],b0,Q,_,q=>wpAny_pure (q b0)
 |y::ys,b0,Q,h,q=>by
  rw[List.forIn_cons]
  obtain⟨r,e⟩:=h y (List.mem_cons_self ..) b0
  refine wpAny_bind (wpAny_of_eq e ?_)
  cases r with
  |done b=>exact wpAny_pure (q b)
  |yield b=>exact zhM ys b (fun z hz=>h z (List.mem_cons_of_mem _ hz)) q
theorem zhN{α β γ:Type}{M:Model}{A:Around}{E:Value->Shared->Prop}{s:Shared}{f:α->Option γ×β->Sem (ForInStep (Option γ×β))}: ∀(ys:List α) (b0:Option γ×β) {Q:Option γ×β->Shared->Prop},(∀y∈ys,∀b,b.1=none->∃b',b'.1=none/\f y b=pure (.yield b'))->b0.1=none->(∀b,b.1=none->Q b s)->wpAny M A (forIn ys b0 f) Q E s
 |[],b0,Q,_,h0,q=>wpAny_pure (q b0 h0)
 |y::ys,b0,Q,h,h0,q=>by
  rw[List.forIn_cons]
  obtain⟨r,r0,e⟩:=h y (List.mem_cons_self ..) b0 h0
  exact wpAny_bind (wpAny_of_eq e (zhN ys r (fun z hz=>h z (List.mem_cons_of_mem _ hz)) r0 q))
theorem zhO{nice:List K->Prop}(hn: ∀ks vs,nice ks->ItemsAre kn ks vs->∀v∈vs,∃i t,v=Value.int i t):Plain2 (tupleKind kn) nice where
 nocls:=fun {A E s k a Q} hk q=>by
  have hT:=IsTupleKey.typeIs hk
  obtain⟨o,items,n,ho,hc,hd,hi⟩:=hk
  show wpAny _ _ (ofAClassStatement (7+1) (.ref a)) _ _ _
  unfold ofAClassStatement
  refine wpAny_bind (wpAny_typeOf hT ?_)
  dsimp only
  rw[if_pos (by decide)]
  refine wpAny_bind (wpAny_pure ?_)
  rw[if_neg (by decide)]
  refine wpAny_bind (wpAny_seqItems ho hd ?_)
  dsimp only
  refine wpAny_bind ?_
  rw[<-Array.forIn_toList]
  refine zed items.toList (fun y hy Q1 q1=>?_) (wpAny_pure q)
  refine wpAny_bind (wpAny_of_eq (zlX (hi.byValue y hy)) ?_)
  rw[if_neg (by decide)]
  exact wpAny_pure q1
 byval:=fun {A E s k a Q} hk q=>by
  have hT:=IsTupleKey.typeIs hk
  obtain⟨o,items,n,ho,hc,hd,hi⟩:=hk
  show wpAny _ _ (hashByValue (7+1) (.ref a)) _ _ _
  unfold hashByValue
  refine wpAny_bind (wpAny_specialOf hT F.slot_tuple_hash.lookup ?_)
  dsimp only
  refine wpAny_bind (wpAny_seqItems ho hd ?_)
  refine wpAny_bind ?_
  rw[<-Array.forIn_toList]
  by_cases nk:nice k
  ·refine zhN items.toList _ (fun y hy r r0=>?_) rfl fun r r0=>?_
   ·obtain⟨i,t,rfl⟩:=hn k _ nk hi y hy
    exact⟨(none,()),rfl,rfl⟩
   ·obtain⟨r1,r2⟩:=r
    dsimp only at r0
    subst r0
    exact wpAny_pure (q _ fun _=>rfl)
  ·refine zhM items.toList _ (fun y hy r=>?_) fun r=>?_
   ·obtain⟨b,e⟩:=zlY (n:=7) (hi.byValue y hy)
    rw[e]
    cases b<;>exact⟨_,rfl⟩
   ·rcases r with ⟨_|_,_⟩<;>exact wpAny_pure (q _ fun z=>(nk z).elim)
 keep:=fun {h h' k a d o es ep t} hk ho hd sb=>by
  obtain⟨o',items,n,ho',hc,hd',hi⟩:=hk
  have ne:a≠d:=by
   intro e
   rw[e,ho] at ho'
   cases ho'
   rw[hd] at hd'
   cases hd'
  exact⟨o',items,n,(sb.2 a ne).trans ho',hc,hd',hi⟩
end
end L2.LW
set_option maxHeartbeats 4000000
namespace L2.LW
open PySem PySem.Spec PySem.W PySem.Calls PyProof.Rows
section
variable {prog:Program} {w:World} {K:Type} [DecidableEq K] {kn:KeyKind prog w K} {nice:List K->Prop} {A:Around} {R:Result->Shared->Prop} {I S:Addr} {fp wr:List Addr} {G:Array GenState->Array GenState->Prop} {n:Nat} {P:Nat->Value->Prop} {St:Nat->Shared->Prop}
theorem zjB{h h':Heap}{k:List K}{a:Addr}(x:IsTupleKey kn h k a)(e: ∀o,h.get? a=some o->h'.get? a=some o):IsTupleKey kn h' k a:=by
 obtain⟨o,its,m,ho,r⟩:=x
 exact⟨o,its,m,e o ho,r⟩
theorem SetC.at{h h':Heap}{a:Addr}{xs:List (List K×Addr)}(S:SetC (tupleKind kn) nice h a xs)(e: ∀o,h.get? a=some o->h'.get? a=some o)(al: ∀z∈xs,IsTupleKey kn h' z.1 z.2):SetC (tupleKind kn) nice h' a xs:=by
 obtain⟨⟨o,es,ep,t,pl,ho,r⟩,_⟩:=S
 exact⟨⟨o,es,ep,t,pl,e o ho,r⟩,al⟩
theorem zkj(hnice: ∀ks vs,nice ks->ItemsAre kn ks vs->∀v∈vs,∃i t,v=Value.int i t)(W:WalksS prog w A.in1 I fp wr G n P St)(nS:S∉fp)(hu:A.in1.units<cLine){zs:List (List K×Addr)}(hn:zs.length=n)(val: ∀i v,P i v->∃z,zs[i]? =some z/\v= .ref z.2)
  (nw: ∀z∈zs,z.2∉wr) (inj: ∀z∈zs,∀y∈zs,tupleKeyHash kn z.1=tupleKeyHash kn y.1->z.1=y.1) (cap: ∀xs:List (List K×Addr),(xs.map (·.1)).Nodup->(∀z∈xs,z∈zs)->xs.length<76):
  ∀(m i:Nat) (s:Shared) (xs:List (List K×Addr)),n-i=m->i<=n->St i s->SetC (tupleKind kn) nice s.heap S xs->(∀z∈xs,z∈zs)->(∀k,(∃z∈xs,z.1=k)↔∃z∈zs.take i,z.1=k)->(∀z∈zs,IsTupleKey kn s.heap z.1 z.2)->
   (∀s' ys,Moved (S::wr) G s s'->SetC (tupleKind kn) nice s'.heap S ys->(∀z∈ys,z∈zs)->(∀k,(∃z∈ys,z.1=k)↔∃z∈zs,z.1=k)->R (.ok (.ret .none)) s')->
   codeAny (model prog w) A (.builtin "set.update.loop" ⟨[.ref S,.ref I],[]⟩) R s:=by
 have nSw:S∉wr:=fun z=>nS (W.sub _ z)
 have up: ∀b∈wr,b∈S::wr:=fun b hb=>List.mem_cons_of_mem _ hb
 intro m
 induction m with
 |zero=>
  intro i s xs hm hi st C sub mem al fin
  obtain rfl:i=n:=by omega
  refine codeAny_builtin PyProof.Rows.F.entry_set_update_loop ?_
  rw[Around.under_plainId PyProof.Rows.F.plain_set_update_loop _]
  refine wpAny_bind (W.done s _ _ st fun s1 mv=>wpAny_pure (fin s1 xs (mv.mono up) (C.at (fun o e=>mv.heap S o nSw e) fun z hz=>zjB (C.al z hz) fun o e=>mv.heap z.2 o (nw z (sub z hz)) e) sub fun k=>?_))
  rw[mem k,List.take_of_length_le (by omega)]
 |succ m ih=>
  intro i s xs hm hi st C sub mem al fin
  have lt:i<n:=by omega
  refine codeAny_builtin PyProof.Rows.F.entry_set_update_loop ?_
  rw[Around.under_plainId PyProof.Rows.F.plain_set_update_loop _]
  refine wpAny_bind (W.item i s _ _ lt st fun v s1 hv st1 mv=>?_)
  obtain⟨z,ez,rfl⟩:=val i v hv
  have zm:z∈zs:=List.mem_of_getElem? ez
  have al1: ∀y∈zs,IsTupleKey kn s1.heap y.1 y.2:=fun y hy=>zjB (al y hy) fun o e=>mv.heap y.2 o (nw y hy) e
  have C1:SetC (tupleKind kn) nice s1.heap S xs:=C.at (fun o e=>mv.heap S o nSw e) fun y hy=>al1 y (sub y hy)
  have tk:zs.take (i+1)=zs.take i++[z]:=by rw[List.take_add_one,ez];rfl
  refine wpAny_bind (wpAny_holding ?_)
  unfold setAdd
  refine wpAny_holding ?_
  refine wpAny_bind ((tupleKind kn).pyHash (k:=z.1) hu (al1 z zm) ?_)
  have nd:(xs.map (·.1)).Nodup:=by
   obtain⟨_,_,_,_,_,_,_,_,_,T,_⟩:=C.ex
   have:=T.nd
   unfold hsC at this
   rw[show (xs.map fun y=>(tupleKind kn).hash y.1)=(xs.map (·.1)).map (tupleKind kn).hash by rw[List.map_map];rfl] at this
   exact List.Pairwise.of_map _ (fun a b h e=>h (by rw[e])) this
  have go: ∀(s2:Shared) (ys:List (List K×Addr)),s2.toks=s1.toks+(tupleKind kn).draws z.1->s2.gens=s1.gens->s2.drawn=s1.drawn->s2.os=s1.os->Heap.SameBut S s1.heap s2.heap->SetC (tupleKind kn) nice s2.heap S ys->(∀y∈ys,y∈zs)->
    (∀k,(∃y∈ys,y.1=k)↔∃y∈zs.take (i+1),y.1=k)->codeAny (model prog w) A (.builtin "set.update.loop" ⟨[.ref S,.ref I],[]⟩) R s2:=fun s2 ys t1 t2 t3 t4 sb C2 sub2 mem2=>by
   obtain⟨h2,g2,d2,tk2,os2⟩:=s2
   obtain⟨h1,g1,d1,tk1,os1⟩:=s1
   dsimp only at t1 t2 t3 t4 sb C2
   subst t2;subst t3;subst t4
   have le:tk1<=tk2:=by omega
   refine ih (i+1) _ ys (by omega) lt (W.frame _ _ h2 tk2 st1 le fun b hb o e=>?_) C2 sub2 mem2 (fun y hy=>?_) fun s3 us mv3 C3 sub3 mem3=>fin s3 us (Moved.trans W.gtrans ((mv.mono up).then_heap le fun b o hb e=>?_) mv3) C3 sub3 mem3
   ·rw[sb.2 b fun e=>nS (e▸hb)];exact e
   ·by_cases e:y.2=S
    ·exfalso
     obtain⟨_,_,_,_,_,ho,ex,hd,_⟩:=C1.ex
     obtain⟨o',_,_,ho',hc',_⟩:=al1 y hy
     rw[e,ho] at ho'
     cases ho'
     rw[ex.1] at hc'
     injection hc' with hc'
     exact absurd hc' (by decide)
    ·exact zjB (al1 y hy) fun o q=>by rw[sb.2 y.2 e];exact q
   ·rw[sb.2 b fun e=>hb (by rw[e];exact List.mem_cons_self)];exact e
  refine zrU (knd:=tupleKind kn) (s:={ s1 with toks:=s1.toks+(tupleKind kn).draws z.1 }) (zhO hnice) C1 hu (al1 z zm) (fun y hy e=>inj y (sub y hy) z zm e) (cap xs nd sub) (fun ok=>?_) fun nk h2 ys py C2 sb=>?_
  ·refine wpAny_pure ⟨plainId_quiet PyProof.Rows.F.plain_set_update_loop _,go _ xs rfl rfl rfl rfl (Heap.SameBut.refl _ _) C1 sub fun k=>?_⟩
   rw[mem k,tk]
   constructor
   ·rintro⟨y,hy,e⟩;exact⟨y,List.mem_append_left _ hy,e⟩
   ·rintro⟨y,hy,e⟩
    rcases List.mem_append.mp hy with hy|hy
    ·exact⟨y,hy,e⟩
    ·rw[List.mem_singleton] at hy
     rw[hy] at e
     rw[<-e]
     exact (mem z.1).mp ok
  ·refine wpAny_pure ⟨plainId_quiet PyProof.Rows.F.plain_set_update_loop _,go _ ys rfl rfl rfl rfl sb C2 (fun y hy=>?_) fun k=>?_⟩
   ·rcases List.mem_cons.mp (py.mem_iff.mp hy) with rfl|hy
    ·exact zm
    ·exact sub y hy
   ·rw[tk]
    constructor
    ·rintro⟨y,hy,e⟩
     rcases List.mem_cons.mp (py.mem_iff.mp hy) with rfl|hy
     ·exact⟨z,List.mem_append_right _ (List.mem_singleton.mpr rfl),e⟩
     ·obtain⟨y2,h3,h4⟩:=(mem k).mp ⟨y,hy,e⟩
      exact⟨y2,List.mem_append_left _ h3,h4⟩
    ·rintro⟨y,hy,e⟩
     rcases List.mem_append.mp hy with hy|hy
     ·obtain⟨y2,h3,h4⟩:=(mem k).mpr ⟨y,hy,e⟩
      exact⟨y2,py.mem_iff.mpr (List.mem_cons_of_mem _ h3),h4⟩
     ·rw[List.mem_singleton] at hy
      subst hy
      exact⟨_,py.mem_iff.mpr List.mem_cons_self,e⟩
noncomputable def zc1(led:Bool):Obj:={ cls:=.type "set",dict:=none,data:=.set #[] 0 (.fresh 0 0 led) }
theorem zlZ{h:Heap}{a:Addr}(e:h.get? a=some (zc1 (!zba w))):SetC (tupleKind kn) nice h a []:=
 ⟨⟨_, #[],0,.fresh 0 0 (!zba w),[],e,⟨rfl,rfl,rfl⟩,rfl,rfl,⟨ST.full7,rfl,rfl,fun i j _ a b h=>(nomatch h),rfl,fun x hx=>(nomatch hx),List.nodup_nil,Nat.zero_le _⟩,fun x hx=>(nomatch hx),Or.inl ⟨rfl,Nat.zero_le _⟩,rfl,fun _=>rfl⟩,fun z hz=>(nomatch hz)⟩
set_option maxRecDepth 100000 in
theorem zfq(a:Value){E:Value->Shared->Prop}{s:Shared}{Q₁:Value->Shared->Prop}(h:Q₁ (.ref s.heap.objs.size) { s with heap:=s.heap.push (zc1 (!zba w)) }):
  codeAny (model prog w) A (.call (.builtin "set.__new__") ⟨[.type "set",a],[]⟩) (wants Q₁ E) s:=by
 refine codeAny_of_tree ?_
 show wpAny _ A.in1 (do checkBuiltinCall "set.__new__" ⟨[.type "set",a],[]⟩;again (.builtin "set.__new__" ⟨[.type "set",a],[]⟩)) _ _ s
 refine wpAny_bind (wpAny_of_eq (PySem.F.newCall_set_1 a) (wpAny_pure ⟨plainId_quiet PySem.F.plain_set_new _,codeAny_builtin PySem.F.entry_set_new ?_⟩))
 rw[Around.under_plainId PySem.F.plain_set_new _]
 unfold Builtin.«set.__new__» Builtin.Frozenset.newClass
 have hsub:=PySem.sub_set_self
 obtain⟨hp,g,d,tk,os⟩:=s
 dsimp only
 wp_walk
 refine wpAny_askSetting (wpAny_pure ?_)
 dsimp only
 simp only[newObj]
 refine wpAny_bind (wpAny_alloc (wpAny_pure ?_))
 exact wpAny_pure h
set_option maxRecDepth 100000 in
theorem znM(hnice: ∀ks vs,nice ks->ItemsAre kn ks vs->∀v∈vs,∃i t,v=Value.int i t){E:Value->Shared->Prop}{s:Shared}{l:Addr}{items:Array Value}{zs:List (List K×Addr)}{Q:Value->Shared->Prop}(hh:A.handled=none)(hu:A.units+8<cLine)(hl:s.heap.IsList l items)
  (hz:items.toList=zs.map fun z=>.ref z.2) (al: ∀z∈zs,IsTupleKey kn s.heap z.1 z.2) (inj: ∀z∈zs,∀y∈zs,tupleKeyHash kn z.1=tupleKeyHash kn y.1->z.1=y.1) (cap: ∀xs:List (List K×Addr),(xs.map (·.1)).Nodup->(∀z∈xs,z∈zs)->xs.length<76)
  (q: ∀(h':Heap) (tk:Nat) ys,SetC (tupleKind kn) nice h' s.heap.objs.size ys->(∀z∈ys,z∈zs)->(∀k,(∃z∈ys,z.1=k)↔∃z∈zs,z.1=k)->(∀b o,b<s.heap.objs.size->s.heap.get? b=some o->h'.get? b=some o)->Q (.ref s.heap.objs.size) { s with heap:=h',toks:=tk }):
  wpAny (model prog w) A (call (.type "set") [.ref l]) Q E s:=by
 obtain⟨c,tl,m1⟩:=PySem.F.called_set.mro
 have m2:=PySem.F.called_set.made
 have m3:=PySem.F.called_set.sub
 have m4:=PySem.F.called_set.notType
 have m5:=PySem.F.called_set.canCreate
 have m6:=PySem.F.typeCall_set_1 (.ref l)
 refine wpAny_call (codeAny_of_tree (wpAny_pure ⟨Code.quiet_builtin _ (by decide+kernel),codeAny_builtin PySem.F.entry_type_call ?_⟩))
 rw[Around.under_plain (weight_type_call_type "set" [.ref l] []) rfl]
 repeat (any_goals (first|assumption|wp_step))
 refine codeAny_mono (zfq (.ref l) (E:=E) (Q₁:=fun v s1=>v= .ref s.heap.objs.size/\s1={ s with heap:=s.heap.push (zc1 (!zba w)) }) ⟨rfl,rfl⟩) fun r s1 hr=>?_
 cases r with
 |error e=>exact hr
 |ok f=>
 cases f with
 |next=>exact hr.elim
 |brk=>exact hr.elim
 |cont=>exact hr.elim
 |ret v=>
 obtain⟨rfl,rfl⟩:=hr
 have gS:(s.heap.push (zc1 (!zba w))).get? s.heap.objs.size=some (zc1 (!zba w)):=Heap.get?_push_size _ rfl
 have tS:Shared.TypeIs { s with heap:=s.heap.push (zc1 (!zba w)) } (.ref s.heap.objs.size) "set":=⟨_,gS,rfl⟩
 have i1:=PySem.F.called_set.init.lookup
 have i2:=PySem.F.called_set.init.bind (.ref s.heap.objs.size)
 repeat (any_goals (first|assumption|wp_step))
 refine codeAny_mono (codeAny_call_builtin (R:=wants (fun v s2=>v= .none/\∃h' tk ys,s2={ s with heap:=h',toks:=tk }/\SetC (tupleKind kn) nice h' s.heap.objs.size ys/\(∀z∈ys,z∈zs)/\(∀k,(∃z∈ys,z.1=k)↔∃z∈zs,z.1=k)/\
   ∀b o,b<s.heap.objs.size->s.heap.get? b=some o->h'.get? b=some o) E) PySem.F.called_set.init.plain PySem.F.entry_set_init (PySem.check_set_init_1 tS ?_)) fun r2 s2 hr2=>?_
 ·obtain⟨⟨c0,d0,dt,sl⟩,gl,k1,nl,k2⟩:=hl
  dsimp only at k1 k2
  subst k1
  subst k2
  have gl2:(s.heap.push (zc1 (!zba w))).get? l=some { cls:=.type "list",dict:=d0,data:=.seq items nl,slots:=sl }:=Heap.get?_push_of_some _ gl
  have gS2:(s.heap.push (zc1 (!zba w))).get? s.heap.objs.size=some { cls:=.type "set",dict:=none,data:=.set #[] 0 (.fresh 0 0 (!zba w)) }:=gS
  have j1:=PySem.F.sub_list_set
  have j2:=PySem.F.sub_list_frozenset
  have j3:(Value.type "list"==Value.type "dict")=false:=by decide
  have il:(s.heap.push (zc1 (!zba w))).IsList l items:=⟨_,gl2,rfl,nl,rfl⟩
  have llt:l<s.heap.objs.size:=Heap.lt_size gl
  generalize hP:s.heap.push (zc1 (!zba w))=hp at*
  have hpz:hp.objs.size=s.heap.objs.size+1:=by rw[<-hP];exact Heap.size_push ..
  unfold Builtin.«set.__init__» noKeywords Builtin.Frozenset.updateFrom
  generalize hI:pyIter=pI
  wp_walk
  subst hI
  refine wpAny_pyIter_list il ?_
  refine wpAny_bind (wpAny_runValue ?_)
  have ne:l≠hp.objs.size:=by rw[hpz];exact Nat.ne_of_lt (Nat.lt_succ_of_lt llt)
  have val: ∀(i:Nat) (v:Value),items[i]? =some v->∃z,zs[i]? =some z/\v= .ref z.2:=fun i v hv=>by
   rw[<-Array.getElem?_toList,hz,List.getElem?_map] at hv
   cases e:zs[i]? with
   |none=>rw[e] at hv;cases hv
   |some z=>rw[e] at hv;cases hv;exact⟨z,rfl,rfl⟩
  have old: ∀z∈zs,z.2<s.heap.objs.size:=fun z hm=>by
   obtain⟨o,_,_,e,_⟩:=al z hm
   exact Heap.lt_size e
  have up: ∀b o,s.heap.get? b=some o->(hp.push { cls:=.type "list_iterator",data:=.fields #[.ref l,.int 0 0] }).get? b=some o:=fun b o e=>Heap.get?_push_of_some _ (by rw[<-hP];exact Heap.get?_push_of_some _ e)
  refine zkj (kn:=kn) (nice:=nice) hnice ((Walks.list (by simp[hh]) _ l ne items).toS) (by rw[hpz];simp only[List.mem_cons,List.not_mem_nil,or_false,not_or];exact⟨Nat.ne_of_lt (Nat.lt_succ_self _),Nat.ne_of_gt llt⟩) ?hu (zs:=zs) ?len val ?nw inj cap (items.size-0) 0 _ [] rfl (Nat.zero_le _)
   ⟨⟨_,Heap.get?_push_size _ rfl,rfl,rfl⟩,il.push _⟩ (zlZ (Heap.get?_push_of_some _ gS2)) (fun z hm=>(nomatch hm)) (fun k=>?mem) (fun z hm=>zjB (al z hm) fun o e=>up z.2 o e) fun s' ys mv C s1 s2=>?fin
  case hu=>simp;omega
  case len=>rw[<-Array.length_toList,hz,List.length_map]
  case nw=>intro z hm;rw[hpz,List.mem_singleton];exact Nat.ne_of_lt (Nat.lt_succ_of_lt (old z hm))
  case mem=>constructor<;>(rintro⟨z,hm,_⟩;cases hm)
  case fin=>
   obtain⟨h',g',d',tk',os'⟩:=s'
   have e1:g'=s.gens:=mv.gens
   have e2:d'=s.drawn:=mv.drawn
   have e3:os'=s.os:=mv.os
   subst e1
   subst e2
   subst e3
   refine wpAny_pure ?_
   refine wpAny_pure ⟨rfl,h',tk',ys,rfl,C,s1,s2,fun b o hb e=>?_⟩
   refine mv.heap b o ?_ (up b o e)
   rw[hpz]
   simp only[List.mem_cons,List.not_mem_nil,or_false,not_or]
   exact⟨Nat.ne_of_lt hb,Nat.ne_of_lt (Nat.lt_succ_of_lt hb)⟩
 ·cases r2 with
  |error e=>exact hr2
  |ok f2=>
  cases f2 with
  |next=>exact hr2.elim
  |brk=>exact hr2.elim
  |cont=>exact hr2.elim
  |ret v2=>
  obtain⟨rfl,h',tk,ys,rfl,y1,y2,y3,y4⟩:=hr2
  repeat (any_goals (first|assumption|wp_step))
  exact q h' tk ys y1 y2 y3 y4
end
end L2.LW
set_option maxHeartbeats 4000000
namespace L2.LW
open PySem PySem.Spec PySem.W PySem.Calls PyProof.Rows
theorem zdh{α:Type}[DecidableEq α]{x:α}: ∀{l:List α},x∈nub l↔x∈l
 |[]=>Iff.rfl
 |c::r=>by
  unfold nub
  split
  ·rename_i h
   rw[zdh,List.mem_cons]
   exact⟨.inr,fun z=>z.elim (fun e=>e▸h) id⟩
  ·rw[List.mem_cons,List.mem_cons,zdh]
theorem zca{α:Type}[DecidableEq α]: ∀{l:List α},(nub l).Nodup
 |[]=>List.nodup_nil
 |c::r=>by
  unfold nub
  split
  ·exact zca
  ·rename_i h
   exact List.nodup_cons.mpr ⟨fun z=>h (zdh.mp z),zca⟩
noncomputable def kC(c:Int×Int):List Key:=[Sum.inl c.1,Sum.inl c.2]
noncomputable def in8(c:Int×Int):Prop:=0<=c.1/\c.1<=7/\0<=c.2/\c.2<=7
theorem zrV{c d:Int×Int}(e:kC c=kC d):c=d:=by
 unfold kC at e
 simp only[List.cons.injEq,Sum.inl.injEq,and_true] at e
 exact Prod.ext e.1 e.2
theorem zl0{l:List (Int×Int)}(nd:l.Nodup)(h: ∀c∈l,in8 c):l.length<76:=by
 have nd2:(l.map fun c=>(c.1*8+c.2).toNat).Nodup:=by
  unfold List.Nodup
  rw[List.pairwise_map]
  refine nd.imp_of_mem fun {a b} ha hb hab z=>hab ?_
  have h1:=h a ha
  have h2:=h b hb
  unfold in8 at h1 h2
  exact Prod.ext (by omega) (by omega)
 have lt: ∀x∈(l.map fun c=>(c.1*8+c.2).toNat),x<64:=fun x hx=>by
  obtain⟨c,hc,rfl⟩:=List.mem_map.mp hx
  have:=h c hc
  unfold in8 at this
  omega
 have: ∀(n:Nat) (m:List Nat),m.Nodup->(∀x∈m,x<n)->m.length<=n:=fun n=>by
  induction n with
  |zero=>
   intro m _ hm
   cases m with
   |nil=>exact Nat.le_refl _
   |cons x r=>exact absurd (hm x (List.mem_cons_self ..)) (Nat.not_lt_zero _)
  |succ n ih=>
   intro m hd hm
   by_cases e:n∈m
   ·have:=ih (m.erase n) (hd.erase n) fun x hx=>by
     have h1:=hm x (List.mem_of_mem_erase hx)
     have h2:x≠n:=fun z=>by rw[z,List.Nodup.mem_erase_iff hd] at hx;exact hx.1 rfl
     omega
    rw[List.length_erase_of_mem e] at this
    omega
   ·have:=ih m hd fun x hx=>by
     have h1:=hm x hx
     have h2:x≠n:=fun z=>e (z▸hx)
     omega
    omega
 have:=this 64 _ nd2 lt
 rw[List.length_map] at this
 omega
noncomputable def zxX(a:Addr)(n:Nat):HO:=.ext fun h=>∃o es ep t,h.get? a=some o/\o.ExactSet/\o.data= .set es ep t/\t.fits es.size=true/\es.size=n
noncomputable def CL(H:Hp)(cs:List (Int×Int))(xs:List V):Prop:=Paired (fun c x=>∃a,x=V.ref a/\H a=some (.tup ((kC c).map kV))/\in8 c) cs xs
theorem SetC.nd{prog:Program}{w:World}{K:Type}[DecidableEq K]{knd:HeapKind prog w K}{nice:K->Prop}{h:Heap}{a:Addr}{xs:List (K×Addr)}(C:SetC knd nice h a xs):(xs.map (·.1)).Nodup:=by
 obtain⟨_,_,_,_,_,_,_,_,_,T,_⟩:=C.ex
 have z:=T.nd
 unfold hsC at z
 rw[show (xs.map fun y=>knd.hash y.1)=(xs.map (·.1)).map knd.hash by rw[List.map_map];rfl] at z
 exact List.Pairwise.of_map _ (fun a b h e=>h (by rw[e])) z
theorem zrW{P:Program}{w:World}{H:Hp}{h:Heap}(ok:HOk P w H h): ∀{cs:List (Int×Int)} {xs:List V} {its:List Value},CL H cs xs->Vals xs its->
  ∃zs:List (List Key×Addr),its=zs.map (fun z=>.ref z.2)/\zs.map (·.1)=cs.map kC/\(∀z∈zs,IsTupleKey (zaS P w) h z.1 z.2)/\(∀z∈zs,H z.2=some (.tup (z.1.map kV)))/\∀c∈cs,in8 c
 |_,_,_,.nil,.nil=>⟨[],rfl,rfl,fun z hz=>(nomatch hz),fun z hz=>(nomatch hz),fun c hc=>(nomatch hc)⟩
 |_,_,_,.cons h1 t1,.cons h2 t2=>by
  obtain⟨a,rfl,e,i8⟩:=h1
  cases h2
  obtain⟨zs,rfl,z2,z3,z5,z4⟩:=zrW ok t1 t2
  refine⟨(kC _,a)::zs,rfl,by rw[List.map_cons,List.map_cons,z2],fun z hz=>?_,fun z hz=>?_,fun c hc=>?_⟩
  ·rcases List.mem_cons.mp hz with rfl|hz
   ·exact zeO ok e
   ·exact z3 z hz
  ·rcases List.mem_cons.mp hz with rfl|hz
   ·exact e
   ·exact z5 z hz
  ·rcases List.mem_cons.mp hc with rfl|hc
   ·exact i8
   ·exact z4 c hc
noncomputable def unC:List Key->Int×Int
 |[.inl a,.inl b]=>(a,b)
 |_=>(0,0)
section
variable {X:Cx}
noncomputable def znN(ks:List Key):Prop:=∀k∈ks,∃i,k=Sum.inl i
theorem zjC{P:Program}{w:World}: ∀(ks:List Key) (vs:List Value),znN ks->ItemsAre (zaS P w) ks vs->∀v∈vs,∃i t,v=Value.int i t
 |_,_,_,.nil,v,hv=>(nomatch hv)
 |_,_,hn,.cons h t,v,hv=>by
  rcases List.mem_cons.mp hv with rfl|hv
  ·obtain⟨i,rfl⟩:=hn _ List.mem_cons_self
   have h:zit (Sum.inl i) v=true:=h
   rcases zaW h with ⟨j,u,_,e⟩|⟨x,u,e,_⟩
   ·exact⟨j,u,e⟩
   ·cases e
  ·exact zjC _ _ (fun k hk=>hn k (List.mem_cons_of_mem _ hk)) t v hv
theorem zl1(hc:X.calm=true)(hu:X.A.units+8<cLine){pins:List (Addr×Obj)}{s:Shared}{σ:St}{H:Hp}{l:Addr}{xs:List V}{cs:List (Int×Int)}{Q:Value->Shared->Prop}{E:Value->Shared->Prop}(I:Inv X pins σ H s)(sq:SqL X.K H l xs)(cl:CL H cs xs)
  (q: ∀(h':Heap) (tk:Nat) (ys:List (List Key×Addr)),SetC (tupleKind (zaS X.prog X.w)) znN h' s.heap.objs.size ys->(∀z∈ys,znN z.1/\H z.2=some (.tup (z.1.map kV)))->(ys.map (·.1)).Perm ((nub cs).map kC)->
   (∀b o,s.heap.get? b=some o->h'.get? b=some o)->Q (.ref s.heap.objs.size) { s with heap:=h',toks:=tk }):wpAny (model X.prog X.w) X.A (call (.type "set") [.ref l]) Q E s:=by
 obtain⟨its,vi,⟨ol,nl,hl,hcl,_,hdl⟩,_⟩:=I.list sq
 obtain⟨zs,rfl,z2,z3,z5,z4⟩:=zrW I.hok cl vi
 have zc: ∀z∈zs,∃c∈cs,z.1=kC c:=fun z hz=>by
  have:z.1∈cs.map kC:=by rw[<-z2];exact List.mem_map_of_mem hz
  obtain⟨c,h1,h2⟩:=List.mem_map.mp this
  exact⟨c,h1,h2.symm⟩
 have s8: ∀z∈zs,ziR z.1:=fun z hz=>by
  obtain⟨c,h1,h2⟩:=zc z hz
  obtain⟨i1,i2,i3,i4⟩:=z4 c h1
  exact⟨c.1,c.2,h2,i1,i2,i3,i4⟩
 refine znM (kn:=zaS X.prog X.w) (nice:=znN) zjC (I.ok.hd hc) hu ⟨ol,hl,hcl,nl,hdl⟩ (zs:=zs) rfl z3 (fun z hz y hy e=>znD (s8 z hz) (s8 y hy) e) (fun ys nd sub=>?_) fun h' tk ys C sub mem keep=>?_
 ·have:=zl0 (l:=ys.map fun z=>unC z.1) (by
   unfold List.Nodup at nd⊢
   rw[List.pairwise_map] at nd⊢
   refine nd.imp_of_mem fun {a b} ha hb hab e=>hab ?_
   obtain⟨c,_,e1⟩:=zc a (sub a ha)
   obtain⟨d,_,e2⟩:=zc b (sub b hb)
   rw[e1,e2] at e⊢
   exact congrArg kC e) (fun c hm=>by
   obtain⟨z,hz,rfl⟩:=List.mem_map.mp hm
   obtain⟨c,h1,e1⟩:=zc z (sub z hz)
   rw[e1]
   exact z4 c h1)
  rw[List.length_map] at this
  exact this
 ·have pm:(ys.map (·.1)).Perm ((nub cs).map kC):=by
   rw[List.perm_ext_iff_of_nodup C.nd (by
    unfold List.Nodup
    rw[List.pairwise_map]
    exact (zca (l:=cs)).imp fun {a b} h e=>h (zrV e))]
   intro k
   have m1:=mem k
   constructor
   ·intro hk
    obtain⟨y,hy,e⟩:=List.mem_map.mp hk
    obtain⟨z,hz,e2⟩:=m1.mp ⟨y,hy,e⟩
    obtain⟨c,h1,h2⟩:=zc z hz
    exact List.mem_map.mpr ⟨c,zdh.mpr h1,by rw[<-h2,e2]⟩
   ·intro hk
    obtain⟨c,h1,e⟩:=List.mem_map.mp hk
    have h2:kC c∈zs.map (·.1):=by rw[z2];exact List.mem_map_of_mem (zdh.mp h1)
    obtain⟨z,hz,e2⟩:=List.mem_map.mp h2
    obtain⟨y,hy,e3⟩:=m1.mpr ⟨z,hz,e2.trans e⟩
    exact List.mem_map.mpr ⟨y,hy,e3⟩
  refine q h' tk ys C (fun z hz=>⟨fun k hk=>?_,z5 z (sub z hz)⟩) pm fun b o e=>keep b o (Heap.lt_size e) e
  obtain⟨c,_,e⟩:=zc z (sub z hz)
  rw[e] at hk
  rcases List.mem_cons.mp hk with rfl|hk
  ·exact⟨_,rfl⟩
  ·rw[List.mem_singleton] at hk
   exact⟨_,hk⟩
end
theorem hu8{A:Around}{k:Nat}(hr:Room k A):A.units+8<cLine:=Nat.lt_of_le_of_lt (Nat.add_le_add_left (by decide:8<=64) _) hr.units
theorem zrX{K:PySem.W.Frag}{W:Addr->Prop}{H:Hp}: ∀{ds:List D} {xs:List V} {cs:List (Int×Int)},Reps K W H ds xs->zeR ds=some cs->CL H cs xs
 |[],_,cs,.nil,e=>by cases e;exact .nil
 |d::ds,_,cs,.cons h t,e=>by
  simp only[zeR,jo1,jo2] at e
  obtain⟨c,e1,cs',e2,rfl⟩:=e
  refine .cons ?_ (zrX t e2)
  unfold zpe at e1
  split at e1
  ·rename_i a b
   split at e1
   ·rename_i i8
    cases e1
    cases h with
    |tup h r=>
     cases r with
     |cons r1 r2=>
      cases r1
      cases r2 with
      |cons r3 r4=>
       cases r3
       cases r4
       exact⟨_,rfl,h,i8⟩
   ·cases e1
  ·cases e1
end L2.LW
set_option maxHeartbeats 4000000
set_option maxHeartbeats 4000000
namespace L2.LW
open PySem PySem.Spec PySem.W PySem.Calls PyProof.Rows
theorem zrY:entryFor table "set.__iter__"=some Builtin.«frozenset.__iter__»:=
 entryFor_alias (id':="frozenset.__iter__") (by kernel_rfl) rfl (by decide+kernel) (by kernel_rfl)
theorem zcR:Slot "set_iterator" "__next__" "set_iterator.__next__":=
 .of (owner:="set_iterator") (n:="__next__") (by rw[typeLookup_type,builtinLookup_eq_fast];kernel_rfl) (by decide+kernel) (by decide+kernel) (by decide+kernel)
  (by first|exact .inl (by decide+kernel)|exact .inr (by decide+kernel)) (by rw[isSubtype_type];kernel_rfl)
theorem zl2:entryFor table "set_iterator.__next__"=some Builtin.«set_iterator.__next__»:=entryFor_of_tree (by kernel_rfl)
theorem zoB:Manifest.owners.lookup (String.ofList ['r','o','t','a','r','e','t','i','_','t','e','s'].reverse)=some Manifest.sig_set_iterator:=by kernel_rfl
theorem zl3(a:Value):argsOk "set_iterator.__next__" ⟨[a],[]⟩:=by
 unfold argsOk;rw[signature?_of (id:="set_iterator.__next__") (n:=['_','_','t','x','e','n','_','_']) (o:=['r','o','t','a','r','e','t','i','_','t','e','s']) (by kernel_rfl) zoB];kernel_rfl
theorem zjD:Slot "set_iterator" "__iter__" "set_iterator.__iter__":=
 .of (owner:="set_iterator") (n:="__iter__") (by rw[typeLookup_type,builtinLookup_eq_fast];kernel_rfl) (by decide+kernel) (by decide+kernel) (by decide+kernel)
  (by first|exact .inl (by decide+kernel)|exact .inr (by decide+kernel)) (by rw[isSubtype_type];kernel_rfl)
theorem zpI(a:Value):argsOk "set_iterator.__iter__" ⟨[a],[]⟩:=by
 unfold argsOk;rw[signature?_of (id:="set_iterator.__iter__") (n:=['_','_','r','e','t','i','_','_']) (o:=['r','o','t','a','r','e','t','i','_','t','e','s']) (by kernel_rfl) zoB];kernel_rfl
theorem zpJ:entryFor table "set_iterator.__iter__"=some Builtin.«dict_keyiterator.__iter__»:=
 entryFor_alias (id':="dict_keyiterator.__iter__") (by kernel_rfl) rfl (by decide+kernel) (by kernel_rfl)
noncomputable def zhP(h:Heap)(d:Addr)(es:Array (Int×Value))(ep:Nat)(t:SetTable):Prop:=∃o,h.get? d=some o/\o.ExactSet/\o.data= .set es ep t
noncomputable def SIt(h:Heap)(it d:Addr)(sl i n ep:Nat):Prop:=
 ∃o,h.get? it=some o/\o.cls= .type "set_iterator"/\o.data= .fields #[.int sl 0,.int i 0,.ref d,.int n 0,.int ep 0]
theorem SIt.typeIs{s:Shared}{it d:Addr}{sl i n ep:Nat}(x:SIt s.heap it d sl i n ep):s.TypeIs (.ref it) "set_iterator":=by
 obtain⟨o,ho,hc,_⟩:=x
 exact⟨o,ho,hc⟩
structure Led (w:World)(es:Array (Int×Value))(t:SetTable)(pl:List Nat):Prop where
 fit:t.fits es.size=true
 led:zba w=true\/(t.led=true/\t.plain=true)
 plc:t.place=pl.toArray
 ris:ST.Ris pl
 len:pl.length=es.size
noncomputable def zee(w:World)(d:Addr)(ep:Nat)(es:Array (Int×Value)):Array (Int×Value):=if zba w=true then pickOrder (w.params.setOrder d ep) es else es
noncomputable def zcv(w:World)(pl:List Nat)(i:Nat):Nat:=if zba w=true then 0 else if i=0 then 0 else pl.getD (i-1) 0+1
theorem zl4{w:World}{pl:List Nat}{i:Nat}(hb:zba w=false)(hr:ST.Ris pl)(hi:i<=pl.length):SetTable.below pl.toArray (zcv w pl i)=i:=by
 obtain⟨r,e,h1,h2,h3⟩:=ST.below_is hr (zcv w pl i)
 rw[e]
 unfold zcv at h2 h3
 rw[if_neg (by rw[hb];decide)] at h2 h3
 by_cases i0:i=0
 ·rw[if_pos i0] at h2 h3
  by_cases z:r=0
  ·omega
  ·have lt:0<pl.length:=by omega
   have:=h2 0 _ (by omega) (List.getElem?_eq_getElem lt)
   omega
 ·rw[if_neg i0] at h2 h3
  have lt:i-1<pl.length:=by omega
  have eg:pl.getD (i-1) 0=pl[i-1]:=by rw[List.getD_eq_getElem?_getD,List.getElem?_eq_getElem lt];rfl
  rw[eg] at h2 h3
  have g1:=List.getElem?_eq_getElem lt
  rcases Nat.lt_trichotomy r i with z|z|z
  ·have:=h3 (i-1) _ (by omega) g1
   omega
  ·exact z
  ·have lt2:i<pl.length:=by omega
   have g2:=List.getElem?_eq_getElem lt2
   have:=h2 i _ z g2
   have:=hr (i-1) i (by omega) _ _ g1 g2
   omega
theorem zjE{α:Type}: ∀{l:List α} {i:Nat} (h:i<l.length),([l[i]]++l.eraseIdx i).Perm l
 |[],i,h=>by simp at h
 |a::r,0,h=>by simp
 |a::r,i+1,h=>by
  have:=zjE (l:=r) (i:=i) (by simpa using h)
  simp only[List.getElem_cons_succ,List.eraseIdx_cons_succ]
  refine List.Perm.trans ?_ (this.cons a)
  exact List.Perm.swap ..
theorem zl5{α:Type}(next:Nat->Nat): ∀(fuel k:Nat) (left:List α) (out:Array α),fuel=left.length->(pickOrder.go next fuel k left out).toList.Perm (out.toList++left)
 |0,k,left,out,h=>by
  have:left=[]:=List.eq_nil_of_length_eq_zero h.symm
  subst this
  rw[List.append_nil]
  exact List.Perm.refl _
 |fuel+1,k,left,out,h=>by
  have lt:next k%left.length<left.length:=Nat.mod_lt _ (by omega)
  unfold pickOrder.go
  rw[List.getElem?_eq_getElem lt]
  dsimp only
  refine (zl5 next fuel (k+1) _ _ ?_).trans ?_
  ·rw[List.length_eraseIdx,if_pos lt];omega
  ·rw[Array.toList_push,List.append_assoc]
   exact List.Perm.append_left _ (zjE lt)
theorem zjF(w:World)(d:Addr)(ep:Nat)(es:Array (Int×Value)):(zee w d ep es).toList.Perm es.toList:=by
 unfold zee
 split
 ·have:=zl5 (w.params.setOrder d ep) es.size 0 es.toList #[] (by simp)
  simpa [pickOrder] using this
 ·exact List.Perm.refl _
theorem zeJ(w:World)(d:Addr)(ep:Nat)(es:Array (Int×Value)):(zee w d ep es).size=es.size:=by
 have:=(zjF w d ep es).length_eq
 rwa [Array.length_toList,Array.length_toList] at this
section
variable {prog:Program} {w:World} {A:Around} {E:Value->Shared->Prop} {s:Shared} {d:Addr} {es:Array (Int×Value)} {ep:Nat} {t:SetTable} {pl:List Nat}
theorem ze2{Q:Bool->Shared->Prop}(h:Q (zba w) s):wpAny (model prog w) A setsByText Q E s:=by
 unfold setsByText
 exact wpAny_bind (wpAny_askSetting (wpAny_pure h))
theorem znO(L:Led w es t pl)(hb:zba w=true)(S:zhP s.heap d es ep t){Q:Array (Int×Value)->Shared->Prop}(h:Q (zee w d ep es) s):wpAny (model prog w) A (setWalk d) Q E s:=by
 obtain⟨o,ho,hx,hd⟩:=S
 unfold setWalk
 refine wpAny_bind (wpAny_setState_of ho hd L.fit ?_)
 dsimp only
 refine wpAny_bind (ze2 ?_)
 rw[hb,if_pos rfl]
 refine wpAny_bind (wpAny_askSetting (wpAny_pure ?_))
 unfold zee at h
 rw[if_pos hb] at h
 exact h
theorem zl6(L:Led w es t pl)(S:zhP s.heap d es ep t){i:Nat}(hi:i<=es.size){Q:Option (Value×Nat)->Shared->Prop}(h:Q ((zee w d ep es)[i]?.map fun e=>(e.2,zcv w pl (i+1))) s):
  wpAny (model prog w) A (setNext d (zcv w pl i) i ep) Q E s:=by
 obtain⟨o,ho,hx,hd⟩:=id S
 unfold setNext
 refine wpAny_bind (wpAny_setState_of ho hd L.fit ?_)
 dsimp only
 refine wpAny_bind (ze2 ?_)
 cases hb:zba w with
 |true=>
  rw[if_pos rfl,if_neg (by simp)]
  refine wpAny_bind (znO L hb S (wpAny_pure ?_))
  have e1:zcv w pl i=zcv w pl (i+1):=by unfold zcv;rw[if_pos hb,if_pos hb]
  rw[e1]
  exact h
 |false=>
  rw[if_neg (by decide)]
  obtain⟨l1,l2⟩:t.led=true/\t.plain=true:=by
   rcases L.led with z|z
   ·rw[hb] at z;cases z
   ·exact z
  split
  ·rename_i z
   have z:(!t.plain&&decide (es.size>1))=true:=z
   rw[l2] at z
   cases z
  ·refine wpAny_bind ?_
   show wpAny _ _ (if (!t.led&& !es.isEmpty)=true then _ else _) _ _ _
   rw[l1,if_neg (by simp)]
   refine wpAny_pure (wpAny_pure ?_)
   rw[L.plc,zl4 hb L.ris (by rw[L.len];exact hi)]
   unfold zee at h
   rw[if_neg (by rw[hb];decide)] at h
   by_cases lt:i<es.size
   ·have lt2:i<pl.length:=by rw[L.len];exact lt
    have e1:es[i]? =some es[i]:=Array.getElem?_eq_getElem lt
    have e2:pl.toArray[i]? =some pl[i]:=by rw[List.getElem?_toArray,List.getElem?_eq_getElem lt2]
    rw[e1,e2]
    rw[e1] at h
    have e3:zcv w pl (i+1)=pl[i]+1:=by
     unfold zcv
     rw[if_neg (by rw[hb];decide),if_neg (by omega),Nat.add_sub_cancel,List.getD_eq_getElem?_getD,List.getElem?_eq_getElem lt2];rfl
    rw[e3] at h
    exact h
   ·have e1:es[i]? =none:=Array.getElem?_eq_none (by omega)
    rw[e1]
    rw[e1] at h
    exact h
theorem znP(L:Led w es t pl)(S:zhP s.heap d es ep t){Q:Value->Shared->Prop}
  (h:Q (.ref s.heap.objs.size) { s with heap:=s.heap.push { cls:=.type "set_iterator",data:=.fields #[.int 0 0,.int 0 0,.ref d,.int es.size 0,.int ep 0] } }):wpAny (model prog w) A (pyIter (.ref d)) Q E s:=by
 obtain⟨o,ho,hx,hd⟩:=id S
 have hT:s.TypeIs (.ref d) "set":=⟨o,ho,hx.1⟩
 refine wpAny_pyIter_slot hT PySem.F.slot_set_iter (wpAny_call_entry PySem.F.slot_set_iter hT zrY ?_ (PySem.F.args_set_iter_1 _))
 unfold Builtin.«frozenset.__iter__» Builtin.Frozenset.slot0 slotArgs
 simp only[List.isEmpty_nil,Bool.not_true,Bool.false_eq_true, ↓reduceIte,bind_assoc,List.length_nil,bne_self_eq_false]
 unfold Builtin.Frozenset.addrOf Builtin.Frozenset.sizeOf
 refine wpAny_bind (wpAny_pure ?_)
 try dsimp only
 refine wpAny_bind (wpAny_pure ?_)
 refine wpAny_bind (wpAny_bind (wpAny_setEntries_of ho hd L.fit (wpAny_pure ?_)))
 unfold setDrawn
 refine wpAny_bind (wpAny_bind (wpAny_setState_of ho hd L.fit ?_))
 dsimp only
 refine wpAny_bind (ze2 (wpAny_pure ?_))
 split
 ·rename_i z
  exfalso
  rcases L.led with q|q
  ·rw[q] at z;cases z
  ·have z:(!zba w&&(!t.plain&&decide (es.size>1)))=true:=z
   rw[q.2] at z
   simp at z
 ·refine wpAny_bind (wpAny_pure ?_)
  unfold setEpoch
  refine wpAny_bind (wpAny_bind (wpAny_setState_of ho hd L.fit (wpAny_pure ?_)))
  unfold newFields
  refine wpAny_bind (wpAny_newObj_type (wpAny_pure ⟨_,rfl,"set_iterator",_,⟨_,Heap.get?_push_size _ rfl,rfl⟩,zcR.lookup,?_⟩))
  simpa [rawInt] using h
theorem zpK(L:Led w es t pl){it:Addr}(hit:SIt s.heap it d (zcv w pl i) i es.size ep)(S:zhP s.heap d es ep t){e:Int×Value}(hx:(zee w d ep es)[i]? =some e){Q:Option Value->Shared->Prop}
  (hQ: ∀h',SIt h' it d (zcv w pl (i+1)) (i+1) es.size ep->Heap.SameBut it s.heap h'->Q (some e.2) { s with heap:=h' }):wpAny (model prog w) A (pyNext (.ref it)) Q E s:=by
 obtain⟨o,ho,hc,hd⟩:=id hit
 obtain⟨od,hod,hxd,hdd⟩:=id S
 have lt:i<es.size:=by
  rcases Nat.lt_or_ge i es.size with z|z
  ·exact z
  ·rw[Array.getElem?_eq_none (by rw[zeJ];exact z)] at hx;cases hx
 unfold pyNext
 refine wpAny_bind (wpAny_attempt (wpAny_callSpecial?_slot (name:=Str.ofString "__next__") hit.typeIs zcR
  (wpAny_call_entry zcR hit.typeIs zl2 ?_ (zl3 _))))
 unfold Builtin.«set_iterator.__next__»
 refine wpAny_bind (wpAny_pure ?_)
 refine wpAny_bind (wpAny_fieldsOf ho hd ?_)
 dsimp only
 refine wpAny_bind (wpAny_setEntries_of hod hdd L.fit ?_)
 rw[if_neg (by simp)]
 simp only[Int.toNat_natCast]
 refine wpAny_bind (zl6 L S (Nat.le_of_lt lt) ?_)
 rw[hx]
 dsimp only[Option.map_some]
 refine wpAny_bind (wpAny_setField ho hd (by simp) ?_)
 have ho1:=Heap.get?_update_self (Obj.mapFields (·.setIfInBounds 0 (rawInt (zcv w pl (i+1))))) ho (Obj.isFreed_of_fields (Obj.data_mapFields hd _))
 have hd1:=Obj.data_mapFields hd (·.setIfInBounds 0 (rawInt (zcv w pl (i+1))))
 refine wpAny_bind (wpAny_setField (s:={ s with heap:=_ }) ho1 hd1 (by simp) ?_)
 have ho2:=Heap.get?_update_self (Obj.mapFields (·.setIfInBounds 1 (rawInt ((i:Int)+1)))) ho1 (Obj.isFreed_of_fields (Obj.data_mapFields hd1 _))
 refine wpAny_pure ⟨_,rfl,wpAny_pure (hQ _ ⟨_,ho2,(Obj.cls_mapFields ..).trans ((Obj.cls_mapFields ..).trans hc),by rw[Obj.data_mapFields hd1];simp[rawInt]⟩ ((Heap.SameBut.update ..).trans (Heap.SameBut.update ..)))⟩
theorem zrZ(L:Led w es t pl){it:Addr}(hh:A.handled=none)(hit:SIt s.heap it d (zcv w pl es.size) es.size es.size ep)(S:zhP s.heap d es ep t){Q:Option Value->Shared->Prop}
  (hQ: ∀h',Heap.ExtBut it s.heap h'->Q none { s with heap:=h' }):wpAny (model prog w) A (pyNext (.ref it)) Q E s:=by
 obtain⟨o,ho,hc,hd⟩:=id hit
 obtain⟨od,hod,hxd,hdd⟩:=id S
 unfold pyNext
 refine wpAny_bind (wpAny_attempt (wpAny_callSpecial?_slot (name:=Str.ofString "__next__") hit.typeIs zcR
  (wpAny_call_entry zcR hit.typeIs zl2 ?_ (zl3 _))))
 unfold Builtin.«set_iterator.__next__»
 refine wpAny_bind (wpAny_pure ?_)
 refine wpAny_bind (wpAny_fieldsOf ho hd ?_)
 dsimp only
 refine wpAny_bind (wpAny_setEntries_of hod hdd L.fit ?_)
 rw[if_neg (by simp)]
 simp only[Int.toNat_natCast]
 refine wpAny_bind (zl6 L S (Nat.le_refl _) ?_)
 rw[Array.getElem?_eq_none (by rw[zeJ];exact Nat.le_refl _)]
 dsimp only[Option.map_none]
 refine wpAny_bind (wpAny_setField ho hd (by simp) ?_)
 show wpAny _ _ (newExc (.type "StopIteration") [] >>= _) _ _ _
 refine wpAny_bind ?_
 simp only[newExc,newTuple]
 refine wpAny_bind (wpAny_newObj_type ?_ (by size_fits))
 refine wpAny_bind (m:=firstArgMember _ _) (wpAny_of_eq (a:=Value.none) (by first|rfl|(simp only[firstArgMember];rfl)) ?_)
 refine wpAny_newObj_type ?_ (by size_fits)
 simp only[raiseNew]
 refine wpAny_bind (wpAny_handled ?_)
 rw[show A.in1.handled=none from hh]
 refine wpAny_bind (wpAny_pure (wpAny_throw ?_))
 refine wpAny_bind (wpAny_isInstance (T:="StopIteration") (b:=true) ⟨_,Heap.get?_push_size _ rfl,rfl⟩ isSubtype_stop ?_)
 exact wpAny_pure (hQ _ (((Heap.SameBut.update ..).extBut.push _).push _))
theorem zpL{it:Addr}{sl i n:Nat}(hit:SIt s.heap it d sl i n ep){Q:Value->Shared->Prop}(h:Q (.ref it) s):wpAny (model prog w) A (pyIter (.ref it)) Q E s:=by
 refine wpAny_pyIter_slot hit.typeIs zjD (wpAny_call_entry zjD hit.typeIs zpJ ?_ (zpI _))
 show wpAny _ _ (ret (.ref it)) _ _ s
 exact wpAny_pure ⟨_,rfl,"set_iterator",_,hit.typeIs,zcR.lookup,h⟩
theorem zl7(L:Led w es t pl)(hh:A.handled=none)(I:Addr)(hne:d≠I):
  Walks prog w A I [I,d] [I] es.size (fun i v=>∃e,(zee w d ep es)[i]? =some e/\v=e.2) (fun i h=>SIt h I d (zcv w pl i) i es.size ep/\zhP h d es ep t) where
 sub:=fun b hb=>by simp at hb;simp[hb]
 frame:=fun _ _ _ st hk=>by
  obtain⟨⟨o,ho,r⟩,o2,ho2,r2⟩:=st
  exact⟨⟨o,hk I (by simp) o ho,r⟩,o2,hk d (by simp) o2 ho2,r2⟩
 item:=fun i s Q E hi st hQ=>by
  have hx:(zee w d ep es)[i]? =some ((zee w d ep es)[i]'(by rw[zeJ];exact hi)):=Array.getElem?_eq_getElem _
  refine zpK L st.1 st.2 hx fun h' hit' hs'=>?_
  obtain⟨o2,ho2,r2⟩:=st.2
  exact hQ _ h' s.toks ⟨_,hx,rfl⟩ ⟨hit',o2,hs'.extBut d o2 hne ho2,r2⟩ fun b o hb e=>hs'.extBut b o (fun h=>hb (by simp[h])) e
 done:=fun s Q E st hQ=>zrZ L hh st.1 st.2 fun h' he'=>hQ h' s.toks fun b o hb e=>he' b o (fun h=>hb (by simp[h])) e
 self:=fun _ _ _ _ st hQ=>zpL st.1 hQ
theorem znQ{r:Addr}{Q:Bool->Shared->Prop}(hT:s.TypeIs (.ref r) "set")(h:Q false s):wpAny (model prog w) A (Builtin.List.listLengthHint (.ref r)) Q E s:=by
 unfold Builtin.List.listLengthHint
 refine wpAny_bind (wpAny_specialOf hT PySem.F.slot_set_len.lookup ?_)
 generalize hid:("set.__len__":String)=id0
 wp_delta
 rw[show splitId id0=some ("set","__len__") from by subst hid;decide+kernel]
 subst hid
 refine wpAny_bind (wpAny_isInstance (T:="set") (b:=true) hT (by rw[isSubtype_type];kernel_rfl) ?_)
 refine wpAny_ite_split (fun hab=>absurd hab (by decide)) (fun _=>?_)
 refine wpAny_ite_split (fun _=>?_) (fun hab=>absurd (by decide+kernel) hab)
 refine wpAny_bind (wpAny_typeOf hT ?_)
 exact wpAny_pure h
theorem zpM(L:Led w es t pl):KdlSrc prog w "set" d d es.size (fun i v=>∃e,(zee w d ep es)[i]? =some e/\v=e.2) (fun h=>zhP h d es ep t) where
 type:=fun _ hm=>by obtain⟨o,ho,hx,_⟩:=hm;exact⟨o,ho,hx.1⟩
 there:=fun _ hm=>by obtain⟨o,ho,_⟩:=hm;exact⟨Heap.lt_size ho,Heap.lt_size ho⟩
 keep:=fun _ _ hm hk=>by obtain⟨o,ho,r⟩:=hm;exact⟨o,hk d (.inl rfl) o ho,r⟩
 notList:=by decide
 notTuple:=by decide
 hint:=fun _ _ _ _ hm hq=>by obtain⟨o,ho,hx,_⟩:=hm;exact znQ ⟨o,ho,hx.1⟩ hq
 iter:=fun A s hh hm=>by
  obtain⟨o,ho,hx,hd⟩:=id hm
  refine⟨_,_,fun _ _ hq=>znP L hm hq,zl7 L hh _ (Nat.ne_of_lt (Heap.lt_size ho)),⟨_,Heap.get?_push_size _ rfl,rfl,?_⟩,o,Heap.get?_push_of_some _ ho,hx,hd⟩
  unfold zcv
  split<;>rfl
end
end L2.LW
set_option maxHeartbeats 4000000
namespace L2.LW
open PySem PySem.Spec PySem.W PySem.Calls PyProof.Rows
noncomputable def ztG(w:World)(a:Addr)(as:List Addr):HO:=.ext fun h=>∃es ep t pl,zhP h a es ep t/\Led w es t pl/\es.toList.map (·.2)=as.map Value.ref
noncomputable def CA(H:Hp)(cs:List (Int×Int))(as:List Addr):Prop:=Paired (fun c a=>H a=some (.tup ((kC c).map kV))) cs as
theorem zl8: ∀cs:List (Int×Int),tups? ((cs.map fun c=>[c.1,c.2]).map kT)=some (cs.map fun c=>[c.1,c.2])
 |[]=>rfl
 |c::r=>by
  rw[List.map_cons,List.map_cons]
  show (ints? ([c.1,c.2].map D.int)).bind (fun x=>(tups? ((r.map fun c=>[c.1,c.2]).map kT)).map (x:: ·))=_
  rw[zl8 r];rfl
theorem ziT{α β:Type}{F:α->β->Prop}{bs bs':List β}(p:bs.Perm bs'): ∀{as:List α},Paired F as bs->∃as',as.Perm as'/\Paired F as' bs':=by
 induction p with
 |nil=>intro as h;exact⟨as,.refl _,h⟩
 |cons x p ih=>
  intro as h
  cases h with
  |cons h t=>
   obtain⟨as',p',h'⟩:=ih t
   exact⟨_::as',p'.cons _,.cons h h'⟩
 |swap x y l=>
  intro as h
  cases h with
  |cons h1 t=>
   cases t with
   |cons h2 t=>exact⟨_,List.Perm.swap ..,.cons h2 (.cons h1 t)⟩
 |trans p q ih1 ih2=>
  intro as h
  obtain⟨as1,p1,h1⟩:=ih1 h
  obtain⟨as2,p2,h2⟩:=ih2 h1
  exact⟨as2,p1.trans p2,h2⟩
theorem zgA{K:PySem.W.Frag}{W:Addr->Prop}{H:Hp}: ∀{cs:List (Int×Int)} {as:List Addr},CA H cs as->Reps K W H ((cs.map fun c=>[c.1,c.2]).map kT) (as.map V.ref)/\Vals (as.map V.ref) (as.map Value.ref)/\as.length=cs.length
 |_,_,.nil=>⟨.nil,.nil,rfl⟩
 |_,_,.cons h t=>by
  obtain⟨h1,h2,h3⟩:=zgA (K:=K) (W:=W) t
  exact⟨.cons (.tup (xs:=[_,_].map V.int) h (zhF _)) h1,.cons rfl h2,by simp[h3]⟩
section
variable {X:Cx}
theorem zr0{H:Hp}: ∀{ys:List (List Key×Addr)} {cs:List (Int×Int)},ys.map (·.1)=cs.map kC->(∀z∈ys,H z.2=some (.tup (z.1.map kV)))->CA H cs (ys.map (·.2))
 |[],[],_,_=>.nil
 |[],_::_,e,_=>by cases e
 |_::_,[],e,_=>by cases e
 |y::ys,c::cs,e,h=>by
  rw[List.map_cons,List.map_cons] at e
  injection e with e1 e2
  refine .cons ?_ (zr0 e2 fun z hz=>h z (List.mem_cons_of_mem _ hz))
  have:=h y List.mem_cons_self
  rw[e1] at this
  exact this
theorem zl9{H H':Hp}(s:Same H H'): ∀{cs:List (Int×Int)} {as:List Addr},CA H cs as->CA H' cs as
 |_,_,.nil=>.nil
 |_,_,.cons h t=>.cons (s _ _ h) (zl9 s t)
theorem zem{α β:Type}{f:α->β}: ∀{l:List β} {m:List α},l.Perm (m.map f)->∃m':List α,m'.Perm m/\l=m'.map f:=fun {l m} p=>by
 have key: ∀{l l':List β},l.Perm l'->∀m:List α,l'=m.map f->∃m':List α,m'.Perm m/\l=m'.map f:=by
  intro l l' p
  induction p with
  |nil=>intro m e;exact⟨m,.refl _,e⟩
  |cons x p ih=>
   intro m e
   cases m with
   |nil=>cases e
   |cons y m=>
    rw[List.map_cons] at e
    injection e with e1 e2
    obtain⟨m',p',e'⟩:=ih m e2
    exact⟨y::m',p'.cons y,by rw[List.map_cons,e1,e']⟩
  |swap x y l=>
   intro m e
   cases m with
   |nil=>cases e
   |cons a m=>
    cases m with
    |nil=>cases e
    |cons b m=>
     simp only[List.map_cons,List.cons.injEq] at e
     obtain⟨e1,e2,e3⟩:=e
     exact⟨b::a::m,List.Perm.swap ..,by rw[List.map_cons,List.map_cons,e1,e2,e3]⟩
  |trans p q ih1 ih2=>
   intro m e
   obtain⟨m2,p2,e2⟩:=ih2 m e
   obtain⟨m1,p1,e1⟩:=ih1 m2 e2
   exact⟨m1,p1.trans p2,e1⟩
 exact key p m rfl
theorem zpN(hc:X.calm=true)(hu:X.A.units+8<cLine):CallR X (.type "set") (fun vs H Q=>∃l xs cs,vs=[.ref l]/\SqL X.K H l xs/\CL H cs xs/\∀p as cs',H p=none->cs'.Perm (nub cs)->CA H cs' as->Q (.ref p) (upd H p (ztG X.w p as))):=by
 rintro pins s σ H vs us Q I rv ⟨l,xs,cs,rfl,sq,cl,q⟩
 cases rv with
 |cons r1 rv=>
 cases rv
 cases r1
 refine zl1 hc hu I sq cl fun h' tk ys C ny pm keep=>?_
 obtain⟨cs',pc,ec⟩:=zem pm
 have ca:=zr0 (H:=H) ec fun z hz=>(ny z hz).2
 have fr:H s.heap.objs.size=none:=I.hok.fresh (Nat.le_refl _)
 refine⟨.ref s.heap.objs.size,upd H s.heap.objs.size (ztG X.w s.heap.objs.size (ys.map (·.2))),I.laid (t':=tk) keep (Nat.le_refl _) ?_,rfl,q _ _ cs' fr pc ca⟩
 obtain⟨o,es,ep,t,pl,ho,ex,hd,he,T,_,_,fl,fp⟩:=C.ex
 have L:Led X.w es t pl:=by
  refine⟨zgz T (by rw[he];simp[hsC]),?_,T.plc,T.ris,by rw[T.len,<-Array.length_toList,he];simp[hsC]⟩
  cases hb:zba X.w with
  |true=>exact .inl rfl
  |false=>exact .inr ⟨by rw[fl,hb];rfl,fp fun z hz=>(ny z hz).1⟩
 refine⟨⟨es,ep,t,pl,⟨o,ho,ex,hd⟩,L,by rw[he,List.map_map,List.map_map];rfl⟩,⟨o,ho⟩,fun h1 h2 p st=>?_⟩
 obtain⟨es1,ep1,t1,pl1,⟨o1,a1,a2⟩,a3⟩:=p
 exact⟨es1,ep1,t1,pl1,⟨o1,st _ a1,a2⟩,a3⟩
theorem znR(hc:X.calm=true):CallR X (.builtin "sorted") (fun vs H Q=>∃p as cs cs0,vs=[.ref p]/\H p=some (ztG X.w p as)/\CA H cs as/\cs.Perm cs0/\cs0.Nodup/\cs0.length<64/\
  ∀p' xs,H p'=none->(∀W:Addr->Prop,Reps X.K W H ((zc9 (cs0.map fun c=>[c.1,c.2])).map kT) xs)->Q (.ref p') (upd H p' (.lst xs))):=by
 rintro pins s σ H vs us Q I rv ⟨p,as,cs,cs0,rfl,hp,ca,p0,nd0,lt0,q⟩
 have nd:=p0.nodup_iff.mpr nd0
 have lt:cs.length<64:=by rw[p0.length_eq];exact lt0
 obtain⟨u,rfl,ru⟩:=zhd rv
 cases ru
 obtain⟨⟨es,ep,t,pl,S,L,ee⟩,_⟩:=(show ObjOk X.prog X.w H s.heap p (ztG X.w p as) from I.hok p _ hp)
 have al:as.length=cs.length:=(zgA (K:=X.K) (W:=fun _=>False) ca).2.2
 have esz:es.size=cs.length:=by
  have:=congrArg List.length ee
  rw[List.length_map,List.length_map,Array.length_toList] at this
  omega
 refine Calls.call_function_entry kind_sorted plain_sorted entry_sorted (args_sorted1 _) ?_
 unfold Builtin.«sorted»
 refine wpAny_bind (m:=checkCount "sorted" 1 1 _) (wpAny_pure ?_)
 refine wpAny_bind (kdu_collect (A:=X.A.in1) (zpM L) (I.ok.hd hc) S (by rw[sizeLine_eq];omega) fun h2 tk acc hk hacc=>?_)
 have ea:acc.toList=(zee X.w p ep es).toList.map (·.2):=by
  apply List.ext_getElem?
  intro j
  have sz:acc.size=es.size:=hacc.1
  by_cases hj:j<acc.size
  ·have h3:acc.toList[j]? =some acc[j]:=by simp[hj]
   obtain⟨e,e1,e2⟩:=hacc.2 j acc[j] (by simp[hj])
   rw[h3,e2,List.getElem?_map,Array.getElem?_toList,e1];rfl
  ·rw[List.getElem?_eq_none (by simpa using hj),List.getElem?_eq_none (by rw[List.length_map,Array.length_toList,zeJ];omega)]
 have pa:acc.toList.Perm (as.map Value.ref):=by
  rw[ea,<-ee]
  exact (zjF X.w p ep es).map _
 obtain⟨as2,pas,eas⟩:=zem pa
 obtain⟨cs2,pcs,ca2⟩:=ziT pas.symm ca
 rw[eas]
 obtain⟨ns,hns⟩: ∃ns,ns=cs2.map fun c=>[c.1,c.2]:=⟨_,rfl⟩
 obtain⟨rp,rv',zl⟩:=zgA (K:=X.K) (W:=fun _=>False) ca2
 rw[<-hns] at rp
 have nd2:ns.Nodup:=by
  rw[hns]
  unfold List.Nodup
  rw[List.pairwise_map]
  refine (pcs.nodup_iff.mp nd).imp fun {a b} h e=>h ?_
  simp only[List.cons.injEq,and_true] at e
  exact Prod.ext e.1 e.2
 have hks:tups? (ns.map kT)=some ns:=by
  rw[hns];exact zl8 cs2
 have hne': ∀k∈ns,k≠[]:=fun k hk e=>by
  rw[hns] at hk
  obtain⟨c,_,e2⟩:=List.mem_map.mp hk
  rw[e] at e2;cases e2
 have nl:ns.length=cs.length:=by rw[hns,List.length_map];exact pcs.symm.length_eq
 have es2:zc9 ns=zc9 (cs0.map fun c=>[c.1,c.2]):=by
  rw[hns] at nd2⊢
  refine zgu (((zbB _).trans ((pcs.symm.trans p0).map _)).trans (zbB _).symm) (zcQ nd2) (zcQ ?_)
  exact ((pcs.symm.trans p0).map (fun c=>[c.1,c.2])).nodup_iff.mp nd2
 have hT:=ziQ I rp rv' hks
 obtain⟨r,f1,f2,f3,f4⟩:=zkg (prog:=X.prog) (w:=X.w) (A:=X.A.in1.in1) hT nd2 hne'
 have il:(as2.map Value.ref).length=ns.length:=by rw[List.length_map,zl,hns,List.length_map]
 refine wpAny_bind (wpAny_newList ?_ (by rw[il,sizeLine_eq];omega))
 generalize hits:as2.map Value.ref=its at*
 have hoL:(h2.push (seqObj "list" its.toArray 0)).get? h2.objs.size=some (seqObj "list" its.toArray 0):=Heap.get?_push_size _ rfl
 have keep: ∀b q,s.heap.get? b=some q->(h2.push (seqObj "list" its.toArray 0)).get? b=some q:=fun b q e=>Heap.get?_push_of_some _ (hk b q e)
 have nea: ∀b q,s.heap.get? b=some q->b≠h2.objs.size:=fun b q e=>Nat.ne_of_lt (Heap.lt_size (hk b q e))
 have I2:=I.kept (t':=tk) hk
 show wpAny _ _ _ _ _ { s with heap:=h2.push (seqObj "list" its.toArray 0),toks:=tk }
 refine wpAny_bind (wpAny_holding (wpAny_call_entry slot_list_sort ⟨_,hoL,rfl⟩ entry_list_sort (zhC (s:={ s with heap:=h2.push (seqObj "list" its.toArray 0),toks:=tk }) (κ:=tuples' (Value.type "int" != Value.type "tuple")) (r:=r) hoL (by omega) f1 (fun z2 h' tk hk'=>?_) (fun i j h' tk C hi hj hk' q=>?_) fun pm tk hp hu=>⟨_,rfl,?_⟩) (args_list_sort _)))
 ·exact f2 z2 h' tk fun b o e=>hk' b o (nea b o e) (keep b o e)
 ·exact f3 i j h' tk C hi hj (fun b o e=>hk' b o (nea b o e) (keep b o e)) q
 ·obtain⟨heq,hlt⟩:=f4 pm hp hu
  refine wpAny_pure ⟨_,rfl,?_⟩
  obtain⟨e,he⟩:=sortedHeap_at (out:=(pm.toList.map fun i=>its.getD i Value.none).toArray) hoL
  have fr:H h2.objs.size=Option.none:=I2.hok.fresh (Nat.le_refl _)
  have hds:(pm.toList.map fun i=>(ns.map kT).getD i .non)=(zc9 ns).map kT:=by
   rw[<-heq,List.map_map]
   apply List.map_congr_left
   intro i hi
   have hi':=hlt i hi
   show (ns.map kT).getD i .non=kT (ns.getD i [])
   rw[zaM (x:=kT (ns[i]'(by omega))) (by simp[show i<ns.length by omega]),zaM (x:=ns[i]'(by omega)) (by simp)]
  have hvals:=zhD rv' pm.toList fun i hi=>hlt i hi
  refine⟨.ref h2.objs.size,_,I2.laid (a:=h2.objs.size) (h':=sortedHeap (h2.push (seqObj "list" its.toArray 0)) h2.objs.size its (pm.toList.map fun i=>its.getD i Value.none).toArray) (o:=.lst (pm.toList.map fun i=>(as2.map V.ref).getD i .non)) (t':=tk) (fun b o q=>?_) (Nat.le_refl _) ⟨?_,_,e,hvals,?_⟩,rfl,q _ _ fr fun W=>?_⟩
  ·have lt:b<h2.objs.size:=Heap.lt_size q
   have q':=Heap.get?_push_of_some (seqObj "list" its.toArray 0) q
   rw[sortedHeap_old (Nat.ne_of_lt lt) (Heap.lt_size q')];exact q'
  ·rw[List.length_map,Array.length_toList,hp.size];exact Nat.le_of_lt (zcp (by omega))
  ·simpa [seqObj] using he
  ·have hrep:=zhE (zgA (K:=X.K) (W:=W) ca2).1 pm.toList fun i hi=>by have:=hlt i hi;rw[<-hns,List.length_map];omega
   rw[<-hns,hds,es2] at hrep
   exact hrep
end
section
variable {X:Cx} {fn:Nat->List D->Option SV} {a:Expr} {ca:E} {pos p p2 pos2:Pos}
theorem zr1(hc:X.calm=true)(hu:X.A.units+8<cLine)(hg:Gl X "sorted")(hm:X.mg "sorted"=Option.none)(hg2:Gl X "set")(hm2:X.mg "set"=Option.none)(ha:IE X fn a ca)
  (h1:starEach [a] X.env=(false,eval a X.env)::starEach [] X.env) (h2:starEach [Expr.Call (.Name "set" p2) [a] [] pos2] X.env=(false,eval (Expr.Call (.Name "set" p2) [a] [] pos2) X.env)::starEach [] X.env):
  IE X fn (.Call (.Name "sorted" p) [.Call (.Name "set" p2) [a] [] pos2] [] pos) (.prim .sset (.cons ca .nil)):=
 .mk <| (zf6 (znR hc) hg hm PyProof.Rows.boot_sorted (zd5 (zhj (zpN hc hu) hg2 hm2 PyProof.Rows.Boot.«set» (zd5 ha.v zhe h1) (by decide) (by decide) h1 zaj) zhe h2) (by decide) (by decide) h2 zaj).imp fun σ H Q zz3=>by
  obtain⟨W,ρ,r,hR,he,q⟩:=zz3
  simp only[zb1,zby,zbc,jo1,jo2] at he
  obtain⟨rs,⟨r1,e1,rs',e3,rfl⟩,e4⟩:=he
  cases e3
  refine⟨W,ρ,r1,hR,e1,fun v1 H1 s1 f1=>?_⟩
  have hsee:=zgf (.cons f1 .nil)
  have e5:zk9 [zbu r1]=some r:=e4
  unfold zk9 at e5
  split at e5
  case h_2=>cases e5
  rename_i ds z
  have z1:zbu r1= .lst ds:=by simpa using z
  obtain⟨d0,ed,hs⟩:=pr1 hsee
  simp at ed
  subst ed
  rw[z1] at hs
  obtain⟨l,xs,rfl,sq,rp⟩:=hs.lst
  obtain⟨cs,ec,er⟩:=jo1.mp e5
  split at er
  case isFalse=>cases er
  rename_i l64
  cases er
  have cl:=zrX rp ec
  refine⟨l,xs,cs,rfl,sq,cl,fun p0 as cs' hp0 pc cA=>⟨p0,as,cs',nub cs,rfl,za8,zl9 (zaQ hp0 _) cA,pc,zca,l64,fun p' ys hp' hr=>?_⟩⟩
  exact q _ _ ((s1.trans (zaQ hp0 _)).trans (zaQ hp' _)) ((zcr hp' (hr W)).back (s1.trans (zaQ hp0 _)))
end
end L2.LW
namespace L2.LW
open PySem
section
variable {fn:Nat->List D->Option SV} {fa:Nat->List D->Option Ans} {fuel:Nat} {ρ:Env}
@[simp] theorem zvU{i:Int}:evE fn (.int i) ρ=some (.val (.int i)):=rfl
@[simp] theorem zw3{i:Bool}:evE fn (.bl i) ρ=some (.val (.bl i)):=rfl
@[simp] theorem zvV:evE fn .non ρ=some (.val .non):=rfl
@[simp] theorem zvW{i:Str}:evE fn (.str i) ρ=some (.val (.str i)):=rfl
@[simp] theorem zma{i:Nat}:evE fn (.var i) ρ=look ρ i:=rfl
@[simp] theorem ztH{p:Prim}{es:Es}:evE fn (.prim p es) ρ=(zbZ fn es ρ).bind fun rs=>zah p (rs.map zbu):=rfl
@[simp] theorem zvX{es:Es}:evE fn (.tup es) ρ=(zbZ fn es ρ).bind fun rs=>(zhn rs).map fun ds=>.val (.tup ds):=rfl
@[simp] theorem zvY{es:Es}:evE fn (.lst es) ρ=(zbZ fn es ρ).bind fun rs=>(zhn rs).map fun ds=>.obj true (.lst ds):=rfl
noncomputable def zvZ(r:SV)(k:Option SV):Option SV:=match r with
 | .val (.bl true)=>k
 | .val (.bl false)=>some (.val (.bl false))
 |_=>none
noncomputable def orV(r:SV)(k:Option SV):Option SV:=match r with
 | .val (.bl true)=>some (.val (.bl true))
 | .val (.bl false)=>k
 |_=>none
noncomputable def zw4(r:SV):Option SV:=match r with
 | .val (.bl b)=>some (.val (.bl (!b)))
 |_=>none
@[simp] theorem zv0{b:Bool}{k:Option SV}:zvZ (.val (.bl b)) k=if b then k else some (.val (.bl false)):=by cases b<;>rfl
@[simp] theorem zw5{b:Bool}{k:Option SV}:orV (.val (.bl b)) k=if b then some (.val (.bl true)) else k:=by cases b<;>rfl
@[simp] theorem zv1{b:Bool}:zw4 (.val (.bl b))=some (.val (.bl (!b))):=rfl
@[simp] theorem zv2{a b:E}:evE fn (.and a b) ρ=(evE fn a ρ).bind fun r=>zvZ r (evE fn b ρ):=rfl
@[simp] theorem zw6{a b:E}:evE fn (.or a b) ρ=(evE fn a ρ).bind fun r=>orV r (evE fn b ρ):=rfl
@[simp] theorem zv3{a:E}:evE fn (.not a) ρ=(evE fn a ρ).bind zw4:=rfl
@[simp] theorem zr2{p q:Prim}{a b c:E}:evE fn (.chain p q a b c) ρ=(evE fn a ρ).bind fun x=>(evE fn b ρ).bind fun y=>(zah p [zbu x,zbu y]).bind fun z=>zvZ z ((evE fn c ρ).bind fun w=>zah q [zbu y,zbu w]):=rfl
@[simp] theorem zv4{c a b:E}:evE fn (.ite c a b) ρ=(evT fn c ρ).bind fun k=>if k then evE fn a ρ else evE fn b ρ:=rfl
@[simp] theorem ztI{f:Nat}{es:Es}:evE fn (.call f es) ρ=(zbZ fn es ρ).bind fun rs=>zd7 rs (fn f (rs.map zbu)):=rfl
theorem znS{g:Bool}{src:Es}{cond elt:E}:evE fn (.comp g src cond elt) ρ=(zbZ fn src ρ).bind fun rs=>(zaE g rs).bind fun ds=>
  if ds.length<=line then (zco (fun d=>evT fn cond (some (.val d)::ρ)) (fun d=>evE fn elt (some (.val d)::ρ)) ds).map fun l=>.obj true (.lst l) else none:=rfl
@[simp] theorem ztJ{t:Bool}:evE fn (.dnew t) ρ=some (.obj true (.dct t [] [])):=rfl
@[simp] theorem ztK{t:Bool}{k v:E}:evE fn (.done t k v) ρ=(evE fn k ρ).bind fun x=>(evE fn v ρ).bind fun y=>(toD x).bind fun a=>(toD y).bind fun b=>if zbx t a then some (.obj true (.dct t [a] [b])) else none:=rfl
theorem znT{g:Bool}{src:Es}{cond elt:E}:evT fn (.comp g src cond elt) ρ=(evE fn (.comp g src cond elt) ρ).bind zbn:=by
 rw[zle,ziC]
 cases zbZ fn src ρ with
 |none=>rfl
 |some rs=>
  simp only[Option.bind_some]
  cases zaE g rs with
  |none=>rfl
  |some ds=>
   simp only[Option.bind_some]
   split
   ·cases zco (fun d=>evT fn cond (some (.val d)::ρ)) (fun d=>evE fn elt (some (.val d)::ρ)) ds<;>rfl
   ·rfl
@[simp] theorem zjG:zbZ fn .nil ρ=some []:=rfl
@[simp] theorem zhQ{e:E}{es:Es}:zbZ fn (.cons e es) ρ=(evE fn e ρ).bind fun r=>(zbZ fn es ρ).map (r:: ·):=rfl
@[simp] theorem zv5{a b:E}:evT fn (.and a b) ρ=(evT fn a ρ).bind fun k=>if k then evT fn b ρ else some false:=rfl
@[simp] theorem zw7{a b:E}:evT fn (.or a b) ρ=(evT fn a ρ).bind fun k=>if k then some true else evT fn b ρ:=rfl
@[simp] theorem zv6{a:E}:evT fn (.not a) ρ=(evT fn a ρ).map (!·):=rfl
@[simp] theorem zv7{i:Int}:evT fn (.int i) ρ=some (i != 0):=rfl
@[simp] theorem zr3{i:Bool}:evT fn (.bl i) ρ=some i:=rfl
@[simp] theorem zv8{i:Nat}:evT fn (.var i) ρ=(look ρ i).bind zbn:=rfl
@[simp] theorem ztL{p:Prim}{es:Es}:evT fn (.prim p es) ρ=(zbZ fn es ρ).bind fun rs=>(zah p (rs.map zbu)).bind zbn:=rfl
@[simp] theorem ztM{f:Nat}{es:Es}:evT fn (.call f es) ρ=(zbZ fn es ρ).bind fun rs=>(zd7 rs (fn f (rs.map zbu))).bind zbn:=rfl
noncomputable def zw8(r:SV)(k:Option Bool):Option Bool:=match r with
 | .val (.bl true)=>k
 | .val (.bl false)=>some false
 |_=>none
@[simp] theorem zv9{b:Bool}{k:Option Bool}:zw8 (.val (.bl b)) k=if b then k else some false:=by cases b<;>rfl
@[simp] theorem zr4{p q:Prim}{a b c:E}:evT fn (.chain p q a b c) ρ=(evE fn a ρ).bind fun x=>(evE fn b ρ).bind fun y=>(zah p [zbu x,zbu y]).bind fun z=>zw8 z ((evE fn c ρ).bind fun w=>(zah q [zbu y,zbu w]).bind zbn):=rfl
@[simp] theorem ztN{e:E}:exS fa fuel (.expr e) ρ=(evE (prj fa) e ρ).map fun _=>(.nx,ρ):=rfl
@[simp] theorem zpO{i:Nat}{e:E}:exS fa fuel (.asg i e) ρ=(evE (prj fa) e ρ).bind fun r=>if r.lent|| !free ρ i then none else some (.nx,ρ.set i (some r)):=rfl
noncomputable def za1:Option (Option SV)->Bool
 |some (some (.io _))=>false
 |_=>true
@[simp] theorem zmb{i:Nat}:free ρ i=za1 ρ[i]? :=by
 unfold free za1
 rcases h:ρ[i]? with _|_|(d|⟨o,d⟩|d)<;>rfl
@[simp] theorem zqk:za1 none=true:=rfl
@[simp] theorem ztO:za1 (some none)=true:=rfl
@[simp] theorem zbf{d:D}:za1 (some (some (.val d)))=true:=rfl
@[simp] theorem zr5{o:Bool}{d:D}:za1 (some (some (.obj o d)))=true:=rfl
noncomputable def zwa(ρ:Env)(i j:Nat):Option (Option SV)->Option (Fl×Env)
 |some (some (.val d))=>some (.nx,ρ.set i (some (.val d)))
 |some (some (.obj _ d))=>some (.nx,(ρ.set j (some (.val d))).set i (some (.val d)))
 |_=>none
@[simp] theorem ztP{i j:Nat}{d:D}:zwa ρ i j (some (some (.val d)))=some (.nx,ρ.set i (some (.val d))):=rfl
@[simp] theorem ztQ{i j:Nat}{o:Bool}{d:D}:zwa ρ i j (some (some (.obj o d)))=some (.nx,(ρ.set j (some (.val d))).set i (some (.val d))):=rfl
@[simp] theorem zwb{i j:Nat}:exS fa fuel (.mov i j) ρ=if free ρ i then zwa ρ i j ρ[j]? else none:=by
 rw[zoo]
 rcases h:ρ[j]? with _|_|(d|⟨o,d⟩|d)<;>rfl
noncomputable def zql(ρ:Env)(j:Nat):Option (Option SV)->Option (List D×Env)
 |some (some (.val d))=>(zga d).map fun l=>(l,ρ)
 |some (some (.obj _ (.lst ds)))=>some (ds,ρ.set j (some (.val (.lst ds))))
 |_=>none
@[simp] theorem ztR{j:Nat}{d:D}:zql ρ j (some (some (.val d)))=(zga d).map fun l=>(l,ρ):=rfl
@[simp] theorem ztS{j:Nat}{o:Bool}{ds:List D}:zql ρ j (some (some (.obj o (.lst ds))))=some (ds,ρ.set j (some (.val (.lst ds)))):=rfl
@[simp] theorem zr6{j:Nat}:zfE ρ j=zql ρ j ρ[j]? :=by
 unfold zfE zql
 rcases h:ρ[j]? with _|_|(d|⟨o,d⟩|d)<;>rfl
@[simp] theorem zr7{l:List D}:zga (.tup l)=some l:=rfl
@[simp] theorem zr8{l:List D}:zga (.lst l)=some l:=rfl
noncomputable def zxY(ρ:Env)(i:Nat)(x:SV)(r:Option SV):Option D->Option (Fl×Env)
 |some (.lst ds)=>r.bind fun r=>(toD r).bind fun d=>if ds.length<line then some (.nx,ρ.set i (some (x.put (.lst (ds++[d]))))) else none
 |_=>none
noncomputable def ztT(ρ:Env)(i:Nat)(r:Option SV):Option (Option SV)->Option (Fl×Env)
 |some (some x)=>zxY ρ i x r x.cell
 |_=>none
@[simp] theorem zjH{i:Nat}{r:Option SV}{ds:List D}:ztT ρ i r (some (some (.obj true (.lst ds))))=r.bind fun r=>(toD r).bind fun d=>if ds.length<line then some (.nx,ρ.set i (some (.obj true (.lst (ds++[d]))))) else none:=rfl
@[simp] theorem zwc{i:Nat}{e:E}:exS fa fuel (.app i e) ρ=ztT ρ i (evE (prj fa) e ρ) ρ[i]? :=by
 rw[zop]
 rcases h:ρ[i]? with _|_|(d|⟨_|_,d⟩|d)
 ·rfl
 ·rfl
 ·rfl
 ·rfl
 ·cases d<;>rfl
 ·cases d<;>rfl
noncomputable def zwd(ρ:Env)(i:Nat)(x:SV)(rk rv:Option SV):Option D->Option (Fl×Env)
 |some (.dct t ks vs)=>rv.bind fun r=>(toD r).bind fun d=>rk.bind fun r=>(toD r).bind fun a=>if zbx t a&&decide (ks.length<line) then some (.nx,ρ.set i (some (x.put (zkH t ks vs a d)))) else none
 |_=>none
noncomputable def zmc(ρ:Env)(i:Nat)(rk rv:Option SV):Option (Option SV)->Option (Fl×Env)
 |some (some x)=>zwd ρ i x rk rv x.cell
 |_=>none
@[simp] theorem zmd{i:Nat}{rk rv:Option SV}{t:Bool}{ks vs:List D}:zmc ρ i rk rv (some (some (.obj true (.dct t ks vs))))=rv.bind fun r=>(toD r).bind fun d=>rk.bind fun r=>(toD r).bind fun a=>if zbx t a&&decide (ks.length<line) then some (.nx,ρ.set i (some (.obj true (zkH t ks vs a d)))) else none:=rfl
@[simp] theorem ztU{i:Nat}{rk rv:Option SV}{t:Bool}{ks vs:List D}:zmc ρ i rk rv (some (some (.io (.dct t ks vs))))=rv.bind fun r=>(toD r).bind fun d=>rk.bind fun r=>(toD r).bind fun a=>if zbx t a&&decide (ks.length<line) then some (.nx,ρ.set i (some (.io (zkH t ks vs a d)))) else none:=rfl
@[simp] theorem ztV{i:Nat}{k v:E}:exS fa fuel (.dset i k v) ρ=zmc ρ i (evE (prj fa) k ρ) (evE (prj fa) v ρ) ρ[i]? :=by
 rw[zlf]
 rcases h:ρ[i]? with _|_|(d|⟨_|_,d⟩|d)
 ·rfl
 ·rfl
 ·rfl
 ·rfl
 ·cases d<;>rfl
 ·cases d<;>rfl
@[simp] theorem ztW{i j k:Nat}{e:E}:exS fa fuel (.unp3 i j k e) ρ=(evE (prj fa) e ρ).bind (zrn ρ i j k):=rfl
@[simp] theorem ztX{i j:Nat}:exS fa fuel (.dupd i j) ρ=zrm ρ i j:=rfl
@[simp] theorem zr9{m:M}:exS fa fuel (.exprM m) ρ=(evM fa m ρ).map fun x=>(.nx,x.2):=rfl
@[simp] theorem ztY{i:Nat}{m:M}:exS fa fuel (.asgM i m) ρ=(evM fa m ρ).bind fun x=>if x.1.lent|| !free x.2 i then none else some (.nx,x.2.set i (some (.val (zbu x.1)))):=rfl
@[simp] theorem zwe{c:E}{m:M}{a b:Ss}:exS fa fuel (.ifO c m a b) ρ=(evT (prj fa) c ρ).bind fun k=>if k then zaV fa fuel a ρ else (evM fa m ρ).bind fun x=>(zbn x.1).bind fun k=>if k then zaV fa fuel a x.2 else zaV fa fuel b x.2:=rfl
noncomputable def zoC(ρ:Env)(xs:List AV):Ans->Option (SV×Env)
 | .ok r outs=>if r.fine&&outs.all zb5 then (zio ρ xs outs).map fun ρ'=>(r,ρ') else none
 | .ex _=>none
@[simp] theorem zsa{xs:List AV}{r:SV}{outs:List D}:zoC ρ xs (.ok r outs)=if r.fine&&outs.all zb5 then (zio ρ xs outs).map fun ρ'=>(r,ρ') else none:=rfl
@[simp] theorem ztZ{f:Nat}{ma:MA}:evM fa (.call f ma) ρ=(zkI (prj fa) ma ρ).bind fun xs=>(fa f (xs.map zqj)).bind (zoC ρ xs):=rfl
noncomputable def zw9(p:Prim)(k:Option (SV×Env)):SV->Option (SV×Env)
 | .val d=>if plain d then k.bind fun y=>(zah p [d,zbu y.1]).map fun z=>(z,y.2) else none
 |_=>none
@[simp] theorem zt0{p:Prim}{k:Option (SV×Env)}{d:D}:zw9 p k (.val d)=if plain d then k.bind fun y=>(zah p [d,zbu y.1]).map fun z=>(z,y.2) else none:=rfl
@[simp] theorem zxa{p:Prim}{a:E}{m:M}:evM fa (.op p a m) ρ=(evE (prj fa) a ρ).bind (zw9 p (evM fa m ρ)):=rfl
@[simp] theorem zt1:zkI fn .nil ρ=some []:=rfl
@[simp] theorem zxb{c:E}{r:MA}:zkI fn (.e c r) ρ=(evE fn c ρ).bind fun x=>(zla x).bind fun a=>(zkI fn r ρ).map (a:: ·):=rfl
noncomputable def znU:Option (Option SV)->Option D
 |some (some x)=>x.cell
 |_=>none
@[simp] theorem zqm{i:Nat}:zeS ρ i=znU ρ[i]? :=by
 unfold zeS znU
 rcases h:ρ[i]? with _|_|(d|⟨_|_,d⟩|d)<;>rfl
@[simp] theorem zsb{d:D}:znU (some (some (.obj true d)))=some d:=rfl
@[simp] theorem zt2{d:D}:znU (some (some (.io d)))=some d:=rfl
@[simp] theorem zxc{i:Nat}{r:MA}:zkI fn (.s i r) ρ=(zeS ρ i).bind fun d=>if zka d then (zkI fn r ρ).map (.s i d:: ·) else none:=rfl
@[simp] theorem zxd{t:Bool}{r:MA}:zkI fn (.n t r) ρ=(zkI fn r ρ).map (.n t:: ·):=rfl
@[simp] theorem zt3:zio ρ [] []=some ρ:=rfl
@[simp] theorem zxe{i:Nat}{d d':D}{r:List AV}{ds:List D}:zio ρ (.s i d::r) (d'::ds)=zio (ztD ρ i d') r ds:=rfl
@[simp] theorem zxf{t:Bool}{d':D}{r:List AV}{ds:List D}:zio ρ (.n t::r) (d'::ds)=zio ρ r ds:=rfl
@[simp] theorem zxg{d:D}{r:List AV}{ds:List D}:zio ρ (.e d::r) ds=zio ρ r ds:=rfl
@[simp] theorem zxh{d:List D}{r:List AV}{ds:List D}:zio ρ (.l d::r) ds=zio ρ r ds:=rfl
noncomputable def znV(ρ:Env)(i:Nat)(d:D):Option (Option SV)->Env
 |some (some x)=>ρ.set i (some (x.put d))
 |_=>ρ
@[simp] theorem zwf{i:Nat}{d:D}:ztD ρ i d=znV ρ i d ρ[i]? :=by
 unfold ztD znV
 rcases h:ρ[i]? with _|_|(d|⟨_|_,d⟩|d)<;>rfl
@[simp] theorem zsc{i:Nat}{d d0:D}:znV ρ i d (some (some (.obj true d0)))=ρ.set i (some (.obj true d)):=rfl
@[simp] theorem zt4{i:Nat}{d d0:D}:znV ρ i d (some (some (.io d0)))=ρ.set i (some (.io d)):=rfl
@[simp] theorem zxi{d:D}:zqj (.e d)=d:=rfl
@[simp] theorem zxj{d:List D}:zqj (.l d)= .lst d:=rfl
@[simp] theorem zxk{i:Nat}{d:D}:zqj (.s i d)=d:=rfl
@[simp] theorem zxl{t:Bool}:zqj (.n t)= .dct t [] []:=rfl
@[simp] theorem zt5{l:List D}:zla (.val (.tup l))=if plain (.tup l) then some (.e (.tup l)) else none:=rfl
@[simp] theorem zt6{i:Int}:zla (.val (.int i))=some (.e (.int i)):=by simp[zla,plain]
@[simp] theorem zwg{i:Bool}:zla (.val (.bl i))=some (.e (.bl i)):=by simp[zla,plain]
@[simp] theorem zt7{l:List D}:zla (.val (.lst l))=if zbe l then some (.l l) else none:=rfl
@[simp] theorem zt8{o:Bool}{l:List D}:zla (.obj o (.lst l))=if zbe l then some (.l l) else none:=rfl
@[simp] theorem zsd{t:Bool}{ks vs:List D}:zka (.dct t ks vs)=zbe vs:=rfl
@[simp] theorem zqn{t:Bool}{ks vs:List D}:zb5 (.dct t ks vs)=zbe vs:=rfl
@[simp] theorem zqo{vs:List D}:zb5 (.lst vs)=zbe vs:=rfl
@[simp] theorem zt9{d:D}:SV.fine (.val d)=plain d:=rfl
@[simp] theorem zua{d:D}:SV.fine (.obj true d)=zb5 d:=rfl
@[simp] theorem zwh{e:E}:exS fa fuel (.ret e) ρ=(evE (prj fa) e ρ).bind fun r=>if r.lent then none else some (.rt r,ρ):=rfl
noncomputable def zwi(ρ:Env)(i:Nat):Option (Option SV)->Option (Fl×Env)
 |some (some (.val d))=>some (.rt (.val d),ρ)
 |some (some (.obj _ d))=>some (.rt (.obj true d),ρ.set i none)
 |_=>none
@[simp] theorem zub{i:Nat}{d:D}:zwi ρ i (some (some (.val d)))=some (.rt (.val d),ρ):=rfl
@[simp] theorem zuc{i:Nat}{o:Bool}{d:D}:zwi ρ i (some (some (.obj o d)))=some (.rt (.obj true d),ρ.set i none):=rfl
@[simp] theorem zud{i:Nat}:exS fa fuel (.retV i) ρ=zwi ρ i ρ[i]? :=by
 rw[zlg]
 rcases h:ρ[i]? with _|_|(d|⟨o,d⟩|d)<;>rfl
@[simp] theorem zue:exS fa fuel .retN ρ=some (.rt (.val .non),ρ):=rfl
@[simp] theorem zwj{c:E}{a b:Ss}:exS fa fuel (.ifs c a b) ρ=(evT (prj fa) c ρ).bind fun k=>if k then zaV fa fuel a ρ else zaV fa fuel b ρ:=rfl
theorem ziU{i:Nat}{g:Bool}{src:Es}{body:Ss}:exS fa fuel (.for_ i g src body) ρ=(zbZ (prj fa) src ρ).bind fun rs=>if rs.any SV.lent|| !free ρ i then none else (zaE g rs).bind fun ds=>zeT i (zaV fa fuel body) ds ρ:=rfl
theorem zgB{i j:Nat}{body:Ss}:exS fa fuel (.forV i j body) ρ=if free ρ i then (zfE ρ j).bind fun x=>zeT i (zaV fa fuel body) x.1 x.2 else none:=rfl
theorem zdy{c:E}{body:Ss}:exS fa fuel (.while_ c body) ρ=zbM (evT (prj fa) c) (zaV fa fuel body) fuel ρ:=rfl
noncomputable def znW(ρ:Env)(j:Nat):Option (Option SV)->Env
 |some (some (.obj true d))=>ρ.set j (some (.val d))
 |_=>ρ
@[simp] theorem zwk{j:Nat}:ztE ρ j=znW ρ j ρ[j]? :=by
 unfold ztE znW
 rcases h:ρ[j]? with _|_|(d|⟨_|_,d⟩|d)<;>rfl
@[simp] theorem zse{j:Nat}{d:D}:znW ρ j (some (some (.val d)))=ρ:=rfl
@[simp] theorem zsf{j:Nat}{d:D}:znW ρ j (some (some (.obj true d)))=ρ.set j (some (.val d)):=rfl
@[simp] theorem zwl{js:List Nat}{s:S}:exS fa fuel (.frz js s) ρ=exS fa fuel s (js.foldl ztE ρ):=rfl
@[simp] theorem zwm:exS fa fuel .brk ρ=some (.br,ρ):=rfl
@[simp] theorem zwn:exS fa fuel .cnt ρ=some (.ct,ρ):=rfl
@[simp] theorem zuf:exS fa fuel .pass ρ=some (.nx,ρ):=rfl
@[simp] theorem zug:exS fa fuel .stop ρ=none:=rfl
@[simp] theorem zuh:zaV fa fuel .nil ρ=some (.nx,ρ):=rfl
noncomputable def andThen(x:Fl×Env)(k:Env->Option (Fl×Env)):Option (Fl×Env):=match x.1 with
 | .nx=>k x.2
 |_=>some x
@[simp] theorem zqp{ρ:Env}{k:Env->Option (Fl×Env)}:andThen (.nx,ρ) k=k ρ:=rfl
@[simp] theorem zqq{ρ:Env}{k:Env->Option (Fl×Env)}:andThen (.br,ρ) k=some (.br,ρ):=rfl
@[simp] theorem zqr{ρ:Env}{k:Env->Option (Fl×Env)}:andThen (.ct,ρ) k=some (.ct,ρ):=rfl
@[simp] theorem zqs{ρ:Env}{r:SV}{k:Env->Option (Fl×Env)}:andThen (.rt r,ρ) k=some (.rt r,ρ):=rfl
@[simp] theorem ze3{s:S}{ss:Ss}:zaV fa fuel (.cons s ss) ρ=(exS fa fuel s ρ).bind fun x=>andThen x (zaV fa fuel ss):=by
 exact id rfl
noncomputable def zgC:Option (Fl×Env)->Option SV
 |some (.rt r,_)=>some r
 |some (.nx,_)=>some (.val .non)
 |_=>none
@[simp] theorem zui{r:SV}{ρ:Env}:zgC (some (.rt r,ρ))=some r:=rfl
@[simp] theorem zuj{ρ:Env}:zgC (some (.nx,ρ))=some (.val .non):=rfl
@[simp] theorem zqt:zgC none=none:=rfl
@[simp] theorem zsg{c:Prop}[Decidable c]{a b:Option (Fl×Env)}:zgC (if c then a else b)=if c then zgC a else zgC b:=by split<;>rfl
end
noncomputable def zkk:Option (Option SV)->Option SV
 |some (some (.val d))=>some (.val d)
 |some (some (.obj _ d))=>some (.obj false d)
 |some (some (.io d))=>some (.obj false d)
 |_=>none
@[simp] theorem zwo{ρ:Env}{i:Nat}:look ρ i=zkk ρ[i]? :=by
 unfold look zkk
 rcases h:ρ[i]? with _|_|(d|⟨o,d⟩|d)<;>rfl
@[simp] theorem zsh{d:D}:zkk (some (some (.val d)))=some (.val d):=rfl
@[simp] theorem zsi{o:Bool}{d:D}:zkk (some (some (.obj o d)))=some (.obj false d):=rfl
@[simp] theorem zuk{d:D}:zkk (some (some (.io d)))=some (.obj false d):=rfl
@[simp] theorem zqu:zkk (some none)=none:=rfl
@[simp] theorem zul{d:D}:zbu (.val d)=d:=rfl
@[simp] theorem zum{o:Bool}{d:D}:zbu (.obj o d)=d:=rfl
@[simp] theorem ziV{d:D}:toD (.val d)=some d:=rfl
@[simp] theorem zwp{d:D}:toD (.obj true d)=some d:=rfl
@[simp] theorem zun:zhn []=some []:=rfl
@[simp] theorem zsj{r:SV}{rs:List SV}:zhn (r::rs)=(toD r).bind fun d=>(zhn rs).map (d:: ·):=rfl
@[simp] theorem zuo{d:D}:SV.lent (.val d)=false:=rfl
@[simp] theorem zup{d:D}:SV.lent (.obj true d)=false:=rfl
@[simp] theorem zuq{d:D}:SV.lent (.obj false d)=true:=rfl
@[simp] theorem zur{i:Int}:zb6 i=some (.val (.int i)):=rfl
@[simp] theorem zwq{i:Bool}:zd3 i=some (.val (.bl i)):=rfl
@[simp] theorem zus{b:Bool}:zbn (.val (.bl b))=some b:=rfl
@[simp] theorem zsk{i:Int}:zbn (.val (.int i))=some (i != 0):=rfl
@[simp] theorem zsl:zbn (.val .non)=some false:=rfl
@[simp] theorem zsm{l:List D}:zbn (.val (.tup l))=some (!l.isEmpty):=rfl
@[simp] theorem zsn{l:List D}:zbn (.val (.lst l))=some (!l.isEmpty):=rfl
@[simp] theorem zso{o:Bool}{l:List D}:zbn (.obj o (.lst l))=some (!l.isEmpty):=rfl
theorem zme{rs:List SV}{r:Option SV}(h:rs.any SV.lent=false):zd7 rs r=r:=by
 unfold zd7;rw[h];cases r<;>rfl
theorem ziW{rs:List SV}{x:SV}(h:x.plain=true):zd7 rs (some x)=some x:=by
 unfold zd7;simp[h]
@[simp] theorem zoD{rs:List SV}{x:Option SV}(h:rs.any SV.lent=false):zd7 rs x=x:=zme h
@[simp] theorem zut{rs:List SV}{x:SV}(h:x.plain=true):zd7 rs (some x)=some x:=ziW h
@[simp] theorem zqv{d:D}:SV.plain (.val d)=plain d:=rfl
@[simp] theorem zqw{o:Bool}{d:D}:SV.plain (.obj o d)=zb5 d:=rfl
@[simp] theorem zsp{i:Int}:plain (.int i)=true:=by simp[plain]
@[simp] theorem zuu{i:Bool}:plain (.bl i)=true:=by simp[plain]
@[simp] theorem zsq:plain .non=true:=by simp[plain]
@[simp] theorem zsr{i:Str}:plain (.str i)=true:=by simp[plain]
@[simp] theorem zss{l:List D}:plain (.tup l)=zbe l:=rfl
@[simp] theorem zst{l:List D}:plain (.lst l)=false:=rfl
@[simp] theorem zsu{t:Bool}{a b:List D}:plain (.dct t a b)=false:=rfl
@[simp] theorem zqx:zbe []=true:=rfl
@[simp] theorem zpP{x:D}{xs:List D}:zbe (x::xs)=(plain x&&zbe xs):=rfl
@[simp] theorem zmf{P:Nat->Option Fn}{fuel n:Nat}:prj (zat P fuel n)=zaP P fuel n:=rfl
theorem zhR: ∀(k:Nat) (ds:List D),zdr [] k ds=ds.map fun d=>some (.val d)
 |_,[]=>rfl
 |k,d::r=>by simp[zdr,zhR (k+1) r]
theorem zpQ(x:Option (Fl×Env)):(match zpf [] x with|some (.ok r [])=>some r|_=>none)=zgC x:=by
 rcases x with _|⟨_|_|_|r,ρ⟩<;>rfl
theorem zkl{P:Nat->Option Fn}{fuel n i:Nat}{F:Fn}{ds:List D}(h:P i=some F)(hl:ds.length=F.np)(hio:F.io=[])(hx:F.xb=none:=by rfl):
  zaP P fuel (n+1) i ds=zgC (zaV (zat P fuel n) fuel F.body (ds.map (fun d=>some (.val d))++List.replicate (F.nl-F.np) none)):=by
 unfold zaP prj
 rw[zat,h]
 simp only[Option.bind_some,if_pos hl,hio,zhR,hx]
 exact zpQ _
@[simp] theorem zxZ{a b:Int}:zah .add [.int a,.int b]=some (.val (.int (a+b))):=rfl
theorem zmg{a b:List D}(h:a.length+b.length<=line):zah .add [.lst a,.lst b]=some (.obj true (.lst (a++b))):=by simp only[zah,zty,if_pos h]
@[simp] theorem zx0{a b:Int}:zah .sub [.int a,.int b]=some (.val (.int (a-b))):=rfl
theorem zsv{a b:Int}(h: -(2 ^ 64)<b/\b<2 ^ 64):zah .mul [.int a,.int b]=some (.val (.int (a*b))):=by simp only[zah,ztz,if_pos (Or.inr h:(-(2 ^ 64)<a/\a<2 ^ 64)\/_),zb6]
theorem zkm{a b:Int}(h:0<b):zah .mod [.int a,.int b]=some (.val (.int (a%b))):=by simp only[zah,ztA,if_pos h,zb6]
@[simp] theorem zx1{a:Int}:zah .neg [.int a]=some (.val (.int (-a))):=rfl
theorem zwr{a b:D}(h:zbv 8 a=true)(h':zbv 8 b=true):zah .eq [a,b]=some (.val (.bl (eqD a b))):=by simp[zah,pEq,h,h']
theorem zws{a b:D}(h:zbv 8 a=true)(h':zbv 8 b=true):zah .ne [a,b]=some (.val (.bl (!eqD a b))):=by simp[zah,pNe,h,h']
@[simp] theorem zx2{a b:Int}:zah .eq [.int a,.int b]=some (.val (.bl (a==b))):=by rw[zwr rfl rfl,eqD]
@[simp] theorem p_neI{a b:Int}:zah .ne [.int a,.int b]=some (.val (.bl (a != b))):=by rw[zws rfl rfl,eqD];rfl
@[simp] theorem zyi{a b:Int}:zah .lt [.int a,.int b]=some (.val (.bl (decide (a<b)))):=rfl
@[simp] theorem zyj{a b:Int}:zah .le [.int a,.int b]=some (.val (.bl (decide (a<=b)))):=rfl
@[simp] theorem zyk{a b:Int}:zah .gt [.int a,.int b]=some (.val (.bl (decide (b<a)))):=rfl
@[simp] theorem zyl{a b:Int}:zah .ge [.int a,.int b]=some (.val (.bl (decide (b<=a)))):=rfl
@[simp] theorem zx3{d:D}:zah .isN [d]=some (.val (.bl (zfn d))):=rfl
@[simp] theorem zxm{d:D}:zah .notN [d]=some (.val (.bl (!zfn d))):=rfl
@[simp] theorem zxn{l:List D}:zah .len [.tup l]=some (.val (.int l.length)):=rfl
@[simp] theorem zxo{l:List D}:zah .len [.lst l]=some (.val (.int l.length)):=rfl
@[simp] theorem zx4{i:Int}:zah .abs [.int i]=some (.val (.int (if i<0 then -i else i))):=rfl
@[simp] theorem zoE{i j:Int}:zah .min2 [.int i,.int j]=some (.val (.int (if j<i then j else i))):=rfl
@[simp] theorem zoF{i j:Int}:zah .max2 [.int i,.int j]=some (.val (.int (if j>i then j else i))):=rfl
@[simp] theorem zuv{b:Bool}:zah .intOf [.bl b]=some (.val (.int (if b then 1 else 0))):=rfl
@[simp] theorem zuw{b:Int}:zah .intOf [.int b]=some (.val (.int b)):=rfl
@[simp] theorem zsw{l:List D}:zah .toList [.tup l]=some (.obj true (.lst l)):=rfl
@[simp] theorem zsx{l:List D}:zah .toList [.lst l]=some (.obj true (.lst l)):=rfl
@[simp] theorem zux{l:List D}:zah .toTup [.tup l]=some (.val (.tup l)):=rfl
@[simp] theorem zuy{l:List D}:zah .toTup [.lst l]=some (.val (.tup l)):=rfl
@[simp] theorem zxp{t:Ty}{d:D}:zah (.inst t) [d]=some (.val (.bl (zd6 t d))):=rfl
theorem zsy{l:List D}{i:Int}:zah .idx [.tup l,.int i]=(atI l i).map .val:=rfl
theorem zjI{l:List D}{i:Int}:zah .idx [.lst l,.int i]=(atI l i).map .val:=rfl
theorem atI_nat{α:Type}{l:List α}{k:Nat}(h:k<l.length):atI l (k:Int)=some l[k]:=by
 unfold atI ixN
 rw[if_pos (by omega),if_pos (by omega)]
 simp[h]
@[simp] theorem zuz{a b:D}:zah .idx [.tup [a,b],.int 0]=some (.val a):=rfl
@[simp] theorem zuA{a b:D}:zah .idx [.tup [a,b],.int 1]=some (.val b):=rfl
@[simp] theorem zuB{b:Bool}:zd6 .bool (.bl b)=true:=rfl
@[simp] theorem zuC{b:Int}:zd6 .bool (.int b)=false:=rfl
@[simp] theorem zuD{b:Int}:zd6 .int (.int b)=true:=rfl
@[simp] theorem zuE{l:List D}:zd6 .tuple (.tup l)=true:=rfl
@[simp] theorem zuF{l:List D}:zd6 .list (.lst l)=true:=rfl
@[simp] theorem zsz:zfn .non=true:=rfl
@[simp] theorem zsA{i:Int}:zfn (.int i)=false:=rfl
@[simp] theorem zsB{l:List D}:zfn (.tup l)=false:=rfl
@[simp] theorem zsC{l:List D}:zfn (.lst l)=false:=rfl
theorem zhS{α:Type}{f:α->D}{test:D->Option Bool}{elt:D->Option SV}{t:α->Bool}{e:α->D}: ∀{xs:List α},(∀x∈xs,test (f x)=some (t x))->(∀x∈xs,t x=true->(elt (f x)).bind toD=some (e x))->
  zco test elt (xs.map f)=some ((xs.filter t).map e)
 |[],_,_=>rfl
 |d::r,h1,h2=>by
  have ih:=zhS (xs:=r) (fun x hx=>h1 x (List.mem_cons_of_mem _ hx)) (fun x hx=>h2 x (List.mem_cons_of_mem _ hx))
  rw[List.map_cons,zco,h1 d List.mem_cons_self]
  simp only[Option.bind_some]
  cases ht:t d with
  |false=>simp[ih,ht]
  |true=>
   have h3:=h2 d List.mem_cons_self ht
   rw[jo1] at h3
   obtain⟨x,e1,e2⟩:=h3
   simp[ih,ht,e1,e2]
theorem zcb{fn:Nat->List D->Option SV}{ρ:Env}{g:Bool}{src:Es}{cond elt:E}{rs:List SV}{α:Type}{f:α->D}{xs:List α}(t:α->Bool)(e:α->D)(h:zbZ fn src ρ=some rs)(hi:zaE g rs=some (xs.map f))(hl:xs.length<=line)
  (ht: ∀x∈xs,evT fn cond (some (.val (f x))::ρ)=some (t x)) (he: ∀x∈xs,t x=true->(evE fn elt (some (.val (f x))::ρ)).bind toD=some (e x)):
  evE fn (.comp g src cond elt) ρ=some (.obj true (.lst ((xs.filter t).map e))):=by
 rw[znS,h]
 simp only[Option.bind_some,hi,List.length_map,if_pos hl]
 rw[zhS ht he];rfl
theorem zfP{fn:Nat->List D->Option SV}{ρ:Env}{g:Bool}{src:Es}{elt:E}{rs:List SV}{α:Type}{f:α->D}{xs:List α}(e:α->D)(h:zbZ fn src ρ=some rs)(hi:zaE g rs=some (xs.map f))(hl:xs.length<=line)
  (he: ∀x∈xs,(evE fn elt (some (.val (f x))::ρ)).bind toD=some (e x)):
  evE fn (.comp g src (.bl true) elt) ρ=some (.obj true (.lst (xs.map e))):=by
 have:=zcb (fun _=>true) e h hi hl (fun _ _=>zr3) (fun x hx _=>he x hx)
 have e2:xs.filter (fun _=>true)=xs:=List.filter_eq_self.mpr fun _ _=>rfl
 rwa [e2] at this
theorem zjJ{i:Nat}{body:Env->Option (Fl×Env)}(I:List D->Env->Prop){ds:List D}: ∀{post pre:List D} {ρ:Env},ds=pre++post->I pre ρ->
  (∀pre d post ρ,ds=pre++d::post->I pre ρ->∃fl ρ',body (ρ.set i (some (.val d)))=some (fl,ρ')/\(fl= .nx\/fl= .ct)/\I (pre++[d]) ρ')->
  ∃ρ',zeT i body post ρ=some (.nx,ρ')/\I ds ρ'
 |[],pre,ρ,e,h,_=>⟨ρ,rfl,by rw[e];simpa using h⟩
 |d::post,pre,ρ,e,h,st=>by
  obtain⟨fl,ρ1,e1,e2,h1⟩:=st pre d post ρ e h
  obtain⟨ρ',e3,h3⟩:=zjJ I (ds:=ds) (post:=post) (pre:=pre++[d]) (ρ:=ρ1) (by simp[e]) h1 st
  refine⟨ρ',?_,h3⟩
  rw[zeT,e1]
  simp only[Option.bind_some]
  rcases e2 with rfl|rfl<;>exact e3
theorem znX{i:Nat}{body:Env->Option (Fl×Env)}(I:Nat->Env->Prop){ds:List D}{ρ:Env}(h0:I 0 ρ)
  (st: ∀k ρ (hk:k<ds.length),I k ρ->∃fl ρ',body (ρ.set i (some (.val ds[k])))=some (fl,ρ')/\(fl= .nx\/fl= .ct)/\I (k+1) ρ'):
  ∃ρ',zeT i body ds ρ=some (.nx,ρ')/\I ds.length ρ':=by
 refine zjJ (fun pre ρ=>I pre.length ρ) (ds:=ds) (post:=ds) (pre:=[]) rfl h0 fun pre d post ρ e h=>?_
 subst e
 have hk:pre.length<(pre++d::post).length:=by simp
 obtain⟨fl,ρ',h1,h2,h3⟩:=st pre.length ρ hk h
 refine⟨fl,ρ',?_,h2,by simpa using h3⟩
 rw[<-h1];simp
theorem znY{i:Nat}{body:Env->Option (Fl×Env)}{α:Type}{f:α->D}{xs:List α}(I:Nat->Env->Prop){ρ:Env}(h0:I 0 ρ)
  (st: ∀k ρ (hk:k<xs.length),I k ρ->∃fl ρ',body (ρ.set i (some (.val (f xs[k]))))=some (fl,ρ')/\(fl= .nx\/fl= .ct)/\I (k+1) ρ'):
  ∃ρ',zeT i body (xs.map f) ρ=some (.nx,ρ')/\I xs.length ρ':=by
 have:=znX (i:=i) (body:=body) I (ds:=xs.map f) (ρ:=ρ) h0 fun k ρ hk h=>by
  obtain⟨fl,ρ',h1,h2⟩:=st k ρ (by simpa using hk) h
  exact⟨fl,ρ',by rw[List.getElem_map];exact h1,h2⟩
 simpa using this
theorem zjK{i:Nat}{body:Env->Option (Fl×Env)}(I:Nat->Env->Prop){a:Int}{m:Nat}{ρ:Env}(h0:I 0 ρ)
  (st: ∀k ρ,k<m->I k ρ->∃fl ρ',body (ρ.set i (some (.val (.int (a+(k:Int))))))=some (fl,ρ')/\(fl= .nx\/fl= .ct)/\I (k+1) ρ'):
  ∃ρ',zeT i body ((List.range m).map fun (k:Nat)=>D.int (a+(k:Int))) ρ=some (.nx,ρ')/\I m ρ':=by
 have:=znY (i:=i) (body:=body) (f:=fun (k:Nat)=>D.int (a+(k:Int))) (xs:=List.range m) I (ρ:=ρ) h0 fun k ρ hk h=>by
  obtain⟨fl,ρ',h1,h2⟩:=st k ρ (by simpa using hk) h
  exact⟨fl,ρ',by rw[List.getElem_range];exact h1,h2⟩
 simpa using this
theorem zef{test:Env->Option Bool}{body:Env->Option (Fl×Env)}(I:Nat->Env->Prop)(J:Env->Prop): ∀{m n:Nat} {ρ:Env},m<n->I m ρ->
  (∀m ρ,I m ρ->(test ρ=some false/\J ρ)\/(test ρ=some true/\∃fl ρ' m',body ρ=some (fl,ρ')/\(fl= .nx\/fl= .ct)/\m'<m/\I m' ρ'))->
  ∃ρ',zbM test body n ρ=some (.nx,ρ')/\J ρ'
 |m,0,ρ,hn,_,_=>by omega
 |m,n+1,ρ,hn,h,st=>by
  rcases st m ρ h with ⟨e,j⟩|⟨e,fl,ρ1,m',e1,e2,hm,h1⟩
  ·exact⟨ρ,by rw[zbM,e];rfl,j⟩
  ·obtain⟨ρ',e3,j⟩:=zef I J (m:=m') (n:=n) (ρ:=ρ1) (by omega) h1 st
   refine⟨ρ',?_,j⟩
   rw[zbM,e]
   simp only[Option.bind_some,if_true,e1]
   rcases e2 with rfl|rfl<;>exact e3
theorem zfQ{test:Env->Option Bool}{body:Env->Option (Fl×Env)}(I:Nat->Env->Prop)(J:Env->Prop)(Q:SV->Prop): ∀{m n:Nat} {ρ:Env},m<n->I m ρ->
  (∀m ρ,I m ρ->(test ρ=some false/\J ρ)\/(test ρ=some true/\∃fl ρ',body ρ=some (fl,ρ')/\(((fl= .nx\/fl= .ct)/\∃m',m'<m/\I m' ρ')\/∃r,fl= .rt r/\Q r)))->
  ∃fl ρ',zbM test body n ρ=some (fl,ρ')/\((fl= .nx/\J ρ')\/∃r,fl= .rt r/\Q r)
 |m,0,ρ,hn,_,_=>by omega
 |m,n+1,ρ,hn,h,st=>by
  rcases st m ρ h with ⟨e,j⟩|⟨e,fl,ρ1,e1,⟨e2,m',hm,h1⟩|⟨r,rfl,q⟩⟩
  ·exact⟨_,ρ,by rw[zbM,e];rfl,.inl ⟨rfl,j⟩⟩
  ·obtain⟨fl',ρ',e3,j⟩:=zfQ I J Q (m:=m') (n:=n) (ρ:=ρ1) (by omega) h1 st
   refine⟨fl',ρ',?_,j⟩
   rw[zbM,e]
   simp only[Option.bind_some,if_true,e1]
   rcases e2 with rfl|rfl<;>exact e3
  ·refine⟨_,ρ1,?_,.inr ⟨r,rfl,q⟩⟩
   rw[zbM,e]
   simp only[Option.bind_some,if_true,e1]
section
variable {fa:Nat->List D->Option Ans} {fuel:Nat} {ρ:Env}
noncomputable def znZ(k:Env->Option (FlX×Env)):FlX×Env->Option (FlX×Env)
 |(.fl .nx,ρ)=>k ρ
 |x=>some x
@[simp] theorem zuG{k:Env->Option (FlX×Env)}:znZ k (.fl .nx,ρ)=k ρ:=rfl
@[simp] theorem zuH{k:Env->Option (FlX×Env)}{r:SV}:znZ k (.fl (.rt r),ρ)=some (.fl (.rt r),ρ):=rfl
@[simp] theorem zuI{k:Env->Option (FlX×Env)}{c:Nat}:znZ k (.ex c,ρ)=some (.ex c,ρ):=rfl
@[simp] theorem zuJ:zho fa fuel .nil ρ=some (.fl .nx,ρ):=by rw[zho]
@[simp] theorem zsD{t:T}{ts:Ts}:zho fa fuel (.cons t ts) ρ=(exT fa fuel t ρ).bind (znZ (zho fa fuel ts)):=by
 rw[zho]
 congr 1
 funext x
 rcases x with ⟨⟨_|_|_|_⟩|_,_⟩<;>rfl
@[simp] theorem zxq{s:S}:exT fa fuel (.pl s) ρ=(exS fa fuel s ρ).map fun x=>(.fl x.1,x.2):=by rw[exT]
@[simp] theorem zsE{c:Nat}:exT fa fuel (.raise c) ρ=some (.ex c,ρ):=by rw[exT]
@[simp] theorem zsF:exT fa fuel .stuck ρ=none:=by rw[exT]
@[simp] theorem zwt{c:E}{a b:Ts}:exT fa fuel (.ifs c a b) ρ=(evT (prj fa) c ρ).bind fun k=>if k then zho fa fuel a ρ else zho fa fuel b ρ:=by rw[exT]
noncomputable def zmh(ρ:Env):Ans->Option (FlX×Env)
 | .ok _ []=>some (.fl .nx,ρ)
 | .ex c=>some (.ex c,ρ)
 |_=>none
@[simp] theorem zsG{r:SV}:zmh ρ (.ok r [])=some (.fl .nx,ρ):=rfl
@[simp] theorem zsH{c:Nat}:zmh ρ (.ex c)=some (.ex c,ρ):=rfl
@[simp] theorem zsI{i:Nat}{es:Es}:exT fa fuel (.callX i es) ρ=(zmX fa i es ρ).bind (zmh ρ):=by rw[exT];rfl
noncomputable def zpR(ρ:Env):Ans->Option (FlX×Env)
 | .ok r []=>if r.lent then none else some (.fl (.rt r),ρ)
 | .ex c=>some (.ex c,ρ)
 |_=>none
@[simp] theorem zuK{r:SV}:zpR ρ (.ok r [])=if r.lent then none else some (.fl (.rt r),ρ):=rfl
@[simp] theorem zuL{c:Nat}:zpR ρ (.ex c)=some (.ex c,ρ):=rfl
@[simp] theorem zuM{i:Nat}{es:Es}:exT fa fuel (.retX i es) ρ=(zmX fa i es ρ).bind (zpR ρ):=by rw[exT];rfl
noncomputable def zsJ(k:Nat)(ρ:Env):Ans->Option (FlX×Env)
 | .ok r []=>if r.lent|| !free ρ k then none else some (.fl .nx,ρ.set k (some r))
 | .ex c=>some (.ex c,ρ)
 |_=>none
@[simp] theorem zuN{k c:Nat}:zsJ k ρ (.ex c)=some (.ex c,ρ):=rfl
@[simp] theorem zuO{k i:Nat}{es:Es}:exT fa fuel (.asgX k i es) ρ=(zmX fa i es ρ).bind (zsJ k ρ):=by rw[exT];rfl
noncomputable def zxr(neg:Bool)(a b:Option (FlX×Env))(ρ:Env):Ans->Option (FlX×Env)
 | .ok (.val (.bl k)) []=>if k != neg then a else b
 | .ex c=>some (.ex c,ρ)
 |_=>none
@[simp] theorem zwu{neg:Bool}{a b:Option (FlX×Env)}{c:Nat}:zxr neg a b ρ (.ex c)=some (.ex c,ρ):=rfl
@[simp] theorem zwv{neg:Bool}{i:Nat}{es:Es}{a b:Ts}:exT fa fuel (.ifX neg i es a b) ρ=(zmX fa i es ρ).bind (zxr neg (zho fa fuel a ρ) (zho fa fuel b ρ) ρ):=by rw[exT];rfl
noncomputable def zpS(cs:List Nat)(h:Hd):FlX×Env->Option (FlX×Env)
 |(.ex c,ρ)=>if cs.contains c then hdX c ρ h else none
 |x=>some x
@[simp] theorem zuP{cs:List Nat}{h:Hd}{f:Fl}:zpS cs h (.fl f,ρ)=some (.fl f,ρ):=rfl
@[simp] theorem zuQ{cs:List Nat}{h:Hd}{c:Nat}:zpS cs h (.ex c,ρ)=if cs.contains c then hdX c ρ h else none:=rfl
@[simp] theorem zuR{b:Ts}{k:Nat}{cs:List Nat}{h:Hd}:exT fa fuel (.tryX b k cs h) ρ=(zho fa fuel b ρ).bind (zpS cs h):=by
 rw[exT]
 congr 1
 funext x
 rcases x with ⟨_|_,_⟩<;>rfl
@[simp] theorem zww{i:Nat}{es:Es}:zmX fa i es ρ=(zbZ (prj fa) es ρ).bind fun rs=>if rs.any SV.lent then none else fa i (rs.map zbu):=rfl
@[simp] theorem zwx{r:SV}:ztF (some (.fl (.rt r),ρ))=some (.ok r []):=rfl
@[simp] theorem zwy:ztF (some (.fl .nx,ρ))=some (.ok (.val .non) []):=rfl
@[simp] theorem zwz{c:Nat}:ztF (some (.ex c,ρ))=some (.ex c):=rfl
end
end L2.LW
namespace LK
open L2.LW
noncomputable def ir0:Ss:=(.cons (.ifs (.or (.prim (.inst .bool) (.cons (.var 0) .nil)) (.not (.prim (.inst .int) (.cons (.var 0) .nil)))) (.cons (.ret (.bl false))
  .nil) .nil)
  (.cons (.ret (.chain .le .le (.var 1) (.var 0) (.var 2)))
  .nil))
noncomputable def ir1:Ss:=(.cons (.ret (.and (.prim (.inst .tuple) (.cons (.var 0) .nil)) (.prim .eq (.cons (.prim .len (.cons (.var 0) .nil)) (.cons (.int 2) .nil)))))
  .nil)
noncomputable def ir2:Ss:=(.cons (.ret (.and (.call 1 (.cons (.var 0) .nil)) (.and (.call 0 (.cons (.prim .idx (.cons (.var 0) (.cons (.int 0) .nil))) (.cons (.int 0) (.cons (.int 7) .nil)))) (.call 0 (.cons (.prim .idx (.cons (.var 0) (.cons (.int 1) .nil))) (.cons (.int 0) (.cons (.int 7) .nil)))))))
  .nil)
noncomputable def ir3:Ss:=(.cons (.ret (.and (.call 1 (.cons (.var 0) .nil)) (.and (.call 0 (.cons (.prim .idx (.cons (.var 0) (.cons (.int 1) .nil))) (.cons (.int 1) (.cons (.int 4) .nil)))) (.call 0 (.cons (.prim .idx (.cons (.var 0) (.cons (.int 0) .nil))) (.cons (.int 0) (.cons (.prim .idx (.cons (.var 0) (.cons (.int 1) .nil))) .nil)))))))
  .nil)
noncomputable def ir4:Ss:=(.cons (.ret (.prim .all (.cons (.comp true (.cons (.int 1) (.cons (.prim .len (.cons (.var 0) .nil)) .nil)) (.bl true) (.prim .lt (.cons (.prim .idx (.cons (.var 1) (.cons (.prim .sub (.cons (.var 0) (.cons (.int 1) .nil))) .nil))) (.cons (.prim .idx (.cons (.var 1) (.cons (.var 0) .nil))) .nil)))) .nil)))
  .nil)
noncomputable def ir5:Ss:=(.cons (.ifs (.or (.not (.prim (.inst .tuple) (.cons (.var 0) .nil))) (.not (.chain .le .le (.int 1) (.prim .len (.cons (.var 0) .nil)) (.int 24)))) (.cons (.ret (.bl false))
  .nil) .nil)
  (.cons (.ret (.and (.prim .all (.cons (.comp false (.cons (.var 0) .nil) (.bl true) (.call 2 (.cons (.var 0) .nil))) .nil)) (.call 4 (.cons (.var 0) .nil))))
  .nil))
noncomputable def ir6:Ss:=(.cons (.ifs (.not (.call 5 (.cons (.var 0) .nil))) (.cons .stop
  .nil) .nil)
  (.cons (.retV 0)
  .nil))
noncomputable def ir7:Ss:=(.cons (.ifs (.not (.call 3 (.cons (.var 0) .nil))) (.cons .stop
  .nil) .nil)
  (.cons (.retV 0)
  .nil))
noncomputable def ir8:Ss:=(.cons (.ifs (.or (.not (.call 2 (.cons (.var 1) .nil))) (.prim .nin (.cons (.var 1) (.cons (.var 0) .nil)))) (.cons .stop
  .nil) .nil)
  (.cons (.retV 1)
  .nil))
noncomputable def ir9:Ss:=(.cons (.ret (.tup (.cons (.prim .min2 (.cons (.prim .abs (.cons (.var 0) .nil)) (.cons (.prim .abs (.cons (.var 1) .nil)) .nil))) (.cons (.prim .max2 (.cons (.prim .abs (.cons (.var 0) .nil)) (.cons (.prim .abs (.cons (.var 1) .nil)) .nil))) .nil))))
  .nil)
noncomputable def zsK:Ss:=(.cons (.ret (.prim .eq (.cons (.call 9 (.cons (.prim .sub (.cons (.prim .idx (.cons (.var 2) (.cons (.int 0) .nil))) (.cons (.prim .idx (.cons (.var 1) (.cons (.int 0) .nil))) .nil))) (.cons (.prim .sub (.cons (.prim .idx (.cons (.var 2) (.cons (.int 1) .nil))) (.cons (.prim .idx (.cons (.var 1) (.cons (.int 1) .nil))) .nil))) .nil))) (.cons (.var 0) .nil))))
  .nil)
noncomputable def zsL:Ss:=(.cons (.ret (.comp false (.cons (.var 0) .nil) (.call 10 (.cons (.var 2) (.cons (.var 3) (.cons (.var 0) .nil)))) (.var 0)))
  .nil)
noncomputable def zsM:Ss:=(.cons (.ifs (.prim .lt (.cons (.var 1) (.cons (.prim .len (.cons (.var 0) .nil)) .nil))) (.cons (.ret (.prim .idx (.cons (.var 0) (.cons (.var 1) .nil))))
  .nil) .nil)
  (.cons (.ret (.int 0))
  .nil))
noncomputable def zsN:Ss:=(.cons (.ret (.prim .mod (.cons (.prim .mod (.cons (.prim .mul (.cons (.var 0) (.cons (.int 48271) .nil))) (.cons (.var 1) .nil))) (.cons (.var 2) .nil))))
  .nil)
noncomputable def zjL:Ss:=(.cons (.asg 12 (.prim .add (.cons (.prim .add (.cons (.call 13 (.cons (.var 0) (.cons (.prim .add (.cons (.prim .add (.cons (.var 1) (.cons (.int 2) .nil))) (.cons (.prim .mod (.cons (.prim .add (.cons (.var 10) (.cons (.prim .mul (.cons (.int 2) (.cons (.var 11) .nil))) .nil))) (.cons (.int 7) .nil))) .nil))) .nil))) (.cons (.prim .mul (.cons (.prim .mul (.cons (.int 31) (.cons (.var 10) .nil))) (.cons (.var 10) .nil))) .nil))) (.cons (.prim .mul (.cons (.prim .mul (.cons (.int 57) (.cons (.var 11) .nil))) (.cons (.var 11) .nil))) .nil))))
  (.cons (.ifs (.or (.prim .eq (.cons (.var 8) (.cons (.int 0) .nil))) (.prim .gt (.cons (.call 14 (.cons (.var 12) (.cons (.int 9931) (.cons (.prim .idx (.cons (.lst (.cons (.int 2) (.cons (.int 4) (.cons (.int 7) .nil)))) (.cons (.prim .sub (.cons (.var 8) (.cons (.int 1) .nil))) .nil))) .nil)))) (.cons (.int 0) .nil)))) (.cons (.app 9 (.tup (.cons (.prim .add (.cons (.var 6) (.cons (.var 10) .nil))) (.cons (.prim .add (.cons (.var 7) (.cons (.var 11) .nil))) .nil))))
  .nil) .nil)
  .nil))
noncomputable def zhT:Ss:=(.cons (.for_ 11 true (.cons (.var 5) .nil) zjL)
  .nil)
noncomputable def zsO:Ss:=(.cons (.asg 3 (.call 13 (.cons (.var 0) (.cons (.var 1) .nil))))
  (.cons (.asg 4 (.prim .add (.cons (.int 1) (.cons (.call 14 (.cons (.var 3) (.cons (.int 9973) (.cons (.int 5) .nil)))) .nil))))
  (.cons (.asg 5 (.prim .add (.cons (.int 1) (.cons (.call 14 (.cons (.var 3) (.cons (.int 9967) (.cons (.int 6) .nil)))) .nil))))
  (.cons (.asg 6 (.call 14 (.cons (.call 13 (.cons (.var 0) (.cons (.prim .add (.cons (.var 1) (.cons (.int 1) .nil))) .nil))) (.cons (.int 9949) (.cons (.prim .sub (.cons (.int 9) (.cons (.var 4) .nil))) .nil)))))
  (.cons (.asg 7 (.call 14 (.cons (.call 13 (.cons (.var 0) (.cons (.prim .add (.cons (.var 1) (.cons (.int 1) .nil))) .nil))) (.cons (.int 9941) (.cons (.prim .sub (.cons (.int 9) (.cons (.var 5) .nil))) .nil)))))
  (.cons (.asg 8 (.call 14 (.cons (.prim .add (.cons (.var 3) (.cons (.int 3) .nil))) (.cons (.int 9907) (.cons (.int 4) .nil)))))
  (.cons (.asg 9 (.lst .nil))
  (.cons (.for_ 10 true (.cons (.var 4) .nil) zhT)
  (.cons (.ifs (.not (.var 9)) (.cons (.asg 9 (.lst (.cons (.tup (.cons (.var 6) (.cons (.var 7) .nil))) .nil)))
  .nil) .nil)
  (.cons (.ret (.prim .toTup (.cons (.prim .cutTo (.cons (.var 9) (.cons (.var 2) .nil))) .nil)))
  .nil))))))))))
noncomputable def zsP:Ss:=(.cons (.asg 1 (.lst (.cons (.tup (.cons (.int 1) (.cons (.int 2) .nil))) (.cons (.tup (.cons (.int 0) (.cons (.int 1) .nil))) (.cons (.tup (.cons (.int 1) (.cons (.int 1) .nil))) (.cons (.tup (.cons (.int 1) (.cons (.int 2) .nil))) (.cons (.tup (.cons (.int 0) (.cons (.int 2) .nil))) (.cons (.tup (.cons (.int 1) (.cons (.int 3) .nil))) (.cons (.tup (.cons (.int 2) (.cons (.int 3) .nil))) (.cons (.tup (.cons (.int 0) (.cons (.int 1) .nil))) (.cons (.tup (.cons (.int 1) (.cons (.int 2) .nil))) (.cons (.tup (.cons (.int 2) (.cons (.int 2) .nil))) (.cons (.tup (.cons (.int 0) (.cons (.int 3) .nil))) (.cons (.tup (.cons (.int 1) (.cons (.int 4) .nil))) (.cons (.tup (.cons (.int 2) (.cons (.int 4) .nil))) .nil)))))))))))))))
  (.cons (.ret (.prim .idx (.cons (.prim .add (.cons (.var 1) (.cons (.lst (.cons (.tup (.cons (.int 3) (.cons (.int 3) .nil))) (.cons (.tup (.cons (.int 3) (.cons (.int 4) .nil))) (.cons (.tup (.cons (.int 0) (.cons (.int 4) .nil))) (.cons (.tup (.cons (.int 4) (.cons (.int 4) .nil))) (.cons (.tup (.cons (.int 1) (.cons (.int 2) .nil))) (.cons (.tup (.cons (.int 1) (.cons (.int 1) .nil))) .nil))))))) .nil))) (.cons (.prim .mod (.cons (.var 0) (.cons (.int 19) .nil))) .nil))))
  .nil))
noncomputable def zsQ:Ss:=(.cons (.ret (.prim .eq (.cons (.prim .sorted (.cons (.lst (.cons (.prim .abs (.cons (.prim .sub (.cons (.prim .idx (.cons (.var 1) (.cons (.int 0) .nil))) (.cons (.prim .idx (.cons (.var 2) (.cons (.int 0) .nil))) .nil))) .nil)) (.cons (.prim .abs (.cons (.prim .sub (.cons (.prim .idx (.cons (.var 1) (.cons (.int 1) .nil))) (.cons (.prim .idx (.cons (.var 2) (.cons (.int 1) .nil))) .nil))) .nil)) .nil))) .nil)) (.cons (.prim .toList (.cons (.var 0) .nil)) .nil))))
  .nil)
noncomputable def zsR:Ss:=(.cons (.ret (.comp false (.cons (.var 0) .nil) (.call 17 (.cons (.var 2) (.cons (.var 3) (.cons (.var 0) .nil)))) (.var 0)))
  .nil)
noncomputable def zfR:Ss:=(.cons (.ifs (.prim .nin (.cons (.var 7) (.cons (.var 3) .nil))) (.cons (.dset 3 (.var 7) (.var 6))
  (.cons (.app 5 (.var 7))
  .nil)) .nil)
  .nil)
noncomputable def zjM:Ss:=(.cons (.for_ 7 false (.cons (.call 11 (.cons (.var 0) (.cons (.var 1) (.cons (.var 6) .nil)))) .nil) zfR)
  .nil)
noncomputable def zjN:Ss:=(.cons (.asg 5 (.lst .nil))
  (.cons (.forV 6 4 zjM)
  (.cons (.mov 4 5)
  .nil)))
noncomputable def zsS:Ss:=(.cons (.asg 3 (.done true (.var 2) .non))
  (.cons (.asg 4 (.lst (.cons (.var 2) .nil)))
  (.cons (.while_ (.prim .gt (.cons (.prim .len (.cons (.var 4) .nil)) (.cons (.int 0) .nil))) zjN)
  (.cons (.retV 3)
  .nil))))
noncomputable def zmi:Ss:=(.cons (.app 5 (.prim .idx (.cons (.var 4) (.cons (.prim .idx (.cons (.var 5) (.cons (.prim .neg (.cons (.int 1) .nil)) .nil))) .nil))))
  .nil)
noncomputable def zqy:Ss:=(.cons (.expr (.call 6 (.cons (.var 0) .nil)))
  (.cons (.expr (.call 7 (.cons (.var 1) .nil)))
  (.cons (.expr (.call 8 (.cons (.var 0) (.cons (.var 2) .nil))))
  (.cons (.expr (.call 8 (.cons (.var 0) (.cons (.var 3) .nil))))
  (.cons (.asg 4 (.call 20 (.cons (.var 0) (.cons (.var 1) (.cons (.var 3) .nil)))))
  (.cons (.ifs (.prim .nin (.cons (.var 2) (.cons (.var 4) .nil))) (.cons (.ret .non)
  .nil) .nil)
  (.cons (.asg 5 (.lst (.cons (.var 2) .nil)))
  (.cons (.while_ (.prim .notN (.cons (.prim .idx (.cons (.var 4) (.cons (.prim .idx (.cons (.var 5) (.cons (.prim .neg (.cons (.int 1) .nil)) .nil))) .nil))) .nil)) zmi)
  (.cons (.retV 5)
  .nil)))))))))
noncomputable def zqz:Ss:=(.cons (.asg 4 (.call 26 (.cons (.var 0) (.cons (.var 1) (.cons (.var 2) (.cons (.var 3) .nil))))))
  (.cons (.ret (.ite (.prim .isN (.cons (.var 4) .nil)) .non (.prim .sub (.cons (.prim .len (.cons (.var 4) .nil)) (.cons (.int 1) .nil)))))
  .nil))
noncomputable def zsT:Ss:=(.cons (.ret (.and (.prim (.inst .int) (.cons (.var 0) .nil)) (.not (.prim (.inst .bool) (.cons (.var 0) .nil)))))
  .nil)
noncomputable def zhU:Ss:=(.cons (.asg 7 (.prim .add (.cons (.var 7) (.cons (.comp false (.cons (.call 18 (.cons (.var 0) (.cons (.var 1) (.cons (.var 8) .nil)))) .nil) (.prim .nin (.cons (.var 0) (.cons (.var 5) .nil))) (.var 0)) .nil))))
  (.cons (.asg 4 (.prim .add (.cons (.var 4) (.cons (.var 7) .nil))))
  .nil))
noncomputable def zjO:Ss:=(.cons (.ifs (.prim .inn (.cons (.var 3) (.cons (.var 5) .nil))) (.cons (.retV 6)
  .nil) .nil)
  (.cons (.asg 7 (.lst .nil))
  (.cons (.forV 8 5 zhU)
  (.cons (.asg 5 (.prim .sset (.cons (.var 7) .nil)))
  (.cons (.asg 6 (.prim .add (.cons (.var 6) (.cons (.int 1) .nil))))
  .nil)))))
noncomputable def zqA:Ss:=(.cons (.asg 4 (.lst (.cons (.var 2) .nil)))
  (.cons (.asg 5 (.lst (.cons (.var 2) .nil)))
  (.cons (.asg 6 (.int 0))
  (.cons (.while_ (.var 5) zjO)
  (.cons (.ret .non)
  .nil)))))
noncomputable def zqB:Ss:=(.cons (.asg 1 (.call 15 (.cons (.var 0) (.cons (.int 3) (.cons (.int 24) .nil)))))
  (.cons (.asg 2 (.call 16 (.cons (.call 13 (.cons (.var 0) (.cons (.int 0) .nil))) .nil)))
  (.cons (.asg 3 (.prim .idx (.cons (.var 1) (.cons (.prim .mod (.cons (.call 13 (.cons (.var 0) (.cons (.int 1) .nil))) (.cons (.prim .len (.cons (.var 1) .nil)) .nil))) .nil))))
  (.cons (.asg 4 (.prim .idx (.cons (.var 1) (.cons (.prim .mod (.cons (.call 13 (.cons (.var 0) (.cons (.int 2) .nil))) (.cons (.prim .len (.cons (.var 1) .nil)) .nil))) .nil))))
  (.cons (.asg 5 (.call 35 (.cons (.var 1) (.cons (.var 2) (.cons (.var 3) (.cons (.var 4) .nil))))))
  (.cons (.asg 6 (.call 27 (.cons (.var 1) (.cons (.var 2) (.cons (.var 3) (.cons (.var 4) .nil))))))
  (.cons (.asg 7 (.call 26 (.cons (.var 1) (.cons (.var 2) (.cons (.var 3) (.cons (.var 4) .nil))))))
  (.cons (.ifs (.prim .ne (.cons (.call 27 (.cons (.var 1) (.cons (.var 2) (.cons (.var 4) (.cons (.var 3) .nil))))) (.cons (.var 5) .nil))) (.cons (.ret (.bl false))
  .nil) .nil)
  (.cons (.ifs (.prim .isN (.cons (.var 5) .nil)) (.cons (.ret (.and (.prim .isN (.cons (.var 6) .nil)) (.prim .isN (.cons (.var 7) .nil))))
  .nil) .nil)
  (.cons (.ifs (.or (.not (.call 34 (.cons (.var 6) .nil))) (.or (.prim .ne (.cons (.var 6) (.cons (.var 5) .nil))) (.or (.not (.prim (.inst .list) (.cons (.var 7) .nil))) (.prim .ne (.cons (.prim .len (.cons (.var 7) .nil)) (.cons (.prim .add (.cons (.var 5) (.cons (.int 1) .nil))) .nil)))))) (.cons (.ret (.bl false))
  .nil) .nil)
  (.cons (.ifs (.or (.prim .ne (.cons (.prim .idx (.cons (.var 7) (.cons (.int 0) .nil))) (.cons (.var 3) .nil))) (.or (.prim .ne (.cons (.prim .idx (.cons (.var 7) (.cons (.prim .neg (.cons (.int 1) .nil)) .nil))) (.cons (.var 4) .nil))) (.comp false (.cons (.var 7) .nil) (.prim .nin (.cons (.var 0) (.cons (.var 2) .nil))) (.var 0)))) (.cons (.ret (.bl false))
  .nil) .nil)
  (.cons (.ret (.prim .eq (.cons (.comp true (.cons (.var 5) .nil) (.not (.call 17 (.cons (.var 3) (.cons (.prim .idx (.cons (.var 8) (.cons (.var 0) .nil))) (.cons (.prim .idx (.cons (.var 8) (.cons (.prim .add (.cons (.var 0) (.cons (.int 1) .nil))) .nil))) .nil))))) (.var 0)) (.cons (.lst .nil) .nil))))
  .nil))))))))))))
noncomputable def U:Nat->Option Fn
 |0=>some ⟨3,3,ir0,[],none⟩
 |1=>some ⟨1,1,ir1,[],none⟩
 |2=>some ⟨1,1,ir2,[],none⟩
 |3=>some ⟨1,1,ir3,[],none⟩
 |4=>some ⟨1,1,ir4,[],none⟩
 |5=>some ⟨1,1,ir5,[],none⟩
 |6=>some ⟨1,1,ir6,[],none⟩
 |7=>some ⟨1,1,ir7,[],none⟩
 |8=>some ⟨2,2,ir8,[],none⟩
 |9=>some ⟨2,2,ir9,[],none⟩
 |10=>some ⟨3,3,zsK,[],none⟩
 |11=>some ⟨3,3,zsL,[],none⟩
 |13=>some ⟨2,2,zsM,[],none⟩
 |14=>some ⟨3,3,zsN,[],none⟩
 |15=>some ⟨3,13,zsO,[],none⟩
 |16=>some ⟨1,2,zsP,[],none⟩
 |17=>some ⟨3,3,zsQ,[],none⟩
 |18=>some ⟨3,3,zsR,[],none⟩
 |20=>some ⟨3,8,zsS,[],none⟩
 |26=>some ⟨4,6,zqy,[],none⟩
 |27=>some ⟨4,5,zqz,[],none⟩
 |34=>some ⟨1,1,zsT,[],none⟩
 |35=>some ⟨4,9,zqA,[],none⟩
 |36=>some ⟨1,8,zqB,[],none⟩
 |_=>none
theorem U0:U 0=some ⟨3,3,ir0,[],none⟩:=rfl
theorem U1:U 1=some ⟨1,1,ir1,[],none⟩:=rfl
theorem U2:U 2=some ⟨1,1,ir2,[],none⟩:=rfl
theorem U3:U 3=some ⟨1,1,ir3,[],none⟩:=rfl
theorem U4:U 4=some ⟨1,1,ir4,[],none⟩:=rfl
theorem U5:U 5=some ⟨1,1,ir5,[],none⟩:=rfl
theorem U6:U 6=some ⟨1,1,ir6,[],none⟩:=rfl
theorem U7:U 7=some ⟨1,1,ir7,[],none⟩:=rfl
theorem U8:U 8=some ⟨2,2,ir8,[],none⟩:=rfl
theorem U9:U 9=some ⟨2,2,ir9,[],none⟩:=rfl
theorem U10:U 10=some ⟨3,3,zsK,[],none⟩:=rfl
theorem U11:U 11=some ⟨3,3,zsL,[],none⟩:=rfl
theorem U13:U 13=some ⟨2,2,zsM,[],none⟩:=rfl
theorem U14:U 14=some ⟨3,3,zsN,[],none⟩:=rfl
theorem U15:U 15=some ⟨3,13,zsO,[],none⟩:=rfl
theorem U16:U 16=some ⟨1,2,zsP,[],none⟩:=rfl
theorem U17:U 17=some ⟨3,3,zsQ,[],none⟩:=rfl
theorem U18:U 18=some ⟨3,3,zsR,[],none⟩:=rfl
theorem U20:U 20=some ⟨3,8,zsS,[],none⟩:=rfl
theorem U26:U 26=some ⟨4,6,zqy,[],none⟩:=rfl
theorem U27:U 27=some ⟨4,5,zqz,[],none⟩:=rfl
theorem U34:U 34=some ⟨1,1,zsT,[],none⟩:=rfl
theorem U35:U 35=some ⟨4,9,zqA,[],none⟩:=rfl
theorem U36:U 36=some ⟨1,8,zqB,[],none⟩:=rfl
end LK
namespace LK
open L2.LW
noncomputable def zas:Nat:=100000
noncomputable abbrev call(n i:Nat)(ds:List D):Option SV:=zaP U zas n i ds
theorem zav{n i:Nat}{F:Fn}{ds:List D}(h:U i=some F)(hl:ds.length=F.np)(hio:F.io=[]:=by rfl)(hx:F.xb=none:=by rfl):
  zaP U zas (n+1) i ds=zgC (zaV (zat U zas n) zas F.body (ds.map (fun d=>some (.val d))++List.replicate (F.nl-F.np) none)):=zkl h hl hio hx
noncomputable abbrev zak:=Int×Int
noncomputable def cD(c:zak):D:=.tup [.int c.1,.int c.2]
noncomputable def fD(f:List zak):D:=.tup (f.map cD)
noncomputable def lD(f:List zak):D:=.lst (f.map cD)
@[simp] theorem zuS{c:zak}:plain (cD c)=true:=by simp[cD]
@[simp] theorem zen: ∀{l:List zak},zbe (l.map cD)=true
 |[]=>by simp
 |c::r=>by simp[zen (l:=r)]
@[simp] theorem zuT{f:List zak}:plain (fD f)=true:=by simp[fD]
@[simp] theorem zgD{c:zak}{n:Nat}:zbv (n+1) (cD c)=true:=by simp[cD,zbv]
@[simp] theorem zeg{n:Nat}{l:List zak}:(l.map cD).all (zbv (n+1))=true:=by
 rw[List.all_map,List.all_eq_true];intro x _;exact zgD
@[simp] theorem zmj{a b:zak}:eqD (cD a) (cD b)=decide (a=b):=by
 rw[Bool.eq_iff_iff]
 obtain⟨a1,a2⟩:=a;obtain⟨b1,b2⟩:=b
 simp[cD,eqD,zfm]
@[simp] theorem zkn: ∀{a b:List zak},zfm (a.map cD) (b.map cD)=decide (a=b)
 |[],[]=>by simp[zfm]
 |[],_::_=>by simp[zfm]
 |_::_,[]=>by simp[zfm]
 |x::xs,y::ys=>by
  rw[Bool.eq_iff_iff]
  simp[zfm,zkn (a:=xs) (b:=ys)]
@[simp] theorem ze4{c:zak}{l:List zak}:((l.map cD).any fun y=>eqD y (cD c))=decide (c∈l):=by
 rw[Bool.eq_iff_iff]
 simp[List.any_map,List.any_eq_true]
theorem zdi(n:Nat)(i a b:Int):zaP U zas (n+1) 0 [.int i,.int a,.int b]=some (.val (.bl (decide (a<=i)&&decide (i<=b)))):=by
 rw[zav U0 rfl]
 simp[ir0]
 by_cases h:a<=i<;>simp[h]
theorem zeo(n:Nat)(c:zak):zaP U zas (n+1) 1 [cD c]=some (.val (.bl true)):=by
 rw[zav U1 rfl]
 simp[ir1,cD]
noncomputable def okC(c:zak):Prop:=0<=c.1/\c.1<=7/\0<=c.2/\c.2<=7
theorem zfS(n:Nat){c:zak}(h:okC c):zaP U zas (n+2) 2 [cD c]=some (.val (.bl true)):=by
 rw[zav U2 rfl]
 obtain⟨h1,h2,h3,h4⟩:=h
 have h0:=zeo n c
 simp[ir2,h0,zdi]
 simp[cD,zdi,h1,h2,h3,h4]
noncomputable def cLt(a b:zak):Prop:=a.1<b.1\/(a.1=b.1/\a.2<b.2)
noncomputable instance (a b:zak):Decidable (cLt a b):=by unfold cLt;exact inferInstance
@[simp] theorem zx5{a b:zak}:zah .lt [cD a,cD b]=some (.val (.bl (decide (cLt a b)))):=by
 simp only[cD,zah,pLt,ints?,Option.map_some,Option.bind_some,zd3,lexLt]
 congr 3
 rw[Bool.eq_iff_iff]
 simp only[cLt]
 by_cases h:a.1=b.1
 ·simp[h]
  by_cases h2:a.2=b.2
  ·simp[h2]
  ·simp[h2]
 ·simp[h]
theorem zko{a:zak}: ¬cLt a a:=by unfold cLt;omega
structure OkF (f:List zak):Prop where
 ne:f≠[]
 len:f.length<=24
 cells: ∀c∈f,okC c
 rise:f.Pairwise cLt
theorem OkF.nodup{f:List zak}(h:f.Pairwise cLt):f.Nodup:=h.imp fun hab e=>by subst e;exact zko hab
theorem zbT:(100000:Nat)<=line:=by decide
theorem zhV{α:Type}{f:α->Bool}: ∀{l:List α},bools? (l.map fun x=>D.bl (f x))=some (l.map f)
 |[]=>rfl
 |x::r=>by simp[bools?,zhV (l:=r)]
theorem zhW{α:Type}{f:α->Bool}{l:List α}:zah .all [.lst (l.map fun x=>D.bl (f x))]=some (.val (.bl (l.all f))):=by
 simp[zah,ztC,zhV,List.all_map,Function.comp_def]
theorem zkp(n:Nat){l:zak}(h:0<=l.1/\l.1<=l.2/\1<=l.2/\l.2<=4):zaP U zas (n+2) 3 [cD l]=some (.val (.bl true)):=by
 rw[zav U3 rfl]
 obtain⟨h1,h2,h3,h4⟩:=h
 have h0:=zeo n l
 simp[ir3,h0]
 simp[cD,zdi,h1,h2,h3,h4]
theorem zcw{i:Int}(h:0<=i)(h':i<=1000000):inR i:=by unfold inR;omega
theorem zkq{a b:Int}(h:inR a/\inR b):zaE true [.val (.int a),.val (.int b)]=some ((List.range (b-a).toNat).map fun (k:Nat)=>D.int (a+(k:Int))):=by simp[zaE,h]
theorem zeh{a:Int}(h:inR a):zaE true [.val (.int a)]=some ((List.range a.toNat).map fun (k:Nat)=>D.int (0+(k:Int))):=by simp[zaE,h]
@[simp] theorem zsU{l:List D}:zaE false [.val (.tup l)]=some l:=id rfl
@[simp] theorem zsV{l:List D}:zaE false [.val (.lst l)]=some l:=id rfl
@[simp] theorem zsW{o:Bool}{l:List D}:zaE false [.obj o (.lst l)]=some l:=id rfl
theorem zeK{f:List zak}{k:Nat}(h:k<f.length):zah .idx [fD f,.int (k:Int)]=some (.val (cD f[k])):=by
 rw[fD,zsy,atI_nat (by simpa using h)];simp
theorem zhX(n:Nat){f:List zak}(hl:f.length<=1000)(h:f.Pairwise cLt):zaP U zas (n+1) 4 [fD f]=some (.val (.bl true)):=by
 rw[zav U4 rfl]
 have hl':=zbT
 have e3:((f.length:Int)-1).toNat=f.length-1:=by omega
 simp only[ir4]
 simp
 rw[zfP (rs:=[.val (.int 1),.val (.int f.length)]) (xs:=List.range (f.length-1)) (f:=fun (k:Nat)=>D.int (1+(k:Int))) (fun _=>.bl true)]
 ·simp[zhW]
 ·simp[fD]
 ·rw[zkq ⟨zcw (by omega) (by omega),zcw (by omega) (by omega)⟩,e3]
 ·simp;omega
 ·intro k hk
  rw[List.mem_range] at hk
  have e1:(1+(k:Int)-1)=(k:Int):=by omega
  have e2:(1+(k:Int))=((k+1:Nat):Int):=by omega
  have hk1:k<f.length:=by omega
  have hk2:k+1<f.length:=by omega
  have:=List.pairwise_iff_getElem.mp h k (k+1) hk1 hk2 (by omega)
  simp[e1]
  rw[zeK hk1,e2,zeK hk2]
  simp[this]
@[simp] theorem zuU{f:List zak}:zd6 .tuple (fD f)=true:=id rfl
@[simp] theorem zuV{c:zak}:zd6 .tuple (cD c)=true:=id rfl
theorem zpT{f:List zak}:zah .len [fD f]=some (.val (.int f.length)):=by simp[fD]
theorem ziX(n:Nat){f:List zak}(h:OkF f):zaP U zas (n+3) 5 [fD f]=some (.val (.bl true)):=by
 rw[zav U5 rfl]
 have hl':=zbT
 have h1:=h.len
 have h2:1<=f.length:=by have:=h.ne;cases f<;>simp_all
 have hr:=zhX (n+1) (by omega) h.rise
 simp -implicitDefEqProofs only[ir5]
 simp -implicitDefEqProofs [zpT,show (1:Int)<=f.length by omega,show (f.length:Int)<=24 by omega,hr]
 rw[zfP (rs:=[.val (fD f)]) (xs:=f) (f:=cD) (fun _=>.bl true)]
 ·simp -implicitDefEqProofs [zhW,fD]
 ·simp
 ·rfl
 ·omega
 ·intro c hc
  simp -implicitDefEqProofs [zfS n (h.cells c hc)]
theorem zkr(n:Nat){f:List zak}(h:OkF f):zaP U zas (n+4) 6 [fD f]=some (.val (fD f)):=by
 rw[zav U6 rfl]
 simp[ir6,ziX n h]
structure OkL (l:zak):Prop where
 a:0<=l.1
 b:l.1<=l.2
 c:1<=l.2
 d:l.2<=4
theorem ze5(n:Nat){l:zak}(h:OkL l):zaP U zas (n+3) 7 [cD l]=some (.val (cD l)):=by
 rw[zav U7 rfl]
 simp[ir7,zkp n ⟨h.a,h.b,h.c,h.d⟩]
theorem zoG{c:zak}{f:List zak}:zah .nin [cD c,fD f]=some (.val (.bl (!decide (c∈f)))):=by
 simp only[fD,zah,zng,zgD,zeg,Bool.and_self,if_true,ze4,zd3]
theorem zsX{c:zak}{f:List zak}:zah .inn [cD c,lD f]=some (.val (.bl (decide (c∈f)))):=by
 simp only[lD,zah,pIn,zgD,zeg,Bool.and_self,if_true,ze4,zd3]
theorem zsY{c:zak}{f:List zak}:zah .nin [cD c,lD f]=some (.val (.bl (!decide (c∈f)))):=by
 simp only[lD,zah,zng,zgD,zeg,Bool.and_self,if_true,ze4,zd3]
theorem zcx(n:Nat){f:List zak}{c:zak}(h:okC c)(hc:c∈f):zaP U zas (n+3) 8 [fD f,cD c]=some (.val (cD c)):=by
 rw[zav U8 rfl]
 simp[ir8,zfS n h,zoG,hc]
noncomputable def zis(i:Int):Int:=if i<0 then -i else i
noncomputable def ze6(l a b:zak):Bool:=decide ((min (zis (a.1-b.1)) (zis (a.2-b.2)),max (zis (a.1-b.1)) (zis (a.2-b.2)))=l)
theorem zdz(a b:Int):zis (a-b)=zis (b-a):=by unfold zis;split<;>split<;>omega
theorem zbU(l a b:zak):ze6 l a b=ze6 l b a:=by unfold ze6;rw[zdz a.1,zdz a.2]
@[simp] theorem zym{c:zak}:zah .idx [cD c,.int 0]=some (.val (.int c.1)):=id rfl
@[simp] theorem zyn{c:zak}:zah .idx [cD c,.int 1]=some (.val (.int c.2)):=id rfl
theorem zwA{a b:zak}:zah .eq [cD a,cD b]=some (.val (.bl (decide (a=b)))):=by rw[zwr (by simp) (by simp),zmj]
noncomputable def zwB(x y:Int):zak:=(min (zis x) (zis y),max (zis x) (zis y))
theorem zmk(n:Nat)(x y:Int):zaP U zas (n+1) 9 [.int x,.int y]=some (.val (cD (zwB x y))):=by
 rw[zav U9 rfl]
 have e: ∀x y:Int,D.tup [.int (if y<x then y else x),.int (if y>x then y else x)]=cD (min x y,max x y):=by
  intro x y
  have e1:(if y<x then y else x)=min x y:=by split<;>omega
  have e2:(if y>x then y else x)=max x y:=by split<;>omega
  rw[e1,e2];rfl
 simp[ir9, -zoE, -zoF]
 simp only[zoE,zoF,Option.bind_some,zhn,toD,Option.map_some,Function.comp_apply]
 simp
 rw[e]
 rfl
theorem zml(l a b:zak):decide (zwB (b.1-a.1) (b.2-a.2)=l)=ze6 l a b:=by
 unfold ze6 zwB;rw[zdz a.1,zdz a.2]
theorem ziY(n:Nat)(l a b:zak):zaP U zas (n+2) 10 [cD l,cD a,cD b]=some (.val (.bl (ze6 l a b))):=by
 rw[zav U10 rfl]
 simp[zsK,zmk,zwA,zml]
theorem zgE(n:Nat)(l c:zak){f:List zak}(h:f.length<=1000):zaP U zas (n+3) 11 [fD f,cD l,cD c]=some (.obj true (.lst ((f.filter (ze6 l c)).map cD))):=by
 rw[zav U11 rfl]
 have hl':=zbT
 simp only[zsL]
 simp
 rw[zcb (rs:=[.val (fD f)]) (xs:=f) (f:=cD) (ze6 l c) cD]
 ·simp
 ·simp
 ·rfl
 ·omega
 ·intro x _;simp[ziY]
 ·intro x _ _;simp
end LK
namespace LK
open L2.LW
noncomputable def sm(a:Int):Prop:= -(2 ^ 64)<a/\a<2 ^ 64
theorem zpU{a:Int}(h: -1000000<=a)(h':a<=1000000):sm a:=by unfold sm;omega
theorem zmm{a b:Int}(h:sm b):zah .mul [.int a,.int b]=some (.val (.int (a*b))):=zsv h
noncomputable def sD(ns:List Int):D:=.lst (ns.map D.int)
noncomputable def zdA(ns:List Int)(k:Int):Int:=ns.getD k.toNat 0
theorem zbi(n:Nat)(ns:List Int){k:Int}(h:0<=k):zaP U zas (n+1) 13 [sD ns,.int k]=some (.val (.int (zdA ns k))):=by
 rw[zav U13 rfl]
 obtain⟨j,rfl⟩:=Int.eq_ofNat_of_zero_le h
 simp only[zsM]
 by_cases hj:j<ns.length
 ·have hj':(j:Int)<(ns.length:Int):=by omega
  simp[sD,hj']
  rw[zjI,atI_nat (by simpa using hj)]
  simp[zdA,hj]
 ·have hj': ¬(j:Int)<(ns.length:Int):=by omega
  simp[sD,hj']
  simp[zdA,List.getElem?_eq_none (by omega:ns.length<=j)]
theorem zbC(n:Nat)(x:Int){p m:Int}(h:0<p)(h':0<m):zaP U zas (n+1) 14 [.int x,.int p,.int m]=some (.val (.int (x*48271%p%m))):=by
 rw[zav U14 rfl]
 simp[zsN,zmm (zpU (a:=48271) (by decide) (by decide)),zkm h,zkm h']
structure Built (down right wide:Int)(r k:Int)(fs:List zak):Prop where
 rise:fs.Pairwise cLt
 at_: ∀x∈fs,down<=x.1/\right<=x.2/\x.2<right+wide/\(x.1<down+r\/(x.1=down+r/\x.2<right+k))
theorem Built.next{down right wide r k:Int}{fs:List zak}(b:Built down right wide r k fs)(hk:0<=k)(hw:k<wide)(hr:0<=r):Built down right wide r (k+1) (fs++[(down+r,right+k)]):=by
 refine⟨?_,fun x hx=>?_⟩
 ·rw[List.pairwise_append]
  refine⟨b.rise,by simp,fun x hx y hy=>?_⟩
  simp only[List.mem_singleton] at hy
  subst hy
  have:=b.at_ x hx
  unfold cLt;simp only;omega
 ·rw[List.mem_append,List.mem_singleton] at hx
  rcases hx with hx|rfl
  ·have:=b.at_ x hx;omega
  ·show down<=down+r/\right<=right+k/\right+k<right+wide/\(down+r<down+r\/(down+r=down+r/\right+k<right+(k+1)))
   omega
theorem Built.skip{down right wide r k:Int}{fs:List zak}(b:Built down right wide r k fs):Built down right wide r (k+1) fs:=
 ⟨b.rise,fun x hx=>by have:=b.at_ x hx;omega⟩
theorem Built.row{down right wide r:Int}{fs:List zak}(b:Built down right wide r wide fs):Built down right wide (r+1) 0 fs:=
 ⟨b.rise,fun x hx=>by have:=b.at_ x hx;omega⟩
theorem zx6(a b c:D){w:Int}(h:w=0\/w=1\/w=2): ∃d,(d=a\/d=b\/d=c)/\zah .idx [.lst [a,b,c],.int w]=some (.val d):=by
 rcases h with rfl|rfl|rfl
 ·exact⟨a,.inl rfl,rfl⟩
 ·exact⟨b,.inr (.inl rfl),rfl⟩
 ·exact⟨c,.inr (.inr rfl),rfl⟩
@[simp] theorem zqC{fs:List zak}{a b:Int}:fs.map cD++[.tup [.int a,.int b]]=(fs++[(a,b)]).map cD:=by simp[cD]
theorem ziZ(n:Nat)(ns:List Int){at_ most x rows wide down right way r k:Int}{j12:Option SV}{fs:List zak}(h0:0<=at_)(hr:0<=r/\r<=1000)(hk:0<=k/\k<=1000)(hw:0<=way/\way<4)(hl:fs.length<=1000)(hj:za1 (some j12)=true):
  ∃v fs',za1 (some v)=true/\zaV (zat U zas (n+1)) zas zjL [some (.val (sD ns)),some (.val (.int at_)),some (.val (.int most)),some (.val (.int x)),some (.val (.int rows)),some (.val (.int wide)),some (.val (.int down)),some (.val (.int right)),some (.val (.int way)),
   some (.obj true (.lst (fs.map cD))),some (.val (.int r)),some (.val (.int k)),j12]=
   some (.nx,[some (.val (sD ns)),some (.val (.int at_)),some (.val (.int most)),some (.val (.int x)),some (.val (.int rows)),some (.val (.int wide)),some (.val (.int down)),some (.val (.int right)),some (.val (.int way)),
   some (.obj true (.lst (fs'.map cD))),some (.val (.int r)),some (.val (.int k)),v])/\(fs'=fs\/fs'=fs++[(down+r,right+k)]):=by
 have m1:sm r:=zpU (by omega) (by omega)
 have m2:sm k:=zpU (by omega) (by omega)
 have h7:(0:Int)<7:=by decide
 have hi:0<=at_+2+(r+2*k)%7:=by omega
 have hl':=zbT
 have hl2:fs.length<line:=by omega
 simp only[zjL]
 simp[zmm m1,zmm m2,zkm h7,zbi n ns hi,hj]
 by_cases hz:way=0
 ·simp[hz,hl2]
  exact⟨_,zbf,fs++[(down+r,right+k)],by simp;rfl,.inr rfl⟩
 ·obtain⟨d,hd,e⟩:=zx6 (.int 2) (.int 4) (.int 7) (w:=way-1) (by omega)
  simp[hz,e]
  have key: ∃m,d= .int m/\0<m:=by
   rcases hd with rfl|rfl|rfl
   ·exact⟨_,rfl,by decide⟩
   ·exact⟨_,rfl,by decide⟩
   ·exact⟨_,rfl,by decide⟩
  obtain⟨m,rfl,hm⟩:=key
  simp[zbC n _ (show (0:Int)<9931 by decide) hm]
  split
  ·simp[hl2]
   exact⟨_,zbf,fs++[(down+r,right+k)],by simp;rfl,.inr rfl⟩
  ·exact⟨_,zbf,fs,rfl,.inl rfl⟩
noncomputable def flE(ns:List Int)(at_ most x rows wide down right way:Int)(fs:List zak)(a b c:Option SV):Env:=
 [some (.val (sD ns)),some (.val (.int at_)),some (.val (.int most)),some (.val (.int x)),some (.val (.int rows)),some (.val (.int wide)),some (.val (.int down)),some (.val (.int right)),some (.val (.int way)),some (.obj true (.lst (fs.map cD))),a,b,c]
theorem zmn(n:Nat)(ns:List Int){at_ most x rows wide down right way:Int}{r:Nat}{fs:List zak}{b c:Option SV}(h0:0<=at_)(hr:r<=100)(hw:0<=wide/\wide<=6)(hy:0<=way/\way<4)(hl:fs.length<=6*r)(hb:Built down right wide r 0 fs)(fb:za1 (some b)=true)(fc:za1 (some c)=true):
  ∃a' b' c' fs',(za1 (some a')=true/\za1 (some b')=true/\za1 (some c')=true)/\zaV (zat U zas (n+1)) zas zhT (flE ns at_ most x rows wide down right way fs (some (.val (.int r))) b c)=some (.nx,flE ns at_ most x rows wide down right way fs' a' b' c')/\fs'.length<=6*(r+1)/\Built down right wide (r+1:Nat) 0 fs':=by
 obtain⟨ρ',h1,b',c',fs',fr,rfl,h2,h3⟩:=zjK (i:=11) (a:=0) (m:=wide.toNat) (body:=zaV (zat U zas (n+1)) zas zjL)
  (fun k ρ=>∃b' c' fs',(za1 (some b')=true/\za1 (some c')=true)/\ρ=flE ns at_ most x rows wide down right way fs' (some (.val (.int r))) b' c'/\fs'.length<=6*r+k/\Built down right wide r (k:Int) fs') (ρ:=flE ns at_ most x rows wide down right way fs (some (.val (.int r))) b c)
  ⟨b,c,fs,⟨fb,fc⟩,rfl,by omega,hb⟩ fun k ρ hk zz3=>by
   obtain⟨b',c',fs',fr,e,h2,h3⟩:=zz3
   subst e
   obtain⟨v,fs2,fv,e1,e2⟩:=ziZ n ns (at_:=at_) (most:=most) (x:=x) (rows:=rows) (wide:=wide) (down:=down) (right:=right) (way:=way) (r:=r) (k:=0+(k:Int)) (j12:=c') (fs:=fs') h0 (by omega) (by omega) hy (by omega) fr.2
   refine⟨_,_,e1,.inl rfl,_,v,fs2,⟨zbf,fv⟩,rfl,?_⟩
   rw[Int.zero_add] at e2
   rcases e2 with rfl|rfl
   ·exact⟨by omega,h3.skip⟩
   ·exact⟨by simp;omega,h3.next (by omega) (by omega) (by omega)⟩
 refine⟨some (.val (.int r)),b',c',fs',⟨zbf,fr.1,fr.2⟩,?_,by omega,?_⟩
 ·simp only[zhT,ze3,ziU,zhQ,zjG,zma,zmb]
  rw[show (flE ns at_ most x rows wide down right way fs (some (.val (.int r))) b c)[11]? =some b from rfl,fb,show look (flE ns at_ most x rows wide down right way fs (some (.val (.int r))) b c) 5=some (.val (.int wide)) from rfl]
  simp[zeh (zcw hw.1 (by omega:wide<=1000000))]
  rw[show (List.map (fun (k:Nat)=>D.int (k:Int)) (List.range wide.toNat))=(List.range wide.toNat).map fun (k:Nat)=>D.int (0+(k:Int)) by simp,h1]
  simp
 ·have e:(wide.toNat:Int)=wide:=by omega
  rw[e] at h3
  have:=h3.row
  simpa using this
theorem zmo(n:Nat)(ns:List Int){at_ most x rows wide down right way:Int}{a b c:Option SV}(h0:0<=at_)(hr:0<=rows/\rows<=5)(hw:0<=wide/\wide<=6)(hy:0<=way/\way<4)(fa:za1 (some a)=true)(fb:za1 (some b)=true)(fc:za1 (some c)=true):
  ∃a' b' c' fs',exS (zat U zas (n+1)) zas (.for_ 10 true (.cons (.var 4) .nil) zhT) (flE ns at_ most x rows wide down right way [] a b c)=some (.nx,flE ns at_ most x rows wide down right way fs' a' b' c')/\Built down right wide rows 0 fs'/\fs'.length<=30:=by
 obtain⟨ρ',h1,a',b',c',fs',fr,rfl,h2,h3⟩:=zjK (i:=10) (a:=0) (m:=rows.toNat) (body:=zaV (zat U zas (n+1)) zas zhT)
  (fun k ρ=>∃a' b' c' fs',(za1 (some a')=true/\za1 (some b')=true/\za1 (some c')=true)/\ρ=flE ns at_ most x rows wide down right way fs' a' b' c'/\fs'.length<=6*k/\Built down right wide (k:Int) 0 fs') (ρ:=flE ns at_ most x rows wide down right way [] a b c)
  ⟨a,b,c,[],⟨fa,fb,fc⟩,rfl,by simp,⟨by simp,by simp⟩⟩ fun k ρ hk zz3=>by
   obtain⟨a',b',c',fs',fr,e,h2,h3⟩:=zz3
   subst e
   obtain⟨a2,b2,c2,fs2,fr2,e1,e2,e3⟩:=zmn n ns (at_:=at_) (most:=most) (x:=x) (rows:=rows) (wide:=wide) (down:=down) (right:=right) (way:=way) (r:=k) (fs:=fs') (b:=b') (c:=c') h0 (by omega) hw hy h2 h3 fr.2.1 fr.2.2
   refine⟨_,_,?_,.inl rfl,a2,b2,c2,fs2,fr2,rfl,e2,e3⟩
   rw[Int.zero_add]
   exact e1
 refine⟨a',b',c',fs',?_,?_,by omega⟩
 ·simp only[ziU,zhQ,zjG,zma,zmb]
  rw[show (flE ns at_ most x rows wide down right way [] a b c)[10]? =some a from rfl,fa,show look (flE ns at_ most x rows wide down right way [] a b c) 4=some (.val (.int rows)) from rfl]
  simp[zeh (zcw hr.1 (by omega:rows<=1000000))]
  rw[show (List.map (fun (k:Nat)=>D.int (k:Int)) (List.range rows.toNat))=(List.range rows.toNat).map fun (k:Nat)=>D.int (0+(k:Int)) by simp,h1]
 ·have e:(rows.toNat:Int)=rows:=by omega
  rw[e] at h3
  exact h3
theorem zoH{fs:List zak}{k:Int}(h:0<=k):zah .cutTo [.lst (fs.map cD),.int k]=some (.obj true (.lst ((fs.take k.toNat).map cD))):=by
 simp[zah,zjl,h]
noncomputable def zwC(f:List zak):Prop:=∃d:Int,∀c∈f,d<=c.1/\c.1<d+5
theorem zgF(n:Nat)(ns:List Int){at_ most:Int}(h0:0<=at_)(hm:1<=most)(hm2:most<=24): ∃f,OkF f/\(f.length:Int)<=most/\zwC f/\zaP U zas (n+2) 15 [sD ns,.int at_,.int most]=some (.val (fD f)):=by
 rw[zav U15 rfl]
 simp only[zsO]
 have p5:(0:Int)<5:=by decide
 have p6:(0:Int)<6:=by decide
 have p4:(0:Int)<4:=by decide
 have q1:(0:Int)<9973:=by decide
 have q2:(0:Int)<9967:=by decide
 have q3:(0:Int)<9949:=by decide
 have q4:(0:Int)<9941:=by decide
 have q5:(0:Int)<9907:=by decide
 have h1:0<=at_+1:=by omega
 simp[zbi n ns h0,zbi n ns h1,zbC n _ q1 p5,zbC n _ q2 p6,zbC n _ q5 p4]
 generalize hx:zdA ns at_=x
 generalize hrows:1+x*48271%9973%5=rows
 generalize hwide:1+x*48271%9967%6=wide
 have hr9:0<9-rows:=by omega
 have hw9:0<9-wide:=by omega
 simp[zbC n _ q3 hr9,zbC n _ q4 hw9,zbi n ns h1,zbC n _ q5 p4]
 generalize hdown:zdA ns (at_+1)*48271%9949%(9-rows)=down
 generalize hright:zdA ns (at_+1)*48271%9941%(9-wide)=right
 generalize hway:(x+3)*48271%9907%4=way
 have bw:0<=way/\way<4:=by omega
 have bd:0<=down/\down<9-rows:=by rw[<-hdown];exact⟨Int.emod_nonneg _ (by omega),Int.emod_lt_of_pos _ hr9⟩
 have br:0<=right/\right<9-wide:=by rw[<-hright];exact⟨Int.emod_nonneg _ (by omega),Int.emod_lt_of_pos _ hw9⟩
 obtain⟨a',b',c',fs,e1,hb,hl⟩:=zmo n ns (at_:=at_) (most:=most) (x:=x) (rows:=rows) (wide:=wide) (down:=down) (right:=right) (way:=way) (a:=none) (b:=none) (c:=none) h0 (by omega) (by omega) bw rfl rfl rfl
 have e1':=e1
 simp only[flE,List.map_nil] at e1'
 have hok: ∀c∈fs,okC c:=fun c hc=>by
  have:=hb.at_ c hc
  unfold okC;omega
 by_cases hf:fs=[]
 ·subst hf
  refine⟨[(down,right)],⟨by simp,by simp,fun c hc=>?_,by simp⟩,by simp;omega,⟨down,fun c hc=>?_⟩,?_⟩
  ·simp at hc;subst hc;unfold okC;simp only;omega
  ·simp at hc;subst hc;simp only;omega
  ·simp[e1']
   rw[show D.tup [.int down,.int right]=cD (down,right) from rfl,show ([cD (down,right)]:List D)=[(down,right)].map cD from rfl,zoH (by omega)]
   rw[List.take_of_length_le (by simp;omega)]
   simp[fD]
 ·refine⟨fs.take most.toNat,⟨fun h=>?_,?_,fun c hc=>hok c (List.mem_of_mem_take hc),hb.rise.sublist (List.take_sublist _ _)⟩,?_,⟨down,fun c hc=>?_⟩,?_⟩
  ·rw[List.take_eq_nil_iff] at h
   rcases h with h|h
   ·omega
   ·exact hf h
  ·rw[List.length_take];omega
  ·rw[List.length_take];omega
  ·have:=hb.at_ c (List.mem_of_mem_take hc)
   omega
  ·have hne:fs.map cD≠[]:=by simpa using hf
   simp[e1',hne,hf]
   rw[zoH (by omega)]
   simp[fD]
theorem zhY(n:Nat)(ns:List Int){at_ most:Int}(h0:0<=at_)(hm:1<=most)(hm2:most<=24): ∃f,OkF f/\(f.length:Int)<=most/\zaP U zas (n+2) 15 [sD ns,.int at_,.int most]=some (.val (fD f)):=by
 obtain⟨f,h1,h2,_,h3⟩:=zgF n ns h0 hm hm2
 exact⟨f,h1,h2,h3⟩
end LK
namespace LK
open L2.LW
noncomputable def ze7:List zak:=[(1,2),(0,1),(1,1),(1,2),(0,2),(1,3),(2,3),(0,1),(1,2),(2,2),(0,3),(1,4),(2,4),(3,3),(3,4),(0,4),(4,4),(1,2),(1,1)]
theorem zks: ∀l∈ze7,OkL l:=by
 intro l hl
 simp only[ze7,List.mem_cons,List.not_mem_nil,or_false] at hl
 rcases hl with rfl|rfl|rfl|rfl|rfl|rfl|rfl|rfl|rfl|rfl|rfl|rfl|rfl|rfl|rfl|rfl|rfl|rfl|rfl<;>exact⟨by decide,by decide,by decide,by decide⟩
theorem zi0(n:Nat)(x:Int): ∃l,OkL l/\zaP U zas (n+1) 16 [.int x]=some (.val (cD l)):=by
 rw[zav U16 rfl]
 have h19:(0:Int)<19:=by decide
 have hl:=zbT
 obtain⟨k,hk⟩:=Int.eq_ofNat_of_zero_le (Int.emod_nonneg x (by decide:(19:Int)≠0))
 have hk2:k<19:=by have:=Int.emod_lt_of_pos x h19;omega
 have hlen:ze7.length=19:=rfl
 refine⟨ze7[k]'(by omega),zks _ (List.getElem_mem _),?_⟩
 simp only[zsP]
 simp[zkm h19,hk]
 rw[zmg (by simp;omega)]
 simp
 rw[show ([D.tup [.int 1,.int 2],.tup [.int 0,.int 1],.tup [.int 1,.int 1],.tup [.int 1,.int 2],.tup [.int 0,.int 2],.tup [.int 1,.int 3],.tup [.int 2,.int 3],.tup [.int 0,.int 1],.tup [.int 1,.int 2],.tup [.int 2,.int 2],.tup [.int 0,.int 3],.tup [.int 1,.int 4],.tup [.int 2,.int 4],
  .tup [.int 3,.int 3],.tup [.int 3,.int 4],.tup [.int 0,.int 4],.tup [.int 4,.int 4],.tup [.int 1,.int 2],.tup [.int 1,.int 1]]:List D)=ze7.map cD from rfl]
 rw[zjI,atI_nat (by simp;omega)]
 simp
theorem zmp(x y:Int):zgb [x,y]=[min x y,max x y]:=by
 by_cases h:x<=y
 ·simp[zgb,List.mergeSort,List.MergeSort.Internal.splitInTwo,h,List.merge]
  omega
 ·simp[zgb,List.mergeSort,List.MergeSort.Internal.splitInTwo,h,List.merge]
  omega
theorem zc2(n:Nat)(l a b:zak):zaP U zas (n+1) 17 [cD l,cD a,cD b]=some (.val (.bl (ze6 l a b))):=by
 rw[zav U17 rfl]
 simp only[zsQ]
 simp
 have e:zah .sorted [.lst [.int (if a.1-b.1<0 then -(a.1-b.1) else a.1-b.1),.int (if a.2-b.2<0 then -(a.2-b.2) else a.2-b.2)]]=some (.obj true (.lst [.int (min (zis (a.1-b.1)) (zis (a.2-b.2))),.int (max (zis (a.1-b.1)) (zis (a.2-b.2)))])):=by
  simp[zah,zgc,ziA,ints?,zmp,zis]
 rw[e,show zah .toList [cD l]=some (.obj true (.lst [.int l.1,.int l.2])) from rfl]
 simp
 rw[zwr (by simp[zbv]) (by simp[zbv])]
 simp[eqD,zfm]
 unfold ze6
 rw[Bool.eq_iff_iff]
 obtain⟨l1,l2⟩:=l
 simp
theorem zi1(n:Nat)(l c:zak){f:List zak}(h:f.length<=1000):zaP U zas (n+2) 18 [fD f,cD l,cD c]=some (.obj true (.lst ((f.filter (ze6 l c)).map cD))):=by
 rw[zav U18 rfl]
 have hl':=zbT
 simp only[zsR]
 simp
 rw[zcb (rs:=[.val (fD f)]) (xs:=f) (f:=cD) (ze6 l c) cD]
 ·simp
 ·simp
 ·rfl
 ·omega
 ·intro x _;simp[zc2]
 ·intro x _ _;simp
theorem zxs{f:List zak}(h:f≠[])(x:Int): ∃k,∃hk:k<f.length,x%(f.length:Int)=(k:Int):=by
 have hp:0<(f.length:Int):=by cases f<;>simp_all
 obtain⟨k,hk⟩:=Int.eq_ofNat_of_zero_le (Int.emod_nonneg x (by omega:(f.length:Int)≠0))
 have:=Int.emod_lt_of_pos x hp
 exact⟨k,by omega,hk⟩
noncomputable def depth:Nat:=40
end LK
namespace LK
open L2.LW
noncomputable abbrev Ms:=List (zak×zak)
noncomputable def dD(ms:Ms):D:=.dct true (ms.map fun p=>cD p.1) (ms.map fun p=>cD p.2)
noncomputable def get(ms:Ms)(c:zak):Option zak:=(ms.find? fun p=>decide (p.1=c)).map (·.2)
noncomputable def put(ms:Ms)(c v:zak):Ms:=if (get ms c).isSome then ms.map (fun p=>if p.1=c then (p.1,v) else p) else ms++[(c,v)]
@[simp] theorem zfT{c:zak}:zbx true (cD c)=true:=by simp[cD,zbx,ints?]
theorem zhZ(c:zak): ∀l:List zak,kix (l.map cD) (cD c)=l.findIdx? fun x=>decide (x=c)
 |[]=>rfl
 |x::r=>by
  have ih:=zhZ c r
  unfold kix at ih⊢
  rw[List.map_cons,List.findIdx?_cons,List.findIdx?_cons,zmj,ih]
theorem zdB(c:zak): ∀l:List zak,(kix (l.map cD) (cD c)).isSome=decide (c∈l):=fun l=>by
 rw[zhZ]
 cases e:l.findIdx? fun x=>decide (x=c) with
 |none=>
  rw[List.findIdx?_eq_none_iff] at e
  have:c∉l:=fun h=>by have:=e c h;simp at this
  simp[this]
 |some i=>
  obtain⟨h1,h2,_⟩:=List.findIdx?_eq_some_iff_getElem.mp e
  have:c∈l:=by
   have h2:l[i]=c:=by simpa using h2
   rw[<-h2];exact List.getElem_mem h1
  simp[this]
theorem zn0(p:zak×zak)(r:Ms)(c:zak):get (p::r) c=if p.1=c then some p.2 else get r c:=by
 unfold get
 rw[List.find?_cons]
 by_cases h:p.1=c<;>simp[h]
theorem zcS(c:zak): ∀ms:Ms,(get ms c).isSome=decide (c∈ms.map (·.1))
 |[]=>rfl
 |p::r=>by
  rw[zn0,List.map_cons]
  by_cases h:p.1=c
  ·simp[h]
  ·rw[if_neg h,zcS c r]
   have: ¬c=p.1:=fun z=>h z.symm
   simp[this]
theorem zmq(ms:Ms):(ms.map fun p=>cD p.1)=(ms.map (·.1)).map cD:=by rw[List.map_map];rfl
@[simp] theorem zx7{c:zak}{ms:Ms}:zah .inn [cD c,dD ms]=some (.val (.bl (get ms c).isSome)):=by
 simp only[dD,zah,pIn,zfT,if_true,zd3,zmq,zdB,zcS]
@[simp] theorem zxt{c:zak}{ms:Ms}:zah .nin [cD c,dD ms]=some (.val (.bl (!(get ms c).isSome))):=by
 simp only[dD,zah,zng,zfT,if_true,zd3,zmq,zdB,zcS]
@[simp] theorem zsZ{ms:Ms}:zbe (ms.map fun p=>cD p.2)=true:=by
 have:(ms.map fun p=>cD p.2)=(ms.map (·.2)).map cD:=by rw[List.map_map];rfl
 rw[this];exact zen
@[simp] theorem zuW{ms:Ms}:zka (dD ms)=true:=by simp[dD]
@[simp] theorem zs0{ms:Ms}:zb5 (dD ms)=true:=by simp[dD]
noncomputable def zs1(ms:Ms):Prop:=(ms.map (·.1)).Nodup
theorem zbP{α:Type}[DecidableEq α]: ∀{l m:List α},l.Nodup->(∀x∈l,x∈m)->l.length<=m.length
 |[],_,_,_=>Nat.zero_le _
 |x::r,m,hn,hs=>by
  rw[List.nodup_cons] at hn
  have hx:=hs x List.mem_cons_self
  have ih:=zbP (l:=r) (m:=m.erase x) hn.2 fun y hy=>by
   rw[List.mem_erase_of_ne (fun e=>hn.1 (by rw[<-e];exact hy))]
   exact hs y (List.mem_cons_of_mem _ hy)
  rw[List.length_erase_of_mem hx] at ih
  have:0<m.length:=List.length_pos_of_mem hx
  simp;omega
theorem zpV{l:zak}(h:OkL l):l∈[((0:Int),(1:Int)),(1,1),(0,2),(1,2),(2,2),(0,3),(1,3),(2,3),(3,3),(0,4),(1,4),(2,4),(3,4),(4,4)]:=by
 obtain⟨h1,h2,h3,h4⟩:=h
 have all: ∀i j:Fin 5,i.1<=j.1->1<=j.1->(((i.1:Nat):Int),((j.1:Nat):Int))∈[((0:Int),(1:Int)),(1,1),(0,2),(1,2),(2,2),(0,3),(1,3),(2,3),(3,3),(0,4),(1,4),(2,4),(3,4),(4,4)]:=by decide+kernel
 have:=all ⟨l.1.toNat,by omega⟩ ⟨l.2.toNat,by omega⟩ (by simp only;omega) (by simp only;omega)
 simp only at this
 rw[Int.toNat_of_nonneg h1,Int.toNat_of_nonneg (by omega)] at this
 exact this
theorem OkL.cases{P:zak->Prop}{l:zak}(h:OkL l)(p: ∀x∈[((0:Int),(1:Int)),(1,1),(0,2),(1,2),(2,2),(0,3),(1,3),(2,3),(3,3),(0,4),(1,4),(2,4),(3,4),(4,4)],P x):P l:=p l (zpV h)
theorem zx8{g m x y:Int}(hg:1<=g)(h:x-y=g*m\/x-y= -(g*m)):(x/g=y/g+m\/x/g=y/g-m)/\x%g=y%g:=by
 rcases h with h|h
 ·rw[show x=y+g*m by omega,Int.add_mul_ediv_left _ _ (by omega),Int.add_mul_emod_self_left]
  exact⟨.inl rfl,rfl⟩
 ·rw[show x=y+g*(-m) by rw[Int.mul_neg];omega,Int.add_mul_ediv_left _ _ (by omega),Int.add_mul_emod_self_left]
  exact⟨.inr (by omega),rfl⟩
end LK
namespace LK
open L2.LW
theorem zkt{i:Nat}{body:Env->Option (Fl×Env)}(I:List zak->Env->Prop)(Q:SV->Env->Prop){xs:List zak}{ρ:Env}(h0:I [] ρ)
  (st: ∀pre x post ρ,xs=pre++x::post->I pre ρ->∃fl ρ',body (ρ.set i (some (.val (cD x))))=some (fl,ρ')/\(((fl= .nx\/fl= .ct)/\I (pre++[x]) ρ')\/∃r,fl= .rt r/\Q r ρ')):
  ∃fl ρ',zeT i body (xs.map cD) ρ=some (fl,ρ')/\((fl= .nx/\I xs ρ')\/∃r,fl= .rt r/\Q r ρ'):=by
 have key: ∀(post pre:List zak) (ρ:Env),xs=pre++post->I pre ρ->∃fl ρ',zeT i body (post.map cD) ρ=some (fl,ρ')/\((fl= .nx/\I xs ρ')\/∃r,fl= .rt r/\Q r ρ'):=by
  intro post
  induction post with
  |nil=>intro pre ρ e h;exact⟨_,ρ,rfl,.inl ⟨rfl,by rw[e];simpa using h⟩⟩
  |cons x post ih=>
   intro pre ρ e h
   obtain⟨fl,ρ1,e1,e2⟩:=st pre x post ρ e h
   rw[List.map_cons,zeT,e1]
   simp only[Option.bind_some]
   rcases e2 with ⟨e2,h1⟩|⟨r,rfl,q⟩
   ·obtain⟨fl',ρ',e3,h3⟩:=ih (pre++[x]) ρ1 (by simp[e]) h1
    rcases e2 with rfl|rfl<;>exact⟨fl',ρ',e3,h3⟩
   ·exact⟨_,ρ1,rfl,.inr ⟨r,rfl,q⟩⟩
 exact key xs [] ρ rfl h0
theorem zdj{i:Nat}{body:Env->Option (Fl×Env)}(I:List zak->Env->Prop){xs:List zak}{ρ:Env}(h0:I [] ρ)
  (st: ∀pre x post ρ,xs=pre++x::post->I pre ρ->∃fl ρ',body (ρ.set i (some (.val (cD x))))=some (fl,ρ')/\(fl= .nx\/fl= .ct)/\I (pre++[x]) ρ'):
  ∃ρ',zeT i body (xs.map cD) ρ=some (.nx,ρ')/\I xs ρ':=by
 obtain⟨fl,ρ',e,h⟩:=zkt (i:=i) (body:=body) I (fun _ _=>False) (xs:=xs) (ρ:=ρ) h0 fun pre x post ρ e h=>by
  obtain⟨fl,ρ',h1,h2,h3⟩:=st pre x post ρ e h
  exact⟨fl,ρ',h1,.inl ⟨h2,h3⟩⟩
 rcases h with ⟨rfl,h⟩|⟨_,_,z⟩
 ·exact⟨ρ',e,h⟩
 ·exact z.elim
noncomputable def zxu(k:Option (List D)):Option (Option SV)->Option (List D)
 |some (some (.io d))=>k.map (d:: ·)
 |_=>none
@[simp] theorem zwD{k:Option (List D)}{d:D}:zxu k (some (some (.io d)))=k.map (d:: ·):=id rfl
@[simp] theorem zqD{ρ:Env}:zb7 ρ []=some []:=by rw[zb7]
@[simp] theorem zpW{ρ:Env}{i:Nat}{r:List Nat}:zb7 ρ (i::r)=zxu (zb7 ρ r) ρ[i]? :=by
 rw[zb7]
 rcases ρ[i]? with _|_|(_|_|_)<;>rfl
@[simp] theorem zwE{io:List Nat}{r:SV}{ρ:Env}:zpf io (some (.rt r,ρ))=(zb7 ρ io).map (Ans.ok r):=id rfl
@[simp] theorem zwF{io:List Nat}{ρ:Env}:zpf io (some (.nx,ρ))=(zb7 ρ io).map (Ans.ok (.val .non)):=id rfl
noncomputable def tD(tr:List zak):D:=.dct true (tr.map cD) (tr.map fun _=>.bl true)
@[simp] theorem zs2{tr:List zak}:zbe (tr.map fun _=>(.bl true:D))=true:=by
 induction tr with
 |nil=>simp
 |cons x r ih=>simpa using ih
@[simp] theorem zuX{tr:List zak}:zka (tD tr)=true:=by simp[tD]
@[simp] theorem zs3{tr:List zak}:zb5 (tD tr)=true:=by simp[tD]
@[simp] theorem zxv{c:zak}{tr:List zak}:zah .nin [cD c,tD tr]=some (.val (.bl (!decide (c∈tr)))):=by
 simp only[tD,zah,zng,zfT,if_true,zd3,zdB]
section
variable (f:List zak) (l:zak)
noncomputable def nb(c:zak):List zak:=f.filter (ze6 l c)
structure Half (ms:Ms):Prop where
 nd:zs1 ms
 inF: ∀x y,get ms x=some y->x∈f/\y∈f/\ze6 l x y=true
end
section
variable {f:List zak} {l:zak}
theorem zep{c o:zak}:o∈nb f l c↔o∈f/\ze6 l c o=true:=by unfold nb;exact List.mem_filter
theorem Half.len{ms:Ms}(h:Half f l ms):ms.length<=f.length:=by
 have:=zbP (l:=ms.map fun (p:zak×zak)=>p.1) (m:=f) h.nd fun x hx=>by
  have:(get ms x).isSome=true:=by rw[zcS];simpa using hx
  obtain⟨y,hy⟩:=Option.isSome_iff_exists.mp this
  exact (h.inF x y hy).1
 simpa using this
@[simp] theorem zwG{c:zak}:zla (.val (cD c))=some (.e (cD c)):=by simp[cD]
@[simp] theorem zwH{g:List zak}:zla (.val (fD g))=some (.e (fD g)):=by simp[fD]
structure TrOk (f tr:List zak):Prop where
 nd:tr.Nodup
 sub: ∀x∈tr,x∈f
theorem TrOk.len{tr:List zak}(h:TrOk f tr):tr.length<=f.length:=zbP h.nd h.sub
theorem TrOk.snoc{tr:List zak}{o:zak}(h:TrOk f tr)(ho:o∈f)(ht:o∉tr):TrOk f (tr++[o]):=by
 refine⟨?_,fun x hx=>?_⟩
 ·rw[List.nodup_append]
  refine⟨h.nd,by simp,fun a ha b hb e=>?_⟩
  simp at hb;subst hb;subst e;exact ht ha
 ·rw[List.mem_append,List.mem_singleton] at hx
  rcases hx with z|rfl
  ·exact h.sub x z
  ·exact ho
end
end LK
namespace LK
open L2.LW
section
variable {α:Type}
noncomputable def dG(g:α->D)(ms:List (zak×α)):D:=.dct true (ms.map fun p=>cD p.1) (ms.map fun p=>g p.2)
noncomputable def zbR(ms:List (zak×α))(c:zak):Option α:=(ms.find? fun p=>decide (p.1=c)).map (·.2)
theorem zbI(p:zak×α)(r:List (zak×α))(c:zak):zbR (p::r) c=if p.1=c then some p.2 else zbR r c:=by
 unfold zbR
 rw[List.find?_cons]
 by_cases h:p.1=c<;>simp[h]
theorem zbj(c:zak): ∀ms:List (zak×α),(zbR ms c).isSome=decide (c∈ms.map (·.1))
 |[]=>rfl
 |p::r=>by
  rw[zbI,List.map_cons]
  by_cases h:p.1=c
  ·simp[h]
  ·rw[if_neg h,zbj c r]
   have: ¬c=p.1:=fun z=>h z.symm
   simp[this]
theorem zmr(g:α->D)(c:zak): ∀ms:List (zak×α),zo9 (ms.map fun p=>cD p.1) (ms.map fun p=>g p.2) (cD c)=(zbR ms c).map g
 |[]=>rfl
 |p::r=>by
  have ih:=zmr g c r
  unfold zo9 kix at ih⊢
  rw[List.map_cons,List.map_cons,List.findIdx?_cons,zmj,zbI]
  by_cases h:p.1=c
  ·simp[h]
  ·rw[if_neg h,<-ih]
   simp only[h,decide_false,Bool.false_eq_true,if_false]
   cases (List.findIdx? (fun x=>eqD x (cD c)) (r.map fun p=>cD p.1))<;>simp
theorem zms(ms:List (zak×α)):(ms.map fun p=>cD p.1)=(ms.map (·.1)).map cD:=by rw[List.map_map];rfl
theorem zjP{g:α->D}{c:zak}{ms:List (zak×α)}:zah .nin [cD c,dG g ms]=some (.val (.bl (!(zbR ms c).isSome))):=by
 simp only[dG,zah,zng,zfT,if_true,zd3,zms,zdB,zbj]
theorem zmt{g:α->D}{c:zak}{ms:List (zak×α)}{v:α}(h:zbR ms c=some v):zah .idx [dG g ms,cD c]=some (.val (g v)):=by
 simp only[dG,zah,ztB,zfT,if_true,zmr,h,Option.map_some]
theorem zpX{g:α->D}{ms:List (zak×α)}{c:zak}{v:α}(h:zbR ms c=none):zkH true (ms.map fun p=>cD p.1) (ms.map fun p=>g p.2) (cD c) (g v)=dG g (ms++[(c,v)]):=by
 unfold zkH
 rw[zms,zdB,<-zbj,h]
 simp[dG]
theorem zbJ{ms:List (zak×α)}{c x:zak}{v:α}(h:zbR ms c=none):zbR (ms++[(c,v)]) x=if x=c then some v else zbR ms x:=by
 induction ms with
 |nil=>
  show zbR ((c,v)::[]) x=_
  rw[zbI]
  by_cases e:c=x
  ·subst e;simp
  ·have: ¬x=c:=fun z=>e z.symm
   rw[if_neg e,if_neg this]
 |cons p r ih=>
  rw[zbI] at h
  split at h
  ·cases h
  ·rename_i hp
   rw[List.cons_append,zbI,zbI,ih h]
   by_cases e:p.1=x
   ·rw[if_pos e,if_pos e,if_neg (fun z=>hp (e.trans z))]
   ·rw[if_neg e,if_neg e]
theorem zs4{g:α->D}{ρ:Env}{i:Nat}{ms:List (zak×α)}{c:zak}{v:α}(h:zbR ms c=none)(hl:ms.length<line):
  zmc ρ i (some (.val (cD c))) (some (.val (g v))) (some (some (.obj true (dG g ms))))=some (.nx,ρ.set i (some (.obj true (dG g (ms++[(c,v)]))))):=by
 rw[dG,zmd]
 simp only[Option.bind_some,ziV,zfT,List.length_map,hl,decide_true,Bool.and_self,if_true,zpX h]
end
section
variable (f:List zak) (l:zak)
noncomputable def Bk(goal:zak):Nat->zak->Prop
 |0,c=>c=goal
 |k+1,c=>Bk goal k c\/(c∈f/\∃p,Bk goal k p/\ze6 l c p=true)
noncomputable def Lv(goal:zak)(k:Nat)(c:zak):Prop:=Bk f l goal k c/\∀i,i<k->¬Bk f l goal i c
noncomputable abbrev zgG:=List (zak×Option zak)
noncomputable def oD:Option zak->D
 |none=>.non
 |some c=>cD c
structure LOk (goal:zak)(ms:zgG):Prop where
 nd:(ms.map (·.1)).Nodup
 sub: ∀c,(zbR ms c).isSome=true->c∈f
 root: ∀c,zbR ms c=some none->c=goal
 next: ∀c p,zbR ms c=some (some p)->ze6 l c p=true/\∃j,Lv f l goal (j+1) c/\Lv f l goal j p/\(zbR ms p).isSome=true
end
section
variable {f:List zak} {l:zak} {goal:zak}
theorem Bk.mono: ∀{k m:Nat} {c:zak},k<=m->Bk f l goal k c->Bk f l goal m c
 |k,0,c,h,b=>by
  have:k=0:=by omega
  subst this;exact b
 |k,m+1,c,h,b=>by
  by_cases e:k=m+1
  ·subst e;exact b
  ·exact .inl (Bk.mono (by omega) b)
theorem Bk.inF(hg:goal∈f): ∀{k:Nat} {c:zak},Bk f l goal k c->c∈f
 |0,c,h=>by rw[show c=goal from h];exact hg
 |k+1,c,h=>by
  rcases h with h|h
  ·exact Bk.inF hg h
  ·exact h.1
theorem Lv.uniq{j k:Nat}{c:zak}(h:Lv f l goal j c)(h':Lv f l goal k c):j=k:=by
 rcases Nat.lt_trichotomy j k with z|z|z
 ·exact absurd h.1 (h'.2 j z)
 ·exact z
 ·exact absurd h'.1 (h.2 k z)
theorem Bk.lv{k:Nat}{c:zak}(h:Bk f l goal k c): ∃j,j<=k/\Lv f l goal j c:=by
 induction k with
 |zero=>exact⟨0,Nat.le_refl _,h,fun i hi=>by omega⟩
 |succ k ih=>
  by_cases hk:Bk f l goal k c
  ·obtain⟨j,h1,h2⟩:=ih hk
   exact⟨j,by omega,h2⟩
  ·exact⟨k+1,Nat.le_refl _,h,fun i hi z=>hk (z.mono (by omega))⟩
theorem LOk.len{ms:zgG}(h:LOk f l goal ms):ms.length<=f.length:=by
 have:=zbP (l:=ms.map fun (p:zak×Option zak)=>p.1) (m:=f) h.nd fun x hx=>h.sub x (by rw[zbj];simpa using hx)
 simpa using this
noncomputable def ltE(f:List zak)(l goal:zak)(ms:zgG)(s4 s5 s6 s7:Option SV):Env:=[some (.val (fD f)),some (.val (cD l)),some (.val (cD goal)),some (.obj true (dG oD ms)),s4,s5,s6,s7]
theorem zpY(n:Nat)(hf:f.length<=100){ms:zgG}{fu:List zak}{s4:Option SV}{k:Nat}{c o:zak}(hm:LOk f l goal ms)(hc:Lv f l goal k c)(hcm:(zbR ms c).isSome=true)(hk: ∀x,Bk f l goal k x->(zbR ms x).isSome=true)(hof:o∈f)(hn:ze6 l c o=true)(hfu:fu.length<=1000):
  ((zbR ms o).isSome=true/\zaV (zat U zas n) zas zfR (ltE f l goal ms s4 (some (.obj true (lD fu))) (some (.val (cD c))) (some (.val (cD o))))=some (.nx,ltE f l goal ms s4 (some (.obj true (lD fu))) (some (.val (cD c))) (some (.val (cD o)))))\/
  (zbR ms o=none/\LOk f l goal (ms++[(o,some c)])/\Lv f l goal (k+1) o/\zaV (zat U zas n) zas zfR (ltE f l goal ms s4 (some (.obj true (lD fu))) (some (.val (cD c))) (some (.val (cD o))))=
   some (.nx,ltE f l goal (ms++[(o,some c)]) s4 (some (.obj true (lD (fu++[o])))) (some (.val (cD c))) (some (.val (cD o))))):=by
 have hl':=zbT
 have hml:=hm.len
 cases hg:zbR ms o with
 |some v=>
  refine .inl ⟨rfl,?_⟩
  simp[zfR,ltE,zjP,hg]
 |none=>
  have hlv:Lv f l goal (k+1) o:=⟨.inr ⟨hof,c,hc.1,by rw[zbU];exact hn⟩,fun i hi b=>by
   have:=hk o (b.mono (by omega))
   rw[hg] at this;cases this⟩
  have hno:o≠c:=fun e=>by subst e;rw[hg] at hcm;cases hcm
  refine .inr ⟨rfl,⟨?_,fun x hx=>?_,fun x hx=>?_,fun x p hx=>?_⟩,hlv,?_⟩
  ·rw[List.map_append,List.nodup_append]
   refine⟨hm.nd,by simp,fun a ha b hb e=>?_⟩
   simp at hb;subst hb;subst e
   have:(zbR ms a).isSome=true:=by rw[zbj];simpa using ha
   rw[hg] at this;cases this
  ·rw[zbJ hg] at hx
   split at hx
   ·rename_i e;subst e;exact hof
   ·exact hm.sub x hx
  ·rw[zbJ hg] at hx
   split at hx
   ·cases hx
   ·exact hm.root x hx
  ·rw[zbJ hg] at hx
   have up: ∀y,(zbR ms y).isSome=true->(zbR (ms++[(o,some c)]) y).isSome=true:=fun y hy=>by
    rw[zbJ hg];split
    ·rfl
    ·exact hy
   split at hx
   ·rename_i e
    cases hx;subst e
    exact⟨by rw[zbU];exact hn,k,hlv,hc,up _ hcm⟩
   ·obtain⟨h1,j,h2,h3,h4⟩:=hm.next x p hx
    exact⟨h1,j,h2,h3,up _ h4⟩
  ·have e1: ∀ρ:Env,zmc ρ 3 (some (.val (cD o))) (some (.val (cD c))) (some (some (.obj true (dG oD ms))))=some (.nx,ρ.set 3 (some (.obj true (dG oD (ms++[(o,some c)]))))):=fun ρ=>zs4 (g:=oD) (v:=some c) hg (by omega)
   have e2: ∀(ρ:Env),ztT ρ 5 (some (.val (cD o))) (some (some (.obj true (lD fu))))=some (.nx,ρ.set 5 (some (.obj true (lD (fu++[o]))))):=fun ρ=>by
    rw[lD,zjH]
    have:fu.length<line:=by omega
    simp only[Option.bind_some,ziV,List.length_map,this,if_true]
    simp[lD]
   simp[zfR,ltE,zjP,hg,e1,e2]
structure Rg (f:List zak)(l goal:zak)(k:Nat)(ms0 ms:zgG)(fu:List zak):Prop extends LOk f l goal ms where
 old: ∀x,Bk f l goal k x->(zbR ms x).isSome=true
 fu_: ∀x,x∈fu↔(zbR ms x).isSome=true/\Lv f l goal (k+1) x
 up: ∀x,(zbR ms x).isSome=true->Bk f l goal (k+1) x
 nd2:fu.Nodup
 cnt:ms.length=ms0.length+fu.length
theorem zpZ(n:Nat)(hf:f.length<=100){ms0 ms:zgG}{fu:List zak}{s4 s7:Option SV}{k:Nat}{c:zak}(h:Rg f l goal k ms0 ms fu)(hc:Lv f l goal k c)(h7:za1 (some s7)=true):
  ∃ms' fu' s7',zaV (zat U zas (n+3)) zas zjM (ltE f l goal ms s4 (some (.obj true (lD fu))) (some (.val (cD c))) s7)=some (.nx,ltE f l goal ms' s4 (some (.obj true (lD fu'))) (some (.val (cD c))) s7')/\
   Rg f l goal k ms0 ms' fu'/\(∀o∈nb f l c,(zbR ms' o).isSome=true)/\(∀x,(zbR ms x).isSome=true->(zbR ms' x).isSome=true)/\za1 (some s7')=true:=by
 obtain⟨ρ',e,ms',fu',s7',rfl,r1,r2,r3,r4⟩:=zdj (i:=7) (body:=zaV (zat U zas (n+3)) zas zfR)
  (fun pre ρ=>∃ms' fu' s7',ρ=ltE f l goal ms' s4 (some (.obj true (lD fu'))) (some (.val (cD c))) s7'/\Rg f l goal k ms0 ms' fu'/\(∀o∈pre,(zbR ms' o).isSome=true)/\(∀x,(zbR ms x).isSome=true->(zbR ms' x).isSome=true)/\za1 (some s7')=true)
  (xs:=nb f l c) (ρ:=ltE f l goal ms s4 (some (.obj true (lD fu))) (some (.val (cD c))) s7) ⟨ms,fu,s7,rfl,h,fun o ho=>(by cases ho),fun y hy=>hy,h7⟩
  fun pre o post ρ e zz5=>by
   obtain⟨ms',fu',s7',eρ,r1,r2,r3,r4⟩:=zz5
   subst eρ
   have ho:o∈nb f l c:=by rw[e];simp
   have hlen:=r1.len
   have hcnt:=r1.cnt
   rcases zpY (n+3) hf (fu:=fu') (s4:=s4) r1.toLOk hc (r1.old c hc.1) r1.old (zep.mp ho).1 (zep.mp ho).2 (by omega) with ⟨q1,e2⟩|⟨q1,q2,q3,e2⟩
   ·refine⟨_,_,e2,.inl rfl,ms',fu',_,rfl,r1,fun y hy=>?_,r3,zbf⟩
    rw[List.mem_append,List.mem_singleton] at hy
    rcases hy with z|rfl
    ·exact r2 y z
    ·exact q1
   ·have up: ∀y,(zbR ms' y).isSome=true->(zbR (ms'++[(o,some c)]) y).isSome=true:=fun y hy=>by
     rw[zbJ q1];split
     ·rfl
     ·exact hy
    refine⟨_,_,e2,.inl rfl,_,_,_,rfl,{ q2 with old:=fun x hx=>up x (r1.old x hx),fu_:=fun x=>?_,up:=fun x hx=>?_,nd2:=?_,cnt:=?_ },fun y hy=>?_,fun x hx=>up x (r3 x hx),zbf⟩
    ·rw[List.mem_append,List.mem_singleton,r1.fu_ x,zbJ q1]
     by_cases ex:x=o
     ·subst ex;simp[q3]
     ·simp[ex]
    ·rw[zbJ q1] at hx
     split at hx
     ·rename_i ex;rw[ex];exact q3.1
     ·exact r1.up x hx
    ·rw[List.nodup_append]
     refine⟨r1.nd2,by simp,fun a ha b hb eab=>?_⟩
     simp at hb;subst hb;subst eab
     have:=((r1.fu_ a).mp ha).1
     rw[q1] at this;cases this
    ·simp;omega
    ·rw[List.mem_append,List.mem_singleton] at hy
     rcases hy with z|rfl
     ·exact up y (r2 y z)
     ·rw[zbJ q1];simp
 refine⟨ms',fu',s7',?_,r1,r2,r3,r4⟩
 have cn:=zgE n l c (f:=f) (by omega:f.length<=1000)
 simp only[zjM,ze3,ziU]
 simp[ltE,cn,h7]
 rw[<-nb,<-ltE,e]
 simp[ltE]
theorem zn1(n:Nat)(hf:f.length<=100){ms:zgG}{ed:List zak}{s5 s6 s7:Option SV}{k:Nat}(hm:LOk f l goal ms)(hk: ∀x,Bk f l goal k x↔(zbR ms x).isSome=true)(hed: ∀x,x∈ed↔Lv f l goal k x)
  {s4:Option SV} (hs4:s4=some (.val (lD ed))\/s4=some (.obj true (lD ed))) (h5:za1 (some s5)=true) (h6:za1 (some s6)=true) (h7:za1 (some s7)=true):
  ∃ms' fu s5' s6' s7',zaV (zat U zas (n+3)) zas zjN (ltE f l goal ms s4 s5 s6 s7)=some (.nx,ltE f l goal ms' (some (.val (lD fu))) s5' s6' s7')/\
   LOk f l goal ms'/\(∀x,Bk f l goal (k+1) x↔(zbR ms' x).isSome=true)/\(∀x,x∈fu↔Lv f l goal (k+1) x)/\ms'.length=ms.length+fu.length/\za1 (some s5')=true/\za1 (some s6')=true/\za1 (some s7')=true:=by
 have f0: ∀x,x∈([]:List zak)↔(zbR ms x).isSome=true/\Lv f l goal (k+1) x:=fun x=>by
  constructor
  ·intro z;cases z
  ·rintro⟨z1,z2⟩;exact absurd ((hk x).mpr z1) (z2.2 k (Nat.lt_succ_self k))
 have R0:Rg f l goal k ms ms []:={ hm with old:=fun x=>(hk x).mp,fu_:=f0,up:=fun x hx=>.inl ((hk x).mpr hx),nd2:=by simp,cnt:=by simp }
 obtain⟨ρ',e,ms',fu,s6',s7',rfl,r1,r2,r3,r4⟩:=zdj (i:=6) (body:=zaV (zat U zas (n+3)) zas zjM)
  (fun pre ρ=>∃ms' fu s6' s7',ρ=ltE f l goal ms' (some (.val (lD ed))) (some (.obj true (lD fu))) s6' s7'/\Rg f l goal k ms ms' fu/\(∀x∈pre,∀o∈nb f l x,(zbR ms' o).isSome=true)/\za1 (some s6')=true/\za1 (some s7')=true)
  (xs:=ed) (ρ:=ltE f l goal ms (some (.val (lD ed))) (some (.obj true (lD []))) s6 s7) ⟨ms,[],s6,s7,rfl,R0,fun o ho=>(by cases ho),h6,h7⟩
  fun pre x post ρ e zz5=>by
   obtain⟨ms',fu,s6',s7',eρ,r1,r2,r3,r4⟩:=zz5
   subst eρ
   have hx:x∈ed:=by rw[e];simp
   obtain⟨ms2,fu2,s72,e2,q1,q2,q3,q4⟩:=zpZ n hf (s4:=some (.val (lD ed))) (s7:=s7') r1 ((hed x).mp hx) r4
   refine⟨_,_,e2,.inl rfl,ms2,fu2,_,s72,rfl,q1,fun y hy o ho=>?_,zbf,q4⟩
   rw[List.mem_append,List.mem_singleton] at hy
   rcases hy with z|rfl
   ·exact q3 o (r2 y z o ho)
   ·exact q2 o ho
 have full: ∀x,Bk f l goal (k+1) x↔(zbR ms' x).isSome=true:=fun x=>by
  refine⟨fun b=>?_,r1.up x⟩
  rcases b with b|⟨hxf,p,hp,hn⟩
  ·exact r1.old x b
  ·by_cases hb:Bk f l goal k x
   ·exact r1.old x hb
   ·obtain⟨j,hj,hlv⟩:=hp.lv
    have:j=k:=by
     by_cases e:j=k
     ·exact e
     ·exact absurd (Bk.mono (k:=j+1) (by omega) (.inr ⟨hxf,p,hlv.1,hn⟩)) hb
    subst this
    exact r2 p ((hed p).mpr hlv) x (zep.mpr ⟨hxf,by rw[zbU];exact hn⟩)
 refine⟨ms',fu,some (.val (lD fu)),s6',s7',?_,r1.toLOk,full,fun x=>?_,r1.cnt,zbf,r3,r4⟩
 ·simp only[zjN]
  rcases hs4 with rfl|rfl
  ·simp[ltE,h5,h6,zgB]
   rw[show zga (lD ed)=some (ed.map cD) from rfl,show D.lst []=lD [] from rfl]
   simp only[Option.map_some,Option.bind_some]
   rw[<-ltE,e]
   simp[ltE]
  ·simp[ltE,h5,h6,zgB]
   rw[show zql [some (SV.val (fD f)),some (SV.val (cD l)),some (SV.val (cD goal)),some (SV.obj true (dG oD ms)),some (SV.obj true (lD ed)),some (SV.obj true (D.lst [])),s6,s7] 4 (some (some (SV.obj true (lD ed))))=some (ed.map cD,ltE f l goal ms (some (.val (lD ed))) (some (.obj true (lD []))) s6 s7) from rfl]
   simp only[Option.map_some,Option.bind_some]
   rw[e]
   simp[ltE]
 ·rw[r1.fu_ x]
  exact⟨fun z=>z.2,fun z=>⟨(full x).mp z.1,z⟩⟩
structure LFull (f:List zak)(l goal:zak)(ms:zgG):Prop extends LOk f l goal ms where
 all: ∀x,(zbR ms x).isSome=true↔∃k,Bk f l goal k x
theorem zi2(n:Nat)(hf:f.length<=100)(hg:goal∈f): ∃ms,LFull f l goal ms/\zaP U zas (n+4) 20 [fD f,cD l,cD goal]=some (.obj true (dG oD ms)):=by
 have ms0:LOk f l goal [(goal,none)]:=by
  refine⟨by simp,fun c hc=>?_,fun c hc=>?_,fun c p hc=>?_⟩
  ·rw[zbj] at hc;simp at hc;subst hc;exact hg
  ·rw[zbI] at hc;split at hc
   ·rename_i z;exact z.symm
   ·cases hc
  ·rw[zbI] at hc;split at hc
   ·cases hc
   ·cases hc
 obtain⟨ρ',e,ms,s4,s5,s6,s7,rfl,h1,h2⟩:=zef (test:=evT (zaP U zas (n+3)) (.prim .gt (.cons (.prim .len (.cons (.var 4) .nil)) (.cons (.int 0) .nil)))) (body:=zaV (zat U zas (n+3)) zas zjN)
  (fun m ρ=>∃k ms ed s4 s5 s6 s7,ρ=ltE f l goal ms s4 s5 s6 s7/\(s4=some (.val (lD ed))\/s4=some (.obj true (lD ed)))/\LOk f l goal ms/\(∀x,Bk f l goal k x↔(zbR ms x).isSome=true)/\(∀x,x∈ed↔Lv f l goal k x)/\(za1 (some s5)=true/\za1 (some s6)=true/\za1 (some s7)=true)/\m=2*(f.length-ms.length)+(if ed=[] then 0 else 1))
  (fun ρ=>∃ms s4 s5 s6 s7,ρ=ltE f l goal ms s4 s5 s6 s7/\LFull f l goal ms/\True)
  (m:=2*(f.length-1)+1) (n:=zas) (ρ:=ltE f l goal [(goal,none)] (some (.obj true (lD [goal]))) none none none) (by unfold zas;omega)
  ⟨0,_,[goal],_,none,none,none,rfl,.inr rfl,ms0,fun x=>by
    rw[zbj];simp[Bk],fun x=>by
    rw[List.mem_singleton];exact⟨fun z=>⟨z,fun i hi=>by omega⟩,fun z=>z.1⟩,⟨rfl,rfl,rfl⟩,by simp⟩
  fun m ρ zz2=>by
   obtain⟨k,ms,ed,s4,s5,s6,s7,eρ,hs4,q1,q2,q3,q4,q5⟩:=zz2
   subst eρ
   have ht:evT (zaP U zas (n+3)) (.prim .gt (.cons (.prim .len (.cons (.var 4) .nil)) (.cons (.int 0) .nil))) (ltE f l goal ms s4 s5 s6 s7)=some (decide (0<ed.length)):=by
    rcases hs4 with rfl|rfl
    ·simp[ltE,lD]
    ·simp[ltE,lD]
   by_cases hed:ed=[]
   ·subst hed
    refine .inl ⟨by rw[ht];rfl,ms,s4,s5,s6,s7,rfl,{ q1 with all:=fun x=>⟨fun z=>⟨k,(q2 x).mpr z⟩,fun ⟨j,hj⟩=>?_⟩ },trivial⟩
    have none_: ∀j x,Bk f l goal j x->Bk f l goal k x:=by
     intro j
     induction j with
     |zero=>intro x hx;exact hx.mono (Nat.zero_le k)
     |succ j ih=>
      intro x hx
      rcases hx with hx|⟨hxf,p,hp,hn⟩
      ·exact ih x hx
      ·obtain⟨i,hi,hlv⟩:=(ih p hp).lv
       by_cases e:i=k
       ·subst e;exact absurd ((q3 p).mpr hlv) (by simp)
       ·exact Bk.mono (k:=i+1) (by omega) (.inr ⟨hxf,p,hlv.1,hn⟩)
    exact (q2 x).mp (none_ j x hj)
   ·have hpos:0<ed.length:=List.length_pos_iff.mpr hed
    refine .inr ⟨by rw[ht];simp[hpos],?_⟩
    obtain⟨ms',fu,s5',s6',s7',e2,r1,r2,r3,r4,r5⟩:=zn1 n hf q1 q2 q3 hs4 q4.1 q4.2.1 q4.2.2
    have hl1:=r1.len
    refine⟨_,_,2*(f.length-ms'.length)+(if fu=[] then 0 else 1),e2,.inl rfl,?_,k+1,ms',fu,_,s5',s6',s7',rfl,.inl rfl,r1,r2,r3,r5,rfl⟩
    rw[q5,if_neg hed]
    cases fu with
    |nil=>simp at r4⊢;omega
    |cons a b=>simp at r4⊢;omega
 refine⟨ms,h1,?_⟩
 rw[zav U20 rfl]
 simp only[zsS]
 simp[zdy]
 rw[show D.dct true [cD goal] [D.non]=dG oD [(goal,none)] from rfl,show D.lst [cD goal]=lD [goal] from rfl,<-ltE,e]
 simp[ltE]
end
end LK
namespace LK
open L2.LW
section
variable {f:List zak} {l:zak} {goal:zak}
structure Way (f:List zak)(l one goal:zak)(w:List zak):Prop where
 head:w.head? =some one
 last:w.getLast? =some goal
 mem: ∀c∈w,c∈f
 step: ∀i (h:i+1<w.length),ze6 l w[i] w[i+1]=true
theorem Way.one{one:zak}(h:one∈f):Way f l one one [one]:=⟨rfl,rfl,fun c hc=>by simp at hc;subst hc;exact h,fun i hi=>by simp at hi⟩
theorem Way.snoc{one x y:zak}{w:List zak}(h:Way f l one x w)(hy:y∈f)(hn:ze6 l x y=true):Way f l one y (w++[y]):=by
 have hw:w≠[]:=fun e=>by have:=h.head;rw[e] at this;cases this
 refine⟨?_,by simp,fun c hc=>?_,fun i hi=>?_⟩
 ·rw[List.head?_append,h.head];rfl
 ·rw[List.mem_append,List.mem_singleton] at hc
  rcases hc with z|rfl
  ·exact h.mem c z
  ·exact hy
 ·rw[List.length_append,List.length_singleton] at hi
  by_cases e:i+1<w.length
  ·rw[List.getElem_append_left (by omega),List.getElem_append_left e]
   exact h.step i e
  ·have e1:i+1=w.length:=by omega
   rw[List.getElem_append_left (by omega),List.getElem_append_right (by omega)]
   have hl:=h.last
   rw[List.getLast?_eq_getElem?] at hl
   have:w[i]'(by omega)=x:=by
    rw[List.getElem?_eq_some_iff] at hl
    obtain⟨h1,h2⟩:=hl
    rw[<-h2]
    congr 1
    omega
   rw[this]
   simpa using hn
theorem zjQ{w:List zak}{x:zak}(h:w.getLast? =some x):zah .idx [lD w,.int (-1)]=some (.val (cD x)):=by
 rw[List.getLast?_eq_getElem?,List.getElem?_eq_some_iff] at h
 obtain⟨h1,h2⟩:=h
 rw[lD,zjI]
 unfold atI ixN
 have hp:0<w.length:=by omega
 rw[if_neg (by omega),if_pos (by rw[List.length_map];omega)]
 simp only[Option.bind_some]
 rw[show (-1+((w.map cD).length:Int)).toNat=w.length-1 by rw[List.length_map];omega]
 rw[List.getElem?_map,List.getElem?_eq_getElem h1,h2]
 rfl
@[simp] theorem zuY{c:zak}:zfn (cD c)=false:=id rfl
noncomputable def awE(f:List zak)(l one goal:zak)(ms:zgG)(w:List zak):Env:=[some (.val (fD f)),some (.val (cD l)),some (.val (cD one)),some (.val (cD goal)),some (.obj true (dG oD ms)),some (.obj true (lD w))]
theorem LFull.goal_(h:LFull f l goal ms):zbR ms goal=some none:=by
 obtain⟨v,hv⟩:=Option.isSome_iff_exists.mp ((h.all goal).mpr ⟨0,rfl⟩)
 cases v with
 |none=>exact hv
 |some p=>
  obtain⟨_,j,h1,_⟩:=h.next goal p hv
  exact absurd rfl (h1.2 0 (by omega))
theorem zgH(n:Nat)(hf:OkF f)(hl:OkL l){one:zak}(ho:one∈f)(hg:goal∈f):
  (∃j w,Lv f l goal j one/\Way f l one goal w/\w.length=j+1/\j<=24/\zaP U zas (n+5) 26 [fD f,cD l,cD one,cD goal]=some (.obj true (lD w)))\/
  ((∀j,¬Bk f l goal j one)/\zaP U zas (n+5) 26 [fD f,cD l,cD one,cD goal]=some (.val .non)):=by
 have hlen:=hf.len
 have hl':=zbT
 obtain⟨ms,hm,e⟩:=zi2 n (f:=f) (l:=l) (goal:=goal) (by omega) hg
 have c1:=zkr n hf
 have c2:=ze5 (n+1) hl
 have c3:=zcx (n+1) (hf.cells one ho) ho
 have c4:=zcx (n+1) (hf.cells goal hg) hg
 cases hin:zbR ms one with
 |none=>
  refine .inr ⟨fun j hj=>?_,?_⟩
  ·have:=(hm.all one).mpr ⟨j,hj⟩
   rw[hin] at this;cases this
  ·rw[zav U26 rfl]
   simp[zqy,c1,c2,c3,c4,e,zjP,hin]
 |some v0=>
  left
  obtain⟨k,hk⟩:=(hm.all one).mp (by rw[hin];rfl)
  obtain⟨J,_,hJ⟩:=hk.lv
  have key: ∀j x,Lv f l goal j x->(∃v,zbR ms x=some v)/\(j=0->zbR ms x=some none)/\(∀i,j=i+1->∃p,zbR ms x=some (some p)/\Lv f l goal i p/\ze6 l x p=true/\p∈f):=fun j x hx=>by
   obtain⟨v,hv⟩:=Option.isSome_iff_exists.mp ((hm.all x).mpr ⟨j,hx.1⟩)
   refine⟨⟨v,hv⟩,fun h0=>?_,fun i hi=>?_⟩
   ·subst h0
    rw[show x=goal from hx.1]
    exact hm.goal_
   ·cases v with
    |none=>
     have:=hm.root x hv
     subst this
     exact absurd rfl (hx.2 0 (by omega))
    |some p=>
     obtain⟨h1,j',h2,h3,h4⟩:=hm.next x p hv
     have:=hx.uniq h2
     have:j'=i:=by omega
     subst this
     exact⟨p,hv,h3,h1,hm.sub p h4⟩
  have bound: ∀j x,Lv f l goal j x->∃ws:List zak,ws.length=j+1/\ws.Nodup/\(∀y∈ws,y∈f/\∃i,i<=j/\Lv f l goal i y):=by
   intro j
   induction j with
   |zero=>intro x hx;exact⟨[x],rfl,by simp,fun y hy=>by simp at hy;subst hy;exact⟨hx.1.inF hg,0,Nat.le_refl _,hx⟩⟩
   |succ j ih=>
    intro x hx
    obtain⟨p,_,h2,_,_⟩:=(key (j+1) x hx).2.2 j rfl
    obtain⟨ws,w1,w2,w3⟩:=ih p h2
    refine⟨x::ws,by simp[w1],?_,fun y hy=>?_⟩
    ·rw[List.nodup_cons]
     refine⟨fun z=>?_,w2⟩
     obtain⟨_,i,hi,hl2⟩:=w3 x z
     have:=hx.uniq hl2
     omega
    ·rcases List.mem_cons.mp hy with rfl|hy
     ·exact⟨hx.1.inF hg,j+1,Nat.le_refl _,hx⟩
     ·obtain⟨q1,i,q2,q3⟩:=w3 y hy
      exact⟨q1,i,by omega,q3⟩
  have hJ24:J<=24:=by
   obtain⟨ws,w1,w2,w3⟩:=bound J one hJ
   have:=zbP w2 fun y hy=>(w3 y hy).1
   omega
  obtain⟨ρ',ex,w,rfl,hw,hwl⟩:=zef (test:=evT (zaP U zas (n+4)) (.prim .notN (.cons (.prim .idx (.cons (.var 4) (.cons (.prim .idx (.cons (.var 5) (.cons (.prim .neg (.cons (.int 1) .nil)) .nil))) .nil))) .nil))) (body:=zaV (zat U zas (n+4)) zas zmi)
   (fun j ρ=>∃w x,ρ=awE f l one goal ms w/\Way f l one x w/\Lv f l goal j x/\w.length+j=J+1)
   (fun ρ=>∃w,ρ=awE f l one goal ms w/\Way f l one goal w/\w.length=J+1)
   (m:=J) (n:=zas) (ρ:=awE f l one goal ms [one]) (by unfold zas;omega) ⟨[one],one,rfl,.one ho,hJ,by simp;omega⟩
   fun j ρ zz2=>by
    obtain⟨w,x,eρ,hw,hx,hwl⟩:=zz2
    subst eρ
    have li:=zjQ hw.last
    cases j with
    |zero=>
     have hg0:=(key 0 x hx).2.1 rfl
     refine .inl ⟨?_,w,rfl,?_,by omega⟩
     ·simp[awE,li,zmt hg0,oD]
     ·rw[show goal=x from (show x=goal from hx.1).symm];exact hw
    |succ j=>
     obtain⟨p,h1,h2,h3,h4⟩:=(key (j+1) x hx).2.2 j rfl
     refine .inr ⟨?_,.nx,awE f l one goal ms (w++[p]),j,?_,.inl rfl,Nat.lt_succ_self j,w++[p],p,rfl,hw.snoc h4 h3,h2,by simp;omega⟩
     ·simp[awE,li,zmt h1,oD]
     ·have e2: ∀(ρ:Env),ztT ρ 5 (some (.val (cD p))) (some (some (.obj true (lD w))))=some (.nx,ρ.set 5 (some (.obj true (lD (w++[p]))))):=fun ρ=>by
       rw[lD,zjH]
       have:w.length<line:=by omega
       simp only[Option.bind_some,ziV,List.length_map,this,if_true]
       simp[lD]
      simp[zmi,awE,li,zmt h1,oD,e2]
  refine⟨J,w,hJ,hw,hwl,hJ24,?_⟩
  rw[zav U26 rfl]
  simp only[zqy]
  simp[c1,c2,c3,c4,e,zjP,hin,zdy]
  rw[show D.lst [cD one]=lD [one] from rfl,<-awE,ex]
  simp[awE]
theorem zcy(n:Nat)(hf:OkF f)(hl:OkL l){one:zak}(ho:one∈f)(hg:goal∈f):
  (∃j:Nat,Lv f l goal j one/\j<=24/\zaP U zas (n+6) 27 [fD f,cD l,cD one,cD goal]=some (.val (.int j)))\/
  ((∀j,¬Bk f l goal j one)/\zaP U zas (n+6) 27 [fD f,cD l,cD one,cD goal]=some (.val .non)):=by
 rcases zgH n hf hl ho hg with ⟨j,w,h1,h2,h3,h4,h5⟩|⟨h1,h2⟩
 ·refine .inl ⟨j,h1,h4,?_⟩
  rw[zav U27 rfl]
  simp[zqz,h5,lD]
  omega
 ·refine .inr ⟨h1,?_⟩
  rw[zav U27 rfl]
  simp[zqz,h2]
end
end LK
namespace LK
open L2.LW
theorem zh0{α:Type}{R:α->α->Prop}(ir: ∀a,¬R a a)(as: ∀a b,R a b->R b a->False): ∀{l m:List α},l.Pairwise R->m.Pairwise R->(∀x,x∈l↔x∈m)->l=m
 |[],[],_,_,_=>rfl
 |[],y::m,_,_,h=>absurd ((h y).mpr List.mem_cons_self) (by simp)
 |x::l,[],_,_,h=>absurd ((h x).mp List.mem_cons_self) (by simp)
 |x::l,y::m,hl,hm,h=>by
  rw[List.pairwise_cons] at hl hm
  have exy:x=y:=by
   rcases List.mem_cons.mp ((h x).mp List.mem_cons_self) with e|e
   ·exact e
   ·rcases List.mem_cons.mp ((h y).mpr List.mem_cons_self) with e'|e'
    ·exact e'.symm
    ·exact (as _ _ (hm.1 x e) (hl.1 y e')).elim
  subst exy
  rw[zh0 ir as hl.2 hm.2 fun z=>?_]
  constructor
  ·intro hz
   rcases List.mem_cons.mp ((h z).mp (List.mem_cons_of_mem _ hz)) with e|e
   ·subst e;exact (ir _ (hl.1 z hz)).elim
   ·exact e
  ·intro hz
   rcases List.mem_cons.mp ((h z).mpr (List.mem_cons_of_mem _ hz)) with e|e
   ·subst e;exact (ir _ (hm.1 z hz)).elim
   ·exact e
noncomputable def cl(c:zak):List Int:=[c.1,c.2]
theorem zs5{a b:zak}(h:cl a=cl b):a=b:=by
 simp[cl] at h;exact Prod.ext h.1 h.2
theorem zwI{a b:zak}(h:cLt a b):zkJ (cl a) (cl b):=by
 show L2.LW.lexLt [a.1,a.2] [b.1,b.2]=true
 simp only[L2.LW.lexLt]
 unfold cLt at h
 by_cases e:a.1=b.1
 ·have: ¬a.2=b.2:=by omega
  have h2:a.2<b.2:=by omega
  simp[e,this,h2]
 ·have h2:a.1<b.1:=by omega
  simp[e,h2]
theorem zku{L g:List zak}(hL:L.Nodup)(hg:g.Pairwise cLt)(h: ∀x,x∈L↔x∈g):zc9 (L.map cl)=g.map cl:=by
 have nd:(L.map cl).Nodup:=by
  rw[List.Nodup,List.pairwise_map];exact hL.imp fun ne e=>ne (zs5 e)
 have up:=zcQ nd
 have up2:(g.map cl).Pairwise zkJ:=by rw[List.pairwise_map];exact hg.imp zwI
 refine zh0 (R:=zkJ) (fun a z=>by have:=zbl a;rw[show L2.LW.lexLt a a=true from z] at this;cases this) (fun a b z1 z2=>by have:=zb9 z1 z2;rw[zbl] at this;cases this) up up2 fun x=>?_
 rw[(zbB _).mem_iff,List.mem_map,List.mem_map]
 exact⟨fun ⟨c,hc,e⟩=>⟨c,(h c).mp hc,e⟩,fun ⟨c,hc,e⟩=>⟨c,(h c).mpr hc,e⟩⟩
noncomputable def zx9(f:List zak)(l c:zak):List zak:=f.filter fun x=>@decide (∃k,Bk f l c k x) (Classical.propDecidable _)
noncomputable def zi3(f:List zak)(l:zak):List zak->List (List zak)->List (List zak)
 |[],acc=>acc
 |c::r,acc=>if c∈acc.flatten then zi3 f l r acc else zi3 f l r (acc++[zx9 f l c])
noncomputable def zya(f:List zak)(l:zak):List (List zak):=zi3 f l f []
end LK
namespace LK
open L2.LW
theorem zfU: ∀{L:List zak},(∀c∈L,okC c)->zeR (L.map cD)=some L
 |[],_=>rfl
 |c::r,h=>by
  have h1:=h c List.mem_cons_self
  unfold okC at h1
  rw[List.map_cons,zeR,zfU fun x hx=>h x (List.mem_cons_of_mem _ hx)]
  have e:zpe (cD c)=some c:=by
   show (if 0<=c.1/\c.1<=7/\0<=c.2/\c.2<=7 then some (c.1,c.2) else none)=_
   rw[if_pos h1]
  rw[e];rfl
theorem zkv{L g:List zak}(h: ∀c∈L,okC c)(hg:g.Pairwise cLt)(m: ∀x,x∈L↔x∈g)(hl:g.length<64):zah .sset [lD L]=some (.obj true (lD g)):=by
 show zk9 [.lst (L.map cD)]=_
 unfold zk9
 dsimp only
 have ln:(nub L).length<64:=Nat.lt_of_le_of_lt (zbP zca fun x hx=>(m x).mp (zdh.mp hx)) hl
 rw[zfU h,Option.bind_some,if_pos ln]
 have e:=zku (L:=nub L) (g:=g) zca hg fun x=>zdh.trans (m x)
 rw[show ((nub L).map fun c=>[c.1,c.2])=(nub L).map cl from rfl,e,List.map_map]
 rfl
section
variable {f:List zak} {l:zak} {one ot:zak}
theorem Bk.far{a b:zak}(ha:a∈f)(hn:ze6 l b a=true): ∀{k:Nat} {c:zak},Bk f l a k c->Bk f l b (k+1) c
 |0,c,h=>by
  rw[show c=a from h]
  exact .inr ⟨ha,b,rfl,by rw[zbU];exact hn⟩
 |k+1,c,h=>by
  rcases h with h|⟨h1,p,h2,h3⟩
  ·exact .inl (Bk.far ha hn h)
  ·exact .inr ⟨h1,p,Bk.far ha hn h2,h3⟩
theorem Bk.turn{a:zak}(ha:a∈f): ∀{k:Nat} {b:zak},Bk f l a k b->Bk f l b k a
 |0,b,h=>(show b=a from h).symm
 |k+1,b,h=>by
  rcases h with h|⟨h1,p,h2,h3⟩
  ·exact .inl (Bk.turn ha h)
  ·exact Bk.far (Bk.inF ha h2) h3 (Bk.turn ha h2)
theorem Lv.turn{a b:zak}(ha:a∈f)(hb:b∈f){k:Nat}(h:Lv f l a k b):Lv f l b k a:=⟨h.1.turn ha,fun i hi z=>h.2 i hi (z.turn hb)⟩
theorem Lv.down{g x:zak}{k:Nat}(h:Lv f l g (k+1) x): ∃p,Lv f l g k p/\ze6 l x p=true/\x∈f:=by
 obtain⟨h1,h2⟩:=h
 rcases h1 with h1|⟨hf,p,hp,hn⟩
 ·exact absurd h1 (h2 k (by omega))
 ·exact⟨p,⟨hp,fun i hi z=>h2 (i+1) (by omega) (.inr ⟨hf,p,z,hn⟩)⟩,hn,hf⟩
theorem Lv.at_{g:zak}: ∀{i k:Nat} {x:zak},Lv f l g i x->k<=i->∃y,Lv f l g k y
 |0,k,x,h,hk=>by
  obtain rfl:k=0:=by omega
  exact⟨x,h⟩
 |i+1,k,x,h,hk=>by
  by_cases e:k=i+1
  ·subst e;exact⟨x,h⟩
  ·obtain⟨p,hp,_⟩:=h.down
   exact Lv.at_ hp (by omega)
noncomputable def fwE(f:List zak)(l one ot:zak)(s4 s5 s6 s7 s8:Option SV):Env:=[some (.val (fD f)),some (.val (cD l)),some (.val (cD one)),some (.val (cD ot)),s4,s5,s6,s7,s8]
noncomputable def fresh(f:List zak)(l:zak)(S:List zak)(c:zak):List zak:=(nb f l c).filter fun x=> !decide (x∈S)
theorem zdC{S:List zak}{c x:zak}:x∈fresh f l S c↔x∈nb f l c/\x∉S:=by
 unfold fresh;rw[List.mem_filter];simp
theorem zp0(n:Nat)(hlen:f.length<=24){S M:List zak}{c:zak}{s5 s6:Option SV}(hS:S.length<=50000)(hM:M.length<=24):
  zaV (zat U zas (n+2)) zas zhU (fwE f l one ot (some (.obj true (lD S))) s5 s6 (some (.obj true (lD M))) (some (.val (cD c))))=
   some (.nx,fwE f l one ot (some (.obj true (lD (S++(M++fresh f l S c))))) s5 s6 (some (.obj true (lD (M++fresh f l S c)))) (some (.val (cD c)))):=by
 have hl':=zbT
 have nl:(nb f l c).length<=24:=Nat.le_trans (List.length_filter_le _ _) hlen
 have fl:(fresh f l S c).length<=24:=Nat.le_trans (List.length_filter_le _ _) nl
 have nk:zaP U zas (n+2) 18 [fD f,cD l,cD c]=some (.obj true (lD (nb f l c))):=zi1 n l c (f:=f) (by omega)
 have cp: ∀s4 s5 s6 s7 s8,s4=some (SV.obj true (lD S))->s8=some (SV.val (cD c))->evE (zaP U zas (n+2)) (.comp false (.cons (.call 18 (.cons (.var 0) (.cons (.var 1) (.cons (.var 8) .nil)))) .nil) (.prim .nin (.cons (.var 0) (.cons (.var 5) .nil))) (.var 0)) (fwE f l one ot s4 s5 s6 s7 s8)=some (.obj true (lD (fresh f l S c))):=by
  rintro s4 s5 s6 s7 s8 rfl rfl
  rw[zcb (rs:=[.obj true (lD (nb f l c))]) (xs:=nb f l c) (f:=cD) (fun x=> !decide (x∈S)) cD]
  ·rfl
  ·simp[fwE,nk]
  ·rfl
  ·omega
  ·intro x _
   simp[fwE,zsY]
  ·intro x _ _
   simp
 have a1:zah .add [lD M,lD (fresh f l S c)]=some (.obj true (lD (M++fresh f l S c))):=by
  rw[lD,lD,zmg (by rw[List.length_map,List.length_map];omega)]
  simp[lD]
 have a2:zah .add [lD S,lD (M++fresh f l S c)]=some (.obj true (lD (S++(M++fresh f l S c)))):=by
  rw[lD,lD,zmg (by rw[List.length_map,List.length_map,List.length_append];omega)]
  simp[lD]
 have cp':=cp (some (.obj true (lD S))) s5 s6 (some (.obj true (lD M))) (some (.val (cD c))) rfl rfl
 rw[fwE] at cp'
 simp only[zhU,ze3,zpO,zmf]
 simp[cp',a1,a2,fwE]
theorem zp1(n:Nat)(hlen:f.length<=24)(hnd:f.Nodup){S0 E:List zak}{s6 s8:Option SV}(hS:S0.length<=40000)(hE:E.length<=24)(h8:za1 (some s8)=true):
  ∃S M s8',zeT 8 (zaV (zat U zas (n+2)) zas zhU) (E.map cD) (fwE f l one ot (some (.obj true (lD S0))) (some (.val (lD E))) s6 (some (.obj true (lD []))) s8)=
    some (.nx,fwE f l one ot (some (.obj true (lD S))) (some (.val (lD E))) s6 (some (.obj true (lD M))) s8')/\
   (∀x,x∈S↔x∈S0\/∃c∈E,x∈nb f l c)/\(∀x,x∈M↔x∉S0/\∃c∈E,x∈nb f l c)/\S.length<=S0.length+24*E.length/\za1 (some s8')=true:=by
 obtain⟨ρ',e,S,M,s8',rfl,q1,q2,q3,q4,q5⟩:=zdj (i:=8) (body:=zaV (zat U zas (n+2)) zas zhU)
  (fun pre ρ=>∃S M s8',ρ=fwE f l one ot (some (.obj true (lD S))) (some (.val (lD E))) s6 (some (.obj true (lD M))) s8'/\(∀x,x∈S↔x∈S0\/∃c∈pre,x∈nb f l c)/\(∀x,x∈M↔x∉S0/\∃c∈pre,x∈nb f l c)/\M.Nodup/\S.length<=S0.length+24*pre.length/\za1 (some s8')=true)
  (xs:=E) (ρ:=fwE f l one ot (some (.obj true (lD S0))) (some (.val (lD E))) s6 (some (.obj true (lD []))) s8) ⟨S0,[],s8,rfl,fun x=>by simp,fun x=>by simp,List.nodup_nil,by simp,h8⟩
  fun pre c post ρ e zz=>by
   obtain⟨S,M,s8',eρ,q1,q2,q3,q4,q5⟩:=zz
   subst eρ
   have lp:pre.length+1<=24:=by rw[e,List.length_append,List.length_cons] at hE;omega
   have mf: ∀x∈M,x∈f:=fun x hx=>by
    obtain⟨_,d,_,hd⟩:=(q2 x).mp hx
    exact (zep.mp hd).1
   have lM:M.length<=24:=Nat.le_trans (zbP q3 mf) hlen
   have sub: ∀x∈M,x∈S:=fun x hx=>(q1 x).mpr (.inr ((q2 x).mp hx).2)
   have nd2:(M++fresh f l S c).Nodup:=by
    rw[List.nodup_append]
    refine⟨q3,?_,fun a ha b hb eab=>?_⟩
    ·exact (hnd.filter _).filter _
    ·subst eab
     exact (zdC.mp hb).2 (sub a ha)
   have mf2: ∀x∈M++fresh f l S c,x∈f:=fun x hx=>by
    rcases List.mem_append.mp hx with z|z
    ·exact mf x z
    ·exact (zep.mp (zdC.mp z).1).1
   have lM2:(M++fresh f l S c).length<=24:=Nat.le_trans (zbP nd2 mf2) hlen
   refine⟨_,_,zp0 n hlen (by omega) lM,.inl rfl,_,_,_,rfl,fun x=>?_,fun x=>?_,nd2,?_,zbf⟩
   ·simp only[List.mem_append,zdC,q1 x,q2 x,List.mem_singleton]
    constructor
    ·rintro ((z|⟨d,hd,z⟩)|⟨z,d,hd,z2⟩|⟨z,z2⟩)
     ·exact .inl z
     ·exact .inr ⟨d,.inl hd,z⟩
     ·exact .inr ⟨d,.inl hd,z2⟩
     ·exact .inr ⟨c,.inr rfl,z⟩
    ·rintro (z|⟨d,hd|rfl,z⟩)
     ·exact .inl (.inl z)
     ·exact .inl (.inr ⟨d,hd,z⟩)
     ·by_cases h:x∈S0\/∃c∈pre,x∈nb f l c
      ·exact .inl h
      ·exact .inr (.inr ⟨z,h⟩)
   ·simp only[List.mem_append,zdC,q1 x,q2 x,List.mem_singleton]
    constructor
    ·rintro (⟨z,d,hd,z2⟩|⟨z,z2⟩)
     ·exact⟨z,d,.inl hd,z2⟩
     ·exact⟨fun h=>z2 (.inl h),c,.inr rfl,z⟩
    ·rintro⟨z,d,hd|rfl,z2⟩
     ·exact .inl ⟨z,d,hd,z2⟩
     ·by_cases h: ∃c∈pre,x∈nb f l c
      ·exact .inl ⟨z,h⟩
      ·exact .inr ⟨z2,fun h2=>h2.elim z h⟩
   ·simp only[List.length_append,List.length_singleton] at lM2⊢
    omega
 exact⟨S,M,s8',e,q1,q2,q4,q5⟩
theorem zkw(n:Nat)(hf:OkF f)(hl:OkL l)(ho:one∈f)(hg:ot∈f):
  (∃j:Nat,Lv f l one j ot/\zaP U zas (n+3) 35 [fD f,cD l,cD one,cD ot]=some (.val (.int j)))\/
  ((∀j,¬Bk f l one j ot)/\zaP U zas (n+3) 35 [fD f,cD l,cD one,cD ot]=some (.val .non)):=by
 have hl':=zbT
 have hlen:=hf.len
 have hnd:=OkF.nodup hf.rise
 have cap: ∀{k:Nat} {x:zak},Lv f l one k x->k<=24:=fun {k x} h=>by
  rcases zcy 0 hf hl (Bk.inF ho h.1) ho with ⟨j,h1,h2,_⟩|⟨h1,_⟩
  ·rw[h.uniq h1];exact h2
  ·exact absurd h.1 (h1 k)
 obtain⟨fl,ρ',e,hq⟩:=zfQ (test:=evT (zaP U zas (n+2)) (.var 5)) (body:=zaV (zat U zas (n+2)) zas zjO)
  (fun m ρ=>∃k S E s7 s8,ρ=fwE f l one ot (some (.obj true (lD S))) (some (.obj true (lD E))) (some (.val (.int (k:Nat)))) s7 s8/\(∀x,x∈S↔Bk f l one k x)/\(∀x,x∈E↔Lv f l one k x)/\E.Nodup/\(∀i,i<k->¬Bk f l one i ot)/\S.length<=1+600*k/\k<=25/\(za1 (some s7)=true/\za1 (some s8)=true)/\m=30-k)
  (fun ρ=>(∃s4 s5 s6 s7 s8,ρ=fwE f l one ot s4 s5 s6 s7 s8)/\∀j,¬Bk f l one j ot)
  (fun r=>∃j:Nat,Lv f l one j ot/\r= .val (.int j))
  (m:=30) (n:=zas) (ρ:=fwE f l one ot (some (.obj true (lD [one]))) (some (.obj true (lD [one]))) (some (.val (.int 0))) none none) (by unfold zas;omega)
  ⟨0,[one],[one],none,none,rfl,fun x=>by rw[List.mem_singleton];exact Iff.rfl,fun x=>by
    rw[List.mem_singleton];exact⟨fun z=>⟨z,fun i hi=>by omega⟩,fun z=>z.1⟩,by simp,fun i hi=>by omega,by simp,by omega,⟨rfl,rfl⟩,rfl⟩
  fun m ρ zz=>by
   obtain⟨k,S,E,s7,s8,eρ,q1,q2,q3,q4,q5,q6,⟨f7,f8⟩,rfl⟩:=zz
   subst eρ
   by_cases hE:E=[]
   ·refine .inl ⟨?_,⟨_,_,_,_,_,rfl⟩,fun j hj=>?_⟩
    ·subst hE;simp[fwE,lD]
    ·obtain⟨i,_,hi⟩:=hj.lv
     by_cases c:i<k
     ·exact q4 i c hi.1
     ·obtain⟨y,hy⟩:=hi.at_ (k:=k) (by omega)
      have:=(q2 y).mpr hy
      rw[hE] at this;cases this
   ·refine .inr ⟨?_,?_⟩
    ·cases E with
     |nil=>exact absurd rfl hE
     |cons a r=>simp[fwE,lD]
    ·have kc:k<=24:=by
      cases E with
      |nil=>exact absurd rfl hE
      |cons a r=>exact cap ((q2 a).mp List.mem_cons_self)
     by_cases hm:ot∈E
     ·refine⟨_,fwE f l one ot (some (.obj true (lD S))) (some (.obj true (lD E))) (some (.val (.int (k:Int)))) s7 s8,?_,.inr ⟨_,rfl,k,(q2 ot).mp hm,rfl⟩⟩
      simp only[zjO]
      simp[fwE,zsX,hm]
     ·have Ef: ∀x∈E,x∈f:=fun x hx=>Bk.inF ho ((q2 x).mp hx).1
      have lE:E.length<=24:=Nat.le_trans (zbP q3 Ef) hlen
      obtain⟨S',M,s8',ex,r1,r2,r3,r4⟩:=zp1 n hlen hnd (one:=one) (ot:=ot) (S0:=S) (E:=E) (s6:=some (.val (.int (k:Int)))) (by omega) lE f8
      have lvM: ∀x,x∈M↔Lv f l one (k+1) x:=fun x=>by
       rw[r2 x]
       constructor
       ·rintro⟨z,c,hc,hx⟩
        have hb: ¬Bk f l one k x:=fun h=>z ((q1 x).mpr h)
        obtain⟨h1,h2⟩:=zep.mp hx
        exact⟨.inr ⟨h1,c,((q2 c).mp hc).1,by rw[zbU];exact h2⟩,fun i hi h=>hb (h.mono (by omega))⟩
       ·intro h
        obtain⟨p,hp,hn,hx⟩:=h.down
        exact⟨fun z=>h.2 k (by omega) ((q1 x).mp z),p,(q2 p).mpr hp,zep.mpr ⟨hx,by rw[zbU];exact hn⟩⟩
      have bkS: ∀x,x∈S'↔Bk f l one (k+1) x:=fun x=>by
       rw[r1 x]
       constructor
       ·rintro (z|⟨c,hc,hx⟩)
        ·exact .inl ((q1 x).mp z)
        ·obtain⟨h1,h2⟩:=zep.mp hx
         exact .inr ⟨h1,c,((q2 c).mp hc).1,by rw[zbU];exact h2⟩
       ·intro h
        by_cases hb:Bk f l one k x
        ·exact .inl ((q1 x).mpr hb)
        ·have hlv:Lv f l one (k+1) x:=⟨h,fun i hi z=>hb (z.mono (by omega))⟩
         exact .inr ((r2 x).mp ((lvM x).mpr hlv)).2
      have hgp:(f.filter fun c=>decide (c∈M)).Pairwise cLt:=hf.rise.sublist List.filter_sublist
      have Mf: ∀x∈M,x∈f:=fun x hx=>Bk.inF ho ((lvM x).mp hx).1
      have gm: ∀x,x∈M↔x∈f.filter fun c=>decide (c∈M):=fun x=>by
       rw[List.mem_filter,decide_eq_true_iff]
       exact⟨fun h=>⟨Mf x h,h⟩,fun h=>h.2⟩
      have ss:=zkv (L:=M) (fun c hc=>hf.cells c (Mf c hc)) hgp gm (Nat.lt_of_le_of_lt (List.length_filter_le _ _) (by omega))
      generalize (f.filter fun c=>decide (c∈M))=g at*
      have not: ¬Bk f l one k ot:=fun h=>by
       obtain⟨i,h1,h2⟩:=h.lv
       by_cases c:i<k
       ·exact q4 i c h2.1
       ·obtain rfl:i=k:=by omega
        exact hm ((q2 ot).mpr h2)
      have e6:zah .add [.int (k:Int),.int 1]=some (.val (.int ((k+1:Nat):Int))):=by simp
      refine⟨.nx,fwE f l one ot (some (.obj true (lD S'))) (some (.obj true (lD g))) (some (.val (.int ((k+1:Nat):Int)))) (some (.obj true (lD M))) s8',?_,.inl ⟨.inl rfl,30-(k+1),by omega,k+1,S',g,_,s8',rfl,bkS,fun x=>(gm x).symm.trans (lvM x),OkF.nodup hgp,fun i hi=>?_,by omega,by omega,⟨rfl,r4⟩,rfl⟩⟩
      ·simp only[zjO]
       simp[fwE,zsX,hm,f7,f8,zgB]
       rw[show zql [some (SV.val (fD f)),some (SV.val (cD l)),some (SV.val (cD one)),some (SV.val (cD ot)),some (SV.obj true (lD S)),some (SV.obj true (lD E)),some (SV.val (.int (k:Int))),some (SV.obj true (D.lst [])),s8] 5 (some (some (SV.obj true (lD E))))=some (E.map cD,fwE f l one ot (some (.obj true (lD S))) (some (.val (lD E))) (some (.val (.int (k:Int)))) (some (.obj true (lD []))) s8) from rfl]
       simp only[Option.map_some,Option.bind_some]
       rw[ex]
       simp[fwE,ss]
      ·by_cases c:i=k
       ·rw[c];exact not
       ·exact q4 i (by omega)
 rw[zav U35 rfl]
 rcases hq with ⟨rfl,⟨s4,s5,s6,s7,s8,rfl⟩,hno⟩|⟨r,rfl,j,hj,rfl⟩
 ·refine .inr ⟨hno,?_⟩
  simp only[zqA]
  simp[zdy]
  rw[show D.lst [cD one]=lD [one] from rfl,<-fwE,e]
  simp
 ·refine .inl ⟨j,hj,?_⟩
  simp only[zqA]
  simp[zdy]
  rw[show D.lst [cD one]=lD [one] from rfl,<-fwE,e]
  simp
theorem zh1(n:Nat)(k:Int):zaP U zas (n+1) 34 [.int k]=some (.val (.bl true)):=by
 rw[zav U34 rfl]
 simp only[zsT]
 simp[zd6]
theorem zi4{w:List zak}{k:Nat}(h:k<w.length):zah .idx [lD w,.int (k:Int)]=some (.val (cD w[k])):=by
 rw[lD,zjI,atI_nat (by simpa using h)]
 simp
theorem p_neI{a b:Int}:zah .ne [.int a,.int b]=some (.val (.bl (!(a==b)))):=by
 rw[zws rfl rfl];simp[eqD]
theorem zwJ{a:zak}:zah .ne [cD a,cD a]=some (.val (.bl false)):=by
 rw[zws (by simp[zbv,cD]) (by simp[zbv,cD])]
 simp[cD,eqD,zfm]
end
theorem zp2(n:Nat)(ns:List Int):zaP U zas (n+7) 36 [sD ns]=some (.val (.bl true)):=by
 rw[zav U36 rfl]
 obtain⟨f,hf,_,e1⟩:=zhY (n+4) ns (at_:=3) (most:=24) (by decide) (by decide) (by decide)
 obtain⟨l,hl,e2⟩:=zi0 (n+5) (zdA ns 0)
 have hl':=zbT
 have hlen:=hf.len
 have c0:=zbi (n+5) ns (k:=0) (by decide)
 have c1:=zbi (n+5) ns (k:=1) (by decide)
 have c2:=zbi (n+5) ns (k:=2) (by decide)
 obtain⟨k1,hk1,e31⟩:=zxs hf.ne (zdA ns 1)
 obtain⟨k2,hk2,e32⟩:=zxs hf.ne (zdA ns 2)
 have hlp:(0:Int)<f.length:=by omega
 have ix1:=zeK hk1
 have ix2:=zeK hk2
 have m1:f[k1]∈f:=List.getElem_mem _
 have m2:f[k2]∈f:=List.getElem_mem _
 generalize f[k1]=one at*
 generalize f[k2]=ot at*
 rcases zkw (n+3) hf hl m1 m2 with ⟨j,lv,q1⟩|⟨no,q1⟩
 ·obtain⟨q2,j24⟩:zaP U zas (n+6) 27 [fD f,cD l,cD ot,cD one]=some (.val (.int j))/\j<=24:=by
   rcases zcy n hf hl m2 m1 with ⟨i,h1,h2,h3⟩|⟨h1,_⟩
   ·rw[lv.uniq h1];exact⟨h3,h2⟩
   ·exact absurd lv.1 (h1 j)
  have lv2:=lv.turn m1 m2
  have q3:zaP U zas (n+6) 27 [fD f,cD l,cD one,cD ot]=some (.val (.int j)):=by
   rcases zcy n hf hl m1 m2 with ⟨i,h1,h2,h3⟩|⟨h1,_⟩
   ·rw[lv2.uniq h1];exact h3
   ·exact absurd lv2.1 (h1 j)
  obtain⟨w,wy,wl,q4⟩: ∃w,Way f l one ot w/\w.length=j+1/\zaP U zas (n+6) 26 [fD f,cD l,cD one,cD ot]=some (.obj true (lD w)):=by
   rcases zgH (n+1) hf hl m1 m2 with ⟨i,w,h1,h2,h3,_,h4⟩|⟨h1,_⟩
   ·rw[lv2.uniq h1];exact⟨w,h2,h3,h4⟩
   ·exact absurd lv2.1 (h1 j)
  have wh:=zh1 (n+5) (j:Int)
  have i0:zah .idx [lD w,.int 0]=some (.val (cD one)):=by
   have h0:0<w.length:=by omega
   have:=zi4 h0
   have hh:=wy.head
   rw[List.head?_eq_getElem?,List.getElem?_eq_getElem h0] at hh
   cases hh
   exact this
  have i1:=zjQ wy.last
  have lw:zah .len [lD w]=some (.val (.int ((w.length:Nat):Int))):=by simp[lD]
  have wl':((w.length:Nat):Int)=(j:Int)+1:=by omega
  have hl7:zd6 .list (lD w)=true:=rfl
  have cpA: ∀ρ:Env,ρ[7]? =some (some (.obj true (lD w)))->ρ[1]? =some (some (.val (fD f)))->evE (zaP U zas (n+6)) (.comp false (.cons (.var 7) .nil) (.prim .nin (.cons (.var 0) (.cons (.var 2) .nil))) (.var 0)) ρ=some (.obj true (.lst [])):=by
   intro ρ h7 h1
   rw[zcb (rs:=[.obj false (lD w)]) (xs:=w) (f:=cD) (fun _=>false) cD]
   ·simp
   ·simp[h7]
   ·rfl
   ·omega
   ·intro x hx
    simp[h1,zoG,wy.mem x hx]
   ·intro x _ h;cases h
  have cpB: ∀ρ:Env,ρ[7]? =some (some (.obj true (lD w)))->ρ[2]? =some (some (.val (cD l)))->ρ[5]? =some (some (.val (.int (j:Int))))->
    evE (zaP U zas (n+6)) (.comp true (.cons (.var 5) .nil) (.not (.call 17 (.cons (.var 3) (.cons (.prim .idx (.cons (.var 8) (.cons (.var 0) .nil))) (.cons (.prim .idx (.cons (.var 8) (.cons (.prim .add (.cons (.var 0) (.cons (.int 1) .nil))) .nil))) .nil))))) (.var 0)) ρ=some (.obj true (.lst [])):=by
   intro ρ h7 h2 h5
   rw[zcb (rs:=[.val (.int (j:Int))]) (xs:=(List.range j).map fun (k:Nat)=>(0+(k:Int))) (f:=D.int) (fun _=>false) D.int]
   ·simp
   ·simp[h5]
   ·rw[zeh (zcw (by omega) (by omega)),List.map_map];rfl
   ·simp;omega
   ·intro x hx
    obtain⟨k,hk,rfl⟩:=List.mem_map.mp hx
    rw[List.mem_range] at hk
    have a1:=zi4 (w:=w) (k:=k) (by omega)
    have a2:=zi4 (w:=w) (k:=k+1) (by omega)
    have a3:=zc2 (n+5) l (w[k]'(by omega)) (w[k+1]'(by omega))
    rw[wy.step k (by omega)] at a3
    have ec:((k+1:Nat):Int)=(k:Int)+1:=by omega
    rw[ec] at a2
    simp[h7,h2,a1,a2,a3]
   ·intro x _ h;cases h
  simp -implicitDefEqProofs only[zqB]
  simp -implicitDefEqProofs [e1,c0,e2,c1,c2,zpT,zkm hlp,e31,e32,ix1,ix2,q1,q2,q3,q4]
  have eqn:zah .eq [.lst [],.lst []]=some (.val (.bl true)):=rfl
  simp -implicitDefEqProofs [wh,p_neI,lw,wl',hl7,i0,i1,zwJ,znT,cpA,cpB,eqn]
 ·have no2: ∀j,¬Bk f l ot j one:=fun j h=>no j (h.turn m2)
  have q2:zaP U zas (n+6) 27 [fD f,cD l,cD ot,cD one]=some (.val .non):=by
   rcases zcy n hf hl m2 m1 with ⟨i,h1,h2,h3⟩|⟨_,h1⟩
   ·exact absurd h1.1 (no i)
   ·exact h1
  have q3:zaP U zas (n+6) 27 [fD f,cD l,cD one,cD ot]=some (.val .non):=by
   rcases zcy n hf hl m1 m2 with ⟨i,h1,h2,h3⟩|⟨_,h1⟩
   ·exact absurd h1.1 (no2 i)
   ·exact h1
  have q4:zaP U zas (n+6) 26 [fD f,cD l,cD one,cD ot]=some (.val .non):=by
   rcases zgH (n+1) hf hl m1 m2 with ⟨i,w,h1,h2,h3,_,h4⟩|⟨_,h1⟩
   ·exact absurd h1.1 (no2 i)
   ·exact h1
  have nn:zah .ne [.non,.non]=some (.val (.bl false)):=rfl
  simp -implicitDefEqProofs only[zqB]
  simp -implicitDefEqProofs [e1,c0,e2,c1,c2,zpT,zkm hlp,e31,e32,ix1,ix2,q1,q2,q3,q4,nn]
theorem zh2(ns:List Int)(_:ns.length<=63):zaP U zas depth 36 [.lst (ns.map D.int)]=some (.val (.bl true)):=zp2 33 ns
end LK
set_option maxHeartbeats 4000000
namespace LK
open PySem PySem.Spec PyProof.Rows L2 L2.LW
noncomputable def top(i:Nat):Stmt:=PySem.Challenge.pw_leaperwalk_k06_fewest_leaps.main.body.getD i (.Pass ⟨0,0,0,0⟩)
noncomputable def zaR:Nat->List Str
 |0=>["thing","least","most"]
 |1=>["thing"]
 |2=>["thing"]
 |3=>["thing"]
 |4=>["cells"]
 |5=>["thing"]
 |6=>["floor"]
 |7=>["leap"]
 |8=>["floor","cell"]
 |9=>["down","right"]
 |10=>["leap","one","other"]
 |11=>["floor","leap","cell"]
 |13=>["_law_script","_law_k"]
 |14=>["_law_cell_here","_law_prime","_law_many"]
 |15=>["_law_script","_law_at","_law_most"]
 |16=>["_law_cell_here"]
 |17=>["_law_leap_here","_law_one","_law_other"]
 |18=>["_law_floor_here","_law_leap_here","_law_cell_here"]
 |20=>["floor","leap","goal"]
 |26=>["floor","leap","one","other"]
 |27=>["floor","leap","one","other"]
 |34=>["_law_found"]
 |35=>["_law_floor_here","_law_leap_here","_law_one","_law_other"]
 |36=>["_law_script"]
 |_=>[]
noncomputable def zeE:Nat->List Nat
 |_=>[]
structure Txt (K:PySem.W.Frag)(mg:Str->Option Value)(F:Nat->Addr)(FD:Nat->FuncData)(TK:Nat->Tok):Prop where
 m0:mg "is_whole"=some (.ref (F 0))
 f0:Fun K "is_whole" "is_whole" (top 9) (F 0) (FD 0)
 b0:Binds K (FD 0) (zaR 0) []
 m1:mg "is_couple"=some (.ref (F 1))
 f1:Fun K "is_couple" "is_couple" (top 10) (F 1) (FD 1)
 b1:Binds K (FD 1) (zaR 1) []
 m2:mg "is_cell"=some (.ref (F 2))
 f2:Fun K "is_cell" "is_cell" (top 11) (F 2) (FD 2)
 b2:Binds K (FD 2) (zaR 2) []
 m3:mg "is_leap"=some (.ref (F 3))
 f3:Fun K "is_leap" "is_leap" (top 12) (F 3) (FD 3)
 b3:Binds K (FD 3) (zaR 3) []
 m4:mg "is_rising"=some (.ref (F 4))
 f4:Fun K "is_rising" "is_rising" (top 13) (F 4) (FD 4)
 b4:Binds K (FD 4) (zaR 4) []
 m5:mg "is_floor"=some (.ref (F 5))
 f5:Fun K "is_floor" "is_floor" (top 14) (F 5) (FD 5)
 b5:Binds K (FD 5) (zaR 5) []
 m6:mg "checked"=some (.ref (F 6))
 f6:Fun K "checked" "checked" (top 15) (F 6) (FD 6)
 b6:Binds K (FD 6) (zaR 6) []
 m7:mg "checked_leap"=some (.ref (F 7))
 f7:Fun K "checked_leap" "checked_leap" (top 16) (F 7) (FD 7)
 b7:Binds K (FD 7) (zaR 7) []
 m8:mg "checked_cell"=some (.ref (F 8))
 f8:Fun K "checked_cell" "checked_cell" (top 17) (F 8) (FD 8)
 b8:Binds K (FD 8) (zaR 8) []
 m9:mg "folded"=some (.ref (F 9))
 f9:Fun K "folded" "folded" (top 19) (F 9) (FD 9)
 b9:Binds K (FD 9) (zaR 9) []
 m10:mg "are_near"=some (.ref (F 10))
 f10:Fun K "are_near" "are_near" (top 20) (F 10) (FD 10)
 b10:Binds K (FD 10) (zaR 10) []
 m11:mg "cells_near"=some (.ref (F 11))
 f11:Fun K "cells_near" "cells_near" (top 21) (F 11) (FD 11)
 b11:Binds K (FD 11) (zaR 11) []
 m13:mg "_law_cell"=some (.ref (F 13))
 f13:Fun K "_law_cell" "_law_cell" (top 27) (F 13) (FD 13)
 b13:Binds K (FD 13) (zaR 13) []
 m14:mg "_law_mix"=some (.ref (F 14))
 f14:Fun K "_law_mix" "_law_mix" (top 28) (F 14) (FD 14)
 b14:Binds K (FD 14) (zaR 14) []
 m15:mg "_law_floor"=some (.ref (F 15))
 f15:Fun K "_law_floor" "_law_floor" (top 30) (F 15) (FD 15)
 b15:Binds K (FD 15) (zaR 15) []
 m16:mg "_law_leap"=some (.ref (F 16))
 f16:Fun K "_law_leap" "_law_leap" (top 31) (F 16) (FD 16)
 b16:Binds K (FD 16) (zaR 16) []
 m17:mg "_law_is_near"=some (.ref (F 17))
 f17:Fun K "_law_is_near" "_law_is_near" (top 32) (F 17) (FD 17)
 b17:Binds K (FD 17) (zaR 17) []
 m18:mg "_law_near"=some (.ref (F 18))
 f18:Fun K "_law_near" "_law_near" (top 33) (F 18) (FD 18)
 b18:Binds K (FD 18) (zaR 18) []
 m20:mg "leads_to"=some (.ref (F 20))
 f20:Fun K "leads_to" "leads_to" (top 22) (F 20) (FD 20)
 b20:Binds K (FD 20) (zaR 20) []
 m26:mg "a_way"=some (.ref (F 26))
 f26:Fun K "a_way" "a_way" (top 24) (F 26) (FD 26)
 b26:Binds K (FD 26) (zaR 26) []
 m27:mg "fewest"=some (.ref (F 27))
 f27:Fun K "fewest" "fewest" (top 25) (F 27) (FD 27)
 b27:Binds K (FD 27) (zaR 27) []
 m34:mg "_law_whole"=some (.ref (F 34))
 f34:Fun K "_law_whole" "_law_whole" (top 29) (F 34) (FD 34)
 b34:Binds K (FD 34) (zaR 34) []
 m35:mg "_law_few"=some (.ref (F 35))
 f35:Fun K "_law_few" "_law_few" (top 34) (F 35) (FD 35)
 b35:Binds K (FD 35) (zaR 35) []
 m36:mg "law"=some (.ref (F 36))
 f36:Fun K "law" "law" (top 35) (F 36) (FD 36)
 b36:Binds K (FD 36) (zaR 36) []
 z_isinstance:mg "isinstance"=none
 z_int:mg "int"=none
 z_bool:mg "bool"=none
 z_len:mg "len"=none
 z_tuple:mg "tuple"=none
 z_range:mg "range"=none
 z_all:mg "all"=none
 z_abs:mg "abs"=none
 z_max:mg "max"=none
 z_min:mg "min"=none
 z_sorted:mg "sorted"=none
 z_list:mg "list"=none
 z_set:mg "set"=none
 c0:mg "LAST_LINE"=some (.int 7 (TK 0))
 c1:mg "MOST_CELLS"=some (.int 24 (TK 1))
 c2:mg "LONGEST_LEAP"=some (.int 4 (TK 2))
theorem zn2:(("least":Str)==("__debug__":Str))=false:=by decide+kernel
theorem zn3:(("least":Str)==("__classdict__":Str))=false:=by decide+kernel
theorem zaY:(("thing":Str)==("__debug__":Str))=false:=by decide+kernel
theorem zaZ:(("thing":Str)==("__classdict__":Str))=false:=by decide+kernel
theorem zp3:(("most":Str)==("__debug__":Str))=false:=by decide+kernel
theorem zp4:(("most":Str)==("__classdict__":Str))=false:=by decide+kernel
theorem zoI:(("int":Str)==("__debug__":Str))=false:=by decide+kernel
theorem zoJ:("int":Str)≠"__name__":=by decide+kernel
theorem zmu:(("bool":Str)==("__debug__":Str))=false:=by decide+kernel
theorem zmv:("bool":Str)≠"__name__":=by decide+kernel
theorem zdD:(("len":Str)==("__debug__":Str))=false:=by decide+kernel
theorem zdE:("len":Str)≠"__name__":=by decide+kernel
theorem zgI:(("tuple":Str)==("__debug__":Str))=false:=by decide+kernel
theorem zgJ:("tuple":Str)≠"__name__":=by decide+kernel
theorem zeq:(("LAST_LINE":Str)==("__debug__":Str))=false:=by decide+kernel
theorem zcf:(("is_whole":Str)==("__debug__":Str))=false:=by decide+kernel
theorem zer:(("is_couple":Str)==("__debug__":Str))=false:=by decide+kernel
theorem ze8:(("LONGEST_LEAP":Str)==("__debug__":Str))=false:=by decide+kernel
theorem zgK:(("cells":Str)==("__debug__":Str))=false:=by decide+kernel
theorem zgL:(("cells":Str)==("__classdict__":Str))=false:=by decide+kernel
theorem zjR:(("place":Str)==("__debug__":Str))=false:=by decide+kernel
theorem zjS:(("place":Str)==("__classdict__":Str))=false:=by decide+kernel
theorem zoK:(("all":Str)==("__debug__":Str))=false:=by decide+kernel
theorem zoL:("all":Str)≠"__name__":=by decide+kernel
theorem zh3:(("is_rising":Str)==("__debug__":Str))=false:=by decide+kernel
theorem zp5:(("part":Str)==("__debug__":Str))=false:=by decide+kernel
theorem zp6:(("part":Str)==("__classdict__":Str))=false:=by decide+kernel
theorem zfV:(("is_cell":Str)==("__debug__":Str))=false:=by decide+kernel
theorem zgM:(("MOST_CELLS":Str)==("__debug__":Str))=false:=by decide+kernel
theorem zbE:(("floor":Str)==("__debug__":Str))=false:=by decide+kernel
theorem zbF:(("floor":Str)==("__classdict__":Str))=false:=by decide+kernel
theorem zi5:(("is_floor":Str)==("__debug__":Str))=false:=by decide+kernel
theorem zcz:(("leap":Str)==("__debug__":Str))=false:=by decide+kernel
theorem zcA:(("leap":Str)==("__classdict__":Str))=false:=by decide+kernel
theorem zkx:(("is_leap":Str)==("__debug__":Str))=false:=by decide+kernel
theorem zei:(("cell":Str)==("__debug__":Str))=false:=by decide+kernel
theorem zej:(("cell":Str)==("__classdict__":Str))=false:=by decide+kernel
theorem zjT:(("right":Str)==("__debug__":Str))=false:=by decide+kernel
theorem zjU:(("right":Str)==("__classdict__":Str))=false:=by decide+kernel
theorem zfW:(("abs":Str)==("__debug__":Str))=false:=by decide+kernel
theorem zfX:("abs":Str)≠"__name__":=by decide+kernel
theorem zmw:(("down":Str)==("__debug__":Str))=false:=by decide+kernel
theorem zmx:(("down":Str)==("__classdict__":Str))=false:=by decide+kernel
theorem zs6:(("max":Str)==("__debug__":Str))=false:=by decide+kernel
theorem zs7:("max":Str)≠"__name__":=by decide+kernel
theorem zs8:(("min":Str)==("__debug__":Str))=false:=by decide+kernel
theorem zs9:("min":Str)≠"__name__":=by decide+kernel
theorem zbG:(("other":Str)==("__debug__":Str))=false:=by decide+kernel
theorem zbH:(("other":Str)==("__classdict__":Str))=false:=by decide+kernel
theorem zfY:(("one":Str)==("__debug__":Str))=false:=by decide+kernel
theorem zfZ:(("one":Str)==("__classdict__":Str))=false:=by decide+kernel
theorem zmy:(("folded":Str)==("__debug__":Str))=false:=by decide+kernel
theorem zi6:(("are_near":Str)==("__debug__":Str))=false:=by decide+kernel
theorem zcT:(("leads":Str)==("__debug__":Str))=false:=by decide+kernel
theorem zcU:(("leads":Str)==("__classdict__":Str))=false:=by decide+kernel
theorem zmz:(("edge":Str)==("__debug__":Str))=false:=by decide+kernel
theorem zmA:(("edge":Str)==("__classdict__":Str))=false:=by decide+kernel
theorem zf0:(("further":Str)==("__debug__":Str))=false:=by decide+kernel
theorem zf1:(("further":Str)==("__classdict__":Str))=false:=by decide+kernel
theorem zgN:(("cells_near":Str)==("__debug__":Str))=false:=by decide+kernel
theorem zmB:(("goal":Str)==("__debug__":Str))=false:=by decide+kernel
theorem zmC:(("goal":Str)==("__classdict__":Str))=false:=by decide+kernel
theorem zf2:(("way":Str)==("__debug__":Str))=false:=by decide+kernel
theorem zf3:(("way":Str)==("__classdict__":Str))=false:=by decide+kernel
theorem zi7:(("leads_to":Str)==("__debug__":Str))=false:=by decide+kernel
theorem zcB:(("checked_cell":Str)==("__debug__":Str))=false:=by decide+kernel
theorem ze9:(("checked_leap":Str)==("__debug__":Str))=false:=by decide+kernel
theorem zky:(("checked":Str)==("__debug__":Str))=false:=by decide+kernel
theorem zjV:(("a_way":Str)==("__debug__":Str))=false:=by decide+kernel
theorem zcC:(("_law_k":Str)==("__debug__":Str))=false:=by decide+kernel
theorem zcD:(("_law_k":Str)==("__classdict__":Str))=false:=by decide+kernel
theorem zaI:(("_law_script":Str)==("__debug__":Str))=false:=by decide+kernel
theorem zaJ:(("_law_script":Str)==("__classdict__":Str))=false:=by decide+kernel
theorem zaA:(("_law_cell_here":Str)==("__debug__":Str))=false:=by decide+kernel
theorem zaB:(("_law_cell_here":Str)==("__classdict__":Str))=false:=by decide+kernel
theorem zgO:(("_law_prime":Str)==("__debug__":Str))=false:=by decide+kernel
theorem zgP:(("_law_prime":Str)==("__classdict__":Str))=false:=by decide+kernel
theorem zcE:(("_law_many":Str)==("__debug__":Str))=false:=by decide+kernel
theorem zcF:(("_law_many":Str)==("__classdict__":Str))=false:=by decide+kernel
theorem zaT:(("_law_found":Str)==("__debug__":Str))=false:=by decide+kernel
theorem zaU:(("_law_found":Str)==("__classdict__":Str))=false:=by decide+kernel
theorem zh4:(("_law_most":Str)==("__debug__":Str))=false:=by decide+kernel
theorem zh5:(("_law_most":Str)==("__classdict__":Str))=false:=by decide+kernel
theorem zdF:(("_law_right":Str)==("__debug__":Str))=false:=by decide+kernel
theorem zdG:(("_law_right":Str)==("__classdict__":Str))=false:=by decide+kernel
theorem zes:(("_law_down":Str)==("__debug__":Str))=false:=by decide+kernel
theorem zet:(("_law_down":Str)==("__classdict__":Str))=false:=by decide+kernel
theorem zeu:(("_law_rows":Str)==("__debug__":Str))=false:=by decide+kernel
theorem zev:(("_law_rows":Str)==("__classdict__":Str))=false:=by decide+kernel
theorem zew:(("_law_wide":Str)==("__debug__":Str))=false:=by decide+kernel
theorem zex:(("_law_wide":Str)==("__classdict__":Str))=false:=by decide+kernel
theorem zfa:(("_law_way":Str)==("__debug__":Str))=false:=by decide+kernel
theorem zfb:(("_law_way":Str)==("__classdict__":Str))=false:=by decide+kernel
theorem zh6:(("_law_seed":Str)==("__debug__":Str))=false:=by decide+kernel
theorem zh7:(("_law_seed":Str)==("__classdict__":Str))=false:=by decide+kernel
theorem zbD:(("_law_mix":Str)==("__debug__":Str))=false:=by decide+kernel
theorem zdH:(("_law_c":Str)==("__debug__":Str))=false:=by decide+kernel
theorem zdI:(("_law_c":Str)==("__classdict__":Str))=false:=by decide+kernel
theorem zdJ:(("_law_r":Str)==("__debug__":Str))=false:=by decide+kernel
theorem zdK:(("_law_r":Str)==("__classdict__":Str))=false:=by decide+kernel
theorem zcV:(("_law_at":Str)==("__debug__":Str))=false:=by decide+kernel
theorem zcW:(("_law_at":Str)==("__classdict__":Str))=false:=by decide+kernel
theorem zbb:(("_law_cell":Str)==("__debug__":Str))=false:=by decide+kernel
theorem zh8:(("_law_some":Str)==("__debug__":Str))=false:=by decide+kernel
theorem zh9:(("_law_some":Str)==("__classdict__":Str))=false:=by decide+kernel
theorem za4:(("_law_one":Str)==("__debug__":Str))=false:=by decide+kernel
theorem za5:(("_law_one":Str)==("__classdict__":Str))=false:=by decide+kernel
theorem zaK:(("_law_other":Str)==("__debug__":Str))=false:=by decide+kernel
theorem zaL:(("_law_other":Str)==("__classdict__":Str))=false:=by decide+kernel
theorem zmD:(("sorted":Str)==("__debug__":Str))=false:=by decide+kernel
theorem zmE:("sorted":Str)≠"__name__":=by decide+kernel
theorem zaG:(("_law_leap_here":Str)==("__debug__":Str))=false:=by decide+kernel
theorem zaH:(("_law_leap_here":Str)==("__classdict__":Str))=false:=by decide+kernel
theorem zmF:(("list":Str)==("__debug__":Str))=false:=by decide+kernel
theorem zmG:("list":Str)≠"__name__":=by decide+kernel
theorem zaq:(("_law_floor_here":Str)==("__debug__":Str))=false:=by decide+kernel
theorem zar:(("_law_floor_here":Str)==("__classdict__":Str))=false:=by decide+kernel
theorem zcG:(("_law_is_near":Str)==("__debug__":Str))=false:=by decide+kernel
theorem zcH:(("_law_here":Str)==("__debug__":Str))=false:=by decide+kernel
theorem zcI:(("_law_here":Str)==("__classdict__":Str))=false:=by decide+kernel
theorem zcJ:(("_law_more":Str)==("__debug__":Str))=false:=by decide+kernel
theorem zcK:(("_law_more":Str)==("__classdict__":Str))=false:=by decide+kernel
theorem zey:(("_law_seen":Str)==("__debug__":Str))=false:=by decide+kernel
theorem zez:(("_law_seen":Str)==("__classdict__":Str))=false:=by decide+kernel
theorem zia:(("_law_near":Str)==("__debug__":Str))=false:=by decide+kernel
theorem zcl:(("_law_near_one":Str)==("__debug__":Str))=false:=by decide+kernel
theorem zcm:(("_law_near_one":Str)==("__classdict__":Str))=false:=by decide+kernel
theorem zbV:(("_law_due":Str)==("__debug__":Str))=false:=by decide+kernel
theorem zbW:(("_law_due":Str)==("__classdict__":Str))=false:=by decide+kernel
theorem za2:(("_law_told":Str)==("__debug__":Str))=false:=by decide+kernel
theorem za3:(("_law_told":Str)==("__classdict__":Str))=false:=by decide+kernel
theorem zgQ:(("_law_whole":Str)==("__debug__":Str))=false:=by decide+kernel
theorem zib:(("fewest":Str)==("__debug__":Str))=false:=by decide+kernel
theorem zi8:(("_law_few":Str)==("__debug__":Str))=false:=by decide+kernel
theorem zic:(("_law_leap":Str)==("__debug__":Str))=false:=by decide+kernel
theorem zgR:(("_law_floor":Str)==("__debug__":Str))=false:=by decide+kernel
theorem sc0:FnScope ["thing","least","most"] ["thing","least","most"] (zaa (top 9)):=⟨rfl,rfl,rfl,by decide+kernel,rfl,by decide+kernel,by decide+kernel⟩
theorem zn4:Vis (zaa (top 9)) "least":=.inl (by decide+kernel)
theorem zgS:Vis (zaa (top 9)) "thing":=.inl (by decide+kernel)
theorem zp7:Vis (zaa (top 9)) "most":=.inl (by decide+kernel)
theorem zdL:(zaa (top 9)).names.lookup ("isinstance":Str)=some .globalImplicit:=by decide+kernel
theorem zta:(zaa (top 9)).names.lookup ("int":Str)=some .globalImplicit:=by decide+kernel
theorem zp8:(zaa (top 9)).names.lookup ("bool":Str)=some .globalImplicit:=by decide+kernel
theorem sc1:FnScope ["thing"] ["thing"] (zaa (top 10)):=⟨rfl,rfl,rfl,by decide+kernel,rfl,by decide+kernel,by decide+kernel⟩
theorem zjW:Vis (zaa (top 10)) "thing":=.inl (by decide+kernel)
theorem ztb:(zaa (top 10)).names.lookup ("len":Str)=some .globalImplicit:=by decide+kernel
theorem zgT:(zaa (top 10)).names.lookup ("isinstance":Str)=some .globalImplicit:=by decide+kernel
theorem zn5:(zaa (top 10)).names.lookup ("tuple":Str)=some .globalImplicit:=by decide+kernel
theorem sc2:FnScope ["thing"] ["thing"] (zaa (top 11)):=⟨rfl,rfl,rfl,by decide+kernel,rfl,by decide+kernel,by decide+kernel⟩
theorem zgU:Vis (zaa (top 11)) "thing":=.inl (by decide+kernel)
theorem zeA:(zaa (top 11)).names.lookup ("LAST_LINE":Str)=some .globalImplicit:=by decide+kernel
theorem zfc:(zaa (top 11)).names.lookup ("is_whole":Str)=some .globalImplicit:=by decide+kernel
theorem zid:(zaa (top 11)).names.lookup ("is_couple":Str)=some .globalImplicit:=by decide+kernel
theorem sc3:FnScope ["thing"] ["thing"] (zaa (top 12)):=⟨rfl,rfl,rfl,by decide+kernel,rfl,by decide+kernel,by decide+kernel⟩
theorem zeL:Vis (zaa (top 12)) "thing":=.inl (by decide+kernel)
theorem zfd:(zaa (top 12)).names.lookup ("is_whole":Str)=some .globalImplicit:=by decide+kernel
theorem zfe:(zaa (top 12)).names.lookup ("LONGEST_LEAP":Str)=some .globalImplicit:=by decide+kernel
theorem zie:(zaa (top 12)).names.lookup ("is_couple":Str)=some .globalImplicit:=by decide+kernel
theorem sc4:FnScope ["cells"] ["cells"] (zaa (top 13)):=⟨rfl,rfl,rfl,by decide+kernel,rfl,by decide+kernel,by decide+kernel⟩
theorem zn6:Vis (zaa (top 13)) "cells":=.inr (.inl (by decide+kernel))
theorem ztc:(zaa (top 13)).names.lookup ("len":Str)=some .globalImplicit:=by decide+kernel
theorem zn7:(zaa (top 13)).names.lookup ("range":Str)=some .globalImplicit:=by decide+kernel
theorem ztd:(zaa (top 13)).names.lookup ("all":Str)=some .globalImplicit:=by decide+kernel
theorem sc5:FnScope ["thing"] ["thing"] (zaa (top 14)):=⟨rfl,rfl,rfl,by decide+kernel,rfl,by decide+kernel,by decide+kernel⟩
theorem zeM:Vis (zaa (top 14)) "thing":=.inl (by decide+kernel)
theorem zif:(zaa (top 14)).names.lookup ("is_rising":Str)=some .globalImplicit:=by decide+kernel
theorem zte:(zaa (top 14)).names.lookup ("all":Str)=some .globalImplicit:=by decide+kernel
theorem ztf:(zaa (top 14)).names.lookup ("len":Str)=some .globalImplicit:=by decide+kernel
theorem zgV:(zaa (top 14)).names.lookup ("MOST_CELLS":Str)=some .globalImplicit:=by decide+kernel
theorem zgW:(zaa (top 14)).names.lookup ("isinstance":Str)=some .globalImplicit:=by decide+kernel
theorem zn8:(zaa (top 14)).names.lookup ("tuple":Str)=some .globalImplicit:=by decide+kernel
theorem sc6:FnScope ["floor"] ["floor"] (zaa (top 15)):=⟨rfl,rfl,rfl,by decide+kernel,rfl,by decide+kernel,by decide+kernel⟩
theorem zjX:Vis (zaa (top 15)) "floor":=.inl (by decide+kernel)
theorem zi9:(zaa (top 15)).names.lookup ("is_floor":Str)=some .globalImplicit:=by decide+kernel
theorem sc7:FnScope ["leap"] ["leap"] (zaa (top 16)):=⟨rfl,rfl,rfl,by decide+kernel,rfl,by decide+kernel,by decide+kernel⟩
theorem zmH:Vis (zaa (top 16)) "leap":=.inl (by decide+kernel)
theorem zkz:(zaa (top 16)).names.lookup ("is_leap":Str)=some .globalImplicit:=by decide+kernel
theorem sc8:FnScope ["floor","cell"] ["floor","cell"] (zaa (top 17)):=⟨rfl,rfl,rfl,by decide+kernel,rfl,by decide+kernel,by decide+kernel⟩
theorem zja:Vis (zaa (top 17)) "cell":=.inl (by decide+kernel)
theorem zn9:Vis (zaa (top 17)) "floor":=.inl (by decide+kernel)
theorem zkA:(zaa (top 17)).names.lookup ("is_cell":Str)=some .globalImplicit:=by decide+kernel
theorem sc9:FnScope ["down","right"] ["down","right"] (zaa (top 19)):=⟨rfl,rfl,rfl,by decide+kernel,rfl,by decide+kernel,by decide+kernel⟩
theorem zjY:Vis (zaa (top 19)) "right":=.inl (by decide+kernel)
theorem zmI:Vis (zaa (top 19)) "down":=.inl (by decide+kernel)
theorem zjZ:(zaa (top 19)).names.lookup ("abs":Str)=some .globalImplicit:=by decide+kernel
theorem ztg:(zaa (top 19)).names.lookup ("max":Str)=some .globalImplicit:=by decide+kernel
theorem zth:(zaa (top 19)).names.lookup ("min":Str)=some .globalImplicit:=by decide+kernel
theorem zyb:FnScope ["leap","one","other"] ["leap","one","other"] (zaa (top 20)):=⟨rfl,rfl,rfl,by decide+kernel,rfl,by decide+kernel,by decide+kernel⟩
theorem zig:Vis (zaa (top 20)) "other":=.inl (by decide+kernel)
theorem zmJ:Vis (zaa (top 20)) "one":=.inl (by decide+kernel)
theorem zoa:Vis (zaa (top 20)) "leap":=.inl (by decide+kernel)
theorem zkB:(zaa (top 20)).names.lookup ("folded":Str)=some .globalImplicit:=by decide+kernel
theorem zyc:FnScope ["floor","leap","cell"] ["floor","leap","cell"] (zaa (top 21)):=⟨rfl,rfl,rfl,by decide+kernel,rfl,by decide+kernel,by decide+kernel⟩
theorem zmK:Vis (zaa (top 21)) "floor":=.inl (by decide+kernel)
theorem zyd:FnScope ["_law_script","_law_k"] ["_law_script","_law_k"] (zaa (top 27)):=⟨rfl,rfl,rfl,by decide+kernel,rfl,by decide+kernel,by decide+kernel⟩
theorem zf4:Vis (zaa (top 27)) "_law_k":=.inl (by decide+kernel)
theorem zcL:Vis (zaa (top 27)) "_law_script":=.inl (by decide+kernel)
theorem zp9:(zaa (top 27)).names.lookup ("len":Str)=some .globalImplicit:=by decide+kernel
theorem zye:FnScope ["_law_cell_here","_law_prime","_law_many"] ["_law_cell_here","_law_prime","_law_many"] (zaa (top 28)):=⟨rfl,rfl,rfl,by decide+kernel,rfl,by decide+kernel,by decide+kernel⟩
theorem zdM:Vis (zaa (top 28)) "_law_cell_here":=.inl (by decide+kernel)
theorem zfr:Vis (zaa (top 28)) "_law_prime":=.inl (by decide+kernel)
theorem zgX:Vis (zaa (top 28)) "_law_many":=.inl (by decide+kernel)
theorem zkK:FnScope ["_law_script","_law_at","_law_most","_law_cell_here","_law_rows","_law_wide","_law_down","_law_right","_law_way","_law_found","_law_r","_law_c","_law_seed"] ["_law_script","_law_at","_law_most"] (zaa (top 30)):=⟨rfl,rfl,rfl,by decide+kernel,rfl,by decide+kernel,by decide+kernel⟩
theorem zb3:Vis (zaa (top 30)) "_law_found":=.inl (by decide+kernel)
theorem zgY:Vis (zaa (top 30)) "_law_most":=.inl (by decide+kernel)
theorem zc3:Vis (zaa (top 30)) "_law_right":=.inl (by decide+kernel)
theorem zdN:Vis (zaa (top 30)) "_law_down":=.inl (by decide+kernel)
theorem zdO:Vis (zaa (top 30)) "_law_rows":=.inl (by decide+kernel)
theorem zdP:Vis (zaa (top 30)) "_law_wide":=.inl (by decide+kernel)
theorem zeB:Vis (zaa (top 30)) "_law_way":=.inl (by decide+kernel)
theorem zgZ:Vis (zaa (top 30)) "_law_seed":=.inl (by decide+kernel)
theorem zcX:Vis (zaa (top 30)) "_law_c":=.inl (by decide+kernel)
theorem zcY:Vis (zaa (top 30)) "_law_r":=.inl (by decide+kernel)
theorem zcg:Vis (zaa (top 30)) "_law_at":=.inl (by decide+kernel)
theorem zbr:Vis (zaa (top 30)) "_law_script":=.inl (by decide+kernel)
theorem zbs:Vis (zaa (top 30)) "_law_cell_here":=.inl (by decide+kernel)
theorem zc4:Loc (zaa (top 30)) "_law_found":=.inl (by decide+kernel)
theorem zg0:Loc (zaa (top 30)) "_law_seed":=.inl (by decide+kernel)
theorem zkC:Loc (zaa (top 30)) "_law_c":=.inl (by decide+kernel)
theorem zkD:Loc (zaa (top 30)) "_law_r":=.inl (by decide+kernel)
theorem zih:Loc (zaa (top 30)) "_law_way":=.inl (by decide+kernel)
theorem zfs:Loc (zaa (top 30)) "_law_right":=.inl (by decide+kernel)
theorem zg1:Loc (zaa (top 30)) "_law_down":=.inl (by decide+kernel)
theorem zg2:Loc (zaa (top 30)) "_law_wide":=.inl (by decide+kernel)
theorem zg3:Loc (zaa (top 30)) "_law_rows":=.inl (by decide+kernel)
theorem zdQ:Loc (zaa (top 30)) "_law_cell_here":=.inl (by decide+kernel)
theorem zmL:(zaa (top 30)).names.lookup ("tuple":Str)=some .globalImplicit:=by decide+kernel
theorem zii:(zaa (top 30)).names.lookup ("range":Str)=some .globalImplicit:=by decide+kernel
theorem zbm:(zaa (top 30)).names.lookup ("_law_mix":Str)=some .globalImplicit:=by decide+kernel
theorem zbQ:(zaa (top 30)).names.lookup ("_law_cell":Str)=some .globalImplicit:=by decide+kernel
theorem zxw:FnScope ["_law_cell_here","_law_some"] ["_law_cell_here"] (zaa (top 31)):=⟨rfl,rfl,rfl,by decide+kernel,rfl,by decide+kernel,by decide+kernel⟩
theorem zg4:Vis (zaa (top 31)) "_law_some":=.inl (by decide+kernel)
theorem zdR:Vis (zaa (top 31)) "_law_cell_here":=.inl (by decide+kernel)
theorem zg5:Loc (zaa (top 31)) "_law_some":=.inl (by decide+kernel)
theorem zyf:FnScope ["_law_leap_here","_law_one","_law_other"] ["_law_leap_here","_law_one","_law_other"] (zaa (top 32)):=⟨rfl,rfl,rfl,by decide+kernel,rfl,by decide+kernel,by decide+kernel⟩
theorem zeC:Vis (zaa (top 32)) "_law_one":=.inl (by decide+kernel)
theorem zc5:Vis (zaa (top 32)) "_law_other":=.inl (by decide+kernel)
theorem zdS:Vis (zaa (top 32)) "_law_leap_here":=.inl (by decide+kernel)
theorem zmM:(zaa (top 32)).names.lookup ("abs":Str)=some .globalImplicit:=by decide+kernel
theorem zkE:(zaa (top 32)).names.lookup ("sorted":Str)=some .globalImplicit:=by decide+kernel
theorem zob:(zaa (top 32)).names.lookup ("list":Str)=some .globalImplicit:=by decide+kernel
theorem zyg:FnScope ["_law_floor_here","_law_leap_here","_law_cell_here"] ["_law_floor_here","_law_leap_here","_law_cell_here"] (zaa (top 33)):=⟨rfl,rfl,rfl,by decide+kernel,rfl,by decide+kernel,by decide+kernel⟩
theorem zdk:Vis (zaa (top 33)) "_law_floor_here":=.inl (by decide+kernel)
theorem zqa:FnScope ["floor","leap","goal","leads","edge","further","cell","other"] ["floor","leap","goal"] (zaa (top 22)):=⟨rfl,rfl,rfl,by decide+kernel,rfl,by decide+kernel,by decide+kernel⟩
theorem zff:Vis (zaa (top 22)) "leads":=.inl (by decide+kernel)
theorem zj0:Vis (zaa (top 22)) "edge":=.inl (by decide+kernel)
theorem zfg:Vis (zaa (top 22)) "further":=.inl (by decide+kernel)
theorem zj1:Vis (zaa (top 22)) "cell":=.inl (by decide+kernel)
theorem zoc:Vis (zaa (top 22)) "leap":=.inl (by decide+kernel)
theorem zmN:Vis (zaa (top 22)) "floor":=.inl (by decide+kernel)
theorem zfh:Vis (zaa (top 22)) "other":=.inl (by decide+kernel)
theorem zj2:Vis (zaa (top 22)) "goal":=.inl (by decide+kernel)
theorem zj3:Loc (zaa (top 22)) "edge":=.inl (by decide+kernel)
theorem zmO:Loc (zaa (top 22)) "other":=.inl (by decide+kernel)
theorem zod:Loc (zaa (top 22)) "cell":=.inl (by decide+kernel)
theorem zjb:Loc (zaa (top 22)) "further":=.inl (by decide+kernel)
theorem zmP:Loc (zaa (top 22)) "leads":=.inl (by decide+kernel)
theorem zqb:(zaa (top 22)).names.lookup ("len":Str)=some .globalImplicit:=by decide+kernel
theorem zft:(zaa (top 22)).names.lookup ("cells_near":Str)=some .globalImplicit:=by decide+kernel
theorem zwK:FnScope ["floor","leap","one","other","leads","way"] ["floor","leap","one","other"] (zaa (top 24)):=⟨rfl,rfl,rfl,by decide+kernel,rfl,by decide+kernel,by decide+kernel⟩
theorem zg6:Vis (zaa (top 24)) "way":=.inl (by decide+kernel)
theorem zfi:Vis (zaa (top 24)) "leads":=.inl (by decide+kernel)
theorem zjc:Vis (zaa (top 24)) "one":=.inl (by decide+kernel)
theorem zij:Vis (zaa (top 24)) "other":=.inl (by decide+kernel)
theorem zj4:Vis (zaa (top 24)) "leap":=.inl (by decide+kernel)
theorem zdT:Vis (zaa (top 24)) "floor":=.inl (by decide+kernel)
theorem zqc:Loc (zaa (top 24)) "way":=.inl (by decide+kernel)
theorem zmQ:Loc (zaa (top 24)) "leads":=.inl (by decide+kernel)
theorem zik:(zaa (top 24)).names.lookup ("leads_to":Str)=some .globalImplicit:=by decide+kernel
theorem zcn:(zaa (top 24)).names.lookup ("checked_cell":Str)=some .globalImplicit:=by decide+kernel
theorem zeF:(zaa (top 24)).names.lookup ("checked_leap":Str)=some .globalImplicit:=by decide+kernel
theorem zjd:(zaa (top 24)).names.lookup ("checked":Str)=some .globalImplicit:=by decide+kernel
theorem zxx:FnScope ["floor","leap","one","other","way"] ["floor","leap","one","other"] (zaa (top 25)):=⟨rfl,rfl,rfl,by decide+kernel,rfl,by decide+kernel,by decide+kernel⟩
theorem zmR:Vis (zaa (top 25)) "way":=.inl (by decide+kernel)
theorem zmS:Vis (zaa (top 25)) "other":=.inl (by decide+kernel)
theorem zqd:Vis (zaa (top 25)) "one":=.inl (by decide+kernel)
theorem zoe:Vis (zaa (top 25)) "leap":=.inl (by decide+kernel)
theorem zmT:Vis (zaa (top 25)) "floor":=.inl (by decide+kernel)
theorem zqe:Loc (zaa (top 25)) "way":=.inl (by decide+kernel)
theorem zqf:(zaa (top 25)).names.lookup ("len":Str)=some .globalImplicit:=by decide+kernel
theorem zmU:(zaa (top 25)).names.lookup ("a_way":Str)=some .globalImplicit:=by decide+kernel
theorem zyh:FnScope ["_law_found"] ["_law_found"] (zaa (top 29)):=⟨rfl,rfl,rfl,by decide+kernel,rfl,by decide+kernel,by decide+kernel⟩
theorem zc6:Vis (zaa (top 29)) "_law_found":=.inl (by decide+kernel)
theorem zc7:(zaa (top 29)).names.lookup ("isinstance":Str)=some .globalImplicit:=by decide+kernel
theorem zof:(zaa (top 29)).names.lookup ("bool":Str)=some .globalImplicit:=by decide+kernel
theorem zqg:(zaa (top 29)).names.lookup ("int":Str)=some .globalImplicit:=by decide+kernel
theorem zmZ:FnScope ["_law_floor_here","_law_leap_here","_law_one","_law_other","_law_seen","_law_here","_law_many","_law_more","_law_cell_here"] ["_law_floor_here","_law_leap_here","_law_one","_law_other"] (zaa (top 34)):=⟨rfl,rfl,rfl,by decide+kernel,rfl,by decide+kernel,by decide+kernel⟩
theorem zch:Vis (zaa (top 34)) "_law_here":=.inl (by decide+kernel)
theorem zdU:Vis (zaa (top 34)) "_law_many":=.inl (by decide+kernel)
theorem zci:Vis (zaa (top 34)) "_law_more":=.inl (by decide+kernel)
theorem zg7:Vis (zaa (top 34)) "_law_seen":=.inr (.inl (by decide+kernel))
theorem zdV:Vis (zaa (top 34)) "_law_cell_here":=.inl (by decide+kernel)
theorem zdW:Vis (zaa (top 34)) "_law_leap_here":=.inl (by decide+kernel)
theorem zdl:Vis (zaa (top 34)) "_law_floor_here":=.inl (by decide+kernel)
theorem zfu:Vis (zaa (top 34)) "_law_other":=.inl (by decide+kernel)
theorem zeD:Vis (zaa (top 34)) "_law_one":=.inl (by decide+kernel)
theorem zdX:Loc (zaa (top 34)) "_law_many":=.inl (by decide+kernel)
theorem zdY:Loc (zaa (top 34)) "_law_here":=.inl (by decide+kernel)
theorem zdZ:Loc (zaa (top 34)) "_law_seen":=.inr (by decide+kernel)
theorem zd0:Loc (zaa (top 34)) "_law_more":=.inl (by decide+kernel)
theorem zd1:Loc (zaa (top 34)) "_law_cell_here":=.inl (by decide+kernel)
theorem zkF:(zaa (top 34)).names.lookup ("sorted":Str)=some .globalImplicit:=by decide+kernel
theorem zqh:(zaa (top 34)).names.lookup ("set":Str)=some .globalImplicit:=by decide+kernel
theorem zg8:(zaa (top 34)).names.lookup ("_law_near":Str)=some .globalImplicit:=by decide+kernel
theorem zoM:FnScope ["_law_script","_law_floor_here","_law_leap_here","_law_one","_law_other","_law_due","_law_found","_law_told"] ["_law_script"] (zaa (top 35)):=⟨rfl,rfl,rfl,by decide+kernel,rfl,by decide+kernel,by decide+kernel⟩
theorem zbK:Vis (zaa (top 35)) "_law_due":=.inl (by decide+kernel)
theorem zbd:Vis (zaa (top 35)) "_law_told":=.inr (.inl (by decide+kernel))
theorem zbg:Vis (zaa (top 35)) "_law_other":=.inl (by decide+kernel)
theorem zbL:Vis (zaa (top 35)) "_law_one":=.inl (by decide+kernel)
theorem zb4:Vis (zaa (top 35)) "_law_found":=.inl (by decide+kernel)
theorem za9:Vis (zaa (top 35)) "_law_leap_here":=.inr (.inl (by decide+kernel))
theorem zaz:Vis (zaa (top 35)) "_law_floor_here":=.inr (.inl (by decide+kernel))
theorem zbt:Vis (zaa (top 35)) "_law_script":=.inl (by decide+kernel)
theorem zg9:Loc (zaa (top 35)) "_law_told":=.inr (by decide+kernel)
theorem zfv:Loc (zaa (top 35)) "_law_found":=.inl (by decide+kernel)
theorem zil:Loc (zaa (top 35)) "_law_due":=.inl (by decide+kernel)
theorem zfw:Loc (zaa (top 35)) "_law_other":=.inl (by decide+kernel)
theorem zim:Loc (zaa (top 35)) "_law_one":=.inl (by decide+kernel)
theorem zd2:Loc (zaa (top 35)) "_law_leap_here":=.inr (by decide+kernel)
theorem zdm:Loc (zaa (top 35)) "_law_floor_here":=.inr (by decide+kernel)
theorem zmV:(zaa (top 35)).names.lookup ("range":Str)=some .globalImplicit:=by decide+kernel
theorem zje:(zaa (top 35)).names.lookup ("len":Str)=some .globalImplicit:=by decide+kernel
theorem zfx:(zaa (top 35)).names.lookup ("isinstance":Str)=some .globalImplicit:=by decide+kernel
theorem zog:(zaa (top 35)).names.lookup ("list":Str)=some .globalImplicit:=by decide+kernel
theorem zfy:(zaa (top 35)).names.lookup ("_law_whole":Str)=some .globalImplicit:=by decide+kernel
theorem zf5:(zaa (top 35)).names.lookup ("fewest":Str)=some .globalImplicit:=by decide+kernel
theorem zmW:(zaa (top 35)).names.lookup ("a_way":Str)=some .globalImplicit:=by decide+kernel
theorem zin:(zaa (top 35)).names.lookup ("_law_few":Str)=some .globalImplicit:=by decide+kernel
theorem zcj:(zaa (top 35)).names.lookup ("_law_cell":Str)=some .globalImplicit:=by decide+kernel
theorem zha:(zaa (top 35)).names.lookup ("_law_leap":Str)=some .globalImplicit:=by decide+kernel
theorem zfz:(zaa (top 35)).names.lookup ("_law_floor":Str)=some .globalImplicit:=by decide+kernel
section
variable {Pg:Program} {w:World} {K:PySem.W.Frag} {mg:Str->Option Value} {base:Heap} {F:Nat->Addr} {FD:Nat->FuncData} {TK:Nat->Tok} {n fuel:Nat}
theorem zwL(T:Txt K mg F FD TK)(hall: ∀i,FnOk Pg w K mg base CX0 n (F i) (FD i) (zaR i) (spA K (zat U fuel n) i (zeE i)))(cdv:Value)(A:Around)(outer:List PySem.Env)(s:Shared)(H:Hp)(E:XK)
  (hr:Room n (A.deeper (envOfC "is_whole" (zaa (top 9)) s.heap.objs.size (F 0) cdv))):
  ISs (zc8 CX0 Pg w K mg base ["thing","least","most"] "is_whole" (zaa (top 9)) (F 0) cdv A outer s H E).nox (zaV (zat U fuel n) fuel ir0) (zag (top 9)):=
 (zae (ziH (IW.t (znp (zdv (zeZ (t:=.bool) zdL T.z_isinstance zp8 T.z_bool PyProof.Rows.boot_bool (zaf 0 rfl zgS zaY zaZ) zmv zmu zab zab (zai zab zaj)) (zgm _ _) zbS) (zkc (zfo (zdv (zeZ (t:=.int) zdL T.z_isinstance zta T.z_int PyProof.Rows.boot_int (zaf 0 rfl zgS zaY zaZ) zoJ zoI zab zab (zai zab zaj)) (zgm _ _) zbS))))) (zae (zbz zrD)
  zap) zap)
  (zae (zbz (zpp znm znm (zaf 1 rfl zn4 zn2 zn3) (zaf 0 rfl zgS zaY zaZ) (zaf 2 rfl zp7 zp3 zp4)))
  zap))
theorem zwM(T:Txt K mg F FD TK)(hall: ∀i,FnOk Pg w K mg base CX0 n (F i) (FD i) (zaR i) (spA K (zat U fuel n) i (zeE i)))(cdv:Value)(A:Around)(outer:List PySem.Env)(s:Shared)(H:Hp)(E:XK)
  (hr:Room n (A.deeper (envOfC "is_couple" (zaa (top 10)) s.heap.objs.size (F 1) cdv))):
  ISs (zc8 CX0 Pg w K mg base ["thing"] "is_couple" (zaa (top 10)) (F 1) cdv A outer s H E).nox (zaV (zat U fuel n) fuel ir1) (zag (top 10)):=
 (zae (zbz (zht (zeZ (t:=.tuple) zgT T.z_isinstance zn5 T.z_tuple PyProof.Rows.boot_tuple (zaf 0 rfl zjW zaY zaZ) zgJ zgI zab zab (zai zab zaj)) (zkb (zls (zlm hr.units) (za0 zdu ztb T.z_len PySem.boot_len (zad (zaf 0 rfl zjW zaY zaZ) zao zab) zdE zdD zab zaj) zan (zbY _)))))
  zap)
theorem zwN(T:Txt K mg F FD TK)(hall: ∀i,FnOk Pg w K mg base CX0 n (F i) (FD i) (zaR i) (spA K (zat U fuel n) i (zeE i)))(cdv:Value)(A:Around)(outer:List PySem.Env)(s:Shared)(H:Hp)(E:XK)
  (hr:Room n (A.deeper (envOfC "is_cell" (zaa (top 11)) s.heap.objs.size (F 2) cdv))):
  ISs (zc8 CX0 Pg w K mg base ["thing"] "is_cell" (zaa (top 11)) (F 2) cdv A outer s H E).nox (zaV (zat U fuel n) fuel ir2) (zag (top 11)):=
 (zae (zbz (zht (zaD (zau (hall 1) rfl) hr zid T.m1 T.f1.kp (T.b1) (zad (zaf 0 rfl zgU zaY zaZ) zao zab) zer zab zaj) (zht (zaD (zau (hall 0) rfl) hr zfc T.m0 T.f0.kp (T.b0) (zad (zd4 hr.units (zaf 0 rfl zgU zaY zaZ) zan (fun _ _=>rfl)) (zad zan (zad (zgh zeA T.c0 zeq) zao zab) zac) zal) zcf zal (zai zac (zai zab zaj))) (zkb (zaD (zau (hall 0) rfl) hr zfc T.m0 T.f0.kp (T.b0) (zad (zd4 hr.units (zaf 0 rfl zgU zaY zaZ) zan (fun _ _=>rfl)) (zad zan (zad (zgh zeA T.c0 zeq) zao zab) zac) zal) zcf zal (zai zac (zai zab zaj)))))))
  zap)
theorem zwO(T:Txt K mg F FD TK)(hall: ∀i,FnOk Pg w K mg base CX0 n (F i) (FD i) (zaR i) (spA K (zat U fuel n) i (zeE i)))(cdv:Value)(A:Around)(outer:List PySem.Env)(s:Shared)(H:Hp)(E:XK)
  (hr:Room n (A.deeper (envOfC "is_leap" (zaa (top 12)) s.heap.objs.size (F 3) cdv))):
  ISs (zc8 CX0 Pg w K mg base ["thing"] "is_leap" (zaa (top 12)) (F 3) cdv A outer s H E).nox (zaV (zat U fuel n) fuel ir3) (zag (top 12)):=
 (zae (zbz (zht (zaD (zau (hall 1) rfl) hr zie T.m1 T.f1.kp (T.b1) (zad (zaf 0 rfl zeL zaY zaZ) zao zab) zer zab zaj) (zht (zaD (zau (hall 0) rfl) hr zfd T.m0 T.f0.kp (T.b0) (zad (zd4 hr.units (zaf 0 rfl zeL zaY zaZ) zan (fun _ _=>rfl)) (zad zan (zad (zgh zfe T.c2 ze8) zao zab) zac) zal) zcf zal (zai zac (zai zab zaj))) (zkb (zaD (zau (hall 0) rfl) hr zfd T.m0 T.f0.kp (T.b0) (zad (zd4 hr.units (zaf 0 rfl zeL zaY zaZ) zan (fun _ _=>rfl)) (zad zan (zad (zd4 hr.units (zaf 0 rfl zeL zaY zaZ) zan (fun _ _=>rfl)) zao zal) zac) zal) zcf zal (zai zac (zai zal zaj)))))))
  zap)
theorem zwP(T:Txt K mg F FD TK)(hall: ∀i,FnOk Pg w K mg base CX0 n (F i) (FD i) (zaR i) (spA K (zat U fuel n) i (zeE i)))(cdv:Value)(A:Around)(outer:List PySem.Env)(s:Shared)(H:Hp)(E:XK)
  (hr:Room n (A.deeper (envOfC "is_rising" (zaa (top 13)) s.heap.objs.size (F 4) cdv))):
  ISs (zc8 CX0 Pg w K mg base ["cells"] "is_rising" (zaa (top 13)) (F 4) cdv A outer s H E).nox (zaV (zat U fuel n) fuel ir4) (zag (top 13)):=
 (zae (zbz (za0 (zow rfl) ztd T.z_all (by decide+kernel) (zad (zeY rfl (ze0 (sc:=zaa (top 13)) (N:=["cells"]) rfl rfl (by decide+kernel)) (znr zn7 T.z_range (zad zan (zad (za0 zdu ztc T.z_len PySem.boot_len (zad (zaf 0 rfl zn6 zgK zgL) zao zab) zdE zdD zab zaj) zao zaC) zac) zac zaC) (.inl ⟨rfl,rfl⟩) (fun _ _ _ _=>(zls (zrA hr.units) (zd4 hr.units (zaf 1 rfl (zbo (by decide+kernel)) zgK zgL) (zcc zdt (zaf 0 rfl (zbp (by decide+kernel)) zjR zjS) zan) (fun _ _=>rfl)) (zd4 hr.units (zaf 1 rfl (zbo (by decide+kernel)) zgK zgL) (zaf 0 rfl (zbp (by decide+kernel)) zjR zjS) (fun _ _=>rfl)) (zbY _)))) zao zbN) zoL zoK zbN zaj))
  zap)
theorem zwQ(T:Txt K mg F FD TK)(hall: ∀i,FnOk Pg w K mg base CX0 n (F i) (FD i) (zaR i) (spA K (zat U fuel n) i (zeE i)))(cdv:Value)(A:Around)(outer:List PySem.Env)(s:Shared)(H:Hp)(E:XK)
  (hr:Room n (A.deeper (envOfC "is_floor" (zaa (top 14)) s.heap.objs.size (F 5) cdv))):
  ISs (zc8 CX0 Pg w K mg base ["thing"] "is_floor" (zaa (top 14)) (F 5) cdv A outer s H E).nox (zaV (zat U fuel n) fuel ir5) (zag (top 14)):=
 (zae (ziH (IW.t (znp (zfo (zdv (zeZ (t:=.tuple) zgW T.z_isinstance zn8 T.z_tuple PyProof.Rows.boot_tuple (zaf 0 rfl zeM zaY zaZ) zgJ zgI zab zab (zai zab zaj)) (zgm _ _) zbS)) (zkc (zfo (zpq rfl rfl znm znm zan (za0 zdu ztf T.z_len PySem.boot_len (zad (zaf 0 rfl zeM zaY zaZ) zao zab) zdE zdD zab zaj) (zgh zgV T.c1 zgM)))))) (zae (zbz zrD)
  zap) zap)
  (zae (zbz (zht (za0 (zow rfl) zte T.z_all (by decide+kernel) (zad (zeY rfl (ze0 (sc:=zaa (top 14)) (N:=["thing"]) rfl rfl (by decide+kernel)) (zeb (zaf 0 rfl zeM zaY zaZ)) (.inl ⟨rfl,rfl⟩) (fun _ _ _ _=>(zaD (zau (hall 2) rfl) hr (zgs (by decide+kernel)) T.m2 T.f2.kp (T.b2) (zad (zaf 0 rfl (zbp (by decide+kernel)) zp5 zp6) zao zab) zfV zab zaj))) zao zbN) zoL zoK zbN zaj) (zkb (zaD (zau (hall 4) rfl) hr zif T.m4 T.f4.kp (T.b4) (zad (zaf 0 rfl zeM zaY zaZ) zao zab) zh3 zab zaj))))
  zap))
theorem zwR(T:Txt K mg F FD TK)(hall: ∀i,FnOk Pg w K mg base CX0 n (F i) (FD i) (zaR i) (spA K (zat U fuel n) i (zeE i)))(cdv:Value)(A:Around)(outer:List PySem.Env)(s:Shared)(H:Hp)(E:XK)
  (hr:Room n (A.deeper (envOfC "checked" (zaa (top 15)) s.heap.objs.size (F 6) cdv))):
  ISs (zc8 CX0 Pg w K mg base ["floor"] "checked" (zaa (top 15)) (F 6) cdv A outer s H E).nox (zaV (zat U fuel n) fuel ir6) (zag (top 15)):=
 (zae (ziH (zfo (zdv (zaD (zau (hall 5) rfl) hr zi9 T.m5 T.f5.kp (T.b5) (zad (zaf 0 rfl zjX zbE zbF) zao zab) zi5 zab zaj) (zdd _ _) zbS)) (zae zlw
  zap) zap)
  (zae (zfJ 0 rfl zjX zbE zbF)
  zap))
theorem zwS(T:Txt K mg F FD TK)(hall: ∀i,FnOk Pg w K mg base CX0 n (F i) (FD i) (zaR i) (spA K (zat U fuel n) i (zeE i)))(cdv:Value)(A:Around)(outer:List PySem.Env)(s:Shared)(H:Hp)(E:XK)
  (hr:Room n (A.deeper (envOfC "checked_leap" (zaa (top 16)) s.heap.objs.size (F 7) cdv))):
  ISs (zc8 CX0 Pg w K mg base ["leap"] "checked_leap" (zaa (top 16)) (F 7) cdv A outer s H E).nox (zaV (zat U fuel n) fuel ir7) (zag (top 16)):=
 (zae (ziH (zfo (zdv (zaD (zau (hall 3) rfl) hr zkz T.m3 T.f3.kp (T.b3) (zad (zaf 0 rfl zmH zcz zcA) zao zab) zkx zab zaj) (zdd _ _) zbS)) (zae zlw
  zap) zap)
  (zae (zfJ 0 rfl zmH zcz zcA)
  zap))
theorem zwT(T:Txt K mg F FD TK)(hall: ∀i,FnOk Pg w K mg base CX0 n (F i) (FD i) (zaR i) (spA K (zat U fuel n) i (zeE i)))(cdv:Value)(A:Around)(outer:List PySem.Env)(s:Shared)(H:Hp)(E:XK)
  (hr:Room n (A.deeper (envOfC "checked_cell" (zaa (top 17)) s.heap.objs.size (F 8) cdv))):
  ISs (zc8 CX0 Pg w K mg base ["floor","cell"] "checked_cell" (zaa (top 17)) (F 8) cdv A outer s H E).nox (zaV (zat U fuel n) fuel ir8) (zag (top 17)):=
 (zae (ziH (IW.t (znp (zfo (zdv (zaD (zau (hall 2) rfl) hr zkA T.m2 T.f2.kp (T.b2) (zad (zaf 1 rfl zja zei zej) zao zab) zfV zab zaj) (zdd _ _) zbS)) (zkc (zdc rfl (zhr hr.units) (zaf 1 rfl zja zei zej) (zaf 0 rfl zn9 zbE zbF) (by with_unfolding_all rfl))))) (zae zlw
  zap) zap)
  (zae (zfJ 1 rfl zja zei zej)
  zap))
theorem zwU(T:Txt K mg F FD TK)(hall: ∀i,FnOk Pg w K mg base CX0 n (F i) (FD i) (zaR i) (spA K (zat U fuel n) i (zeE i)))(cdv:Value)(A:Around)(outer:List PySem.Env)(s:Shared)(H:Hp)(E:XK)
  (hr:Room n (A.deeper (envOfC "folded" (zaa (top 19)) s.heap.objs.size (F 9) cdv))):
  ISs (zc8 CX0 Pg w K mg base ["down","right"] "folded" (zaa (top 19)) (F 9) cdv A outer s H E).nox (zaV (zat U fuel n) fuel ir9) (zag (top 19)):=
 (zae (zbz (zbX (zad (za0 (zpn rfl) zth T.z_min PyProof.Rows.boot_min (zad (za0 zfH zjZ T.z_abs (by decide+kernel) (zad (zaf 0 rfl zmI zmw zmx) zao zab) zfX zfW zab zaj) (zad (za0 zfH zjZ T.z_abs (by decide+kernel) (zad (zaf 1 rfl zjY zjT zjU) zao zab) zfX zfW zab zaj) zao zaC) zaC) zs9 zs8 zaC (zai zaC zaj)) (zad (za0 (zpo rfl) ztg T.z_max PyProof.Rows.boot_max (zad (za0 zfH zjZ T.z_abs (by decide+kernel) (zad (zaf 0 rfl zmI zmw zmx) zao zab) zfX zfW zab zaj) (zad (za0 zfH zjZ T.z_abs (by decide+kernel) (zad (zaf 1 rfl zjY zjT zjU) zao zab) zfX zfW zab zaj) zao zaC) zaC) zs7 zs6 zaC (zai zaC zaj)) zao zaC) zaC)))
  zap)
theorem zti(T:Txt K mg F FD TK)(hall: ∀i,FnOk Pg w K mg base CX0 n (F i) (FD i) (zaR i) (spA K (zat U fuel n) i (zeE i)))(cdv:Value)(A:Around)(outer:List PySem.Env)(s:Shared)(H:Hp)(E:XK)
  (hr:Room n (A.deeper (envOfC "are_near" (zaa (top 20)) s.heap.objs.size (F 10) cdv))):
  ISs (zc8 CX0 Pg w K mg base ["leap","one","other"] "are_near" (zaa (top 20)) (F 10) cdv A outer s H E).nox (zaV (zat U fuel n) fuel zsK) (zag (top 20)):=
 (zae (zbz (zls (zlm hr.units) (zaD (zau (hall 9) rfl) hr zkB T.m9 T.f9.kp (T.b9) (zad (zcc zdt (zd4 hr.units (zaf 2 rfl zig zbG zbH) zan (fun _ _=>rfl)) (zd4 hr.units (zaf 1 rfl zmJ zfY zfZ) zan (fun _ _=>rfl))) (zad (zcc zdt (zd4 hr.units (zaf 2 rfl zig zbG zbH) zan (fun _ _=>rfl)) (zd4 hr.units (zaf 1 rfl zmJ zfY zfZ) zan (fun _ _=>rfl))) zao zaw) zaw) zmy zaw (zai zaw zaj)) (zaf 0 rfl zoa zcz zcA) (zbY _)))
  zap)
theorem ztj(T:Txt K mg F FD TK)(hall: ∀i,FnOk Pg w K mg base CX0 n (F i) (FD i) (zaR i) (spA K (zat U fuel n) i (zeE i)))(cdv:Value)(A:Around)(outer:List PySem.Env)(s:Shared)(H:Hp)(E:XK)
  (hr:Room n (A.deeper (envOfC "cells_near" (zaa (top 21)) s.heap.objs.size (F 11) cdv))):
  ISs (zc8 CX0 Pg w K mg base ["floor","leap","cell"] "cells_near" (zaa (top 21)) (F 11) cdv A outer s H E).nox (zaV (zat U fuel n) fuel zsL) (zag (top 21)):=
 (zae (zbz (zeY rfl (ze0 (sc:=zaa (top 21)) (N:=["floor","leap","cell"]) rfl rfl (by decide+kernel)) (zeb (zaf 0 rfl zmK zbE zbF)) (.inr ⟨_,rfl,fun _ _ _ _=>(zdv (zaD (zau (hall 10) rfl) hr (zgs (by decide+kernel)) T.m10 T.f10.kp (T.b10) (zad (zaf 2 rfl (zbo (by decide+kernel)) zcz zcA) (zad (zaf 3 rfl (zbo (by decide+kernel)) zei zej) (zad (zaf 0 rfl (zbp (by decide+kernel)) zbG zbH) zao zab) zab) zab) zi6 zab (zai zab (zai zab zaj))) (zdd _ _) zbS)⟩) (fun _ _ _ _=>(zaf 0 rfl (zbp (by decide+kernel)) zbG zbH))))
  zap)
theorem ztk(T:Txt K mg F FD TK)(hall: ∀i,FnOk Pg w K mg base CX0 n (F i) (FD i) (zaR i) (spA K (zat U fuel n) i (zeE i)))(cdv:Value)(A:Around)(outer:List PySem.Env)(s:Shared)(H:Hp)(E:XK)
  (hr:Room n (A.deeper (envOfC "_law_cell" (zaa (top 27)) s.heap.objs.size (F 13) cdv))):
  ISs (zc8 CX0 Pg w K mg base ["_law_script","_law_k"] "_law_cell" (zaa (top 27)) (F 13) cdv A outer s H E).nox (zaV (zat U fuel n) fuel zsM) (zag (top 27)):=
 (zae (ziH (zdc rfl (zrA hr.units) (zaf 1 rfl zf4 zcC zcD) (za0 zdu zp9 T.z_len PySem.boot_len (zad (zaf 0 rfl zcL zaI zaJ) zao zab) zdE zdD zab zaj) (zbY _)) (zae (zbz (zd4 hr.units (zaf 0 rfl zcL zaI zaJ) (zaf 1 rfl zf4 zcC zcD) (fun _ _=>rfl)))
  zap) zap)
  (zae (zbz zan)
  zap))
theorem ztl(T:Txt K mg F FD TK)(hall: ∀i,FnOk Pg w K mg base CX0 n (F i) (FD i) (zaR i) (spA K (zat U fuel n) i (zeE i)))(cdv:Value)(A:Around)(outer:List PySem.Env)(s:Shared)(H:Hp)(E:XK)
  (hr:Room n (A.deeper (envOfC "_law_mix" (zaa (top 28)) s.heap.objs.size (F 14) cdv))):
  ISs (zc8 CX0 Pg w K mg base ["_law_cell_here","_law_prime","_law_many"] "_law_mix" (zaa (top 28)) (F 14) cdv A outer s H E).nox (zaV (zat U fuel n) fuel zsN) (zag (top 28)):=
 (zae (zbz (zcc zfG (zcc zfG (zcc zfF (zaf 0 rfl zdM zaA zaB) zan) (zaf 1 rfl zfr zgO zgP)) (zaf 2 rfl zgX zcE zcF)))
  zap)
theorem ztm(T:Txt K mg F FD TK)(hall: ∀i,FnOk Pg w K mg base CX0 n (F i) (FD i) (zaR i) (spA K (zat U fuel n) i (zeE i)))(cdv:Value)(A:Around)(outer:List PySem.Env)(s:Shared)(H:Hp)(E:XK)
  (hr:Room n (A.deeper (envOfC "_law_floor" (zaa (top 30)) s.heap.objs.size (F 15) cdv))):
  ISs (zc8 CX0 Pg w K mg base ["_law_script","_law_at","_law_most","_law_cell_here","_law_rows","_law_wide","_law_down","_law_right","_law_way","_law_found","_law_r","_law_c","_law_seed"] "_law_floor" (zaa (top 30)) (F 15) cdv A outer s H E).nox (zaV (zat U fuel n) fuel zsO) (zag (top 30)):=
 (zae (zbh 3 zkK.nd rfl zdQ (zaD (zau (hall 13) rfl) hr zbQ T.m13 T.f13.kp (T.b13) (zad (zaf 0 rfl zbr zaI zaJ) (zad (zaf 1 rfl zcg zcV zcW) zao zab) zab) zbb zab (zai zab zaj)))
  (zae (zbh 4 zkK.nd rfl zg3 (zcc zbw zan (zaD (zau (hall 14) rfl) hr zbm T.m14 T.f14.kp (T.b14) (zad (zaf 3 rfl zbs zaA zaB) (zad zan (zad zan zao zac) zac) zab) zbD zab (zai zac (zai zac zaj)))))
  (zae (zbh 5 zkK.nd rfl zg2 (zcc zbw zan (zaD (zau (hall 14) rfl) hr zbm T.m14 T.f14.kp (T.b14) (zad (zaf 3 rfl zbs zaA zaB) (zad zan (zad zan zao zac) zac) zab) zbD zab (zai zac (zai zac zaj)))))
  (zae (zbh 6 zkK.nd rfl zg1 (zaD (zau (hall 14) rfl) hr zbm T.m14 T.f14.kp (T.b14) (zad (zaD (zau (hall 13) rfl) hr zbQ T.m13 T.f13.kp (T.b13) (zad (zaf 0 rfl zbr zaI zaJ) (zad (zcc zbw (zaf 1 rfl zcg zcV zcW) zan) zao zaw) zab) zbb zab (zai zaw zaj)) (zad zan (zad (zcc zdt zan (zaf 4 rfl zdO zeu zev)) zao zaw) zac) zaC) zbD zaC (zai zac (zai zaw zaj))))
  (zae (zbh 7 zkK.nd rfl zfs (zaD (zau (hall 14) rfl) hr zbm T.m14 T.f14.kp (T.b14) (zad (zaD (zau (hall 13) rfl) hr zbQ T.m13 T.f13.kp (T.b13) (zad (zaf 0 rfl zbr zaI zaJ) (zad (zcc zbw (zaf 1 rfl zcg zcV zcW) zan) zao zaw) zab) zbb zab (zai zaw zaj)) (zad zan (zad (zcc zdt zan (zaf 5 rfl zdP zew zex)) zao zaw) zac) zaC) zbD zaC (zai zac (zai zaw zaj))))
  (zae (zbh 8 zkK.nd rfl zih (zaD (zau (hall 14) rfl) hr zbm T.m14 T.f14.kp (T.b14) (zad (zcc zbw (zaf 3 rfl zbs zaA zaB) zan) (zad zan (zad zan zao zac) zac) zaw) zbD zaw (zai zac (zai zac zaj))))
  (zae (zbh 9 zkK.nd rfl zc4 (zea zao))
  (zae (zpv 10 PassesOwn.never rfl zkK.nd rfl zkD (zgq zii T.z_range (zad (zaf 4 rfl zdO zeu zev) zao zab) zab) (zae (zpv 11 PassesOwn.never rfl zkK.nd rfl zkC (zgq zii T.z_range (zad (zaf 5 rfl zdP zew zex) zao zab) zab) (zae (zbh 12 zkK.nd rfl zg0 (zcc zbw (zcc zbw (zaD (zau (hall 13) rfl) hr zbQ T.m13 T.f13.kp (T.b13) (zad (zaf 0 rfl zbr zaI zaJ) (zad (zcc zbw (zcc zbw (zaf 1 rfl zcg zcV zcW) zan) (zcc zfG (zcc zbw (zaf 10 rfl zcY zdJ zdK) (zcc zfF zan (zaf 11 rfl zcX zdH zdI))) zan)) zao zaw) zab) zbb zab (zai zaw zaj)) (zcc zfF (zcc zfF zan (zaf 10 rfl zcY zdJ zdK)) (zaf 10 rfl zcY zdJ zdK))) (zcc zfF (zcc zfF zan (zaf 11 rfl zcX zdH zdI)) (zaf 11 rfl zcX zdH zdI))))
  (zae (ziH (IW.t (znp (zdc rfl (zlm hr.units) (zaf 8 rfl zeB zfa zfb) zan (zbY _)) (zkc (zdc rfl zrB (zaD (zau (hall 14) rfl) hr zbm T.m14 T.f14.kp (T.b14) (zad (zaf 12 rfl zgZ zh6 zh7) (zad zan (zad (zd4 hr.units (zea (zad zan (zad zan (zad zan zao zac) zac) zac)) (zcc zdt (zaf 8 rfl zeB zfa zfb) zan) (fun _ _=>rfl)) zao zal) zac) zab) zbD zab (zai zac (zai zal zaj))) zan (zbY _))))) (zae (zpu 9 rfl zb3 (zbX (zad (zcc zbw (zaf 6 rfl zdN zes zet) (zaf 10 rfl zcY zdJ zdK)) (zad (zcc zbw (zaf 7 rfl zc3 zdF zdG) (zaf 11 rfl zcX zdH zdI)) zao zaw) zaw)) zax zaT zaU)
  zap) zap)
  zap)))
  zap))
  (zae (ziH (zfo (zdv (zaf 9 rfl zb3 zaT zaU) (zor _) zlr)) (zae (zbh 9 zkK.nd rfl zc4 (zea (zad (zbX (zad (zaf 6 rfl zdN zes zet) (zad (zaf 7 rfl zc3 zdF zdG) zao zab) zab)) zao zax)))
  zap) zap)
  (zae (zbz (zjq znn zmL T.z_tuple PyProof.Rows.boot_tuple (zad (zpz (zaf 9 rfl zb3 zaT zaU) (zaf 2 rfl zgY zh4 zh5)) zao zal) zgJ zgI zal zaj))
  zap))))))))))
theorem ztn(T:Txt K mg F FD TK)(hall: ∀i,FnOk Pg w K mg base CX0 n (F i) (FD i) (zaR i) (spA K (zat U fuel n) i (zeE i)))(cdv:Value)(A:Around)(outer:List PySem.Env)(s:Shared)(H:Hp)(E:XK)
  (hr:Room n (A.deeper (envOfC "_law_leap" (zaa (top 31)) s.heap.objs.size (F 16) cdv))):
  ISs (zc8 CX0 Pg w K mg base ["_law_cell_here","_law_some"] "_law_leap" (zaa (top 31)) (F 16) cdv A outer s H E).nox (zaV (zat U fuel n) fuel zsP) (zag (top 31)):=
 (zae (zbh 1 zxw.nd rfl zg5 (zea (zad (zbX (zad zan (zad zan zao zac) zac)) (zad (zbX (zad zan (zad zan zao zac) zac)) (zad (zbX (zad zan (zad zan zao zac) zac)) (zad (zbX (zad zan (zad zan zao zac) zac)) (zad (zbX (zad zan (zad zan zao zac) zac)) (zad (zbX (zad zan (zad zan zao zac) zac)) (zad (zbX (zad zan (zad zan zao zac) zac)) (zad (zbX (zad zan (zad zan zao zac) zac)) (zad (zbX (zad zan (zad zan zao zac) zac)) (zad (zbX (zad zan (zad zan zao zac) zac)) (zad (zbX (zad zan (zad zan zao zac) zac)) (zad (zbX (zad zan (zad zan zao zac) zac)) (zad (zbX (zad zan (zad zan zao zac) zac)) zao zax) zax) zax) zax) zax) zax) zax) zax) zax) zax) zax) zax) zax)))
  (zae (zbz (zd4 hr.units (zcc zbw (zaf 1 rfl zg4 zh8 zh9) (zea (zad (zbX (zad zan (zad zan zao zac) zac)) (zad (zbX (zad zan (zad zan zao zac) zac)) (zad (zbX (zad zan (zad zan zao zac) zac)) (zad (zbX (zad zan (zad zan zao zac) zac)) (zad (zbX (zad zan (zad zan zao zac) zac)) (zad (zbX (zad zan (zad zan zao zac) zac)) zao zax) zax) zax) zax) zax) zax))) (zcc zfG (zaf 0 rfl zdR zaA zaB) zan) (fun _ _=>rfl)))
  zap))
theorem zto(T:Txt K mg F FD TK)(hall: ∀i,FnOk Pg w K mg base CX0 n (F i) (FD i) (zaR i) (spA K (zat U fuel n) i (zeE i)))(cdv:Value)(A:Around)(outer:List PySem.Env)(s:Shared)(H:Hp)(E:XK)
  (hr:Room n (A.deeper (envOfC "_law_is_near" (zaa (top 32)) s.heap.objs.size (F 17) cdv))):
  ISs (zc8 CX0 Pg w K mg base ["_law_leap_here","_law_one","_law_other"] "_law_is_near" (zaa (top 32)) (F 17) cdv A outer s H E).nox (zaV (zat U fuel n) fuel zsQ) (zag (top 32)):=
 (zae (zbz (zls (zlm hr.units) (za0 zlK zkE T.z_sorted PyProof.Rows.boot_sorted (zad (zea (zad (za0 zfH zmM T.z_abs (by decide+kernel) (zad (zcc zdt (zd4 hr.units (zaf 1 rfl zeC za4 za5) zan (fun _ _=>rfl)) (zd4 hr.units (zaf 2 rfl zc5 zaK zaL) zan (fun _ _=>rfl))) zao zaw) zfX zfW zaw zaj) (zad (za0 zfH zmM T.z_abs (by decide+kernel) (zad (zcc zdt (zd4 hr.units (zaf 1 rfl zeC za4 za5) zan (fun _ _=>rfl)) (zd4 hr.units (zaf 2 rfl zc5 zaK zaL) zan (fun _ _=>rfl))) zao zaw) zfX zfW zaw zaj) zao zaC) zaC)) zao zhs) zmE zmD zhs zaj) (zjq zlq zob T.z_list PyProof.Rows.boot_list (zad (zaf 0 rfl zdS zaG zaH) zao zab) zmG zmF zab zaj) (zbY _)))
  zap)
theorem ztp(T:Txt K mg F FD TK)(hall: ∀i,FnOk Pg w K mg base CX0 n (F i) (FD i) (zaR i) (spA K (zat U fuel n) i (zeE i)))(cdv:Value)(A:Around)(outer:List PySem.Env)(s:Shared)(H:Hp)(E:XK)
  (hr:Room n (A.deeper (envOfC "_law_near" (zaa (top 33)) s.heap.objs.size (F 18) cdv))):
  ISs (zc8 CX0 Pg w K mg base ["_law_floor_here","_law_leap_here","_law_cell_here"] "_law_near" (zaa (top 33)) (F 18) cdv A outer s H E).nox (zaV (zat U fuel n) fuel zsR) (zag (top 33)):=
 (zae (zbz (zeY rfl (ze0 (sc:=zaa (top 33)) (N:=["_law_floor_here","_law_leap_here","_law_cell_here"]) rfl rfl (by decide+kernel)) (zeb (zaf 0 rfl zdk zaq zar)) (.inr ⟨_,rfl,fun _ _ _ _=>(zdv (zaD (zau (hall 17) rfl) hr (zgs (by decide+kernel)) T.m17 T.f17.kp (T.b17) (zad (zaf 2 rfl (zbo (by decide+kernel)) zaG zaH) (zad (zaf 3 rfl (zbo (by decide+kernel)) zaA zaB) (zad (zaf 0 rfl (zbp (by decide+kernel)) zaK zaL) zao zab) zab) zab) zcG zab (zai zab (zai zab zaj))) (zdd _ _) zbS)⟩) (fun _ _ _ _=>(zaf 0 rfl (zbp (by decide+kernel)) zaK zaL))))
  zap)
theorem ztq(T:Txt K mg F FD TK)(hall: ∀i,FnOk Pg w K mg base CX0 n (F i) (FD i) (zaR i) (spA K (zat U fuel n) i (zeE i)))(cdv:Value)(A:Around)(outer:List PySem.Env)(s:Shared)(H:Hp)(E:XK)
  (hr:Room n (A.deeper (envOfC "leads_to" (zaa (top 22)) s.heap.objs.size (F 20) cdv))):
  ISs (zc8 CX0 Pg w K mg base ["floor","leap","goal","leads","edge","further","cell","other"] "leads_to" (zaa (top 22)) (F 20) cdv A outer s H E).nox (zaV (zat U fuel n) fuel zsS) (zag (top 22)):=
 (zae (zbh 3 zqa.nd rfl zmP (zrL hr.units (zaf 2 rfl zj2 zmB zmC) zno))
  (zae (zbh 4 zqa.nd rfl zj3 (zea (zad (zaf 2 rfl zj2 zmB zmC) zao zab)))
  (zae (ziJ PassesOwn.never (zdc rfl zrB (za0 zdu zqb T.z_len PySem.boot_len (zad (zaf 4 rfl zj0 zmz zmA) zao zab) zdE zdD zab zaj) zan (zbY _)) (zae (zbh 5 zqa.nd rfl zjb (zea zao))
  (zae (zou 6 4 PassesOwn.never rfl zqa.nd rfl zod rfl zj0 (zae (zpv 7 PassesOwn.never rfl zqa.nd rfl zmO (zeb (zaD (zau (hall 11) rfl) hr zft T.m11 T.f11.kp (T.b11) (zad (zaf 0 rfl zmN zbE zbF) (zad (zaf 1 rfl zoc zcz zcA) (zad (zaf 6 rfl zj1 zei zej) zao zab) zab) zab) zgN zab (zai zab (zai zab zaj)))) (zae (ziH (zdc rfl (zhr hr.units) (zaf 7 rfl zfh zbG zbH) (zaf 3 rfl zff zcT zcU) (by with_unfolding_all rfl)) (zae (zrO 3 hr.units rfl zff (zaf 7 rfl zfh zbG zbH) (zaf 6 rfl zj1 zei zej) zcT zcU)
  (zae (zpu 5 rfl zfg (zaf 7 rfl zfh zbG zbH) zab zf0 zf1)
  zap)) zap)
  zap))
  zap) (hd:=zmz) (hcd:=zmA))
  (zae (zvS 4 5 zqa.nd rfl zj3 rfl zfg (hd:=zf0) (hcd:=zf1))
  zap))))
  (zae (zfJ 3 rfl zff zcT zcU)
  zap))))
theorem ztr(T:Txt K mg F FD TK)(hall: ∀i,FnOk Pg w K mg base CX0 n (F i) (FD i) (zaR i) (spA K (zat U fuel n) i (zeE i)))(cdv:Value)(A:Around)(outer:List PySem.Env)(s:Shared)(H:Hp)(E:XK)
  (hr:Room n (A.deeper (envOfC "a_way" (zaa (top 24)) s.heap.objs.size (F 26) cdv))):
  ISs (zc8 CX0 Pg w K mg base ["floor","leap","one","other","leads","way"] "a_way" (zaa (top 24)) (F 26) cdv A outer s H E).nox (zaV (zat U fuel n) fuel zqy) (zag (top 24)):=
 (zae (zjt (zaD (zau (hall 6) rfl) hr zjd T.m6 T.f6.kp (T.b6) (zad (zaf 0 rfl zdT zbE zbF) zao zab) zky zab zaj))
  (zae (zjt (zaD (zau (hall 7) rfl) hr zeF T.m7 T.f7.kp (T.b7) (zad (zaf 1 rfl zj4 zcz zcA) zao zab) ze9 zab zaj))
  (zae (zjt (zaD (zau (hall 8) rfl) hr zcn T.m8 T.f8.kp (T.b8) (zad (zaf 0 rfl zdT zbE zbF) (zad (zaf 2 rfl zjc zfY zfZ) zao zab) zab) zcB zab (zai zab zaj)))
  (zae (zjt (zaD (zau (hall 8) rfl) hr zcn T.m8 T.f8.kp (T.b8) (zad (zaf 0 rfl zdT zbE zbF) (zad (zaf 3 rfl zij zbG zbH) zao zab) zab) zcB zab (zai zab zaj)))
  (zae (zbh 4 zwK.nd rfl zmQ (zaD (zau (hall 20) rfl) hr zik T.m20 T.f20.kp (T.b20) (zad (zaf 0 rfl zdT zbE zbF) (zad (zaf 1 rfl zj4 zcz zcA) (zad (zaf 3 rfl zij zbG zbH) zao zab) zab) zab) zi7 zab (zai zab (zai zab zaj))))
  (zae (ziH (zdc rfl (zhr hr.units) (zaf 2 rfl zjc zfY zfZ) (zaf 4 rfl zfi zcT zcU) (by with_unfolding_all rfl)) (zae (zbz zno)
  zap) zap)
  (zae (zbh 5 zwK.nd rfl zqc (zea (zad (zaf 2 rfl zjc zfY zfZ) zao zab)))
  (zae (ziJ PassesOwn.never (zrI (zd4 hr.units (zaf 4 rfl zfi zcT zcU) (zd4 hr.units (zaf 5 rfl zg6 zf2 zf3) (zvP zll zan) (fun _ _=>rfl)) (fun _ _=>rfl))) (zae (zpu 5 rfl zg6 (zd4 hr.units (zaf 4 rfl zfi zcT zcU) (zd4 hr.units (zaf 5 rfl zg6 zf2 zf3) (zvP zll zan) (fun _ _=>rfl)) (fun _ _=>rfl)) zal zf2 zf3)
  zap))
  (zae (zfJ 5 rfl zg6 zf2 zf3)
  zap)))))))))
theorem zts(T:Txt K mg F FD TK)(hall: ∀i,FnOk Pg w K mg base CX0 n (F i) (FD i) (zaR i) (spA K (zat U fuel n) i (zeE i)))(cdv:Value)(A:Around)(outer:List PySem.Env)(s:Shared)(H:Hp)(E:XK)
  (hr:Room n (A.deeper (envOfC "fewest" (zaa (top 25)) s.heap.objs.size (F 27) cdv))):
  ISs (zc8 CX0 Pg w K mg base ["floor","leap","one","other","way"] "fewest" (zaa (top 25)) (F 27) cdv A outer s H E).nox (zaV (zat U fuel n) fuel zqz) (zag (top 25)):=
 (zae (zbh 4 zxx.nd rfl zqe (zaD (zau (hall 26) rfl) hr zmU T.m26 T.f26.kp (T.b26) (zad (zaf 0 rfl zmT zbE zbF) (zad (zaf 1 rfl zoe zcz zcA) (zad (zaf 2 rfl zqd zfY zfZ) (zad (zaf 3 rfl zmS zbG zbH) zao zab) zab) zab) zab) zjV zab (zai zab (zai zab (zai zab zaj)))))
  (zae (zbz (zvR (zrH (zaf 4 rfl zmR zf2 zf3)) zno (zcc zdt (za0 zdu zqf T.z_len PySem.boot_len (zad (zaf 4 rfl zmR zf2 zf3) zao zab) zdE zdD zab zaj) zan)))
  zap))
theorem ztt(T:Txt K mg F FD TK)(hall: ∀i,FnOk Pg w K mg base CX0 n (F i) (FD i) (zaR i) (spA K (zat U fuel n) i (zeE i)))(cdv:Value)(A:Around)(outer:List PySem.Env)(s:Shared)(H:Hp)(E:XK)
  (hr:Room n (A.deeper (envOfC "_law_whole" (zaa (top 29)) s.heap.objs.size (F 34) cdv))):
  ISs (zc8 CX0 Pg w K mg base ["_law_found"] "_law_whole" (zaa (top 29)) (F 34) cdv A outer s H E).nox (zaV (zat U fuel n) fuel zsT) (zag (top 29)):=
 (zae (zbz (zht (zeZ (t:=.int) zc7 T.z_isinstance zqg T.z_int PyProof.Rows.boot_int (zaf 0 rfl zc6 zaT zaU) zoJ zoI zab zab (zai zab zaj)) (zkb (zvQ (zeZ (t:=.bool) zc7 T.z_isinstance zof T.z_bool PyProof.Rows.boot_bool (zaf 0 rfl zc6 zaT zaU) zmv zmu zab zab (zai zab zaj))))))
  zap)
theorem ztu(T:Txt K mg F FD TK)(hall: ∀i,FnOk Pg w K mg base CX0 n (F i) (FD i) (zaR i) (spA K (zat U fuel n) i (zeE i)))(cdv:Value)(A:Around)(outer:List PySem.Env)(s:Shared)(H:Hp)(E:XK)
  (hr:Room n (A.deeper (envOfC "_law_few" (zaa (top 34)) s.heap.objs.size (F 35) cdv))):
  ISs (zc8 CX0 Pg w K mg base ["_law_floor_here","_law_leap_here","_law_one","_law_other","_law_seen","_law_here","_law_many","_law_more","_law_cell_here"] "_law_few" (zaa (top 34)) (F 35) cdv A outer s H E).nox (zaV (zat U fuel n) fuel zqA) (zag (top 34)):=
 (zae (zbh 4 zmZ.nd rfl zdZ (zea (zad (zaf 2 rfl zeD za4 za5) zao zab)))
  (zae (zbh 5 zmZ.nd rfl zdY (zea (zad (zaf 2 rfl zeD za4 za5) zao zab)))
  (zae (zbh 6 zmZ.nd rfl zdX zan)
  (zae (ziJ PassesOwn.never (zdv (zaf 5 rfl zch zcH zcI) (zor _) zlr) (zae (ziH (zdc rfl (zvO hr.units) (zaf 3 rfl zfu zaK zaL) (zaf 5 rfl zch zcH zcI) (by with_unfolding_all rfl)) (zae (zfJ 6 rfl zdU zcE zcF)
  zap) zap)
  (zae (zbh 7 zmZ.nd rfl zd0 (zea zao))
  (zae (zou 8 5 PassesOwn.never rfl zmZ.nd rfl zd1 rfl zch (zae (zbh 7 zmZ.nd rfl zd0 (zcc zbw (zaf 7 rfl zci zcJ zcK) (zeY rfl (ze0 (sc:=zaa (top 34)) (N:=["_law_floor_here","_law_leap_here","_law_one","_law_other","_law_seen","_law_here","_law_many","_law_more","_law_cell_here"]) rfl rfl (by decide+kernel)) (zeb (zaD (zau (hall 18) rfl) hr zg8 T.m18 T.f18.kp (T.b18) (zad (zaf 0 rfl zdl zaq zar) (zad (zaf 1 rfl zdW zaG zaH) (zad (zaf 8 rfl zdV zaA zaB) zao zab) zab) zab) zia zab (zai zab (zai zab zaj)))) (.inr ⟨_,rfl,fun _ _ _ _=>(zdc rfl (zhr hr.units) (zaf 0 rfl (zbp (by decide+kernel)) zcl zcm) (zaf 5 rfl (zbo (by decide+kernel)) zey zez) (by with_unfolding_all rfl))⟩) (fun _ _ _ _=>(zaf 0 rfl (zbp (by decide+kernel)) zcl zcm)))))
  (zae (zbh 4 zmZ.nd rfl zdZ (zcc zbw (zaf 4 rfl zg7 zey zez) (zaf 7 rfl zci zcJ zcK)))
  zap)) (hd:=zcH) (hcd:=zcI))
  (zae (zbh 5 zmZ.nd rfl zdY (zr1 rfl (hu8 hr) zkF T.z_sorted zqh T.z_set (zaf 7 rfl zci zcJ zcK) zab zaC))
  (zae (zbh 6 zmZ.nd rfl zdX (zcc zbw (zaf 6 rfl zdU zcE zcF) zan))
  zap))))))
  (zae (zbz zno)
  zap)))))
theorem ztv(T:Txt K mg F FD TK)(hall: ∀i,FnOk Pg w K mg base CX0 n (F i) (FD i) (zaR i) (spA K (zat U fuel n) i (zeE i)))(cdv:Value)(A:Around)(outer:List PySem.Env)(s:Shared)(H:Hp)(E:XK)
  (hr:Room n (A.deeper (envOfC "law" (zaa (top 35)) s.heap.objs.size (F 36) cdv))):
  ISs (zc8 CX0 Pg w K mg base ["_law_script","_law_floor_here","_law_leap_here","_law_one","_law_other","_law_due","_law_found","_law_told"] "law" (zaa (top 35)) (F 36) cdv A outer s H E).nox (zaV (zat U fuel n) fuel zqB) (zag (top 35)):=
 (zae (zbh 1 zoM.nd rfl zdm (zaD (zau (hall 15) rfl) hr zfz T.m15 T.f15.kp (T.b15) (zad (zaf 0 rfl zbt zaI zaJ) (zad zan (zad zan zao zac) zac) zab) zgR zab (zai zac (zai zac zaj))))
  (zae (zbh 2 zoM.nd rfl zd2 (zaD (zau (hall 16) rfl) hr zha T.m16 T.f16.kp (T.b16) (zad (zaD (zau (hall 13) rfl) hr zcj T.m13 T.f13.kp (T.b13) (zad (zaf 0 rfl zbt zaI zaJ) (zad zan zao zac) zab) zbb zab (zai zac zaj)) zao zaC) zic zaC zaj))
  (zae (zbh 3 zoM.nd rfl zim (zd4 hr.units (zaf 1 rfl zaz zaq zar) (zcc zfG (zaD (zau (hall 13) rfl) hr zcj T.m13 T.f13.kp (T.b13) (zad (zaf 0 rfl zbt zaI zaJ) (zad zan zao zac) zab) zbb zab (zai zac zaj)) (za0 zdu zje T.z_len PySem.boot_len (zad (zaf 1 rfl zaz zaq zar) zao zab) zdE zdD zab zaj)) (fun _ _=>rfl)))
  (zae (zbh 4 zoM.nd rfl zfw (zd4 hr.units (zaf 1 rfl zaz zaq zar) (zcc zfG (zaD (zau (hall 13) rfl) hr zcj T.m13 T.f13.kp (T.b13) (zad (zaf 0 rfl zbt zaI zaJ) (zad zan zao zac) zab) zbb zab (zai zac zaj)) (za0 zdu zje T.z_len PySem.boot_len (zad (zaf 1 rfl zaz zaq zar) zao zab) zdE zdD zab zaj)) (fun _ _=>rfl)))
  (zae (zbh 5 zoM.nd rfl zil (zaD (zau (hall 35) rfl) hr zin T.m35 T.f35.kp (T.b35) (zad (zaf 1 rfl zaz zaq zar) (zad (zaf 2 rfl za9 zaG zaH) (zad (zaf 3 rfl zbL za4 za5) (zad (zaf 4 rfl zbg zaK zaL) zao zab) zab) zab) zab) zi8 zab (zai zab (zai zab (zai zab zaj)))))
  (zae (zbh 6 zoM.nd rfl zfv (zaD (zau (hall 27) rfl) hr zf5 T.m27 T.f27.kp (T.b27) (zad (zaf 1 rfl zaz zaq zar) (zad (zaf 2 rfl za9 zaG zaH) (zad (zaf 3 rfl zbL za4 za5) (zad (zaf 4 rfl zbg zaK zaL) zao zab) zab) zab) zab) zib zab (zai zab (zai zab (zai zab zaj)))))
  (zae (zbh 7 zoM.nd rfl zg9 (zaD (zau (hall 26) rfl) hr zmW T.m26 T.f26.kp (T.b26) (zad (zaf 1 rfl zaz zaq zar) (zad (zaf 2 rfl za9 zaG zaH) (zad (zaf 3 rfl zbL za4 za5) (zad (zaf 4 rfl zbg zaK zaL) zao zab) zab) zab) zab) zjV zab (zai zab (zai zab (zai zab zaj)))))
  (zae (ziH (zdc rfl (zln hr.units) (zaD (zau (hall 27) rfl) hr zf5 T.m27 T.f27.kp (T.b27) (zad (zaf 1 rfl zaz zaq zar) (zad (zaf 2 rfl za9 zaG zaH) (zad (zaf 4 rfl zbg zaK zaL) (zad (zaf 3 rfl zbL za4 za5) zao zab) zab) zab) zab) zib zab (zai zab (zai zab (zai zab zaj)))) (zaf 5 rfl zbK zbV zbW) (zbY _)) (zae (zbz zrD)
  zap) zap)
  (zae (ziH (zrH (zaf 5 rfl zbK zbV zbW)) (zae (zbz (zht (zrG (zaf 6 rfl zb4 zaT zaU)) (zkb (zrG (zaf 7 rfl zbd za2 za3)))))
  zap) zap)
  (zae (ziH (IW.t (znp (zfo (zdv (zaD (zau (hall 34) rfl) hr zfy T.m34 T.f34.kp (T.b34) (zad (zaf 6 rfl zb4 zaT zaU) zao zab) zgQ zab zaj) (zdd _ _) zbS)) (znp (zdc rfl (zln hr.units) (zaf 6 rfl zb4 zaT zaU) (zaf 5 rfl zbK zbV zbW) (zbY _)) (znp (zfo (zdv (zeZ (t:=.list) zfx T.z_isinstance zog T.z_list PyProof.Rows.boot_list (zaf 7 rfl zbd za2 za3) zmG zmF zab zab (zai zab zaj)) (zgm _ _) zbS)) (zkc (zdc rfl (zln hr.units) (za0 zdu zje T.z_len PySem.boot_len (zad (zaf 7 rfl zbd za2 za3) zao zab) zdE zdD zab zaj) (zcc zbw (zaf 5 rfl zbK zbV zbW) zan) (zbY _))))))) (zae (zbz zrD)
  zap) zap)
  (zae (ziH (IW.t (znp (zdc rfl (zln hr.units) (zd4 hr.units (zaf 7 rfl zbd za2 za3) zan (fun _ _=>rfl)) (zaf 3 rfl zbL za4 za5) (zbY _)) (znp (zdc rfl (zln hr.units) (zd4 hr.units (zaf 7 rfl zbd za2 za3) (zvP zll zan) (fun _ _=>rfl)) (zaf 4 rfl zbg zaK zaL) (zbY _)) (zkc (zdv (zeY rfl (ze0 (sc:=zaa (top 35)) (N:=["_law_script","_law_floor_here","_law_leap_here","_law_one","_law_other","_law_due","_law_found","_law_told"]) rfl rfl (by decide+kernel)) (zeb (zaf 7 rfl zbd za2 za3)) (.inr ⟨_,rfl,fun _ _ _ _=>(zdc rfl (zhr hr.units) (zaf 0 rfl (zbp (by decide+kernel)) zaA zaB) (zaf 2 rfl (zbo (by decide+kernel)) zaq zar) (by with_unfolding_all rfl))⟩) (fun _ _ _ _=>(zaf 0 rfl (zbp (by decide+kernel)) zaA zaB))) (zpB _ _ _ _) ziN))))) (zae (zbz zrD)
  zap) zap)
  (zae (zbz (zls (zlm hr.units) (zeY rfl (ze0 (sc:=zaa (top 35)) (N:=["_law_script","_law_floor_here","_law_leap_here","_law_one","_law_other","_law_due","_law_found","_law_told"]) rfl rfl (by decide+kernel)) (zgq zmV T.z_range (zad (zaf 5 rfl zbK zbV zbW) zao zab) zab) (.inr ⟨_,rfl,fun _ _ _ _=>(zfo (zdv (zaD (zau (hall 17) rfl) hr (zgs (by decide+kernel)) T.m17 T.f17.kp (T.b17) (zad (zaf 3 rfl (zbo (by decide+kernel)) zaG zaH) (zad (zd4 hr.units (zaf 8 rfl (zbo (by decide+kernel)) za2 za3) (zaf 0 rfl (zbp (by decide+kernel)) zcC zcD) (fun _ _=>rfl)) (zad (zd4 hr.units (zaf 8 rfl (zbo (by decide+kernel)) za2 za3) (zcc zbw (zaf 0 rfl (zbp (by decide+kernel)) zcC zcD) zan) (fun _ _=>rfl)) zao zal) zal) zab) zcG zab (zai zal (zai zal zaj))) (zdd _ _) zbS))⟩) (fun _ _ _ _=>(zaf 0 rfl (zbp (by decide+kernel)) zcC zcD))) (zea zao) (zbY _)))
  zap))))))))))))
theorem za6(T:Txt K mg F FD TK): ∀n i,FnOk Pg w K mg base CX0 n (F i) (FD i) (zaR i) (spA K (zat U fuel n) i (zeE i))
 |0,_=>zpA
 |n+1,0=>zbO (F0:=⟨3,3,ir0,[],none⟩) T.f0 sc0 rfl rfl rfl rfl (by decide) rfl (zwL T (za6 T n))
 |n+1,1=>zbO (F0:=⟨1,1,ir1,[],none⟩) T.f1 sc1 rfl rfl rfl rfl (by decide) rfl (zwM T (za6 T n))
 |n+1,2=>zbO (F0:=⟨1,1,ir2,[],none⟩) T.f2 sc2 rfl rfl rfl rfl (by decide) rfl (zwN T (za6 T n))
 |n+1,3=>zbO (F0:=⟨1,1,ir3,[],none⟩) T.f3 sc3 rfl rfl rfl rfl (by decide) rfl (zwO T (za6 T n))
 |n+1,4=>zbO (F0:=⟨1,1,ir4,[],none⟩) T.f4 sc4 rfl rfl rfl rfl (by decide) rfl (zwP T (za6 T n))
 |n+1,5=>zbO (F0:=⟨1,1,ir5,[],none⟩) T.f5 sc5 rfl rfl rfl rfl (by decide) rfl (zwQ T (za6 T n))
 |n+1,6=>zbO (F0:=⟨1,1,ir6,[],none⟩) T.f6 sc6 rfl rfl rfl rfl (by decide) rfl (zwR T (za6 T n))
 |n+1,7=>zbO (F0:=⟨1,1,ir7,[],none⟩) T.f7 sc7 rfl rfl rfl rfl (by decide) rfl (zwS T (za6 T n))
 |n+1,8=>zbO (F0:=⟨2,2,ir8,[],none⟩) T.f8 sc8 rfl rfl rfl rfl (by decide) rfl (zwT T (za6 T n))
 |n+1,9=>zbO (F0:=⟨2,2,ir9,[],none⟩) T.f9 sc9 rfl rfl rfl rfl (by decide) rfl (zwU T (za6 T n))
 |n+1,10=>zbO (F0:=⟨3,3,zsK,[],none⟩) T.f10 zyb rfl rfl rfl rfl (by decide) rfl (zti T (za6 T n))
 |n+1,11=>zbO (F0:=⟨3,3,zsL,[],none⟩) T.f11 zyc rfl rfl rfl rfl (by decide) rfl (ztj T (za6 T n))
 |n+1,12=>zbq rfl
 |n+1,13=>zbO (F0:=⟨2,2,zsM,[],none⟩) T.f13 zyd rfl rfl rfl rfl (by decide) rfl (ztk T (za6 T n))
 |n+1,14=>zbO (F0:=⟨3,3,zsN,[],none⟩) T.f14 zye rfl rfl rfl rfl (by decide) rfl (ztl T (za6 T n))
 |n+1,15=>zbO (F0:=⟨3,13,zsO,[],none⟩) T.f15 zkK rfl rfl rfl rfl (by decide) rfl (ztm T (za6 T n))
 |n+1,16=>zbO (F0:=⟨1,2,zsP,[],none⟩) T.f16 zxw rfl rfl rfl rfl (by decide) rfl (ztn T (za6 T n))
 |n+1,17=>zbO (F0:=⟨3,3,zsQ,[],none⟩) T.f17 zyf rfl rfl rfl rfl (by decide) rfl (zto T (za6 T n))
 |n+1,18=>zbO (F0:=⟨3,3,zsR,[],none⟩) T.f18 zyg rfl rfl rfl rfl (by decide) rfl (ztp T (za6 T n))
 |n+1,19=>zbq rfl
 |n+1,20=>zbO (F0:=⟨3,8,zsS,[],none⟩) T.f20 zqa rfl rfl rfl rfl (by decide) rfl (ztq T (za6 T n))
 |n+1,21=>zbq rfl
 |n+1,22=>zbq rfl
 |n+1,23=>zbq rfl
 |n+1,24=>zbq rfl
 |n+1,25=>zbq rfl
 |n+1,26=>zbO (F0:=⟨4,6,zqy,[],none⟩) T.f26 zwK rfl rfl rfl rfl (by decide) rfl (ztr T (za6 T n))
 |n+1,27=>zbO (F0:=⟨4,5,zqz,[],none⟩) T.f27 zxx rfl rfl rfl rfl (by decide) rfl (zts T (za6 T n))
 |n+1,28=>zbq rfl
 |n+1,29=>zbq rfl
 |n+1,30=>zbq rfl
 |n+1,31=>zbq rfl
 |n+1,32=>zbq rfl
 |n+1,33=>zbq rfl
 |n+1,34=>zbO (F0:=⟨1,1,zsT,[],none⟩) T.f34 zyh rfl rfl rfl rfl (by decide) rfl (ztt T (za6 T n))
 |n+1,35=>zbO (F0:=⟨4,9,zqA,[],none⟩) T.f35 zmZ rfl rfl rfl rfl (by decide) rfl (ztu T (za6 T n))
 |n+1,36=>zbO (F0:=⟨1,8,zqB,[],none⟩) T.f36 zoM rfl rfl rfl rfl (by decide) rfl (ztv T (za6 T n))
 |n+1,_+37=>zbq rfl
theorem ztw {h : Heap} (X : K.In h) (G : h.Ns mainGlobals mg) {f0 f1 f2 f3 f4 f5 f6 f7 f8 f9 f10 f11 f13 f14 f15 f16 f17 f18 f20 f26 f27 f34 f35 f36 : Addr} {od0 od1 od2 od3 od4 od5 od6 od7 od8 od9 od10 od11 od13 od14 od15 od16 od17 od18 od20 od26 od27 od34 od35 od36 an0 an1 an2 an3 an4 an5 an6 an7 an8 an9 an10 an11 an13 an14 an15 an16 an17 an18 an20 an26 an27 an34 an35 an36 : Option Addr} {sl0 sl1 sl2 sl3 sl4 sl5 sl6 sl7 sl8 sl9 sl10 sl11 sl13 sl14 sl15 sl16 sl17 sl18 sl20 sl26 sl27 sl34 sl35 sl36 : Array (Option Value)} {oc0 oc1 oc2 oc3 oc4 oc5 oc6 oc7 oc8 oc9 oc10 oc11 oc13 oc14 oc15 oc16 oc17 oc18 oc20 oc26 oc27 oc34 oc35 oc36 kV0 kV1 kV2 kV3 kV4 kV5 kV6 kV7 kV8 kV9 kV10 kV11 kV13 kV14 kV15 kV16 kV17 kV18 kV20 kV26 kV27 kV34 kV35 kV36 dc0 dc1 dc2 dc3 dc4 dc5 dc6 dc7 dc8 dc9 dc10 dc11 dc13 dc14 dc15 dc16 dc17 dc18 dc20 dc26 dc27 dc34 dc35 dc36 pm0 pm1 pm2 pm3 pm4 pm5 pm6 pm7 pm8 pm9 pm10 pm11 pm13 pm14 pm15 pm16 pm17 pm18 pm20 pm26 pm27 pm34 pm35 pm36 cd0 cd1 cd2 cd3 cd4 cd5 cd6 cd7 cd8 cd9 cd10 cd11 cd13 cd14 cd15 cd16 cd17 cd18 cd20 cd26 cd27 cd34 cd35 cd36 ct0 ct1 ct2 ct3 ct4 ct5 ct6 ct7 ct8 ct9 ct10 ct11 ct13 ct14 ct15 ct16 ct17 ct18 ct20 ct26 ct27 ct34 ct35 ct36 : Value} {t0 t1 t2 : Tok}
    (a0 : PySem.W.nsIn K mainGlobals "is_whole" = some (some (.ref f0))) (l0 : K.lookup f0 = some ⟨oc0, od0, .func (PySem.W.fnOf "is_whole" "is_whole" (zam (top 9)) (zag (top 9)) (zaa (top 9)) .none kV0 dc0 pm0 an0 cd0 ct0), sl0⟩) (e0 : PySem.W.codeIn K cd0 "is_whole" = true) (k0 : PySem.W.keepIn K (.ref f0) = true)
    (a1 : PySem.W.nsIn K mainGlobals "is_couple" = some (some (.ref f1))) (l1 : K.lookup f1 = some ⟨oc1, od1, .func (PySem.W.fnOf "is_couple" "is_couple" (zam (top 10)) (zag (top 10)) (zaa (top 10)) .none kV1 dc1 pm1 an1 cd1 ct1), sl1⟩) (e1 : PySem.W.codeIn K cd1 "is_couple" = true) (k1 : PySem.W.keepIn K (.ref f1) = true)
    (a2 : PySem.W.nsIn K mainGlobals "is_cell" = some (some (.ref f2))) (l2 : K.lookup f2 = some ⟨oc2, od2, .func (PySem.W.fnOf "is_cell" "is_cell" (zam (top 11)) (zag (top 11)) (zaa (top 11)) .none kV2 dc2 pm2 an2 cd2 ct2), sl2⟩) (e2 : PySem.W.codeIn K cd2 "is_cell" = true) (k2 : PySem.W.keepIn K (.ref f2) = true)
    (a3 : PySem.W.nsIn K mainGlobals "is_leap" = some (some (.ref f3))) (l3 : K.lookup f3 = some ⟨oc3, od3, .func (PySem.W.fnOf "is_leap" "is_leap" (zam (top 12)) (zag (top 12)) (zaa (top 12)) .none kV3 dc3 pm3 an3 cd3 ct3), sl3⟩) (e3 : PySem.W.codeIn K cd3 "is_leap" = true) (k3 : PySem.W.keepIn K (.ref f3) = true)
    (a4 : PySem.W.nsIn K mainGlobals "is_rising" = some (some (.ref f4))) (l4 : K.lookup f4 = some ⟨oc4, od4, .func (PySem.W.fnOf "is_rising" "is_rising" (zam (top 13)) (zag (top 13)) (zaa (top 13)) .none kV4 dc4 pm4 an4 cd4 ct4), sl4⟩) (e4 : PySem.W.codeIn K cd4 "is_rising" = true) (k4 : PySem.W.keepIn K (.ref f4) = true)
    (a5 : PySem.W.nsIn K mainGlobals "is_floor" = some (some (.ref f5))) (l5 : K.lookup f5 = some ⟨oc5, od5, .func (PySem.W.fnOf "is_floor" "is_floor" (zam (top 14)) (zag (top 14)) (zaa (top 14)) .none kV5 dc5 pm5 an5 cd5 ct5), sl5⟩) (e5 : PySem.W.codeIn K cd5 "is_floor" = true) (k5 : PySem.W.keepIn K (.ref f5) = true)
    (a6 : PySem.W.nsIn K mainGlobals "checked" = some (some (.ref f6))) (l6 : K.lookup f6 = some ⟨oc6, od6, .func (PySem.W.fnOf "checked" "checked" (zam (top 15)) (zag (top 15)) (zaa (top 15)) .none kV6 dc6 pm6 an6 cd6 ct6), sl6⟩) (e6 : PySem.W.codeIn K cd6 "checked" = true) (k6 : PySem.W.keepIn K (.ref f6) = true)
    (a7 : PySem.W.nsIn K mainGlobals "checked_leap" = some (some (.ref f7))) (l7 : K.lookup f7 = some ⟨oc7, od7, .func (PySem.W.fnOf "checked_leap" "checked_leap" (zam (top 16)) (zag (top 16)) (zaa (top 16)) .none kV7 dc7 pm7 an7 cd7 ct7), sl7⟩) (e7 : PySem.W.codeIn K cd7 "checked_leap" = true) (k7 : PySem.W.keepIn K (.ref f7) = true)
    (a8 : PySem.W.nsIn K mainGlobals "checked_cell" = some (some (.ref f8))) (l8 : K.lookup f8 = some ⟨oc8, od8, .func (PySem.W.fnOf "checked_cell" "checked_cell" (zam (top 17)) (zag (top 17)) (zaa (top 17)) .none kV8 dc8 pm8 an8 cd8 ct8), sl8⟩) (e8 : PySem.W.codeIn K cd8 "checked_cell" = true) (k8 : PySem.W.keepIn K (.ref f8) = true)
    (a9 : PySem.W.nsIn K mainGlobals "folded" = some (some (.ref f9))) (l9 : K.lookup f9 = some ⟨oc9, od9, .func (PySem.W.fnOf "folded" "folded" (zam (top 19)) (zag (top 19)) (zaa (top 19)) .none kV9 dc9 pm9 an9 cd9 ct9), sl9⟩) (e9 : PySem.W.codeIn K cd9 "folded" = true) (k9 : PySem.W.keepIn K (.ref f9) = true)
    (a10 : PySem.W.nsIn K mainGlobals "are_near" = some (some (.ref f10))) (l10 : K.lookup f10 = some ⟨oc10, od10, .func (PySem.W.fnOf "are_near" "are_near" (zam (top 20)) (zag (top 20)) (zaa (top 20)) .none kV10 dc10 pm10 an10 cd10 ct10), sl10⟩) (e10 : PySem.W.codeIn K cd10 "are_near" = true) (k10 : PySem.W.keepIn K (.ref f10) = true)
    (a11 : PySem.W.nsIn K mainGlobals "cells_near" = some (some (.ref f11))) (l11 : K.lookup f11 = some ⟨oc11, od11, .func (PySem.W.fnOf "cells_near" "cells_near" (zam (top 21)) (zag (top 21)) (zaa (top 21)) .none kV11 dc11 pm11 an11 cd11 ct11), sl11⟩) (e11 : PySem.W.codeIn K cd11 "cells_near" = true) (k11 : PySem.W.keepIn K (.ref f11) = true)
    (a13 : PySem.W.nsIn K mainGlobals "_law_cell" = some (some (.ref f13))) (l13 : K.lookup f13 = some ⟨oc13, od13, .func (PySem.W.fnOf "_law_cell" "_law_cell" (zam (top 27)) (zag (top 27)) (zaa (top 27)) .none kV13 dc13 pm13 an13 cd13 ct13), sl13⟩) (e13 : PySem.W.codeIn K cd13 "_law_cell" = true) (k13 : PySem.W.keepIn K (.ref f13) = true)
    (a14 : PySem.W.nsIn K mainGlobals "_law_mix" = some (some (.ref f14))) (l14 : K.lookup f14 = some ⟨oc14, od14, .func (PySem.W.fnOf "_law_mix" "_law_mix" (zam (top 28)) (zag (top 28)) (zaa (top 28)) .none kV14 dc14 pm14 an14 cd14 ct14), sl14⟩) (e14 : PySem.W.codeIn K cd14 "_law_mix" = true) (k14 : PySem.W.keepIn K (.ref f14) = true)
    (a15 : PySem.W.nsIn K mainGlobals "_law_floor" = some (some (.ref f15))) (l15 : K.lookup f15 = some ⟨oc15, od15, .func (PySem.W.fnOf "_law_floor" "_law_floor" (zam (top 30)) (zag (top 30)) (zaa (top 30)) .none kV15 dc15 pm15 an15 cd15 ct15), sl15⟩) (e15 : PySem.W.codeIn K cd15 "_law_floor" = true) (k15 : PySem.W.keepIn K (.ref f15) = true)
    (a16 : PySem.W.nsIn K mainGlobals "_law_leap" = some (some (.ref f16))) (l16 : K.lookup f16 = some ⟨oc16, od16, .func (PySem.W.fnOf "_law_leap" "_law_leap" (zam (top 31)) (zag (top 31)) (zaa (top 31)) .none kV16 dc16 pm16 an16 cd16 ct16), sl16⟩) (e16 : PySem.W.codeIn K cd16 "_law_leap" = true) (k16 : PySem.W.keepIn K (.ref f16) = true)
    (a17 : PySem.W.nsIn K mainGlobals "_law_is_near" = some (some (.ref f17))) (l17 : K.lookup f17 = some ⟨oc17, od17, .func (PySem.W.fnOf "_law_is_near" "_law_is_near" (zam (top 32)) (zag (top 32)) (zaa (top 32)) .none kV17 dc17 pm17 an17 cd17 ct17), sl17⟩) (e17 : PySem.W.codeIn K cd17 "_law_is_near" = true) (k17 : PySem.W.keepIn K (.ref f17) = true)
    (a18 : PySem.W.nsIn K mainGlobals "_law_near" = some (some (.ref f18))) (l18 : K.lookup f18 = some ⟨oc18, od18, .func (PySem.W.fnOf "_law_near" "_law_near" (zam (top 33)) (zag (top 33)) (zaa (top 33)) .none kV18 dc18 pm18 an18 cd18 ct18), sl18⟩) (e18 : PySem.W.codeIn K cd18 "_law_near" = true) (k18 : PySem.W.keepIn K (.ref f18) = true)
    (a20 : PySem.W.nsIn K mainGlobals "leads_to" = some (some (.ref f20))) (l20 : K.lookup f20 = some ⟨oc20, od20, .func (PySem.W.fnOf "leads_to" "leads_to" (zam (top 22)) (zag (top 22)) (zaa (top 22)) .none kV20 dc20 pm20 an20 cd20 ct20), sl20⟩) (e20 : PySem.W.codeIn K cd20 "leads_to" = true) (k20 : PySem.W.keepIn K (.ref f20) = true)
    (a26 : PySem.W.nsIn K mainGlobals "a_way" = some (some (.ref f26))) (l26 : K.lookup f26 = some ⟨oc26, od26, .func (PySem.W.fnOf "a_way" "a_way" (zam (top 24)) (zag (top 24)) (zaa (top 24)) .none kV26 dc26 pm26 an26 cd26 ct26), sl26⟩) (e26 : PySem.W.codeIn K cd26 "a_way" = true) (k26 : PySem.W.keepIn K (.ref f26) = true)
    (a27 : PySem.W.nsIn K mainGlobals "fewest" = some (some (.ref f27))) (l27 : K.lookup f27 = some ⟨oc27, od27, .func (PySem.W.fnOf "fewest" "fewest" (zam (top 25)) (zag (top 25)) (zaa (top 25)) .none kV27 dc27 pm27 an27 cd27 ct27), sl27⟩) (e27 : PySem.W.codeIn K cd27 "fewest" = true) (k27 : PySem.W.keepIn K (.ref f27) = true)
    (a34 : PySem.W.nsIn K mainGlobals "_law_whole" = some (some (.ref f34))) (l34 : K.lookup f34 = some ⟨oc34, od34, .func (PySem.W.fnOf "_law_whole" "_law_whole" (zam (top 29)) (zag (top 29)) (zaa (top 29)) .none kV34 dc34 pm34 an34 cd34 ct34), sl34⟩) (e34 : PySem.W.codeIn K cd34 "_law_whole" = true) (k34 : PySem.W.keepIn K (.ref f34) = true)
    (a35 : PySem.W.nsIn K mainGlobals "_law_few" = some (some (.ref f35))) (l35 : K.lookup f35 = some ⟨oc35, od35, .func (PySem.W.fnOf "_law_few" "_law_few" (zam (top 34)) (zag (top 34)) (zaa (top 34)) .none kV35 dc35 pm35 an35 cd35 ct35), sl35⟩) (e35 : PySem.W.codeIn K cd35 "_law_few" = true) (k35 : PySem.W.keepIn K (.ref f35) = true)
    (a36 : PySem.W.nsIn K mainGlobals "law" = some (some (.ref f36))) (l36 : K.lookup f36 = some ⟨oc36, od36, .func (PySem.W.fnOf "law" "law" (zam (top 35)) (zag (top 35)) (zaa (top 35)) .none kV36 dc36 pm36 an36 cd36 ct36), sl36⟩) (e36 : PySem.W.codeIn K cd36 "law" = true) (k36 : PySem.W.keepIn K (.ref f36) = true)
    (z_isinstance : PySem.W.nsIn K mainGlobals "isinstance" = some none)
    (z_int : PySem.W.nsIn K mainGlobals "int" = some none)
    (z_bool : PySem.W.nsIn K mainGlobals "bool" = some none)
    (z_len : PySem.W.nsIn K mainGlobals "len" = some none)
    (z_tuple : PySem.W.nsIn K mainGlobals "tuple" = some none)
    (z_range : PySem.W.nsIn K mainGlobals "range" = some none)
    (z_all : PySem.W.nsIn K mainGlobals "all" = some none)
    (z_abs : PySem.W.nsIn K mainGlobals "abs" = some none)
    (z_max : PySem.W.nsIn K mainGlobals "max" = some none)
    (z_min : PySem.W.nsIn K mainGlobals "min" = some none)
    (z_sorted : PySem.W.nsIn K mainGlobals "sorted" = some none)
    (z_list : PySem.W.nsIn K mainGlobals "list" = some none)
    (z_set : PySem.W.nsIn K mainGlobals "set" = some none)
    (c0 : PySem.W.nsIn K mainGlobals "LAST_LINE" = some (some (.int 7 t0)))
    (c1 : PySem.W.nsIn K mainGlobals "MOST_CELLS" = some (some (.int 24 t1)))
    (c2 : PySem.W.nsIn K mainGlobals "LONGEST_LEAP" = some (some (.int 4 t2)))
    : ∃ F FD TK, Txt K mg F FD TK ∧ F 36 = f36 ∧ (∀ (s : Shared) (u : Value), BindsTo s (FD 36) ⟨[u], []⟩ [("_law_script", u)]) :=
  ⟨fun i => match i with
     | 1 => f1
     | 2 => f2
     | 3 => f3
     | 4 => f4
     | 5 => f5
     | 6 => f6
     | 7 => f7
     | 8 => f8
     | 9 => f9
     | 10 => f10
     | 11 => f11
     | 13 => f13
     | 14 => f14
     | 15 => f15
     | 16 => f16
     | 17 => f17
     | 18 => f18
     | 20 => f20
     | 26 => f26
     | 27 => f27
     | 34 => f34
     | 35 => f35
     | 36 => f36
     | _ => f0,
   fun i => match i with
     | 1 => PySem.W.fnOf "is_couple" "is_couple" (zam (top 10)) (zag (top 10)) (zaa (top 10)) .none kV1 dc1 pm1 an1 cd1 ct1
     | 2 => PySem.W.fnOf "is_cell" "is_cell" (zam (top 11)) (zag (top 11)) (zaa (top 11)) .none kV2 dc2 pm2 an2 cd2 ct2
     | 3 => PySem.W.fnOf "is_leap" "is_leap" (zam (top 12)) (zag (top 12)) (zaa (top 12)) .none kV3 dc3 pm3 an3 cd3 ct3
     | 4 => PySem.W.fnOf "is_rising" "is_rising" (zam (top 13)) (zag (top 13)) (zaa (top 13)) .none kV4 dc4 pm4 an4 cd4 ct4
     | 5 => PySem.W.fnOf "is_floor" "is_floor" (zam (top 14)) (zag (top 14)) (zaa (top 14)) .none kV5 dc5 pm5 an5 cd5 ct5
     | 6 => PySem.W.fnOf "checked" "checked" (zam (top 15)) (zag (top 15)) (zaa (top 15)) .none kV6 dc6 pm6 an6 cd6 ct6
     | 7 => PySem.W.fnOf "checked_leap" "checked_leap" (zam (top 16)) (zag (top 16)) (zaa (top 16)) .none kV7 dc7 pm7 an7 cd7 ct7
     | 8 => PySem.W.fnOf "checked_cell" "checked_cell" (zam (top 17)) (zag (top 17)) (zaa (top 17)) .none kV8 dc8 pm8 an8 cd8 ct8
     | 9 => PySem.W.fnOf "folded" "folded" (zam (top 19)) (zag (top 19)) (zaa (top 19)) .none kV9 dc9 pm9 an9 cd9 ct9
     | 10 => PySem.W.fnOf "are_near" "are_near" (zam (top 20)) (zag (top 20)) (zaa (top 20)) .none kV10 dc10 pm10 an10 cd10 ct10
     | 11 => PySem.W.fnOf "cells_near" "cells_near" (zam (top 21)) (zag (top 21)) (zaa (top 21)) .none kV11 dc11 pm11 an11 cd11 ct11
     | 13 => PySem.W.fnOf "_law_cell" "_law_cell" (zam (top 27)) (zag (top 27)) (zaa (top 27)) .none kV13 dc13 pm13 an13 cd13 ct13
     | 14 => PySem.W.fnOf "_law_mix" "_law_mix" (zam (top 28)) (zag (top 28)) (zaa (top 28)) .none kV14 dc14 pm14 an14 cd14 ct14
     | 15 => PySem.W.fnOf "_law_floor" "_law_floor" (zam (top 30)) (zag (top 30)) (zaa (top 30)) .none kV15 dc15 pm15 an15 cd15 ct15
     | 16 => PySem.W.fnOf "_law_leap" "_law_leap" (zam (top 31)) (zag (top 31)) (zaa (top 31)) .none kV16 dc16 pm16 an16 cd16 ct16
     | 17 => PySem.W.fnOf "_law_is_near" "_law_is_near" (zam (top 32)) (zag (top 32)) (zaa (top 32)) .none kV17 dc17 pm17 an17 cd17 ct17
     | 18 => PySem.W.fnOf "_law_near" "_law_near" (zam (top 33)) (zag (top 33)) (zaa (top 33)) .none kV18 dc18 pm18 an18 cd18 ct18
     | 20 => PySem.W.fnOf "leads_to" "leads_to" (zam (top 22)) (zag (top 22)) (zaa (top 22)) .none kV20 dc20 pm20 an20 cd20 ct20
     | 26 => PySem.W.fnOf "a_way" "a_way" (zam (top 24)) (zag (top 24)) (zaa (top 24)) .none kV26 dc26 pm26 an26 cd26 ct26
     | 27 => PySem.W.fnOf "fewest" "fewest" (zam (top 25)) (zag (top 25)) (zaa (top 25)) .none kV27 dc27 pm27 an27 cd27 ct27
     | 34 => PySem.W.fnOf "_law_whole" "_law_whole" (zam (top 29)) (zag (top 29)) (zaa (top 29)) .none kV34 dc34 pm34 an34 cd34 ct34
     | 35 => PySem.W.fnOf "_law_few" "_law_few" (zam (top 34)) (zag (top 34)) (zaa (top 34)) .none kV35 dc35 pm35 an35 cd35 ct35
     | 36 => PySem.W.fnOf "law" "law" (zam (top 35)) (zag (top 35)) (zaa (top 35)) .none kV36 dc36 pm36 an36 cd36 ct36
     | _ => PySem.W.fnOf "is_whole" "is_whole" (zam (top 9)) (zag (top 9)) (zaa (top 9)) .none kV0 dc0 pm0 an0 cd0 ct0,
   fun i => [t0, t1, t2].getD i 0,
   {
     m0 := PySem.W.mg_of X G a0
     f0 := zay (st := top 9) l0 e0 k0
     b0 := (zay (st := top 9) l0 e0 k0).binds (ps := zaR 0) fun _ _ _ _ _ _ us hl => on3 (P := fun us => bindArgs _ ⟨us, []⟩ = pure ((zaR 0).zip us)) (fun _ _ _ => rfl) us hl
     m1 := PySem.W.mg_of X G a1
     f1 := zay (st := top 10) l1 e1 k1
     b1 := (zay (st := top 10) l1 e1 k1).binds (ps := zaR 1) fun _ _ _ _ _ _ us hl => on1 (P := fun us => bindArgs _ ⟨us, []⟩ = pure ((zaR 1).zip us)) (fun _ => rfl) us hl
     m2 := PySem.W.mg_of X G a2
     f2 := zay (st := top 11) l2 e2 k2
     b2 := (zay (st := top 11) l2 e2 k2).binds (ps := zaR 2) fun _ _ _ _ _ _ us hl => on1 (P := fun us => bindArgs _ ⟨us, []⟩ = pure ((zaR 2).zip us)) (fun _ => rfl) us hl
     m3 := PySem.W.mg_of X G a3
     f3 := zay (st := top 12) l3 e3 k3
     b3 := (zay (st := top 12) l3 e3 k3).binds (ps := zaR 3) fun _ _ _ _ _ _ us hl => on1 (P := fun us => bindArgs _ ⟨us, []⟩ = pure ((zaR 3).zip us)) (fun _ => rfl) us hl
     m4 := PySem.W.mg_of X G a4
     f4 := zay (st := top 13) l4 e4 k4
     b4 := (zay (st := top 13) l4 e4 k4).binds (ps := zaR 4) fun _ _ _ _ _ _ us hl => on1 (P := fun us => bindArgs _ ⟨us, []⟩ = pure ((zaR 4).zip us)) (fun _ => rfl) us hl
     m5 := PySem.W.mg_of X G a5
     f5 := zay (st := top 14) l5 e5 k5
     b5 := (zay (st := top 14) l5 e5 k5).binds (ps := zaR 5) fun _ _ _ _ _ _ us hl => on1 (P := fun us => bindArgs _ ⟨us, []⟩ = pure ((zaR 5).zip us)) (fun _ => rfl) us hl
     m6 := PySem.W.mg_of X G a6
     f6 := zay (st := top 15) l6 e6 k6
     b6 := (zay (st := top 15) l6 e6 k6).binds (ps := zaR 6) fun _ _ _ _ _ _ us hl => on1 (P := fun us => bindArgs _ ⟨us, []⟩ = pure ((zaR 6).zip us)) (fun _ => rfl) us hl
     m7 := PySem.W.mg_of X G a7
     f7 := zay (st := top 16) l7 e7 k7
     b7 := (zay (st := top 16) l7 e7 k7).binds (ps := zaR 7) fun _ _ _ _ _ _ us hl => on1 (P := fun us => bindArgs _ ⟨us, []⟩ = pure ((zaR 7).zip us)) (fun _ => rfl) us hl
     m8 := PySem.W.mg_of X G a8
     f8 := zay (st := top 17) l8 e8 k8
     b8 := (zay (st := top 17) l8 e8 k8).binds (ps := zaR 8) fun _ _ _ _ _ _ us hl => on2 (P := fun us => bindArgs _ ⟨us, []⟩ = pure ((zaR 8).zip us)) (fun _ _ => rfl) us hl
     m9 := PySem.W.mg_of X G a9
     f9 := zay (st := top 19) l9 e9 k9
     b9 := (zay (st := top 19) l9 e9 k9).binds (ps := zaR 9) fun _ _ _ _ _ _ us hl => on2 (P := fun us => bindArgs _ ⟨us, []⟩ = pure ((zaR 9).zip us)) (fun _ _ => rfl) us hl
     m10 := PySem.W.mg_of X G a10
     f10 := zay (st := top 20) l10 e10 k10
     b10 := (zay (st := top 20) l10 e10 k10).binds (ps := zaR 10) fun _ _ _ _ _ _ us hl => on3 (P := fun us => bindArgs _ ⟨us, []⟩ = pure ((zaR 10).zip us)) (fun _ _ _ => rfl) us hl
     m11 := PySem.W.mg_of X G a11
     f11 := zay (st := top 21) l11 e11 k11
     b11 := (zay (st := top 21) l11 e11 k11).binds (ps := zaR 11) fun _ _ _ _ _ _ us hl => on3 (P := fun us => bindArgs _ ⟨us, []⟩ = pure ((zaR 11).zip us)) (fun _ _ _ => rfl) us hl
     m13 := PySem.W.mg_of X G a13
     f13 := zay (st := top 27) l13 e13 k13
     b13 := (zay (st := top 27) l13 e13 k13).binds (ps := zaR 13) fun _ _ _ _ _ _ us hl => on2 (P := fun us => bindArgs _ ⟨us, []⟩ = pure ((zaR 13).zip us)) (fun _ _ => rfl) us hl
     m14 := PySem.W.mg_of X G a14
     f14 := zay (st := top 28) l14 e14 k14
     b14 := (zay (st := top 28) l14 e14 k14).binds (ps := zaR 14) fun _ _ _ _ _ _ us hl => on3 (P := fun us => bindArgs _ ⟨us, []⟩ = pure ((zaR 14).zip us)) (fun _ _ _ => rfl) us hl
     m15 := PySem.W.mg_of X G a15
     f15 := zay (st := top 30) l15 e15 k15
     b15 := (zay (st := top 30) l15 e15 k15).binds (ps := zaR 15) fun _ _ _ _ _ _ us hl => on3 (P := fun us => bindArgs _ ⟨us, []⟩ = pure ((zaR 15).zip us)) (fun _ _ _ => rfl) us hl
     m16 := PySem.W.mg_of X G a16
     f16 := zay (st := top 31) l16 e16 k16
     b16 := (zay (st := top 31) l16 e16 k16).binds (ps := zaR 16) fun _ _ _ _ _ _ us hl => on1 (P := fun us => bindArgs _ ⟨us, []⟩ = pure ((zaR 16).zip us)) (fun _ => rfl) us hl
     m17 := PySem.W.mg_of X G a17
     f17 := zay (st := top 32) l17 e17 k17
     b17 := (zay (st := top 32) l17 e17 k17).binds (ps := zaR 17) fun _ _ _ _ _ _ us hl => on3 (P := fun us => bindArgs _ ⟨us, []⟩ = pure ((zaR 17).zip us)) (fun _ _ _ => rfl) us hl
     m18 := PySem.W.mg_of X G a18
     f18 := zay (st := top 33) l18 e18 k18
     b18 := (zay (st := top 33) l18 e18 k18).binds (ps := zaR 18) fun _ _ _ _ _ _ us hl => on3 (P := fun us => bindArgs _ ⟨us, []⟩ = pure ((zaR 18).zip us)) (fun _ _ _ => rfl) us hl
     m20 := PySem.W.mg_of X G a20
     f20 := zay (st := top 22) l20 e20 k20
     b20 := (zay (st := top 22) l20 e20 k20).binds (ps := zaR 20) fun _ _ _ _ _ _ us hl => on3 (P := fun us => bindArgs _ ⟨us, []⟩ = pure ((zaR 20).zip us)) (fun _ _ _ => rfl) us hl
     m26 := PySem.W.mg_of X G a26
     f26 := zay (st := top 24) l26 e26 k26
     b26 := (zay (st := top 24) l26 e26 k26).binds (ps := zaR 26) fun _ _ _ _ _ _ us hl => on4 (P := fun us => bindArgs _ ⟨us, []⟩ = pure ((zaR 26).zip us)) (fun _ _ _ _ => rfl) us hl
     m27 := PySem.W.mg_of X G a27
     f27 := zay (st := top 25) l27 e27 k27
     b27 := (zay (st := top 25) l27 e27 k27).binds (ps := zaR 27) fun _ _ _ _ _ _ us hl => on4 (P := fun us => bindArgs _ ⟨us, []⟩ = pure ((zaR 27).zip us)) (fun _ _ _ _ => rfl) us hl
     m34 := PySem.W.mg_of X G a34
     f34 := zay (st := top 29) l34 e34 k34
     b34 := (zay (st := top 29) l34 e34 k34).binds (ps := zaR 34) fun _ _ _ _ _ _ us hl => on1 (P := fun us => bindArgs _ ⟨us, []⟩ = pure ((zaR 34).zip us)) (fun _ => rfl) us hl
     m35 := PySem.W.mg_of X G a35
     f35 := zay (st := top 34) l35 e35 k35
     b35 := (zay (st := top 34) l35 e35 k35).binds (ps := zaR 35) fun _ _ _ _ _ _ us hl => on4 (P := fun us => bindArgs _ ⟨us, []⟩ = pure ((zaR 35).zip us)) (fun _ _ _ _ => rfl) us hl
     m36 := PySem.W.mg_of X G a36
     f36 := zay (st := top 35) l36 e36 k36
     b36 := (zay (st := top 35) l36 e36 k36).binds (ps := zaR 36) fun _ _ _ _ _ _ us hl => on1 (P := fun us => bindArgs _ ⟨us, []⟩ = pure ((zaR 36).zip us)) (fun _ => rfl) us hl
     z_isinstance := PySem.W.mg_none_of X G z_isinstance
     z_int := PySem.W.mg_none_of X G z_int
     z_bool := PySem.W.mg_none_of X G z_bool
     z_len := PySem.W.mg_none_of X G z_len
     z_tuple := PySem.W.mg_none_of X G z_tuple
     z_range := PySem.W.mg_none_of X G z_range
     z_all := PySem.W.mg_none_of X G z_all
     z_abs := PySem.W.mg_none_of X G z_abs
     z_max := PySem.W.mg_none_of X G z_max
     z_min := PySem.W.mg_none_of X G z_min
     z_sorted := PySem.W.mg_none_of X G z_sorted
     z_list := PySem.W.mg_none_of X G z_list
     z_set := PySem.W.mg_none_of X G z_set
     c0 := PySem.W.mg_of X G c0
     c1 := PySem.W.mg_of X G c1
     c2 := PySem.W.mg_of X G c2
   }, rfl, fun s u => .of_eq rfl⟩
end
end LK
namespace LK
open PySem PySem.W L2
noncomputable def en(P:Params)(x:Str)(t:Nat)(v:Value):DictEntry:=⟨PyData.keyHash P x,.str x t,v⟩
noncomputable def fo(i:Nat)(x m:Str)(t c:Nat):Obj:=⟨.type "function",none,.func (fnOf x x (zam (top i)) (zag (top i)) (zaa (top i)) .none .none .none (.str m t) none (.ref c) .none), #[]⟩
noncomputable def co(x:Str)(t l a r h:Nat):Obj:=⟨.type "code",none,.fields #[.str x t,.str x (t+1),.str "/claim/cut.py" (t+2),.int l 0,.int a 0,.int 0 0,.int 0 0,.int 3 0,.ref r,.bool true,.int 181 0,.ref (r+1),.none,.ref (r+2),.ref (r+3),.ref (r+4),.int h 0,.int l 0,.str "/claim/cut.py" (h+1)], #[]⟩
noncomputable def cn(x:Str)(t l a r h:Nat):Obj:=⟨.type "code",none,.fields #[.str x t,.str x (t+1),.str "/claim/cut.py" (t+2),.int l 0,.int a 0,.int 0 0,.int 0 0,.int 3 0,.ref r,.bool true,.int 181 0,.ref (r+1),.none,.none,.none,.ref (r+2),.int h 0,.int l 0,.str "/claim/cut.py" (h+1)], #[]⟩
noncomputable def HK(P:Params):Frag:=[(3,.mk (.type "dict") none (.dict #[en P "__name__" 165 (.str "law_leaperwalk_k06_fewest_leaps" 391),en P "__doc__" 166 .none,en P "__package__" 167 .none,en P "__loader__" 168 (.builtin "__main__.__loader__#opaque"),en P "__spec__" 169 .none,en P "__annotations__" 170 (.ref 6),en P "__builtins__" 171 (.ref 4),en P "__file__" 173 (.str "/claim/cut.py" 172),en P "__cached__" 174 .none,en P "LeapError" 206 (.ref 24),en P "BadFloor" 222 (.ref 37),en P "BadLeap" 238 (.ref 49),en P "NoCell" 254 (.ref 61),en P "LAST_LINE" 258 (.int 7 257),en P "MOST_CELLS" 260 (.int 24 259),en P "LONGEST_LEAP" 262 (.int 4 261),en P "is_whole" 271 (.ref 70),en P "is_couple" 278 (.ref 77),en P "is_cell" 285 (.ref 84),en P "is_leap" 292 (.ref 91),en P "is_rising" 298 (.ref 96),en P "is_floor" 304 (.ref 101),en P "checked" 311 (.ref 108),en P "checked_leap" 318 (.ref 115),en P "checked_cell" 326 (.ref 122),en P "folded" 336 (.ref 129),en P "are_near" 345 (.ref 136),en P "cells_near" 351 (.ref 141),en P "leads_to" 365 (.ref 148),en P "a_way" 379 (.ref 155),en P "fewest" 390 (.ref 162),en P "_law_cell" 400 (.ref 169),en P "_law_mix" 409 (.ref 176),en P "_law_whole" 416 (.ref 183),en P "_law_floor" 435 (.ref 190),en P "_law_leap" 443 (.ref 197),en P "_law_is_near" 452 (.ref 204),en P "_law_near" 458 (.ref 209),en P "_law_few" 464 (.ref 214),en P "law" 470 (.ref 219)] 40) #[]),
 (69,co "is_whole" 263 14 3 64 269),
 (70,fo 9 "is_whole" "leaperwalk.floors" 255 69),
 (76,co "is_couple" 272 18 1 71 276),
 (77,fo 10 "is_couple" "leaperwalk.floors" 255 76),
 (83,co "is_cell" 279 20 1 78 283),
 (84,fo 11 "is_cell" "leaperwalk.floors" 255 83),
 (90,co "is_leap" 286 22 1 85 290),
 (91,fo 12 "is_leap" "leaperwalk.floors" 255 90),
 (95,cn "is_rising" 293 24 1 92 296),
 (96,fo 13 "is_rising" "leaperwalk.floors" 255 95),
 (100,cn "is_floor" 299 26 1 97 302),
 (101,fo 14 "is_floor" "leaperwalk.floors" 255 100),
 (107,co "checked" 305 30 1 102 309),
 (108,fo 15 "checked" "leaperwalk.floors" 255 107),
 (114,co "checked_leap" 312 34 1 109 316),
 (115,fo 16 "checked_leap" "leaperwalk.floors" 255 114),
 (121,co "checked_cell" 319 38 2 116 324),
 (122,fo 17 "checked_cell" "leaperwalk.floors" 255 121),
 (128,co "folded" 329 43 2 123 334),
 (129,fo 19 "folded" "leaperwalk.leaps" 327 128),
 (135,co "are_near" 337 45 3 130 343),
 (136,fo 20 "are_near" "leaperwalk.leaps" 327 135),
 (140,cn "cells_near" 346 47 3 137 349),
 (141,fo 21 "cells_near" "leaperwalk.leaps" 327 140),
 (147,co "leads_to" 352 49 3 142 363),
 (148,fo 22 "leads_to" "leaperwalk.leaps" 327 147),
 (154,co "a_way" 368 62 4 149 377),
 (155,fo 24 "a_way" "leaperwalk.ways" 366 154),
 (161,co "fewest" 380 74 4 156 388),
 (162,fo 25 "fewest" "leaperwalk.ways" 366 161),
 (168,co "_law_cell" 393 78 2 163 398),
 (169,fo 27 "_law_cell" "law_leaperwalk_k06_fewest_leaps" 391 168),
 (175,co "_law_mix" 401 82 3 170 407),
 (176,fo 28 "_law_mix" "law_leaperwalk_k06_fewest_leaps" 391 175),
 (182,co "_law_whole" 410 84 1 177 414),
 (183,fo 29 "_law_whole" "law_leaperwalk_k06_fewest_leaps" 391 182),
 (189,co "_law_floor" 417 86 3 184 433),
 (190,fo 30 "_law_floor" "law_leaperwalk_k06_fewest_leaps" 391 189),
 (196,co "_law_leap" 436 102 1 191 441),
 (197,fo 31 "_law_leap" "law_leaperwalk_k06_fewest_leaps" 391 196),
 (203,co "_law_is_near" 444 105 3 198 450),
 (204,fo 32 "_law_is_near" "law_leaperwalk_k06_fewest_leaps" 391 203),
 (208,cn "_law_near" 453 107 3 205 456),
 (209,fo 33 "_law_near" "law_leaperwalk_k06_fewest_leaps" 391 208),
 (213,cn "_law_few" 459 109 4 210 462),
 (214,fo 34 "_law_few" "law_leaperwalk_k06_fewest_leaps" 391 213),
 (218,cn "law" 465 123 1 215 468),
 (219,fo 35 "law" "law_leaperwalk_k06_fewest_leaps" 391 218)]
noncomputable def HA:List Addr:=[3,69,70,76,77,83,84,90,91,95,96,100,101,107,108,114,115,121,122,128,129,135,136,140,141,147,148,154,155,161,162,168,169,175,176,182,183,189,190,196,197,203,204,208,209,213,214,218,219]
noncomputable def HQ:Program:=view PySem.Challenge.pw_leaperwalk_k06_fewest_leaps [1,2,3,4,6,7,8,9,10,11,12,13,14,15,16,17,19,20,21,22,24,25,27,28,29,30,31,32,33,34,35]
theorem hka: ∀P,HA=(HK P).map (·.1):=fun P=>by kernel_rfl
noncomputable def HH:Hook:=kHook HK HA hka
set_option maxHeartbeats 0 in
theorem zwV:LeftO PySem.Challenge.pw_leaperwalk_k06_fewest_leaps HQ [] (fun s=>xlAt HQ [] s&&recOk (RowW.records (OpenRow.toRowW (OpenLaw.row PySem.Challenge.rw_leaperwalk_k06_fewest_leaps))) s) HH.obs HH.val 3356:=by
 intro w
 kernel_rfl
end LK
open PySem PySem.W PyProof.Rows
set_option maxRecDepth 100000 in
set_option maxHeartbeats 0 in
theorem PySem.Challenge.cw_leaperwalk_k06_fewest_leaps_holds : PySem.Challenge.rw_leaperwalk_k06_fewest_leaps.Holds := by
 w_on;o_law
 refine PySem.W.holds_open (XP:=XL LK.HQ []) LK.zwV (Hook.of LK.HH) (Hook.keeps LK.HH) (fun s e=>xl_of s (Bool.and_eq_true_iff.mp e).1) XL.keeps (by rfl) (by rfl) (by rfl) (fun s e=>recFacts_of (Bool.and_eq_true_iff.mp e).2) (by rfl) (by assumption) (by decide+kernel) ⟨rfl,rfl,rfl,rfl,rfl,by decide+kernel⟩ ?hw ?hc
 case hw=>w_witness2
 refine L2.znf (K:=LK.HK) (l:=PySem.Challenge.rw_leaperwalk_k06_fewest_leaps) (n:=63) (k:=LK.depth) (x:="_law_script") (CX:=L2.CX0) (sp:=fun K=>L2.LW.spA K (L2.LW.zat LK.U LK.zas LK.depth) 36 []) rfl (by decide) rfl ⟨rfl,by decide,by decide⟩ (fun w h Y=>Y) ?F ?S ?C
 case F=>
  intro w mg fa h KX G hmg
  have l0:List.lookup 70 (LK.HK w.params)=some (LK.fo 9 "is_whole" "leaperwalk.floors" 255 69):=by kernel_rfl
  have l1:List.lookup 77 (LK.HK w.params)=some (LK.fo 10 "is_couple" "leaperwalk.floors" 255 76):=by kernel_rfl
  have l2:List.lookup 84 (LK.HK w.params)=some (LK.fo 11 "is_cell" "leaperwalk.floors" 255 83):=by kernel_rfl
  have l3:List.lookup 91 (LK.HK w.params)=some (LK.fo 12 "is_leap" "leaperwalk.floors" 255 90):=by kernel_rfl
  have l4:List.lookup 96 (LK.HK w.params)=some (LK.fo 13 "is_rising" "leaperwalk.floors" 255 95):=by kernel_rfl
  have l5:List.lookup 101 (LK.HK w.params)=some (LK.fo 14 "is_floor" "leaperwalk.floors" 255 100):=by kernel_rfl
  have l6:List.lookup 108 (LK.HK w.params)=some (LK.fo 15 "checked" "leaperwalk.floors" 255 107):=by kernel_rfl
  have l7:List.lookup 115 (LK.HK w.params)=some (LK.fo 16 "checked_leap" "leaperwalk.floors" 255 114):=by kernel_rfl
  have l8:List.lookup 122 (LK.HK w.params)=some (LK.fo 17 "checked_cell" "leaperwalk.floors" 255 121):=by kernel_rfl
  have l9:List.lookup 129 (LK.HK w.params)=some (LK.fo 19 "folded" "leaperwalk.leaps" 327 128):=by kernel_rfl
  have l10:List.lookup 136 (LK.HK w.params)=some (LK.fo 20 "are_near" "leaperwalk.leaps" 327 135):=by kernel_rfl
  have l11:List.lookup 141 (LK.HK w.params)=some (LK.fo 21 "cells_near" "leaperwalk.leaps" 327 140):=by kernel_rfl
  have l13:List.lookup 169 (LK.HK w.params)=some (LK.fo 27 "_law_cell" "law_leaperwalk_k06_fewest_leaps" 391 168):=by kernel_rfl
  have l14:List.lookup 176 (LK.HK w.params)=some (LK.fo 28 "_law_mix" "law_leaperwalk_k06_fewest_leaps" 391 175):=by kernel_rfl
  have l15:List.lookup 190 (LK.HK w.params)=some (LK.fo 30 "_law_floor" "law_leaperwalk_k06_fewest_leaps" 391 189):=by kernel_rfl
  have l16:List.lookup 197 (LK.HK w.params)=some (LK.fo 31 "_law_leap" "law_leaperwalk_k06_fewest_leaps" 391 196):=by kernel_rfl
  have l17:List.lookup 204 (LK.HK w.params)=some (LK.fo 32 "_law_is_near" "law_leaperwalk_k06_fewest_leaps" 391 203):=by kernel_rfl
  have l18:List.lookup 209 (LK.HK w.params)=some (LK.fo 33 "_law_near" "law_leaperwalk_k06_fewest_leaps" 391 208):=by kernel_rfl
  have l20:List.lookup 148 (LK.HK w.params)=some (LK.fo 22 "leads_to" "leaperwalk.leaps" 327 147):=by kernel_rfl
  have l26:List.lookup 155 (LK.HK w.params)=some (LK.fo 24 "a_way" "leaperwalk.ways" 366 154):=by kernel_rfl
  have l27:List.lookup 162 (LK.HK w.params)=some (LK.fo 25 "fewest" "leaperwalk.ways" 366 161):=by kernel_rfl
  have l34:List.lookup 183 (LK.HK w.params)=some (LK.fo 29 "_law_whole" "law_leaperwalk_k06_fewest_leaps" 391 182):=by kernel_rfl
  have l35:List.lookup 214 (LK.HK w.params)=some (LK.fo 34 "_law_few" "law_leaperwalk_k06_fewest_leaps" 391 213):=by kernel_rfl
  have l36:List.lookup 219 (LK.HK w.params)=some (LK.fo 35 "law" "law_leaperwalk_k06_fewest_leaps" 391 218):=by kernel_rfl
  obtain⟨F,FD,TK,T,e0,hb⟩:=LK.ztw (t0:=257) (t1:=259) (t2:=261) KX G (by kernel_rfl) l0 (by kernel_rfl) (by kernel_rfl) (by kernel_rfl) l1 (by kernel_rfl) (by kernel_rfl) (by kernel_rfl) l2 (by kernel_rfl) (by kernel_rfl) (by kernel_rfl) l3 (by kernel_rfl) (by kernel_rfl) (by kernel_rfl) l4 (by kernel_rfl) (by kernel_rfl) (by kernel_rfl) l5 (by kernel_rfl) (by kernel_rfl) (by kernel_rfl) l6 (by kernel_rfl) (by kernel_rfl) (by kernel_rfl) l7 (by kernel_rfl) (by kernel_rfl) (by kernel_rfl) l8 (by kernel_rfl) (by kernel_rfl) (by kernel_rfl) l9 (by kernel_rfl) (by kernel_rfl) (by kernel_rfl) l10 (by kernel_rfl) (by kernel_rfl) (by kernel_rfl) l11 (by kernel_rfl) (by kernel_rfl) (by kernel_rfl) l13 (by kernel_rfl) (by kernel_rfl) (by kernel_rfl) l14 (by kernel_rfl) (by kernel_rfl) (by kernel_rfl) l15 (by kernel_rfl) (by kernel_rfl) (by kernel_rfl) l16 (by kernel_rfl) (by kernel_rfl) (by kernel_rfl) l17 (by kernel_rfl) (by kernel_rfl) (by kernel_rfl) l18 (by kernel_rfl) (by kernel_rfl) (by kernel_rfl) l20 (by kernel_rfl) (by kernel_rfl) (by kernel_rfl) l26 (by kernel_rfl) (by kernel_rfl) (by kernel_rfl) l27 (by kernel_rfl) (by kernel_rfl) (by kernel_rfl) l34 (by kernel_rfl) (by kernel_rfl) (by kernel_rfl) l35 (by kernel_rfl) (by kernel_rfl) (by kernel_rfl) l36 (by kernel_rfl) (by kernel_rfl) (by kernel_rfl) (by kernel_rfl) (by kernel_rfl) (by kernel_rfl) (by kernel_rfl) (by kernel_rfl) (by kernel_rfl) (by kernel_rfl) (by kernel_rfl) (by kernel_rfl) (by kernel_rfl) (by kernel_rfl) (by kernel_rfl) (by kernel_rfl) (by kernel_rfl) (by kernel_rfl)
  have e1:=hmg.symm.trans T.m36
  cases e1
  exact⟨_,hb,fun base _ _=>LK.za6 T LK.depth 36⟩
 case S=>exact fun K H a ns hl _ hS=>L2.LW.zrJ (LK.zh2 ns hl) hS
 case C=>exact fun _ _ _ _ z=>z
