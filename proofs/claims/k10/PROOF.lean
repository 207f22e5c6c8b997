import PyProof.Rows.All
import Wide.All
import OpenK.AllK
import Wide.FinOn
import Lean
import PyProof.EqAt
import PyProof.EqKinds
import PyProof.TupleCall
import PyProof.SeqI3
import KE.KTupSum
import KE.LcSums
import KE.KDictSum
import KE.KTryMore
import PyProof.ExcBaseAll.ValueError
import OpenK.KOwn
import KE.RegKTryMore
import KE.RegKIsAll
import PyProof.ListMulRoad
import PyProof.Draws
import PyProof.EnumStmt
import PyProof.EnumMake
import PyProof.StrLawsTight
import PyProof.StrLawsChain
import PyProof.Rows.StrNews
import PyProof.Rows.StrJoin2
import PyProof.Rows.EnumRows
import PyProof.FString
import KE.KRevIter
import PySem.Challenge.RW_leaperwalk_k10_cuts
set_option Elab.async false
set_option linter.all false
set_option maxRecDepth 100000
theorem jo1{a b:Type}{x:Option a}{f:a->Option b}{y:b}:x.bind f=some y↔∃z,x=some z/\f z=some y:=Option.bind_eq_some_iff
theorem jo2{a b:Type}{x:Option a}{f:a->b}{y:b}:x.map f=some y↔∃z,x=some z/\f z=y:=Option.map_eq_some_iff
set_option Elab.async false
set_option maxRecDepth 100000
namespace L2
open PySem PySem.Spec PyProof.Rows
noncomputable abbrev zy:=Sum Int Str
noncomputable def jX:zy->Value->Bool
 | .inl k,v=>Value.isInt k v
 | .inr x,v=>Value.isStrOf x v
noncomputable def zfp(w:World):zy->Int
 | .inl k=>hashInt k
 | .inr x=>hashStr w x
theorem vd: ∀{k:zy} {v:Value},jX k v=true->(∃i t,k=Sum.inl i/\v=Value.int i t)\/(∃x t,k=Sum.inr x/\v=Value.str x t)
 | .inl i,v,h=>by
  obtain⟨t,e⟩:=Value.isInt_shape (k:=i) (v:=v) h
  exact .inl ⟨i,t,rfl,e⟩
 | .inr x,v,h=>by
  obtain⟨t,e⟩:=Value.isStrOf_shape (x:=x) (v:=v) h
  exact .inr ⟨x,t,rfl,e⟩
theorem zfq(i:Int)(t:Tok):jX (.inl i) (.int i t)=true:=by simp[jX,Value.isInt]
theorem zfr(x:Str)(t:Tok):jX (.inr x) (.str x t)=true:=by simp[jX,Value.isStrOf]
theorem zfs(a b:Int):decide ((Sum.inl a:zy)=Sum.inl b)=(a==b):=by
 by_cases e:a=b
 ·subst e;simp
 ·have h: ¬(Sum.inl a:zy)=Sum.inl b:=fun q=>e (Sum.inl.inj q)
  rw[decide_eq_false h]
  exact (beq_eq_false_iff_ne.mpr e).symm
theorem zft(a b:Str):decide ((Sum.inr a:zy)=Sum.inr b)=decide (a=b):=by
 by_cases e:a=b
 ·subst e;simp
 ·have h: ¬(Sum.inr a:zy)=Sum.inr b:=fun q=>e (Sum.inr.inj q)
  rw[decide_eq_false h,decide_eq_false e]
theorem zfu(a:Int)(b:Str):decide ((Sum.inl a:zy)=Sum.inr b)=false:=decide_eq_false (fun q=>nomatch q)
theorem zfv(a:Str)(b:Int):decide ((Sum.inr a:zy)=Sum.inl b)=false:=decide_eq_false (fun q=>nomatch q)
noncomputable def zW(prog:Program)(w:World):PySem.KeyKind prog w zy where
 is:=jX
 hash:=zfp w
 inj:=fun v a b ha hb=>by
  rcases vd ha with ⟨i,t,rfl,rfl⟩|⟨x,t,rfl,rfl⟩
  ·rcases vd hb with ⟨j,u,rfl,e⟩|⟨y,u,rfl,e⟩
   ·injection e with e1 _;rw[e1]
   ·exact nomatch e
  ·rcases vd hb with ⟨j,u,rfl,e⟩|⟨y,u,rfl,e⟩
   ·exact nomatch e
   ·injection e with e1 _;rw[e1]
 byValue:=fun k v h=>by
  rcases vd h with ⟨i,t,rfl,rfl⟩|⟨x,t,rfl,rfl⟩<;>rfl
 pyHash:=fun hv h=>by
  rcases vd hv with ⟨i,t,rfl,rfl⟩|⟨x,t,rfl,rfl⟩
  ·exact wpAny_pyHash_int h
  ·exact wpAny_pyHash_str h
 eqBool:=fun hu hv h=>by
  rcases vd hu with ⟨i,t,rfl,rfl⟩|⟨x,t,rfl,rfl⟩
  ·rcases vd hv with ⟨j,u,rfl,rfl⟩|⟨y,u,rfl,rfl⟩
   ·rw[zfs] at h;exact wpAny_eqBool_int h
   ·rw[zfu] at h;exact SeqAt.EqAt.int_str i t y u _ _ _ _ h
  ·rcases vd hv with ⟨j,u,rfl,rfl⟩|⟨y,u,rfl,rfl⟩
   ·rw[zfv] at h;exact SeqAt.EqAt.str_int x t j u _ _ _ _ h
   ·rw[zft] at h;exact wpAny_eqBool_str h
 «strs»:=fun k x t v h=>by
  rcases vd h with ⟨i,u,rfl,e⟩|⟨y,u,rfl,e⟩
  ·exact nomatch e
  ·injection e with e1 _
   subst e1
   cases v<;>rfl
theorem zfw(prog:Program)(w:World)(i:Int)(t:Tok):(zW prog w).is (.inl i) (.int i t)=true:=zfq i t
theorem zfx(prog:Program)(w:World)(x:Str)(t:Tok):(zW prog w).is (.inr x) (.str x t)=true:=zfr x t
end L2
namespace L2
open PySem PySem.Spec PyProof.Rows
inductive V where
 |non|bl (b:Bool)|int (i:Int)|str (x:Str)|byt (b:Array UInt8)|flt (b:UInt64)|ref (a:Addr)|ty (n:String)
 deriving DecidableEq
noncomputable def RelV:V->Value->Prop
 | .non,u=>u=Value.none
 | .bl b,u=>u=Value.bool b
 | .int i,u=>∃t,u=Value.int i t
 | .str x,u=>∃t,u=Value.str x t
 | .byt b,u=>∃t,u=Value.bytes b t
 | .flt b,u=>∃t,u=Value.float b t
 | .ref a,u=>u=Value.ref a
 | .ty n,u=>u=Value.type n
noncomputable abbrev Vals:List V->List Value->Prop:=Paired RelV
theorem Vals.length{xs:List V}{us:List Value}(r:Vals xs us):xs.length=us.length:=Paired.length r
theorem Vals.get: ∀{xs:List V} {us:List Value} {i:Nat} {x:V},Vals xs us->xs[i]? =some x->∃u,us[i]? =some u/\RelV x u
 |_,_,_,_,.nil,e=>by simp at e
 |_,_,0,_,.cons r _,e=>by simp at e;subst e;exact⟨_,rfl,r⟩
 |_,_,i+1,x,.cons _ t,e=>by
  obtain⟨u,h1,h2⟩:=Vals.get (i:=i) (x:=x) t (by simpa using e)
  exact⟨u,by simpa using h1,h2⟩
theorem Vals.set{x:V}{u:Value}(r:RelV x u): ∀{xs:List V} {us:List Value} (i:Nat),Vals xs us->Vals (xs.set i x) (us.set i u)
 |_,_,_,.nil=>.nil
 |_,_,0,.cons _ t=>.cons r t
 |_,_,i+1,.cons q t=>.cons q (Vals.set r i t)
theorem Vals.append: ∀{xs ys:List V} {us ws:List Value},Vals xs us->Vals ys ws->Vals (xs++ys) (us++ws)
 |_,_,_,_,.nil,s=>s
 |_,_,_,_,.cons r t,s=>.cons r (Vals.append t s)
theorem Vals.take: ∀{xs:List V} {us:List Value} (n:Nat),Vals xs us->Vals (xs.take n) (us.take n)
 |_,_,0,_=>.nil
 |_,_,_+1,.nil=>.nil
 |_,_,n+1,.cons r t=>.cons r (Vals.take n t)
theorem Vals.drop: ∀{xs:List V} {us:List Value} (n:Nat),Vals xs us->Vals (xs.drop n) (us.drop n)
 |_,_,0,r=>r
 |_,_,_+1,.nil=>.nil
 |_,_,n+1,.cons _ t=>Vals.drop n t
noncomputable def RelO:Option V->Option Value->Prop
 |some v,some u=>RelV v u
 |none,none=>True
 |_,_=>False
noncomputable def KV{κ:Type}:List (κ×V)->List (κ×Value)->Prop:=Paired fun (p:κ×V) (q:κ×Value)=>p.1=q.1/\RelV p.2 q.2
noncomputable def kV:zy->V
 | .inl i=>.int i
 | .inr x=>.str x
inductive HO where
 |lst (xs:List V)
 |tup (xs:List V)
 |dK (kvs:List (zy×V))|dT (kvs:List (List zy×V))
 |set (S:Int->Bool) (n:Nat)
 |ins (C dx:Addr) (fs:List (Str×V))
 |own (x:Addr)
 |xd (fs:List (Str×V))
 |met (f x:Addr)
 |rng (lo hi:Int)
 |frz (o:Obj) (u:HO)
 |tbl (ps:Array Value)
 |ext (φ:Heap->Prop)
noncomputable abbrev Hp:=Addr->Option HO
noncomputable def zI(H:Hp)(a:Addr)(o:HO):Hp:=fun b=>if b=a then some o else H b
theorem yL{H:Hp}{a:Addr}{o:HO}:zI H a o a=some o:=by unfold zI;rw[if_pos rfl]
theorem zJ{H:Hp}{a b:Addr}{o:HO}(h:b≠a):zI H a o b=H b:=by unfold zI;rw[if_neg h]
theorem QD{H:Hp}{a b:Addr}{o u:HO}(h:H a=some o)(h':H b=some u)(d:o≠u):a≠b:=by
 intro e;subst e;rw[h] at h';exact d (Option.some.inj h')
theorem vR{H:Hp}{a b:Addr}{o:HO}(h:H a=some o)(h':H b=none):a≠b:=by
 intro e;subst e;rw[h] at h';cases h'
section
variable (P:Program) (w:World)
noncomputable def ObjOk(H:Hp)(h:Heap)(a:Addr):HO->Prop
 | .lst xs=>xs.length<=sizeLine/\∃(its:List Value) (n:Nat),Vals xs its/\h.get? a=some { cls:=.type "list",data:=.seq its.toArray n }
 | .tup xs=>xs.length<=sizeLine/\∃its:List Value,Vals xs its/\IsTup h a its.toArray
 | .dK kvs=>kvs.length<=sizeLine/\(a==sysModules)=false/\∃vs,KV kvs vs/\h.DictOf (zW P w) a vs
 | .dT kvs=>kvs.length<=sizeLine/\(a==sysModules)=false/\∃xs:List (List zy×Addr×Value),
   Paired (fun (p:List zy×V) (q:List zy×Addr×Value)=>p.1=q.1/\H q.2.1=some (.tup (p.1.map kV))/\RelV p.2 q.2.2) kvs xs/\
   ∃o es ep,h.get? a=some o/\o.ExactDict/\o.data= .dict es ep/\es.toList=xs.map (entryOfKey (tupleKind (zW P w)))/\(xs.map (·.1)).Nodup
 | .set S n=>h.SetOf (intKind P w) a S n
 | .ins C dx fs=>H dx=some (.own a)/\fs.length<=1000/\dx≠a/\h.get? a=some (PySem.W.instObj C dx)/\
   ∃mA,h.Ns1 dx mA/\(∀f,RelO (fs.lookup f) (mA f))/\PySem.Within mA (fs.map (·.1))
 | .own _=>∃o,h.get? a=some o
 | .xd fs=>∃mA,h.Ns1 a mA/\∀f,RelO (fs.lookup f) (mA f)
 | .rng lo hi=>∃t u v,h.get? a=some { cls:=.type "range",data:=.fields #[.int lo t,.int hi u,.int 1 v] }
 | .frz o u=>h.get? a=some o/\ObjOk H h a u
 | .tbl ps=>h.get? a=some { cls:=.none,data:=.fields ps }
 | .met f x=>h.get? a=some (PySem.W.methodObj (.ref f) (.ref x))
 | .ext φ=>φ h/\(∃o,h.get? a=some o)/\∀h1 h2:Heap,φ h1->(∀o,h1.get? a=some o->h2.get? a=some o)->φ h2
noncomputable def HOk(H:Hp)(h:Heap):Prop:=∀a o,H a=some o->ObjOk P w H h a o
end
section
variable {P:Program} {w:World} {H H':Hp} {h h':Heap} {a:Addr} {o:HO}
theorem ObjOk.lt(x:ObjOk P w H h a o):a<h.objs.size:=by
 cases o with
 |lst xs=>obtain⟨_,_,_,_,e⟩:=x;exact Heap.lt_size e
 |tup xs=>obtain⟨_,_,_,p⟩:=x;exact p.lt
 |dK kvs=>obtain⟨_,_,_,_,o,_,_,e,_⟩:=x;exact Heap.lt_size e
 |dT kvs=>obtain⟨_,_,_,_,o,_,_,e,_⟩:=x;exact Heap.lt_size e
 |set S n=>obtain⟨o,_,_,_,e,_⟩:=x;exact Heap.lt_size e
 |ins C dx fs=>obtain⟨_,_,_,e,_⟩:=x;exact Heap.lt_size e
 |own y=>obtain⟨_,e⟩:=x;exact Heap.lt_size e
 |xd fs=>obtain⟨_,⟨_,_,_,e,_⟩,_⟩:=x;exact Heap.lt_size e
 |rng lo hi=>obtain⟨_,_,_,e⟩:=x;exact Heap.lt_size e
 |frz ob u=>obtain⟨e,_⟩:=x;exact Heap.lt_size e
 |tbl ps=>exact Heap.lt_size (show h.get? a=some _ from x)
 |met f y=>exact Heap.lt_size (show h.get? a=some _ from x)
 |ext φ=>obtain⟨_,⟨_,e⟩,_⟩:=x;exact Heap.lt_size e
theorem Paired.mapP{α β:Type}{F G:α->β->Prop}: ∀{l₁:List α} {l₂:List β},Paired F l₁ l₂->(∀a b,F a b->G a b)->Paired G l₁ l₂
 |_,_,.nil,_=>.nil
 |_,_,.cons r t,f=>.cons (f _ _ r) (Paired.mapP t f)
theorem Paired.imp'{α β:Type}{F G:α->β->Prop}(f: ∀a b,F a b->G a b){l₁:List α}{l₂:List β}(r:Paired F l₁ l₂):Paired G l₁ l₂:=Paired.mapP r f
theorem ObjOk.stay(x:ObjOk P w H h a o)(k: ∀b u,(b=a\/H b=some (.own a))->h.get? b=some u->h'.get? b=some u)
  (ho: ∀b,H b=some (.own a)->H' b=some (.own a)) (ht: ∀b xs,H b=some (.tup xs)->H' b=some (.tup xs)):ObjOk P w H' h' a o:=by
 induction o with
 |lst xs=>obtain⟨z,its,n,r,e⟩:=x;exact⟨z,its,n,r,k _ _ (.inl rfl) e⟩
 |tup xs=>obtain⟨z,its,r,ob,e,c⟩:=x;exact⟨z,its,r,ob,k _ _ (.inl rfl) e,c⟩
 |dK kvs=>obtain⟨z,y,vs,r,ob,es,ep,e,c⟩:=x;exact⟨z,y,vs,r,ob,es,ep,k _ _ (.inl rfl) e,c⟩
 |dT kvs=>
  obtain⟨z,y,xs,r,ob,es,ep,e,c⟩:=x
  exact⟨z,y,xs,Paired.mapP r fun p q z=>⟨z.1,ht _ _ z.2.1,z.2.2⟩,ob,es,ep,k _ _ (.inl rfl) e,c⟩
 |set S n=>obtain⟨ob,es,ep,t,e,c⟩:=x;exact⟨ob,es,ep,t,k _ _ (.inl rfl) e,c⟩
 |ins C dx fs=>
  obtain⟨d,z,ne,e,mA,⟨od,es,ep,e2,c⟩,r⟩:=x
  exact⟨ho _ d,z,ne,k _ _ (.inl rfl) e,mA,⟨od,es,ep,k _ _ (.inr d) e2,c⟩,r⟩
 |own y=>obtain⟨ob,e⟩:=x;exact⟨ob,k _ _ (.inl rfl) e⟩
 |xd fs=>obtain⟨mA,⟨od,es,ep,e,c⟩,r⟩:=x;exact⟨mA,⟨od,es,ep,k _ _ (.inl rfl) e,c⟩,r⟩
 |rng lo hi=>obtain⟨t,u,v,e⟩:=x;exact⟨t,u,v,k _ _ (.inl rfl) e⟩
 |frz ob u ih=>obtain⟨e,q⟩:=x;exact⟨k _ _ (.inl rfl) e,ih q⟩
 |tbl ps=>
  have e:h.get? a=some { cls:=.none,data:=.fields ps }:=x
  show h'.get? a=some { cls:=.none,data:=.fields ps }
  exact k a _ (.inl rfl) e
 |met f y=>
  have e:h.get? a=some (PySem.W.methodObj (.ref f) (.ref y)):=x
  show h'.get? a=some (PySem.W.methodObj (.ref f) (.ref y))
  exact k a _ (.inl rfl) e
 |ext φ=>obtain⟨p,⟨o,e⟩,st⟩:=x;exact⟨st _ _ p fun o q=>k _ _ (.inl rfl) q,⟨o,k _ _ (.inl rfl) e⟩,st⟩
theorem HOk.lt(x:HOk P w H h)(e:H a=some o):a<h.objs.size:=(x a o e).lt
theorem HOk.fresh(x:HOk P w H h)(e:h.objs.size<=a):H a=none:=by
 cases q:H a with
 |none=>rfl
 |some u=>exact absurd (Nat.lt_of_lt_of_le (x.lt q) e) (Nat.lt_irrefl _)
theorem HOk.kept(x:HOk P w H h)(k: ∀b u,h.get? b=some u->h'.get? b=some u):HOk P w H h':=fun a o e=>
 (x a o e).stay (fun b u _ q=>k b u q) (fun _ q=>q) fun _ _ q=>q
theorem HOk.laid(x:HOk P w H h)(k: ∀b u,h.get? b=some u->h'.get? b=some u)(hp:h.objs.size<=a)(new:ObjOk P w (zI H a o) h' a o):HOk P w (zI H a o) h':=fun b u e=>by
 have hn:=x.fresh hp
 by_cases hb:b=a
 ·subst hb;rw[yL] at e;cases e;exact new
 ·rw[zJ hb] at e
  exact (x b u e).stay (fun c v _ q=>k c v q) (fun c q=>by rw[zJ (vR q hn)];exact q) fun c xs q=>by rw[zJ (vR q hn)];exact q
end
noncomputable def Rd(H:Hp)(a:Addr)(u:HO):Prop:=H a=some u\/∃o,H a=some (.frz o u)
theorem Rd.of{H:Hp}{a:Addr}{u:HO}(h:H a=some u):Rd H a u:=.inl h
theorem Rd.ok{P:Program}{w:World}{H:Hp}{h:Heap}{a:Addr}{u:HO}(r:Rd H a u)(x:HOk P w H h):ObjOk P w H h a u:=by
 rcases r with r|⟨o,r⟩
 ·exact x a u r
 ·obtain⟨_,q⟩:=x a _ r
  exact q
noncomputable def Ya:Option HO->Prop
 |some (.lst _)=>True
 |some (.dK _)=>True
 |some (.dT _)=>True
 |some (.set _ _)=>True
 |some (.ins _ _ _)=>True
 |some (.ext _)=>True
 |_=>False
section
variable {P:Program} {w:World} {H:Hp} {h h':Heap} {x e:Addr} {o':HO}
theorem HOk.write(ok:HOk P w H h)(mu:Ya (H x))(he:e=x\/H e=some (.own x))(k: ∀b u,b≠e->h.get? b=some u->h'.get? b=some u)(heo: ∃u,h'.get? e=some u)
  (new:ObjOk P w (zI H x o') h' x o'):HOk P w (zI H x o') h':=fun b u q=>by
 have nown: ∀c y,H c=some (.own y)->c≠x:=fun c y r z=>by subst z;rw[r] at mu;exact mu
 have ntup: ∀c xs,H c=some (.tup xs)->c≠x:=fun c xs r z=>by subst z;rw[r] at mu;exact mu
 by_cases hb:b=x
 ·subst hb;rw[yL] at q;cases q;exact new
 ·rw[zJ hb] at q
  by_cases hbe:b=e
  ·have q':H b=some (.own x):=by
    rcases he with z|z
    ·exact absurd (hbe.trans z) hb
    ·rw[hbe];exact z
   rw[q] at q';cases q'
   obtain⟨v,hv⟩:=heo
   exact⟨v,by rw[hbe];exact hv⟩
  ·refine (ok b u q).stay (fun c v hc r=>k c v ?_ r) (fun c r=>by rw[zJ (nown c b r)];exact r) fun c xs r=>by rw[zJ (ntup c xs r)];exact r
   rcases hc with rfl|hc
   ·exact hbe
   ·rintro rfl
    rcases he with z|z
    ·exact nown c b hc z
    ·rw[hc] at z;cases z;exact hb rfl
end
structure Un (fs ex:List Addr)(H H':Hp)(h h':Heap):Prop where
 keep: ∀b o,h.get? b=some o->H b=none->b∉fs->b∉ex->h'.get? b=some o
 slot: ∀b o,h.get? b=some o->H b=none->b∈fs->b∉ex->∃sl,h'.get? b=some { o with slots:=sl }
 free: ∀b o,h.get? b=some o->H b=none->b∉ex->H' b=none
 there: ∀b o,h.get? b=some o->b∉ex->∃o',h'.get? b=some o'
 tups: ∀b xs,H b=some (.tup xs)->H' b=some (.tup xs)
 frzs: ∀b o u,H b=some (.frz o u)->H' b=some (.frz o u)
 tbls: ∀b ps,H b=some (.tbl ps)->∃more,H' b=some (.tbl (ps++more))
section
variable {fs fs' ex ex':List Addr} {H H1 H2:Hp} {h h1 h2 h':Heap} {a x e:Addr} {o:HO}
theorem Un.any(u:Un fs ex H H1 h h1){b:Addr}{ob:Obj}(q:h.get? b=some ob)(n:H b=none)(hx:b∉ex): ∃sl,h1.get? b=some { ob with slots:=sl }:=by
 by_cases hb:b∈fs
 ·exact u.slot b ob q n hb hx
 ·exact⟨ob.slots,u.keep b ob q n hb hx⟩
theorem Un.trans(a:Un fs ex H H1 h h1)(b:Un fs ex H1 H2 h1 h2):Un fs ex H H2 h h2 where
 keep:=fun c ob q n hc hx=>b.keep c ob (a.keep c ob q n hc hx) (a.free c ob q n hx) hc hx
 slot:=fun c ob q n hc hx=>by
  obtain⟨sl,e1⟩:=a.slot c ob q n hc hx
  obtain⟨sl',e2⟩:=b.slot c _ e1 (a.free c ob q n hx) hc hx
  exact⟨sl',e2⟩
 free:=fun c ob q n hx=>by
  obtain⟨o',e1⟩:=a.there c ob q hx
  exact b.free c o' e1 (a.free c ob q n hx) hx
 there:=fun c ob q hx=>by
  obtain⟨o',e1⟩:=a.there c ob q hx
  exact b.there c o' e1 hx
 tups:=fun c xs q=>b.tups c xs (a.tups c xs q)
 frzs:=fun c ob xs q=>b.frzs c ob xs (a.frzs c ob xs q)
 tbls:=fun c ps q=>by
  obtain⟨m1,e1⟩:=a.tbls c ps q
  obtain⟨m2,e2⟩:=b.tbls c _ e1
  exact⟨m1++m2,by rw[e2,Array.append_assoc]⟩
theorem Un.kept(k: ∀b u,h.get? b=some u->h'.get? b=some u):Un fs ex H H h h':=
 ⟨fun b ob q _ _ _=>k b ob q,fun b ob q _ _ _=>⟨ob.slots,k b ob q⟩,fun _ _ _ n _=>n,fun b ob q _=>⟨ob,k b ob q⟩,fun _ _ q=>q,fun _ _ _ q=>q,fun _ ps q=>⟨#[],by rw[q];simp⟩⟩
theorem Un.refl:Un fs ex H H h h:=Un.kept fun _ _ q=>q
theorem Un.laid(k: ∀b u,h.get? b=some u->h'.get? b=some u)(hp:h.objs.size<=a)(hn:H a=none):Un fs ex H (zI H a o) h h' where
 keep:=fun b u q _ _ _=>k b u q
 slot:=fun b u q _ _ _=>⟨u.slots,k b u q⟩
 free:=fun b u q n _=>by rw[zJ (Nat.ne_of_lt (Nat.lt_of_lt_of_le (Heap.lt_size q) hp))];exact n
 there:=fun b u q _=>⟨u,k b u q⟩
 tups:=fun b xs q=>by rw[zJ (vR q hn)];exact q
 frzs:=fun b u xs q=>by rw[zJ (vR q hn)];exact q
 tbls:=fun b ps q=>⟨#[],by rw[zJ (vR q hn),q];simp⟩
theorem Un.write(mu:Ya (H x))(he:e=x\/H e=some (.own x))(k: ∀b u,b≠e->h.get? b=some u->h'.get? b=some u)(heo: ∃u,h'.get? e=some u):Un fs ex H (zI H x o) h h':=by
 have hx: ∀b,H b=none->b≠x:=fun b n z=>by subst z;rw[n] at mu;exact mu
 have hb: ∀b,H b=none->b≠e:=fun b n z=>by
  subst z
  rcases he with r|r
  ·exact hx b n r
  ·rw[n] at r;cases r
 have hm: ∀b u,H b=some u->¬Ya (some u)->b≠x:=fun b u q nm z=>by subst z;rw[q] at mu;exact nm mu
 refine⟨fun b u q n _ _=>k b u (hb b n) q,fun b u q n _ _=>⟨u.slots,k b u (hb b n) q⟩,fun b u q n _=>by rw[zJ (hx b n)];exact n,fun b u q _=>?_,
  fun b xs q=>by rw[zJ (hm b _ q fun z=>z)];exact q,fun b u xs q=>by rw[zJ (hm b _ q fun z=>z)];exact q,fun b ps q=>⟨#[],by rw[zJ (hm b _ q fun z=>z),q];simp⟩⟩
 by_cases hbe:b=e
 ·subst hbe;exact heo
 ·exact⟨u,k b u hbe q⟩
theorem Un.mono(u:Un fs ex H H1 h h1)(hs: ∀b∈fs,b∈fs')(hx: ∀b∈ex,b∈ex'):Un fs' ex' H H1 h h1:=
 ⟨fun b ob q n hb he=>u.keep b ob q n (fun z=>hb (hs b z)) fun z=>he (hx b z),fun _ _ q n _ he=>u.any q n fun z=>he (hx _ z),fun b ob q n he=>u.free b ob q n fun z=>he (hx b z),fun b ob q he=>u.there b ob q fun z=>he (hx b z),u.tups,u.frzs,u.tbls⟩
end
noncomputable def Vq(h:Heap)(H:Hp):List Addr:=(List.range h.objs.size).filter fun a=>(H a).isSome
noncomputable def vD(h:Heap)(H:Hp):Heap:=PySem.W.hideAll h (Vq h H)
theorem zfy(h:Heap)(H:Hp):(vD h H).objs.size=h.objs.size:=PySem.W.hideAll_size _ _
theorem zfz{h:Heap}{H:Hp}{b:Addr}{o:Obj}(e:h.get? b=some o)(n:H b=none):(vD h H).get? b=some o:=
 PySem.W.hideAll_get _ e fun hm=>by
  have q:(H b).isSome=true:=(List.mem_filter.mp hm).2
  rw[n] at q;simp at q
theorem zfA{h:Heap}{H:Hp}{b:Addr}{o:Obj}(e:(vD h H).get? b=some o):h.get? b=some o/\H b=none:=by
 have e':h.get? b=some o:=PySem.W.of_hideAll (Vq h H) e
 refine⟨e',?_⟩
 cases q:H b with
 |none=>rfl
 |some x=>
  have hm:b∈Vq h H:=List.mem_filter.mpr ⟨List.mem_range.mpr (Heap.lt_size e'),by simp[q]⟩
  have z:(vD h H).get? b=none:=PySem.W.hideAll_none (Vq h H) hm
  rw[z] at e;cases e
noncomputable def gO(g h:Heap)(L:Addr):List (Addr×Obj):=(List.range h.objs.size).filterMap fun a=>if a=L\/(g.get? a).isSome=true then none else (h.get? a).map fun o=>(a,o)
theorem zfB{g h:Heap}{L a:Addr}{o:Obj}(h1:a≠L)(h2:g.get? a=none)(h3:h.get? a=some o):(a,o)∈gO g h L:=
 List.mem_filterMap.mpr ⟨a,List.mem_range.mpr (Heap.lt_size h3),by simp[h1,h2,h3]⟩
noncomputable def zT(g h:Heap)(L d:Addr):List (Addr×Obj):=(gO g h L).filter fun p=>decide (p.1≠d)
theorem rest_ne{g h:Heap}{L d:Addr}: ∀p∈zT g h L d,p.1≠d:=fun p hp=>of_decide_eq_true (List.mem_filter.mp hp).2
theorem mem_rest{g h:Heap}{L d a:Addr}{o:Obj}(h1:a≠L)(h2:g.get? a=none)(h3:h.get? a=some o)(h4:a≠d):(a,o)∈zT g h L d:=
 List.mem_filter.mpr ⟨zfB h1 h2 h3,decide_eq_true h4⟩
end L2
namespace L2
open PySem PySem.Spec PyProof.Rows
structure Mod (K:PySem.W.Frag)(mg:Str->Option Value)(base:Heap):Prop where
 kin:K.In base
 glob:base.Ns mainGlobals mg
 blt: ∃mb,base.Ns builtinsNs mb/\∀x:Str,x≠"__name__"->mb x=bootBuiltins x
 nolimit:base.NoLimit
structure Cx where
 prog:Program
 w:World
 K:PySem.W.Frag
 mg:Str->Option Value
 base:Heap
 A:Around
 N:List Str
 s₀:Shared
 H₀:Hp
 env:Env
 outer:List Env
 stack:List Env
 ex:List Addr
 fn:Str->Bool
 calm:Bool
 pn:List (Addr×Obj)
 xe:Value->Shared->Prop
noncomputable def wy(l:List Env):List Addr:=l.filterMap (·.frame)
noncomputable abbrev Cx.fs(X:Cx):List Addr:=wy X.outer
noncomputable def zn(sc:Scope)(x:Str):Prop:=sc.names.lookup x=some .local\/sc.names.lookup x=some .cell\/sc.names.lookup x=some .free
noncomputable def zM(sc:Scope)(x:Str):Prop:=sc.names.lookup x=some .local\/sc.names.lookup x=some .cell
noncomputable def zfC(env:Env)(h:Heap)(m:Str->Option Value)(x:Str)(u:Value):Prop:=
 (env.kindOf x=some .local/\m x=some u)\/((env.kindOf x=some .cell\/env.kindOf x=some .free)/\∃c,env.cells.lookup x=some c/\h.IsCell c (some u))
structure Cx.Ok (X:Cx):Prop where
 mod:Mod X.K X.mg X.base
 kind:X.env.scope.kind= .function
 glob:X.env.globals=mainGlobals
 blt:X.env.builtins=builtinsNs
 above:X.s₀.heap.objs.size<=X.env.locals
 inj: ∀x y c,X.env.cells.lookup x=some c->X.env.cells.lookup y=some c->x=y
 has: ∀x,(X.env.kindOf x=some .cell\/X.env.kindOf x=some .free)->∃c,X.env.cells.lookup x=some c
 cab: ∀x c,X.fn x=true->X.env.cells.lookup x=some c->X.s₀.heap.objs.size<=c
 hd:X.calm=true->X.A.handled=none
 frames:X.A.frames=some X.stack
 stk:X.stack=X.outer\/(X.stack=X.env::X.outer/\X.env.frame=some X.env.locals)
 exf: ∀b∈X.ex,b≠X.env.locals/\∀x c,X.env.cells.lookup x=some c->c≠b
 bs: ∀b o,X.base.get? b=some o->X.s₀.heap.get? b=some o/\X.H₀ b=none
 bsz:X.base.objs.size<=X.s₀.heap.objs.size
 noex: ∀b o,X.base.get? b=some o->b∉X.ex
 exfs: ∀b∈X.ex,b∉X.fs
 funs:X.s₀.heap.FunFrames X.base X.outer
 frf: ∀b∈X.fs,X.H₀ b=none
structure Inv (X:Cx)(pins:List (Addr×Obj))(σ:List (Option V))(H:Hp)(s:Shared):Prop where
 ok:X.Ok
 os:s.os=X.s₀.os
 bare:AllBare s.gens
 base:Un X.fs X.ex X.H₀ H X.s₀.heap s.heap
 loc: ∃m,s.heap.Ns X.env.locals m/\∀(i:Nat) (x:Str) (v:V),X.N[i]? =some x->σ[i]? =some (some v)->zn X.env.scope x->∃u,RelV v u/\zfC X.env s.heap m x u
 cell: ∀x c,X.env.cells.lookup x=some c->∃v,s.heap.IsCell c v
 free:H X.env.locals=none
 freeC: ∀x c,X.env.cells.lookup x=some c->H c=none
 pin: ∀p∈X.pn++pins,s.heap.get? p.1=some p.2/\H p.1=none/\p.1≠X.env.locals/\p.1∉X.fs/\∀v,p.2.data≠ .cell v
 hok:HOk X.prog X.w H s.heap
 len:σ.length=X.N.length
section
variable {X:Cx} {pins:List (Addr×Obj)} {σ:List (Option V)} {H H':Hp} {s:Shared} {h':Heap}
theorem Cx.Ok.nofr(ok:X.Ok){b:Addr}{o:Obj}(e:X.base.get? b=some o):b∉X.fs:=fun hb=>by
 have:=(ok.funs.mem hb).1
 rw[e] at this;cases this
theorem Inv.bs(I:Inv X pins σ H s): ∀b o,X.base.get? b=some o->s.heap.get? b=some o/\H b=none:=fun b o e=>
 ⟨I.base.keep b o (I.ok.bs b o e).1 (I.ok.bs b o e).2 (I.ok.nofr e) (I.ok.noex b o e),I.base.free b o (I.ok.bs b o e).1 (I.ok.bs b o e).2 (I.ok.noex b o e)⟩
theorem Inv.bk(I:Inv X pins σ H s): ∀b o,X.base.get? b=some o->s.heap.get? b=some o:=fun b o e=>(I.bs b o e).1
theorem Inv.mod(I:Inv X pins σ H s):Mod X.K X.mg X.base:=I.ok.mod
theorem Inv.kIn(I:Inv X pins σ H s):X.K.In s.heap:=I.ok.mod.kin.keeps I.bk
theorem Inv.nolimit(I:Inv X pins σ H s):s.heap.NoLimit:=I.ok.mod.nolimit.keeps I.bk
theorem Inv.fr(I:Inv X pins σ H s): ∃m,Fr X.base X.env.locals s.heap m:=
 let ⟨m,hn,_⟩:=I.loc
 ⟨m,hn,I.bk,Nat.le_trans I.ok.bsz I.ok.above⟩
theorem Inv.lt(I:Inv X pins σ H s):X.env.locals<s.heap.objs.size:=let ⟨_,hn,_⟩:=I.loc;hn.lt
theorem Inv.sz(I:Inv X pins σ H s):X.s₀.heap.objs.size<=s.heap.objs.size:=Nat.le_trans I.ok.above (Nat.le_of_lt I.lt)
theorem Inv.nofs(I:Inv X pins σ H s){a:Addr}(h:s.heap.objs.size<=a):a∉X.fs:=fun hb=>by
 obtain⟨_,o,ho,_⟩:=I.ok.funs.mem hb
 exact absurd (Nat.lt_of_lt_of_le (Heap.lt_size ho) (Nat.le_trans I.sz h)) (Nat.lt_irrefl _)
theorem Inv.cne(I:Inv X pins σ H s): ∀x c,X.env.cells.lookup x=some c->c≠X.env.locals:=fun x c e z=>by
 obtain⟨v,o,ho,hd⟩:=I.cell x c e
 obtain⟨m,⟨o',es,ep,ho',hd',_⟩,_⟩:=I.loc
 rw[z,ho'] at ho;cases ho;rw[hd'] at hd;cases hd
theorem Inv.funs(I:Inv X pins σ H s):s.heap.FunFrames X.base X.outer:=by
 have all: ∀(l:List Env),(∀b∈wy l,b∈X.fs)->X.s₀.heap.FunFrames X.base l->s.heap.FunFrames X.base l:=by
  intro l
  induction l with
  |nil=>intro _ _;trivial
  |cons env r ih=>
   intro hs hl
   obtain⟨hk,⟨L,o,hf,hn,ho,hd⟩,hr⟩:=hl
   have hL:L∈X.fs:=hs L (by unfold wy;rw[List.filterMap_cons,hf];exact List.mem_cons_self)
   obtain⟨sl,e⟩:=I.base.slot L o ho (I.ok.frf L hL) hL fun z=>I.ok.exfs L z hL
   exact⟨hk,⟨L,_,hf,hn,e,hd⟩,ih (fun b hb=>hs b (by unfold wy;rw[List.filterMap_cons,hf];exact List.mem_cons_of_mem _ hb)) hr⟩
 exact all X.outer (fun _ hb=>hb) I.ok.funs
theorem Inv.stack(I:Inv X pins σ H s):s.heap.FunFrames X.base X.stack:=by
 rcases I.ok.stk with e|⟨e,hf⟩
 ·rw[e];exact I.funs
 ·rw[e]
  obtain⟨m,hn,_⟩:=I.loc
  refine .cons (by rw[I.ok.kind];decide) hf hn ?_ I.funs
  exact Heap.get?_none_of_le (Nat.le_trans I.ok.bsz I.ok.above)
theorem Inv.stkSub(I:Inv X pins σ H s): ∀b∈wy X.stack,b∈X.env.locals::X.fs:=fun b hb=>by
 rcases I.ok.stk with e|⟨e,hf⟩
 ·rw[e] at hb;exact List.mem_cons_of_mem _ hb
 ·rw[e] at hb
  unfold wy at hb
  rw[List.filterMap_cons,hf] at hb
  exact hb
theorem Inv.stkFree(I:Inv X pins σ H s): ∀b∈wy X.stack,H b=none:=fun b hb=>by
 rcases List.mem_cons.mp (I.stkSub b hb) with e|hb
 ·rw[e];exact I.free
 ·obtain⟨_,o,ho,_⟩:=I.ok.funs.mem hb
  exact I.base.free b o ho (I.ok.frf b hb) fun z=>I.ok.exfs b z hb
theorem Inv.step{g':Array GenState}{t':Nat}{d':Drawn}{ch:List Addr}(I:Inv X pins σ H s)
  (hch: ∀b∈ch,(b∈X.ex\/X.s₀.heap.objs.size<=b)/\b≠X.env.locals/\(∀x c,X.env.cells.lookup x=some c->c≠b)/\∀p∈X.pn++pins,p.1≠b)
  (keep: ∀b o,b≠X.env.locals->b∉X.fs->b∉ch->s.heap.get? b=some o->H b=none->h'.get? b=some o)
  (slot: ∀b o,b≠X.env.locals->b∈X.fs->b∉ch->s.heap.get? b=some o->H b=none->∃sl,h'.get? b=some { o with slots:=sl }) (free: ∀b o,b∉ch->s.heap.get? b=some o->H b=none->H' b=none)
  (there: ∀b o,b∉ch->s.heap.get? b=some o->∃o',h'.get? b=some o')
  (tups: ∀b xs,H b=some (.tup xs)->H' b=some (.tup xs)) (frzs: ∀b o u,H b=some (.frz o u)->H' b=some (.frz o u)) (tbls: ∀b ps,H b=some (.tbl ps)->∃more,H' b=some (.tbl (ps++more)))
  (ns: ∀m,s.heap.Ns X.env.locals m->h'.Ns X.env.locals m) (hok:HOk X.prog X.w H' h') (hg:AllBare g'):
  Inv X pins σ H' { s with heap:=h',gens:=g',drawn:=d',toks:=t' }:=by
 have neL: ∀b o,X.s₀.heap.get? b=some o->b≠X.env.locals:=fun b o e=>Nat.ne_of_lt (Nat.lt_of_lt_of_le (Heap.lt_size e) I.ok.above)
 have neC: ∀b o,X.s₀.heap.get? b=some o->b∉X.ex->b∉ch:=fun b o e hx hb=>by
  rcases (hch b hb).1 with z|z
  ·exact hx z
  ·exact absurd (Nat.lt_of_lt_of_le (Heap.lt_size e) z) (Nat.lt_irrefl _)
 have cellK: ∀x c,X.env.cells.lookup x=some c->∀v,s.heap.IsCell c v->h'.IsCell c v:=fun x c e v ⟨o,ho,hd⟩=>by
  have nch:c∉ch:=fun z=>(hch c z).2.2.1 x c e rfl
  by_cases hc:c∈X.fs
  ·obtain⟨sl,q⟩:=slot c o (I.cne x c e) hc nch ho (I.freeC x c e)
   exact⟨_,q,hd⟩
  ·exact⟨o,keep c o (I.cne x c e) hc nch ho (I.freeC x c e),hd⟩
 refine⟨I.ok,I.os,hg,⟨fun b o e n hb hx=>?_,fun b o e n hb hx=>?_,fun b o e n hx=>?_,fun b o e hx=>?_,fun b xs e=>tups b xs (I.base.tups b xs e),fun b o xs e=>frzs b o xs (I.base.frzs b o xs e),fun b ps e=>?_⟩,?_,fun x c e=>?_,?_,fun x c e=>?_,fun p hp=>?_,hok,I.len⟩
 ·exact keep b o (neL b o e) hb (neC b o e hx) (I.base.keep b o e n hb hx) (I.base.free b o e n hx)
 ·obtain⟨sl,e1⟩:=I.base.slot b o e n hb hx
  obtain⟨sl',e2⟩:=slot b _ (neL b o e) hb (neC b o e hx) e1 (I.base.free b o e n hx)
  exact⟨sl',e2⟩
 ·obtain⟨o',e1⟩:=I.base.there b o e hx
  exact free b o' (neC b o e hx) e1 (I.base.free b o e n hx)
 ·obtain⟨o',e1⟩:=I.base.there b o e hx
  exact there b o' (neC b o e hx) e1
 ·obtain⟨m1,e1⟩:=I.base.tbls b ps e
  obtain⟨m2,e2⟩:=tbls b _ e1
  exact⟨m1++m2,by rw[e2,Array.append_assoc]⟩
 ·obtain⟨m,hn,hl⟩:=I.loc
  refine⟨m,ns m hn,fun i x v e1 e2 e3=>?_⟩
  obtain⟨u,r,l⟩:=hl i x v e1 e2 e3
  refine⟨u,r,?_⟩
  rcases l with l|⟨k,c,e,z⟩
  ·exact .inl l
  ·exact .inr ⟨k,c,e,cellK x c e _ z⟩
 ·obtain⟨v,z⟩:=I.cell x c e
  exact⟨v,cellK x c e v z⟩
 ·obtain⟨m,⟨o,_,_,ho,_⟩,_⟩:=I.loc
  exact free _ o (fun z=>(hch _ z).2.1 rfl) ho I.free
 ·obtain⟨v,o,ho,hd⟩:=I.cell x c e
  exact free c o (fun z=>(hch c z).2.2.1 x c e rfl) ho (I.freeC x c e)
 ·obtain⟨e,n,ne,nf,d⟩:=I.pin p hp
  have nch:p.1∉ch:=fun z=>(hch p.1 z).2.2.2 p hp rfl
  exact⟨keep p.1 p.2 ne nf nch e n,free p.1 p.2 nch e n,ne,nf,d⟩
theorem Inv.un{t':Nat}(I:Inv X pins σ H s)(u:Un X.fs [] H H' s.heap h')(hok:HOk X.prog X.w H' h'):Inv X pins σ H' { s with heap:=h',toks:=t' }:=by
 obtain⟨m,⟨o,es,ep,ho,r⟩,_⟩:=id I.loc
 obtain⟨sl,hL⟩:=u.any ho I.free (by simp)
 exact I.step (g':=s.gens) (d':=s.drawn) (ch:=[]) (fun _ z=>nomatch z) (fun b o _ hb _ e n=>u.keep b o e n hb (by simp)) (fun b o _ hb _ e n=>u.slot b o e n hb (by simp)) (fun b o _ e n=>u.free b o e n (by simp)) (fun b o _ e=>u.there b o e (by simp)) u.tups u.frzs u.tbls (fun m' hm=>by
  obtain⟨o',es',ep',ho',r'⟩:=hm
  rw[ho] at ho';cases ho'
  exact⟨_,es',ep',hL,r'⟩) hok I.bare
theorem Inv.call{g':Array GenState}{t':Nat}{d':Drawn}{ch:List Addr}(I:Inv X pins σ H s)(u:Un (wy X.stack) ch H H' s.heap h')(hok:HOk X.prog X.w H' h')(hg:AllBare g')
  (hch: ∀b∈ch,(b∈X.ex\/X.s₀.heap.objs.size<=b)/\b≠X.env.locals/\(∀x c,X.env.cells.lookup x=some c->c≠b)/\∀p∈X.pn++pins,p.1≠b):
  Inv X pins σ H' { s with heap:=h',gens:=g',drawn:=d',toks:=t' }:=by
 obtain⟨m,⟨o,es,ep,ho,r⟩,_⟩:=id I.loc
 obtain⟨sl,hL⟩:=u.any ho I.free fun z=>(hch _ z).2.1 rfl
 exact I.step (ch:=ch) hch (fun b o hL hb hc e n=>u.keep b o e n (fun z=>(List.mem_cons.mp (I.stkSub b z)).elim hL hb) hc) (fun b o _ _ hc e n=>u.any e n hc) (fun b o hc e n=>u.free b o e n hc) (fun b o hc e=>u.there b o e hc) u.tups u.frzs u.tbls (fun m' hm=>by
  obtain⟨o',es',ep',ho',r'⟩:=hm
  rw[ho] at ho';cases ho'
  exact⟨_,es',ep',hL,r'⟩) hok hg
theorem Inv.turned{t':Nat}{it:Addr}(I:Inv X pins σ H s)(k: ∀b o,b≠it->s.heap.get? b=some o->h'.get? b=some o)(hn:H it=none)(hL:it≠X.env.locals)
  (h1:it∈X.ex\/X.s₀.heap.objs.size<=it) (h2: ∀x c,X.env.cells.lookup x=some c->c≠it) (h3: ∀p∈X.pn++pins,p.1≠it):Inv X pins σ H { s with heap:=h',toks:=t' }:=by
 have nit: ∀b u,H b=some u->b≠it:=fun b u e z=>by rw[z,hn] at e;cases e
 refine I.step (g':=s.gens) (d':=s.drawn) (ch:=[it]) (fun b hb=>?_) (fun b o _ _ hc e _=>k b o (fun z=>hc (by simp[z])) e) (fun b o _ _ hc e _=>⟨o.slots,k b o (fun z=>hc (by simp[z])) e⟩) (fun _ _ _ _ n=>n)
  (fun b o hc e=>⟨o,k b o (fun z=>hc (by simp[z])) e⟩) (fun _ _ e=>e) (fun _ _ _ e=>e) (fun b ps e=>⟨#[],by rw[e];simp⟩) (fun m hm=>?_) (fun b u e=>?_) I.bare
 ·have e:b=it:=by simpa using hb
  subst e
  exact⟨h1,hL,h2,h3⟩
 ·obtain⟨o,es,ep,ho,r⟩:=hm
  exact⟨o,es,ep,k _ o (Ne.symm hL) ho,r⟩
 ·refine (I.hok b u e).stay (fun c v hc q=>k c v ?_ q) (fun _ q=>q) fun _ _ q=>q
  rcases hc with z|z
  ·rw[z];exact nit b u e
  ·exact nit c _ z
theorem Inv.tok(I:Inv X pins σ H s)(t:Nat):Inv X pins σ H { s with toks:=t }:=I.un (h':=s.heap) (t':=t) Un.refl I.hok
theorem Inv.kept{t':Nat}(I:Inv X pins σ H s)(k: ∀b u,s.heap.get? b=some u->h'.get? b=some u):Inv X pins σ H { s with heap:=h',toks:=t' }:=I.un (Un.kept k) (I.hok.kept k)
theorem Inv.laid{a:Addr}{o:HO}{t':Nat}(I:Inv X pins σ H s)(k: ∀b u,s.heap.get? b=some u->h'.get? b=some u)(hp:s.heap.objs.size<=a)(new:ObjOk X.prog X.w (zI H a o) h' a o):
  Inv X pins σ (zI H a o) { s with heap:=h',toks:=t' }:=I.un (Un.laid k hp (I.hok.fresh hp)) (I.hok.laid k hp new)
theorem Inv.write{x e:Addr}{o:HO}{t':Nat}(I:Inv X pins σ H s)(mu:Ya (H x))(he:e=x\/H e=some (.own x))(k: ∀b u,b≠e->s.heap.get? b=some u->h'.get? b=some u)(heo: ∃u,h'.get? e=some u)
  (new:ObjOk X.prog X.w (zI H x o) h' x o):Inv X pins σ (zI H x o) { s with heap:=h',toks:=t' }:=I.un (Un.write mu he k heo) (I.hok.write mu he k heo new)
theorem Inv.pins_of{pins':List (Addr×Obj)}(I:Inv X pins σ H s)(h: ∀p∈pins',s.heap.get? p.1=some p.2/\H p.1=none/\p.1≠X.env.locals/\p.1∉X.fs/\∀v,p.2.data≠ .cell v):Inv X pins' σ H s:=
 ⟨I.ok,I.os,I.bare,I.base,I.loc,I.cell,I.free,I.freeC,fun p hp=>(List.mem_append.mp hp).elim (fun z=>I.pin p (List.mem_append_left _ z)) (h p),I.hok,I.len⟩
theorem gP{N:List Str}(hN:N.Nodup){i j:Nat}{x:Str}(a:N[i]? =some x)(b:N[j]? =some x):i=j:=by
 obtain⟨h1,e1⟩:=List.getElem?_eq_some_iff.mp a
 obtain⟨h2,e2⟩:=List.getElem?_eq_some_iff.mp b
 exact (List.getElem_inj hN).mp (e1.trans e2.symm)
theorem gQ{M:Model}{A:Around}{E:Value->Shared->Prop}{i:Nat}{x:Str}{v:V}{u:Value}{Q:Unit->Shared->Prop}(I:Inv X pins σ H s)(hN:X.N.Nodup)(hi:X.N[i]? =some x)(hx:zM X.env.scope x)(r:RelV v u)
  (h: ∀s',Inv X pins (σ.set i (some v)) H s'->(∃a,Heap.SameBut a s.heap s'.heap/\(a=X.env.locals\/X.env.cells.lookup x=some a))->Q () s') (hf:X.fn x=true\/X.env.scope.names.lookup x=some .local:=by first|exact .inl rfl|exact .inr rfl|assumption):wpAny M A (storeName X.env x u) Q E s:=by
 obtain⟨m,hn,hl⟩:=id I.loc
 have hcls:(X.env.scope.kind== .class||(X.env.scope.kind== .module&&X.env.locals != X.env.globals))=false:=by rw[I.ok.kind];rfl
 have hiσ:i<σ.length:=by rw[I.len];exact (List.getElem?_eq_some_iff.mp hi).1
 have cne:=I.cne
 have tracked: ∀{a:Addr} {h':Heap},(∃o,s.heap.get? a=some o/\H a=none)->Heap.SameBut a s.heap h'->HOk X.prog X.w H h':=fun {a h'} ha hs b ob e=>by
  obtain⟨_,_,hfree⟩:=ha
  refine (I.hok b ob e).stay (fun c w' hc q=>(hs.2 c ?_).trans q) (fun _ q=>q) fun _ _ q=>q
  rintro rfl
  rcases hc with rfl|hc
  ·rw[hfree] at e;cases e
  ·rw[hfree] at hc;cases hc
 rcases hx with hk|hk
 ·refine wpAny_storeName_local hk hn (fun h' hn' hs=>?_) hcls
  obtain⟨oL,_,_,hoL,_⟩:=id hn
  refine h _ ⟨I.ok,I.os,I.bare,⟨fun b o e n hb hx=>?_,fun b o e n hb hx=>?_,I.base.free,fun b o e hx=>?_,I.base.tups,I.base.frzs,I.base.tbls⟩,⟨_,hn',fun j y v' e1 e2 e3=>?_⟩,fun y c e=>?_,I.free,I.freeC,fun p hp=>?_,tracked ⟨oL,hoL,I.free⟩ hs,by simpa using I.len⟩ ⟨_,hs,.inl rfl⟩
  ·exact (hs.2 b (Nat.ne_of_lt (Nat.lt_of_lt_of_le (Heap.lt_size e) I.ok.above))).trans (I.base.keep b o e n hb hx)
  ·obtain⟨sl,e1⟩:=I.base.slot b o e n hb hx
   exact⟨sl,(hs.2 b (Nat.ne_of_lt (Nat.lt_of_lt_of_le (Heap.lt_size e) I.ok.above))).trans e1⟩
  ·obtain⟨o',e1⟩:=I.base.there b o e hx
   exact⟨o',(hs.2 b (Nat.ne_of_lt (Nat.lt_of_lt_of_le (Heap.lt_size e) I.ok.above))).trans e1⟩
  ·by_cases hj:j=i
   ·subst hj
    rw[hi] at e1;cases e1
    rw[List.getElem?_set_self hiσ] at e2
    cases e2
    exact⟨u,r,.inl ⟨hk,by simp⟩⟩
   ·rw[List.getElem?_set_ne (Ne.symm hj)] at e2
    obtain⟨u',r',q⟩:=hl j y v' e1 e2 e3
    refine⟨u',r',?_⟩
    rcases q with ⟨k,e⟩|⟨k,c,e,z⟩
    ·refine .inl ⟨k,?_⟩
     have:y≠x:=fun e=>hj (gP hN e1 (e▸hi))
     simp[this,e]
    ·exact .inr ⟨k,c,e,z.sameBut hs (cne y c e)⟩
  ·obtain⟨w',z⟩:=I.cell y c e
   exact⟨w',z.sameBut hs (cne y c e)⟩
  ·obtain⟨e,n,ne,nf,d⟩:=I.pin p hp
   exact⟨(hs.2 p.1 ne).trans e,n,ne,nf,d⟩
 ·have hfn:X.fn x=true:=by
   rcases hf with z|z
   ·exact z
   ·rw[z] at hk;cases hk
  obtain⟨c,hc⟩:=I.ok.has x (.inl hk)
  obtain⟨w',z⟩:=I.cell x c hc
  refine wpAny_storeName_cell I.ok.kind hk hc z (fun h' hc' hs=>?_)
  obtain⟨oc,hoc,hocd⟩:=id z
  refine h { s with heap:=h' } ⟨I.ok,I.os,I.bare,⟨fun b o e n hb hx=>?_,fun b o e n hb hx=>?_,I.base.free,fun b o e hx=>?_,I.base.tups,I.base.frzs,I.base.tbls⟩,⟨m,hn.sameBut hs (Ne.symm (cne x c hc)),fun j y v' e1 e2 e3=>?_⟩,fun y c' e=>?_,I.free,I.freeC,fun p hp=>?_,tracked ⟨oc,hoc,I.freeC x c hc⟩ hs,by simpa using I.len⟩ ⟨c,hs,.inr hc⟩
  ·exact (hs.2 b (Nat.ne_of_lt (Nat.lt_of_lt_of_le (Heap.lt_size e) (I.ok.cab x c hfn hc)))).trans (I.base.keep b o e n hb hx)
  ·obtain⟨sl,e1⟩:=I.base.slot b o e n hb hx
   exact⟨sl,(hs.2 b (Nat.ne_of_lt (Nat.lt_of_lt_of_le (Heap.lt_size e) (I.ok.cab x c hfn hc)))).trans e1⟩
  ·obtain⟨o',e1⟩:=I.base.there b o e hx
   exact⟨o',(hs.2 b (Nat.ne_of_lt (Nat.lt_of_lt_of_le (Heap.lt_size e) (I.ok.cab x c hfn hc)))).trans e1⟩
  ·by_cases hj:j=i
   ·subst hj
    rw[hi] at e1;cases e1
    rw[List.getElem?_set_self hiσ] at e2
    cases e2
    exact⟨u,r,.inr ⟨.inl hk,c,hc,hc'⟩⟩
   ·rw[List.getElem?_set_ne (Ne.symm hj)] at e2
    obtain⟨u',r',q⟩:=hl j y v' e1 e2 e3
    refine⟨u',r',?_⟩
    rcases q with q|⟨k,c',e,z'⟩
    ·exact .inl q
    ·refine .inr ⟨k,c',e,z'.sameBut hs ?_⟩
     rintro rfl
     exact hj (gP hN e1 (I.ok.inj _ _ _ e hc▸hi))
  ·by_cases hcc:c'=c
   ·subst hcc;exact⟨_,hc'⟩
   ·obtain⟨w2,z2⟩:=I.cell y c' e
    exact⟨w2,z2.sameBut hs hcc⟩
  ·obtain⟨e,n,ne,nf,d⟩:=I.pin p hp
   refine⟨(hs.2 p.1 ?_).trans e,n,ne,nf,d⟩
   intro q
   rw[q,hoc] at e
   have q':oc=p.2:=Option.some.inj e
   exact d w' (by rw[<-q'];exact hocd)
theorem gR{M:Model}{A:Around}{E:Value->Shared->Prop}{i:Nat}{x:Str}{v:V}{u:Value}{Q:Unit->Shared->Prop}(I:Inv X pins σ H s)(hN:X.N.Nodup)(hi:X.N[i]? =some x)(hx:zM X.env.scope x)(r:RelV v u)
  (h: ∀s',Inv X pins (σ.set i (some v)) H s'->Q () s') (hf:X.fn x=true\/X.env.scope.names.lookup x=some .local:=by first|exact .inl rfl|exact .inr rfl|assumption):wpAny M A (storeName X.env x u) Q E s:=
 gQ I hN hi hx r (fun s' I' _=>h s' I') hf
theorem Inv.call'{s':Shared}{ch:List Addr}(I:Inv X pins σ H s)(ho:s'.os=s.os)(u:Un (wy X.stack) ch H H' s.heap s'.heap)(hok:HOk X.prog X.w H' s'.heap)(hg:AllBare s'.gens)
  (hch: ∀b∈ch,(b∈X.ex\/X.s₀.heap.objs.size<=b)/\b≠X.env.locals/\(∀x c,X.env.cells.lookup x=some c->c≠b)/\∀p∈X.pn++pins,p.1≠b):Inv X pins σ H' s':=by
 obtain⟨h',g',d',t',o'⟩:=s'
 have e:o'=s.os:=ho
 subst e
 exact I.call (g':=g') (t':=t') (d':=d') u hok hg hch
end
noncomputable abbrev XK:=Value->Option Addr->Hp->Prop
noncomputable abbrev St:=List (Option V)
noncomputable abbrev VK:=V->Hp->Prop
noncomputable abbrev TE:=St->Hp->VK->Prop
noncomputable abbrev TT:=St->Hp->(Bool->Hp->Prop)->Prop
noncomputable abbrev TA:=St->Hp->(List V->Hp->Prop)->Prop
structure Ends where
 nx:St->Hp->Prop
 rt:VK
 bk:St->Hp->Prop:=fun _ _=>False
 ct:St->Hp->Prop:=fun _ _=>False
noncomputable abbrev TS:=Ends->St->Hp->Prop
noncomputable def EP(X:Cx)(pins:List (Addr×Obj))(σ:St)(Q:VK)(u:Value)(s':Shared):Prop:=∃v H',Inv X pins σ H' s'/\RelV v u/\Q v H'
noncomputable def TP(X:Cx)(pins:List (Addr×Obj))(σ:St)(Q:Bool->Hp->Prop)(b:Bool)(s':Shared):Prop:=∃H',Inv X pins σ H' s'/\Q b H'
noncomputable def AP(X:Cx)(pins:List (Addr×Obj))(σ:St)(Q:List V->Hp->Prop)(us:List Value)(s':Shared):Prop:=∃vs H',Inv X pins σ H' s'/\Vals vs us/\Q vs H'
noncomputable def SP(X:Cx)(pins:List (Addr×Obj))(D:Ends)(f:Flow)(s':Shared):Prop:=
 match f with
 | .next=>∃σ' H',Inv X pins σ' H' s'/\D.nx σ' H'
 | .brk=>∃σ' H',Inv X pins σ' H' s'/\D.bk σ' H'
 | .cont=>∃σ' H',Inv X pins σ' H' s'/\D.ct σ' H'
 | .ret u=>∃v σ' H',Inv X pins σ' H' s'/\RelV v u/\D.rt v H'
noncomputable def PE(X:Cx)(e:Expr)(t:TE):Prop:=
 ∀(pins:List (Addr×Obj)) (s:Shared) (σ:St) (H:Hp) (Q:VK),Inv X pins σ H s->t σ H Q->wpAny (model X.prog X.w) X.A (eval e X.env) (EP X pins σ Q) X.xe s
noncomputable def PT(X:Cx)(e:Expr)(t:TT):Prop:=
 ∀(pins:List (Addr×Obj)) (s:Shared) (σ:St) (H:Hp) (Q:Bool->Hp->Prop),Inv X pins σ H s->t σ H Q->wpAny (model X.prog X.w) X.A (isTrue e X.env (eval e X.env)) (TP X pins σ Q) X.xe s
noncomputable def PW(X:Cx)(e:Expr)(t:TT):Prop:=
 ∀(whole:Sem Value) (pins:List (Addr×Obj)) (s:Shared) (σ:St) (H:Hp) (Q:Bool->Hp->Prop),Inv X pins σ H s->t σ H Q->wpAny (model X.prog X.w) X.A (isTrue e X.env whole) (TP X pins σ Q) X.xe s
theorem PW.pt{X:Cx}{e:Expr}{t:TT}(h:PW X e t):PT X e t:=h _
noncomputable def PA(X:Cx)(es:List Expr)(t:TA):Prop:=
 ∀(pos:Pos) (pins:List (Addr×Obj)) (s:Shared) (σ:St) (H:Hp) (Q:List V->Hp->Prop),Inv X pins σ H s->t σ H Q->wpAny (model X.prog X.w) X.A (spliced (backTo pos (starEach es X.env))) (AP X pins σ Q) X.xe s
noncomputable def PS(X:Cx)(st:Stmt)(t:TS):Prop:=
 ∀(pins:List (Addr×Obj)) (s:Shared) (σ:St) (H:Hp) (D:Ends),Inv X pins σ H s->t D σ H->wpAny (model X.prog X.w) X.A (exec st X.env) (SP X pins D) X.xe s
noncomputable def PSs(X:Cx)(st:List Stmt)(t:TS):Prop:=
 ∀(pins:List (Addr×Obj)) (s:Shared) (σ:St) (H:Hp) (D:Ends),Inv X pins σ H s->t D σ H->wpAny (model X.prog X.w) X.A (execs st X.env) (SP X pins D) X.xe s
theorem zB{α:Type}{t:Sem α}{Q Q':α->Shared->Prop}{M:Model}{A:Around}{E:Value->Shared->Prop}{s:Shared}(h:wpAny M A t Q E s)(hQ: ∀a s,Q a s->Q' a s):wpAny M A t Q' E s:=wpAny_mono h hQ fun _ _ x=>x
end L2
namespace L2
open PySem PySem.Spec PyProof.Rows
section
variable {X:Cx}
noncomputable def zfD(i:Nat):TE:=fun σ H Q=>∃v,σ[i]? =some (some v)/\Q v H
noncomputable def tC(v:V):TE:=fun _ H Q=>Q v H
theorem vE{i:Nat}{x:Str}{pos:Pos}(hN:X.N[i]? =some x)(hv:zn X.env.scope x)(hd:(x==("__debug__":Str))=false:=by decide)(hcd:(x==("__classdict__":Str))=false:=by decide):PE X (.Name x pos) (zfD i):=by
 intro pins s σ H Q I h
 obtain⟨v,e,h⟩:=h
 obtain⟨m,hn,hl⟩:=I.loc
 obtain⟨u,r,l⟩:=hl i x v hN e hv
 have fin:EP X pins σ Q u s:=⟨v,H,I,r,h⟩
 rcases l with ⟨hk,hm⟩|⟨hk,c,hc,ve⟩
 ·exact wpAny_Name (wpAny_loadName_local I.ok.kind hk hn hm fin) hd
 ·rcases hk with hk|hk
  ·exact wpAny_Name (wpAny_loadName_cell I.ok.kind hk hc ve fin) hd
  ·exact wpAny_Name (wpAny_loadName_free I.ok.kind hk hc ve fin hcd) hd
theorem zfE{i j pos}:PE X (.Constant (.int i) j pos) (tC (.int i)):=fun _ _ _ H _ I h=>wpAny_Constant_int ⟨.int i,H,I.tok _,⟨_,rfl⟩,h⟩
theorem zfF{b j pos}:PE X (.Constant (.bool b) j pos) (tC (.bl b)):=fun _ _ _ H _ I h=>Constant_bool ⟨.bl b,H,I,rfl,h⟩
theorem zfG{j pos}:PE X (.Constant .none j pos) (tC .non):=fun _ _ _ H _ I h=>Constant_none ⟨.non,H,I,rfl,h⟩
noncomputable def Gl(X:Cx)(x:Str):Prop:=X.env.kindOf x=some .globalImplicit
theorem gS{E:Value->Shared->Prop}{pins:List (Addr×Obj)}{s:Shared}{σ:St}{H:Hp}{x:Str}{u:Value}{pos:Pos}{Q:Value->Shared->Prop}(I:Inv X pins σ H s)(hg:Gl X x)(hm:X.mg x=some u)(h:Q u s)
  (hd:(x==("__debug__":Str))=false:=by decide):wpAny (model X.prog X.w) X.A (eval (.Name x pos) X.env) Q E s:=
 Calls.Name_function_global I.ok.kind hg (Calls.loadGlobal_global (by rw[I.ok.glob];exact I.mod.glob.keeps I.bk) hm h) hd
theorem jl{E:Value->Shared->Prop}{pins:List (Addr×Obj)}{s:Shared}{σ:St}{H:Hp}{x:Str}{u:Value}{pos:Pos}{Q:Value->Shared->Prop}(I:Inv X pins σ H s)(hg:Gl X x)(hm:X.mg x=none)(hv:bootBuiltins x=some u)(h:Q u s)
  (hn:x≠"__name__":=by decide) (hd:(x==("__debug__":Str))=false:=by decide):wpAny (model X.prog X.w) X.A (eval (.Name x pos) X.env) Q E s:=by
 obtain⟨mb,h1,h2⟩:=I.mod.blt
 exact Calls.Name_function_global I.ok.kind hg (Calls.loadGlobal_builtin (by rw[I.ok.glob];exact I.mod.glob.keeps I.bk) hm (by rw[I.ok.blt];exact h1.keeps I.bk) ((h2 x hn).trans hv) h) hd
theorem zfH{x:Str}{v:V}{u:Value}{pos:Pos}(hg:Gl X x)(hm:X.mg x=some u)(r:RelV v u)(hd:(x==("__debug__":Str))=false:=by decide):PE X (.Name x pos) (tC v):=
 fun _ _ _ H _ I h=>gS I hg hm ⟨v,H,I,r,h⟩ hd
theorem zfI{x:Str}{v:V}{u:Value}{pos:Pos}(hg:Gl X x)(hm:X.mg x=none)(hv:bootBuiltins x=some u)(r:RelV v u)(hn:x≠"__name__":=by decide)(hd:(x==("__debug__":Str))=false:=by decide):PE X (.Name x pos) (tC v):=
 fun _ _ _ H _ I h=>jl I hg hm hv ⟨v,H,I,r,h⟩ hn hd
variable {a b:Expr} {ta tb:TE} {pos:Pos}
noncomputable def PC(X:Cx)(op:CmpOp)(a b:Expr)(t:TE):Prop:=
 ∀(pins:List (Addr×Obj)) (s:Shared) (σ:St) (H:Hp) (Q:VK),Inv X pins σ H s->t σ H Q->
  wpAny (model X.prog X.w) X.A (eval a X.env) (fun v s₁=>wpAny (model X.prog X.w) X.A (eval b X.env) (fun u s₂=>wpAny (model X.prog X.w) X.A (compareOp op v u) (EP X pins σ Q) X.xe s₂) X.xe s₁) X.xe s
theorem gT(b:Expr){op:CmpOp}(h:op≠ .In)(h2:op≠ .NotIn):behindInMarks op b=false:=by
 have e1:(op==CmpOp.In)=false:=by cases op<;>first|rfl|exact absurd rfl h
 have e2:(op==CmpOp.NotIn)=false:=by cases op<;>first|rfl|exact absurd rfl h2
 cases b<;>simp[behindInMarks,e1,e2]
noncomputable def zfJ(ta:TE):TE:=fun σ H Q=>ta σ H fun x H1=>Q (.bl (decide (x= .non))) H1
noncomputable def zfK(ta:TE):TE:=fun σ H Q=>ta σ H fun x H1=>Q (.bl (!decide (x= .non))) H1
theorem RelV.none_iff{x:V}{v:Value}(r:RelV x v):(v==Value.none)=decide (x= .non):=by
 cases x with
 |non=>cases r;rfl
 |bl _=>cases r;rfl
 |int _=>obtain⟨t,rfl⟩:=r;rfl
 |str _=>obtain⟨t,rfl⟩:=r;rfl
 |byt _=>obtain⟨t,rfl⟩:=r;rfl
 |flt _=>obtain⟨t,rfl⟩:=r;rfl
 |ref _=>cases r;rfl
 |ty _=>cases r;rfl
theorem gU{j pos'}(ha:PE X a ta):PC X .Is a (.Constant .none j pos') (zfJ ta):=by
 intro pins s σ H Q I h
 refine zB (ha pins s σ H _ I h) fun v s1 ⟨x,H1,I1,r1,q1⟩=>?_
 exact Constant_none (is_none_gen ⟨.bl _,H1,I1,by rw[r1.none_iff];rfl,q1⟩)
theorem zfL{j pos'}(ha:PE X a ta):PC X .IsNot a (.Constant .none j pos') (zfK ta):=by
 intro pins s σ H Q I h
 refine zB (ha pins s σ H _ I h) fun v s1 ⟨x,H1,I1,r1,q1⟩=>?_
 exact Constant_none (isnot_none_gen ⟨.bl _,H1,I1,by rw[r1.none_iff];rfl,q1⟩)
noncomputable def tB(t:TE):TT:=fun σ H Q=>t σ H fun x H1=>∃c,x= .bl c/\Q c H1
theorem zfM{op:CmpOp}{t:TE}(h:PC X op a b t)(h1:behindInMarks op b=false:=by first|exact gT _ (by decide) (by decide)|rfl):PE X (.Compare a [op] [b] pos) t:=fun pins s σ H Q I hw=>wpAny_Compare1 (h pins s σ H Q I hw) h1
theorem gW{op:CmpOp}{t:TE}(h:PC X op a b t)(h1:behindInMarks op b=false:=by first|exact gT _ (by decide) (by decide)|rfl):PT X (.Compare a [op] [b] pos) (tB t):=by
 intro pins s σ H Q I hw
 refine wpAny_isTrue_Compare1 (zB (h pins s σ H _ I hw) fun v s1 h1=>zB h1 fun u s2 h2=>zB h2 fun c s3 ⟨x,H1,I1,r1,q1⟩=>?_) h1
 obtain⟨d,rfl,q⟩:=q1
 cases r1
 exact wpAny_truthy_bool ⟨H1,I1,q⟩
variable {tA tB':TT} {zT:List Expr}
noncomputable def zfN(t u:TT):TT:=fun σ H Q=>t σ H fun c H1=>if c=true then u σ H1 Q else Q false H1
noncomputable def zfO(t u:TT):TT:=fun σ H Q=>t σ H fun c H1=>if c=true then Q true H1 else u σ H1 Q
noncomputable def zfP(t:TT):TT:=fun σ H Q=>t σ H fun c H1=>Q (!c) H1
theorem zfQ(ha:PT X a tA):PW X (.BoolOp .And [a] pos) tA:=by
 intro wh pins s σ H Q I h
 refine isTrue_and (zB (ha pins s σ H Q I h) fun c s1 e=>?_)
 cases c with
 |true=>exact isTrue_and_nil e
 |false=>exact e
theorem zfR(ha:PT X a tA):PW X (.BoolOp .Or [a] pos) tA:=by
 intro wh pins s σ H Q I h
 refine isTrue_or (zB (ha pins s σ H Q I h) fun c s1 e=>?_)
 cases c with
 |false=>exact isTrue_or_nil e
 |true=>exact e
theorem zfS(ha:PT X a tA)(hb:PW X (.BoolOp .And (b::zT) pos) tB'):PW X (.BoolOp .And (a::b::zT) pos) (zfN tA tB'):=by
 intro wh pins s σ H Q I h
 refine isTrue_and (zB (ha pins s σ H _ I h) fun c s1 ⟨H1,I1,q1⟩=>?_)
 cases c with
 |true=>exact hb wh pins s1 σ H1 Q I1 q1
 |false=>exact⟨H1,I1,q1⟩
theorem zfT(ha:PT X a tA)(hb:PW X (.BoolOp .Or (b::zT) pos) tB'):PW X (.BoolOp .Or (a::b::zT) pos) (zfO tA tB'):=by
 intro wh pins s σ H Q I h
 refine isTrue_or (zB (ha pins s σ H _ I h) fun c s1 ⟨H1,I1,q1⟩=>?_)
 cases c with
 |true=>exact⟨H1,I1,q1⟩
 |false=>exact hb wh pins s1 σ H1 Q I1 q1
theorem zfU(ha:PT X a tA):PT X (.UnaryOp .Not a pos) (zfP tA):=by
 intro pins s σ H Q I h
 exact isTrue_not (ha pins s σ H (fun c H1=>Q (!c) H1) I h)
noncomputable def zfV(ta tb:TE):TE:=fun σ H Q=>ta σ H fun x H1=>∃c,x= .bl c/\if c=true then tb σ H1 Q else Q (.bl false) H1
theorem zfW{op}{t:TE}(h:PE X a t):PE X (.BoolOp op [a] pos) t:=fun pins s σ H Q I hw=>BoolOp_one (h pins s σ H Q I hw)
theorem zfX(ha:PE X a ta)(hb:PE X (.BoolOp .And (b::zT) pos) tb):PE X (.BoolOp .And (a::b::zT) pos) (zfV ta tb):=by
 intro pins s σ H Q I h
 refine BoolOp_and (zB (ha pins s σ H _ I h) fun v s1 ⟨x,H1,I1,r1,q1⟩=>?_)
 obtain⟨c,rfl,q1⟩:=q1
 cases r1
 refine wpAny_truthy_bool ?_
 cases c with
 |true=>exact hb pins s1 σ H1 Q I1 q1
 |false=>exact⟨.bl false,H1,I1,rfl,q1⟩
noncomputable def zfY(t:TT)(ta tb:TE):TE:=fun σ H Q=>t σ H fun c H1=>if c=true then ta σ H1 Q else tb σ H1 Q
theorem zfZ{c:Expr}(hc:PT X c tA)(ha:PE X a ta)(hb:PE X b tb):PE X (.IfExp c a b pos) (zfY tA ta tb):=by
 intro pins s σ H Q I h
 refine wpAny_IfExp (zB (hc pins s σ H _ I h) fun d s1 ⟨H1,I1,q1⟩=>?_)
 cases d with
 |true=>exact ha pins s1 σ H1 Q I1 q1
 |false=>exact hb pins s1 σ H1 Q I1 q1
end
end L2
namespace L2
open PySem PySem.Spec PyProof.Rows
noncomputable def SqL(K:PySem.W.Frag)(H:Hp)(a:Addr)(xs:List V):Prop:=
 Rd H a (.lst xs)\/
  ∃(o:Obj) (its:Array Value) (n:Nat),K.lookup a=some o/\o.cls= .type "list"/\o.dict=none/\o.data= .seq its n/\its.size<=sizeLine/\Vals xs its.toList
noncomputable def SqT(K:PySem.W.Frag)(H:Hp)(a:Addr)(xs:List V):Prop:=
 Rd H a (.tup xs)\/
  ∃(o:Obj) (its:Array Value) (n:Nat),K.lookup a=some o/\o.cls= .type "tuple"/\o.data= .seq its n/\its.size<=sizeLine/\Vals xs its.toList
noncomputable def zf0:Value->Option V
 | .none=>some .non
 | .bool b=>some (.bl b)
 | .int i _=>some (.int i)
 | .str x _=>some (.str x)
 | .bytes b _=>some (.byt b)
 | .float b _=>some (.flt b)
 | .ref a=>some (.ref a)
 | .type n=>some (.ty n)
 |_=>none
theorem RelV.abs{x:V}{u:Value}(r:RelV x u):zf0 u=some x:=by
 cases x with
 |non=>cases r;rfl
 |bl _=>cases r;rfl
 |int _=>obtain⟨t,rfl⟩:=r;rfl
 |str _=>obtain⟨t,rfl⟩:=r;rfl
 |byt _=>obtain⟨t,rfl⟩:=r;rfl
 |flt _=>obtain⟨t,rfl⟩:=r;rfl
 |ref _=>cases r;rfl
 |ty _=>cases r;rfl
theorem RelV.inj{x y:V}{u:Value}(r:RelV x u)(q:RelV y u):x=y:=Option.some.inj (r.abs.symm.trans q.abs)
theorem Vals.inj: ∀{xs ys:List V} {us:List Value},Vals xs us->Vals ys us->xs=ys
 |_,_,_,.nil,.nil=>rfl
 |_,_,_,.cons r t,.cons r' t'=>by rw[r.inj r',Vals.inj t t']
section
variable {X:Cx} {pins:List (Addr×Obj)} {σ:St} {H:Hp} {s:Shared} {a:Addr} {xs ys:List V}
theorem SqL.of{K:PySem.W.Frag}(h:H a=some (.lst xs)):SqL K H a xs:=.inl (.inl h)
theorem SqT.of{K:PySem.W.Frag}(h:H a=some (.tup xs)):SqT K H a xs:=.inl (.inl h)
theorem Inv.list(I:Inv X pins σ H s)(h:SqL X.K H a xs): ∃its:List Value,Vals xs its/\PlainL s.heap a its.toArray/\xs.length<=sizeLine:=by
 rcases h with h|⟨o,its,n,hk,hc,hd,hs,hz,r⟩
 ·obtain⟨z,its,n,r,e⟩:=h.ok I.hok
  exact⟨its,r,⟨_,n,e,rfl,rfl,rfl⟩,z⟩
 ·refine⟨its.toList,r,⟨o,n,I.kIn a o hk,hc,hd,by simpa using hs⟩,?_⟩
  have e:=r.length
  simp only[Array.length_toList] at e
  omega
theorem Inv.tuple(I:Inv X pins σ H s)(h:SqT X.K H a xs): ∃its:List Value,Vals xs its/\IsTup s.heap a its.toArray/\xs.length<=sizeLine:=by
 rcases h with h|⟨o,its,n,hk,hc,hs,hz,r⟩
 ·obtain⟨z,its,r,p⟩:=h.ok I.hok
  exact⟨its,r,p,z⟩
 ·refine⟨its.toList,r,⟨o,I.kIn a o hk,hc,n,by simpa using hs⟩,?_⟩
  have e:=r.length
  simp only[Array.length_toList] at e
  omega
theorem Inv.list_inj(I:Inv X pins σ H s)(h:SqL X.K H a xs)(h':SqL X.K H a ys):xs=ys:=by
 obtain⟨its,r,⟨o,n,e,_,_,d⟩,_⟩:=I.list h
 obtain⟨its',r',⟨o',n',e',_,_,d'⟩,_⟩:=I.list h'
 rw[e] at e';cases e'
 rw[d] at d'
 injection d' with d1 _
 have:its=its':=by simpa using congrArg Array.toList d1
 subst this
 exact r.inj r'
theorem Inv.tuple_inj(I:Inv X pins σ H s)(h:SqT X.K H a xs)(h':SqT X.K H a ys):xs=ys:=by
 obtain⟨its,r,⟨o,e,_,n,d⟩,_⟩:=I.tuple h
 obtain⟨its',r',⟨o',e',_,n',d'⟩,_⟩:=I.tuple h'
 rw[e] at e';cases e'
 rw[d] at d'
 injection d' with d1 _
 have:its=its':=by simpa using congrArg Array.toList d1
 subst this
 exact r.inj r'
end
noncomputable abbrev Cx.wish(X:Cx)(E:Value->Shared->Prop):Cx:={ X with xe:=E }
noncomputable abbrev Cx.nox(X:Cx):Cx:=X.wish fun _ _=>False
theorem Cx.Ok.wish{X:Cx}(ok:X.Ok)(E:Value->Shared->Prop):(X.wish E).Ok:=
 ⟨ok.mod,ok.kind,ok.glob,ok.blt,ok.above,ok.inj,ok.has,ok.cab,ok.hd,ok.frames,ok.stk,ok.exf,ok.bs,ok.bsz,ok.noex,ok.exfs,ok.funs,ok.frf⟩
theorem Cx.Ok.unwish{X:Cx}{E:Value->Shared->Prop}(ok:(X.wish E).Ok):X.Ok:=
 ⟨ok.mod,ok.kind,ok.glob,ok.blt,ok.above,ok.inj,ok.has,ok.cab,ok.hd,ok.frames,ok.stk,ok.exf,ok.bs,ok.bsz,ok.noex,ok.exfs,ok.funs,ok.frf⟩
section
variable {X:Cx} {pins:List (Addr×Obj)} {σ:St} {H:Hp} {s:Shared} {E:Value->Shared->Prop}
theorem Inv.wish(I:Inv X pins σ H s)(E:Value->Shared->Prop):Inv (X.wish E) pins σ H s:=⟨I.ok.wish E,I.os,I.bare,I.base,I.loc,I.cell,I.free,I.freeC,I.pin,I.hok,I.len⟩
theorem Inv.unwish(I:Inv (X.wish E) pins σ H s):Inv X pins σ H s:=⟨I.ok.unwish,I.os,I.bare,I.base,I.loc,I.cell,I.free,I.freeC,I.pin,I.hok,I.len⟩
theorem SP.unwish{D:Ends}{f:Flow}{s':Shared}(h:SP (X.wish E) pins D f s'):SP X pins D f s':=by
 cases f with
 |next=>obtain⟨σ',H',I,q⟩:=h;exact⟨σ',H',I.unwish,q⟩
 |brk=>obtain⟨σ',H',I,q⟩:=h;exact⟨σ',H',I.unwish,q⟩
 |cont=>obtain⟨σ',H',I,q⟩:=h;exact⟨σ',H',I.unwish,q⟩
 |ret u=>obtain⟨v,σ',H',I,r,q⟩:=h;exact⟨v,σ',H',I.unwish,r,q⟩
theorem PE.nox{e:Expr}{t:TE}(h:PE X.nox e t):PE X e t:=fun pins s σ H Q I hw=>
 wpAny_mono (h pins s σ H Q (I.wish _) hw) (fun _ _ ⟨v,H',I',r,q⟩=>⟨v,H',I'.unwish,r,q⟩) fun _ _ z=>False.elim z
theorem PT.nox{e:Expr}{t:TT}(h:PT X.nox e t):PT X e t:=fun pins s σ H Q I hw=>
 wpAny_mono (h pins s σ H Q (I.wish _) hw) (fun _ _ ⟨H',I',q⟩=>⟨H',I'.unwish,q⟩) fun _ _ z=>False.elim z
theorem PSs.nox{st:List Stmt}{t:TS}(h:PSs X.nox st t):PSs X st t:=fun pins s σ H D I hw=>
 wpAny_mono (h pins s σ H D (I.wish _) hw) (fun _ _ q=>q.unwish) fun _ _ z=>False.elim z
end
section
variable {X:Cx} {st:Stmt} {zT:List Stmt} {t u:TS} {e:Expr} {te:TE} {pos:Pos}
noncomputable def zf1:TS:=fun D σ H=>D.nx σ H
noncomputable def zf2(t u:TS):TS:=fun D σ H=>t { D with nx:=u D } σ H
theorem zf3:PSs X [] zf1:=fun _ _ σ H _ I h=>wpAny_execs_nil ⟨σ,H,I,h⟩
theorem zf4(h1:PS X st t)(h2:PSs X zT u):PSs X (st::zT) (zf2 t u):=by
 intro pins s σ H D I h
 refine wpAny_execs_cons (zB (h1 pins s σ H { D with nx:=u D } I h) fun f s1 q=>?_)
 cases f with
 |next=>
  obtain⟨σ',H',I',q⟩:=q
  exact h2 pins s1 σ' H' D I' q
 |ret v=>exact q
 |brk=>exact q
 |cont=>exact q
theorem Inv.quiet{pins:List (Addr×Obj)}{σ:St}{H:Hp}{s:Shared}(I:Inv X pins σ H s):interactive X.env=false:=by simp[interactive,I.ok.kind]
noncomputable def zf5(te:TE):TS:=fun D σ H=>te σ H fun _ H1=>D.nx σ H1
theorem QE(he:PE X e te)(hs:swapsWith e none pos.line X.env=pure false:=by rfl):PS X (.Expr e pos) (zf5 te):=by
 intro pins s σ H D I h
 exact wpAny_Expr_any (zB (he pins s σ H _ I h) fun v s1 ⟨x,H1,I1,r1,q1⟩=>⟨σ,H1,I1,q1⟩) I.quiet hs
noncomputable def zf6(te:TE):TS:=fun D σ H=>te σ H D.rt
theorem gX(he:PE X e te):PS X (.Return (some e) pos) (zf6 te):=by
 intro pins s σ H D I h
 exact wpAny_Return_some (zB (he pins s σ H _ I h) fun v s1 ⟨x,H1,I1,r1,q1⟩=>⟨x,σ,H1,I1,r1,q1⟩)
noncomputable def zf7(c:TT)(t u:TS):TS:=fun D σ H=>c σ H fun b H1=>if b=true then t D σ H1 else u D σ H1
theorem zf8{c:Expr}{a b:List Stmt}{tc:TT}(hc:PT X c tc)(ha:PSs X a t)(hb:PSs X b u):PS X (.If c a b pos) (zf7 tc t u):=by
 intro pins s σ H D I h
 refine wpAny_If (zB (hc pins s σ H _ I h) fun d s1 ⟨H1,I1,q1⟩=>?_)
 cases d with
 |true=>exact ha pins s1 σ H1 D I1 q1
 |false=>exact hb pins s1 σ H1 D I1 q1
noncomputable def zf9:TS:=fun _ _ _=>False
theorem zga:PS X st zf9:=fun _ _ _ _ _ _ h=>h.elim
end
noncomputable abbrev TG:=V->St->Hp->(St->Hp->Prop)->Prop
noncomputable abbrev jm:=List V->St->Hp->(St->Hp->Prop)->Prop
noncomputable def PG(X:Cx)(target:Expr)(t:TG):Prop:=
 ∀(pins:List (Addr×Obj)) (s:Shared) (σ:St) (H:Hp) (v:V) (u:Value) (Q:St->Hp->Prop),Inv X pins σ H s->RelV v u->t v σ H Q->
  wpAny (model X.prog X.w) X.A (assign target X.env u) (fun _ s'=>∃σ' H',Inv X pins σ' H' s'/\Q σ' H') X.xe s
noncomputable def Vr(X:Cx)(ts:List Expr)(t:jm):Prop:=
 ∀(pins:List (Addr×Obj)) (s:Shared) (σ:St) (H:Hp) (vs:List V) (us:List Value) (Q:St->Hp->Prop),Inv X pins σ H s->Vals vs us->t vs σ H Q->
  wpAny (model X.prog X.w) X.A (assignInOrder ((assignEach ts X.env).map (·.2)) us) (fun _ s'=>∃σ' H',Inv X pins σ' H' s'/\Q σ' H') X.xe s
section
variable {X:Cx} {pos:Pos}
noncomputable def Yb(i:Nat):TG:=fun v σ H Q=>Q (σ.set i (some v)) H
theorem jY{i:Nat}{x:Str}(hN:X.N.Nodup)(hi:X.N[i]? =some x)(hx:zM X.env.scope x)(hf:X.fn x=true\/X.env.scope.names.lookup x=some .local:=by first|exact .inl rfl|exact .inr rfl|assumption):PG X (.Name x pos) (Yb i):=by
 intro pins s σ H v u Q I r h
 exact wpAny_assign_Name (gR I hN hi hx r (fun s' I'=>⟨_,H,I',h⟩) hf)
noncomputable def gY:jm:=fun vs σ H Q=>vs=[]/\Q σ H
noncomputable def QF(t:TG)(u:jm):jm:=fun vs σ H Q=>∃v r,vs=v::r/\t v σ H fun σ' H'=>u r σ' H' Q
theorem zgb:Vr X [] gY:=by
 intro pins s σ H vs us Q I r h
 obtain⟨e,h⟩:=h
 subst e
 cases r
 exact assignInOrder_nil ⟨σ,H,I,h⟩
theorem gZ{e:Expr}{es:List Expr}{t:TG}{u:jm}(h1:PG X e t)(h2:Vr X es u)
  (hs:(assignEach (e::es) X.env).map (·.2)=assign e X.env::(assignEach es X.env).map (·.2):=by rfl):Vr X (e::es) (QF t u):=by
 intro pins s σ H vs us Q I r h
 obtain⟨v,vr,e1,h⟩:=h
 subst e1
 cases r with
 |cons r rr=>
  rw[hs]
  refine assignInOrder_cons (zB (h1 pins s σ H _ _ _ I r h) fun _ s1 ⟨σ1,H1,I1,q1⟩=>?_)
  exact h2 pins s1 σ1 H1 _ _ Q I1 rr q1
noncomputable def zaa(K:PySem.W.Frag)(n:Nat)(t:jm):TG:=fun v σ H Q=>∃a xs,v= .ref a/\SqT K H a xs/\xs.length=n/\t xs σ H Q
theorem zgc{es:List Expr}{k:Nat}{t:jm}{n:Nat}(hc:X.calm=true)(h:Vr X es t)
  (hn:(assignEach es X.env).length=n:=by rfl) (hst:(assignEach es X.env).findIdx? (·.1)=none:=by rfl):PG X (.Tuple es k pos) (zaa X.K n t):=by
 intro pins s σ H v u Q I r hw
 obtain⟨a,xs,e1,hq,hl,hw⟩:=hw
 subst e1
 cases r
 obtain⟨its,rv,ht,hz⟩:=I.tuple hq
 refine assign_Tuple_tuple (I.ok.hd hc) ht (by simp[hn,<-hl,rv.length]) hst fun h' hx=>?_
 have I1:Inv X pins σ H { s with heap:=h' }:=I.kept (t':=s.toks) fun b o e=>hx b o (Nat.ne_of_lt (Heap.lt_size e)) e
 exact h pins _ σ H xs _ Q I1 (by simpa using rv) hw
noncomputable def zgd(te:TE)(g:TG):TS:=fun D σ H=>te σ H fun x H1=>g x σ H1 D.nx
theorem zab{i:Nat}{x:Str}{e:Expr}{te:TE}{pos':Pos}(hN:X.N.Nodup)(hi:X.N[i]? =some x)(hx:zM X.env.scope x)(he:PE X e te)(hs:swapsWith e (some (.Name x pos')) pos.line X.env=pure false:=by rfl)(hf:X.fn x=true\/X.env.scope.names.lookup x=some .local:=by first|exact .inl rfl|exact .inr rfl|assumption):
  PS X (.Assign [.Name x pos'] e pos) (zgd te (Yb i)):=by
 intro pins s σ H D I h
 refine wpAny_Assign_Name (zB (he pins s σ H _ I h) fun v s1 ⟨y,H1,I1,r1,q1⟩=>?_) hs
 exact gR I1 hN hi hx r1 (fun s2 I2=>⟨_,H1,I2,q1⟩) hf
end
section
variable {X:Cx} {pos:Pos}
noncomputable def zge(c:TT)(tb:TS):TS:=fun D σ H=>∃W:Nat->St->Hp->Prop,(∃m,W m σ H)/\∀m σ H,W m σ H->
 c σ H fun b H1=>if b=true then ∃N:St->Hp->Prop,(∀σ' H',N σ' H'->∃m',m'<m/\W m' σ' H')/\tb { D with nx:=N,ct:=N,bk:=D.nx } σ H1 else D.nx σ H1
theorem zgf{c:Expr}{body:List Stmt}{tc:TT}{tb:TS}(hp:PassesOwn (model X.prog X.w) X.A X.env X.xe)(hc:PT X c tc)(hb:PSs X body tb):PS X (.While c body [] pos) (zge tc tb):=by
 intro pins s σ H D I h
 obtain⟨W,⟨m0,w0⟩,turn⟩:=h
 refine wpAny_While (codeAny_whileLoop (fun n s'=>∃σ' H',Inv X pins σ' H' s'/\W n σ' H') ?_ m0 ⟨σ,H,I,w0⟩)
 rintro n s1 ⟨σ1,H1,I1,w1⟩
 refine wpAny_passesOwn hp (zB (hc pins s1 σ1 H1 _ I1 (turn n σ1 H1 w1)) fun b s2 ⟨H2,I2,q2⟩=>?_)
 cases b with
 |true=>
  obtain⟨N,hN,q2⟩:=q2
  rw[if_pos rfl]
  refine wpAny_passesOwn hp (zB (hb pins s2 σ1 H2 _ I2 q2) fun f s3 q3=>?_)
  cases f with
  |next=>
   obtain⟨σ3,H3,I3,n3⟩:=q3
   obtain⟨m',hm,w3⟩:=hN σ3 H3 n3
   exact⟨m',hm,σ3,H3,I3,w3⟩
  |cont=>
   obtain⟨σ3,H3,I3,n3⟩:=q3
   obtain⟨m',hm,w3⟩:=hN σ3 H3 n3
   exact⟨m',hm,σ3,H3,I3,w3⟩
  |brk=>exact q3
  |ret v=>exact q3
 |false=>
  rw[if_neg Bool.false_ne_true]
  exact wpAny_execs_nil ⟨σ1,H2,I2,q2⟩
end
structure It where
 go:Nat->Hp->Prop
 yld:Nat->Hp->V->Hp->Prop
 stop:Nat->Hp->Prop
noncomputable def xJ(X:Cx)(pins:List (Addr×Obj))(H:Hp)(b:Addr):Prop:=
 H b=none/\b≠X.env.locals/\b∉X.fs/\(b∈X.ex\/X.s₀.heap.objs.size<=b)/\(∀x c,X.env.cells.lookup x=some c->c≠b)/\∀p∈X.pn++pins,p.1≠b
theorem Inv.fpOk{X:Cx}{pins:List (Addr×Obj)}{σ:St}{H H':Hp}{s:Shared}{b:Addr}(I:Inv X pins σ H s)(hb:s.heap.objs.size<=b)(hn:H' b=none):xJ X pins H' b:=by
 refine⟨hn,Nat.ne_of_gt (Nat.lt_of_lt_of_le I.lt hb),I.nofs hb,.inr (Nat.le_trans I.sz hb),fun x c e z=>?_,fun p hp z=>?_⟩
 ·obtain⟨v,q⟩:=I.cell x c e
  exact absurd (Nat.lt_of_lt_of_le q.lt (by rw[z];exact hb)) (Nat.lt_irrefl _)
 ·exact absurd (Nat.lt_of_lt_of_le (Heap.lt_size (I.pin p hp).1) (by rw[z];exact hb)) (Nat.lt_irrefl _)
structure Turn (P:Program)(w:World)(K:PySem.W.Frag)(tg:Expr)(J:It)(fp:List Addr)(it:Addr)(tn:Nat->Heap->Prop):Prop where
 mem:it∈fp
 obj: ∀i h,tn i h->∀b∈fp,∃o,h.get? b=some o/\∀v,o.data≠ .cell v
 keep: ∀i h h',tn i h->(∀b∈fp,∀o,h.get? b=some o->h'.get? b=some o)->tn i h'
 item: ∀(X:Cx),X.prog=P->X.w=w->X.K=K->X.calm=true->∀(i:Nat) (pins:List (Addr×Obj)) (s:Shared) (σ:St) (H:Hp) (E:Value->Shared->Prop),Inv X pins σ H s->(∀b∈fp,xJ X pins H b)->tn i s.heap->J.go i H->
  wpAny (model P w) X.A (pyNext (.ref it)) (fun r s1=>∃u,r=some u/\
   wpAny (model P w) X.A (letOwnedTupleGo tg (.ref it) u) (fun _ s2=>∃x H',Inv X pins σ H' s2/\RelV x u/\J.yld i H x H'/\tn (i+1) s2.heap/\∀b∈fp,H' b=none) E s1) E s
 done: ∀(X:Cx),X.prog=P->X.w=w->X.K=K->X.calm=true->∀(i:Nat) (pins:List (Addr×Obj)) (s:Shared) (σ:St) (H:Hp) (E:Value->Shared->Prop),Inv X pins σ H s->(∀b∈fp,xJ X pins H b)->tn i s.heap->J.stop i H->
  wpAny (model P w) X.A (pyNext (.ref it)) (fun r s1=>r=none/\Inv X pins σ H s1) E s
 self: ∀(A:Around) (i:Nat) (s:Shared) (Q:Value->Shared->Prop) (E:Value->Shared->Prop),tn i s.heap->Q (.ref it) s->wpAny (model P w) A (pyIter (.ref it)) Q E s
noncomputable abbrev TI:=St->Hp->(It->Hp->Prop)->Prop
noncomputable def zac(X:Cx)(pins:List (Addr×Obj))(σ:St)(tg:Expr)(R:It->Hp->Prop)(itv:Value)(s2:Shared):Prop:=
 ∃(it:Addr) (fp:List Addr) (tn:Nat->Heap->Prop) (J:It) (H':Hp),itv= .ref it/\Inv X pins σ H' s2/\Turn X.prog X.w X.K tg J fp it tn/\tn 0 s2.heap/\(∀b∈fp,xJ X pins H' b)/\R J H'
noncomputable def PI(X:Cx)(tg iter:Expr)(wi:TI):Prop:=
 ∀(pins:List (Addr×Obj)) (s:Shared) (σ:St) (H:Hp) (R:It->Hp->Prop),Inv X pins σ H s->wi σ H R->
  wpAny (model X.prog X.w) X.A (eval iter X.env) (fun v s1=>wpAny (model X.prog X.w) X.A (pyIter v) (zac X pins σ tg R) X.xe s1) X.xe s
theorem Yc {M : Model} {A : Around} {E : Value → Shared → Prop} {s : Shared} {tg : Expr} {it : Addr} {u : Value} {o : Obj} {n : String} {vs : Array Value} {Q : Unit → Shared → Prop} (ho : s.heap.get? it = some o) (hc : o.cls = .type n) (hd : o.data = .fields vs)
    (hn : ["enumerate", "zip", "dict_itemiterator", "dict_reverseitemiterator", "odict_iterator", "itertools.zip_longest", "itertools.pairwise"].contains n = false) (hQ : Q () s) : wpAny M A (letOwnedTupleGo tg (.ref it) u) Q E s := by
  unfold letOwnedTupleGo
  cases tg <;> first
    | exact wpAny_pure hQ
    | (cases u <;> first
        | exact wpAny_pure hQ
        | (refine wpAny_bind (wpAny_load ho ?_)
           rw [hc, hd]
           show wpAny M A (if (["enumerate", "zip", "dict_itemiterator", "dict_reverseitemiterator", "odict_iterator", "itertools.zip_longest", "itertools.pairwise"].contains n && vs[0]? == some (rawInt _)) = true then _ else _) Q E s
           rw [if_neg (by intro h; rw [hn, Bool.false_and] at h; cases h)]
           exact wpAny_pure hQ))
noncomputable def Yd(K:PySem.W.Frag)(a:Addr):It:=
 ⟨fun i H=>∃xs x,SqL K H a xs/\xs[i]? =some x,fun i H x H'=>H'=H/\∀xs,SqL K H a xs->xs[i]? =some x,fun i H=>∃xs,SqL K H a xs/\xs.length<=i⟩
noncomputable def Ye(K:PySem.W.Frag)(a:Addr):It:=
 ⟨fun i H=>∃xs x,SqT K H a xs/\xs[i]? =some x,fun i H x H'=>H'=H/\∀xs,SqT K H a xs->xs[i]? =some x,fun i H=>∃xs,SqT K H a xs/\xs.length<=i⟩
noncomputable def jn(lo:Int)(n:Nat):It:=⟨fun i _=>i<n,fun i H x H'=>H'=H/\x= .int (lo+i),fun i _=>n<=i⟩
theorem zgg{P:Program}{w:World}{K:PySem.W.Frag}{tg:Expr}(a it:Addr):Turn P w K tg (Yd K a) [it] it (fun i h=>h.IsListIter it a i) where
 mem:=by simp
 obj:=fun i h st b hb=>by
  have e:b=it:=by simpa using hb
  subst e
  obtain⟨o,e,c,d⟩:=st
  exact⟨o,e,fun v z=>by rw[d] at z;cases z⟩
 keep:=fun i h h' st k=>st.at fun o e=>k it (by simp) o e
 item:=by
  intro X hP hw hK hc i pins s σ H E I hf st hg
  subst hP hw hK
  obtain⟨xs,x,hq,hx⟩:=hg
  obtain⟨its,rv,p,hz⟩:=I.list hq
  obtain⟨u,hu,ru⟩:=rv.get hx
  obtain⟨f0,f1,f2,f3,f4,f5⟩:=hf it (by simp)
  refine wpAny_pyNext_list_item st p.isList (x:=u) (by simpa using hu) fun h' st' sb=>?_
  have I1:Inv X pins σ H { s with heap:=h' }:=I.turned (t':=s.toks) (fun b o hb e=>(sb.2 b hb).trans e) f0 f1 f3 f4 f5
  obtain⟨o,e,c,d⟩:=id st'
  exact⟨u,rfl,Yc (s:={ s with heap:=h' }) e c d (by decide) ⟨x,H,I1,ru,⟨rfl,fun ys hy=>by rw[I.list_inj hy hq];exact hx⟩,st',fun b hb=>(hf b hb).1⟩⟩
 done:=by
  intro X hP hw hK hc i pins s σ H E I hf st hg
  subst hP hw hK
  obtain⟨xs,hq,hx⟩:=hg
  obtain⟨its,rv,p,hz⟩:=I.list hq
  obtain⟨f0,f1,f2,f3,f4,f5⟩:=hf it (by simp)
  have hl:=rv.length
  exact wpAny_pyNext_list_end (I.ok.hd hc) st p.isList (by simp;omega) fun h' eb=>⟨rfl,I.turned (t':=s.toks) (fun b o hb e=>eb b o hb e) f0 f1 f3 f4 f5⟩
 self:=fun _ _ _ _ _ st h=>wpAny_pyIter_listiter st h
theorem zgh{P:Program}{w:World}{K:PySem.W.Frag}{tg:Expr}(a it:Addr):Turn P w K tg (Ye K a) [it] it (fun i h=>h.IsTupleIter it a i) where
 mem:=by simp
 obj:=fun i h st b hb=>by
  have e:b=it:=by simpa using hb
  subst e
  obtain⟨o,e,c,d⟩:=st
  exact⟨o,e,fun v z=>by rw[d] at z;cases z⟩
 keep:=fun i h h' st k=>st.at fun o e=>k it (by simp) o e
 item:=by
  intro X hP hw hK hc i pins s σ H E I hf st hg
  subst hP hw hK
  obtain⟨xs,x,hq,hx⟩:=hg
  obtain⟨its,rv,p,hz⟩:=I.tuple hq
  obtain⟨u,hu,ru⟩:=rv.get hx
  obtain⟨f0,f1,f2,f3,f4,f5⟩:=hf it (by simp)
  refine wpAny_pyNext_tuple_item st (show s.heap.IsTuple a its.toArray from p) (x:=u) (by simpa using hu) fun h' st' sb=>?_
  have I1:Inv X pins σ H { s with heap:=h' }:=I.turned (t':=s.toks) (fun b o hb e=>(sb.2 b hb).trans e) f0 f1 f3 f4 f5
  obtain⟨o,e,c,d⟩:=id st'
  exact⟨u,rfl,Yc (s:={ s with heap:=h' }) e c d (by decide) ⟨x,H,I1,ru,⟨rfl,fun ys hy=>by rw[I.tuple_inj hy hq];exact hx⟩,st',fun b hb=>(hf b hb).1⟩⟩
 done:=by
  intro X hP hw hK hc i pins s σ H E I hf st hg
  subst hP hw hK
  obtain⟨xs,hq,hx⟩:=hg
  obtain⟨its,rv,p,hz⟩:=I.tuple hq
  obtain⟨f0,f1,f2,f3,f4,f5⟩:=hf it (by simp)
  have hl:=rv.length
  exact wpAny_pyNext_tuple_end (I.ok.hd hc) st (show s.heap.IsTuple a its.toArray from p) (by simp;omega) fun h' eb=>⟨rfl,I.turned (t':=s.toks) (fun b o hb e=>eb b o hb e) f0 f1 f3 f4 f5⟩
 self:=fun _ _ _ _ _ st h=>wpAny_pyIter_tupleiter st h
theorem zgi{P:Program}{w:World}{K:PySem.W.Frag}{tg:Expr}(it:Addr)(lo:Int)(n:Nat):Turn P w K tg (jn lo n) [it] it (fun i h=>IsRangeIter h it (lo+(i:Nat)*1) ((n:Int)-(i:Nat)) 1) where
 mem:=by simp
 obj:=fun i h st b hb=>by
  have e:b=it:=by simpa using hb
  subst e
  exact⟨_,st,fun v z=>by
   have z':Data.fields _=Data.cell v:=z
   cases z'⟩
 keep:=fun i h h' st k=>k it (by simp) _ st
 item:=by
  intro X hP hw hK hc i pins s σ H E I hf st hg
  subst hP hw hK
  obtain⟨f0,f1,f2,f3,f4,f5⟩:=hf it (by simp)
  have W:=Walks.range (prog:=X.prog) (w:=X.w) (I.ok.hd hc) it lo 1 n
  refine W.item i s _ _ hg st fun v h' tk hv st' kk=>?_
  obtain⟨t,rfl⟩:=hv
  have I1:Inv X pins σ H { s with heap:=h',toks:=tk }:=I.turned (fun b o hb e=>kk b o (by simpa using hb) e) f0 f1 f3 f4 f5
  refine⟨_,rfl,Yc (s:={ s with heap:=h',toks:=tk }) (n:="range_iterator") st' rfl rfl (by decide) ⟨.int (lo+i),H,I1,⟨t,?_⟩,⟨rfl,rfl⟩,st',fun b hb=>(hf b hb).1⟩⟩
  rw[Int.mul_one]
 done:=by
  intro X hP hw hK hc i pins s σ H E I hf st hg
  subst hP hw hK
  obtain⟨f0,f1,f2,f3,f4,f5⟩:=hf it (by simp)
  exact wpAny_pyNext_range_end (I.ok.hd hc) st (by have:n<=i:=hg;omega) fun h' eb=>⟨rfl,I.turned (t':=s.toks) (fun b o hb e=>eb b o hb e) f0 f1 f3 f4 f5⟩
 self:=fun _ _ _ _ _ st h=>wpAny_pyIter_rangeiter st h
end L2
namespace L2
open PySem PySem.Spec PyProof.Rows
section
variable {X:Cx} {tg:Expr}
theorem zad{pins:List (Addr×Obj)}{σ:St}{H:Hp}{s:Shared}{R:It->Hp->Prop}{E:Value->Shared->Prop}{lo hi:Int}{t u v:Tok}{tk:Nat}(I:Inv X pins σ H s)(h1: -(2 ^ 62)<=lo)(h2:lo<2 ^ 62)(h3: -(2 ^ 62)<=hi)(h4:hi<2 ^ 62)
  (q:R (jn lo (hi-lo).toNat) H):wpAny (model X.prog X.w) X.A (pyIter (.ref s.heap.objs.size)) (zac X pins σ tg R) E { s with heap:=s.heap.push { cls:=.type "range",data:=.fields #[.int lo t,.int hi u,.int 1 v] },toks:=tk }:=by
 refine wpAny_pyIter_range (IsRange.new ..) (small_one h1 h2 h3 h4) ?_
 have I1:Inv X pins σ H { s with heap:=s.heap.push { cls:=.type "range",data:=.fields #[.int lo t,.int hi u,.int 1 v] },toks:=tk }:=I.kept fun b o e=>Heap.get?_push_of_some _ e
 refine⟨(s.heap.push { cls:=.type "range",data:=.fields #[.int lo t,.int hi u,.int 1 v] }).objs.size,[(s.heap.push { cls:=.type "range",data:=.fields #[.int lo t,.int hi u,.int 1 v] }).objs.size],_,_,H,rfl,
  I1.kept (t':=tk) fun b o e=>Heap.get?_push_of_some _ e,zgi _ lo (hi-lo).toNat,?_,fun b hb=>?_,q⟩
 ·have e1:lo+((0:Nat):Int)*1=lo:=by simp
  have e2:(((hi-lo).toNat:Nat):Int)-((0:Nat):Int)=Builtin.Range.rangeSize lo hi 1:=by rw[rangeSize_one];split<;>omega
  show IsRangeIter _ _ (lo+((0:Nat):Int)*1) ((((hi-lo).toNat:Nat):Int)-((0:Nat):Int)) 1
  rw[e1,e2]
  exact Heap.get?_push_size _ rfl
 ·have e:b=(s.heap.push { cls:=.type "range",data:=.fields #[.int lo t,.int hi u,.int 1 v] }).objs.size:=by simpa using hb
  subst e
  exact I1.fpOk (Nat.le_refl _) (I1.hok.fresh (Nat.le_refl _))
noncomputable def zgj(ta:TA):TI:=fun σ H R=>ta σ H fun vs H1=>∃j:Int,vs=[.int j]/\ -(2 ^ 62)<=j/\j<2 ^ 62/\R (jn 0 j.toNat) H1
noncomputable def zgk(ta:TA):TI:=fun σ H R=>ta σ H fun vs H1=>∃i j:Int,vs=[.int i,.int j]/\(-(2 ^ 62)<=i/\i<2 ^ 62/\ -(2 ^ 62)<=j/\j<2 ^ 62)/\R (jn i (j-i).toNat) H1
theorem zgl{a:Expr}{ta:TA}{p pos:Pos}(hg:Gl X "range")(hm:X.mg "range"=none)(ha:PA X [a] ta)(hs:starEach [a] X.env=[(false,eval a X.env)]:=by rfl):PI X tg (.Call (.Name "range" p) [a] [] pos) (zgj ta):=by
 intro pins s σ H R I h
 refine Call_ (jl I hg hm boot_range (PyProof.Rows.callWith_type1 (zB (ha pos pins s σ H _ I h) fun us s1 ⟨vs,H1,I1,r1,q1⟩=>?_) hs rfl))
 obtain⟨j,e,q1,q2,q⟩:=q1
 subst e
 cases r1 with
 |cons r rr=>
  cases rr
  obtain⟨t,rfl⟩:=r
  exact call_range_1 (zad I1 (by omega) (by omega) q1 q2 (by simpa using q))
theorem zgm{a b:Expr}{ta:TA}{p pos:Pos}(hg:Gl X "range")(hm:X.mg "range"=none)(ha:PA X [a,b] ta)(hs:starEach [a,b] X.env=[(false,eval a X.env),(false,eval b X.env)]:=by rfl)(hs2:starEach [b] X.env=[(false,eval b X.env)]:=by rfl):
  PI X tg (.Call (.Name "range" p) [a,b] [] pos) (zgk ta):=by
 intro pins s σ H R I h
 refine Call_ (jl I hg hm boot_range (PyProof.Rows.callWith_type1 (zB (ha pos pins s σ H _ I h) fun us s1 ⟨vs,H1,I1,r1,q1⟩=>?_) (by rw[hs,hs2]) (by rw[hs2];rfl)))
 obtain⟨i,j,e,⟨q1,q2,q3,q4⟩,q⟩:=q1
 subst e
 cases r1 with
 |cons r rr=>
  cases rr with
  |cons r' rr=>
   cases rr
   obtain⟨t,rfl⟩:=r
   obtain⟨t',rfl⟩:=r'
   exact call_range_2 (zad I1 q1 q2 q3 q4 q)
noncomputable def zgn(wi:TI)(g:TG)(tb:TS):TS:=fun D σ H=>wi σ H fun J H1=>∃W:Nat->Nat->St->Hp->Prop,(∃m,W 0 m σ H1)/\∀i m σ H,W i m σ H->
 (J.stop i H/\D.nx σ H)\/(J.go i H/\∃N:St->Hp->Prop,(∀σ' H',N σ' H'->∃m',m'<m/\W (i+1) m' σ' H')/\∀x H',J.yld i H x H'->g x σ H' fun σ2 H2=>tb { D with nx:=N,ct:=N,bk:=D.nx } σ2 H2)
noncomputable def jZ(fp:List Addr)(h:Heap):List (Addr×Obj):=fp.filterMap fun b=>(h.get? b).map fun o=>(b,o)
theorem Za{fp:List Addr}{h:Heap}{b:Addr}{o:Obj}(hb:b∈fp)(e:h.get? b=some o):(b,o)∈jZ fp h:=List.mem_filterMap.mpr ⟨b,hb,by rw[e];rfl⟩
theorem zgo{fp:List Addr}{h:Heap}{p:Addr×Obj}(hp:p∈jZ fp h):p.1∈fp/\h.get? p.1=some p.2:=by
 obtain⟨b,hb,e⟩:=List.mem_filterMap.mp hp
 cases q:h.get? b with
 |none=>rw[q] at e;cases e
 |some o=>
  rw[q] at e
  have e':(b,o)=p:=Option.some.inj e
  subst e'
  exact⟨hb,q⟩
theorem Inv.pinned{pins:List (Addr×Obj)}{σ:St}{H:Hp}{s:Shared}{fp:List Addr}(I:Inv X pins σ H s)(hf: ∀b∈fp,xJ X pins H b)(ho: ∀b∈fp,∃o,s.heap.get? b=some o/\∀v,o.data≠ .cell v):Inv X (pins++jZ fp s.heap) σ H s:=
 I.pins_of fun p hp=>(List.mem_append.mp hp).elim (fun z=>I.pin p (List.mem_append_right _ z)) fun z=>by
  obtain⟨hb,e⟩:=zgo z
  obtain⟨f0,f1,f2,_⟩:=hf p.1 hb
  obtain⟨o,e',d⟩:=ho p.1 hb
  rw[e] at e';cases e'
  exact⟨e,f0,f1,f2,d⟩
theorem Inv.unpinned{pins pl:List (Addr×Obj)}{σ:St}{H:Hp}{s:Shared}(I:Inv X (pins++pl) σ H s):Inv X pins σ H s:=I.pins_of fun p hp=>I.pin p (List.mem_append_right _ (List.mem_append_left _ hp))
theorem QG{iter:Expr}{body:List Stmt}{wi:TI}{g:TG}{tb:TS}{pos:Pos}(hp:PassesOwn (model X.prog X.w) X.A X.env X.xe)(hc:X.calm=true)(hi:PI X tg iter wi)(hg:PG X tg g)(hb:PSs X body tb)
  (hs: ∀x,foldedSetIterable iter X.env x=pure x:=by intro _;rfl):PS X (.For tg iter body [] pos) (zgn wi g tb):=by
 intro pins s σ H D I h
 refine wpAny_For (zB (hi pins s σ H _ I h) fun v s1 h1=>zB h1 fun itv s2 h2=>?_) hs
 obtain⟨it,fp,tn,J,H2,e,I2,T,st2,f2,W,⟨m0,w0⟩,turn⟩:=h2
 subst e
 have stat: ∀{H':Hp},(∀b∈fp,H' b=none)->∀b∈fp,xJ X pins H' b:=fun hn b hb=>⟨hn b hb,(f2 b hb).2⟩
 refine codeAny_forLoop_any (fun n s'=>∃i σ' H',Inv X pins σ' H' s'/\tn i s'.heap/\(∀b∈fp,H' b=none)/\W i n σ' H') ?_ m0 ⟨0,σ,H2,I2,st2,fun b hb=>(f2 b hb).1,w0⟩
 rintro n s3 ⟨i,σ3,H3,I3,st3,fr3,w3⟩
 rcases turn i n σ3 H3 w3 with ⟨stop,qn⟩|⟨go,N,hN,step⟩
 ·refine wpAny_passesOwn hp (zB (T.done X rfl rfl rfl hc i pins s3 σ3 H3 X.xe I3 (stat fr3) st3 stop) fun r s4 ⟨hr,I4⟩=>?_)
  subst hr
  exact wpAny_execs_nil ⟨σ3,H3,I4,qn⟩
 ·refine wpAny_passesOwn hp (zB (T.item X rfl rfl rfl hc i pins s3 σ3 H3 X.xe I3 (stat fr3) st3 go) fun r s4 ⟨u,hr,h4⟩=>?_)
  subst hr
  refine wpAny_passesOwn hp (zB h4 fun _ s5 ⟨x,H5,I5,r5,y5,st5,fr5⟩=>?_)
  have I5':=I5.pinned (stat fr5) (T.obj _ _ st5)
  refine wpAny_passesOwn hp (zB (hg _ s5 σ3 H5 x u _ I5' r5 (step x H5 y5)) fun _ s6 ⟨σ6,H6,I6,q6⟩=>?_)
  refine wpAny_passesOwn hp (zB (hb _ s6 σ6 H6 _ I6 q6) fun f s7 q7=>?_)
  have again: ∀{σ7:St} {H7:Hp},Inv X (pins++jZ fp s5.heap) σ7 H7 s7->N σ7 H7->∃m,m<n/\∃i σ' H',Inv X pins σ' H' s7/\tn i s7.heap/\(∀b∈fp,H' b=none)/\W i m σ' H':=fun {σ7 H7} I7 n7=>by
   obtain⟨m',hm,w7⟩:=hN σ7 H7 n7
   refine⟨m',hm,i+1,σ7,H7,I7.unpinned,T.keep _ _ _ st5 fun b hb o e=>(I7.pin (b,o) (List.mem_append_right _ (List.mem_append_right _ (Za hb e)))).1,fun b hb=>?_,w7⟩
   obtain⟨o,e,d⟩:=T.obj _ _ st5 b hb
   exact (I7.pin (b,o) (List.mem_append_right _ (List.mem_append_right _ (Za hb e)))).2.1
  cases f with
  |next=>obtain⟨σ7,H7,I7,n7⟩:=q7;exact again I7 n7
  |cont=>obtain⟨σ7,H7,I7,n7⟩:=q7;exact again I7 n7
  |brk=>obtain⟨σ7,H7,I7,q7⟩:=q7;exact⟨σ7,H7,I7.unpinned,q7⟩
  |ret v=>obtain⟨x7,σ7,H7,I7,r7,q7⟩:=q7;exact⟨x7,σ7,H7,I7.unpinned,r7,q7⟩
end
end L2
namespace L2
open PySem PySem.Spec PyProof.Rows
noncomputable abbrev R2:=V->V->Hp->VK->Prop
noncomputable def OpR(X:Cx)(f:Value->Value->Sem Value)(r:R2):Prop:=
 ∀(pins:List (Addr×Obj)) (s:Shared) (σ:St) (H:Hp) (x y:V) (v u:Value) (Q:VK),Inv X pins σ H s->RelV x v->RelV y u->r x y H Q->
  wpAny (model X.prog X.w) X.A (f v u) (EP X pins σ Q) X.xe s
noncomputable def Yf(X:Cx)(f:Value->Sem Value)(r:V->Hp->VK->Prop):Prop:=
 ∀(pins:List (Addr×Obj)) (s:Shared) (σ:St) (H:Hp) (x:V) (v:Value) (Q:VK),Inv X pins σ H s->RelV x v->r x H Q->
  wpAny (model X.prog X.w) X.A (f v) (EP X pins σ Q) X.xe s
noncomputable def CallR(X:Cx)(f:Value)(r:List V->Hp->VK->Prop):Prop:=
 ∀(pins:List (Addr×Obj)) (s:Shared) (σ:St) (H:Hp) (xs:List V) (us:List Value) (Q:VK),Inv X pins σ H s->Vals xs us->r xs H Q->
  wpAny (model X.prog X.w) X.A (call f us) (EP X pins σ Q) X.xe s
noncomputable def zgp(X:Cx)(r:V->Hp->(Bool->Hp->Prop)->Prop):Prop:=
 ∀(pins:List (Addr×Obj)) (s:Shared) (σ:St) (H:Hp) (x:V) (v:Value) (Q:Bool->Hp->Prop),Inv X pins σ H s->RelV x v->r x H Q->
  wpAny (model X.prog X.w) X.A (truthy v) (TP X pins σ Q) X.xe s
noncomputable def Yg(r:R2)(ta tb:TE):TE:=fun σ H Q=>ta σ H fun x H1=>tb σ H1 fun y H2=>r x y H2 Q
noncomputable def zgq(r:V->Hp->VK->Prop)(ta:TE):TE:=fun σ H Q=>ta σ H fun x H1=>r x H1 Q
noncomputable def rI(C:Int->Int->Prop)(g:Int->Int->V):R2:=fun x y H Q=>∃i j,x= .int i/\y= .int j/\C i j/\Q (g i j) H
noncomputable def vf(g:Int->Int->V):R2:=fun x y H Q=>∃i j,x= .int i/\y= .int j/\Q (g i j) H
noncomputable def rU(g:Int->V):V->Hp->VK->Prop:=fun x H Q=>∃i,x= .int i/\Q (g i) H
section
variable {X:Cx} {a b c:Expr} {ta tb tc:TE} {pos:Pos}
theorem QH(ha:PE X a ta)(hb:PE X b tb){pins:List (Addr×Obj)}{s:Shared}{σ:St}{H:Hp}{R:V->V->Hp->Prop}(I:Inv X pins σ H s)
  (h:ta σ H fun x H1=>tb σ H1 fun y H2=>R x y H2) {Q:Value->Shared->Prop} {f:Value->Value->Sem Value}
  (hf: ∀v u s2 x y H2,Inv X pins σ H2 s2->RelV x v->RelV y u->R x y H2->wpAny (model X.prog X.w) X.A (f v u) Q X.xe s2):
  wpAny (model X.prog X.w) X.A (eval a X.env) (fun v s₁=>wpAny (model X.prog X.w) X.A (eval b X.env) (fun u s₂=>wpAny (model X.prog X.w) X.A (f v u) Q X.xe s₂) X.xe s₁) X.xe s:=by
 refine zB (ha pins s σ H _ I h) fun v s1 ⟨x,H1,I1,r1,q1⟩=>?_
 refine zB (hb pins s1 σ H1 _ I1 q1) fun u s2 ⟨y,H2,I2,r2,q2⟩=>?_
 exact hf v u s2 x y H2 I2 r1 r2 q2
theorem zgr{op:Operator}{r:R2}(ho:OpR X (binaryOp op) r)(ha:PE X a ta)(hb:PE X b tb):PE X (.BinOp a op b pos) (Yg r ta tb):=by
 intro pins s σ H Q I h
 exact wpAny_BinOp (QH ha hb I h fun v u s2 x y H2 I2 rx ry q=>ho pins s2 σ H2 x y v u Q I2 rx ry q)
theorem zgs{op:UnaryOp}{r:V->Hp->VK->Prop}(ho:Yf X (unaryOp op) r)(ha:PE X a ta):PE X (.UnaryOp op a pos) (zgq r ta):=by
 intro pins s σ H Q I h
 exact UnaryOp_ (zB (ha pins s σ H _ I h) fun v s1 ⟨x,H1,I1,r1,q1⟩=>ho pins s1 σ H1 x v Q I1 r1 q1)
theorem Vs{f:Value->Value->Sem Value}{C:Int->Int->Prop}{g:Int->Int->Int}
  (rule: ∀(i j:Int) (t u:Tok) (s:Shared) (Q:Value->Shared->Prop) (E:Value->Shared->Prop),C i j->Q (.int (g i j) s.toks) { s with toks:=s.toks+1 }->wpAny (model X.prog X.w) X.A (f (.int i t) (.int j u)) Q E s):
  OpR X f (rI C fun i j=>.int (g i j)):=by
 intro pins s σ H x y v u Q I rx ry h
 obtain⟨i,j,rfl,rfl,hc,q⟩:=h
 obtain⟨t,rfl⟩:=rx
 obtain⟨t',rfl⟩:=ry
 exact rule i j t t' s _ _ hc ⟨.int (g i j),H,I.tok _,⟨_,rfl⟩,q⟩
theorem Yh{f:Value->Value->Sem Value}{g:Int->Int->Int}
  (rule: ∀(i j:Int) (t u:Tok) (s:Shared) (Q:Value->Shared->Prop) (E:Value->Shared->Prop),Q (.int (g i j) s.toks) { s with toks:=s.toks+1 }->wpAny (model X.prog X.w) X.A (f (.int i t) (.int j u)) Q E s):
  OpR X f (vf fun i j=>.int (g i j)):=by
 intro pins s σ H x y v u Q I rx ry h
 obtain⟨i,j,rfl,rfl,q⟩:=h
 obtain⟨t,rfl⟩:=rx
 obtain⟨t',rfl⟩:=ry
 exact rule i j t t' s _ _ ⟨.int (g i j),H,I.tok _,⟨_,rfl⟩,q⟩
theorem QI{f:Value->Value->Sem Value}{g:Int->Int->Bool}
  (rule: ∀(i j:Int) (t u:Tok) (s:Shared) (Q:Value->Shared->Prop) (E:Value->Shared->Prop),Q (.bool (g i j)) s->wpAny (model X.prog X.w) X.A (f (.int i t) (.int j u)) Q E s):
  OpR X f (vf fun i j=>.bl (g i j)):=by
 intro pins s σ H x y v u Q I rx ry h
 obtain⟨i,j,rfl,rfl,q⟩:=h
 obtain⟨t,rfl⟩:=rx
 obtain⟨t',rfl⟩:=ry
 exact rule i j t t' s _ _ ⟨.bl (g i j),H,I,rfl,q⟩
noncomputable def zgt(i j:Int):Prop:=0<j/\j<1073741824
noncomputable def zgu(i j:Int):Prop:=0<=j/\j<=1000000/\i.natAbs<2 ^ 64
noncomputable def CMul(i j:Int):Prop:=(-(2 ^ 64)<i/\i<2 ^ 64)\/(-(2 ^ 64)<j/\j<2 ^ 64)
theorem CMul.ok{i j:Int}(h:CMul i j):IntMulOk i j:=by
 rcases h with ⟨h1,h2⟩|⟨h1,h2⟩
 ·exact .of_left (intBits_le_64 h1 h2)
 ·exact .of_right (intBits_le_64 h1 h2)
theorem zgv:OpR X (binaryOp .Add) (vf fun i j=>.int (i+j)):=Yh fun _ _ _ _ _ _ _ q=>add_int q
theorem zgw:OpR X (binaryOp .Sub) (vf fun i j=>.int (i-j)):=Yh fun _ _ _ _ _ _ _ q=>sub_int q
theorem zgx:OpR X (binaryOp .Mult) (rI CMul fun i j=>.int (i*j)):=Vs fun _ _ _ _ _ _ _ hc q=>mul_int q hc.ok
theorem zgy:OpR X (binaryOp .FloorDiv) (rI zgt fun i j=>.int (i/j)):=Vs fun i j _ _ _ _ _ hc q=>by
 have h1:(0:Int)<j:=hc.1
 have h2:j<1073741824:=hc.2
 exact floordiv_int (by omega) (by rw[Int.fdiv_eq_ediv_of_nonneg i (by omega)];exact q) (.inl (PyProof.noPylong_small (by omega)))
theorem zgz:OpR X (binaryOp .Mod) (rI (fun _ j=>0<j) fun i j=>.int (i%j)):=Vs fun i j _ _ _ _ _ hc q=>by
 have h1:(0:Int)<j:=hc
 exact mod_int' (by omega) (by rw[Int.fmod_eq_emod_of_nonneg i (by omega)];exact q)
theorem zgA:OpR X (binaryOp .LShift) (rI zgu fun i j=>.int (i*2 ^ j.toNat)):=Vs fun _ _ _ _ _ _ _ hc q=>lshift_int_small hc.1 hc.2.1 hc.2.2 q
theorem zgB:OpR X (binaryOp .BitAnd) (vf fun i j=>.int (Builtin.bitAnd i j)):=Yh fun _ _ _ _ _ _ _ q=>and_int q
theorem zgC:OpR X (binaryOp .BitOr) (vf fun i j=>.int (Builtin.bitOr i j)):=Yh fun _ _ _ _ _ _ _ q=>or_int q
theorem zgD:OpR X (binaryOp .BitXor) (vf fun i j=>.int (Builtin.bitXor i j)):=Yh fun _ _ _ _ _ _ _ q=>xor_int q
theorem zgE{f:Value->Sem Value}{g:Int->Int}
  (rule: ∀(i:Int) (t:Tok) (s:Shared) (Q:Value->Shared->Prop) (E:Value->Shared->Prop),Q (.int (g i) s.toks) { s with toks:=s.toks+1 }->wpAny (model X.prog X.w) X.A (f (.int i t)) Q E s):
  Yf X f (rU fun i=>.int (g i)):=by
 intro pins s σ H x v Q I rx h
 obtain⟨i,rfl,q⟩:=h
 obtain⟨t,rfl⟩:=rx
 exact rule i t s _ _ ⟨.int (g i),H,I.tok _,⟨_,rfl⟩,q⟩
theorem zgF:Yf X (unaryOp .USub) (rU fun i=>.int (-i)):=zgE fun _ _ _ _ _ q=>neg_int q
end
section
variable {X:Cx} {a b c:Expr} {ta tb tc:TE} {pos:Pos}
theorem zgG:OpR X (compareOp .Lt) (vf fun i j=>.bl (decide (i<j))):=QI fun _ _ _ _ _ _ _ q=>lt_int q
theorem zgH:OpR X (compareOp .LtE) (vf fun i j=>.bl (decide (i<=j))):=QI fun _ _ _ _ _ _ _ q=>le_int q
theorem zgI:OpR X (compareOp .Gt) (vf fun i j=>.bl (decide (j<i))):=QI fun _ _ _ _ _ _ _ q=>gt_int q
theorem OpR.or{f:Value->Value->Sem Value}{r r':R2}(h:OpR X f r)(h':OpR X f r'):OpR X f (fun x y H Q=>r x y H Q\/r' x y H Q):=by
 intro pins s σ H x y v u Q I rx ry q
 rcases q with q|q
 ·exact h pins s σ H x y v u Q I rx ry q
 ·exact h' pins s σ H x y v u Q I rx ry q
theorem yP(b:Expr){op:CmpOp}(h:op≠ .In:=by decide)(h2:op≠ .NotIn:=by decide):behindInMarks op b=false:=by
 have e1:(op==CmpOp.In)=false:=by cases op<;>first|rfl|exact absurd rfl h
 have e2:(op==CmpOp.NotIn)=false:=by cases op<;>first|rfl|exact absurd rfl h2
 cases b<;>simp[behindInMarks,e1,e2]
theorem zgJ{op:CmpOp}{r:R2}(ho:OpR X (compareOp op) r)(ha:PE X a ta)(hb:PE X b tb)(hm:behindInMarks op b=false):PE X (.Compare a [op] [b] pos) (Yg r ta tb):=by
 intro pins s σ H Q I h
 exact wpAny_Compare1 (QH ha hb I h fun v u s2 x y H2 I2 rx ry q=>ho pins s2 σ H2 x y v u Q I2 rx ry q) hm
noncomputable def zae(t:TE):TT:=fun σ H Q=>t σ H fun x H'=>∃k,x= .bl k/\Q k H'
theorem zgK{op:CmpOp}{r:R2}(ho:OpR X (compareOp op) r)(ha:PE X a ta)(hb:PE X b tb)(hm:behindInMarks op b=false):PT X (.Compare a [op] [b] pos) (zae (Yg r ta tb)):=by
 intro pins s σ H Q I h
 refine wpAny_isTrue_Compare1 (zB (ha pins s σ H _ I h) fun v s1 ⟨x,H1,I1,r1,q1⟩=>zB (hb pins s1 σ H1 _ I1 q1) fun u s2 ⟨y,H2,I2,r2,q2⟩=>
  zB (ho pins s2 σ H2 x y v u _ I2 r1 r2 q2) fun c s3 ⟨z,H3,I3,r3,k,e,q3⟩=>?_) hm
 subst e
 cases r3
 exact wpAny_truthy_bool ⟨H3,I3,q3⟩
noncomputable def zaf(r r':R2)(ta tb tc:TE):TE:=fun σ H Q=>ta σ H fun x H1=>tb σ H1 fun y H2=>r x y H2 fun z H3=>∃k,z= .bl k/\
 (if k=true then tc σ H3 fun w' H4=>r' y w' H4 Q else Q (.bl false) H3)
theorem zgL{op op':CmpOp}{r r':R2}(ho:OpR X (compareOp op) r)(ho':OpR X (compareOp op') r')(ha:PE X a ta)(hb:PE X b tb)(hc:PE X c tc)
  (hm:lastMarks [op,op'] [b,c]=false:=by with_unfolding_all rfl):PE X (.Compare a [op,op'] [b,c] pos) (zaf r r' ta tb tc):=by
 intro pins s σ H Q I h
 refine Compare_chain (zB (ha pins s σ H _ I h) fun v s1 ⟨x,H1,I1,r1,q1⟩=>chain_link (zB (hb pins s1 σ H1 _ I1 q1) fun u s2 ⟨y,H2,I2,r2,q2⟩=>
  zB (ho pins s2 σ H2 x y v u _ I2 r1 r2 q2) fun d s3 ⟨z,H3,I3,r3,k,e,q3⟩=>?_)) hm
 subst e
 cases r3
 refine wpAny_truthy_bool ?_
 cases k with
 |false=>exact ite_ff ⟨.bl false,H3,I3,rfl,q3⟩
 |true=>exact ite_tt (chain_last (zB (hc pins s3 σ H3 _ I3 q3) fun w' s4 ⟨z',H4,I4,r4,q4⟩=>ho' pins s4 σ H4 y z' u w' Q I4 r2 r4 q4))
theorem zgM{op op':CmpOp}{r r':R2}(ho:OpR X (compareOp op) r)(ho':OpR X (compareOp op') r')(ha:PE X a ta)(hb:PE X b tb)(hc:PE X c tc)
  (hm:lastMarks [op,op'] [b,c]=false:=by with_unfolding_all rfl):PT X (.Compare a [op,op'] [b,c] pos) (zae (zaf r r' ta tb tc)):=by
 intro pins s σ H Q I h
 refine isTrue_chain (zB (ha pins s σ H _ I h) fun v s1 ⟨x,H1,I1,r1,q1⟩=>test_link (zB (hb pins s1 σ H1 _ I1 q1) fun u s2 ⟨y,H2,I2,r2,q2⟩=>
  zB (ho pins s2 σ H2 x y v u _ I2 r1 r2 q2) fun d s3 ⟨z,H3,I3,r3,k,e,q3⟩=>?_)) hm
 subst e
 cases r3
 refine wpAny_truthy_bool ?_
 cases k with
 |false=>
  obtain⟨k',e',q'⟩:=q3
  cases e'
  exact ite_ff ⟨H3,I3,q'⟩
 |true=>
  refine ite_tt (test_last (zB (hc pins s3 σ H3 _ I3 q3) fun w' s4 ⟨z',H4,I4,r4,q4⟩=>zB (ho' pins s4 σ H4 y z' u w' _ I4 r2 r4 q4) fun d' s5 ⟨z2,H5,I5,r5,k2,e2,q5⟩=>?_))
  subst e2
  cases r5
  exact wpAny_truthy_bool ⟨H5,I5,q5⟩
noncomputable def QJ(K:PySem.W.Frag)(x:V)(H:Hp)(k:Bool):Prop:=
 match x with
 | .non=>k=false
 | .bl b=>k=b
 | .int i=>k=(i != 0)
 | .str y=>y.length<=sizeLine/\k=((y.length:Int) != 0)
 | .byt y=>y.size<=sizeLine/\k=((y.size:Int) != 0)
 | .ref p=>(∃xs,SqL K H p xs/\k= !xs.isEmpty)\/(∃xs,SqT K H p xs/\k= !xs.isEmpty)\/∃kvs,H p=some (.dK kvs)/\k= !kvs.isEmpty
 |_=>False
theorem zgN{κ:Type}{kvs:List (κ×V)}{vs:List (κ×Value)}(r:KV kvs vs):(!vs.isEmpty)= !kvs.isEmpty:=by
 cases r<;>rfl
theorem zag{xs:List V}{its:List Value}(r:Vals xs its):(!its.toArray.isEmpty)= !xs.isEmpty:=by
 cases r<;>simp
theorem Vt:(sizeLine:Nat)<2 ^ 63:=by rw[sizeLine_eq];decide
theorem zgO:zgp X (fun x H Q=>∃k,QJ X.K x H k/\Q k H):=by
 intro pins s σ H x v Q I rx h
 obtain⟨k,e,q⟩:=h
 have hl:=Vt
 have hs:sizeLine=16777216:=sizeLine_eq
 cases x with
 |non=>
  cases rx
  have e':k=false:=e
  subst e'
  exact truthy_none ⟨H,I,q⟩
 |bl b=>
  cases rx
  have e':k=b:=e
  subst e'
  exact wpAny_truthy_bool ⟨H,I,q⟩
 |int i=>
  obtain⟨t,rfl⟩:=rx
  have e':k=(i != 0):=e
  subst e'
  exact PySem.P.truthy_int ⟨H,I,q⟩
 |str y=>
  obtain⟨t,rfl⟩:=rx
  obtain⟨hy,e'⟩:y.length<=sizeLine/\k=((y.length:Int) != 0):=e
  subst e'
  exact PySem.P.truthy_str (by omega) ⟨H,I.tok _,q⟩
 |byt y=>
  obtain⟨t,rfl⟩:=rx
  obtain⟨hy,e'⟩:y.size<=sizeLine/\k=((y.size:Int) != 0):=e
  subst e'
  exact PySem.W.truthy_bytes (by omega) ⟨H,I.tok _,q⟩
 |ref p=>
  cases rx
  have e':(∃xs,SqL X.K H p xs/\k= !xs.isEmpty)\/(∃xs,SqT X.K H p xs/\k= !xs.isEmpty)\/∃kvs,H p=some (.dK kvs)/\k= !kvs.isEmpty:=e
  rcases e' with ⟨xs,hx,e'⟩|⟨xs,hx,e'⟩|⟨kvs,hx,e'⟩
  ·subst e'
   obtain⟨its,r,pl,hz⟩:=I.list hx
   have hlen:=r.length
   exact wpAny_truthy_list pl.isList (by simp only[List.size_toArray];omega) ⟨H,I.tok _,by rw[zag r];exact q⟩
  ·subst e'
   obtain⟨its,r,pl,hz⟩:=I.tuple hx
   have hlen:=r.length
   exact truthy_tuple pl (by simp only[List.size_toArray];omega) ⟨H,I.tok _,by rw[zag r];exact q⟩
  ·subst e'
   obtain⟨hz,hS,vs,r,m⟩:kvs.length<=sizeLine/\(p==sysModules)=false/\∃vs,KV kvs vs/\s.heap.DictOf (zW X.prog X.w) p vs:=I.hok p _ hx
   have hlen:kvs.length=vs.length:=Paired.length r
   exact wpAny_truthy_dict hS m (by omega) ⟨H,I.tok _,by rw[zgN r];exact q⟩
 |_=>exact (show False from e).elim
theorem zgP(ha:PE X a ta)(he: ∀whole,isTrue a X.env whole=(do let v <-whole;standAt a.pos;holding [v] (truthy v))):
  PT X a (fun σ H Q=>ta σ H fun x H'=>∃k,QJ X.K x H' k/\Q k H'):=by
 intro pins s σ H Q I h
 exact isTrue_plain (zB (ha pins s σ H _ I h) fun v s1 ⟨x,H1,I1,r1,q1⟩=>zgO pins s1 σ H1 x v Q I1 r1 q1) (he _)
theorem wz{x:V}{us:List Value}(r:Vals [x] us): ∃u,us=[u]/\RelV x u:=by
 cases r with
 |cons r1 r2=>cases r2;exact⟨_,rfl,r1⟩
theorem QK{x y:V}{us:List Value}(r:Vals [x,y] us): ∃u w',us=[u,w']/\RelV x u/\RelV y w':=by
 cases r with
 |cons r1 r2=>
  cases r2 with
  |cons r3 r4=>cases r4;exact⟨_,_,rfl,r1,r3⟩
theorem zgQ:CallR X (.builtin "abs") (fun xs H Q=>∃i,xs=[.int i]/\Q (.int (if i<0 then -i else i)) H):=by
 intro pins s σ H xs us Q I r h
 obtain⟨i,rfl,q⟩:=h
 obtain⟨u,rfl,t,rfl⟩:=wz r
 exact call_abs_int fun u tk=>⟨.int (if i<0 then -i else i),H,I.tok _,⟨_,rfl⟩,q⟩
theorem zgR(hc:X.calm=true):CallR X (.builtin "max") (fun xs H Q=>∃i j,xs=[.int i,.int j]/\Q (.int (if j>i then j else i)) H):=by
 intro pins s σ H xs us Q I r h
 obtain⟨i,j,rfl,q⟩:=h
 obtain⟨u,w',rfl,⟨t,rfl⟩,⟨t',rfl⟩⟩:=QK r
 refine max_two_ints (I.ok.hd hc) fun h' tk k=>⟨_,H,I.kept k,?_,q⟩
 by_cases hj:j>i
 ·rw[if_pos hj,if_pos hj];exact⟨_,rfl⟩
 ·rw[if_neg hj,if_neg hj];exact⟨_,rfl⟩
theorem zgS(hc:X.calm=true):CallR X (.builtin "min") (fun xs H Q=>∃i j,xs=[.int i,.int j]/\Q (.int (if j<i then j else i)) H):=by
 intro pins s σ H xs us Q I r h
 obtain⟨i,j,rfl,q⟩:=h
 obtain⟨u,w',rfl,⟨t,rfl⟩,⟨t',rfl⟩⟩:=QK r
 refine min_two_ints (I.ok.hd hc) fun h' tk k=>⟨_,H,I.kept k,?_,q⟩
 by_cases hj:j<i
 ·rw[if_pos hj,if_pos hj];exact⟨_,rfl⟩
 ·rw[if_neg hj,if_neg hj];exact⟨_,rfl⟩
end
end L2
namespace L2
open PySem PySem.Spec PyProof.Rows
structure ObjM (h:Heap)(x dx C:Addr)(mA:Str->Option Value):Prop where
 obj:h.get? x=some (PySem.W.instObj C dx)
 ns:h.Ns1 dx mA
 ne:dx≠x
theorem zgT{h:Heap}{dx:Addr}{mA:Str->Option Value}(n:h.Ns1 dx mA): ∃od,h.get? dx=some od/\∀name,PySem.W.lookIn name od=some (mA name):=by
 obtain⟨o,es,ep,ho,hd,hk,_,hm⟩:=n
 refine⟨o,ho,fun name=>?_⟩
 have e:=hm name
 unfold nsFind findBy at e
 rw[<-Array.find?_toList] at e
 unfold PySem.W.lookIn
 rw[hd]
 dsimp only
 split
 ·rename_i y q
  rw[q] at e
  exact congrArg some e
 ·rename_i q
  rw[q] at e
  have a:es.toList.any (·.refKey)=false:=by
   rw[List.any_eq_false]
   intro y hy
   obtain⟨z,t,hkey⟩:=hk y (Array.mem_toList_iff.mp hy)
   simp[DictEntry.refKey,hkey]
  have a': ¬es.toList.any (·.refKey)=true:=by rw[a];exact Bool.false_ne_true
  rw[if_neg a']
  exact congrArg some e
theorem ObjM.look{h:Heap}{x dx C:Addr}{mA:Str->Option Value}(I:ObjM h x dx C mA): ∃od,PySem.W.InstAt h x (PySem.W.instObj C dx) C (some od)/\∀name,PySem.W.lookIn name od=some (mA name):=
 let ⟨od,ho,hl⟩:=zgT I.ns
 ⟨od,⟨I.obj,rfl,rfl,ho⟩,hl⟩
theorem RelO.some_of{v:V}{o:Option Value}(r:RelO (some v) o): ∃u,o=some u/\RelV v u:=by
 cases o with
 |none=>exact (show False from r).elim
 |some u=>exact⟨u,rfl,r⟩
structure Cls (K:PySem.W.Frag)(C:Addr):Prop where
 pg:PySem.W.plainGet K C Str.empty=true
 hd:PySem.W.hasDictIn K C=true
 po:PySem.W.plainOver K C=true
 sa:PySem.W.findIn K (.ref C) "__setattr__"=some (some (.builtin "object.__setattr__"))
theorem Cls.get{K:PySem.W.Frag}{C:Addr}(c:Cls K C)(f:Str):PySem.W.plainGet K C f=true:=c.pg
end L2
namespace L2
open PySem PySem.Spec PyProof.Rows
structure Room (k:Nat)(A:Around):Prop where
 hd:A.handled=none
 dp:A.depth+3*k+5<recursionLimit
 un:A.units+16*k+200<cLine
theorem Room.mono{j k:Nat}{A:Around}(r:Room k A)(h:j<=k):Room j A:=⟨r.hd,by have:=r.dp;omega,by have:=r.un;omega⟩
theorem Room.deeper{k:Nat}{A:Around}(r:Room (k+1) A)(env:Env):Room k (A.deeper env):=
 ⟨r.hd,by have:=r.dp;show A.depth+1+3*k+5<_;omega,by have:=r.un;show A.units+3+16*k+200<_;omega⟩
theorem Room.in1{k:Nat}{A:Around}(r:Room (k+1) A):Room k A.in1:=
 ⟨r.hd,by have:=r.dp;show A.depth+3*k+5<_;omega,by have:=r.un;show A.units+1+16*k+200<_;omega⟩
theorem Room.depth{k:Nat}{A:Around}(r:Room k A):A.depth<recursionLimit:=by have:=r.dp;omega
theorem Room.units{k:Nat}{A:Around}(r:Room k A):A.units+64<cLine:=by have:=r.un;omega
noncomputable def zgU:TA:=fun _ H Q=>Q [] H
noncomputable def zgV(ta:TE)(tr:TA):TA:=fun σ H Q=>ta σ H fun x H1=>tr σ H1 fun xs H2=>Q (x::xs) H2
section
variable {X:Cx} {e:Expr} {es:List Expr} {te:TE} {t:TA} {pos:Pos}
theorem Zb:PA X [] zgU:=fun _ _ _ _ H Q I h=>Calls.spliced_nil ⟨[],H,I,.nil,h⟩
theorem jo(ha:PE X e te)(hr:PA X es t)(hs:starEach (e::es) X.env=(false,eval e X.env)::starEach es X.env:=by rfl):PA X (e::es) (zgV te t):=by
 intro pos pins s σ H Q I h
 rw[hs]
 show wpAny _ _ (spliced ((false,eval e X.env)::backTo pos (starEach es X.env))) _ _ s
 refine Calls.spliced_cons (zB (ha pins s σ H _ I h) fun u s1 ⟨x,H1,I1,r1,q1⟩=>?_)
 exact zB (hr pos pins s1 σ H1 _ I1 q1) fun us s2 ⟨xs,H2,I2,r2,q2⟩=>⟨x::xs,H2,I2,.cons r1 r2,q2⟩
noncomputable def zgW(t:TA):TE:=fun σ H Q=>t σ H fun xs H1=>xs.length<=sizeLine/\∀p,H1 p=none->Q (.ref p) (zI H1 p (.tup xs))
noncomputable def zgX(t:TA):TE:=fun σ H Q=>t σ H fun xs H1=>xs.length<=sizeLine/\∀p,H1 p=none->Q (.ref p) (zI H1 p (.lst xs))
theorem zgY{x1}(h:PA X es t):PE X (.Tuple es x1 pos) (zgW t):=by
 intro pins s σ H Q I hq
 refine wpAny_Tuple_spliced (zB (h pos pins s σ H _ I hq) fun us s1 ⟨xs,H1,I1,r,z,q⟩=>⟨by rw[<-r.length];exact z,?_⟩)
 have hf:H1 s1.heap.objs.size=none:=I1.hok.fresh (Nat.le_refl _)
 refine⟨.ref s1.heap.objs.size,zI H1 s1.heap.objs.size (.tup xs),I1.laid (t':=s1.toks) (fun b u e=>Heap.get?_push_of_some _ e) (Nat.le_refl _) ?_,rfl,q _ hf⟩
 exact⟨z,us,r,⟨_,Heap.get?_push_size _ rfl,rfl,_,rfl⟩⟩
theorem zgZ(h:PA X es t):PE X (.List es pos) (zgX t):=by
 intro pins s σ H Q I hq
 refine wpAny_List_spliced (zB (h pos pins s σ H _ I hq) fun us s1 ⟨xs,H1,I1,r,z,q⟩=>⟨by rw[<-r.length];exact z,?_⟩)
 have hf:H1 s1.heap.objs.size=none:=I1.hok.fresh (Nat.le_refl _)
 refine⟨.ref s1.heap.objs.size,zI H1 s1.heap.objs.size (.lst xs),I1.laid (t':=s1.toks) (fun b u e=>Heap.get?_push_of_some _ e) (Nat.le_refl _) ?_,rfl,q _ hf⟩
 exact⟨z,us,0,r,Heap.get?_push_size _ rfl⟩
end
noncomputable abbrev Sp:=List V->Hp->VK->XK->Prop
noncomputable abbrev wd:=List Env->Hp->Shared->XK->Value->Shared->Prop
structure Env0 (P:Program)(w:World)(K:PySem.W.Frag)(mg:Str->Option Value)(base:Heap)(A:Around)(outer:List Env)(s:Shared)(H:Hp):Prop where
 frames:A.frames=some outer
 mod:Mod K mg base
 bs: ∀b o,base.get? b=some o->s.heap.get? b=some o/\H b=none
 bsz:base.objs.size<=s.heap.objs.size
 funs:s.heap.FunFrames base outer
 frf: ∀b∈wy outer,H b=none
 hok:HOk P w H s.heap
 bare:AllBare s.gens
noncomputable def CE(outer:List Env)(P:Program)(w:World)(H:Hp)(s:Shared)(Q:VK)(u:Value)(s':Shared):Prop:=
 ∃v H',s'.os=s.os/\AllBare s'.gens/\Un (wy outer) [] H H' s.heap s'.heap/\HOk P w H' s'.heap/\RelV v u/\Q v H'
noncomputable def CR(CX:wd)(outer:List Env)(P:Program)(w:World)(H:Hp)(s:Shared)(Q:VK)(E:XK)(r:Result)(s':Shared):Prop:=
 match r with
 | .ok (.ret u)=>CE outer P w H s Q u s'
 | .ok _=>False
 | .error e=>CX outer H s E e s'
structure FnOk (P:Program)(w:World)(K:PySem.W.Frag)(mg:Str->Option Value)(base:Heap)(CX:wd)(k:Nat)(f:Addr)(fd:FuncData)(ps:List Str)(sp:Sp):Prop where
 len: ∀vs H Q E,sp vs H Q E->vs.length=ps.length
 run: ∀(A:Around) (outer:List Env) (s:Shared) (H:Hp) (args:Args) (us:List Value) (vs:List V) (Q:VK) (E:XK),Room k A->Env0 P w K mg base A outer s H->BindsTo s fd args (ps.zip us)->Vals vs us->sp vs H Q E->
  codeAny (model P w) A (.call (.ref f) args) (CR CX outer P w H s Q E) s
theorem FnOk.mono{P:Program}{w:World}{K:PySem.W.Frag}{mg:Str->Option Value}{base:Heap}{CX:wd}{j k:Nat}{f:Addr}{fd:FuncData}{ps:List Str}{sp:Sp}(F:FnOk P w K mg base CX j f fd ps sp)(h:j<=k):
  FnOk P w K mg base CX k f fd ps sp:=⟨F.len,fun A outer s H args us vs Q E hr=>F.run A outer s H args us vs Q E (hr.mono h)⟩
theorem FnOk.imp{P:Program}{w:World}{K:PySem.W.Frag}{mg:Str->Option Value}{base:Heap}{CX:wd}{k:Nat}{f:Addr}{fd:FuncData}{ps:List Str}{sp sp':Sp}(F:FnOk P w K mg base CX k f fd ps sp)
  (h: ∀vs H Q E,sp' vs H Q E->sp vs H Q E):FnOk P w K mg base CX k f fd ps sp':=
 ⟨fun vs H Q E q=>F.len vs H Q E (h _ _ _ _ q),fun A outer s H args us vs Q E hr he hb hv hs=>F.run A outer s H args us vs Q E hr he hb hv (h _ _ _ _ hs)⟩
theorem Env0.in1{P:Program}{w:World}{K:PySem.W.Frag}{mg:Str->Option Value}{base:Heap}{A:Around}{outer:List Env}{s:Shared}{H:Hp}(e:Env0 P w K mg base A outer s H):
  Env0 P w K mg base A.in1 outer s H:=⟨e.frames,e.mod,e.bs,e.bsz,e.funs,e.frf,e.hok,e.bare⟩
section
variable {X:Cx} {pins:List (Addr×Obj)} {σ:St} {H:Hp} {s s':Shared}
theorem Inv.env0(I:Inv X pins σ H s):Env0 X.prog X.w X.K X.mg X.base X.A X.stack s H:=
 ⟨I.ok.frames,I.ok.mod,I.bs,Nat.le_trans I.ok.bsz I.sz,I.stack,I.stkFree,I.hok,I.bare⟩
theorem Inv.after{Q:VK}{u:Value}(I:Inv X pins σ H s)(h:CE X.stack X.prog X.w H s Q u s'):EP X pins σ Q u s':=by
 obtain⟨v,H',os,bare,un,hok,r,q⟩:=h
 obtain⟨hh,g,d,t,os'⟩:=s'
 obtain rfl:os'=s.os:=os
 exact⟨v,H',I.call (h':=hh) (g':=g) (d':=d) (t':=t) (ch:=[]) un hok bare (fun b z=>absurd z (by simp)),r,q⟩
end
noncomputable def zg0(sp:Sp)(dvs:List V)(E:XK)(t:TA):TE:=fun σ H Q=>t σ H fun vs H1=>sp (vs++dvs) H1 Q E
noncomputable def Binds(K:PySem.W.Frag)(fd:FuncData)(ps:List Str)(ds:List Value):Prop:=
 ∀(s:Shared) (us:List Value),K.In s.heap->(us++ds).length=ps.length->BindsTo s fd ⟨us,[]⟩ (ps.zip (us++ds))
theorem Binds.all{K:PySem.W.Frag}{fd:FuncData}{ps:List Str}(h: ∀us:List Value,us.length=ps.length->bindArgs fd ⟨us,[]⟩=pure (ps.zip us)):Binds K fd ps []:=fun s us _ hl=>by
 rw[List.append_nil] at hl⊢
 exact .of_eq (h us hl)
noncomputable def QL(CX:wd)(X:Cx)(E:XK):Prop:=∀(pins:List (Addr×Obj)) (σ:St) (H:Hp) (s:Shared) (e:Value) (s':Shared),Inv X pins σ H s->CX X.stack H s E e s'->X.xe e s'
section
variable {X:Cx} {CX:wd} {k:Nat} {f C:Addr} {fd:FuncData} {ps:List Str} {sp:Sp} {dvs:List V} {ds:List Value} {E:XK} {x m:Str} {p pos apos:Pos} {e o:Expr} {es:List Expr} {ta:TE} {t:TA}
theorem zg1{pins:List (Addr×Obj)}{σ:St}{H:Hp}{s:Shared}{Q:VK}{us:List Value}{vs:List V}(F:FnOk X.prog X.w X.K X.mg X.base CX k f fd ps sp)(hr:Room k X.A)(hb:Binds X.K fd ps ds)(hd:Vals dvs ds)(hx:QL CX X E)
  (I:Inv X pins σ H s) (r:Vals vs us) (h:sp (vs++dvs) H Q E):wpAny (model X.prog X.w) X.A (call (.ref f) us) (EP X pins σ Q) X.xe s:=by
 have r2:Vals (vs++dvs) (us++ds):=r.append hd
 have hl:(us++ds).length=ps.length:=by rw[<-r2.length];exact F.len _ _ _ _ h
 refine wpAny_call (codeAny_mono (F.run X.A X.stack s H ⟨us,[]⟩ (us++ds) (vs++dvs) Q E hr I.env0 (hb s us I.kIn hl) r2 h) fun r s' hq=>?_)
 cases r with
 |error e=>exact hx pins σ H s e s' I hq
 |ok fl=>
  cases fl with
  |ret u=>exact I.after hq
  |next=>exact False.elim hq
  |brk=>exact False.elim hq
  |cont=>exact False.elim hq
theorem zg2(F:FnOk X.prog X.w X.K X.mg X.base CX k f fd ps sp)(hr:Room k X.A)(hg:Gl X x)(hm:X.mg x=some (.ref f))(hk:PySem.W.keepIn X.K (.ref f)=true)(hb:Binds X.K fd ps ds)(hd:Vals dvs ds)(hx:QL CX X E)
  (ha:PA X (e::es) t) (hdb:(x==("__debug__":Str))=false:=by decide) (he:starEach (e::es) X.env=(false,eval e X.env)::starEach es X.env:=by rfl) (hpl:(backTo pos (starEach es X.env)).any (·.1)=false:=by rfl):
  PE X (.Call (.Name x p) (e::es) [] pos) (zg0 sp dvs E t):=by
 intro pins s σ H Q I h
 refine wpAny_Call_Name_kw (gS I hg hm ?_ hdb)
 refine PySem.W.callWith_K (h₀:=X.base) I.ok.mod.kin hk (zB (ha pos pins s σ H _ I h) fun us s1 ⟨vs,H1,I1,r,q⟩=>⟨I1.kIn,?_⟩) he hpl
 exact zg1 F hr hb hd hx I1 r q
end
structure FnScope (N P:List Str)(sc:Scope):Prop where
 kind:sc.kind= .function
 co:sc.isCoroutine=false
 gen:sc.isGenerator=false
 nd:N.Nodup
 pre:N.take P.length=P
 par: ∀x∈P,sc.names.lookup x=some .local\/sc.names.lookup x=some .cell
 nofree: ∀y∈sc.names,y.2≠ .free
theorem zah{kindOf:Str->Option NameKind}{x:Str}: ∀{binds:List (Str×Value)} {m:Str->Option Value},(∀v,(x,v)∉binds)->bindL kindOf binds m x=m x
 |[],_,_=>rfl
 |(n,v)::r,m,h=>by
  unfold bindL
  rw[zah fun w hw=>h w (List.mem_cons_of_mem _ hw)]
  split
  ·have:x≠n:=by rintro rfl;exact h v List.mem_cons_self
   simp[this]
  ·rfl
theorem zai{kindOf:Str->Option NameKind}{x:Str}: ∀{binds:List (Str×Value)} {m:Str->Option Value},(∀v,(x,v)∉binds)->bindC kindOf binds m x=m x
 |[],_,_=>rfl
 |(n,v)::r,m,h=>by
  unfold bindC
  rw[zai fun w hw=>h w (List.mem_cons_of_mem _ hw)]
  split
  ·rfl
  ·have:x≠n:=by rintro rfl;exact h v List.mem_cons_self
   simp[this]
theorem zaj{kindOf:Str->Option NameKind}{x:Str}{v:Value}: ∀{P:List Str} {vs:List Value} {i:Nat} {m:Str->Option Value},P.Nodup->P[i]? =some x->vs[i]? =some v->kindOf x=some .local->
  bindL kindOf (P.zip vs) m x=some v
 |[],_,_,_,_,h,_,_=>by simp at h
 |_::_,[],_,_,_,_,h,_=>by simp at h
 |p::P,w::vs,0,m,nd,h1,h2,hk=>by
  simp at h1 h2;subst h1;subst h2
  show bindL kindOf ((p,w)::P.zip vs) m p=_
  unfold bindL
  rw[zah fun v hv=>(List.nodup_cons.mp nd).1 (List.of_mem_zip hv).1,if_pos hk]
  simp
 |p::P,w::vs,i+1,m,nd,h1,h2,hk=>by
  show bindL kindOf ((p,w)::P.zip vs) m x=_
  unfold bindL
  exact zaj (i:=i) (List.nodup_cons.mp nd).2 (by simpa using h1) (by simpa using h2) hk
theorem zak{kindOf:Str->Option NameKind}{x:Str}{v:Value}: ∀{P:List Str} {vs:List Value} {i:Nat} {m:Str->Option Value},P.Nodup->P[i]? =some x->vs[i]? =some v->kindOf x≠some .local->
  bindC kindOf (P.zip vs) m x=some v
 |[],_,_,_,_,h,_,_=>by simp at h
 |_::_,[],_,_,_,_,h,_=>by simp at h
 |p::P,w::vs,0,m,nd,h1,h2,hk=>by
  simp at h1 h2;subst h1;subst h2
  show bindC kindOf ((p,w)::P.zip vs) m p=_
  unfold bindC
  rw[zai fun v hv=>(List.nodup_cons.mp nd).1 (List.of_mem_zip hv).1,if_neg hk]
  simp
 |p::P,w::vs,i+1,m,nd,h1,h2,hk=>by
  show bindC kindOf ((p,w)::P.zip vs) m x=_
  unfold bindC
  exact zak (i:=i) (List.nodup_cons.mp nd).2 (by simpa using h1) (by simpa using h2) hk
noncomputable def we(N:List Str)(vs:List V):St:=vs.map some++List.replicate (N.length-vs.length) none
noncomputable def yf(CX:wd)(P:Program)(w:World)(K:PySem.W.Frag)(mg:Str->Option Value)(base:Heap)(N:List Str)(qual:Str)(scope:Scope)(f:Addr)(cd:Value)(A:Around)(outer:List Env)(s:Shared)(H:Hp)(E:XK):Cx where
 prog:=P
 w:=w
 K:=K
 mg:=mg
 base:=base
 A:=A.deeper (envOfC qual scope s.heap.objs.size f cd)
 N:=N
 s₀:=s
 H₀:=H
 env:=envOfC qual scope s.heap.objs.size f cd
 outer:=outer
 stack:=envOfC qual scope s.heap.objs.size f cd::outer
 ex:=[]
 calm:=true
 fn:=fun _=>true
 pn:=[]
 xe:=fun e s'=>wpAny (model P w) (A.deeper (envOfC qual scope s.heap.objs.size f cd)) (leaving (envOfC qual scope s.heap.objs.size f cd) e) (fun _ s''=>CX outer H s E e s'') (fun e' s''=>CX outer H s E e' s'') s'
theorem zal{sc:Scope}{n:Nat}{x:Str}(h:sc.names.lookup x=some .cell): ∃c,(cellsFrom n sc.names []).lookup x=some c:=by
 have q:=PySem.W.cellsFrom_some sc.names n [] (.inl h)
 exact Option.isSome_iff_exists.mp q
theorem zg3{CX:wd}{P:Program}{w:World}{K:PySem.W.Frag}{mg:Str->Option Value}{base:Heap}{N ps:List Str}{qual:Str}{scope:Scope}{f:Addr}{cd:Value}{A:Around}{outer:List Env}{s s1:Shared}{H:Hp}{E:XK}{us:List Value}{vs:List V}
  (S:FnScope N ps scope) (hd:A.handled=none) (e0:Env0 P w K mg base A outer s H) (hl:vs.length=ps.length) (r:Vals vs us)
  (x:InCallC s s.heap.objs.size (bindL (envOfC qual scope s.heap.objs.size f cd).kindOf (ps.zip us) fun _=>none) (cellsFrom (s.heap.objs.size+1) scope.names []) (bindC (envOfC qual scope s.heap.objs.size f cd).kindOf (ps.zip us) fun _=>none) s1):
  Inv (yf CX P w K mg base N qual scope f cd A outer s H E) [] (we N vs) H s1:=by
 have hpl:ps.length<=N.length:=by have:=congrArg List.length S.pre;rw[List.length_take] at this;omega
 obtain⟨h1,tk,rfl,hk⟩:=x.done
 have noA: ∀b:Addr,b∉(yf CX P w K mg base N qual scope f cd A outer s H E).ex:=fun b z=>absurd (show b∈([]:List Addr) from z) (by simp)
 refine⟨⟨e0.mod,S.kind,rfl,rfl,Nat.le_refl _,fun y z c h1 h2=>?_,fun y hy=>?_,fun y c _ h=>?_,fun _=>hd,Around.frames_deeper e0.frames,.inr ⟨rfl,rfl⟩,fun b z=>absurd z (noA b),e0.bs,e0.bsz,fun b _ _=>noA b,fun b z=>absurd z (noA b),e0.funs,e0.frf⟩,
  rfl,e0.bare,Un.kept hk,⟨_,x.toInCall.ns,fun i y v h1 h2 h3=>?_⟩,fun y c h=>⟨_,x.cell y c h⟩,e0.hok.fresh (Nat.le_refl _),fun y c h=>?_,fun p hp=>absurd (show p∈([]:List (Addr×Obj)) from hp) (by simp),e0.hok.kept hk,?_⟩
 ·exact name_of_addr x.apart (PySem.mem_of_lookup h1) (PySem.mem_of_lookup h2)
 ·have hy:scope.names.lookup y=some .cell\/scope.names.lookup y=some .free:=hy
  rcases hy with hy|hy
  ·exact zal hy
  ·exact absurd rfl (S.nofree _ (PySem.mem_of_lookup hy))
 ·exact Nat.le_of_lt (x.above y c (PySem.mem_of_lookup h))
 ·have hi:i<vs.length:=by
   unfold we at h2
   by_cases hi:i<vs.length
   ·exact hi
   ·rw[List.getElem?_append_right (by simpa using hi)] at h2
    rw[List.getElem?_replicate] at h2
    split at h2<;>cases h2
  have ha:vs[i]? =some v:=by
   unfold we at h2
   rw[List.getElem?_append_left (by simpa using hi),List.getElem?_map] at h2
   cases e:vs[i]? with
   |none=>rw[e] at h2;cases h2
   |some a=>rw[e] at h2;cases h2;rfl
  obtain⟨u,hu,rv⟩:=r.get ha
  have hp:ps[i]? =some y:=by
   rw[<-S.pre,List.getElem?_take_of_lt (by omega)];exact h1
  have ndP:ps.Nodup:=by rw[<-S.pre];exact S.nd.sublist (List.take_sublist _ _)
  refine⟨u,rv,?_⟩
  rcases S.par y (List.mem_of_getElem? hp) with k|k
  ·exact .inl ⟨k,zaj ndP hp hu k⟩
  ·obtain⟨c,e⟩:=zal (n:=s.heap.objs.size+1) k
   refine .inr ⟨.inl k,c,e,?_⟩
   have q:=x.cell y c e
   rw[zak ndP hp hu (by show scope.names.lookup y≠_;rw[k];decide)] at q
   exact q
 ·exact e0.hok.fresh (Nat.le_of_lt (x.above y c (PySem.mem_of_lookup h)))
 ·unfold we
  show _=N.length
  rw[List.length_append,List.length_map,List.length_replicate]
  omega
theorem zg4{CX:wd}{P:Program}{w:World}{K:PySem.W.Frag}{mg:Str->Option Value}{base:Heap}{k:Nat}{f:Addr}{name qual:Str}{params:Arguments}{body:List Stmt}{scope:Scope}{dV kV doc pm cdv ct oc:Value}{an od:Option Addr}
  {osl:Array (Option Value)} {N ps:List Str} {sp:Sp} (lk:K.lookup f=some ⟨oc,od,.func (PySem.W.fnOf name qual params body scope dV kV doc pm an cdv ct),osl⟩) (hcd:PySem.W.codeIn K cdv qual=true) (S:FnScope N ps scope)
  (len: ∀vs H Q E,sp vs H Q E->vs.length=ps.length)
  (hbody: ∀(A:Around) (outer:List Env) (s:Shared) (H:Hp) (vs:List V) (Q:VK) (E:XK),Room k (A.deeper (envOfC qual scope s.heap.objs.size f cdv))->sp vs H Q E->
   ∃t,PSs (yf CX P w K mg base N qual scope f cdv A outer s H E) body t/\t { nx:=fun _ H'=>Q .non H',rt:=Q } (we N vs) H):
  FnOk P w K mg base CX (k+1) f (PySem.W.fnOf name qual params body scope dV kV doc pm an cdv ct) ps sp:=by
 refine⟨len,fun A outer s H args us vs Q E hr e0 hb r hsp=>?_⟩
 have hl:=len _ _ _ _ hsp
 have KX:K.In s.heap:=e0.mod.kin.keeps fun b o e=>(e0.bs b o e).1
 have lim:s.heap.NoLimit:=e0.mod.nolimit.keeps fun b o e=>(e0.bs b o e).1
 have hkind: ∀y∈ps.zip us,scope.names.lookup y.1=some .local\/(scope.names.lookup y.1=some .cell/\((cellsFrom (s.heap.objs.size+1) scope.names []).lookup y.1).isSome=true):=fun ⟨n,v⟩ hy=>by
  rcases S.par n (List.of_mem_zip hy).1 with q|q
  ·exact .inl q
  ·exact .inr ⟨q,PySem.W.cellsFrom_some _ _ _ (.inl q)⟩
 refine codeAny_call_function hr.depth (KX _ _ lk) rfl S.co S.gen rfl (PySem.W.codeRec_of KX hcd) (hb _ _ _ _ ?_)
 refine wpAny_newFunctionEnv_cells S.kind hkind fun env he s1 x=>?_
 subst he
 refine⟨lim.keeps x.toInCall.keep,codeAny_func ?_⟩
 obtain⟨t,ht,hq⟩:=hbody A outer s H vs Q E (hr.deeper _) hsp
 have I:Inv (yf CX P w K mg base N qual scope f cdv A outer s H E) [] (we N vs) H s1:=zg3 S hr.hd e0 hl r x
 refine wpAny_mono (ht [] s1 (we N vs) H _ I hq) (fun fl s' hs=>?_) fun e s' hs=>hs
 have fin: ∀{σ':St} {H':Hp} {v:V} {u:Value},Inv (yf CX P w K mg base N qual scope f cdv A outer s H E) [] σ' H' s'->RelV v u->Q v H'->CE outer P w H s Q u s':=
  fun {σ' H' v u} J rv q=>⟨v,H',J.os,J.bare,J.base,J.hok,rv,q⟩
 cases fl with
 |ret u=>
  obtain⟨v,σ',H',J,rv,q⟩:=hs
  exact fin J rv q
 |next=>
  obtain⟨σ',H',J,q⟩:=hs
  exact fin (v:=V.non) (u:=Value.none) J rfl q
 |brk=>
  obtain⟨_,_,_,q⟩:=hs
  exact False.elim q
 |cont=>
  obtain⟨_,_,_,q⟩:=hs
  exact False.elim q
end L2
namespace L2
open PySem PySem.Spec PyProof.Rows
section
variable {X:Cx} {x:Str} {p pos:Pos} {e:Expr} {es:List Expr} {t:TA} {id T:String} {r:List V->Hp->VK->Prop}
noncomputable def QM(r:List V->Hp->VK->Prop)(t:TA):TE:=fun σ H Q=>t σ H fun vs H1=>r vs H1 Q
theorem QN(hc:CallR X (.builtin id) r)(hg:Gl X x)(hm:X.mg x=none)(hv:bootBuiltins x=some (.builtin id))(ha:PA X (e::es) t)(hn:x≠"__name__":=by decide)(hdb:(x==("__debug__":Str))=false:=by decide)
  (he:starEach (e::es) X.env=(false,eval e X.env)::starEach es X.env:=by rfl) (hpl:(backTo pos (starEach es X.env)).any (·.1)=false:=by rfl):PE X (.Call (.Name x p) (e::es) [] pos) (QM r t):=by
 intro pins s σ H Q I h
 refine wpAny_Call_Name_kw (jl I hg hm hv ?_ hn hdb)
 exact PyProof.Rows.callWith_builtin1 (zB (ha pos pins s σ H _ I h) fun us s1 ⟨vs,H1,I1,r1,q1⟩=>hc pins s1 σ H1 vs us Q I1 r1 q1) he hpl
theorem zg5(hc:CallR X (.type T) r)(hg:Gl X x)(hm:X.mg x=none)(hv:bootBuiltins x=some (.type T))(ha:PA X (e::es) t)(hn:x≠"__name__":=by decide)(hdb:(x==("__debug__":Str))=false:=by decide)
  (he:starEach (e::es) X.env=(false,eval e X.env)::starEach es X.env:=by rfl) (hpl:(backTo pos (starEach es X.env)).any (·.1)=false:=by rfl):PE X (.Call (.Name x p) (e::es) [] pos) (QM r t):=by
 intro pins s σ H Q I h
 refine wpAny_Call_Name_kw (jl I hg hm hv ?_ hn hdb)
 exact PyProof.Rows.callWith_type1 (zB (ha pos pins s σ H _ I h) fun us s1 ⟨vs,H1,I1,r1,q1⟩=>hc pins s1 σ H1 vs us Q I1 r1 q1) he hpl
end
end L2
namespace HT
open PySem PyProof.Rows
noncomputable def lexLt:List Int->List Int->Bool
 |[],[]=>false
 |[],_::_=>true
 |_::_,[]=>false
 |x::xs,y::ys=>if x=y then lexLt xs ys else decide (x<y)
theorem lexLt_cons(x y:Int)(xs ys:List Int):lexLt (x::xs) (y::ys)=if x=y then lexLt xs ys else decide (x<y):=rfl
theorem zam:lexLt [] []=false:=rfl
theorem zan(y:Int)(ys:List Int):lexLt [] (y::ys)=true:=rfl
theorem zao(x:Int)(xs:List Int):lexLt (x::xs) []=false:=rfl
theorem zap(A:Around)(s:Shared)(a:Int)(t:Tok)(c:Int)(u:Tok): ∃e,SeqAt.EqAt A s (.int a t) (.int c u) e/\(e=true↔a=c):=
 ⟨(a==c),SeqAt.EqAt.int_int a t c u,by simp⟩
theorem zg6(A:Around)(s:Shared)(a:Int)(t:Tok)(c:Int)(u:Tok)(prog:Program)(w:World)(E:Value->Shared->Prop)(Q:Value->Shared->Prop)(h:Q (.bool (decide (a<c))) s):
  wpAny (model prog w) A (richCompare .Lt (.int a t) (.int c u)) Q E s:=
 (PyProof.Rows.lt_int h:wpAny (model prog w) A (compareOp .Lt (.int a t) (.int c u)) Q E s)
section
open PySem.SeqAt
open PySem.AutoSeq1 (wpAny_loadPart')
open PySem.MeetsSeq PySem.MeetsSeq2 PySem.MeetsSeq3
theorem zg7(l b:Addr)(items items2:Array Value)(n n2:Nat)(dd dd2:Option Addr)(sl sl2:Array (Option Value))(ns ms:List Int)(hi:IntsAre items.toList ns)(hj:IntsAre items2.toList ms):
  Meets (Builtin.«tuple.__lt__» ⟨[.ref l,.ref b],[]⟩)
   (fun _ R s=>s.heap.get? l=some { cls:=.type "tuple",dict:=dd,data:=.seq items n,slots:=sl }/\s.heap.get? b=some { cls:=.type "tuple",dict:=dd2,data:=.seq items2 n2,slots:=sl2 }/\
    R (.ok (.ret (.bool (lexLt ns ms)))) s):=
 .of_wp fun prog w A R s h=>by
  obtain⟨hp,g,d,tk,os⟩:=s;obtain⟨hl,hb,h⟩:=h
  have f2:=AutoSeq1.sub_tuple_tuple
  have z1:items.size=ns.length:=by rw[<-hi.length];simp
  have z2:items2.size=ms.length:=by rw[<-hj.length];simp
  wp_walk using wpAny_loadPart' hl,wpAny_loadPart' hb,wpAny_forIn_list _ (fun zT b s'=>b.1=none/\s'=⟨hp,g,d,tk,os⟩/\∃(vs ws:List Value) (ns' ms':List Int),zT=vs.zip ws/\
   IntsAre vs ns'/\IntsAre ws ms'/\ns'.length+items2.size=ms'.length+items.size/\R (.ok (.ret (.bool (lexLt ns' ms')))) ⟨hp,g,d,tk,os⟩) _
  case turn=>
   rintro⟨y,x⟩ zT b s' ⟨hb',rfl,vs,ws,ns',ms',hz,hvi,hwi,hlen,hR⟩
   cases hvi with
   |nil=>rw[List.zip_nil_left] at hz;cases hz
   |cons a t hvi'=>
    cases hwi with
    |nil=>rw[List.zip_nil_right] at hz;cases hz
    |cons c u hwi'=>
     rw[List.zip_cons_cons] at hz
     injection hz with hyx hrest
     injection hyx with hy hx
     subst hy hx
     rw[lexLt_cons] at hR
     simp only[List.length_cons] at hlen
     obtain⟨e,he,hiff⟩:=zap A.in1 ⟨hp,g,d,tk,os⟩ a t c u
     refine wpAny_bind (he prog w _ _ ?_)
     cases e with
     |true=>
      rw[if_pos (hiff.mp rfl)] at hR
      wp_walk
      exact⟨rfl,rfl,_,_,_,_,hrest,hvi',hwi',by omega,hR⟩
     |false=>
      rw[if_neg (fun q=>absurd (hiff.mpr q) Bool.false_ne_true)] at hR
      have hri:=zg6 A.in1 ⟨hp,g,d,tk,os⟩ a t c u prog w
      wp_walk using hri
      exact⟨_,rfl,by simpa using hR⟩
  case fin=>
   rintro⟨b1,b2⟩ s' ⟨hb',rfl,vs,ws,ns',ms',hz,hvi,hwi,hlen,hR⟩
   simp only at hb'
   subst hb'
   have hv:lexLt ns' ms'=decide (items.size<items2.size):=by
    cases hvi with
    |nil=>
     cases hwi with
     |nil=>
      simp only[List.length_nil] at hlen
      rw[zam]
      exact (decide_eq_false (by omega)).symm
     |cons c u hw=>
      simp only[List.length_nil,List.length_cons] at hlen
      rw[zan]
      exact (decide_eq_true (by omega)).symm
    |cons a t hv=>
     cases hwi with
     |nil=>
      simp only[List.length_nil,List.length_cons] at hlen
      rw[zao]
      exact (decide_eq_false (by omega)).symm
     |cons c u hw=>
      rw[List.zip_cons_cons] at hz
      cases hz
   rw[hv] at hR
   wp_walk
   exact⟨_,rfl,by simpa [Builtin.Tuple.tupleCompareSizes] using hR⟩
  case h=>
   exact⟨rfl,rfl,items.toList,items2.toList,ns,ms,rfl,hi,hj,by omega,h⟩
end
section
variable {prog:Program} {w:World} {A:Around} {E:Value->Shared->Prop} {s:Shared}
theorem lt_tupInts{l b:Addr}{items items2:Array Value}{ns ms:List Int}{Q:Value->Shared->Prop}(hl:IsTup s.heap l items)(hb:IsTup s.heap b items2)(hi:IntsAre items.toList ns)(hj:IntsAre items2.toList ms)
  (hu:A.units<cLine) (h:Q (.bool (lexLt ns ms)) s):wpAny (model prog w) A (compareOp .Lt (.ref l) (.ref b)) Q E s:=by
 obtain⟨⟨cls,dd,data,sl⟩,ho,hc,n,hd⟩:=id hl
 obtain⟨⟨cls2,dd2,data2,sl2⟩,ho2,hc2,n2,hd2⟩:=id hb
 simp only at hc hd hc2 hd2
 subst hc hd hc2 hd2
 exact richCompare_meets_room (op:=.Lt) ⟨_,ho,rfl⟩ ⟨_,ho2,rfl⟩ PySem.F.slot_tuple_lt PySem.F.entry_tuple_lt (PySem.F.args_tuple_lt_2 _ _) (zg7 l b items items2 n n2 dd dd2 sl sl2 ns ms hi hj)
  ⟨ho,ho2,show Value.bool (lexLt ns ms)≠Value.notImplemented/\Q (.bool (lexLt ns ms)) s from ⟨(fun x=>nomatch x),h⟩⟩ hu
theorem cat_tup{t b:Addr}{vs ws:List Value}{Q:Value->Shared->Prop}(ht:IsTup s.heap t vs.toArray)(hb:IsTup s.heap b ws.toArray)(hv:vs≠[])
  (h1:ws=[]->Q (.ref t) s) (h2:ws≠[]->Q (.ref s.heap.objs.size) { s with heap:=s.heap.push { cls:=.type "tuple",data:=.seq (vs++ws).toArray } })
  (hsz:vs.length+ws.length<=sizeLine):wpAny (model prog w) A (binaryOp .Add (.ref t) (.ref b)) Q E s:=by
 obtain⟨⟨cls,dd,data,sl⟩,ho,hc,n,hd⟩:=id ht
 obtain⟨⟨cls2,dd2,data2,sl2⟩,ho2,hc2,n2,hd2⟩:=id hb
 simp only at hc hd hc2 hd2
 subst hc hd hc2 hd2
 have e:vs.toArray++ws.toArray=(vs++ws).toArray:=by simp
 by_cases hw:ws=[]
 ·exact concat_meets ⟨_,ho,rfl⟩ ⟨_,ho2,rfl⟩ noFill_tuple_add seq_tuple_add PySem.F.slot_tuple_add PySem.F.entry_tuple_add (PySem.F.args_tuple_add_2 _ _)
   (tuple_addW1 t b vs.toArray ws.toArray n n2 dd dd2 sl sl2 (by simpa using hv) (by simp[hw])) ⟨ho,ho2,h1 hw⟩
 ·refine concat_meets ⟨_,ho,rfl⟩ ⟨_,ho2,rfl⟩ noFill_tuple_add seq_tuple_add PySem.F.slot_tuple_add PySem.F.entry_tuple_add (PySem.F.args_tuple_add_2 _ _)
   (tuple_addW2 t b vs.toArray ws.toArray n n2 dd dd2 sl sl2 (by simpa using hv) (by simpa using hw) (by rw[List.size_toArray,List.size_toArray];exact hsz)) ⟨ho,ho2,?_⟩
  rw[e]
  exact h2 hw
noncomputable def sIx(n d:Nat):Option Int->Nat
 |none=>d
 |some v=>if v<0 then (v+(n:Int)).toNat else min v.toNat n
theorem sIx_none(n d:Nat):sIx n d none=d:=rfl
theorem sIx_nat(n d k:Nat):sIx n d (some (k:Int))=min k n:=by
 show (if (k:Int)<0 then ((k:Int)+(n:Int)).toNat else min (k:Int).toNat n)=min k n
 rw[if_neg (by omega),Int.toNat_natCast]
end
end HT
namespace L2
open PySem PySem.Spec PyProof.Rows
noncomputable abbrev TO:=St->Hp->(Option Int->Hp->Prop)->Prop
noncomputable def PO(X:Cx)(e:Option Expr)(t:TO):Prop:=
 ∀(pins:List (Addr×Obj)) (s:Shared) (σ:St) (H:Hp) (Q:Option Int->Hp->Prop),Inv X pins σ H s->t σ H Q->
  wpAny (model X.prog X.w) X.A (evalPart e X.env) (fun u s'=>∃o H',Inv X pins σ H' s'/\IsPart u o/\Q o H') X.xe s
noncomputable def zg8:TO:=fun _ H Q=>Q none H
noncomputable def zg9(t:TE):TO:=fun σ H Q=>t σ H fun x H1=>∃i,x= .int i/\Q (some i) H1
theorem vS{ns:List Int}: ∀{us:List Value},Vals (ns.map V.int) us->IntsAre us ns:=by
 induction ns with
 |nil=>intro us r;rw[List.map_nil] at r;cases r;exact .nil
 |cons n ns ih=>
  intro us r
  rw[List.map_cons] at r
  cases r with
  |cons r1 r2=>
   obtain⟨t,e⟩:=r1
   subst e
   exact .cons n t (ih r2)
section
variable {X:Cx} {e:Expr} {te:TE} {lo hi:Option Expr} {tl th:TO} {pos p2:Pos}
theorem zha:PO X none zg8:=by
 intro pins s σ H Q I h
 rw[evalPart_none]
 exact wpAny_pure ⟨none,H,I,.none,h⟩
theorem zhb(h:PE X e te):PO X (some e) (zg9 te):=by
 intro pins s σ H Q I hw
 rw[evalPart_some]
 refine zB (h pins s σ H _ I hw) fun u s1 ⟨x,H1,I1,r1,q1⟩=>?_
 obtain⟨i,rfl,q⟩:=q1
 obtain⟨t,rfl⟩:=r1
 exact⟨some i,H1,I1,.int i t,q⟩
noncomputable def SlR(X:Cx)(r:V->Option Int->Option Int->Hp->VK->Prop):Prop:=
 ∀(pins:List (Addr×Obj)) (s:Shared) (σ:St) (H:Hp) (x:V) (v vl vu:Value) (lo hi:Option Int) (sl:Addr) (Q:VK),Inv X pins σ H s->RelV x v->s.heap.IsSliceOf sl vl vu .none->IsPart vl lo->IsPart vu hi->r x lo hi H Q->
  ∃T id,typeLookup (.type T) "__getitem__"=pure (some (.builtin id))/\s.TypeIs v T/\wpAny (model X.prog X.w) X.A (getItem v (.ref sl)) (EP X pins σ Q) X.xe s
theorem SlR.or{r r':V->Option Int->Option Int->Hp->VK->Prop}(h:SlR X r)(h':SlR X r'):SlR X (fun x lo hi H Q=>r x lo hi H Q\/r' x lo hi H Q):=by
 intro pins s σ H x v vl vu lo hi sl Q I rx hs pl pu q
 rcases q with q|q
 ·exact h pins s σ H x v vl vu lo hi sl Q I rx hs pl pu q
 ·exact h' pins s σ H x v vl vu lo hi sl Q I rx hs pl pu q
noncomputable def zhc(r:V->Option Int->Option Int->Hp->VK->Prop)(te:TE)(tl th:TO):TE:=fun σ H Q=>te σ H fun x H1=>tl σ H1 fun l H2=>th σ H2 fun u H3=>r x l u H3 Q
theorem zhd{r:V->Option Int->Option Int->Hp->VK->Prop}(hr:SlR X r)(he:PE X e te)(hl:PO X lo tl)(hu:PO X hi th):PE X (.Subscript e (.Slice lo hi none p2) pos) (zhc r te tl th):=by
 intro pins s σ H Q I h
 refine Subscript_ (zB (he pins s σ H _ I h) fun v s1 ⟨x,H1,I1,r1,q1⟩=>?_)
 refine wpAny_Slice (zB (hl pins s1 σ H1 _ I1 q1) fun vl s2 ⟨l,H2,I2,pl,q2⟩=>zB (hu pins s2 σ H2 _ I2 q2) fun vu s3 ⟨u,H3,I3,pu,q3⟩=>?_)
 rw[evalPart_none]
 refine wpAny_pure ?_
 have I4:Inv X pins σ H3 { s3 with heap:=s3.heap.push { cls:=.type "slice",data:=.fields #[vl,vu,.none] } }:=I3.kept (t':=s3.toks) fun b ob q=>Heap.get?_push_of_some _ q
 obtain⟨T,id,hT,ht,hg⟩:=hr pins { s3 with heap:=s3.heap.push { cls:=.type "slice",data:=.fields #[vl,vu,.none] } } σ H3 x v vl vu l u s3.heap.objs.size Q I4 r1 (Heap.IsSliceOf.new ..) pl pu q3
 show wpAny (model X.prog X.w) X.A (subscriptTail e (.Slice lo hi none p2) v (.ref s3.heap.objs.size)) (EP X pins σ Q) X.xe { s3 with heap:=s3.heap.push { cls:=.type "slice",data:=.fields #[vl,vu,.none] } }
 exact tail_any (ops:=[.ref s3.heap.objs.size,v]) ht hT hg (by with_unfolding_all rfl)
noncomputable def Zc(xs:List V)(lo hi:Option Int):List V:=(xs.drop (HT.sIx xs.length 0 lo)).take (HT.sIx xs.length xs.length hi-HT.sIx xs.length 0 lo)
theorem zhe(xs:List V)(lo hi:Option Int):(Zc xs lo hi).length<=xs.length:=by
 unfold Zc
 rw[List.length_take,List.length_drop]
 omega
noncomputable def zhf(K:PySem.W.Frag):R2:=fun x y H Q=>∃a b ns ms,x= .ref a/\y= .ref b/\SqT K H a (ns.map V.int)/\SqT K H b (ms.map V.int)/\Q (.bl (HT.lexLt ns ms)) H
theorem zhg(hu:X.A.units<cLine):OpR X (compareOp .Lt) (zhf X.K):=by
 intro pins s σ H x y v u Q I rx ry h
 obtain⟨a,b,ns,ms,rfl,rfl,ha,hb,q⟩:=h
 cases rx
 cases ry
 obtain⟨its,r1,p1,_⟩:=I.tuple ha
 obtain⟨its2,r2,p2,_⟩:=I.tuple hb
 have i1:IntsAre its.toArray.toList ns:=vS r1
 have i2:IntsAre its2.toArray.toList ms:=vS r2
 exact HT.lt_tupInts p1 p2 i1 i2 hu ⟨.bl (HT.lexLt ns ms),H,I,rfl,q⟩
noncomputable def zhh(K:PySem.W.Frag):R2:=fun x y H Q=>∃a b xs ys,x= .ref a/\y= .ref b/\SqT K H a xs/\SqT K H b ys/\xs≠[]/\xs.length+ys.length<=sizeLine/\
 (ys=[]->Q (.ref a) H)/\(ys≠[]->∀p,H p=none->Q (.ref p) (zI H p (.tup (xs++ys))))
theorem Vals.nil_iff{xs:List V}{us:List Value}(r:Vals xs us):us=[]↔xs=[]:=by
 cases r with
 |nil=>simp
 |cons _ _=>simp
theorem zhi:OpR X (binaryOp .Add) (zhh X.K):=by
 intro pins s σ H x y v u Q I rx ry h
 obtain⟨a,b,xs,ys,rfl,rfl,ha,hb,hx,hz,q1,q2⟩:=h
 cases rx
 cases ry
 obtain⟨its,r1,p1,_⟩:=I.tuple ha
 obtain⟨its2,r2,p2,_⟩:=I.tuple hb
 refine HT.cat_tup p1 p2 (fun z=>hx (r1.nil_iff.mp z)) (fun z=>⟨.ref a,H,I,rfl,q1 (r2.nil_iff.mp z)⟩) (fun z=>?_) (by rw[<-r1.length,<-r2.length];exact hz)
 refine⟨.ref s.heap.objs.size,_,I.laid (t':=s.toks) (o:=.tup (xs++ys)) (fun b ob q=>Heap.get?_push_of_some _ q) (Nat.le_refl _) ?_,rfl,q2 (fun w=>z (r2.nil_iff.mpr w)) _ (I.hok.fresh (Nat.le_refl _))⟩
 exact⟨by rw[List.length_append];exact hz,_,r1.append r2,IsTup.new _ _⟩
end
end L2
namespace L2
open PySem PySem.Spec PyProof.Rows
noncomputable def ixN(n:Nat)(i:Int):Option Nat:=if 0<=i then (if i<n then some i.toNat else none) else if -(n:Int)<=i then some (i+n).toNat else none
noncomputable def atI{α:Type}(xs:List α)(i:Int):Option α:=(ixN xs.length i).bind fun j=>xs[j]?
theorem zhj{n:Nat}{i:Int}{j:Nat}(h:ixN n i=some j):seqIndex? i n=some j/\j<n/\ -(n:Int)<=i/\i<n:=by
 unfold ixN at h
 by_cases h0:0<=i
 ·rw[if_pos h0] at h
  by_cases h1:i<n
  ·rw[if_pos h1] at h
   have e:i.toNat=j:=Option.some.inj h
   exact⟨by rw[seqIndex_of h0 h1,e],by omega,by omega,h1⟩
  ·rw[if_neg h1] at h;cases h
 ·rw[if_neg h0] at h
  by_cases h1: -(n:Int)<=i
  ·rw[if_pos h1] at h
   have e:(i+n).toNat=j:=Option.some.inj h
   exact⟨by rw[seqIndex_neg (by omega) h1,e],by omega,h1,by omega⟩
  ·rw[if_neg h1] at h;cases h
theorem zaq{α:Type}{xs:List α}{i:Int}{v:α}(h:atI xs i=some v): ∃j,seqIndex? i xs.length=some j/\xs[j]? =some v/\j<xs.length/\ -(xs.length:Int)<=i/\i<xs.length:=by
 unfold atI at h
 cases e:ixN xs.length i with
 |none=>rw[e] at h;cases h
 |some j=>
  rw[e] at h
  obtain⟨h1,h2,h3,h4⟩:=zhj e
  exact⟨j,h1,h,h2,h3,h4⟩
theorem atI_nat{α:Type}{xs:List α}{j:Nat}{v:α}(h:xs[j]? =some v):atI xs (j:Int)=some v:=by
 have hj:j<xs.length:=(List.getElem?_eq_some_iff.mp h).1
 have e:ixN xs.length (j:Int)=some j:=by
  unfold ixN
  rw[if_pos (by omega),if_pos (by omega)];simp
 unfold atI;rw[e];exact h
noncomputable def zar(b:Expr):Prop:=∀o i,subscripted b false o i=operate [o,i] (getItem o i)
noncomputable def IxR(X:Cx)(r:R2):Prop:=
 ∀(value slice:Expr) (pins:List (Addr×Obj)) (s:Shared) (σ:St) (H:Hp) (x y:V) (v u:Value) (Q:VK),Inv X pins σ H s->RelV x v->RelV y u->r x y H Q->
  subscripted slice false v u=operate [v,u] (getItem v u)->wpAny (model X.prog X.w) X.A (subscriptTail value slice v u) (EP X pins σ Q) X.xe s
noncomputable def MtR(X:Cx)(id:String)(r:V->List V->Hp->VK->Prop):Prop:=
 ∀(pins:List (Addr×Obj)) (s:Shared) (σ:St) (H:Hp) (x:V) (xs:List V) (v:Value) (us:List Value) (Q:VK),Inv X pins σ H s->RelV x v->Vals xs us->r x xs H Q->
  wpAny (model X.prog X.w) X.A (call (.builtin id) (v::us)) (EP X pins σ Q) X.xe s
section
variable {X:Cx} {a b:Expr} {ta tb:TE} {pos:Pos}
theorem IxR.or{r r':R2}(h:IxR X r)(h':IxR X r'):IxR X (fun x y H Q=>r x y H Q\/r' x y H Q):=by
 intro value slice pins s σ H x y v u Q I rx ry q hs
 rcases q with q|q
 ·exact h value slice pins s σ H x y v u Q I rx ry q hs
 ·exact h' value slice pins s σ H x y v u Q I rx ry q hs
theorem MtR.or{id:String}{r r':V->List V->Hp->VK->Prop}(h:MtR X id r)(h':MtR X id r'):MtR X id (fun x xs H Q=>r x xs H Q\/r' x xs H Q):=by
 intro pins s σ H x xs v us Q I rx rs q
 rcases q with q|q
 ·exact h pins s σ H x xs v us Q I rx rs q
 ·exact h' pins s σ H x xs v us Q I rx rs q
theorem zhk{r:R2}(hr:IxR X r)(ha:PE X a ta)(hb:PE X b tb)(hs:zar b):PE X (.Subscript a b pos) (Yg r ta tb):=by
 intro pins s σ H Q I h
 exact Subscript_ (QH ha hb I h fun v u s2 x y H2 I2 rx ry q=>hr a b pins s2 σ H2 x y v u Q I2 rx ry q (hs _ _))
noncomputable def zhl(K:PySem.W.Frag):R2:=fun x y H Q=>∃p xs i v,x= .ref p/\y= .int i/\SqL K H p xs/\atI xs i=some v/\Q v H
noncomputable def zhm(K:PySem.W.Frag):R2:=fun x y H Q=>∃p xs i v,x= .ref p/\y= .int i/\SqT K H p xs/\atI xs i=some v/\Q v H
theorem zhn:IxR X (zhl X.K):=by
 intro value slice pins s σ H x y v u Q I rx ry h hs
 obtain⟨p,xs,i,z,rfl,rfl,hq,he,q⟩:=h
 cases rx
 obtain⟨t,rfl⟩:=ry
 obtain⟨its,r,pl,hz⟩:=I.list hq
 obtain⟨j,h1,h2,h3,h4,h5⟩:=zaq he
 obtain⟨w,ew,rw'⟩:=r.get h2
 have hl:=r.length
 have hn:=Vt
 have fin:EP X pins σ Q w s:=⟨z,H,I,rw',q⟩
 by_cases h0:0<=i
 ·have hj:i.toNat=j:=by
   rw[seqIndex_of h0 h5] at h1
   exact Option.some.inj h1
  exact item_listR pl.isList h0 (by omega) (by rw[hj];simpa using ew) fin hs
 ·have hj:(i+(its.toArray.size:Int)).toNat=j:=by
   rw[seqIndex_neg (by omega) h4] at h1
   rw[List.size_toArray,<-hl]
   exact Option.some.inj h1
  exact subscriptTail_builtinR (x:=w) pl.isList.typeIs slot_list_getitem.lookup
   (wpAny_getItem_list_neg (Q:=fun r s'=>r=w/\EP X pins σ Q r s') pl.isList (by omega) (by rw[List.size_toArray]<;>omega) (by omega) (by rw[hj];simpa using ew) ⟨rfl,fin⟩) hs
theorem zho:IxR X (zhm X.K):=by
 intro value slice pins s σ H x y v u Q I rx ry h hs
 obtain⟨p,xs,i,z,rfl,rfl,hq,he,q⟩:=h
 cases rx
 obtain⟨t,rfl⟩:=ry
 obtain⟨its,r,pl,hz⟩:=I.tuple hq
 obtain⟨j,h1,h2,h3,h4,h5⟩:=zaq he
 obtain⟨w,ew,rw'⟩:=r.get h2
 have hl:=r.length
 have hn:=Vt
 have fin:EP X pins σ Q w s:=⟨z,H,I,rw',q⟩
 exact subscriptTail_builtinR (x:=w) pl.typeIs slot_tuple_getitem.lookup
  (getItem_tuple (j:=j) (Q:=fun r s'=>r=w/\EP X pins σ Q r s') pl (by omega) (by omega) (by rw[List.size_toArray,<-hl];exact h1) (by simpa using ew) ⟨rfl,fin⟩) hs
theorem Inv.lst{pins:List (Addr×Obj)}{σ:St}{H:Hp}{s:Shared}{p:Addr}{xs:List V}(I:Inv X pins σ H s)(h:H p=some (.lst xs)):
  ∃(its:List Value) (n:Nat),Vals xs its/\s.heap.get? p=some { cls:=.type "list",data:=.seq its.toArray n }/\xs.length<=sizeLine:=by
 obtain⟨z,its,n,r,e⟩:=I.hok p _ h
 exact⟨its,n,r,e,z⟩
theorem zhp(lo hi:Option Int)(n:Nat):(sliceBounds lo hi none n).1=((HT.sIx n 0 lo:Nat):Int)/\(sliceBounds lo hi none n).2.1=((HT.sIx n n hi:Nat):Int)/\(sliceBounds lo hi none n).2.2=1:=by
 refine⟨?_,?_,rfl⟩
 ·cases lo with
  |none=>simp[sliceBounds,HT.sIx]
  |some i=>
   simp only[sliceBounds,HT.sIx,Option.getD_none,show (1:Int)>0 by decide,if_true]
   by_cases h:i<0
   ·simp only[h,if_true]<;>omega
   ·simp only[h,if_false]<;>omega
 ·cases hi with
  |none=>simp[sliceBounds,HT.sIx]
  |some i=>
   simp only[sliceBounds,HT.sIx,Option.getD_none,show (1:Int)>0 by decide,if_true]
   by_cases h:i<0
   ·simp only[h,if_true]<;>omega
   ·simp only[h,if_false]<;>omega
theorem zhq(its:List Value)(lo hi:Option Int):slicePick its.toArray lo hi none=((its.drop (HT.sIx its.length 0 lo)).take (HT.sIx its.length its.length hi-HT.sIx its.length 0 lo)).toArray:=by
 obtain⟨h1,h2,h3⟩:=zhp lo hi its.toArray.size
 unfold slicePick
 rw[h1,h2,h3]
 simp only[sliceRange_one,pick_run,List.size_toArray]<;>rfl
noncomputable def zhr(K:PySem.W.Frag):V->Option Int->Option Int->Hp->VK->Prop:=fun x lo hi H Q=>∃a xs,x= .ref a/\SqL K H a xs/\∀p,H p=none->Q (.ref p) (zI H p (.lst (Zc xs lo hi)))
theorem zhs:SlR X (zhr X.K):=by
 intro pins s σ H x v vl vu lo hi sl Q I rx hs pl pu h
 obtain⟨a,xs,rfl,hx,q⟩:=h
 cases rx
 obtain⟨its,r,ht,hz⟩:=I.list hx
 have hlen:=r.length
 refine⟨"list",_,slot_list_getitem.lookup,ht.isList.typeIs,?_⟩
 refine wpAny_getItem_list_slice ht.isList hs pl pu .none (by simp) ?_ (by rw[List.size_toArray]<;>omega)
 rw[zhq,<-hlen]
 refine⟨.ref s.heap.objs.size,_,I.laid (t':=s.toks) (o:=.lst (Zc xs lo hi)) (fun b ob q=>Heap.get?_push_of_some _ q) (Nat.le_refl _) ?_,rfl,q _ (I.hok.fresh (Nat.le_refl _))⟩
 exact⟨Nat.le_trans (zhe xs lo hi) hz,_,0,(r.drop (HT.sIx xs.length 0 lo)).take (HT.sIx xs.length xs.length hi-HT.sIx xs.length 0 lo),Heap.get?_push_size _ rfl⟩
theorem zas:CallR X (.builtin "len") (fun xs H Q=>∃p ys,xs=[.ref p]/\(SqL X.K H p ys\/SqT X.K H p ys)/\Q (.int ys.length) H):=by
 intro pins s σ H xs us Q I r h
 obtain⟨p,ys,rfl,hq,q⟩:=h
 obtain⟨u,rfl,rx⟩:=wz r
 cases rx
 have hn:=Vt
 rcases hq with hq|hq
 ·obtain⟨its,r',pl,hz⟩:=I.list hq
  have hlen:=r'.length
  exact Calls.call_len_list pl.isList (by simp only[List.size_toArray]<;>omega) ⟨.int ys.length,H,I.tok _,⟨s.toks+1,by rw[List.size_toArray,hlen]⟩,q⟩
 ·obtain⟨its,r',pl,hz⟩:=I.tuple hq
  have hlen:=r'.length
  exact len_tuple pl (by simp only[List.size_toArray]<;>omega) ⟨.int ys.length,H,I.tok _,⟨s.toks+1,by rw[List.size_toArray,hlen]⟩,q⟩
theorem CallR.or{f:Value}{r r':List V->Hp->VK->Prop}(h:CallR X f r)(h':CallR X f r'):CallR X f (fun xs H Q=>r xs H Q\/r' xs H Q):=by
 intro pins s σ H xs us Q I rs q
 rcases q with q|q
 ·exact h pins s σ H xs us Q I rs q
 ·exact h' pins s σ H xs us Q I rs q
theorem zat:CallR X (.type "list") (fun xs H Q=>∃p ys,xs=[.ref p]/\(SqL X.K H p ys\/SqT X.K H p ys)/\∀l,H l=none->Q (.ref l) (zI H l (.lst ys))):=by
 intro pins s σ H xs us Q I r h
 obtain⟨p,ys,rfl,hq,q⟩:=h
 obtain⟨u,rfl,rx⟩:=wz r
 cases rx
 have fin: ∀(its:List Value),Vals ys its->ys.length<=sizeLine->∀(h':Heap) (c':Nat),(∀b o',s.heap.get? b=some o'->h'.get? b=some o')->
   h'.get? s.heap.objs.size=some { cls:=.type "list",dict:=none,data:=.seq its.toArray c',slots:= #[] }->EP X pins σ Q (.ref s.heap.objs.size) { s with heap:=h' }:=fun its r' hz h' c' kp e=>
  ⟨.ref s.heap.objs.size,_,I.laid (t':=s.toks) kp (Nat.le_refl _) (show ObjOk X.prog X.w _ h' _ (.lst ys) from ⟨hz,its,c',r',e⟩),rfl,q _ (I.hok.fresh (Nat.le_refl _))⟩
 rcases hq with hq|hq
 ·obtain⟨its,r',pl,hz⟩:=I.list hq
  have hlen:=r'.length
  obtain⟨o,ho,hc,n,hd⟩:=pl.isList
  exact call_list_seq p (.inl rfl) ho hc hd (fun h' c' kp e=>fin its r' hz h' c' kp e) (by simp only[List.size_toArray]<;>omega)
 ·obtain⟨its,r',pl,hz⟩:=I.tuple hq
  have hlen:=r'.length
  obtain⟨o,ho,hc,n,hd⟩:=pl
  exact call_list_seq p (.inr rfl) ho hc hd (fun h' c' kp e=>fin its r' hz h' c' kp e) (by simp only[List.size_toArray]<;>omega)
theorem zau:CallR X (.type "tuple") (fun xs H Q=>∃p ys,xs=[.ref p]/\((SqL X.K H p ys/\∀l,H l=none->Q (.ref l) (zI H l (.tup ys)))\/(SqT X.K H p ys/\Q (.ref p) H))):=by
 intro pins s σ H xs us Q I r h
 obtain⟨p,ys,rfl,h⟩:=h
 obtain⟨u,rfl,rx⟩:=wz r
 cases rx
 rcases h with ⟨hq,q⟩|⟨hq,q⟩
 ·obtain⟨its,r',pl,hz⟩:=I.list hq
  have hlen:=r'.length
  refine call_tuple_list pl.isList (fun h' kp=>?_) (by simp only[List.size_toArray]<;>omega)
  have I1:Inv X pins σ H { s with heap:=h' }:=I.kept (t':=s.toks) kp
  have I2:Inv X pins σ (zI H h'.objs.size (.tup ys)) { s with heap:=h'.push { cls:=.type "tuple",data:=.seq its.toArray } }:=
   I1.laid (t':=s.toks) (fun b o e=>Heap.get?_push_of_some _ e) (Nat.le_refl _) (show ObjOk X.prog X.w _ _ _ (.tup ys) from ⟨hz,its,r',IsTup.new _ _⟩)
  exact⟨.ref h'.objs.size,_,I2,rfl,q _ (I1.hok.fresh (Nat.le_refl _))⟩
 ·obtain⟨its,r',pl,hz⟩:=I.tuple hq
  exact call_tuple_same pl ⟨.ref p,H,I,rfl,q⟩
noncomputable def QO(K:PySem.W.Frag)(T:String)(x:V)(H:Hp):Prop:=match x with
 | .str _=>T="str"
 | .int _=>T="int"
 | .ref p=>(T="list"/\∃xs,SqL K H p xs)\/(T="tuple"/\∃o,K.lookup p=some o/\o.cls= .type "tuple"/\o.dict=none)\/
   (T="dict"/\((∃kvs,H p=some (.dK kvs))\/∃kvs,H p=some (.dT kvs)))\/(T="set"/\∃S n,H p=some (.set S n))
 |_=>False
theorem zav{pins:List (Addr×Obj)}{σ:St}{H:Hp}{s:Shared}{T:String}{x:V}{v:Value}(I:Inv X pins σ H s)(r:RelV x v)(ty:QO X.K T x H):
  s.TypeIs v T/\∀a,v= .ref a->∃ob,s.heap.get? a=some ob/\ob.dict=none:=by
 cases x with
 |str z=>
  obtain⟨t,rfl⟩:=r
  cases (show T="str" from ty)
  exact⟨typeIs_str s z t,fun _ e=>nomatch e⟩
 |int i=>
  obtain⟨t,rfl⟩:=r
  cases (show T="int" from ty)
  exact⟨typeIs_int s i t,fun _ e=>nomatch e⟩
 |ref p=>
  cases r
  rcases ty with ⟨rfl,xs,hq⟩|⟨rfl,o,hk,hc,hd⟩|⟨rfl,hk⟩|⟨rfl,S,n,hk⟩
  ·obtain⟨its,_,pl,_⟩:=I.list hq
   refine⟨pl.isList.typeIs,fun a e=>?_⟩
   cases e
   obtain⟨o,n,e,c,hd,_⟩:=pl
   exact⟨o,e,hd⟩
  ·refine⟨⟨o,I.kIn p o hk,hc⟩,fun a e=>?_⟩
   cases e
   exact⟨o,I.kIn _ o hk,hd⟩
  ·have z: ∃o,s.heap.get? p=some o/\o.ExactDict:=by
    rcases hk with ⟨kvs,hk⟩|⟨kvs,hk⟩
    ·obtain⟨_,_,_,_,o,_,_,e,ex,_⟩:=I.hok p _ hk
     exact⟨o,e,ex⟩
    ·obtain⟨_,_,_,_,o,_,_,e,ex,_⟩:=I.hok p _ hk
     exact⟨o,e,ex⟩
   obtain⟨o,e,ex⟩:=z
   refine⟨⟨o,e,ex.1⟩,fun a e2=>?_⟩
   cases e2
   exact⟨o,e,ex.2.1⟩
  ·obtain⟨o,_,_,_,e,ex,_⟩:=I.hok p _ hk
   refine⟨⟨o,e,ex.1⟩,fun a e2=>?_⟩
   cases e2
   exact⟨o,e,ex.2.1⟩
 |_=>exact False.elim ty
noncomputable def zht(K:PySem.W.Frag)(T:String)(r:V->List V->Hp->VK->Prop)(to:TE):TE:=fun σ H Q=>to σ H fun x H1=>QO K T x H1/\r x [] H1 Q
noncomputable def zhu(K:PySem.W.Frag)(T:String)(r:V->List V->Hp->VK->Prop)(to:TE)(t:TA):TE:=fun σ H Q=>to σ H fun x H1=>QO K T x H1/\t σ H1 fun xs H2=>r x xs H2 Q
variable {o e:Expr} {es:List Expr} {to:TE} {t:TA} {name:Str} {apos cpos:Pos} {T id:String} {r:V->List V->Hp->VK->Prop}
theorem zaw(pa:PlainAttrs T)(slot:Slot T name id)(hty:typeOf (.builtin id)=pure (.type "method_descriptor"))(hm:MtR X id r)(ho:PE X o to)
  (hbase:attributeBase o name X.env (eval o X.env)=eval o X.env:=by rfl) (hline:(apos.endLine==cpos.line)=true:=by rfl):PE X (.Call (.Attribute o name apos) [] [] cpos) (zht X.K T r to):=by
 intro pins s σ H Q I h
 refine wpAny_Call_method0_late hbase hline (zB (ho pins s σ H _ I h) fun v s1 ⟨x,H1,I1,r1,ty,q1⟩=>?_)
 obtain⟨h1,h2⟩:=zav I1 r1 ty
 exact⟨T,id,pa,slot,hty,h1,h2,Calls.callWith_builtin rfl (PySem.evalArgs_none (hm pins s1 σ H1 x [] v [] Q I1 r1 .nil q1))⟩
theorem zax(pa:PlainAttrs T)(slot:Slot T name id)(hty:typeOf (.builtin id)=pure (.type "method_descriptor"))(hm:MtR X id r)(ho:PE X o to)(ha:PA X (e::es) t)
  (hbase:attributeBase o name X.env (eval o X.env)=eval o X.env:=by rfl)
  (hfew:((backTo cpos (starEach (e::es) X.env)).all (fun x=> !x.1)&&(backToKw cpos (keywordEach [] X.env)).all (fun x=>x.1.isSome)
   &&decide ((e::es).length+([]:List Keyword).length+(if ([]:List Keyword).isEmpty then 0 else 1)<30))=true:=by rfl)
  (hline:(apos.endLine==cpos.line)=true:=by rfl) (hs:starEach (e::es) X.env=(false,eval e X.env)::starEach es X.env:=by rfl) (hplain:(backTo cpos (starEach es X.env)).any (·.1)=false:=by rfl):
  PE X (.Call (.Attribute o name apos) (e::es) [] cpos) (zhu X.K T r to t):=by
 intro pins s σ H Q I h
 refine wpAny_Call_method_late hbase hfew hline rfl (zB (ho pins s σ H _ I h) fun v s1 ⟨x,H1,I1,r1,ty,q1⟩=>?_)
 obtain⟨h1,h2⟩:=zav I1 r1 ty
 refine⟨T,id,pa,slot,hty,h1,h2,?_⟩
 have hA:=ha cpos pins s1 σ H1 _ I1 q1
 rw[hs] at hA⊢
 refine Calls.callWith_builtin (by show (false||(backTo cpos (starEach es X.env)).any (·.1))=false;rw[hplain]<;>rfl) (Calls.evalArgs_plain ?_)
 exact zB hA fun us s2 ⟨vs,H2,I2,r2,q2⟩=>hm pins s2 σ H2 x vs v us Q I2 r1 r2 q2
end
end L2
namespace L2
open PySem PySem.Spec PyProof.Rows
noncomputable def zhv(X:Cx)(id:String)(r:V->List V->Hp->VK->Prop):Prop:=
 ∀(pins:List (Addr×Obj)) (s:Shared) (σ:St) (H:Hp) (x:V) (xs:List V) (v:Value) (us:List Value) (Q:VK),Inv X pins σ H s->RelV x v->Vals xs us->r x xs H Q->
  wpAny (model X.prog X.w) X.A (call (.builtin id) (v::us)) (EP X pins σ Q) X.xe s
theorem Vals.one: ∀{x:V} {us:List Value},Vals [x] us->∃u,us=[u]/\RelV x u
 |_,_,.cons r .nil=>⟨_,rfl,r⟩
theorem Vals.two: ∀{x y:V} {us:List Value},Vals [x,y] us->∃u v,us=[u,v]/\RelV x u/\RelV y v
 |_,_,_,.cons r (.cons q .nil)=>⟨_,_,rfl,r,q⟩
theorem Vals.zero: ∀{us:List Value},Vals [] us->us=[]
 |_,.nil=>rfl
theorem Vals.reverse{xs:List V}{us:List Value}(h:Vals xs us):Vals xs.reverse us.reverse:=by
 induction h with
 |nil=>exact .nil
 |cons r t ih=>rw[List.reverse_cons,List.reverse_cons];exact Vals.append ih (.cons r .nil)
theorem Vals.rep{xs:List V}{us:List Value}(h:Vals xs us): ∀k:Nat,Vals (List.replicate k xs).flatten (List.replicate k us).flatten
 |0=>.nil
 |k+1=>by
  rw[List.replicate_succ,List.replicate_succ,List.flatten_cons,List.flatten_cons]
  exact Vals.append h (Vals.rep h k)
section
variable {X:Cx} {pins:List (Addr×Obj)} {σ:St} {H:Hp} {s:Shared} {l b:Addr} {xs ys zs:List V}
theorem Inv.lset{its its':List Value}{n:Nat}{f:Array Value->Array Value}{t':Nat}(I:Inv X pins σ H s)(hH:H l=some (.lst xs))
  (e:s.heap.get? l=some { cls:=.type "list",data:=.seq its.toArray n }) (hf:f its.toArray=its'.toArray) (hv:Vals ys its') (hz:ys.length<=sizeLine):
  Inv X pins σ (zI H l (.lst ys)) { s with heap:=s.heap.update l (Obj.mapSeq f),toks:=t' }:=by
 have q:=PySem.IsL.update e f
 rw[hf] at q
 refine I.write (x:=l) (e:=l) (by rw[hH];exact trivial) (.inl rfl) (fun b' u hb hu=>(Heap.get?_update_other s.heap (Obj.mapSeq f) (Ne.symm hb)).trans hu) ⟨_,q⟩ ?_
 exact⟨hz,its',_,hv,q⟩
theorem Inv.lnew{its:List Value}{t':Nat}(I:Inv X pins σ H s)(hv:Vals ys its)(hz:ys.length<=sizeLine):
  Inv X pins σ (zI H s.heap.objs.size (.lst ys)) { s with heap:=s.heap.push { cls:=.type "list",data:=.seq its.toArray },toks:=t' }:=
 I.laid (fun _ _ q=>Heap.get?_push_of_some _ q) (Nat.le_refl _) ⟨hz,its,0,hv,Heap.get?_push_size _ rfl⟩
theorem Inv.fresh(I:Inv X pins σ H s):H s.heap.objs.size=none:=I.hok.fresh (Nat.le_refl _)
theorem Inv.lstM(I:Inv X pins σ H s)(hH:H l=some (.lst xs)):xs.length<=sizeLine/\∃(its:List Value) (n:Nat),Vals xs its/\xs.length=its.length/\s.heap.get? l=some { cls:=.type "list",data:=.seq its.toArray n }:=by
 obtain⟨z,its,n,r,e⟩:=I.hok l _ hH
 exact⟨z,its,n,r,r.length,e⟩
end
section
variable {X:Cx}
noncomputable def zhw:V->List V->Hp->VK->Prop:=fun x vs H Q=>∃l xs y,x= .ref l/\vs=[y]/\H l=some (.lst xs)/\xs.length<sizeLine/\Q .non (zI H l (.lst (xs++[y])))
theorem QP:zhv X "list.append" zhw:=by
 intro pins s σ H x vs v us Q I rx rv h
 obtain⟨l,xs,y,rfl,rfl,hH,hz,q⟩:=h
 cases rx
 obtain⟨u,rfl,ru⟩:=rv.one
 obtain⟨z,its,n,r,hl,e⟩:=I.lstM hH
 refine call_meets F.slot_list_append ⟨_,e,rfl⟩ F.entry_list_append (F.args_list_append_2 _ _) (PySem.list_append l its.toArray n u (by rw[List.size_toArray];omega)) ⟨e,?_⟩
 refine⟨.non,_,I.lset (its':=its++[u]) hH e (by simp) (r.append (.cons ru .nil)) ?_,rfl,q⟩
 rw[List.length_append,List.length_singleton]
 omega
end
end L2
namespace L2
open PySem PySem.Spec PyProof.Rows
section
variable {κ:Type} [DecidableEq κ]
noncomputable def yZ(kvs:List (κ×V))(k:κ):Option V:=(kvs.find? fun kv=>decide (kv.1=k)).map (·.2)
noncomputable def xm(kvs:List (κ×V))(k:κ)(v:V):List (κ×V):=
 if (kvs.any fun kv=>decide (kv.1=k))=true then kvs.map (fun kv=>if kv.1=k then (kv.1,v) else kv) else kvs++[(k,v)]
noncomputable def zay(kvs:List (κ×V))(k:κ):List (κ×V):=kvs.filter fun kv=>decide (kv.1≠k)
theorem Yi{p:κ×V}{r:List (κ×V)}{k:κ}(e:p.1=k):yZ (p::r) k=some p.2:=by simp[yZ,List.find?_cons,e]
theorem Yj{p:κ×V}{r:List (κ×V)}{k:κ}(e: ¬p.1=k):yZ (p::r) k=yZ r k:=by simp[yZ,List.find?_cons,e]
theorem Vu(k:κ): ∀kvs:List (κ×V),(kvs.any fun kv=>decide (kv.1=k))=(yZ kvs k).isSome
 |[]=>rfl
 |p::r=>by
  rw[List.any_cons]
  by_cases e:p.1=k
  ·simp only[Yi e,decide_eq_true e,Bool.true_or,Option.isSome_some]
  ·rw[Yj e,decide_eq_false e,Bool.false_or];exact Vu k r
theorem zaz(kvs:List (κ×V))(k:κ)(v:V):(xm kvs k v).length<=kvs.length+1:=by
 unfold xm
 split
 ·rw[List.length_map];omega
 ·rw[List.length_append,List.length_cons,List.length_nil];omega
theorem RelO.isSome_eq{o:Option V}{u:Option Value}(r:RelO o u):o.isSome=u.isSome:=by
 cases o with
 |none=>cases u with
  |none=>rfl
  |some _=>exact (show False from r).elim
 |some _=>cases u with
  |none=>exact (show False from r).elim
  |some _=>rfl
theorem RelO.getD{o:Option V}{u:Option Value}{d:V}{d':Value}(r:RelO o u)(rd:RelV d d'):RelV (o.getD d) (u.getD d'):=by
 cases o with
 |none=>cases u with
  |none=>exact rd
  |some _=>exact (show False from r).elim
 |some _=>cases u with
  |none=>exact (show False from r).elim
  |some _=>exact r
theorem KV.val{kvs:List (κ×V)}{vs:List (κ×Value)}(r:KV kvs vs)(k:κ):RelO (yZ kvs k) (valueAt vs k):=by
 unfold KV at r
 induction r with
 |nil=>exact True.intro
 | @cons p q ps qs h t ih=>
  obtain⟨h1,h2⟩:=h
  by_cases e:p.1=k
  ·have e':q.1=k:=h1.symm.trans e
   have b:valueAt (q::qs) k=some q.2:=by simp[valueAt,List.find?_cons,e']
   rw[Yi e,b];exact h2
  ·have e': ¬q.1=k:=fun z=>e (h1.trans z)
   have b:valueAt (q::qs) k=valueAt qs k:=by simp[valueAt,List.find?_cons,e']
   rw[Yj e,b];exact ih
theorem KV.any{kvs:List (κ×V)}{vs:List (κ×Value)}(r:KV kvs vs)(k:κ):(kvs.any fun kv=>decide (kv.1=k))=vs.any fun kv=>decide (kv.1=k):=by
 unfold KV at r
 induction r with
 |nil=>rfl
 |cons h t ih=>rw[List.any_cons,List.any_cons,ih,h.1]
theorem KV.repl{kvs:List (κ×V)}{vs:List (κ×Value)}(r:KV kvs vs)(k:κ){y:V}{u:Value}(ry:RelV y u):
  KV (kvs.map fun kv=>if kv.1=k then (kv.1,y) else kv) (vs.map fun kv=>if kv.1=k then (kv.1,u) else kv):=by
 unfold KV at r⊢
 induction r with
 |nil=>exact .nil
 | @cons p q ps qs h t ih=>
  rw[List.map_cons,List.map_cons]
  refine .cons ?_ ih
  obtain⟨h1,h2⟩:=h
  by_cases e:p.1=k
  ·rw[if_pos e,if_pos (h1.symm.trans e)];exact⟨h1,ry⟩
  ·rw[if_neg e,if_neg (fun z=>e (h1.trans z))];exact⟨h1,h2⟩
theorem KV.put{kvs:List (κ×V)}{vs:List (κ×Value)}(r:KV kvs vs)(k:κ){y:V}{u:Value}(ry:RelV y u):KV (xm kvs k y) (stored vs k u):=by
 unfold xm stored
 rw[r.any k]
 by_cases e:(vs.any fun kv=>decide (kv.1=k))=true
 ·rw[if_pos e,if_pos e];exact r.repl k ry
 ·rw[if_neg e,if_neg e];exact Paired.snoc r ⟨rfl,ry⟩
theorem KV.drop{kvs:List (κ×V)}{vs:List (κ×Value)}(r:KV kvs vs)(k:κ):KV (zay kvs k) (without vs k):=by
 unfold KV at r⊢
 unfold zay without
 induction r with
 |nil=>exact .nil
 | @cons p q ps qs h t ih=>
  obtain⟨h1,h2⟩:=h
  rw[List.filter_cons,List.filter_cons]
  by_cases e:p.1=k
  ·have a: ¬decide (p.1≠k)=true:=by simp[e]
   have b: ¬decide (q.1≠k)=true:=by simp[h1.symm.trans e]
   rw[if_neg a,if_neg b];exact ih
  ·have e': ¬q.1=k:=fun z=>e (h1.trans z)
   have a:decide (p.1≠k)=true:=by simp[e]
   have b:decide (q.1≠k)=true:=by simp[e']
   rw[if_pos a,if_pos b];exact .cons ⟨h1,h2⟩ ih
theorem KV.keys{kvs:List (κ×V)}{vs:List (κ×Value)}(r:KV kvs vs):kvs.map (·.1)=vs.map (·.1):=by
 unfold KV at r
 induction r with
 |nil=>rfl
 |cons h t ih=>rw[List.map_cons,List.map_cons,ih,h.1]
theorem KV.length{kvs:List (κ×V)}{vs:List (κ×Value)}(r:KV kvs vs):kvs.length=vs.length:=Paired.length r
end
theorem Yk{P:Program}{w:World}{k:zy}{u:Value}(r:RelV (kV k) u):(zW P w).is k u=true:=by
 cases k with
 |inl i=>obtain⟨t,e⟩:=(show ∃t,u=Value.int i t from r);subst e;exact zfw P w i t
 |inr x=>obtain⟨t,e⟩:=(show ∃t,u=Value.str x t from r);subst e;exact zfx P w x t
theorem zaA{P:Program}{w:World}: ∀{ks:List zy} {us:List Value},Vals (ks.map kV) us->ItemsAre (zW P w) ks us
 |[],_,r=>by rw[List.map_nil] at r;cases r;exact .nil
 |k::ks,_,r=>by
  rw[List.map_cons] at r
  cases r with
  |cons h t=>exact .cons (Yk h) (zaA t)
noncomputable abbrev KT(H:Hp):List (List zy×V)->List (List zy×Addr×Value)->Prop:=Paired fun p q=>p.1=q.1/\H q.2.1=some (.tup (p.1.map kV))/\RelV p.2 q.2.2
theorem KT.val{H:Hp}{kvs:List (List zy×V)}{xs:List (List zy×Addr×Value)}(r:KT H kvs xs)(k:List zy):RelO (yZ kvs k) ((atKey xs k).map (·.2)):=by
 induction r with
 |nil=>exact True.intro
 | @cons p q ps qs h t ih=>
  obtain⟨h1,_,h2⟩:=h
  by_cases e:p.1=k
  ·have e':q.1=k:=h1.symm.trans e
   have b:atKey (q::qs) k=some q.2:=by simp[atKey,List.find?_cons,e']
   rw[Yi e,b];exact h2
  ·have e': ¬q.1=k:=fun z=>e (h1.trans z)
   have b:atKey (q::qs) k=atKey qs k:=by simp[atKey,List.find?_cons,e']
   rw[Yj e,b];exact ih
theorem KT.repl{H:Hp}{kvs:List (List zy×V)}{xs:List (List zy×Addr×Value)}(r:KT H kvs xs)(k:List zy){y:V}{u:Value}(ry:RelV y u):
  KT H (kvs.map fun kv=>if kv.1=k then (kv.1,y) else kv) (xs.map (putAt k u)):=by
 induction r with
 |nil=>exact .nil
 | @cons p q ps qs h t ih=>
  rw[List.map_cons,List.map_cons]
  refine .cons ?_ ih
  obtain⟨h1,h2,h3⟩:=h
  unfold putAt
  by_cases e:p.1=k
  ·rw[if_pos e,if_pos (h1.symm.trans e)];exact⟨h1,h2,ry⟩
  ·rw[if_neg e,if_neg (fun z=>e (h1.trans z))];exact⟨h1,h2,h3⟩
theorem KT.put{H:Hp}{kvs:List (List zy×V)}{xs:List (List zy×Addr×Value)}(r:KT H kvs xs)(k:List zy){b:Addr}{y:V}{u:Value}(hb:H b=some (.tup (k.map kV)))(ry:RelV y u):
  KT H (xm kvs k y) (storedH xs k b u):=by
 have e:(kvs.any fun kv=>decide (kv.1=k))=(atKey xs k).isSome:=by
  rw[Vu,(r.val k).isSome_eq,Option.isSome_map]
 unfold xm storedH
 rw[e]
 by_cases q:(atKey xs k).isSome=true
 ·rw[if_pos q,if_pos q];exact r.repl k ry
 ·rw[if_neg q,if_neg q];exact Paired.snoc r ⟨rfl,hb,ry⟩
theorem KT.keeps{H H':Hp}{kvs:List (List zy×V)}{xs:List (List zy×Addr×Value)}(r:KT H kvs xs)(ht: ∀b ys,H b=some (.tup ys)->H' b=some (.tup ys)):KT H' kvs xs:=
 Paired.mapP r fun _ _ z=>⟨z.1,ht _ _ z.2.1,z.2.2⟩
section
variable {P:Program} {w:World} {H:Hp} {h:Heap} {a:Addr}
theorem zaB{u:HO}(ok:HOk P w H h)(e:Rd H a u):ObjOk P w H h a u:=e.ok ok
theorem jp{kvs:List (zy×V)}(ok:HOk P w H h)(e:Rd H a (.dK kvs)):kvs.length<=sizeLine/\(a==sysModules)=false/\∃vs,KV kvs vs/\h.DictOf (zW P w) a vs:=
 show ObjOk P w H h a (.dK kvs) from zaB ok e
theorem zhx{kvs:List (zy×V)}(ok:HOk P w H h)(e:H a=some (.dK kvs)):kvs.length<=sizeLine/\(a==sysModules)=false/\∃vs,KV kvs vs/\h.DictOf (zW P w) a vs:=jp ok (.inl e)
theorem Zd{ks:List zy}(ok:HOk P w H h)(e:H a=some (.tup (ks.map kV))):(tupleKind (zW P w)).is h ks a:=by
 obtain⟨_,its,r,o,h1,h2,n,h3⟩:=(show ObjOk P w H h a (.tup (ks.map kV)) from ok a _ e)
 exact⟨o,its.toArray,n,h1,h2,h3,by simpa using zaA r⟩
theorem jq{kvs:List (List zy×V)}(ok:HOk P w H h)(e:Rd H a (.dT kvs)):kvs.length<=sizeLine/\(a==sysModules)=false/\
  ∃xs,KT H kvs xs/\h.DictOfH (tupleKind (zW P w)) a xs:=by
 obtain⟨z,y,xs,r,o,es,ep,h1,h2,h3,h4,h5⟩:=(show ObjOk P w H h a (.dT kvs) from zaB ok e)
 refine⟨z,y,xs,r,o,es,ep,h1,h2,h3,h4,fun x hx=>?_,h5⟩
 have all: ∀{l:List (List zy×V)} {m:List (List zy×Addr×Value)},KT H l m->∀x∈m,(tupleKind (zW P w)).is h x.1 x.2.1:=by
  intro l m q
  induction q with
  |nil=>intro x hx;exact nomatch hx
  | @cons p q ps qs hq t ih=>
   intro x hx
   rcases List.mem_cons.mp hx with e|hx
   ·subst e
    exact Zd ok (by rw[<-hq.1];exact hq.2.1)
   ·exact ih x hx
 exact all r x hx
theorem Ym{kvs:List (List zy×V)}(ok:HOk P w H h)(e:H a=some (.dT kvs)):kvs.length<=sizeLine/\(a==sysModules)=false/\
  ∃xs,KT H kvs xs/\h.DictOfH (tupleKind (zW P w)) a xs:=jq ok (.inl e)
end
noncomputable def DGet(H:Hp)(a:Addr)(y:V)(r:Option V):Prop:=
 (∃kvs k,Rd H a (.dK kvs)/\y=kV k/\r=yZ kvs k)\/∃kvs k b,Rd H a (.dT kvs)/\y= .ref b/\H b=some (.tup (k.map kV))/\r=yZ kvs k
noncomputable def DPut(H:Hp)(a:Addr)(y v:V)(H':Hp):Prop:=
 (∃kvs k,H a=some (.dK kvs)/\y=kV k/\kvs.length<sizeLine/\H'=zI H a (.dK (xm kvs k v)))\/
 ∃kvs k b,H a=some (.dT kvs)/\y= .ref b/\H b=some (.tup (k.map kV))/\kvs.length<sizeLine/\H'=zI H a (.dT (xm kvs k v))
theorem DGet.k{H:Hp}{a:Addr}{kvs:List (zy×V)}{k:zy}(e:H a=some (.dK kvs)):DGet H a (kV k) (yZ kvs k):=.inl ⟨kvs,k,.inl e,rfl,rfl⟩
theorem DGet.t{H:Hp}{a b:Addr}{kvs:List (List zy×V)}{k:List zy}(e:H a=some (.dT kvs))(eb:H b=some (.tup (k.map kV))):DGet H a (.ref b) (yZ kvs k):=.inr ⟨kvs,k,b,.inl e,rfl,eb,rfl⟩
theorem DPut.k{H:Hp}{a:Addr}{kvs:List (zy×V)}{k:zy}{v:V}(e:H a=some (.dK kvs))(hl:kvs.length<sizeLine):DPut H a (kV k) v (zI H a (.dK (xm kvs k v))):=.inl ⟨kvs,k,e,rfl,hl,rfl⟩
theorem DPut.t{H:Hp}{a b:Addr}{kvs:List (List zy×V)}{k:List zy}{v:V}(e:H a=some (.dT kvs))(eb:H b=some (.tup (k.map kV)))(hl:kvs.length<sizeLine):
  DPut H a (.ref b) v (zI H a (.dT (xm kvs k v))):=.inr ⟨kvs,k,b,e,rfl,eb,hl,rfl⟩
section
variable {X:Cx} {pins:List (Addr×Obj)} {σ:St} {H:Hp} {s:Shared} {a:Addr} {y v:V} {u r:Value} {o:Option V} {A:Around} {E:Value->Shared->Prop}
theorem Inv.big(I:Inv X pins σ H s):sysModules<s.heap.objs.size:=by
 have h:mainGlobals<s.heap.objs.size:=(I.mod.glob.keeps I.bk).lt
 exact Nat.lt_trans (by decide) h
theorem zhy{Q:Value->Shared->Prop}(hu:A.units+1<cLine)(I:Inv X pins σ H s)(g:DGet H a y (some v))(ry:RelV y u)(h: ∀w' s',Inv X pins σ H s'->RelV v w'->Q w' s'):
  wpAny (model X.prog X.w) A (getItem (.ref a) u) Q E s:=by
 rcases g with ⟨kvs,k,e,ey,l⟩|⟨kvs,k,b,e,ey,eb,l⟩
 ·subst ey
  obtain⟨z,hd,vs,rel,dd⟩:=jp I.hok e
  obtain⟨w',hw,rw'⟩:=RelO.some_of (v:=v) (o:=valueAt vs k) (by rw[l];exact rel.val k)
  exact wpAny_getItem_of (Yk ry) dd.mapOf hw (h w' _ (I.tok _) rw')
 ·subst ey
  cases (show u=Value.ref b from ry)
  obtain⟨z,hd,xs,rel,dd⟩:=jq I.hok e
  obtain⟨w',hw,rw'⟩:=RelO.some_of (v:=v) (o:=(atKey xs k).map (·.2)) (by rw[l];exact rel.val k)
  obtain⟨p,hp,hp2⟩:=jo2.mp hw
  refine wpAny_getItem_heap (tupleKind_room_in1 hu) (Zd I.hok eb) dd hp ?_
  rw[hp2]
  exact h w' _ (I.tok _) rw'
theorem zaC{Q:Value->Shared->Prop}(hu:A.units+1<cLine)(I:Inv X pins σ H s)(g:DGet H a y o)(ry:RelV y u)(h: ∀s',Inv X pins σ H s'->Q (.bool (!o.isSome)) s'):
  wpAny (model X.prog X.w) A (compareOp .NotIn u (.ref a)) Q E s:=by
 rcases g with ⟨kvs,k,e,ey,l⟩|⟨kvs,k,b,e,ey,eb,l⟩
 ·subst ey
  obtain⟨z,hd,vs,rel,dd⟩:=jp I.hok e
  refine wpAny_notIn_of (Yk ry) hd dd.mapOf ?_
  rw[<-(rel.val k).isSome_eq,<-l]
  exact h _ (I.tok _)
 ·subst ey
  cases (show u=Value.ref b from ry)
  obtain⟨z,hd,xs,rel,dd⟩:=jq I.hok e
  refine wpAny_notIn_heap (tupleKind_room_in1 hu) (Zd I.hok eb) hd dd ?_
  have q:=(rel.val k).isSome_eq
  rw[Option.isSome_map] at q
  rw[<-q,<-l]
  exact h _ (I.tok _)
theorem Vv{h':Heap}{t':Nat}{ob:HO}(I:Inv X pins σ H s)(mu:Ya (H a))(hs:Heap.SameBut a s.heap h')(he: ∃q,h'.get? a=some q)(new:ObjOk X.prog X.w (zI H a ob) h' a ob):
  Inv X pins σ (zI H a ob) { s with heap:=h',toks:=t' }:=
 I.write (x:=a) (e:=a) mu (.inl rfl) (fun b q hb z=>(hs.2 b hb).trans z) he new
theorem zhz{P:Program}{w:World}{H':Hp}{h':Heap}{kvs:List (zy×V)}{vs:List (zy×Value)}(z:kvs.length<=sizeLine)(hd:(a==sysModules)=false)(rel:KV kvs vs)(dd:h'.DictOf (zW P w) a vs):
  ObjOk P w H' h' a (.dK kvs):=⟨z,hd,vs,rel,dd⟩
theorem zhA{H':Hp}{Q:Unit->Shared->Prop}(hu:A.units+1<cLine)(I:Inv X pins σ H s)(g:DPut H a y v H')(ry:RelV y u)(rv:RelV v r)(h: ∀s',Inv X pins σ H' s'->Q () s'):
  wpAny (model X.prog X.w) A (setItem (.ref a) u r) Q E s:=by
 rcases g with ⟨kvs,k,e,ey,l,eH⟩|⟨kvs,k,b,e,ey,eb,l,eH⟩
 ·subst ey eH
  obtain⟨z,hd,vs,rel,dd⟩:=zhx I.hok e
  have hz:vs.length<=sizeLine:=by rw[<-rel.length];exact z
  have hl:(xm kvs k v).length<=sizeLine:=by have:=zaz kvs k v;omega
  refine wpAny_setItem_pairs (hsz:=hz) (Yk ry) dd fun h' dd' hs=>h _ ?_
  have he: ∃q,h'.get? a=some q:=let ⟨q,_,_,hq,_⟩:=dd';⟨q,hq⟩
  exact Vv I (by rw[e];exact True.intro) hs he (zhz hl hd (rel.put k rv) dd')
 ·subst ey eH
  cases (show u=Value.ref b from ry)
  obtain⟨z,hd,xs,rel,dd⟩:=Ym I.hok e
  have hz:xs.length<=sizeLine:=by rw[<-Paired.length rel];exact z
  have hl:(xm kvs k v).length<=sizeLine:=by have:=zaz kvs k v;omega
  refine wpAny_setItem_heap (hsz:=hz) (tupleKind_room_in1 hu) (Zd I.hok eb) dd fun h' dd' hs=>h _ ?_
  obtain⟨q,es,ep,hq,h2,h3,h4,_,h5⟩:=dd'
  refine Vv I (by rw[e];exact True.intro) hs ⟨q,hq⟩ ⟨hl,hd,_,(rel.put k eb rv).keeps fun c ys ec=>?_,q,es,ep,hq,h2,h3,h4,h5⟩
  rw[zJ (QD ec e (fun z=>nomatch z))]
  exact ec
end
theorem zhB{X:Cx}{pins:List (Addr×Obj)}{σ:St}{H:Hp}{s:Shared}{a:Addr}{y:V}{o:Option V}(I:Inv X pins σ H s)(g:DGet H a y o):s.TypeIs (.ref a) "dict":=by
 rcases g with ⟨kvs,k,e,_,_⟩|⟨kvs,k,b,e,_,_,_⟩
 ·obtain⟨_,_,vs,_,dd⟩:=jp I.hok e
  exact dd.typeIs
 ·obtain⟨_,_,xs,_,dd⟩:=jq I.hok e
  exact dd.typeIs
noncomputable def zhC(td ty tv:TE):TS:=fun D σ H=>tv σ H fun v H1=>td σ H1 fun x H2=>ty σ H2 fun y H3=>∃a H4,x= .ref a/\DPut H3 a y v H4/\D.nx σ H4
section
variable {X:Cx} {o i e value:Expr} {pos pos' tpos:Pos} {td ty tv:TE}
theorem zhD(hu:X.A.units+1<cLine)(ho:PE X o td)(hi:PE X i ty)(hv:PE X value tv)(hs:swapsWith value (some (.Subscript o i pos')) pos.line X.env=pure false):
  PS X (.Assign [.Subscript o i pos'] value pos) (zhC td ty tv):=by
 intro pins s σ H D I h
 refine wpAny_Assign_Subscript (zB (hv pins s σ H _ I h) fun r s1 ⟨v,H1,I1,rv,q1⟩=>zB (ho pins s1 σ H1 _ I1 q1) fun u s2 ⟨x,H2,I2,rx,q2⟩=>zB (hi pins s2 σ H2 _ I2 q2) fun iv s3 ⟨y,H3,I3,ry,a,H4,ex,g,q3⟩=>?_) hs
 subst ex
 obtain rfl:u=Value.ref a:=rx
 exact zhA hu I3 g ry rv fun s4 I4=>⟨σ,H4,I4,q3⟩
end
theorem zhE{P:Program}{w:World}{H:Hp}(h:Heap)(hb:sysModules<h.objs.size):ObjOk P w H (h.push { cls:=.type "dict",data:=.dict #[] }) h.objs.size (.dK []):=
 ⟨Nat.zero_le _,beq_eq_false_iff_ne.mpr (Ne.symm (Nat.ne_of_lt hb)),[],.nil,Heap.DictOf.new h⟩
theorem zaD{P:Program}{w:World}{H:Hp}(h:Heap)(hb:sysModules<h.objs.size):ObjOk P w H (h.push { cls:=.type "dict",data:=.dict #[] }) h.objs.size (.dT []):=
 ⟨Nat.zero_le _,beq_eq_false_iff_ne.mpr (Ne.symm (Nat.ne_of_lt hb)),[],.nil,_, #[],0,Heap.get?_push_size _ rfl,⟨rfl,rfl,rfl⟩,rfl,rfl,List.nodup_nil⟩
noncomputable def zhF:TE:=fun _ H Q=>∀p,H p=none->Q (.ref p) (zI H p (.dK []))
noncomputable def zhG:TE:=fun _ H Q=>∀p,H p=none->Q (.ref p) (zI H p (.dT []))
section
variable {X:Cx} {pos:Pos}
theorem zhH:PE X (.Dict [] [] pos) zhF:=fun pins s σ H Q I h=>
 wpAny_Dict_empty ⟨.ref s.heap.objs.size,_,I.laid (a:=s.heap.objs.size) (o:=.dK []) (t':=s.toks) (fun _ _ q=>Heap.get?_push_of_some _ q) (Nat.le_refl _) (zhE s.heap I.big),rfl,h _ (I.hok.fresh (Nat.le_refl _))⟩
theorem zhI:PE X (.Dict [] [] pos) zhG:=fun pins s σ H Q I h=>
 wpAny_Dict_empty ⟨.ref s.heap.objs.size,_,I.laid (a:=s.heap.objs.size) (o:=.dT []) (t':=s.toks) (fun _ _ q=>Heap.get?_push_of_some _ q) (Nat.le_refl _) (zaD s.heap I.big),rfl,h _ (I.hok.fresh (Nat.le_refl _))⟩
end
noncomputable def zhJ(kvs more:List (zy×V)):List (zy×V):=more.foldl (fun acc kv=>xm acc kv.1 kv.2) kvs
theorem KV.merge: ∀{more:List (zy×V)} {rs:List (zy×Value)} {kvs:List (zy×V)} {vs:List (zy×Value)},KV more rs->KV kvs vs->KV (zhJ kvs more) (merged vs rs):=by
 intro more rs kvs vs r
 unfold KV at r
 induction r generalizing kvs vs with
 |nil=>intro q;exact q
 | @cons p q ps qs h t ih=>
  intro r0
  have e:KV (xm kvs p.1 p.2) (stored vs q.1 q.2):=by
   have:=r0.put p.1 h.2
   rw[<-h.1];exact this
  exact ih e
structure M2 (X:Cx)(o:Expr)(m:Str)(apos:Pos)(e f:Expr)(cpos:Pos):Prop where
 base:attributeBase o m X.env (eval o X.env)=eval o X.env
 few:((backTo cpos (starEach [e,f] X.env)).all (fun x=> !x.1)&&(backToKw cpos (keywordEach [] X.env)).all (fun x=>x.1.isSome)
  &&decide (([e,f]:List Expr).length+([]:List Keyword).length+(if ([]:List Keyword).isEmpty then 0 else 1)<30))=true
 line:(apos.endLine==cpos.line)=true
 trees:backTo cpos (starEach [e,f] X.env)=[(false,eval e X.env),(false,eval f X.env)]
noncomputable def zaE(H:Hp)(a:Addr):Prop:=(∃kvs,Rd H a (.dK kvs))\/∃kvs,Rd H a (.dT kvs)
theorem zhK{X:Cx}{pins:List (Addr×Obj)}{σ:St}{H:Hp}{s:Shared}{a:Addr}(I:Inv X pins σ H s)(d:zaE H a):
  s.TypeIs (.ref a) "dict"/\(∀b,Value.ref a= .ref b->∃ob,s.heap.get? b=some ob/\ob.dict=none)/\(a==sysModules)=false:=by
 rcases d with ⟨kvs,e⟩|⟨kvs,e⟩
 ·obtain⟨_,hd,vs,_,dd⟩:=jp I.hok e
  refine⟨dd.typeIs,fun b q=>?_,hd⟩
  cases q
  obtain⟨ob,_,_,h1,h2,_⟩:=dd
  exact⟨ob,h1,h2.2.1⟩
 ·obtain⟨_,hd,xs,_,dd⟩:=jq I.hok e
  refine⟨dd.typeIs,fun b q=>?_,hd⟩
  cases q
  obtain⟨ob,_,_,h1,h2,_⟩:=dd
  exact⟨ob,h1,h2.2.1⟩
section
variable {X:Cx} {pins:List (Addr×Obj)} {σ:St} {H:Hp} {s:Shared} {a:Addr} {y d:V} {u r:Value} {o:Option V} {A:Around} {E:Value->Shared->Prop}
theorem zhL{Q:Value->Shared->Prop}(hu:A.units+1<cLine)(I:Inv X pins σ H s)(g:DGet H a y o)(ry:RelV y u)(rd:RelV d r)(h: ∀w' s',Inv X pins σ H s'->RelV (o.getD d) w'->Q w' s'):
  wpAny (model X.prog X.w) A (call (.builtin "dict.get") [.ref a,u,r]) Q E s:=by
 rcases g with ⟨kvs,k,e,ey,l⟩|⟨kvs,k,b,e,ey,eb,l⟩
 ·subst ey
  obtain⟨z,hd,vs,rel,dd⟩:=jp I.hok e
  refine call_meetsIn PySem.F.slot_dict_get dd.typeIs PySem.F.entry_dict_get (PySem.F.args_dict_get_3 _ _ _) (meets_dict_get_default (zW X.prog X.w) a (Yk ry) hd r) ⟨_,dd.mapOf,h _ _ (I.tok _) ?_⟩
  rw[l]
  exact (rel.val k).getD rd
 ·subst ey
  cases (show u=Value.ref b from ry)
  obtain⟨z,hd,xs,rel,dd⟩:=jq I.hok e
  refine call_meetsIn PySem.F.slot_dict_get dd.typeIs PySem.F.entry_dict_get (PySem.F.args_dict_get_3 _ _ _) (meetsH_dict_get_default (tupleKind (zW X.prog X.w)) a b hd r) ⟨tupleKind_room_in1 hu,k,xs,Zd I.hok eb,dd,h _ _ (I.tok _) ?_⟩
  rw[l]
  exact (rel.val k).getD rd
end
noncomputable def zhM(td ty tx:TE):TE:=fun σ H Q=>td σ H fun x H1=>∃a,x= .ref a/\zaE H1 a/\ty σ H1 fun y H2=>tx σ H2 fun z H3=>∃o,DGet H3 a y o/\Q (o.getD z) H3
section
variable {X:Cx} {o e f:Expr} {apos cpos:Pos} {td ty tx:TE}
theorem zhN(hu:X.A.units+1<cLine)(ho:PE X o td)(he:PE X e ty)(hf:PE X f tx)(m:M2 X o "get" apos e f cpos):PE X (.Call (.Attribute o "get" apos) [e,f] [] cpos) (zhM td ty tx):=by
 intro pins s σ H Q I h
 refine wpAny_Call_method m.base m.few m.line PySem.F.plainAttrs_dict PySem.F.slot_dict_get PySem.F.type_dict_get (zB (ho pins s σ H _ I h) fun u s1 ⟨x,H1,I1,rx,a,ex,d,q1⟩=>?_)
 subst ex
 obtain rfl:u=Value.ref a:=rx
 obtain⟨t1,t2,_⟩:=zhK I1 d
 refine⟨t1,t2,?_⟩
 rw[m.trees]
 refine Calls.callWith_builtin rfl (Calls.evalArgs_plain (Calls.spliced_cons (zB (he pins s1 σ H1 _ I1 q1) fun iv s2 ⟨y,H2,I2,ry,q2⟩=>
  Calls.spliced_cons (zB (hf pins s2 σ H2 _ I2 q2) fun fv s3 ⟨z,H3,I3,rz,ov,g,q3⟩=>Calls.spliced_nil ?_))))
 exact zhL hu I3 g ry rz fun w' s4 I4 rw'=>⟨_,H3,I4,rw',q3⟩
end
end L2
namespace Att
open PySem PySem.W PySem.Calls PyProof.Rows
theorem zhO{P:Params}{h:Heap}: ∀(ns:List Int) (vs:List Value),WellAll P h vs (ns.map WData.int)->IntsAre vs ns:=by
 intro ns
 induction ns with
 |nil=>
  intro vs w
  rw[List.map_nil] at w
  cases w
  exact .nil
 |cons n ns ih=>
  intro vs w
  rw[List.map_cons] at w
  cases w with
  |cons a b=>
   cases a
   exact .cons _ _ (ih _ b)
theorem zhP{l:OpenLaw}{n:Nat}(hn:l.most=some n){P:Params}{h:Heap}{args:List WData}{vals:List Value}
  (hpre:l.row.toRowW.claim.pre args=true) (hwl:WellAll P h vals args):
  ∃a vs ns,vals=[Value.ref a]/\args=[WData.list (ns.map WData.int)]/\h.get? a=some { cls:=.type "list",data:=.seq vs.toArray }/\IntsAre vs ns/\ns.length<=n:=by
 have hsh:WShape.hasAll [] args [.list .int]=true:=(pre_splitW hpre).1
 have hc:l.pre.holds [] { args:=args }=true:=(pre_splitW hpre).2
 obtain⟨d,r,rfl,h1,h2⟩:=hasAllW_cons hsh
 obtain rfl:=hasAllW_nil h2
 obtain⟨xs,rfl,h3⟩:=hasW_list h1
 obtain⟨ns,rfl⟩:=items_int h3
 have hlen:ns.length<=n:=by
  unfold OpenLaw.pre at hc
  have h4:(WTm.not (.lt (.lit (.int (n:Int))) (.len (.arg 0)))).holds [] { args:=[.list (ns.map .int)] }=true:=by
   have h4:=(holds_andW hc).1
   rw[hn] at h4
   exact h4
  have h5:=condW_of h4 (w_not (w_lt w_lit (w_len_list (w_arg rfl))))
  rw[List.length_map] at h5
  refine Nat.le_of_not_lt fun q=>?_
  have q':(n:Int)<((ns.length:Nat):Int):=by omega
  first
   |(rw[decide_eq_true q'] at h5;exact absurd h5 (by decide))
   |(simp at h5;omega)
 cases hwl with
 |cons w1 w2=>
  cases w2
  cases w1 with
  |list ho hall=>exact⟨_,_,ns,rfl,rfl,ho,zhO ns _ hall,hlen⟩
theorem zhQ(l:OpenLaw)(args:List WData):l.row.toRowW.claim.post args (.bool true) args=true:=
 postW_of (r:=l.row.toRowW) (X:=(true==true))
  (show WShape.has [] (.bool true) .bool=true by first|rfl|decide|simp[WShape.has,WShape.arms,WShape.armsAll])
  (show (WTm.eq .res (.lit (.bool true))).value [] { args:=args,res:=some (.bool true),after:=args }=some (.bool (true==true)) from w_eq_bool (w_res rfl) w_lit) rfl
theorem attach_call{l:OpenLaw}{n:Nat}{q:Program}{loose:List Str}{XP:(Str->Option Value)->Heap->Prop}{YP:World->Heap->Prop}{d:DefRec}
  (hn:l.most=some n) (hdf:d.params.defaults=[])
  (call: ∀(w:World) (s₀ s₁:Shared) (mg mb:Str->Option Value) (fa:Addr) (o:Obj) (pm cd doc:Value) (a:Addr) (vs:List Value) (ns:List Int),
   Ground q loose [] XP w s₀ mg mb s₁.heap->YP w s₁.heap->
   s₁.heap.get? fa=some o->o.data= .func (docDef d.name d.params d.body d.scope pm cd doc)->s₁.heap.CodeRec cd d.name->mg d.name=some (.ref fa)->
   s₁.heap.get? a=some { cls:=.type "list",data:=.seq vs.toArray }->IntsAre vs ns->ns.length<=n->s₁.gens= #[]->
   codeAny (model l.prog w) callerA (.call (.ref fa) ⟨[.ref a],[]⟩) (fun r s'=>r= .ok (.ret (.bool true))/\OldK s₁.heap s'.heap/\s'.os=s₁.os/\AllBare s'.gens) s₁):
  WalkO q loose XP YP l.row.toRowW d [] (fun f vs=>PySem.call f vs):=by
 intro w s₀ s₁ mg mb G Y fa o pm cd doc dV kV ho hd hcd hD hmg hg args vals as hpre hlay hrd hwl hlo
 obtain rfl:dV= .none:=Dflts.none hD hdf
 obtain rfl:kV= .none:=Dflts.noKw hD
 obtain⟨a,vs,ns,rfl,rfl,hobj,hints,hlen⟩:=zhP hn hpre hwl
 refine enter_call (codeAny_mono (call w s₀ s₁ mg mb fa o pm cd doc a vs ns G Y ho (fd_plain hd) hcd hmg hobj hints hlen hg) fun r s' hq=>?_)
 obtain⟨rfl,h2,h3,h4⟩:=hq
 exact⟨.inl ⟨.bool true,.bool true,[],rfl,fun _=>rfl,.bool true,zhQ l _,fun _=>⟨List.Pairwise.nil,fun _ hm=>(nomatch hm)⟩⟩,h2,h3,h4⟩
section
variable {prog:Program} {w:World} {A:Around} {E:Value->Shared->Prop} {s:Shared} {K:Frag}
noncomputable def zrf(h:Heap)(L d:Addr):List (Addr×Obj):=(List.range h.objs.size).filterMap fun a=>if a=L\/a=d then none else (h.get? a).map fun o=>(a,o)
end
end Att
namespace L2
open PySem PySem.Spec PyProof.Rows
theorem QQ: ∀{vs:List Value} {ns:List Int},IntsAre vs ns->Vals (ns.map V.int) vs
 |_,_,.nil=>.nil
 |_,_,.cons n t h=>.cons ⟨t,rfl⟩ (QQ h)
noncomputable def Vw(H:Hp):Prop:=∀b,H b=none\/∃o xs,H b=some (.frz o (.lst xs))
theorem zhR{P:Program}{w:World}{K:PySem.W.Frag}{mg mb:Str->Option Value}{CX:wd}{k:Nat}{fa a:Addr}{fd:FuncData}{x:Str}{sp:Sp}{s₁:Shared}{vs:List Value}{ns:List Int}
  (KX:K.In s₁.heap) (hns:s₁.heap.Ns mainGlobals mg) (hb:s₁.heap.Ns builtinsNs mb) (hbb: ∀x:Str,x≠"__name__"->mb x=bootBuiltins x) (hlim:s₁.heap.NoLimit) (hg:s₁.gens= #[])
  (ha:s₁.heap.get? a=some { cls:=.type "list",data:=.seq vs.toArray }) (hi:IntsAre vs ns) (hl:ns.length<=sizeLine) (hr:Room k callerA)
  (F: ∀base:Heap,K.In base->base.Ns mainGlobals mg->FnOk P w K mg base CX k fa fd [x] sp) (hbind: ∀(s:Shared) (u:Value),BindsTo s fd ⟨[u],[]⟩ [(x,u)])
  (hsp: ∀H:Hp,Vw H->SqL K H a (ns.map V.int)->sp [.ref a] H (fun v _=>v= .bl true) fun _ _ _=>False)
  (hCX: ∀H e s',CX [] H s₁ (fun _ _ _=>False) e s'->False):
  codeAny (model P w) callerA (.call (.ref fa) ⟨[.ref a],[]⟩) (fun r s'=>r= .ok (.ret (.bool true))/\OldK s₁.heap s'.heap/\s'.os=s₁.os/\AllBare s'.gens) s₁:=by
 have rv:=QQ hi
 have lenV:=hi.length
 have core: ∀H:Hp,Vw H->SqL K H a (ns.map V.int)->HOk P w H s₁.heap->(∀b,H b≠none->b=a)->(H a≠none->K.lookup a=none)->
   codeAny (model P w) callerA (.call (.ref fa) ⟨[.ref a],[]⟩) (fun r s'=>r= .ok (.ret (.bool true))/\OldK s₁.heap s'.heap/\s'.os=s₁.os/\AllBare s'.gens) s₁:=by
  intro H hO hS hok hA hK
  have base_of: ∀{b:Addr} {o:Obj},s₁.heap.get? b=some o->H b=none->(vD s₁.heap H).get? b=some o:=fun e n=>zfz e n
  have noA: ∀{b:Addr} {o:Obj} {es:Array DictEntry} {ep:Nat},s₁.heap.get? b=some o->o.data= .dict es ep->H b=none:=fun {b o es ep} e d=>by
   cases q:H b with
   |none=>rfl
   |some u=>
    have e':b=a:=hA b (by rw[q];simp)
    subst e'
    rw[ha] at e;cases e
    have d':Data.seq vs.toArray _=Data.dict es ep:=d
    cases d'
  have nsK: ∀{b:Addr} {m:Str->Option Value},s₁.heap.Ns b m->(vD s₁.heap H).Ns b m:=fun {b m} ⟨o,es,ep,e,d,r⟩=>⟨o,es,ep,base_of e (noA e d),d,r⟩
  have hKb:K.In (vD s₁.heap H):=fun b o e=>base_of (KX b o e) (by
   cases q:H b with
   |none=>rfl
   |some u=>
    have e':b=a:=hA b (by rw[q];simp)
    subst e'
    rw[hK (by rw[q];simp)] at e;cases e)
  have hM:Mod K mg (vD s₁.heap H):=⟨hKb,nsK hns,⟨mb,nsK hb,hbb⟩,let ⟨mc,h1,h2⟩:=hlim;⟨mc,nsK h1,h2⟩⟩
  have e0:Env0 P w K mg (vD s₁.heap H) callerA [] s₁ H:=⟨rfl,hM,fun b o e=>zfA e,Nat.le_of_eq (zfy _ _),trivial,fun b hb=>absurd (show b∈([]:List Addr) from hb) (by simp),hok,.of_eq hg⟩
  refine codeAny_mono ((F _ hKb (nsK hns)).run callerA [] s₁ H ⟨[.ref a],[]⟩ [.ref a] [.ref a] _ _ hr e0 (hbind s₁ (.ref a)) (.cons rfl .nil) (hsp H hO hS)) fun r s' h=>?_
  cases r with
  |error e=>exact (hCX H e s' h).elim
  |ok fl=>
   cases fl with
   |next=>exact False.elim h
   |brk=>exact False.elim h
   |cont=>exact False.elim h
   |ret u=>
    obtain⟨v,H',os,bare,un,hok',r',q⟩:=h
    have q':v= .bl true:=q
    subst q'
    obtain rfl:u=Value.bool true:=r'
    refine⟨rfl,OldK.of_keep fun b o e=>?_,os,bare⟩
    cases q:H b with
    |none=>exact un.keep b o e q (by intro z;exact absurd (show b∈([]:List Addr) from z) (by simp)) (by simp)
    |some u=>
     rcases hO b with z|⟨ob,xs,z⟩
     ·rw[q] at z;cases z
     ·have z2:=un.frzs b ob _ z
      obtain⟨e1,_⟩:=hok b _ z
      obtain⟨e2,_⟩:=hok' b _ z2
      rw[e] at e1;cases e1
      exact e2
 cases hk:K.lookup a with
 |some o=>
  have e:=KX a o hk
  rw[ha] at e
  cases e
  refine core (fun _=>none) (fun _=>.inl rfl) (.inr ⟨_,vs.toArray,_,hk,rfl,rfl,rfl,by rw[List.size_toArray,lenV];exact hl,by simpa using rv⟩) (fun b u z=>by have z':(none:Option HO)=some u:=z;cases z') (fun b z=>absurd rfl z) fun z=>absurd rfl z
 |none=>
  refine core (fun b=>if b=a then some (.frz { cls:=.type "list",data:=.seq vs.toArray } (.lst (ns.map V.int))) else none) (fun b=>?_) (.inl (.inr ⟨{ cls:=.type "list",data:=.seq vs.toArray },if_pos rfl⟩)) (fun b u z=>?_) (fun b z=>?_) fun _=>hk
  ·by_cases hb:b=a
   ·exact .inr ⟨_,_,if_pos hb⟩
   ·exact .inl (if_neg hb)
  ·by_cases hb:b=a
   ·have z':=(if_pos hb).symm.trans z
    cases z'
    subst hb
    exact⟨ha,by rw[List.length_map];exact hl,vs,_,rv,ha⟩
   ·have z':=(if_neg hb).symm.trans z
    cases z'
  ·by_cases hb:b=a
   ·exact hb
   ·exact absurd (if_neg hb) z
end L2
namespace L2
open PySem PySem.Spec PyProof.Rows
noncomputable abbrev zrg{K:PySem.W.Frag}{h:Heap}(_:K.In h):PySem.W.Frag:=K
theorem zhS{l:PySem.W.OpenLaw}{n k:Nat}{q:Program}{loose:List Str}{XP:(Str->Option Value)->Heap->Prop}{YP:World->Heap->Prop}{d:DefRec}{K:Params->PySem.W.Frag}{CX:World->wd}{sp:World->Sp}{x:Str}
  (hn:l.most=some n) (hn2:n<=sizeLine) (hdf:d.params.defaults=[]) (hr:Room k callerA)
  (hY: ∀(w:World) (h:Heap),YP w h->(K w.params).In h)
  (F: ∀(w:World) (mg:Str->Option Value) (fa:Addr) (h:Heap),(K w.params).In h->h.Ns mainGlobals mg->mg d.name=some (.ref fa)->
   ∃fd:FuncData,(∀(s:Shared) (u:Value),BindsTo s fd ⟨[u],[]⟩ [(x,u)])/\
    ∀base:Heap,(K w.params).In base->base.Ns mainGlobals mg->FnOk l.prog w (K w.params) mg base (CX w) k fa fd [x] (sp w))
  (hsp: ∀(w:World) (H:Hp) (a:Addr) (ns:List Int),ns.length<=n->Vw H->SqL (K w.params) H a (ns.map V.int)->sp w [.ref a] H (fun v _=>v= .bl true) fun _ _ _=>False)
  (hCX: ∀(w:World) (H:Hp) (s:Shared) (e:Value) (s':Shared),CX w [] H s (fun _ _ _=>False) e s'->False):
  PySem.W.WalkO q loose XP YP l.row.toRowW d [] (fun f vs=>PySem.call f vs):=by
 refine Att.attach_call hn hdf fun w s₀ s₁ mg mb fa o pm cd doc a vs ns G Y ho hd hcd hmg hobj hints hlen hg=>?_
 have KX:=hY w _ Y
 obtain⟨fd,hb,hF⟩:=F w mg fa _ KX G.T.g hmg
 exact zhR KX G.T.g G.T.b G.T.builtins G.T.nolimit hg hobj hints (Nat.le_trans hlen hn2) hr hF hb (fun H hO hS=>hsp w H a ns hlen hO hS) fun H e s'=>hCX w H s₁ e s'
theorem zhT{l:PySem.W.OpenLaw}{n k:Nat}{q:Program}{loose:List Str}{XP:(Str->Option Value)->Heap->Prop}{YP:World->Heap->Prop}{d:DefRec}{K:Params->PySem.W.Frag}{CX:wd}{sp:PySem.W.Frag->Sp}{x:Str}
  (hn:l.most=some n) (hn2:n<=sizeLine) (hdf:d.params.defaults=[]) (hr:Room k callerA)
  (hY: ∀(w:World) (h:Heap),YP w h->(K w.params).In h)
  (F: ∀(w:World) (mg:Str->Option Value) (fa:Addr) (h:Heap),(K w.params).In h->h.Ns mainGlobals mg->mg d.name=some (.ref fa)->
   ∃fd:FuncData,(∀(s:Shared) (u:Value),BindsTo s fd ⟨[u],[]⟩ [(x,u)])/\
    ∀base:Heap,(K w.params).In base->base.Ns mainGlobals mg->FnOk l.prog w (K w.params) mg base CX k fa fd [x] (sp (K w.params)))
  (hsp: ∀(K:PySem.W.Frag) (H:Hp) (a:Addr) (ns:List Int),ns.length<=n->Vw H->SqL K H a (ns.map V.int)->sp K [.ref a] H (fun v _=>v= .bl true) fun _ _ _=>False)
  (hCX: ∀(H:Hp) (s:Shared) (e:Value) (s':Shared),CX [] H s (fun _ _ _=>False) e s'->False):
  PySem.W.WalkO q loose XP YP l.row.toRowW d [] (fun f vs=>PySem.call f vs):=
 zhS (K:=K) (CX:=fun _=>CX) (sp:=fun w=>sp (K w.params)) hn hn2 hdf hr hY F (fun w H a ns h1 h2 h3=>hsp (K w.params) H a ns h1 h2 h3) fun _ H s e s'=>hCX H s e s'
end L2
namespace L2
open PySem PySem.Spec PyProof.Rows
noncomputable def zH(s:Stmt):Arguments:=match s with
 | .FunctionDef _ a _ _ _ _ _ _ _ _=>a
 |_=>{ posonlyargs:=[],args:=[],vararg:=none,kwonlyargs:=[],kw_defaults:=[],kwarg:=none,defaults:=[] }
noncomputable def zt(s:Stmt):List Stmt:=match s with
 | .FunctionDef _ _ b _ _ _ _ _ _ _=>b
 |_=>[]
noncomputable def zb(s:Stmt):Scope:=match s with
 | .FunctionDef _ _ _ _ _ _ sc _ _ _=>sc
 |_=>{ kind:=.function,names:=[],isGenerator:=false,isCoroutine:=false }
noncomputable abbrev zD:wd:=fun _ _ _ _ _ _=>False
noncomputable abbrev E0:XK:=fun _ _ _=>False
theorem zhU{X:Cx}:QL zD X E0:=fun _ _ _ _ _ _ _ h=>h.elim
structure Fun (K:PySem.W.Frag)(x qual:Str)(st:Stmt)(f:Addr)(fd:FuncData):Prop where
 ex: ∃(oc:Value) (od:Option Addr) (kV doc pm:Value) (an:Option Addr) (cdv ct:Value) (osl:Array (Option Value)),
  fd=PySem.W.fnOf x qual (zH st) (zt st) (zb st) .none kV doc pm an cdv ct/\K.lookup f=some ⟨oc,od,.func fd,osl⟩/\PySem.W.codeIn K cdv qual=true
 kp:PySem.W.keepIn K (.ref f)=true
section
variable {P:Program} {w:World} {K:PySem.W.Frag} {mg:Str->Option Value} {base:Heap}
theorem Fun.ok{x qual:Str}{st:Stmt}{f:Addr}{fd:FuncData}{N ps:List Str}{k:Nat}{sp:Sp}(F:Fun K x qual st f fd)(S:FnScope N ps (zb st))(len: ∀vs H Q E,sp vs H Q E->vs.length=ps.length)
  (hbody: ∀(cdv:Value) (A:Around) (outer:List Env) (s:Shared) (H:Hp) (vs:List V) (Q:VK) (E:XK),Room k (A.deeper (envOfC qual (zb st) s.heap.objs.size f cdv))->sp vs H Q E->
   ∃t,PSs (yf zD P w K mg base N qual (zb st) f cdv A outer s H E).nox (zt st) t/\t { nx:=fun _ H'=>Q .non H',rt:=Q } (we N vs) H):FnOk P w K mg base zD (k+1) f fd ps sp:=by
 obtain⟨oc,od,kV,doc,pm,an,cdv,ct,osl,rfl,lk,hcd⟩:=F.ex
 refine zg4 lk hcd S len fun A outer s H vs Q E hr hsp=>?_
 obtain⟨t,h,q⟩:=hbody cdv A outer s H vs Q E hr hsp
 exact⟨t,h.nox,q⟩
theorem Fun.binds{x qual:Str}{st:Stmt}{f:Addr}{fd:FuncData}{ps:List Str}(F:Fun K x qual st f fd)
  (h: ∀(kV doc pm:Value) (an:Option Addr) (cdv ct:Value) (us:List Value),us.length=ps.length->bindArgs (PySem.W.fnOf x qual (zH st) (zt st) (zb st) .none kV doc pm an cdv ct) ⟨us,[]⟩=pure (ps.zip us)):Binds K fd ps []:=by
 obtain⟨oc,od,kV,doc,pm,an,cdv,ct,osl,rfl,lk,hcd⟩:=F.ex
 exact .all (h kV doc pm an cdv ct)
theorem zK{x qual:Str}{st:Stmt}{f:Addr}{oc:Value}{od an:Option Addr}{osl:Array (Option Value)}{kV doc pm cdv ct:Value}(l:K.lookup f=some ⟨oc,od,.func (PySem.W.fnOf x qual (zH st) (zt st) (zb st) .none kV doc pm an cdv ct),osl⟩)
  (c:PySem.W.codeIn K cdv qual=true) (k:PySem.W.keepIn K (.ref f)=true):Fun K x qual st f (PySem.W.fnOf x qual (zH st) (zt st) (zb st) .none kV doc pm an cdv ct):=⟨⟨oc,od,kV,doc,pm,an,cdv,ct,osl,rfl,l,c⟩,k⟩
end
theorem Yn{n:Nat}(h:n<=1000):n<sizeLine:=Nat.lt_of_le_of_lt h (by decide)
theorem zhV{A B:Prop}(h:B):if false=true then A else B:=by
 rw[if_neg Bool.false_ne_true]
 exact h
theorem zhW{A B:Prop}(h:A):if true=true then A else B:=by
 rw[if_pos rfl]
 exact h
noncomputable def Same(H H':Hp):Prop:=∀b o,H b=some o->H' b=some o
theorem Same.refl(H:Hp):Same H H:=fun _ _ h=>h
theorem Same.trans{H H1 H2:Hp}(a:Same H H1)(b:Same H1 H2):Same H H2:=fun c o h=>b c o (a c o h)
theorem Same.free{H H':Hp}(e:Same H H'){l:Addr}(h:H' l=Option.none):H l=Option.none:=by
 cases q:H l with
 |none=>rfl
 |some o=>
  rw[e l o q] at h
  cases h
theorem Same.seq{K:PySem.W.Frag}{H H':Hp}{a:Addr}{xs:List V}(e:Same H H')(h:SqL K H a xs):SqL K H' a xs:=by
 rcases h with (h|⟨o,h⟩)|h
 ·exact .inl (.inl (e _ _ h))
 ·exact .inl (.inr ⟨o,e _ _ h⟩)
 ·exact .inr h
end L2
namespace L2.LW
open PySem
set_option genSizeOf false
inductive D where
 |int (i:Int)|bl (b:Bool)|non|str (x:Str)|tup (l:List D)|lst (l:List D)
 |dct (t:Bool) (ks vs:List D)
mutual
noncomputable def zV:D->D->Bool
 | .int a,.int b=>a==b
 | .bl a,.bl b=>a==b
 | .int a,.bl b=>a==(if b then 1 else 0)
 | .bl a,.int b=>(if a then 1 else 0)==b
 | .non,.non=>true
 | .str a,.str b=>a==b
 | .tup xs,.tup ys=>xw xs ys
 | .lst xs,.lst ys=>xw xs ys
 |_,_=>false
noncomputable def xw:List D->List D->Bool
 |[],[]=>true
 |x::xs,y::ys=>zV x y&&xw xs ys
 |_,_=>false
end
mutual
noncomputable def plain:D->Bool
 | .lst _=>false
 | .dct _ _ _=>false
 | .tup l=>xa l
 |_=>true
noncomputable def xa:List D->Bool
 |[]=>true
 |x::xs=>plain x&&xa xs
end
inductive SV where
 |val (d:D)|obj (o:Bool) (d:D)|io (d:D)
noncomputable abbrev SV.lis(o:Bool)(ds:List D):SV:=.obj o (.lst ds)
noncomputable def toD:SV->Option D
 | .val d=>some d
 | .obj true d=>some d
 |_=>none
noncomputable def zN:SV->D
 | .val d=>d
 | .obj _ d=>d
 | .io d=>d
noncomputable def SV.lent:SV->Bool
 | .val _=>false
 | .obj true _=>false
 |_=>true
noncomputable def wg:D->Bool
 | .lst ds=>xa ds
 | .dct _ _ vs=>xa vs
 |d=>plain d
noncomputable def SV.plain:SV->Bool
 | .val d=>LW.plain d
 | .obj _ d=>wg d
 | .io _=>false
noncomputable abbrev Env:=List (Option SV)
inductive Ty where
 |bool|int|str|list|tuple
 deriving DecidableEq
inductive Prim where
 |add|sub|mul|fdiv|mod|neg|eq|ne|lt|le|gt|ge|isN|notN|inn|nin|idx|len|abs|min2|max2|sorted|sortP|skeys|nset|sset|shl|shr|band|bor|bxor|blen|dget|cutT|cutF|addT|mulT|mulL|addS|join0|splitN|eqS|neS|toList|toTup|all|inst (t:Ty)|cutTo|maxL|minL|sumL|intOf
set_option genInjectivity false
mutual
inductive E where
 |int (i:Int)|bl (b:Bool)|non|str (x:Str)
 |var (i:Nat)
 |prim (p:Prim) (es:Es)
 |tup (es:Es)|lst (es:Es)
 |and (a b:E)|or (a b:E)|not (a:E)
 |chain (p q:Prim) (a b c:E)
 |ite (c a b:E)
 |call (f:Nat) (es:Es)
 |comp (rng:Bool) (src:Es) (cond elt:E)
 |dnew (t:Bool)|done (t:Bool) (k v:E)
 |compE (src cond elt:E)
inductive Es where
 |nil|cons (e:E) (es:Es)
end
set_option genInjectivity true
noncomputable def wA:Ty->D->Bool
 | .bool,.bl _=>true
 | .int,.int _=>true
 | .int,.bl _=>true
 | .str,.str _=>true
 | .list,.lst _=>true
 | .tuple,.tup _=>true
 |_,_=>false
noncomputable def ints? :List D->Option (List Int)
 |[]=>some []
 | .int i::r=>(ints? r).map (i:: ·)
 |_=>none
noncomputable def lexLt:List Int->List Int->Bool
 |_,[]=>false
 |[],_::_=>true
 |x::xs,y::ys=>if x=y then lexLt xs ys else decide (x<y)
noncomputable def ixN(n:Nat)(i:Int):Option Nat:=if 0<=i then (if i<n then some i.toNat else none) else if -(n:Int)<=i then some (i+n).toNat else none
noncomputable def atI{α:Type}(xs:List α)(i:Int):Option α:=(ixN xs.length i).bind fun j=>xs[j]?
noncomputable def bools? :List D->Option (List Bool)
 |[]=>some []
 | .bl i::r=>(bools? r).map (i:: ·)
 |_=>none
noncomputable def line:Nat:=16777216
noncomputable def yW:D->Option (List D)
 | .tup l=>some l
 | .lst l=>some l
 |_=>none
noncomputable def tups? :List D->Option (List (List Int))
 |[]=>some []
 | .tup l::r=>(ints? l).bind fun x=>(tups? r).map (x:: ·)
 |_=>none
noncomputable def jr(x:List Int):List (List Int)->List (List Int)
 |[]=>[x]
 |y::r=>if lexLt x y then x::y::r else y::jr x r
noncomputable def wB:List (List Int)->List (List Int)
 |[]=>[]
 |x::r=>jr x (wB r)
noncomputable def vF(l:List Int):List Int:=l.mergeSort (fun a b=>decide (a<=b))
noncomputable def zS:Nat->D->Bool
 |_,.int _=>true
 |_,.bl _=>true
 |_,.non=>true
 |_,.str _=>false
 |0,_=>false
 |n+1,.tup l=>l.all (zS n)
 |n+1,.lst l=>l.all (zS n)
 |_+1,.dct _ _ _=>false
noncomputable def yQ:Bool->D->Bool
 |false,.int _=>true
 |true,.tup l=>(ints? l).isSome
 |_,_=>false
noncomputable def yU(ks:List D)(k:D):Option Nat:=ks.findIdx? fun x=>zV x k
noncomputable def dget(ks vs:List D)(k:D):Option D:=(yU ks k).bind fun i=>vs[i]?
noncomputable def xK(t:Bool)(ks vs:List D)(k v:D):D:=if (yU ks k).isSome then .dct t ks (List.zipWith (fun k' v'=>if zV k' k then v else v') ks vs) else .dct t (ks++[k]) (vs++[v])
noncomputable def yg(r:Int):Option SV:=some (.val (.int r))
noncomputable def yF(r:Bool):Option SV:=some (.val (.bl r))
noncomputable def Vx:List D->Option SV
 |[.int a,.int b]=>yg (a+b)
 |[.lst a,.lst b]=>if a.length+b.length<=line then some (SV.obj true (.lst (a++b))) else none
 |_=>none
noncomputable def QR:List D->Option SV
 |[.int a,.int b]=>yg (a-b)
 |_=>none
noncomputable def Yo:List D->Option SV
 |[.int a,.int b]=>if (-(2 ^ 64)<a/\a<2 ^ 64)\/(-(2 ^ 64)<b/\b<2 ^ 64) then yg (a*b) else none
 |_=>none
noncomputable def Vy:List D->Option SV
 |[.int a,.int b]=>if 0<b/\b<1073741824 then yg (a/b) else none
 |_=>none
noncomputable def Vz:List D->Option SV
 |[.int a,.int b]=>if 0<b then yg (a%b) else none
 |_=>none
noncomputable def QS:List D->Option SV
 |[.int a]=>yg (-a)
 |_=>none
noncomputable def Yp:List D->Option SV
 |[a,b]=>if zS 8 a&&zS 8 b then yF (zV a b) else none
 |_=>none
noncomputable def Yq:List D->Option SV
 |[a,b]=>if zS 8 a&&zS 8 b then yF (!zV a b) else none
 |_=>none
noncomputable def Yr:List D->Option SV
 |[.int a,.int b]=>yF (decide (a<b))
 |[.tup a,.tup b]=>(ints? a).bind fun x=>(ints? b).bind fun y=>yF (lexLt x y)
 |_=>none
noncomputable def VA:List D->Option SV
 |[.int a,.int b]=>yF (decide (a<=b))
 |_=>none
noncomputable def VB:List D->Option SV
 |[.int a,.int b]=>yF (decide (b<a))
 |[.tup a,.tup b]=>(ints? a).bind fun x=>(ints? b).bind fun y=>yF (lexLt y x)
 |_=>none
noncomputable def zaF:List D->Option SV
 |[.int a,.int b]=>yF (decide (b<=a))
 |[.tup a,.tup b]=>(ints? a).bind fun x=>(ints? b).bind fun y=>yF (!lexLt x y)
 |_=>none
noncomputable def vg:D->Bool
 | .non=>true
 |_=>false
noncomputable def zaG:List D->Option SV
 |[d]=>yF (vg d)
 |_=>none
noncomputable def zaH:List D->Option SV
 |[d]=>yF (!vg d)
 |_=>none
noncomputable def QT:List D->Option SV
 |[x,.dct t ks _]=>if yQ t x then yF (yU ks x).isSome else none
 |[x,.tup l]=>if zS 8 x&&l.all (zS 8) then yF (l.any fun y=>zV y x) else none
 |[x,.lst l]=>if zS 8 x&&l.all (zS 8) then yF (l.any fun y=>zV y x) else none
 |_=>none
noncomputable def vG:List D->Option SV
 |[x,.dct t ks _]=>if yQ t x then yF (!(yU ks x).isSome) else none
 |[x,.tup l]=>if zS 8 x&&l.all (zS 8) then yF (!l.any fun y=>zV y x) else none
 |[x,.lst l]=>if zS 8 x&&l.all (zS 8) then yF (!l.any fun y=>zV y x) else none
 |_=>none
noncomputable def jt:List D->Option SV
 |[.dct t ks vs,k]=>if yQ t k then (dget ks vs k).map .val else none
 |[.tup l,.int i]=>(atI l i).map .val
 |[.lst l,.int i]=>(atI l i).map .val
 |_=>none
noncomputable def QU:List D->Option SV
 |[.tup l]=>yg l.length
 |[.lst l]=>yg l.length
 |_=>none
noncomputable def QV:List D->Option SV
 |[.int i]=>yg (if i<0 then -i else i)
 |_=>none
noncomputable def QW:List D->Option SV
 |[.int i,.int j]=>yg (if j<i then j else i)
 |_=>none
noncomputable def QX:List D->Option SV
 |[.int i,.int j]=>yg (if j>i then j else i)
 |_=>none
noncomputable def Ze(l:List D):Option SV:=match ints? l with
 |some ns=>if ns.length<64 then some (.obj true (.lst ((vF ns).map .int))) else none
 |none=>(tups? l).bind fun ks=>if ks.length<64/\ks.Nodup/\ks.all (fun k=> !k.isEmpty)=true then some (.obj true (.lst ((wB ks).map fun k=>.tup (k.map .int)))) else none
noncomputable def VC:List D->Option SV
 |[.lst l]=>Ze l
 |_=>none
noncomputable def Yt(l:List D):Option SV:=(tups? l).bind fun ks=>if ks.length<64/\ks.Nodup/\ks.all (fun k=> !k.isEmpty)=true then some (.obj true (.lst ((wB ks).map fun k=>.tup (k.map .int)))) else none
noncomputable def Yu:List D->Option SV
 |[.dct true ks _]=>Yt ks
 |_=>none
noncomputable def zhX:List D->Option SV
 |[.tup l,.int k]=>if 0<=k/\k<l.length then some (.val (.tup (l.take k.toNat))) else none
 |_=>none
noncomputable def zhY:List D->Option SV
 |[.tup l,.int k]=>if 0<k/\0<l.length then some (.val (.tup (l.drop k.toNat))) else none
 |_=>none
noncomputable def Yv:List D->Option SV
 |[.tup a,.tup b]=>if a.length+b.length<=10000000 then some (.val (.tup (a++b))) else none
 |_=>none
noncomputable def zhZ:List D->Option SV
 |[.tup l,.int k]=>if k=2/\l.length<=1000/\l≠[] then some (.val (.tup (l++l))) else none
 |_=>none
noncomputable def zh0:List D->Option SV
 |[.lst l,.int k]=>if (k=0\/k=1)/\l.length<=1000/\l≠[] then some (.obj true (.lst (if k=1 then l else []))) else none
 |_=>none
noncomputable def zh1:List D->Option SV
 |[.str a,.str b]=>if a.length+b.length<=10000000 then some (.val (.str (a++b))) else none
 |_=>none
noncomputable def strs? :List D->Option (List Str)
 |[]=>some []
 | .str x::r=>(strs? r).map (x:: ·)
 |_=>none
noncomputable def zh2(ys:List Str):Str:=⟨(ys.flatMap fun y=>y.cps.toList).toArray⟩
noncomputable def zh3:List D->Option SV
 |[.lst l]=>(strs? l).bind fun ys=>if (ys.map (·.length)).sum<=10000000 then some (.val (.str (zh2 ys))) else none
 |_=>none
noncomputable def QY(c:Nat):List Nat->List (List Nat)
 |[]=>[[]]
 |a::r=>if a=c then []::QY c r else match QY c r with
  |p::ps=>(a::p)::ps
  |[]=>[[a]]
noncomputable def zh4(x:Str):List Str:=(QY 10 x.cps.toList).map fun l=>⟨l.toArray⟩
noncomputable def zh5:List D->Option SV
 |[.str x]=>if x.length<=10000000 then some (.obj true (.lst ((zh4 x).map D.str))) else none
 |_=>none
noncomputable def zh6(x:Str):List D:=x.cps.toList.map fun c=>D.str ⟨#[c]⟩
noncomputable def zaI:List D->Option SV
 |[.str a,.str b]=>some (.val (.bl (decide (a=b))))
 |_=>none
noncomputable def zaJ:List D->Option SV
 |[.str a,.str b]=>some (.val (.bl (!decide (a=b))))
 |_=>none
noncomputable def QZ:List D->Option SV
 |[.tup l]=>some (SV.obj true (.lst l))
 |[.lst l]=>some (SV.obj true (.lst l))
 |_=>none
noncomputable def ka:List D->Option SV
 |[.tup l]=>some (.val (.tup l))
 |[.lst l]=>some (.val (.tup l))
 |_=>none
noncomputable def VD:List D->Option SV
 |[.lst l]=>(bools? l).bind fun bs=>yF (bs.all id)
 |_=>none
noncomputable def zaK(t:Ty):List D->Option SV
 |[d]=>yF (wA t d)
 |_=>none
noncomputable def VE:List D->Option SV
 |[.lst l,.int k]=>if 0<=k then some (SV.obj true (.lst (l.take k.toNat))) else none
 |_=>none
noncomputable def zh7:List D->Option SV
 |[.lst l]=>(ints? l).bind fun ns=>match ns with
  |[]=>none
  |n::r=>yg (r.foldl max n)
 |_=>none
noncomputable def zh8:List D->Option SV
 |[.lst l]=>(ints? l).bind fun ns=>match ns with
  |[]=>none
  |n::r=>yg (r.foldl min n)
 |_=>none
noncomputable def VF:List D->Option SV
 |[.lst l]=>(ints? l).bind fun ns=>yg ns.sum
 |[.tup l]=>(ints? l).bind fun ns=>yg ns.sum
 |_=>none
noncomputable def zh9:List D->Option SV
 |[.int i]=>yg i
 |[.bl b]=>yg (if b then 1 else 0)
 |_=>none
noncomputable def prs? :List D->Option (List (List Int))
 |[]=>some []
 | .tup [.tup [.int a,.int b],.tup [.int c,.int d]]::r=>(prs? r).map ([a,b,c,d]:: ·)
 |_::_=>none
noncomputable def zia:List Int->D
 |[a,b,c,d]=>.tup [.tup [.int a,.int b],.tup [.int c,.int d]]
 |_=>.non
noncomputable def zib:List D->Option SV
 |[.lst l]=>(prs? l).bind fun ks=>if ks.length<64/\ks.Nodup then some (.obj true (.lst ((wB ks).map zia))) else none
 |_=>none
noncomputable def zic:D->Option (Int×Int)
 | .tup [.int a,.int b]=>if 0<=a/\a<=7/\0<=b/\b<=7 then some (a,b) else none
 |_=>none
noncomputable def kb:List D->Option (List (Int×Int))
 |[]=>some []
 |d::r=>(zic d).bind fun c=>(kb r).map (c:: ·)
noncomputable def Yw{α:Type}[DecidableEq α]:List α->List α
 |[]=>[]
 |c::r=>if c∈r then Yw r else c::Yw r
noncomputable def zaL:List D->Option (List Int)
 |[]=>some []
 | .int i::r=>(zaL r).map (i:: ·)
 |_::_=>none
noncomputable def zid:List D->Option SV
 |[.lst ds]=>match kb ds with
  |some cs=>some (.val (.int (Yw cs).length))
  |none=>(zaL ds).bind fun is=>if is.length<=1000 then some (.val (.int (Yw is).length)) else none
 |_=>none
noncomputable def zie:List D->Option SV
 |[.lst ds]=>(kb ds).map fun cs=>.obj true (.lst ((wB ((Yw cs).map fun c=>[c.1,c.2])).map fun k=>.tup (k.map .int)))
 |_=>none
noncomputable def wO(n:Nat):Nat:=if n=0 then 0 else n.log2+1
noncomputable def Yx:List D->Option SV
 |[.int a,.int n]=>if 0<=a/\a<1048576/\0<=n/\n<64 then yg (a*2 ^ n.toNat) else none
 |_=>none
noncomputable def zif:List D->Option SV
 |[.int a,.int n]=>if 0<=a/\0<=n/\n<64 then yg ((a.toNat>>>n.toNat:Nat):Int) else none
 |_=>none
noncomputable def Yy:List D->Option SV
 |[.int a,.int b]=>if 0<=a/\0<=b then yg ((a.toNat&&& b.toNat:Nat):Int) else none
 |_=>none
noncomputable def Yz:List D->Option SV
 |[.int a,.int b]=>if 0<=a/\0<=b then yg ((a.toNat|||b.toNat:Nat):Int) else none
 |_=>none
noncomputable def YA:List D->Option SV
 |[.int a,.int b]=>if 0<=a/\0<=b then yg ((a.toNat ^^^ b.toNat:Nat):Int) else none
 |_=>none
noncomputable def YB:List D->Option SV
 |[.int a]=>if 0<=a then yg (wO a.toNat:Nat) else none
 |_=>none
noncomputable def YC:List D->Option SV
 |[.dct false ks vs,.int k,.int i]=>match dget ks vs (.int k) with
  |some (.int v)=>yg v
  |none=>yg i
  |_=>none
 |_=>none
noncomputable def zh:Prim->List D->Option SV
 | .add=>Vx| .sub=>QR| .mul=>Yo| .fdiv=>Vy| .mod=>Vz| .neg=>QS| .eq=>Yp| .ne=>Yq| .lt=>Yr| .le=>VA| .gt=>VB| .ge=>zaF
 | .isN=>zaG| .notN=>zaH| .inn=>QT| .nin=>vG| .idx=>jt| .len=>QU| .abs=>QV| .min2=>QW| .max2=>QX
 | .sorted=>VC| .sortP=>zib| .skeys=>Yu| .nset=>zid| .sset=>zie| .shl=>Yx| .shr=>zif| .band=>Yy| .bor=>Yz| .bxor=>YA| .blen=>YB| .dget=>YC| .cutT=>zhX| .cutF=>zhY| .addT=>Yv| .mulT=>zhZ| .mulL=>zh0| .addS=>zh1| .join0=>zh3| .splitN=>zh5| .eqS=>zaI| .neS=>zaJ| .toList=>QZ| .toTup=>ka| .all=>VD| .inst t=>zaK t| .cutTo=>VE| .maxL=>zh7| .minL=>zh8| .sumL=>VF| .intOf=>zh9
noncomputable def yB:SV->Option Bool
 | .val (.bl b)=>some b
 | .val (.int i)=>some (i != 0)
 | .val .non=>some false
 | .val (.tup l)=>some (!l.isEmpty)
 | .val (.lst l)=>some (!l.isEmpty)
 | .obj _ (.lst l)=>some (!l.isEmpty)
 |_=>none
noncomputable def look(ρ:Env)(i:Nat):Option SV:=match ρ[i]? with
 |some (some (.val d))=>some (.val d)
 |some (some (.obj _ d))=>some (.obj false d)
 |some (some (.io d))=>some (.obj false d)
 |_=>none
noncomputable def free(ρ:Env)(i:Nat):Bool:=match ρ[i]? with
 |some (some (.io _))=>false
 |_=>true
noncomputable def SV.cell:SV->Option D
 | .obj true d=>some d
 | .io d=>some d
 |_=>none
noncomputable def SV.put:SV->D->SV
 | .io _,d=>.io d
 |_,d=>.obj true d
noncomputable def vh(j:Int):Prop:= -(2 ^ 62)<=j/\j<2 ^ 62
noncomputable instance (j:Int):Decidable (vh j):=by unfold vh;exact inferInstance
noncomputable def yl:Bool->List SV->Option (List D)
 |false,[r]=>yW (zN r)
 |false,[.val (.lst l),.val .non]=>some l.reverse
 |true,[.val (.int n)]=>if vh n then some ((List.range n.toNat).map fun (k:Nat)=>D.int (0+(k:Int))) else none
 |true,[.val (.int a),.val (.int b)]=>if vh a/\vh b then some ((List.range (b-a).toNat).map fun (k:Nat)=>D.int (a+(k:Int))) else none
 |_,_=>none
noncomputable def xg(test:D->Option Bool)(elt:D->Option SV):List D->Option (List D)
 |[]=>some []
 |d::r=>(test d).bind fun b=>match b with
  |true=>(elt d).bind fun x=>(toD x).bind fun y=>(xg test elt r).map (y:: ·)
  |false=>xg test elt r
noncomputable def vi{α:Type}(p:D)(f:D->D->Option α):Option α:=match p with
 | .tup [a,b]=>f a b
 |_=>none
noncomputable def YD:SV->Option (List D)
 | .val (.tup l)=>some l
 |_=>none
noncomputable def xn:Nat->List D->List D
 |_,[]=>[]
 |k,d::r=>.tup [.int k,d]::xn (k+1) r
noncomputable def wr(rs:List SV)(r:Option SV):Option SV:=r.bind fun x=>if rs.any SV.lent&& !x.plain then none else some x
noncomputable def xL:List SV->Option (List D)
 |[]=>some []
 |r::rs=>(toD r).bind fun d=>(xL rs).map (d:: ·)
mutual
noncomputable def zm(fn:Nat->List D->Option SV):E->Env->Option SV
 | .int i,_=>some (.val (.int i))
 | .bl b,_=>some (.val (.bl b))
 | .non,_=>some (.val .non)
 | .str x,_=>some (.val (.str x))
 | .var i,ρ=>look ρ i
 | .prim p es,ρ=>(yd fn es ρ).bind fun rs=>zh p (rs.map zN)
 | .tup es,ρ=>(yd fn es ρ).bind fun rs=>(xL rs).map fun ds=>.val (.tup ds)
 | .lst es,ρ=>(yd fn es ρ).bind fun rs=>(xL rs).map fun ds=>SV.obj true (.lst ds)
 | .and a b,ρ=>(zm fn a ρ).bind fun r=>match r with
  | .val (.bl true)=>zm fn b ρ
  | .val (.bl false)=>some (.val (.bl false))
  |_=>none
 | .or a b,ρ=>(zm fn a ρ).bind fun r=>match r with
  | .val (.bl true)=>some (.val (.bl true))
  | .val (.bl false)=>zm fn b ρ
  |_=>none
 | .not a,ρ=>(zm fn a ρ).bind fun r=>match r with
  | .val (.bl b)=>some (.val (.bl (!b)))
  |_=>none
 | .chain p q a b c,ρ=>(zm fn a ρ).bind fun x=>(zm fn b ρ).bind fun y=>(zh p [zN x,zN y]).bind fun z=>match z with
  | .val (.bl true)=>(zm fn c ρ).bind fun w=>zh q [zN y,zN w]
  | .val (.bl false)=>some (.val (.bl false))
  |_=>none
 | .ite c a b,ρ=>(zF fn c ρ).bind fun k=>if k then zm fn a ρ else zm fn b ρ
 | .call f es,ρ=>(yd fn es ρ).bind fun rs=>wr rs (fn f (rs.map zN))
 | .dnew t,_=>some (.obj true (.dct t [] []))
 | .done t k v,ρ=>(zm fn k ρ).bind fun x=>(zm fn v ρ).bind fun y=>(toD x).bind fun a=>(toD y).bind fun b=>if yQ t a then some (.obj true (.dct t [a] [b])) else none
 | .comp rng src cond elt,ρ=>(yd fn src ρ).bind fun rs=>(yl rng rs).bind fun ds=>
  if ds.length<=line then (xg (fun d=>zF fn cond (some (.val d)::ρ)) (fun d=>zm fn elt (some (.val d)::ρ)) ds).map fun l=>SV.obj true (.lst l) else none
 | .compE src cond elt,ρ=>(zm fn src ρ).bind fun r=>(YD r).bind fun ds=>
  if ds.length<=line then (xg (fun p=>vi p fun a b=>zF fn cond (some (.val a)::some (.val b)::ρ)) (fun p=>vi p fun a b=>zm fn elt (some (.val a)::some (.val b)::ρ)) (xn 0 ds)).map fun l=>SV.obj true (.lst l) else none
noncomputable def yd(fn:Nat->List D->Option SV):Es->Env->Option (List SV)
 | .nil,_=>some []
 | .cons e es,ρ=>(zm fn e ρ).bind fun r=>(yd fn es ρ).map (r:: ·)
noncomputable def zF(fn:Nat->List D->Option SV):E->Env->Option Bool
 | .and a b,ρ=>(zF fn a ρ).bind fun k=>if k then zF fn b ρ else some false
 | .or a b,ρ=>(zF fn a ρ).bind fun k=>if k then some true else zF fn b ρ
 | .not a,ρ=>(zF fn a ρ).map (!·)
 | .int i,_=>some (i != 0)
 | .bl b,_=>some b
 | .non,_=>some false
 | .str _,_=>none
 | .var i,ρ=>(look ρ i).bind yB
 | .prim p es,ρ=>(yd fn es ρ).bind fun rs=>(zh p (rs.map zN)).bind yB
 | .tup _,_=>none
 | .lst _,_=>none
 | .chain p q a b c,ρ=>(zm fn a ρ).bind fun x=>(zm fn b ρ).bind fun y=>(zh p [zN x,zN y]).bind fun z=>match z with
  | .val (.bl true)=>(zm fn c ρ).bind fun w=>(zh q [zN y,zN w]).bind yB
  | .val (.bl false)=>some false
  |_=>none
 | .ite _ _ _,_=>none
 | .call f es,ρ=>(yd fn es ρ).bind fun rs=>(wr rs (fn f (rs.map zN))).bind yB
 | .comp rng src cond elt,ρ=>(yd fn src ρ).bind fun rs=>(yl rng rs).bind fun ds=>
  if ds.length<=line then (xg (fun d=>zF fn cond (some (.val d)::ρ)) (fun d=>zm fn elt (some (.val d)::ρ)) ds).map fun l=> !l.isEmpty else none
 | .dnew _,_=>none
 | .done _ _ _,_=>none
 | .compE _ _ _,_=>none
end
inductive Ans where
 |ok (r:SV) (outs:List D)
 |ex (c:Nat)
noncomputable def zP(fa:Nat->List D->Option Ans)(f:Nat)(ds:List D):Option SV:=match fa f ds with
 |some (.ok r [])=>some r
 |_=>none
set_option genInjectivity false
inductive MA where
 |nil|e (c:E) (r:MA)|s (i:Nat) (r:MA)|n (t:Bool) (r:MA)
inductive AV where
 |e (d:D)|l (ds:List D)|s (i:Nat) (d:D)|n (t:Bool)
inductive M where
 |call (f:Nat) (ma:MA)
 |op (p:Prim) (a:E) (m:M)
set_option genInjectivity true
noncomputable def Zf:D->Bool
 | .dct _ _ vs=>xa vs
 |_=>false
noncomputable def SV.fine:SV->Bool
 | .val d=>LW.plain d
 | .obj true d=>wg d
 |_=>false
noncomputable def wP:SV->Option AV
 | .val (.lst ds)=>if xa ds then some (.l ds) else none
 | .val d=>if plain d then some (.e d) else none
 | .obj _ (.lst ds)=>if xa ds then some (.l ds) else none
 |_=>none
noncomputable def Zg(ρ:Env)(i:Nat):Option D:=match ρ[i]? with
 |some (some x)=>x.cell
 |_=>none
noncomputable def wC(fn:Nat->List D->Option SV):MA->Env->Option (List AV)
 | .nil,_=>some []
 | .e c r,ρ=>(zm fn c ρ).bind fun x=>(wP x).bind fun a=>(wC fn r ρ).map (a:: ·)
 | .s i r,ρ=>(Zg ρ i).bind fun d=>if Zf d then (wC fn r ρ).map (.s i d:: ·) else none
 | .n t r,ρ=>(wC fn r ρ).map (.n t:: ·)
noncomputable def Zh:AV->D
 | .e d=>d
 | .l ds=>.lst ds
 | .s _ d=>d
 | .n t=>.dct t [] []
noncomputable def VG(ρ:Env)(i:Nat)(d:D):Env:=match ρ[i]? with
 |some (some x)=>ρ.set i (some (x.put d))
 |_=>ρ
noncomputable def xR(ρ:Env):List AV->List D->Option Env
 |[],[]=>some ρ
 | .s i _::r,d::ds=>xR (VG ρ i d) r ds
 | .n _::r,_::ds=>xR ρ r ds
 | .e _::r,ds=>xR ρ r ds
 | .l _::r,ds=>xR ρ r ds
 |_,_=>none
noncomputable def vj(fa:Nat->List D->Option Ans):M->Env->Option (SV×Env)
 | .call f ma,ρ=>(wC (zP fa) ma ρ).bind fun xs=>(fa f (xs.map Zh)).bind fun a=>match a with
  | .ok r outs=>if r.fine&&outs.all wg then (xR ρ xs outs).map fun ρ'=>(r,ρ') else none
  | .ex _=>none
 | .op p a m,ρ=>(zm (zP fa) a ρ).bind fun x=>match x with
  | .val d=>if plain d then (vj fa m ρ).bind fun y=>(zh p [d,zN y.1]).map fun z=>(z,y.2) else none
  |_=>none
set_option genInjectivity false
mutual
inductive S where
 |expr (e:E)|asg (i:Nat) (e:E)|mov (i j:Nat)|app (i:Nat) (e:E)|dset (i:Nat) (k v:E)|dupd (i j:Nat)|unp3 (i j k:Nat) (e:E)|exprM (m:M)|asgM (i:Nat) (m:M)|ifO (c:E) (m:M) (a b:Ss)|ret (e:E)|retV (i:Nat)|retN
 |ifs (c:E) (a b:Ss)|for_ (i:Nat) (rng:Bool) (src:Es) (body:Ss)|forV (i j:Nat) (body:Ss)|forK (i j:Nat) (body:Ss)|forU (i j:Nat) (rng:Bool) (src:Es) (body:Ss)|forE (i j:Nat) (src:E) (body:Ss)|while_ (c:E) (body:Ss)|frz (js:List Nat) (s:S)|brk|cnt|pass|stop
inductive Ss where
 |nil|cons (s:S) (ss:Ss)
end
set_option genInjectivity true
inductive Fl where
 |nx|br|ct|rt (r:SV)
noncomputable def ym(i:Nat)(body:Env->Option (Fl×Env)):List D->Env->Option (Fl×Env)
 |[],ρ=>some (.nx,ρ)
 |d::r,ρ=>(body (ρ.set i (some (.val d)))).bind fun x=>match x.1 with
  | .nx=>ym i body r x.2
  | .ct=>ym i body r x.2
  | .br=>some (.nx,x.2)
  | .rt v=>some (.rt v,x.2)
noncomputable def YF:D->Bool
 | .tup [.int a,.int b]=>decide (0<=a/\a<=7/\0<=b/\b<=7)
 |_=>false
noncomputable def wQ(ks vs:List D):List D->List D->List D×List D
 |k::ks2,v::vs2=>match xK true ks vs k v with
  | .dct _ a b=>wQ a b ks2 vs2
  |_=>(ks,vs)
 |_,_=>(ks,vs)
noncomputable def VH(ρ:Env)(i:Nat)(x:SV):Option D->Option D->Option (Fl×Env)
 |some (.dct true ks vs),some (.dct true ks2 vs2)=>if ks2.all YF&&decide (ks.length+ks2.length<line) then some (.nx,ρ.set i (some (x.put (.dct true (wQ ks vs ks2 vs2).1 (wQ ks vs ks2 vs2).2)))) else none
 |_,_=>none
noncomputable def YG(ρ:Env)(i j:Nat):Option (Fl×Env):=if i=j then none else match ρ[i]? with
 |some (some x)=>VH ρ i x x.cell (Zg ρ j)
 |_=>none
noncomputable def zaM(ρ:Env)(i j k:Nat):SV->Option (Fl×Env)
 | .obj true (.lst [a,b,c])=>if free ρ i&&free ρ j&&free ρ k then some (.nx,((ρ.set i (some (.val a))).set j (some (.val b))).set k (some (.val c))) else none
 |_=>none
noncomputable def zig:SV->Option (List D)
 | .obj true (.lst l)=>some (xn 0 l)
 | .val (.str x)=>some (xn 0 (zh6 x))
 |_=>none
noncomputable def VI(i j:Nat)(body:Env->Option (Fl×Env)):List D->Env->Option (Fl×Env)
 |[],ρ=>some (.nx,ρ)
 | .tup [a,b]::r,ρ=>(body ((ρ.set i (some (.val a))).set j (some (.val b)))).bind fun x=>match x.1 with
  | .nx=>VI i j body r x.2
  | .ct=>VI i j body r x.2
  | .br=>some (.nx,x.2)
  | .rt v=>some (.rt v,x.2)
 |_,_=>none
noncomputable def xS(test:Env->Option Bool)(body:Env->Option (Fl×Env)):Nat->Env->Option (Fl×Env)
 |0,_=>none
 |n+1,ρ=>(test ρ).bind fun b=>if b then (body ρ).bind fun x=>(match x.1 with
  | .nx=>xS test body n x.2
  | .ct=>xS test body n x.2
  | .br=>some (.nx,x.2)
  | .rt v=>some (.rt v,x.2)) else some (.nx,ρ)
noncomputable def Zi(ρ:Env)(j:Nat):Option (List D×Env):=match ρ[j]? with
 |some (some (.val d))=>(yW d).map fun l=>(l,ρ)
 |some (some (.obj _ (.lst ds)))=>some (ds,ρ.set j (some (.val (.lst ds))))
 |_=>none
noncomputable def YH(ρ:Env)(j:Nat):Option (List D):=match ρ[j]? with
 |some (some (.val (.dct false ks _)))=>some ks
 |_=>none
noncomputable def VJ:Fl×Env->Option (Fl×Env)
 |(.nx,ρ)=>some (.nx,ρ)
 |_=>none
noncomputable def vT(ρ:Env)(j:Nat):Env:=match ρ[j]? with
 |some (some (.obj true d))=>ρ.set j (some (.val d))
 |_=>ρ
mutual
noncomputable def zL(fa:Nat->List D->Option Ans)(fuel:Nat):S->Env->Option (Fl×Env)
 | .expr e,ρ=>(zm (zP fa) e ρ).map fun _=>(.nx,ρ)
 | .asg i e,ρ=>(zm (zP fa) e ρ).bind fun r=>if r.lent|| !free ρ i then none else some (.nx,ρ.set i (some r))
 | .mov i j,ρ=>if free ρ i then (match ρ[j]? with
  |some (some (.val d))=>some (.nx,ρ.set i (some (.val d)))
  |some (some (.obj _ d))=>some (.nx,(ρ.set j (some (.val d))).set i (some (.val d)))
  |_=>none) else none
 | .app i e,ρ=>match ρ[i]? with
  |some (some x)=>(match x.cell with
   |some (.lst ds)=>(zm (zP fa) e ρ).bind fun r=>(toD r).bind fun d=>if ds.length<line then some (.nx,ρ.set i (some (x.put (.lst (ds++[d]))))) else none
   |_=>none)
  |_=>none
 | .dupd i j,ρ=>YG ρ i j
 | .unp3 i j k e,ρ=>(zm (zP fa) e ρ).bind (zaM ρ i j k)
 | .dset i k v,ρ=>match ρ[i]? with
  |some (some x)=>(match x.cell with
   |some (.dct t ks vs)=>(zm (zP fa) v ρ).bind fun r=>(toD r).bind fun d=>(zm (zP fa) k ρ).bind fun r=>(toD r).bind fun a=>if yQ t a&&decide (ks.length<line) then some (.nx,ρ.set i (some (x.put (xK t ks vs a d)))) else none
   |_=>none)
  |_=>none
 | .exprM m,ρ=>(vj fa m ρ).map fun x=>(.nx,x.2)
 | .asgM i m,ρ=>(vj fa m ρ).bind fun x=>if x.1.lent|| !free x.2 i then none else some (.nx,x.2.set i (some (.val (zN x.1))))
 | .ifO c m a b,ρ=>(zF (zP fa) c ρ).bind fun k=>if k then zr fa fuel a ρ else (vj fa m ρ).bind fun x=>(yB x.1).bind fun k=>if k then zr fa fuel a x.2 else zr fa fuel b x.2
 | .ret e,ρ=>(zm (zP fa) e ρ).bind fun r=>if r.lent then none else some (.rt r,ρ)
 | .retV i,ρ=>match ρ[i]? with
  |some (some (.val d))=>some (.rt (.val d),ρ)
  |some (some (.obj _ d))=>some (.rt (.obj true d),ρ.set i none)
  |_=>none
 | .retN,ρ=>some (.rt (.val .non),ρ)
 | .ifs c a b,ρ=>(zF (zP fa) c ρ).bind fun k=>if k then zr fa fuel a ρ else zr fa fuel b ρ
 | .for_ i rng src body,ρ=>(yd (zP fa) src ρ).bind fun rs=>if rs.any SV.lent|| !free ρ i then none else (yl rng rs).bind fun ds=>ym i (zr fa fuel body) ds ρ
 | .forV i j body,ρ=>if free ρ i then (Zi ρ j).bind fun x=>ym i (zr fa fuel body) x.1 x.2 else none
 | .forK i j body,ρ=>if free ρ i then (YH ρ j).bind fun ks=>(ym i (zr fa fuel body) ks ρ).bind VJ else none
 | .forU i j rng src body,ρ=>(yd (zP fa) src ρ).bind fun rs=>if rs.any SV.lent|| !free ρ i|| !free ρ j then none else (yl rng rs).bind fun ds=>VI i j (zr fa fuel body) ds ρ
 | .forE i j src body,ρ=>(zm (zP fa) src ρ).bind fun r=>if !free ρ i|| !free ρ j then none else (zig r).bind fun ds=>VI i j (zr fa fuel body) ds ρ
 | .while_ c body,ρ=>xS (zF (zP fa) c) (zr fa fuel body) fuel ρ
 | .frz js s,ρ=>zL fa fuel s (js.foldl vT ρ)
 | .brk,ρ=>some (.br,ρ)
 | .cnt,ρ=>some (.ct,ρ)
 | .pass,ρ=>some (.nx,ρ)
 | .stop,_=>none
noncomputable def zr(fa:Nat->List D->Option Ans)(fuel:Nat):Ss->Env->Option (Fl×Env)
 | .nil,ρ=>some (.nx,ρ)
 | .cons s ss,ρ=>(zL fa fuel s ρ).bind fun x=>match x.1 with
  | .nx=>zr fa fuel ss x.2
  |_=>some x
end
inductive Hd where
 |ret (ks:List Nat)|two (i n:Nat) (ks ks2:List Nat)|kin (ks:List Nat)
mutual
inductive T where
 |pl (s:S)|raise (c:Nat)|raiseF (c k:Nat)|callX (i:Nat) (es:Es)|retX (i:Nat) (es:Es)|asgX (k i:Nat) (es:Es)|ifX (neg:Bool) (i:Nat) (es:Es) (a b:Ts)|ifs (c:E) (a b:Ts)|tryX (b:Ts) (k:Nat) (cs:List Nat) (h:Hd)|stuck
inductive Ts where
 |nil|cons (t:T) (ts:Ts)
end
inductive FlX where
 |fl (f:Fl)|ex (c:Nat)
noncomputable def zih(c k:Nat):Bool:=k==c||k==0||k==7
noncomputable def vk(fa:Nat->List D->Option Ans)(i:Nat)(es:Es)(ρ:Env):Option Ans:=(yd (zP fa) es ρ).bind fun rs=>if rs.any SV.lent then none else fa i (rs.map zN)
noncomputable def zii:Option SV->Bool
 |some (.io _)=>false
 |_=>true
noncomputable def kc(c:Nat)(ρ:Env):Hd->Option (FlX×Env)
 | .ret ks=>if ks.all (zih c) then some (.fl (.rt (.obj true (.lst (ks.map fun _=>.bl true)))),ρ) else none
 | .two i n ks ks2=>if ρ.all zii then some (.fl .nx,(List.replicate n none).set i (some (.obj true (.lst ((ks++ks2).map fun x=>.bl (x==c)))))) else none
 | .kin ks=>some (.fl (.rt (.obj true (.lst (ks.map fun x=>.bl (x==7||x==c))))),ρ)
mutual
noncomputable def xx(fa:Nat->List D->Option Ans)(fuel:Nat):T->Env->Option (FlX×Env)
 | .pl s,ρ=>(zL fa fuel s ρ).map fun x=>(.fl x.1,x.2)
 | .raise c,ρ=>some (.ex c,ρ)
 | .raiseF c k,ρ=>match look ρ k with
  |some (.val (.int i))=>if 0<=i/\i<1000 then some (.ex c,ρ) else none
  |_=>none
 | .callX i es,ρ=>(vk fa i es ρ).bind fun a=>match a with
  | .ok _ []=>some (.fl .nx,ρ)
  | .ex c=>some (.ex c,ρ)
  |_=>none
 | .retX i es,ρ=>(vk fa i es ρ).bind fun a=>match a with
  | .ok r []=>if r.lent then none else some (.fl (.rt r),ρ)
  | .ex c=>some (.ex c,ρ)
  |_=>none
 | .asgX k i es,ρ=>(vk fa i es ρ).bind fun a=>match a with
  | .ok r []=>if r.lent|| !free ρ k then none else some (.fl .nx,ρ.set k (some r))
  | .ex c=>some (.ex c,ρ)
  |_=>none
 | .ifX neg i es a b,ρ=>(vk fa i es ρ).bind fun x=>match x with
  | .ok (.val (.bl k)) []=>if k != neg then xM fa fuel a ρ else xM fa fuel b ρ
  | .ex c=>some (.ex c,ρ)
  |_=>none
 | .ifs c a b,ρ=>(zF (zP fa) c ρ).bind fun k=>if k then xM fa fuel a ρ else xM fa fuel b ρ
 | .tryX b k cs h,ρ=>(xM fa fuel b ρ).bind fun x=>match x.1 with
  | .fl _=>some x
  | .ex c=>if cs.contains c then kc c x.2 h else none
 | .stuck,_=>none
noncomputable def xM(fa:Nat->List D->Option Ans)(fuel:Nat):Ts->Env->Option (FlX×Env)
 | .nil,ρ=>some (.fl .nx,ρ)
 | .cons t ts,ρ=>(xx fa fuel t ρ).bind fun x=>match x.1 with
  | .fl .nx=>xM fa fuel ts x.2
  |_=>some x
end
structure Fn where
 np:Nat
 nl:Nat
 body:Ss
 io:List Nat:=[]
 xb:Option Ts:=none
noncomputable def VL:Option (FlX×Env)->Option Ans
 |some (.fl (.rt r),_)=>some (.ok r [])
 |some (.fl .nx,_)=>some (.ok (.val .non) [])
 |some (.ex c,_)=>some (.ex c)
 |_=>none
noncomputable def wt(ρ:Env):List Nat->Option (List D)
 |[]=>some []
 |i::r=>match ρ[i]? with
  |some (some (.io d))=>(wt ρ r).map (d:: ·)
  |_=>none
noncomputable def ju(io:List Nat):Option (Fl×Env)->Option Ans
 |some (.rt r,ρ)=>(wt ρ io).map (Ans.ok r)
 |some (.nx,ρ)=>(wt ρ io).map (Ans.ok (.val .non))
 |_=>none
noncomputable def wj(io:List Nat):Nat->List D->Env
 |_,[]=>[]
 |k,d::r=>some (if io.contains k then .io d else .val d)::wj io (k+1) r
noncomputable def zq(P:Nat->Option Fn)(fuel:Nat):Nat->Nat->List D->Option Ans
 |0,_,_=>none
 |n+1,f,ds=>(P f).bind fun F=>if ds.length=F.np then (match F.xb with
  |none=>ju F.io (zr (zq P fuel n) fuel F.body (wj F.io 0 ds++List.replicate (F.nl-F.np) none))
  |some t=>VL (xM (zq P fuel n) fuel t (wj [] 0 ds++List.replicate (F.nl-F.np) none))) else none
noncomputable def zG(P:Nat->Option Fn)(fuel n:Nat):Nat->List D->Option SV:=zP (zq P fuel n)
theorem zaN{fn i ρ}:zm fn (E.int i) ρ=(some (.val (.int i))):=id rfl
theorem zij{fn b ρ}:zm fn (E.bl b) ρ=(some (.val (.bl b))):=id rfl
theorem zik{fn ρ}:zm fn (E.non) ρ=(some (.val .non)):=id rfl
theorem zil{fn i ρ}:zm fn (E.var i) ρ=(look ρ i):=id rfl
theorem wD{fn p es ρ}:zm fn (E.prim p es) ρ=((yd fn es ρ).bind fun rs=>zh p (rs.map zN)):=id rfl
theorem zim{fn es ρ}:zm fn (E.tup es) ρ=((yd fn es ρ).bind fun rs=>(xL rs).map fun ds=>.val (.tup ds)):=id rfl
theorem zin{fn es ρ}:zm fn (E.lst es) ρ=((yd fn es ρ).bind fun rs=>(xL rs).map fun ds=>SV.obj true (.lst ds)):=id rfl
theorem zio{fn a b ρ}:zm fn (E.and a b) ρ=((zm fn a ρ).bind fun r=>match r with
  | .val (.bl true)=>zm fn b ρ
  | .val (.bl false)=>some (.val (.bl false))
  |_=>none):=id rfl
theorem ziq{fn p q a b c ρ}:zm fn (E.chain p q a b c) ρ=((zm fn a ρ).bind fun x=>(zm fn b ρ).bind fun y=>(zh p [zN x,zN y]).bind fun z=>match z with
  | .val (.bl true)=>(zm fn c ρ).bind fun w=>zh q [zN y,zN w]
  | .val (.bl false)=>some (.val (.bl false))
  |_=>none):=id rfl
theorem zir{fn c a b ρ}:zm fn (E.ite c a b) ρ=((zF fn c ρ).bind fun k=>if k then zm fn a ρ else zm fn b ρ):=id rfl
theorem zaO{fn f es ρ}:zm fn (E.call f es) ρ=((yd fn es ρ).bind fun rs=>wr rs (fn f (rs.map zN))):=id rfl
theorem zaP{fn t ρ}:zm fn (E.dnew t) ρ=(some (.obj true (.dct t [] []))):=id rfl
theorem zis{fn t k v ρ}:zm fn (E.done t k v) ρ=((zm fn k ρ).bind fun x=>(zm fn v ρ).bind fun y=>(toD x).bind fun a=>(toD y).bind fun b=>if yQ t a then some (.obj true (.dct t [a] [b])) else none):=id rfl
theorem zit{fn src cond elt ρ}:zm fn (E.compE src cond elt) ρ=((zm fn src ρ).bind fun r=>(YD r).bind fun ds=>
  if ds.length<=line then (xg (fun p=>vi p fun a b=>zF fn cond (some (.val a)::some (.val b)::ρ)) (fun p=>vi p fun a b=>zm fn elt (some (.val a)::some (.val b)::ρ)) (xn 0 ds)).map fun l=>SV.obj true (.lst l) else none):=id rfl
theorem zaQ{fn rng src cond elt ρ}:zm fn (E.comp rng src cond elt) ρ=((yd fn src ρ).bind fun rs=>(yl rng rs).bind fun ds=>
  if ds.length<=line then (xg (fun d=>zF fn cond (some (.val d)::ρ)) (fun d=>zm fn elt (some (.val d)::ρ)) ds).map fun l=>SV.obj true (.lst l) else none):=id rfl
theorem xN{fn ρ}:yd fn (Es.nil) ρ=(some []):=id rfl
theorem xO{fn e es ρ}:yd fn (Es.cons e es) ρ=((zm fn e ρ).bind fun r=>(yd fn es ρ).map (r:: ·)):=id rfl
theorem ziu{fn a b ρ}:zF fn (E.and a b) ρ=((zF fn a ρ).bind fun k=>if k then zF fn b ρ else some false):=id rfl
theorem ziv{fn a b ρ}:zF fn (E.or a b) ρ=((zF fn a ρ).bind fun k=>if k then some true else zF fn b ρ):=id rfl
theorem ziw{fn a ρ}:zF fn (E.not a) ρ=((zF fn a ρ).map (!·)):=id rfl
theorem zix{fn b ρ}:zF fn (E.bl b) ρ=(some b):=id rfl
theorem VM{fn p es ρ}:zF fn (E.prim p es) ρ=((yd fn es ρ).bind fun rs=>(zh p (rs.map zN)).bind yB):=id rfl
theorem ziy{fn p q a b c ρ}:zF fn (E.chain p q a b c) ρ=((zm fn a ρ).bind fun x=>(zm fn b ρ).bind fun y=>(zh p [zN x,zN y]).bind fun z=>match z with
  | .val (.bl true)=>(zm fn c ρ).bind fun w=>(zh q [zN y,zN w]).bind yB
  | .val (.bl false)=>some false
  |_=>none):=id rfl
theorem ziz{fn f es ρ}:zF fn (E.call f es) ρ=((yd fn es ρ).bind fun rs=>(wr rs (fn f (rs.map zN))).bind yB):=id rfl
theorem ziA{fa fuel e ρ}:zL fa fuel (S.expr e) ρ=((zm (zP fa) e ρ).map fun _=>(.nx,ρ)):=id rfl
theorem zaR{fa fuel i e ρ}:zL fa fuel (S.asg i e) ρ=((zm (zP fa) e ρ).bind fun r=>if r.lent|| !free ρ i then none else some (.nx,ρ.set i (some r))):=id rfl
theorem zaS{fa fuel i j ρ}:zL fa fuel (S.mov i j) ρ=(if free ρ i then (match ρ[j]? with
  |some (some (.val d))=>some (.nx,ρ.set i (some (.val d)))
  |some (some (.obj _ d))=>some (.nx,(ρ.set j (some (.val d))).set i (some (.val d)))
  |_=>none) else none):=id rfl
theorem zaT{fa fuel i e ρ}:zL fa fuel (S.app i e) ρ=(match ρ[i]? with
  |some (some x)=>(match x.cell with
   |some (.lst ds)=>(zm (zP fa) e ρ).bind fun r=>(toD r).bind fun d=>if ds.length<line then some (.nx,ρ.set i (some (x.put (.lst (ds++[d]))))) else none
   |_=>none)
  |_=>none):=id rfl
theorem ziB{fa fuel i j ρ}:zL fa fuel (S.dupd i j) ρ=(YG ρ i j):=id rfl
theorem zaU{fa fuel i k v ρ}:zL fa fuel (S.dset i k v) ρ=(match ρ[i]? with
  |some (some x)=>(match x.cell with
   |some (.dct t ks vs)=>(zm (zP fa) v ρ).bind fun r=>(toD r).bind fun d=>(zm (zP fa) k ρ).bind fun r=>(toD r).bind fun a=>if yQ t a&&decide (ks.length<line) then some (.nx,ρ.set i (some (x.put (xK t ks vs a d)))) else none
   |_=>none)
  |_=>none):=id rfl
theorem ziC{fa fuel e ρ}:zL fa fuel (S.ret e) ρ=((zm (zP fa) e ρ).bind fun r=>if r.lent then none else some (.rt r,ρ)):=id rfl
theorem zaV{fa fuel i ρ}:zL fa fuel (S.retV i) ρ=(match ρ[i]? with
  |some (some (.val d))=>some (.rt (.val d),ρ)
  |some (some (.obj _ d))=>some (.rt (.obj true d),ρ.set i none)
  |_=>none):=id rfl
theorem ziD{fa fuel c a b ρ}:zL fa fuel (S.ifs c a b) ρ=((zF (zP fa) c ρ).bind fun k=>if k then zr fa fuel a ρ else zr fa fuel b ρ):=id rfl
theorem ziE{fa fuel i rng src body ρ}:zL fa fuel (S.for_ i rng src body) ρ=((yd (zP fa) src ρ).bind fun rs=>if rs.any SV.lent|| !free ρ i then none else (yl rng rs).bind fun ds=>ym i (zr fa fuel body) ds ρ):=id rfl
theorem ziF{fa fuel i j body ρ}:zL fa fuel (S.forK i j body) ρ=(if free ρ i then (YH ρ j).bind fun ks=>(ym i (zr fa fuel body) ks ρ).bind VJ else none):=id rfl
theorem ziG{fa fuel i j body ρ}:zL fa fuel (S.forV i j body) ρ=(if free ρ i then (Zi ρ j).bind fun x=>ym i (zr fa fuel body) x.1 x.2 else none):=id rfl
theorem ziH{fa fuel c body ρ}:zL fa fuel (S.while_ c body) ρ=(xS (zF (zP fa) c) (zr fa fuel body) fuel ρ):=id rfl
theorem ziI{fa fuel js s ρ}:zL fa fuel (S.frz js s) ρ=(zL fa fuel s (js.foldl vT ρ)):=id rfl
theorem ziJ{fa fuel ρ}:zL fa fuel (S.stop) ρ=(none):=id rfl
theorem ziK{fa fuel ρ}:zr fa fuel (Ss.nil) ρ=(some (.nx,ρ)):=id rfl
theorem ziL{fa fuel s ss ρ}:zr fa fuel (Ss.cons s ss) ρ=((zL fa fuel s ρ).bind fun x=>match x.1 with
  | .nx=>zr fa fuel ss x.2
  |_=>some x):=id rfl
theorem vH{α:Type}{P:List α->Prop}(h: ∀a0,P [a0])(us:List α)(hl:us.length=1):P us:=by
 cases us with
 |nil=>cases hl
 |cons a0 r0=>
  cases r0 with
  |nil=>exact h a0
  |cons _ _=>simp at hl
theorem wR{α:Type}{P:List α->Prop}(h: ∀a0 a1,P [a0,a1])(us:List α)(hl:us.length=2):P us:=by
 cases us with
 |nil=>cases hl
 |cons a0 r0=>
  cases r0 with
  |nil=>cases hl
  |cons a1 r1=>
   cases r1 with
   |nil=>exact h a0 a1
   |cons _ _=>simp at hl
theorem wS{α:Type}{P:List α->Prop}(h: ∀a0 a1 a2,P [a0,a1,a2])(us:List α)(hl:us.length=3):P us:=by
 cases us with
 |nil=>cases hl
 |cons a0 r0=>
  cases r0 with
  |nil=>cases hl
  |cons a1 r1=>
   cases r1 with
   |nil=>cases hl
   |cons a2 r2=>
    cases r2 with
    |nil=>exact h a0 a1 a2
    |cons _ _=>simp at hl
theorem zaW{α:Type}{P:List α->Prop}(h: ∀a0 a1 a2 a3,P [a0,a1,a2,a3])(us:List α)(hl:us.length=4):P us:=by
 cases us with
 |nil=>cases hl
 |cons a0 r0=>
  cases r0 with
  |nil=>cases hl
  |cons a1 r1=>
   cases r1 with
   |nil=>cases hl
   |cons a2 r2=>
    cases r2 with
    |nil=>cases hl
    |cons a3 r3=>
     cases r3 with
     |nil=>exact h a0 a1 a2 a3
     |cons _ _=>simp at hl
end L2.LW
set_option maxHeartbeats 4000000
namespace L2.LW
open PySem PySem.Spec PyProof.Rows
noncomputable def YI(K:PySem.W.Frag)(a:Addr)(xs:List V):Prop:=
 ∃(o:Obj) (its:Array Value) (n:Nat),K.lookup a=some o/\o.cls= .type "list"/\o.dict=Option.none/\o.data= .seq its n/\its.size<=sizeLine/\Vals xs its.toList
noncomputable def yy(ns:List Int)(ys:List V):List (zy×V):=(ns.map Sum.inl).zip ys
noncomputable def yC(ns:List (List Int))(ys:List V):List (List zy×V):=(ns.map fun l=>l.map Sum.inl).zip ys
noncomputable def kT(l:List Int):D:=.tup (l.map D.int)
mutual
inductive Rep (K:PySem.W.Frag)(W:Addr->Prop)(H:Hp):D->V->Prop where
 |int (i:Int):Rep K W H (.int i) (.int i)
 |bl (b:Bool):Rep K W H (.bl b) (.bl b)
 |non:Rep K W H .non .non
 |str (x:Str):Rep K W H (.str x) (.str x)
 |tup {a:Addr} {xs:List V} {ds:List D} (h:H a=some (.tup xs)) (r:Reps K W H ds xs):Rep K W H (.tup ds) (.ref a)
 |lst {a:Addr} {xs:List V} {ds:List D} (h:(¬W a/\Rd H a (.lst xs))\/YI K a xs) (r:Reps K W H ds xs):Rep K W H (.lst ds) (.ref a)
 |dK {a:Addr} {ns:List Int} {ys:List V} {vs:List D} (n: ¬W a) (h:Rd H a (.dK (yy ns ys))) (l:ns.length=ys.length) (r:Reps K W H vs ys):Rep K W H (.dct false (ns.map D.int) vs) (.ref a)
 |dT {a:Addr} {ns:List (List Int)} {ys:List V} {vs:List D} (n: ¬W a) (h:H a=some (.dT (yC ns ys))) (l:ns.length=ys.length) (r:Reps K W H vs ys):Rep K W H (.dct true (ns.map kT) vs) (.ref a)
inductive Reps (K:PySem.W.Frag)(W:Addr->Prop)(H:Hp):List D->List V->Prop where
 |nil:Reps K W H [] []
 |cons {d:D} {v:V} {ds:List D} {vs:List V} (h:Rep K W H d v) (t:Reps K W H ds vs):Reps K W H (d::ds) (v::vs)
end
inductive ORep (K:PySem.W.Frag)(W:Addr->Prop)(H:Hp):D->HO->Prop where
 |lst {xs:List V} {ds:List D} (r:Reps K W H ds xs):ORep K W H (.lst ds) (.lst xs)
 |dK {ns:List Int} {ys:List V} {vs:List D} (l:ns.length=ys.length) (r:Reps K W H vs ys):ORep K W H (.dct false (ns.map D.int) vs) (.dK (yy ns ys))
 |dT {ns:List (List Int)} {ys:List V} {vs:List D} (l:ns.length=ys.length) (r:Reps K W H vs ys):ORep K W H (.dct true (ns.map kT) vs) (.dT (yC ns ys))
structure Ext (W:Addr->Prop)(H:Hp)(W':Addr->Prop)(H':Hp):Prop where
 keep: ∀a o,H a=some o->¬W a->H' a=some o
 tup: ∀a xs,H a=some (.tup xs)->H' a=some (.tup xs)
 frz: ∀a o u,H a=some (.frz o u)->H' a=some (.frz o u)
 win: ∀a,W' a->W a\/H a=Option.none
theorem Ext.refl(W:Addr->Prop)(H:Hp):Ext W H W H:=⟨fun _ _ h _=>h,fun _ _ h=>h,fun _ _ _ h=>h,fun _ h=>.inl h⟩
theorem Ext.out{W W':Addr->Prop}{H H':Hp}(x:Ext W H W' H'){a:Addr}{o:HO}(h:H a=some o)(n: ¬W a): ¬W' a:=fun w=>by
 rcases x.win a w with q|q
 ·exact n q
 ·rw[h] at q;cases q
theorem ziM{W W':Addr->Prop}{H H':Hp}(x:Ext W H W' H'){a:Addr}{u:HO}(h:Rd H a u)(n: ¬W a):Rd H' a u:=by
 rcases h with h|⟨o,h⟩
 ·exact .inl (x.keep _ _ h n)
 ·exact .inr ⟨o,x.keep _ _ h n⟩
theorem ziN{W W':Addr->Prop}{H H':Hp}(x:Ext W H W' H'){a:Addr}{u:HO}(h:Rd H a u)(n: ¬W a): ¬W' a:=by
 rcases h with h|⟨o,h⟩
 ·exact x.out h n
 ·exact x.out h n
theorem Ext.trans{W W1 W2:Addr->Prop}{H H1 H2:Hp}(x:Ext W H W1 H1)(y:Ext W1 H1 W2 H2):Ext W H W2 H2:=by
 refine⟨fun a o h n=>y.keep a o (x.keep a o h n) (x.out h n),fun a xs h=>y.tup a xs (x.tup a xs h),fun a o u h=>y.frz a o u (x.frz a o u h),fun a w=>?_⟩
 rcases y.win a w with q|q
 ·exact x.win a q
 ·cases e:H a with
  |none=>exact .inr rfl
  |some o=>
   by_cases hw:W a
   ·exact .inl hw
   ·rw[x.keep a o e hw] at q;cases q
theorem Ext.same{W:Addr->Prop}{H H':Hp}(s:Same H H'):Ext W H W H':=⟨fun a o h _=>s a o h,fun a xs h=>s a _ h,fun a o u h=>s a _ h,fun _ w=>.inl w⟩
section
variable {K:PySem.W.Frag} {W W':Addr->Prop} {H H':Hp}
mutual
theorem Rep.ext(x:Ext W H W' H'): ∀{d:D} {v:V},Rep K W H d v->Rep K W' H' d v
 |_,_,.int i=>.int i
 |_,_,.bl b=>.bl b
 |_,_,.non=>.non
 |_,_,.str s=>.str s
 |_,_,.dK n h l r=>.dK (ziN x h n) (ziM x h n) l (Reps.ext x r)
 |_,_,.dT n h l r=>.dT (x.out h n) (x.keep _ _ h n) l (Reps.ext x r)
 |_,_,.tup h r=>.tup (x.tup _ _ h) (Reps.ext x r)
 |_,_,.lst h r=>.lst (by
   rcases h with ⟨n,h|⟨o,h⟩⟩|h
   ·exact .inl ⟨x.out h n,.inl (x.keep _ _ h n)⟩
   ·exact .inl ⟨x.out h n,.inr ⟨o,x.keep _ _ h n⟩⟩
   ·exact .inr h) (Reps.ext x r)
theorem Reps.ext(x:Ext W H W' H'): ∀{ds:List D} {vs:List V},Reps K W H ds vs->Reps K W' H' ds vs
 |_,_,.nil=>.nil
 |_,_,.cons h t=>.cons (Rep.ext x h) (Reps.ext x t)
end
mutual
theorem Rep.less(x: ∀a,W' a->W a): ∀{d:D} {v:V},Rep K W H d v->Rep K W' H d v
 |_,_,.int i=>.int i
 |_,_,.bl b=>.bl b
 |_,_,.non=>.non
 |_,_,.str s=>.str s
 |_,_,.dK n h l r=>.dK (fun w=>n (x _ w)) h l (Reps.less x r)
 |_,_,.dT n h l r=>.dT (fun w=>n (x _ w)) h l (Reps.less x r)
 |_,_,.tup h r=>.tup h (Reps.less x r)
 |_,_,.lst h r=>.lst (by
   rcases h with ⟨n,h⟩|h
   ·exact .inl ⟨fun w=>n (x _ w),h⟩
   ·exact .inr h) (Reps.less x r)
theorem Reps.less(x: ∀a,W' a->W a): ∀{ds:List D} {vs:List V},Reps K W H ds vs->Reps K W' H ds vs
 |_,_,.nil=>.nil
 |_,_,.cons h t=>.cons (Rep.less x h) (Reps.less x t)
end
mutual
theorem Rep.plain: ∀{d:D} {v:V},Rep K W H d v->LW.plain d=true->Rep K W' H d v
 |_,_,.int i,_=>.int i
 |_,_,.bl b,_=>.bl b
 |_,_,.non,_=>.non
 |_,_,.str s,_=>.str s
 |_,_,.tup h r,p=>.tup h (Reps.plain r (by simpa [LW.plain] using p))
 |_,_,.lst h r,p=>by simp[LW.plain] at p
 |_,_,.dK _ _ _ _,p=>by simp[LW.plain] at p
 |_,_,.dT _ _ _ _,p=>by simp[LW.plain] at p
theorem Reps.plain: ∀{ds:List D} {vs:List V},Reps K W H ds vs->xa ds=true->Reps K W' H ds vs
 |_,_,.nil,_=>.nil
 |_,_,.cons h t,p=>by
  simp only[xa,Bool.and_eq_true] at p
  exact .cons (Rep.plain h p.1) (Reps.plain t p.2)
end
theorem Reps.length: ∀{ds:List D} {vs:List V},Reps K W H ds vs->ds.length=vs.length
 |_,_,.nil=>rfl
 |_,_,.cons _ t=>by simp[Reps.length t]
theorem Reps.get: ∀{ds:List D} {vs:List V} {i:Nat} {d:D},Reps K W H ds vs->ds[i]? =some d->∃v,vs[i]? =some v/\Rep K W H d v
 |_,_,_,_,.nil,e=>by simp at e
 |_,_,0,_,.cons h _,e=>by simp at e;subst e;exact⟨_,rfl,h⟩
 |_,_,i+1,d,.cons _ t,e=>by
  obtain⟨v,h1,h2⟩:=Reps.get (i:=i) (d:=d) t (by simpa using e)
  exact⟨v,by simpa using h1,h2⟩
theorem Reps.append: ∀{ds es:List D} {vs us:List V},Reps K W H ds vs->Reps K W H es us->Reps K W H (ds++es) (vs++us)
 |_,_,_,_,.nil,s=>s
 |_,_,_,_,.cons h t,s=>.cons h (Reps.append t s)
theorem Reps.take: ∀{ds:List D} {vs:List V} (n:Nat),Reps K W H ds vs->Reps K W H (ds.take n) (vs.take n)
 |_,_,0,_=>.nil
 |_,_,_+1,.nil=>.nil
 |_,_,n+1,.cons h t=>.cons h (Reps.take n t)
theorem Reps.drop: ∀{ds:List D} {vs:List V} (n:Nat),Reps K W H ds vs->Reps K W H (ds.drop n) (vs.drop n)
 |_,_,0,r=>r
 |_,_,_+1,.nil=>.nil
 |_,_,n+1,.cons _ t=>Reps.drop n t
theorem Reps.ints: ∀(ns:List Int),Reps K W H (ns.map D.int) (ns.map V.int)
 |[]=>.nil
 |i::r=>.cons (.int i) (Reps.ints r)
theorem Reps.ofInts: ∀{ds:List D} {vs:List V} {ns:List Int},Reps K W H ds vs->ints? ds=some ns->vs=ns.map V.int
 |_,_,ns,.nil,e=>by simp[ints?] at e;subst e;rfl
 |_,_,ns,.cons (d:=d) h t,e=>by
  cases h with
  |int i=>
   simp only[ints?,jo2] at e
   obtain⟨ms,e1,rfl⟩:=e
   rw[Reps.ofInts t e1];rfl
  |_=>simp[ints?] at e
theorem ORep.ext{d:D}{o:HO}(h:ORep K W H d o)(x:Ext W H W' H'):ORep K W' H' d o:=by
 cases h with
 |lst r=>exact .lst (r.ext x)
 |dK l r=>exact .dK l (r.ext x)
 |dT l r=>exact .dT l (r.ext x)
theorem ORep.less{d:D}{o:HO}(h:ORep K W H d o)(x: ∀a,W' a->W a):ORep K W' H d o:=by
 cases h with
 |lst r=>exact .lst (r.less x)
 |dK l r=>exact .dK l (r.less x)
 |dT l r=>exact .dT l (r.less x)
theorem ORep.plain{d:D}{o:HO}(h:ORep K W H d o)(p:wg d=true):ORep K W' H d o:=by
 cases h with
 |lst r=>exact .lst (r.plain p)
 |dK l r=>exact .dK l (r.plain p)
 |dT l r=>exact .dT l (r.plain p)
theorem ORep.rep{d:D}{o:HO}{a:Addr}(h:ORep K W H d o)(n: ¬W a)(e:H a=some o):Rep K W H d (.ref a):=by
 cases h with
 |lst r=>exact .lst (.inl ⟨n,.inl e⟩) r
 |dK l r=>exact .dK n (.inl e) l r
 |dT l r=>exact .dT n e l r
theorem ORep.kind{d:D}{o:HO}(h:ORep K W H d o):(∀xs,o≠ .tup xs)/\(∀b u,o≠ .frz b u):=by
 cases h<;>exact⟨fun _ z=>(nomatch z),fun _ _ z=>(nomatch z)⟩
noncomputable def add(W:Addr->Prop)(a:Addr):Addr->Prop:=fun b=>W b\/b=a
inductive Frz (K:PySem.W.Frag)(W:Addr->Prop)(H:Hp):SV->V->Prop where
 |val {d:D} {v:V} (h:Rep K W H d v):Frz K W H (.val d) v
 |lis {d:D} {a:Addr} {o:HO} (h: ¬W a) (e:H a=some o) (r:ORep K W H d o):Frz K W H (.obj true d) (.ref a)
 |see {d:D} {a:Addr} {o:HO} (h:W a) (e:H a=some o) (r:ORep K W H d o):Frz K W H (.obj false d) (.ref a)
inductive Res (K:PySem.W.Frag)(W:Addr->Prop)(H H':Hp):SV->V->Prop where
 |val {d:D} {v:V} (h:Rep K W H' d v):Res K W H H' (.val d) v
 |new {d:D} {a:Addr} {o:HO} (h:H a=Option.none) (e:H' a=some o) (r:ORep K (add W a) H' d o):Res K W H H' (.obj true d) (.ref a)
 |see {d:D} {a:Addr} {o:HO} (h:W a) (e:H' a=some o) (r:ORep K W H' d o):Res K W H H' (.obj false d) (.ref a)
noncomputable def Wf(W:Addr->Prop)(H:Hp):Prop:=∀a,W a->H a≠Option.none
theorem Res.frz{r:SV}{v:V}(h:Res K W H H' r v)(wf:Wf W H):Frz K W H' r v:=by
 cases h with
 |val h=>exact .val h
 |new h e r=>exact .lis (fun w=>wf _ w h) e (r.less fun b w=>.inl w)
 |see h e r=>exact .see h e r
theorem Frz.same{r:SV}{v:V}(h:Frz K W H r v)(s:Same H H'):Frz K W H' r v:=by
 cases h with
 |val h=>exact .val (h.ext (.same s))
 |lis h e r=>exact .lis h (s _ _ e) (r.ext (.same s))
 |see h e r=>exact .see h (s _ _ e) (r.ext (.same s))
noncomputable def Sees(K:PySem.W.Frag)(W:Addr->Prop)(H:Hp)(d:D)(v:V):Prop:=
 Rep K W H d v\/∃a o,v= .ref a/\H a=some o/\ORep K W H d o
theorem Frz.sees{r:SV}{v:V}(h:Frz K W H r v):Sees K W H (zN r) v:=by
 cases h with
 |val h=>exact .inl h
 |lis h e r=>exact .inr ⟨_,_,rfl,e,r⟩
 |see h e r=>exact .inr ⟨_,_,rfl,e,r⟩
theorem Sees.lst{ds:List D}{v:V}(h:Sees K W H (.lst ds) v): ∃a xs,v= .ref a/\SqL K H a xs/\Reps K W H ds xs:=by
 rcases h with h|⟨a,o,rfl,e,r⟩
 ·cases h with
  |lst h r=>
   rcases h with ⟨_,h⟩|h
   ·exact⟨_,_,rfl,.inl h,r⟩
   ·exact⟨_,_,rfl,.inr h,r⟩
 ·cases r with
  |lst r=>exact⟨_,_,rfl,.of e,r⟩
theorem Sees.tupH{ds:List D}{v:V}(h:Sees K W H (.tup ds) v): ∃a xs,v= .ref a/\H a=some (.tup xs)/\Reps K W H ds xs:=by
 rcases h with h|⟨a,o,rfl,e,r⟩
 ·cases h with
  |tup h r=>exact⟨_,_,rfl,h,r⟩
 ·cases r
theorem Sees.tup{ds:List D}{v:V}(h:Sees K W H (.tup ds) v): ∃a xs,v= .ref a/\SqT K H a xs/\Reps K W H ds xs:=by
 obtain⟨a,xs,e,h,r⟩:=h.tupH
 exact⟨a,xs,e,.of h,r⟩
theorem Sees.dK{ks vs:List D}{v:V}(h:Sees K W H (.dct false ks vs) v): ∃a ns ys,v= .ref a/\ks=ns.map D.int/\Rd H a (.dK (yy ns ys))/\ns.length=ys.length/\Reps K W H vs ys:=by
 rcases h with h|⟨a,o,rfl,e,r⟩
 ·cases h with
  |dK n h l r=>exact⟨_,_,_,rfl,rfl,h,l,r⟩
 ·cases r with
  |dK l r=>exact⟨_,_,_,rfl,rfl,.inl e,l,r⟩
theorem Sees.dT{ks vs:List D}{v:V}(h:Sees K W H (.dct true ks vs) v): ∃a ns ys,v= .ref a/\ks=ns.map kT/\H a=some (.dT (yC ns ys))/\ns.length=ys.length/\Reps K W H vs ys:=by
 rcases h with h|⟨a,o,rfl,e,r⟩
 ·cases h with
  |dT n h l r=>exact⟨_,_,_,rfl,rfl,h,l,r⟩
 ·cases r with
  |dT l r=>exact⟨_,_,_,rfl,rfl,e,l,r⟩
theorem Sees.int{i:Int}{v:V}(h:Sees K W H (.int i) v):v= .int i:=by
 rcases h with h|⟨a,o,rfl,e,r⟩
 ·cases h;rfl
 ·cases r
theorem Sees.bl{i:Bool}{v:V}(h:Sees K W H (.bl i) v):v= .bl i:=by
 rcases h with h|⟨a,o,rfl,e,r⟩
 ·cases h;rfl
 ·cases r
theorem Sees.str{i:Str}{v:V}(h:Sees K W H (.str i) v):v= .str i:=by
 rcases h with h|⟨a,o,rfl,e,r⟩
 ·cases h;rfl
 ·cases r
theorem Sees.non{v:V}(h:Sees K W H .non v):v= .non:=by
 rcases h with h|⟨a,o,rfl,e,r⟩
 ·cases h;rfl
 ·cases r
theorem Frz.toD{r:SV}{v:V}{d:D}(h:Frz K W H r v)(e:LW.toD r=some d):Rep K W H d v:=by
 cases h with
 |val h=>simp[LW.toD] at e;subst e;exact h
 |lis h e' r=>simp[LW.toD] at e;subst e;exact r.rep h e'
 |see h e' r=>simp[LW.toD] at e
noncomputable def wc(ρ:LW.Env)(σ:St)(a:Addr):Prop:=∃(i:Nat) (x:SV) (d:D),ρ[i]? =some (some x)/\x.cell=some d/\σ[i]? =some (some (.ref a))
structure R (K:PySem.W.Frag)(W:Addr->Prop)(ρ:LW.Env)(σ:St)(H:Hp):Prop where
 val: ∀(i:Nat) (d:D),ρ[i]? =some (some (.val d))->∃v,σ[i]? =some (some v)/\Rep K W H d v
 nol: ∀(i:Nat) (d:D),ρ[i]? ≠some (some (.obj false d))
 own: ∀(i:Nat) (x:SV) (d:D),ρ[i]? =some (some x)->x.cell=some d->∃a o,σ[i]? =some (some (.ref a))/\W a/\H a=some o/\ORep K W H d o
 inj: ∀(i j:Nat) (x y:SV) (d e:D) (a:Addr),ρ[i]? =some (some x)->ρ[j]? =some (some y)->x.cell=some d->y.cell=some e->σ[i]? =some (some (.ref a))->σ[j]? =some (some (.ref a))->i=j
 wf:Wf W H
 len:ρ.length=σ.length
theorem R.ownW{ρ:LW.Env}{σ:St}(r:R K W ρ σ H){a:Addr}(o:wc ρ σ a):W a/\∃o d,H a=some o/\ORep K W H d o:=by
 obtain⟨i,x,d,h1,h2,h3⟩:=o
 obtain⟨b,o,e,w,q,z⟩:=r.own i x d h1 h2
 rw[h3] at e;cases e
 exact⟨w,o,d,q,z⟩
theorem R.same{ρ:LW.Env}{σ:St}(r:R K W ρ σ H)(s:Same H H'):R K W ρ σ H':=by
 refine⟨fun i d h=>?_,r.nol,fun i x d h h'=>?_,r.inj,fun a w=>?_,r.len⟩
 ·obtain⟨v,h1,h2⟩:=r.val i d h
  exact⟨v,h1,h2.ext (.same s)⟩
 ·obtain⟨a,o,h1,h2,h3,h4⟩:=r.own i x d h h'
  exact⟨a,o,h1,h2,s _ _ h3,h4.ext (.same s)⟩
 ·cases e:H a with
  |none=>exact absurd e (r.wf a w)
  |some o=>rw[s a o e];exact fun z=>nomatch z
theorem R.look{ρ:LW.Env}{σ:St}(r:R K W ρ σ H){i:Nat}{x:SV}(h:look ρ i=some x): ∃v,σ[i]? =some (some v)/\Frz K W H x v/\Res K W H H x v:=by
 unfold LW.look at h
 split at h
 ·rename_i d e
  cases h
  obtain⟨v,h1,h2⟩:=r.val i d e
  exact⟨v,h1,.val h2,.val h2⟩
 ·rename_i o d e
  cases h
  cases o with
  |false=>exact absurd e (r.nol i d)
  |true=>
   obtain⟨a,o,h1,h2,h3,h4⟩:=r.own i _ d e rfl
   exact⟨_,h1,.see h2 h3 h4,.see h2 h3 h4⟩
 ·rename_i d e
  cases h
  obtain⟨a,o,h1,h2,h3,h4⟩:=r.own i _ d e rfl
  exact⟨_,h1,.see h2 h3 h4,.see h2 h3 h4⟩
 ·cases h
noncomputable def xT(ρ:LW.Env)(i:Nat):Prop:=∃d,ρ[i]? =some (some (.io d))
theorem vU{ρ:LW.Env}{i:Nat}(h:LW.free ρ i=true): ¬xT ρ i:=fun zz0=>by
 obtain⟨d,e⟩:=zz0
 unfold LW.free at h;rw[e] at h;cases h
structure SPost (K:PySem.W.Frag)(W:Addr->Prop)(ρ:LW.Env)(σ:St)(H:Hp)(W':Addr->Prop)(ρ':LW.Env)(σ':St)(H':Hp):Prop where
 r:R K W' ρ' σ' H'
 keep: ∀a o,H a=some o->¬wc ρ σ a->H' a=some o
 win: ∀a,W' a->W a\/H a=Option.none
 wout: ∀a,W a->¬wc ρ σ a->W' a/\¬wc ρ' σ' a
 io: ∀i,(xT ρ' i↔xT ρ i)/\(xT ρ i->σ'[i]? =σ[i]?)
theorem SPost.trans{W1 W2:Addr->Prop}{ρ ρ1 ρ2:LW.Env}{σ σ1 σ2:St}{H1 H2:Hp}(x:SPost K W ρ σ H W1 ρ1 σ1 H1)(y:SPost K W1 ρ1 σ1 H1 W2 ρ2 σ2 H2)(r0:R K W ρ σ H):SPost K W ρ σ H W2 ρ2 σ2 H2:=by
 have no1: ∀a o,H a=some o->¬wc ρ σ a->¬wc ρ1 σ1 a:=fun a o h n z=>by
  rcases x.win a (x.r.ownW z).1 with w|w
  ·exact (x.wout a w n).2 z
  ·rw[h] at w;cases w
 refine⟨y.r,fun a o h n=>y.keep a o (x.keep a o h n) (no1 a o h n),fun a w=>?_,fun a w n=>?_,fun i=>⟨(y.io i).1.trans (x.io i).1,fun z=>((y.io i).2 ((x.io i).1.mpr z)).trans ((x.io i).2 z)⟩⟩
 ·rcases y.win a w with q|q
  ·exact x.win a q
  ·cases e:H a with
   |none=>exact .inr rfl
   |some o=>
    by_cases n:wc ρ σ a
    ·exact .inl (r0.ownW n).1
    ·rw[x.keep a o e n] at q;cases q
 ·obtain⟨w1,n1⟩:=x.wout a w n
  exact y.wout a w1 n1
theorem SPost.ext{W1:Addr->Prop}{ρ ρ1:LW.Env}{σ σ1:St}{H1:Hp}(x:SPost K W ρ σ H W1 ρ1 σ1 H1)(r0:R K W ρ σ H):Ext W H W1 H1:=by
 refine⟨fun a o h n=>x.keep a o h fun z=>n (r0.ownW z).1,fun a xs h=>x.keep a _ h fun z=>?_,fun a o u h=>x.keep a _ h fun z=>?_,x.win⟩
 ·obtain⟨_,o,d,e,q⟩:=r0.ownW z
  rw[h] at e;cases e;exact q.kind.1 xs rfl
 ·obtain⟨_,o,d,e,q⟩:=r0.ownW z
  rw[h] at e;cases e;exact q.kind.2 _ _ rfl
theorem SPost.same{ρ:LW.Env}{σ:St}(r0:R K W ρ σ H)(s:Same H H'):SPost K W ρ σ H W ρ σ H':=
 ⟨r0.same s,fun a o h _=>s a o h,fun a w=>.inl w,fun a w n=>⟨w,n⟩,fun _=>⟨.rfl,fun _=>rfl⟩⟩
end
noncomputable def ziO(ρ:LW.Env)(σ:St)(a:Addr):Prop:=∃i,xT ρ i/\σ[i]? =some (some (.ref a))
inductive Ret (K:PySem.W.Frag)(W:Addr->Prop)(ρ:LW.Env)(σ:St)(W':Addr->Prop)(H':Hp):SV->V->Prop where
 |val {d:D} {v:V} (h:Rep K W' H' d v):Ret K W ρ σ W' H' (.val d) v
 |new {d:D} {a:Addr} {o:HO} (h:W' a) (n: ¬(W a/\¬wc ρ σ a)) (n': ¬ziO ρ σ a) (e:H' a=some o) (r:ORep K W' H' d o):Ret K W ρ σ W' H' (.obj true d) (.ref a)
noncomputable def tE(K:PySem.W.Frag)(fn:Nat->List D->Option SV)(c:E):TE:=fun σ H Q=>∃W ρ r,R K W ρ σ H/\zm fn c ρ=some r/\∀v H',Same H H'->Res K W H H' r v->Q v H'
noncomputable def tV(K:PySem.W.Frag)(fn:Nat->List D->Option SV)(c:E):TE:=fun σ H Q=>∃W ρ r,R K W ρ σ H/\zm fn c ρ=some r/\∀v H',Same H H'->Frz K W H' r v->Q v H'
noncomputable def zaX(K:PySem.W.Frag)(fn:Nat->List D->Option SV)(cs:Es):TA:=fun σ H Q=>∃W ρ rs,R K W ρ σ H/\yd fn cs ρ=some rs/\∀vs H',Same H H'->Paired (Frz K W H') rs vs->Q vs H'
noncomputable def tT(K:PySem.W.Frag)(fn:Nat->List D->Option SV)(c:E):TT:=fun σ H Q=>∃W ρ b,R K W ρ σ H/\zF fn c ρ=some b/\∀H',Same H H'->Q b H'
noncomputable def FlOk(K:PySem.W.Frag)(W:Addr->Prop)(ρ:LW.Env)(σ:St)(W':Addr->Prop)(ρ':LW.Env)(σ':St)(H':Hp)(D:Ends):Fl->Prop
 | .nx=>D.nx σ' H'
 | .br=>D.bk σ' H'
 | .ct=>D.ct σ' H'
 | .rt r=>∀v,Ret K W ρ σ W' H' r v->D.rt v H'
noncomputable def YJ(K:PySem.W.Frag)(ex:LW.Env->Option (Fl×LW.Env)):TS:=fun D σ H=>∃W ρ x,R K W ρ σ H/\ex ρ=some x/\∀W' σ' H',SPost K W ρ σ H W' x.2 σ' H'->FlOk K W ρ σ W' x.2 σ' H' D x.1
theorem _root_.L2.PE.imp{X:Cx}{e:Expr}{t t':TE}(h:PE X e t)(i: ∀σ H Q,t' σ H Q->t σ H Q):PE X e t':=fun pins s σ H Q I q=>h pins s σ H Q I (i σ H Q q)
theorem _root_.L2.PT.imp{X:Cx}{e:Expr}{t t':TT}(h:PT X e t)(i: ∀σ H Q,t' σ H Q->t σ H Q):PT X e t':=fun pins s σ H Q I q=>h pins s σ H Q I (i σ H Q q)
theorem _root_.L2.PW.imp{X:Cx}{e:Expr}{t t':TT}(h:PW X e t)(i: ∀σ H Q,t' σ H Q->t σ H Q):PW X e t':=fun wh pins s σ H Q I q=>h wh pins s σ H Q I (i σ H Q q)
theorem _root_.L2.PA.imp{X:Cx}{e:List Expr}{t t':TA}(h:PA X e t)(i: ∀σ H Q,t' σ H Q->t σ H Q):PA X e t':=fun pos pins s σ H Q I q=>h pos pins s σ H Q I (i σ H Q q)
theorem _root_.L2.PS.imp{X:Cx}{e:Stmt}{t t':TS}(h:PS X e t)(i: ∀D σ H,t' D σ H->t D σ H):PS X e t':=fun pins s σ H D I q=>h pins s σ H D I (i D σ H q)
theorem _root_.L2.PSs.imp{X:Cx}{e:List Stmt}{t t':TS}(h:PSs X e t)(i: ∀D σ H,t' D σ H->t D σ H):PSs X e t':=fun pins s σ H D I q=>h pins s σ H D I (i D σ H q)
end L2.LW
set_option maxHeartbeats 4000000
namespace HT
open PySem PyProof.Rows
theorem ziP:Slot "tuple" (cmpInfo .Gt).2.1 "tuple.__gt__":=
 .of (owner:="tuple") (n:="__gt__") (by rw[typeLookup_type,builtinLookup_eq_fast];kernel_rfl) (by decide+kernel) (by decide+kernel) (by decide+kernel)
  (by first|exact .inl (by decide+kernel)|exact .inr (by decide+kernel)) (by rw[isSubtype_type];kernel_rfl)
theorem ziQ:entryFor table "tuple.__gt__"=some Builtin.«tuple.__gt__»:=entryFor_of_tree (by kernel_rfl)
theorem ziR(a b:Value):argsOk "tuple.__gt__" ⟨[a,b],[]⟩:=by
 unfold argsOk;rw[signature?_of (id:="tuple.__gt__") (n:=['_','_','t','g','_','_']) (o:=['e','l','p','u','t']) (by kernel_rfl) PySem.F.owner_tuple];kernel_rfl
theorem ziS(A:Around)(s:Shared)(a:Int)(t:Tok)(c:Int)(u:Tok)(prog:Program)(w:World)(E:Value->Shared->Prop)(Q:Value->Shared->Prop)(h:Q (.bool (decide (c<a))) s):
  wpAny (model prog w) A (richCompare .Gt (.int a t) (.int c u)) Q E s:=
 (PyProof.Rows.gt_int h:wpAny (model prog w) A (compareOp .Gt (.int a t) (.int c u)) Q E s)
section
open PySem.SeqAt
open PySem.AutoSeq1 (wpAny_loadPart')
open PySem.MeetsSeq PySem.MeetsSeq2 PySem.MeetsSeq3
theorem ziT(l b:Addr)(items items2:Array Value)(n n2:Nat)(dd dd2:Option Addr)(sl sl2:Array (Option Value))(ns ms:List Int)(hi:IntsAre items.toList ns)(hj:IntsAre items2.toList ms):
  Meets (Builtin.«tuple.__gt__» ⟨[.ref l,.ref b],[]⟩)
   (fun _ R s=>s.heap.get? l=some { cls:=.type "tuple",dict:=dd,data:=.seq items n,slots:=sl }/\s.heap.get? b=some { cls:=.type "tuple",dict:=dd2,data:=.seq items2 n2,slots:=sl2 }/\
    R (.ok (.ret (.bool (lexLt ms ns)))) s):=
 .of_wp fun prog w A R s h=>by
  obtain⟨hp,g,d,tk,os⟩:=s;obtain⟨hl,hb,h⟩:=h
  have f2:=AutoSeq1.sub_tuple_tuple
  have z1:items.size=ns.length:=by rw[<-hi.length];simp
  have z2:items2.size=ms.length:=by rw[<-hj.length];simp
  wp_walk using wpAny_loadPart' hl,wpAny_loadPart' hb,wpAny_forIn_list _ (fun zT b s'=>b.1=none/\s'=⟨hp,g,d,tk,os⟩/\∃(vs ws:List Value) (ns' ms':List Int),zT=vs.zip ws/\
   IntsAre vs ns'/\IntsAre ws ms'/\ns'.length+items2.size=ms'.length+items.size/\R (.ok (.ret (.bool (lexLt ms' ns')))) ⟨hp,g,d,tk,os⟩) _
  case turn=>
   rintro⟨y,x⟩ zT b s' ⟨hb',rfl,vs,ws,ns',ms',hz,hvi,hwi,hlen,hR⟩
   cases hvi with
   |nil=>rw[List.zip_nil_left] at hz;cases hz
   |cons a t hvi'=>
    cases hwi with
    |nil=>rw[List.zip_nil_right] at hz;cases hz
    |cons c u hwi'=>
     rw[List.zip_cons_cons] at hz
     injection hz with hyx hrest
     injection hyx with hy hx
     subst hy hx
     rw[lexLt_cons] at hR
     simp only[List.length_cons] at hlen
     obtain⟨e,he,hiff⟩:=zap A.in1 ⟨hp,g,d,tk,os⟩ a t c u
     refine wpAny_bind (he prog w _ _ ?_)
     cases e with
     |true=>
      rw[if_pos (hiff.mp rfl).symm] at hR
      wp_walk
      exact⟨rfl,rfl,_,_,_,_,hrest,hvi',hwi',by omega,hR⟩
     |false=>
      rw[if_neg (fun q=>absurd (hiff.mpr q.symm) Bool.false_ne_true)] at hR
      have hri:=ziS A.in1 ⟨hp,g,d,tk,os⟩ a t c u prog w
      wp_walk using hri
      exact⟨_,rfl,by simpa using hR⟩
  case fin=>
   rintro⟨b1,b2⟩ s' ⟨hb',rfl,vs,ws,ns',ms',hz,hvi,hwi,hlen,hR⟩
   simp only at hb'
   subst hb'
   have hv:(lexLt ms' ns')=decide (items.size>items2.size):=by
    cases hvi with
    |nil=>
     cases hwi with
     |nil=>
      simp only[List.length_nil] at hlen
      rw[zam]
      exact (decide_eq_false (by omega)).symm
     |cons c u hw=>
      simp only[List.length_nil,List.length_cons] at hlen
      rw[zao]
      exact (decide_eq_false (by omega)).symm
    |cons a t hv=>
     cases hwi with
     |nil=>
      simp only[List.length_nil,List.length_cons] at hlen
      rw[zan]
      exact (decide_eq_true (by omega)).symm
     |cons c u hw=>
      rw[List.zip_cons_cons] at hz
      cases hz
   rw[hv] at hR
   wp_walk
   exact⟨_,rfl,by simpa [Builtin.Tuple.tupleCompareSizes] using hR⟩
  case h=>
   exact⟨rfl,rfl,items.toList,items2.toList,ns,ms,rfl,hi,hj,by omega,h⟩
end
section
variable {prog:Program} {w:World} {A:Around} {E:Value->Shared->Prop} {s:Shared}
theorem gt_tupInts{l b:Addr}{items items2:Array Value}{ns ms:List Int}{Q:Value->Shared->Prop}(hl:IsTup s.heap l items)(hb:IsTup s.heap b items2)(hi:IntsAre items.toList ns)(hj:IntsAre items2.toList ms)
  (hu:A.units<cLine) (h:Q (.bool (lexLt ms ns)) s):wpAny (model prog w) A (compareOp .Gt (.ref l) (.ref b)) Q E s:=by
 obtain⟨⟨cls,dd,data,sl⟩,ho,hc,n,hd⟩:=id hl
 obtain⟨⟨cls2,dd2,data2,sl2⟩,ho2,hc2,n2,hd2⟩:=id hb
 simp only at hc hd hc2 hd2
 subst hc hd hc2 hd2
 exact richCompare_meets_room (op:=.Gt) ⟨_,ho,rfl⟩ ⟨_,ho2,rfl⟩ ziP ziQ (ziR _ _) (ziT l b items items2 n n2 dd dd2 sl sl2 ns ms hi hj)
  ⟨ho,ho2,show Value.bool (lexLt ms ns)≠Value.notImplemented/\Q (.bool (lexLt ms ns)) s from ⟨(fun x=>nomatch x),h⟩⟩ hu
end
end HT
set_option maxHeartbeats 4000000
namespace L2.LW
open PySem PySem.Spec PyProof.Rows
noncomputable def VR(K:PySem.W.Frag)(f:List D->Option SV)(vs:List V)(H:Hp)(Q:VK):Prop:=
 ∃W ds r,Wf W H/\Paired (Sees K W H) ds vs/\f ds=some r/\∀v H',Same H H'->Res K W H H' r v->Q v H'
noncomputable def yR(K:PySem.W.Frag)(f:List D->Option SV):R2:=fun x y H Q=>VR K f [x,y] H Q
noncomputable def zaY(K:PySem.W.Frag)(f:List D->Option SV):V->Hp->VK->Prop:=fun x H Q=>VR K f [x] H Q
theorem YK{α β:Type}{F:α->β->Prop}{ds:List α}{x:β}(h:Paired F ds [x]): ∃d,ds=[d]/\F d x:=by
 cases h with
 |cons h t=>cases t;exact⟨_,rfl,h⟩
theorem xP{α β:Type}{F:α->β->Prop}{ds:List α}{x y:β}(h:Paired F ds [x,y]): ∃d e,ds=[d,e]/\F d x/\F e y:=by
 cases h with
 |cons h t=>
  obtain⟨e,rfl,h2⟩:=YK t
  exact⟨_,e,rfl,h,h2⟩
mutual
noncomputable def ye:D->PyData
 | .int i=>.int i
 | .bl b=>.bool b
 | .non=>.none
 | .str x=>.str x
 | .tup l=>.tuple (xy l)
 | .lst l=>.list (xy l)
 | .dct _ _ _=>.dict []
noncomputable def xy:List D->List PyData
 |[]=>[]
 |x::xs=>ye x::xy xs
end
mutual
theorem VN: ∀d e:D,PyData.eqv (ye d) (ye e)=zV d e
 | .int a,e=>by cases e<;>simp[ye,PyData.eqv,zV]
 | .bl a,e=>by cases e<;>simp[ye,PyData.eqv,zV]
 | .non,e=>by cases e<;>simp[ye,PyData.eqv,zV]
 | .str a,e=>by cases e<;>simp[ye,PyData.eqv,zV]
 | .tup l,e=>by
  cases e with
  |tup m=>simp only[ye,PyData.eqv,zV];exact kd l m
  |_=>simp[ye,PyData.eqv,zV]
 | .lst l,e=>by
  cases e with
  |lst m=>simp only[ye,PyData.eqv,zV];exact kd l m
  |_=>simp[ye,PyData.eqv,zV]
 | .dct t a b,e=>by cases e<;>simp[ye,PyData.eqv,zV]
theorem kd: ∀ds es:List D,PyData.eqvAll (xy ds) (xy es)=xw ds es
 |[],[]=>by simp[xy,PyData.eqvAll,xw]
 |[],_::_=>by simp[xy,PyData.eqvAll,xw]
 |_::_,[]=>by simp[xy,PyData.eqvAll,xw]
 |x::xs,y::ys=>by simp only[xy,PyData.eqvAll,xw];rw[VN x y,kd xs ys]
end
theorem YL{n:Nat}(ih: ∀d,zS n d=true->(ye d).canLay0=true/\(ye d).depth<=n): ∀l:List D,l.all (zS n)=true->PyData.canLayAll0 (xy l)=true/\PyData.depthAll (xy l)<=n
 |[],_=>by simp[xy,PyData.canLayAll0,PyData.depthAll]
 |x::xs,h=>by
  simp only[List.all_cons,Bool.and_eq_true] at h
  obtain⟨h1,h2⟩:=ih x h.1
  obtain⟨h3,h4⟩:=YL ih xs h.2
  refine⟨by simp[xy,PyData.canLayAll0,h1,h3],?_⟩
  simp only[xy,PyData.depthAll]
  omega
theorem wE: ∀(n:Nat) (d:D),zS n d=true->(ye d).canLay0=true/\(ye d).depth<=n
 |_,.int _,_=>by simp[ye,PyData.canLay0,PyData.depth]
 |_,.bl _,_=>by simp[ye,PyData.canLay0,PyData.depth]
 |_,.non,_=>by simp[ye,PyData.canLay0,PyData.depth]
 |_,.str _,h=>by simp[zS] at h
 |0,.dct _ _ _,h=>by simp[zS] at h
 |_+1,.dct _ _ _,h=>by simp[zS] at h
 |0,.tup _,h=>by simp[zS] at h
 |0,.lst _,h=>by simp[zS] at h
 |n+1,.tup l,h=>by
  obtain⟨h1,h2⟩:=YL (wE n) l (by simpa [zS] using h)
  exact⟨by simpa [ye,PyData.canLay0] using h1,by simp only[ye,PyData.depth];omega⟩
 |n+1,.lst l,h=>by
  obtain⟨h1,h2⟩:=YL (wE n) l (by simpa [zS] using h)
  exact⟨by simpa [ye,PyData.canLay0] using h1,by simp only[ye,PyData.depth];omega⟩
theorem ke(d:D): ∀l:List D,((xy l).any fun y=>PyData.eqv y (ye d))=l.any fun y=>zV y d
 |[]=>by simp[xy]
 |x::xs=>by simp only[xy,List.any_cons];rw[VN x d,ke d xs]
section
variable {X:Cx} {pins:List (Addr×Obj)} {σ:St} {H:Hp} {s:Shared} {W:Addr->Prop}
mutual
theorem Rep.reads(I:Inv X pins σ H s): ∀{n:Nat} {d:D} {x:V} {v:Value},zS n d=true->Rep X.K W H d x->RelV x v->∃as,Reads s.heap v (ye d) as
 |_,_,_,_,_,.int i,r=>by obtain⟨t,rfl⟩:=r;exact⟨_,.int _ _⟩
 |_,_,_,_,_,.bl b,r=>by cases r;exact⟨_,.bool _⟩
 |_,_,_,_,_,.non,r=>by cases r;exact⟨_,.none⟩
 |_,_,_,_,_,.str x,r=>by obtain⟨t,rfl⟩:=r;exact⟨_,.str _ _⟩
 |0,_,_,_,n,.tup h rs,r=>by simp[zS] at n
 |0,_,_,_,n,.lst h rs,r=>by simp[zS] at n
 |_+1,_,_,_,n,.tup h rs,r=>by
  cases r
  obtain⟨its,rv,⟨o,ho,hc,m,hd⟩,hz⟩:=I.tuple (.of h)
  obtain⟨as,q⟩:=Reps.reads I (by simpa [zS] using n) rs rv
  exact⟨as,by simp only[ye];exact .tuple ho hc hd (by simpa using q)⟩
 |_+1,_,_,_,n,.lst h rs,r=>by
  cases r
  obtain⟨its,rv,⟨o,m,ho,hc,_,hd⟩,hz⟩:=I.list (show SqL X.K H _ _ from h.elim (fun z=>.inl z.2) fun z=>.inr z)
  obtain⟨as,q⟩:=Reps.reads I (by simpa [zS] using n) rs rv
  exact⟨_,by simp only[ye];exact .list ho hc hd (by simpa using q)⟩
 |0,_,_,_,n,.dK _ _ _ _,r=>by simp[zS] at n
 |0,_,_,_,n,.dT _ _ _ _,r=>by simp[zS] at n
 |_+1,_,_,_,n,.dK _ _ _ _,r=>by simp[zS] at n
 |_+1,_,_,_,n,.dT _ _ _ _,r=>by simp[zS] at n
theorem Reps.reads(I:Inv X pins σ H s): ∀{n:Nat} {ds:List D} {xs:List V} {vs:List Value},ds.all (zS n)=true->Reps X.K W H ds xs->Vals xs vs->∃as,ReadsAll s.heap vs (xy ds) as
 |_,_,_,_,_,.nil,r=>by cases r;exact⟨_,by simp only[xy];exact .nil⟩
 |_,_,_,_,n,.cons h t,r=>by
  cases r with
  |cons r1 r2=>
   simp only[List.all_cons,Bool.and_eq_true] at n
   obtain⟨as,q1⟩:=Rep.reads I n.1 h r1
   obtain⟨bs,q2⟩:=Reps.reads I n.2 t r2
   exact⟨_,by simp only[xy];exact .cons q1 q2⟩
end
theorem Sees.reads(I:Inv X pins σ H s){n:Nat}{d:D}{x:V}{v:Value}(hn:zS n d=true)(h:Sees X.K W H d x)(r:RelV x v): ∃as,Reads s.heap v (ye d) as:=by
 rcases h with h|⟨a,o,rfl,e,rs⟩
 ·exact h.reads I hn r
 ·cases r
  cases rs with
  |lst rs=>
   obtain⟨its,rv,⟨o,m,ho,hc,_,hd⟩,hz⟩:=I.list (show SqL X.K H _ _ from .of e)
   cases n with
   |zero=>simp[zS] at hn
   |succ n=>
    obtain⟨as,q⟩:=rs.reads I (n:=n) (by simpa [zS] using hn) rv
    exact⟨_,by simp only[ye];exact .list ho hc hd (by simpa using q)⟩
  |dK l r=>cases n<;>simp[zS] at hn
  |dT l r=>cases n<;>simp[zS] at hn
theorem Sees.readsL(I:Inv X pins σ H s){n:Nat}{l:List D}{x:V}{v:Value}(hn:l.all (zS n)=true)(h:Sees X.K W H (.lst l) x)(r:RelV x v): ∃as,Reads s.heap v (ye (.lst l)) as:=
 h.reads I (n:=n+1) (by simpa [zS] using hn) r
theorem Sees.readsT(I:Inv X pins σ H s){n:Nat}{l:List D}{x:V}{v:Value}(hn:l.all (zS n)=true)(h:Sees X.K W H (.tup l) x)(r:RelV x v): ∃as,Reads s.heap v (ye (.tup l)) as:=
 h.reads I (n:=n+1) (by simpa [zS] using hn) r
end
theorem yX{H:Hp}{p:Addr}(h:H p=Option.none)(o:HO):Same H (zI H p o):=fun b u q=>by rw[zJ (vR q h)];exact q
theorem vV{K:PySem.W.Frag}{W:Addr->Prop}{H:Hp}{p:Addr}{ds:List D}{xs:List V}(hp:H p=Option.none)(r:Reps K W H ds xs):Res K W H (zI H p (.lst xs)) (.lis true ds) (.ref p):=by
 refine .new hp yL (.lst (r.ext ⟨fun a o h _=>yX hp _ a o h,fun a xs h=>yX hp _ a _ h,fun a o u h=>yX hp _ a _ h,fun a w=>?_⟩))
 rcases w with w|rfl
 ·exact .inl w
 ·exact .inr hp
theorem kf{K:PySem.W.Frag}{W:Addr->Prop}{H:Hp}{p:Addr}{ds:List D}{xs:List V}(hp:H p=Option.none)(r:Reps K W H ds xs):Res K W H (zI H p (.tup xs)) (.val (.tup ds)) (.ref p):=
 .val (.tup yL (r.ext (.same (yX hp _))))
section
variable {X:Cx}
theorem Zj:line=sizeLine:=by rw[sizeLine_eq];rfl
theorem Zk: ∀{l:List D} {ns:List Int},ints? l=some ns->l=ns.map D.int
 |[],ns,e=>by simp[ints?] at e;subst e;rfl
 |d::r,ns,e=>by
  cases d with
  |int i=>
   simp only[ints?,jo2] at e
   obtain⟨ms,e1,rfl⟩:=e
   rw[Zk e1];rfl
  |_=>simp[ints?] at e
theorem YM(ns:List Int):(ns.map Sum.inl).map kV=ns.map V.int:=by
 rw[List.map_map];rfl
theorem VO: ∀(a b:List Int),xw (a.map D.int) (b.map D.int)=decide (a=b)
 |[],[]=>by simp[xw]
 |[],_::_=>by simp[xw]
 |_::_,[]=>by simp[xw]
 |x::xs,y::ys=>by
  rw[Bool.eq_iff_iff]
  simp[xw,zV,VO xs ys]
theorem zaZ{a b:List Int}(h:(a.map Sum.inl:List zy)=b.map Sum.inl):a=b:=(List.map_inj_right (fun _ _ z=>Sum.inl.inj z)).mp h
theorem za0(k d:D)(ks:List D):yU (d::ks) k=if zV d k then some 0 else (yU ks k).map (· +1):=by
 unfold yU;rw[List.findIdx?_cons]
theorem VP: ∀{ns:List Int} {ys:List V},ns.length=ys.length->∀i:Int,yZ (yy ns ys) (.inl i)=(yU (ns.map D.int) (.int i)).bind fun j=>ys[j]?
 |[],[],_,i=>rfl
 |n::ns,y::ys,h,i=>by
  have ih:=VP (ns:=ns) (ys:=ys) (by simpa using h) i
  show yZ ((Sum.inl n,y)::yy ns ys) (.inl i)=_
  rw[List.map_cons,za0]
  by_cases e:n=i
  ·rw[Yi (by simp[e])];simp[zV,e]
  ·rw[Yj (by simp[e]),ih]
   have:zV (.int n) (.int i)=false:=by simp[zV,e]
   rw[this]
   cases yU (ns.map D.int) (.int i)<;>simp
theorem kg: ∀{ns:List (List Int)} {ys:List V},ns.length=ys.length->∀i:List Int,yZ (yC ns ys) (i.map Sum.inl)=(yU (ns.map kT) (kT i)).bind fun j=>ys[j]?
 |[],[],_,i=>rfl
 |n::ns,y::ys,h,i=>by
  have ih:=kg (ns:=ns) (ys:=ys) (by simpa using h) i
  show yZ ((n.map Sum.inl,y)::yC ns ys) (i.map Sum.inl)=_
  rw[List.map_cons,za0]
  by_cases e:n=i
  ·rw[Yi (by simp[e])]
   have:zV (kT n) (kT i)=true:=by simp[kT,zV,VO,e]
   rw[this];rfl
  ·rw[Yj (fun z=>e (zaZ z)),ih]
   have:zV (kT n) (kT i)=false:=by simp[kT,zV,VO,e]
   rw[this]
   cases yU (ns.map kT) (kT i)<;>simp
theorem za1{ks:List D}{k:D}{j:Nat}(h:yU ks k=some j):j<ks.length:=by
 unfold yU at h
 obtain⟨h1,_⟩:=List.findIdx?_eq_some_iff_getElem.mp h
 exact h1
theorem za2{ns:List Int}{ys:List V}(h:ns.length=ys.length){i:Int}:(yZ (yy ns ys) (.inl i)).isSome=(yU (ns.map D.int) (.int i)).isSome:=by
 rw[VP h]
 cases e:yU (ns.map D.int) (.int i) with
 |none=>rfl
 |some j=>have:=za1 e;simp at this;simp;omega
theorem za3{ns:List (List Int)}{ys:List V}(h:ns.length=ys.length){i:List Int}:(yZ (yC ns ys) (i.map Sum.inl)).isSome=(yU (ns.map kT) (kT i)).isSome:=by
 rw[kg h]
 cases e:yU (ns.map kT) (kT i) with
 |none=>rfl
 |some j=>have:=za1 e;simp at this;simp;omega
theorem za4{K:PySem.W.Frag}{W:Addr->Prop}{H:Hp}{ns:List Int}{ys:List V}{vs:List D}{i:Int}{d:D}(h:ns.length=ys.length)(r:Reps K W H vs ys)(e:dget (ns.map D.int) vs (.int i)=some d): ∃y,yZ (yy ns ys) (.inl i)=some y/\Rep K W H d y:=by
 unfold dget at e
 rw[jo1] at e
 obtain⟨j,e1,e2⟩:=e
 obtain⟨y,e3,e4⟩:=r.get e2
 exact⟨y,by rw[VP h,e1];exact e3,e4⟩
theorem ziU{K:PySem.W.Frag}{W:Addr->Prop}{H:Hp}{ns:List (List Int)}{ys:List V}{vs:List D}{i:List Int}{d:D}(h:ns.length=ys.length)(r:Reps K W H vs ys)(e:dget (ns.map kT) vs (kT i)=some d): ∃y,yZ (yC ns ys) (i.map Sum.inl)=some y/\Rep K W H d y:=by
 unfold dget at e
 rw[jo1] at e
 obtain⟨j,e1,e2⟩:=e
 obtain⟨y,e3,e4⟩:=r.get e2
 exact⟨y,by rw[kg h,e1];exact e3,e4⟩
theorem xC:OpR X (binaryOp .Add) (yR X.K (zh .add)):=by
 rintro pins s σ H x y v u Q I rx ry ⟨W,ds,r,wf,hs,hf,q⟩
 obtain⟨d,e,rfl,h1,h2⟩:=xP hs
 replace hf:Vx [d,e]=some r:=hf
 unfold Vx at hf
 split at hf
 ·rename_i a b z;cases z;cases hf
  cases h1.int;cases h2.int
  exact zgv pins s σ H _ _ v u Q I rx ry ⟨_,_,rfl,rfl,q _ H (.refl H) (.val (.int _))⟩
 ·rename_i a b z;cases z
  split at hf
  ·rename_i hl
   cases hf
   obtain⟨p,xs,rfl,hp,rp⟩:=h1.lst
   obtain⟨p2,xs2,rfl,hp2,rp2⟩:=h2.lst
   cases rx;cases ry
   obtain⟨its,rv,⟨⟨c1,d1,da1,sl1⟩,n,ho,hc,hdd,hd⟩,hz⟩:=I.list hp
   obtain⟨its2,rv2,⟨⟨c2,d2,da2,sl2⟩,n2,ho2,hc2,hdd2,hd2⟩,hz2⟩:=I.list hp2
   simp only at hc hd hdd hc2 hd2 hdd2
   subst hc hd hdd hc2 hd2 hdd2
   have l1:=rv.length
   have l2:=rv2.length
   have l3:=rp.length
   have l4:=rp2.length
   have le:=Zj
   refine concat_meets ⟨_,ho,rfl⟩ ⟨_,ho2,rfl⟩ noFill_list_add seq_list_add PySem.F.slot_list_add PySem.F.entry_list_add (PySem.F.args_list_add_2 _ _) (list_addW p p2 its.toArray its2.toArray n n2 Option.none Option.none sl1 sl2 (by simp;omega)) ⟨ho,ho2,?_⟩
   have e:its.toArray++its2.toArray=(its++its2).toArray:=by simp
   rw[e]
   exact⟨.ref _,_,I.lnew (t':=s.toks) (rv.append rv2) (by rw[List.length_append];omega),rfl,q _ _ (yX I.fresh _) (vV I.fresh (rp.append rp2))⟩
  ·cases hf
 ·cases hf
theorem wT:OpR X (binaryOp .Sub) (yR X.K (zh .sub)):=by
 rintro pins s σ H x y v u Q I rx ry ⟨W,ds,r,wf,hs,hf,q⟩
 obtain⟨d,e,rfl,h1,h2⟩:=xP hs
 replace hf:QR [d,e]=some r:=hf
 unfold QR at hf
 split at hf
 ·rename_i a b z;cases z;cases hf
  cases h1.int;cases h2.int
  exact zgw pins s σ H _ _ v u Q I rx ry ⟨_,_,rfl,rfl,q _ H (.refl H) (.val (.int _))⟩
 ·cases hf
theorem jv:OpR X (binaryOp .Mult) (yR X.K (zh .mul)):=by
 rintro pins s σ H x y v u Q I rx ry ⟨W,ds,r,wf,hs,hf,q⟩
 obtain⟨d,e,rfl,h1,h2⟩:=xP hs
 replace hf:Yo [d,e]=some r:=hf
 unfold Yo at hf
 split at hf
 ·rename_i a b z;cases z
  split at hf
  ·rename_i hc
   cases hf
   cases h1.int;cases h2.int
   exact zgx pins s σ H _ _ v u Q I rx ry ⟨_,_,rfl,rfl,hc,q _ H (.refl H) (.val (.int _))⟩
  ·cases hf
 ·cases hf
theorem ziV:OpR X (binaryOp .FloorDiv) (yR X.K (zh .fdiv)):=by
 rintro pins s σ H x y v u Q I rx ry ⟨W,ds,r,wf,hs,hf,q⟩
 obtain⟨d,e,rfl,h1,h2⟩:=xP hs
 replace hf:Vy [d,e]=some r:=hf
 unfold Vy at hf
 split at hf
 ·rename_i a b z;cases z
  split at hf
  ·rename_i hc
   cases hf
   cases h1.int;cases h2.int
   exact zgy pins s σ H _ _ v u Q I rx ry ⟨_,_,rfl,rfl,hc,q _ H (.refl H) (.val (.int _))⟩
  ·cases hf
 ·cases hf
theorem Zl:OpR X (binaryOp .Mod) (yR X.K (zh .mod)):=by
 rintro pins s σ H x y v u Q I rx ry ⟨W,ds,r,wf,hs,hf,q⟩
 obtain⟨d,e,rfl,h1,h2⟩:=xP hs
 replace hf:Vz [d,e]=some r:=hf
 unfold Vz at hf
 split at hf
 ·rename_i a b z;cases z
  split at hf
  ·rename_i hc
   cases hf
   cases h1.int;cases h2.int
   exact zgz pins s σ H _ _ v u Q I rx ry ⟨_,_,rfl,rfl,hc,q _ H (.refl H) (.val (.int _))⟩
  ·cases hf
 ·cases hf
theorem VQ:Yf X (unaryOp .USub) (zaY X.K (zh .neg)):=by
 rintro pins s σ H x v Q I rx ⟨W,ds,r,wf,hs,hf,q⟩
 obtain⟨d,rfl,h1⟩:=YK hs
 replace hf:QS [d]=some r:=hf
 unfold QS at hf
 split at hf
 ·rename_i a z;cases z;cases hf
  cases h1.int
  exact zgF pins s σ H _ v Q I rx ⟨_,rfl,q _ H (.refl H) (.val (.int _))⟩
 ·cases hf
theorem za5{A:Around}(hu:A.units+64<cLine){d e:D}(h:zS 8 d=true):A.units+min (ye d).depth (ye e).depth<cLine:=by
 have h1:=(wE 8 d h).2
 have h2:min (ye d).depth (ye e).depth<=(ye d).depth:=Nat.min_le_left _ _
 omega
theorem vW(hu:X.A.units+64<cLine):OpR X (compareOp .Eq) (yR X.K (zh .eq)):=by
 rintro pins s σ H x y v u Q I rx ry ⟨W,ds,r,wf,hs,hf,q⟩
 obtain⟨d,e,rfl,h1,h2⟩:=xP hs
 replace hf:Yp [d,e]=some r:=hf
 simp only[Yp] at hf
 split at hf
 ·rename_i hc
  rw[Bool.and_eq_true] at hc
  cases hf
  obtain⟨as,ra⟩:=h1.reads I hc.1 rx
  obtain⟨bs,rb⟩:=h2.reads I hc.2 ry
  refine SeqAt.compareEq_reads ra rb (wE 8 d hc.1).1 (wE 8 e hc.2).1 (za5 hu hc.1) ?_
  rw[VN]
  exact⟨.bl _,H,I,rfl,q _ H (.refl H) (.val (.bl _))⟩
 ·cases hf
theorem kh(hu:X.A.units+64<cLine):OpR X (compareOp .NotEq) (yR X.K (zh .ne)):=by
 rintro pins s σ H x y v u Q I rx ry ⟨W,ds,r,wf,hs,hf,q⟩
 obtain⟨d,e,rfl,h1,h2⟩:=xP hs
 replace hf:Yq [d,e]=some r:=hf
 simp only[Yq] at hf
 split at hf
 ·rename_i hc
  rw[Bool.and_eq_true] at hc
  cases hf
  obtain⟨as,ra⟩:=h1.reads I hc.1 rx
  obtain⟨bs,rb⟩:=h2.reads I hc.2 ry
  refine SeqAt.compareNe_reads ra rb (wE 8 d hc.1).1 (wE 8 e hc.2).1 (za5 hu hc.1) ?_
  rw[VN]
  exact⟨.bl _,H,I,rfl,q _ H (.refl H) (.val (.bl _))⟩
 ·cases hf
theorem za6{A:Around}(hu:A.units+64<cLine){d:D}{l:List PyData}(h:zS 8 d=true):A.units+1+min (PyData.depthAll l) (ye d).depth<cLine:=by
 have h1:=(wE 8 d h).2
 have h2:min (PyData.depthAll l) (ye d).depth<=(ye d).depth:=Nat.min_le_right _ _
 omega
theorem Zm(hu:X.A.units+64<cLine):OpR X (compareOp .NotIn) (yR X.K (zh .nin)):=by
 rintro pins s σ H x y v u Q I rx ry ⟨W,ds,r,wf,hs,hf,q⟩
 obtain⟨d,e,rfl,h1,h2⟩:=xP hs
 replace hf:vG [d,e]=some r:=hf
 unfold vG at hf
 split at hf
 ·rename_i x t ks vs z;cases z
  split at hf
  ·rename_i hk
   cases hf
   cases t with
   |false=>
    cases d with
    |int i=>
     cases h1.int
     obtain⟨a,ns,ys,rfl,rfl,hH,hl,_⟩:=h2.dK
     cases ry
     exact zaC (by omega) I (.inl ⟨_,.inl i,hH,rfl,rfl⟩) rx fun s' I'=>⟨.bl _,H,I',rfl,q _ H (.refl H) (.val (by rw[za2 hl];exact .bl _))⟩
    |_=>simp[yQ] at hk
   |true=>
    cases d with
    |tup l=>
     obtain⟨ms,hms⟩: ∃ms,ints? l=some ms:=by simp only[yQ,Option.isSome_iff_exists] at hk;exact hk
     obtain⟨b,xs,rfl,hb,rp⟩:=h1.tupH
     obtain⟨a,ns,ys,rfl,rfl,hH,hl,_⟩:=h2.dT
     cases ry
     have e1:=rp.ofInts hms
     have e2:=Zk hms
     subst e1 e2
     exact zaC (by omega) I (DGet.t (k:=ms.map Sum.inl) hH (by rw[hb,YM])) rx fun s' I'=>⟨.bl _,H,I',rfl,q _ H (.refl H) (.val (by rw[za3 hl];exact .bl _))⟩
    |_=>simp[yQ] at hk
  ·cases hf
 ·rename_i d l z;cases z
  split at hf
  ·rename_i hc
   rw[Bool.and_eq_true] at hc
   cases hf
   obtain⟨as,ra⟩:=h1.reads I hc.1 rx
   obtain⟨bs,rb⟩:=h2.readsT I hc.2 ry
   simp only[ye] at rb
   refine SeqAt.notIn_tuple_reads rb ra (YL (wE 8) l hc.2).1 (wE 8 d hc.1).1 (za6 hu hc.1) ?_
   rw[ke]
   exact⟨.bl _,H,I,rfl,q _ H (.refl H) (.val (.bl _))⟩
  ·cases hf
 ·rename_i d l z;cases z
  split at hf
  ·rename_i hc
   rw[Bool.and_eq_true] at hc
   cases hf
   obtain⟨as,ra⟩:=h1.reads I hc.1 rx
   obtain⟨bs,rb⟩:=h2.readsL I hc.2 ry
   simp only[ye] at rb
   refine SeqAt.notIn_list_reads rb ra (YL (wE 8) l hc.2).1 (wE 8 d hc.1).1 (za6 hu hc.1) ?_
   rw[ke]
   exact⟨.bl _,H,I,rfl,q _ H (.refl H) (.val (.bl _))⟩
  ·cases hf
 ·cases hf
theorem ki: ∀x y:List Int,LW.lexLt x y=HT.lexLt x y
 |[],[]=>rfl
 |[],_::_=>rfl
 |_::_,[]=>rfl
 |a::x,b::y=>by rw[HT.lexLt_cons,LW.lexLt,ki x y]
theorem Zn(hu:X.A.units+64<cLine):OpR X (compareOp .Lt) (yR X.K (zh .lt)):=by
 rintro pins s σ H x y v u Q I rx ry ⟨W,ds,r,wf,hs,hf,q⟩
 obtain⟨d,e,rfl,h1,h2⟩:=xP hs
 replace hf:Yr [d,e]=some r:=hf
 unfold Yr at hf
 split at hf
 ·rename_i a b z;cases z;cases hf
  cases h1.int;cases h2.int
  exact zgG pins s σ H _ _ v u Q I rx ry ⟨_,_,rfl,rfl,q _ H (.refl H) (.val (.bl _))⟩
 ·rename_i a b z;cases z
  simp only[jo1] at hf
  obtain⟨ns,e1,ms,e2,hf⟩:=hf
  cases hf
  obtain⟨p,xs,rfl,hp,rp⟩:=h1.tup
  obtain⟨p2,xs2,rfl,hp2,rp2⟩:=h2.tup
  rw[rp.ofInts e1] at hp
  rw[rp2.ofInts e2] at hp2
  refine zhg (by omega) pins s σ H _ _ v u Q I rx ry ⟨_,_,ns,ms,rfl,rfl,hp,hp2,?_⟩
  rw[<-ki]
  exact q _ H (.refl H) (.val (.bl _))
 ·cases hf
theorem VS:OpR X (compareOp .LtE) (yR X.K (zh .le)):=by
 rintro pins s σ H x y v u Q I rx ry ⟨W,ds,r,wf,hs,hf,q⟩
 obtain⟨d,e,rfl,h1,h2⟩:=xP hs
 replace hf:VA [d,e]=some r:=hf
 unfold VA at hf
 split at hf
 ·rename_i a b z;cases z;cases hf
  cases h1.int;cases h2.int
  exact zgH pins s σ H _ _ v u Q I rx ry ⟨_,_,rfl,rfl,q _ H (.refl H) (.val (.bl _))⟩
 ·cases hf
theorem ziW(hu:X.A.units<cLine){pins:List (Addr×Obj)}{s:Shared}{σ:St}{H:Hp}{a b:Addr}{ns ms:List Int}{Q:VK}(I:Inv X pins σ H s)(ha:SqT X.K H a (ns.map V.int))(hb:SqT X.K H b (ms.map V.int))(q:Q (.bl (HT.lexLt ms ns)) H):
  wpAny (model X.prog X.w) X.A (compareOp .Gt (.ref a) (.ref b)) (EP X pins σ Q) X.xe s:=by
 obtain⟨its,r1,p1,_⟩:=I.tuple ha
 obtain⟨its2,r2,p2,_⟩:=I.tuple hb
 have i1:IntsAre its.toArray.toList ns:=vS r1
 have i2:IntsAre its2.toArray.toList ms:=vS r2
 exact HT.gt_tupInts p1 p2 i1 i2 hu ⟨.bl (HT.lexLt ms ns),H,I,rfl,q⟩
theorem vX(hu:X.A.units+64<cLine):OpR X (compareOp .Gt) (yR X.K (zh .gt)):=by
 rintro pins s σ H x y v u Q I rx ry ⟨W,ds,r,wf,hs,hf,q⟩
 obtain⟨d,e,rfl,h1,h2⟩:=xP hs
 replace hf:VB [d,e]=some r:=hf
 unfold VB at hf
 split at hf
 ·rename_i a b z;cases z;cases hf
  cases h1.int;cases h2.int
  exact zgI pins s σ H _ _ v u Q I rx ry ⟨_,_,rfl,rfl,q _ H (.refl H) (.val (.bl _))⟩
 ·rename_i a b z;cases z
  simp only[jo1] at hf
  obtain⟨ns,e1,ms,e2,hf⟩:=hf
  cases hf
  obtain⟨p,xs,rfl,hp,rp⟩:=h1.tup
  obtain⟨p2,xs2,rfl,hp2,rp2⟩:=h2.tup
  rw[rp.ofInts e1] at hp
  rw[rp2.ofInts e2] at hp2
  cases rx
  cases ry
  refine ziW (by omega) I hp hp2 ?_
  rw[<-ki]
  exact q _ H (.refl H) (.val (.bl _))
 ·cases hf
theorem za7{K:PySem.W.Frag}{W:Addr->Prop}{H:Hp}{ds:List D}{xs:List V}{i:Int}{d:D}(r:Reps K W H ds xs)(h:LW.atI ds i=some d): ∃x,L2.atI xs i=some x/\Rep K W H d x:=by
 unfold LW.atI at h
 unfold L2.atI
 rw[jo1] at h
 obtain⟨j,h1,h2⟩:=h
 obtain⟨x,e,q⟩:=r.get h2
 refine⟨x,?_,q⟩
 rw[<-r.length]
 rw[jo1]
 exact⟨j,h1,e⟩
theorem za8{value slice:Expr}{pins:List (Addr×Obj)}{s:Shared}{σ:St}{H:Hp}{a:Addr}{y v:V}{u:Value}{Q:VK}(hu:X.A.units+64<cLine)(I:Inv X pins σ H s)(g:DGet H a y (some v))(ry:RelV y u)(q:Q v H)
  (hs:subscripted slice false (.ref a) u=operate [.ref a,u] (getItem (.ref a) u)):wpAny (model X.prog X.w) X.A (subscriptTail value slice (.ref a) u) (EP X pins σ Q) X.xe s:=by
 have hT:=zhB I g
 unfold subscriptTail
 refine wpAny_bind ?_
 rw[getitemInPython_of_ne hT.not_modules]
 refine wpAny_bind (wpAny_specialOf hT PySem.F.slot_dict_getitem.lookup ?_)
 have fin:wpAny (model X.prog X.w) X.A (subscripted slice false (.ref a) u) (fun r s₃=>wpAny (model X.prog X.w) X.A (letTemporaryGo value (.ref a) r >>= fun _=>pure r) (EP X pins σ Q) X.xe s₃) X.xe s:=by
  rw[hs]
  refine wpAny_operating (wpAny_mono (zhy (Q:=EP X pins σ Q) (by omega) I g ry fun w' s' I' rv=>⟨v,H,I',rv,q⟩) (fun r s₃ h₃=>wpAny_bind (wpAny_letTemporaryGo (wpAny_pure h₃))) fun _ _ x=>x)
 first
  |exact wpAny_pure (wpAny_bind fin)
  |exact wpAny_bind (wpAny_pure (wpAny_bind fin))
  |exact wpAny_pure (wpAny_bind (wpAny_pure (wpAny_bind fin)))
  |exact wpAny_bind (wpAny_bind (wpAny_pure fin))
theorem ziX(hu:X.A.units+64<cLine):IxR X (yR X.K (zh .idx)):=by
 rintro value slice pins s σ H x y v u Q I rx ry ⟨W,ds,r,wf,hs,hf,q⟩ hsub
 obtain⟨d,e,rfl,h1,h2⟩:=xP hs
 replace hf:jt [d,e]=some r:=hf
 unfold jt at hf
 split at hf
 ·rename_i t ks vs k z;cases z
  split at hf
  ·rename_i hk
   rw[jo2] at hf
   obtain⟨d',e1,rfl⟩:=hf
   cases t with
   |false=>
    cases e with
    |int i=>
     cases h2.int
     obtain⟨a,ns,ys,rfl,rfl,hH,hl,rp⟩:=h1.dK
     cases rx
     obtain⟨y,e2,ry'⟩:=za4 hl rp e1
     exact za8 hu I (by rw[<-e2];exact .inl ⟨_,.inl i,hH,rfl,rfl⟩) ry (q _ H (.refl H) (.val ry')) hsub
    |_=>simp[yQ] at hk
   |true=>
    cases e with
    |tup l=>
     obtain⟨ms,hms⟩: ∃ms,ints? l=some ms:=by simp only[yQ,Option.isSome_iff_exists] at hk;exact hk
     obtain⟨b,xs,rfl,hb,rpb⟩:=h2.tupH
     obtain⟨a,ns,ys,rfl,rfl,hH,hl,rp⟩:=h1.dT
     cases rx
     have z1:=rpb.ofInts hms
     have z2:=Zk hms
     subst z1 z2
     obtain⟨y,e2,ry'⟩:=ziU hl rp e1
     exact za8 hu I (by rw[<-e2];exact DGet.t (k:=ms.map Sum.inl) hH (by rw[hb,YM])) ry (q _ H (.refl H) (.val ry')) hsub
    |_=>simp[yQ] at hk
  ·cases hf
 ·rename_i l i z;cases z
  rw[jo2] at hf
  obtain⟨d,e1,rfl⟩:=hf
  obtain⟨p,xs,rfl,hp,rp⟩:=h1.tup
  cases h2.int
  obtain⟨z,e2,rz⟩:=za7 rp e1
  exact zho value slice pins s σ H _ _ v u Q I rx ry ⟨p,xs,i,z,rfl,rfl,hp,e2,q _ H (.refl H) (.val rz)⟩ hsub
 ·rename_i l i z;cases z
  rw[jo2] at hf
  obtain⟨d,e1,rfl⟩:=hf
  obtain⟨p,xs,rfl,hp,rp⟩:=h1.lst
  cases h2.int
  obtain⟨z,e2,rz⟩:=za7 rp e1
  exact zhn value slice pins s σ H _ _ v u Q I rx ry ⟨p,xs,i,z,rfl,rfl,hp,e2,q _ H (.refl H) (.val rz)⟩ hsub
 ·cases hf
theorem xo:CallR X (.builtin "len") (VR X.K (zh .len)):=by
 rintro pins s σ H xs us Q I rv ⟨W,ds,r,wf,hs,hf,q⟩
 replace hf:QU ds=some r:=hf
 unfold QU at hf
 split at hf
 ·cases hf
  cases hs with
  |cons h1 t=>
   cases t
   obtain⟨p,ys,rfl,hp,rp⟩:=h1.tup
   refine zas pins s σ H _ us Q I rv ⟨p,ys,rfl,.inr hp,?_⟩
   rw[<-rp.length]
   exact q _ H (.refl H) (.val (.int _))
 ·cases hf
  cases hs with
  |cons h1 t=>
   cases t
   obtain⟨p,ys,rfl,hp,rp⟩:=h1.lst
   refine zas pins s σ H _ us Q I rv ⟨p,ys,rfl,.inl hp,?_⟩
   rw[<-rp.length]
   exact q _ H (.refl H) (.val (.int _))
 ·cases hf
theorem Zo:CallR X (.builtin "abs") (VR X.K (zh .abs)):=by
 rintro pins s σ H xs us Q I rv ⟨W,ds,r,wf,hs,hf,q⟩
 replace hf:QV ds=some r:=hf
 unfold QV at hf
 split at hf
 ·cases hf
  cases hs with
  |cons h1 t=>
   cases t
   cases h1.int
   exact zgQ pins s σ H _ us Q I rv ⟨_,rfl,q _ H (.refl H) (.val (.int _))⟩
 ·cases hf
theorem ziY(hc:X.calm=true):CallR X (.builtin "min") (VR X.K (zh .min2)):=by
 rintro pins s σ H xs us Q I rv ⟨W,ds,r,wf,hs,hf,q⟩
 replace hf:QW ds=some r:=hf
 unfold QW at hf
 split at hf
 ·cases hf
  cases hs with
  |cons h1 t=>
   cases t with
   |cons h2 t=>
    cases t
    cases h1.int;cases h2.int
    exact zgS hc pins s σ H _ us Q I rv ⟨_,_,rfl,q _ H (.refl H) (.val (.int _))⟩
 ·cases hf
theorem za9(hc:X.calm=true):CallR X (.builtin "max") (VR X.K (zh .max2)):=by
 rintro pins s σ H xs us Q I rv ⟨W,ds,r,wf,hs,hf,q⟩
 replace hf:QX ds=some r:=hf
 unfold QX at hf
 split at hf
 ·cases hf
  cases hs with
  |cons h1 t=>
   cases t with
   |cons h2 t=>
    cases t
    cases h1.int;cases h2.int
    exact zgR hc pins s σ H _ us Q I rv ⟨_,_,rfl,q _ H (.refl H) (.val (.int _))⟩
 ·cases hf
theorem kj:CallR X (.type "list") (VR X.K (zh .toList)):=by
 rintro pins s σ H xs us Q I rv ⟨W,ds,r,wf,hs,hf,q⟩
 replace hf:QZ ds=some r:=hf
 unfold QZ at hf
 split at hf
 ·cases hf
  cases hs with
  |cons h1 t=>
   cases t
   obtain⟨p,ys,rfl,hp,rp⟩:=h1.tup
   exact zat pins s σ H _ us Q I rv ⟨p,ys,rfl,.inr hp,fun l hl=>q _ _ (yX hl _) (vV hl rp)⟩
 ·cases hf
  cases hs with
  |cons h1 t=>
   cases t
   obtain⟨p,ys,rfl,hp,rp⟩:=h1.lst
   exact zat pins s σ H _ us Q I rv ⟨p,ys,rfl,.inl hp,fun l hl=>q _ _ (yX hl _) (vV hl rp)⟩
 ·cases hf
theorem ziZ:CallR X (.type "tuple") (VR X.K (zh .toTup)):=by
 rintro pins s σ H xs us Q I rv ⟨W,ds,r,wf,hs,hf,q⟩
 replace hf:ka ds=some r:=hf
 unfold ka at hf
 split at hf
 ·cases hf
  cases hs with
  |cons h1 t=>
   cases t
   obtain⟨p,ys,rfl,hp,rp⟩:=h1.tupH
   exact zau pins s σ H _ us Q I rv ⟨p,ys,rfl,.inr ⟨.of hp,q _ H (.refl H) (.val (.tup hp rp))⟩⟩
 ·cases hf
  cases hs with
  |cons h1 t=>
   cases t
   obtain⟨p,ys,rfl,hp,rp⟩:=h1.lst
   exact zau pins s σ H _ us Q I rv ⟨p,ys,rfl,.inl ⟨hp,fun l hl=>q _ _ (yX hl _) (kf hl rp)⟩⟩
 ·cases hf
end
end L2.LW
set_option maxHeartbeats 4000000
namespace L2.LW
open PySem PySem.Spec PyProof.Rows
structure IE (X:Cx)(fn:Nat->List D->Option SV)(e:Expr)(c:E):Prop where
 h:PE X e (tE X.K fn c)
structure IA (X:Cx)(fn:Nat->List D->Option SV)(es:List Expr)(cs:Es):Prop where
 h:PA X es (zaX X.K fn cs)
structure IT (X:Cx)(fn:Nat->List D->Option SV)(e:Expr)(c:E):Prop where
 h:PT X e (tT X.K fn c)
structure IW (X:Cx)(fn:Nat->List D->Option SV)(e:Expr)(c:E):Prop where
 h:PW X e (tT X.K fn c)
theorem Res.back{K:PySem.W.Frag}{W:Addr->Prop}{H H1 H2:Hp}{r:SV}{v:V}(h:Res K W H1 H2 r v)(s:Same H H1):Res K W H H2 r v:=by
 cases h with
 |val h=>exact .val h
 |new h e r=>exact .new (s.free h) e r
 |see h e r=>exact .see h e r
theorem R.wf'{K:PySem.W.Frag}{W:Addr->Prop}{ρ:LW.Env}{σ:St}{H H':Hp}(r:R K W ρ σ H)(s:Same H H'):Wf W H':=(r.same s).wf
theorem km{K:PySem.W.Frag}{W:Addr->Prop}{H:Hp}: ∀{rs:List SV} {vs:List V},Paired (Frz K W H) rs vs->Paired (Sees K W H) (rs.map zN) vs
 |_,_,.nil=>.nil
 |_,_,.cons h t=>.cons h.sees (km t)
theorem kn{K:PySem.W.Frag}{W:Addr->Prop}{H:Hp}: ∀{rs:List SV} {vs:List V} {ds:List D},Paired (Frz K W H) rs vs->xL rs=some ds->Reps K W H ds vs
 |_,_,_,.nil,e=>by simp[xL] at e;subst e;exact .nil
 |_,_,_,.cons h t,e=>by
  simp only[xL,jo1,jo2] at e
  obtain⟨d,e1,ds,e2,rfl⟩:=e
  exact .cons (h.toD e1) (kn t e2)
section
variable {es:List Expr} {env:PySem.Env}
theorem zf{a b}:starEach (.Name a b::es) env=(false,eval (.Name a b) env)::starEach es env:=rfl
theorem zA{a b c}:starEach (.Constant a b c::es) env=(false,eval (.Constant a b c) env)::starEach es env:=rfl
theorem yM{a b c d}:starEach (.BinOp a b c d::es) env=(false,eval (.BinOp a b c d) env)::starEach es env:=rfl
theorem yj{a b c d}:starEach (.Call a b c d::es) env=(false,eval (.Call a b c d) env)::starEach es env:=rfl
theorem yN{a b c}:starEach (.Subscript a b c::es) env=(false,eval (.Subscript a b c) env)::starEach es env:=rfl
theorem xh{a b c}:starEach (.Tuple a b c::es) env=(false,eval (.Tuple a b c) env)::starEach es env:=rfl
theorem ko{a b}:starEach (.List a b::es) env=(false,eval (.List a b) env)::starEach es env:=rfl
theorem Zp{a b c d}:starEach (.ListComp a b c d::es) env=(false,eval (.ListComp a b c d) env)::starEach es env:=rfl
theorem zu{pos:Pos}:(backTo pos (starEach [] env)).any (·.1)=false:=rfl
theorem zC{pos:Pos}{e:Expr}(h:starEach (e::es) env=(false,eval e env)::starEach es env)(t:(backTo pos (starEach es env)).any (·.1)=false):(backTo pos (starEach (e::es) env)).any (·.1)=false:=by
 rw[h];simpa [backTo] using t
theorem kq{a b}: ∀whole,isTrue (.Name a b) env whole=(do let v <-whole;standAt (Expr.Name a b).pos;holding [v] (truthy v)):=fun _=>rfl
theorem wU{a b c d}: ∀whole,isTrue (.Call a b c d) env whole=(do let v <-whole;standAt (Expr.Call a b c d).pos;holding [v] (truthy v)):=fun _=>rfl
end
section
variable {X:Cx} {fn:Nat->List D->Option SV} {a b c e:Expr} {ca cb cc ce:E} {es:List Expr} {cs:Es} {pos p:Pos} {x:Str}
theorem IE.v(h:IE X fn e ce):PE X e (tV X.K fn ce):=h.h.imp fun σ H Q ⟨W,ρ,r,hR,he,q⟩=>⟨W,ρ,r,hR,he,fun v H' s x=>q v H' s (x.frz hR.wf)⟩
theorem zo{i:Int}{j:Nat}:IE X fn (.Constant (.int i) j pos) (.int i):=.mk <| zfE.imp fun σ H Q zz3=>by
 obtain⟨W,ρ,r,hR,he,q⟩:=zz3
 simp only[zaN] at he;cases he;exact q _ H (.refl H) (.val (.int i))
theorem VT{i:Bool}{j:Nat}:IE X fn (.Constant (.bool i) j pos) (.bl i):=.mk <| zfF.imp fun σ H Q zz3=>by
 obtain⟨W,ρ,r,hR,he,q⟩:=zz3
 simp only[zij] at he;cases he;exact q _ H (.refl H) (.val (.bl i))
theorem YN{j:Nat}:IE X fn (.Constant .none j pos) .non:=.mk <| zfG.imp fun σ H Q zz3=>by
 obtain⟨W,ρ,r,hR,he,q⟩:=zz3
 simp only[zik] at he;cases he;exact q _ H (.refl H) (.val .non)
theorem ze(i:Nat)(hN:X.N[i]? =some x)(hv:zn X.env.scope x)(hd:(x==("__debug__":Str))=false:=by decide)(hcd:(x==("__classdict__":Str))=false:=by decide):IE X fn (.Name x pos) (.var i):=
 .mk <| (vE hN hv hd hcd).imp fun σ H Q zz3=>by
  obtain⟨W,ρ,r,hR,he,q⟩:=zz3
  simp only[zil] at he
  obtain⟨v,h1,_,h3⟩:=hR.look he
  exact⟨v,h1,q v H (.refl H) h3⟩
theorem jw{i:Int}{t:Tok}(hg:Gl X x)(hm:X.mg x=some (.int i t))(hd:(x==("__debug__":Str))=false:=by decide):IE X fn (.Name x pos) (.int i):=
 .mk <| (zfH hg hm (v:=.int i) ⟨t,rfl⟩ hd).imp fun σ H Q zz3=>by
  obtain⟨W,ρ,r,hR,he,q⟩:=zz3
  simp only[zaN] at he;cases he;exact q _ H (.refl H) (.val (.int i))
theorem zk:IA X fn [] .nil:=.mk <| Zb.imp fun σ H Q zz3=>by
 obtain⟨W,ρ,rs,hR,he,q⟩:=zz3
 simp only[xN] at he;cases he;exact q _ H (.refl H) .nil
theorem zg(ha:IE X fn e ce)(hr:IA X fn es cs)(hs:starEach (e::es) X.env=(false,eval e X.env)::starEach es X.env:=by rfl):IA X fn (e::es) (.cons ce cs):=
 .mk <| (jo ha.v hr.h hs).imp fun σ H Q zz3=>by
  obtain⟨W,ρ,rs,hR,he,q⟩:=zz3
  simp only[xO,jo1,jo2] at he
  obtain⟨r,e1,rs',e2,rfl⟩:=he
  exact⟨W,ρ,r,hR,e1,fun v H1 s1 f1=>⟨W,ρ,rs',hR.same s1,e2,fun vs H2 s2 f2=>q _ H2 (s1.trans s2) (.cons (f1.same s2) f2)⟩⟩
theorem YO{K:PySem.W.Frag}{p:Prim}{W:Addr->Prop}{ρ:LW.Env}{σ:St}{H H1:Hp}{Q:VK}{rs:List SV}{vs:List V}{r:SV}(hR:R K W ρ σ H)(s1:Same H H1)(f:Paired (Frz K W H1) rs vs)
  (e:zh p (rs.map zN)=some r) (q: ∀v H',Same H H'->Res K W H H' r v->Q v H'):VR K (zh p) vs H1 Q:=
 ⟨W,rs.map zN,r,hR.wf' s1,km f,e,fun v H' s2 h=>q v H' (s1.trans s2) (h.back s1)⟩
theorem VU{K:PySem.W.Frag}{p:Prim}{ρ:LW.Env}{σ:St}{H:Hp}{Q:VK}{W:Addr->Prop}{r:SV}(hR:R K W ρ σ H)(he:zm fn (.prim p (.cons ca (.cons cb .nil))) ρ=some r)(q: ∀v H',Same H H'->Res K W H H' r v->Q v H'):
  Yg (yR K (zh p)) (tV K fn ca) (tV K fn cb) σ H Q:=by
 simp only[wD,xN,xO,jo1,jo2] at he
 obtain⟨rs,⟨r1,e1,rs',⟨r2,e2,rs'',e3,rfl⟩,rfl⟩,e4⟩:=he
 cases e3
 exact⟨W,ρ,r1,hR,e1,fun v1 H1 s1 f1=>⟨W,ρ,r2,hR.same s1,e2,fun v2 H2 s2 f2=>YO hR (s1.trans s2) (.cons (f1.same s2) (.cons f2 .nil)) e4 q⟩⟩
theorem zO{op:Operator}{pr:Prim}(ho:OpR X (binaryOp op) (yR X.K (zh pr)))(ha:IE X fn a ca)(hb:IE X fn b cb):IE X fn (.BinOp a op b pos) (.prim pr (.cons ca (.cons cb .nil))):=
 .mk <| (zgr ho ha.v hb.v).imp fun σ H Q ⟨W,ρ,r,hR,he,q⟩=>VU hR he q
theorem VV{op:UnaryOp}{pr:Prim}(ho:Yf X (unaryOp op) (zaY X.K (zh pr)))(ha:IE X fn a ca):IE X fn (.UnaryOp op a pos) (.prim pr (.cons ca .nil)):=
 .mk <| (zgs ho ha.v).imp fun σ H Q zz3=>by
  obtain⟨W,ρ,r,hR,he,q⟩:=zz3
  simp only[wD,xN,xO,jo1,jo2] at he
  obtain⟨rs,⟨r1,e1,rs',e3,rfl⟩,e4⟩:=he
  cases e3
  exact⟨W,ρ,r1,hR,e1,fun v1 H1 s1 f1=>YO hR s1 (.cons f1 .nil) e4 q⟩
theorem Zq{op:CmpOp}{pr:Prim}(ho:OpR X (compareOp op) (yR X.K (zh pr)))(ha:IE X fn a ca)(hb:IE X fn b cb)(hm:behindInMarks op b=false):IE X fn (.Compare a [op] [b] pos) (.prim pr (.cons ca (.cons cb .nil))):=
 .mk <| (zgJ ho ha.v hb.v hm).imp fun σ H Q ⟨W,ρ,r,hR,he,q⟩=>VU hR he q
theorem yv(hu:X.A.units+64<cLine)(ha:IE X fn a ca)(hb:IE X fn b cb)(hs:zar b):IE X fn (.Subscript a b pos) (.prim .idx (.cons ca (.cons cb .nil))):=
 .mk <| (zhk (ziX hu) ha.v hb.v hs).imp fun σ H Q ⟨W,ρ,r,hR,he,q⟩=>VU hR he q
theorem zba{K:PySem.W.Frag}{pr:Prim}{ρ:LW.Env}{σ:St}{H:Hp}{Q:VK}{W:Addr->Prop}{r:SV}(hR:R K W ρ σ H)(he:zm fn (.prim pr cs) ρ=some r)(q: ∀v H',Same H H'->Res K W H H' r v->Q v H'):
  QM (VR K (zh pr)) (zaX K fn cs) σ H Q:=by
 simp only[wD,jo1] at he
 obtain⟨rs,e1,e2⟩:=he
 exact⟨W,ρ,rs,hR,e1,fun vs H1 s1 f=>YO hR s1 f e2 q⟩
theorem yk{id:String}{pr:Prim}(hc:CallR X (.builtin id) (VR X.K (zh pr)))(hg:Gl X x)(hm:X.mg x=none)(hv:bootBuiltins x=some (.builtin id))(ha:IA X fn (e::es) cs)(hn:x≠"__name__":=by decide)(hdb:(x==("__debug__":Str))=false:=by decide)
  (he:starEach (e::es) X.env=(false,eval e X.env)::starEach es X.env:=by rfl) (hpl:(backTo pos (starEach es X.env)).any (·.1)=false:=by rfl):IE X fn (.Call (.Name x p) (e::es) [] pos) (.prim pr cs):=
 .mk <| (QN hc hg hm hv ha.h hn hdb he hpl).imp fun σ H Q ⟨W,ρ,r,hR,h,q⟩=>zba hR h q
theorem VW{T:String}{pr:Prim}(hc:CallR X (.type T) (VR X.K (zh pr)))(hg:Gl X x)(hm:X.mg x=none)(hv:bootBuiltins x=some (.type T))(ha:IA X fn (e::es) cs)(hn:x≠"__name__":=by decide)(hdb:(x==("__debug__":Str))=false:=by decide)
  (he:starEach (e::es) X.env=(false,eval e X.env)::starEach es X.env:=by rfl) (hpl:(backTo pos (starEach es X.env)).any (·.1)=false:=by rfl):IE X fn (.Call (.Name x p) (e::es) [] pos) (.prim pr cs):=
 .mk <| (zg5 hc hg hm hv ha.h hn hdb he hpl).imp fun σ H Q ⟨W,ρ,r,hR,h,q⟩=>zba hR h q
theorem kr{K:PySem.W.Frag}{W:Addr->Prop}{H:Hp}: ∀{rs:List SV} {ds:List D},xL rs=some ds->ds.length=rs.length
 |[],_,e=>by simp[xL] at e;subst e;rfl
 |r::rs,_,e=>by
  simp only[xL,jo1,jo2] at e
  obtain⟨d,e1,ds,e2,rfl⟩:=e
  simp[kr (K:=K) (W:=W) (H:=H) e2]
noncomputable def YQ:Es->Nat
 | .nil=>0
 | .cons _ r=>YQ r+1
theorem ku: ∀{cs:Es} {ρ:LW.Env} {rs:List SV},yd fn cs ρ=some rs->rs.length=YQ cs
 | .nil,_,_,e=>by simp only[xN] at e;cases e;rfl
 | .cons c cs,_,_,e=>by
  simp only[xO,jo1,jo2] at e
  obtain⟨r,e1,rs',e2,rfl⟩:=e
  simp[YQ,ku e2]
theorem yV{k:Nat}(h:IA X fn es cs)(hl:YQ cs<=1000:=by decide):IE X fn (.Tuple es k pos) (.tup cs):=
 .mk <| (zgY h.h).imp fun σ H Q zz3=>by
  obtain⟨W,ρ,r,hR,he,q⟩:=zz3
  simp only[zim,jo1,jo2] at he
  obtain⟨rs,e1,ds,e2,rfl⟩:=he
  refine⟨W,ρ,rs,hR,e1,fun vs H1 s1 f=>?_⟩
  have r1:=kn f e2
  have l1:=r1.length
  have l2:=kr (K:=X.K) (W:=W) (H:=H) e2
  have l3:=ku e1
  exact⟨Nat.le_of_lt (Yn (by omega)),fun p hp=>q _ _ (s1.trans (yX hp _)) ((kf hp r1).back s1)⟩
theorem xz(h:IA X fn es cs)(hl:YQ cs<=1000:=by decide):IE X fn (.List es pos) (.lst cs):=
 .mk <| (zgZ h.h).imp fun σ H Q zz3=>by
  obtain⟨W,ρ,r,hR,he,q⟩:=zz3
  simp only[zin,jo1,jo2] at he
  obtain⟨rs,e1,ds,e2,rfl⟩:=he
  refine⟨W,ρ,rs,hR,e1,fun vs H1 s1 f=>?_⟩
  have r1:=kn f e2
  have l1:=r1.length
  have l2:=kr (K:=X.K) (W:=W) (H:=H) e2
  have l3:=ku e1
  exact⟨Nat.le_of_lt (Yn (by omega)),fun p hp=>q _ _ (s1.trans (yX hp _)) ((vV hp r1).back s1)⟩
theorem YR{op:BoolOp}(h:IE X fn a ca):IE X fn (.BoolOp op [a] pos) ca:=.mk (zfW h.h)
theorem jx{zT:List Expr}(ha:IE X fn a ca)(hb:IE X fn (.BoolOp .And (b::zT) pos) cb):IE X fn (.BoolOp .And (a::b::zT) pos) (.and ca cb):=
 .mk <| (zfX ha.h hb.h).imp fun σ H Q zz3=>by
  obtain⟨W,ρ,r,hR,he,q⟩:=zz3
  simp only[zio,jo1] at he
  obtain⟨r1,e1,e2⟩:=he
  refine⟨W,ρ,r1,hR,e1,fun v H1 s1 f=>?_⟩
  split at e2
  ·cases f with
   |val h=>
    cases h
    exact⟨true,rfl,by rw[if_pos rfl];exact⟨W,ρ,r,hR.same s1,e2,fun v H2 s2 h=>q v H2 (s1.trans s2) (h.back s1)⟩⟩
  ·cases f with
   |val h=>
    cases h;cases e2
    exact⟨false,rfl,by rw[if_neg Bool.false_ne_true];exact q _ H1 s1 (.val (.bl false))⟩
  ·cases e2
theorem zi0(hc:IT X fn c cc)(ha:IE X fn a ca)(hb:IE X fn b cb):IE X fn (.IfExp c a b pos) (.ite cc ca cb):=
 .mk <| (zfZ hc.h ha.h hb.h).imp fun σ H Q zz3=>by
  obtain⟨W,ρ,r,hR,he,q⟩:=zz3
  simp only[zir,jo1] at he
  obtain⟨k,e1,e2⟩:=he
  refine⟨W,ρ,k,hR,e1,fun H1 s1=>?_⟩
  cases k with
  |true=>rw[if_pos rfl] at e2⊢;exact⟨W,ρ,r,hR.same s1,e2,fun v H2 s2 h=>q v H2 (s1.trans s2) (h.back s1)⟩
  |false=>rw[if_neg Bool.false_ne_true] at e2⊢;exact⟨W,ρ,r,hR.same s1,e2,fun v H2 s2 h=>q v H2 (s1.trans s2) (h.back s1)⟩
theorem zi1{op op':CmpOp}{p q:Prim}(ho:OpR X (compareOp op) (yR X.K (zh p)))(ho':OpR X (compareOp op') (yR X.K (zh q)))(ha:IE X fn a ca)(hb:IE X fn b cb)(hc:IE X fn c cc)
  (hm:lastMarks [op,op'] [b,c]=false:=by with_unfolding_all rfl):IE X fn (.Compare a [op,op'] [b,c] pos) (.chain p q ca cb cc):=
 .mk <| (zgL ho ho' ha.v hb.v hc.v hm).imp fun σ H Q zz3=>by
  obtain⟨W,ρ,r,hR,he,hq⟩:=zz3
  simp only[ziq,jo1] at he
  obtain⟨r1,e1,r2,e2,z,e3,e4⟩:=he
  refine⟨W,ρ,r1,hR,e1,fun v1 H1 s1 f1=>⟨W,ρ,r2,hR.same s1,e2,fun v2 H2 s2 f2=>?_⟩⟩
  refine⟨W,_,z,hR.wf' (s1.trans s2),.cons (f1.same s2).sees (.cons f2.sees .nil),e3,fun v H3 s3 h3=>?_⟩
  split at e4
  ·cases h3 with
   |val h3=>
    cases h3
    simp only[jo1] at e4
    obtain⟨r3,e5,e6⟩:=e4
    refine⟨true,rfl,?_⟩
    rw[if_pos rfl]
    have s13:=(s1.trans s2).trans s3
    refine⟨W,ρ,r3,hR.same s13,e5,fun v4 H4 s4 f4=>?_⟩
    exact⟨W,_,r,hR.wf' (s13.trans s4),.cons ((f2.same s3).same s4).sees (.cons f4.sees .nil),e6,fun v5 H5 s5 h5=>hq v5 H5 (s13.trans (s4.trans s5)) (h5.back (s13.trans s4))⟩
  ·cases h3 with
   |val h3=>
    cases h3;cases e4
    exact⟨false,rfl,by rw[if_neg Bool.false_ne_true];exact hq _ H3 ((s1.trans s2).trans s3) (.val (.bl false))⟩
  ·cases e4
theorem IW.t(h:IW X fn e ce):IT X fn e ce:=.mk (PW.pt h.h)
theorem zbb(h:IT X fn a ca):IW X fn (.BoolOp .And [a] pos) ca:=.mk (zfQ h.h)
theorem Zr(h:IT X fn a ca):IW X fn (.BoolOp .Or [a] pos) ca:=.mk (zfR h.h)
theorem zbc{zT:List Expr}(ha:IT X fn a ca)(hb:IW X fn (.BoolOp .And (b::zT) pos) cb):IW X fn (.BoolOp .And (a::b::zT) pos) (.and ca cb):=
 .mk <| (zfS ha.h hb.h).imp fun σ H Q zz3=>by
  obtain⟨W,ρ,k,hR,he,q⟩:=zz3
  simp only[ziu,jo1] at he
  obtain⟨k1,e1,e2⟩:=he
  refine⟨W,ρ,k1,hR,e1,fun H1 s1=>?_⟩
  cases k1 with
  |true=>rw[if_pos rfl] at e2⊢;exact⟨W,ρ,k,hR.same s1,e2,fun H2 s2=>q H2 (s1.trans s2)⟩
  |false=>rw[if_neg Bool.false_ne_true] at e2⊢;cases e2;exact q H1 s1
theorem Zs{zT:List Expr}(ha:IT X fn a ca)(hb:IW X fn (.BoolOp .Or (b::zT) pos) cb):IW X fn (.BoolOp .Or (a::b::zT) pos) (.or ca cb):=
 .mk <| (zfT ha.h hb.h).imp fun σ H Q zz3=>by
  obtain⟨W,ρ,k,hR,he,q⟩:=zz3
  simp only[ziv,jo1] at he
  obtain⟨k1,e1,e2⟩:=he
  refine⟨W,ρ,k1,hR,e1,fun H1 s1=>?_⟩
  cases k1 with
  |true=>rw[if_pos rfl] at e2⊢;cases e2;exact q H1 s1
  |false=>rw[if_neg Bool.false_ne_true] at e2⊢;exact⟨W,ρ,k,hR.same s1,e2,fun H2 s2=>q H2 (s1.trans s2)⟩
theorem vI(ha:IT X fn a ca):IT X fn (.UnaryOp .Not a pos) (.not ca):=
 .mk <| (zfU ha.h).imp fun σ H Q zz3=>by
  obtain⟨W,ρ,k,hR,he,q⟩:=zz3
  simp only[ziw,jo2] at he
  obtain⟨k1,e1,rfl⟩:=he
  exact⟨W,ρ,k1,hR,e1,fun H1 s1=>q H1 s1⟩
noncomputable def VX:Prim->Bool
 | .eq=>true| .ne=>true| .lt=>true| .le=>true| .gt=>true| .ge=>true| .inn=>true| .nin=>true| .isN=>true| .notN=>true| .eqS=>true| .neS=>true
 |_=>false
theorem kw{b:Bool}{r:SV}(h:yF b=some r):r= .val (.bl b):=by cases h;rfl
theorem zbd{p:Prim}(hp:VX p=true){ds:List D}{r:SV}(h:zh p ds=some r): ∃b,r= .val (.bl b):=by
 cases p<;>first|cases hp|skip
 all_goals
  simp only[zh] at h
  first|unfold zaI at h|unfold zaJ at h|unfold Yp at h|unfold Yq at h|unfold Yr at h|unfold VA at h|unfold VB at h|unfold zaF at h|unfold QT at h|unfold vG at h|unfold zaG at h|unfold zaH at h
  split at h
  all_goals first
   |exact⟨_,kw h⟩
   |cases h
   |(split at h<;>first|exact⟨_,kw h⟩|cases h)
   |(simp only[jo1] at h;obtain⟨_,_,_,_,h⟩:=h;exact⟨_,kw h⟩)
theorem yS{op:CmpOp}{pr:Prim}(hp:VX pr=true)(ho:OpR X (compareOp op) (yR X.K (zh pr)))(ha:IE X fn a ca)(hb:IE X fn b cb)(hm:behindInMarks op b=false):IT X fn (.Compare a [op] [b] pos) (.prim pr (.cons ca (.cons cb .nil))):=
 .mk <| (zgK ho ha.v hb.v hm).imp fun σ H Q zz3=>by
  obtain⟨W,ρ,k,hR,he,q⟩:=zz3
  have he':(zm fn (.prim pr (.cons ca (.cons cb .nil))) ρ).bind yB=some k:=by
   rw[VM] at he
   rw[wD]
   simp only[jo1] at he⊢
   obtain⟨rs,e1,r,e2,e3⟩:=he
   exact⟨r,⟨rs,e1,e2⟩,e3⟩
  rw[jo1] at he'
  obtain⟨r,e1,e2⟩:=he'
  have e1':=e1
  rw[wD] at e1'
  simp only[jo1] at e1'
  obtain⟨rs,_,e3⟩:=e1'
  obtain⟨b,rfl⟩:=zbd hp e3
  simp only[yB] at e2
  cases e2
  exact VU hR e1 fun v H' s h=>by
   cases h with
   |val h=>cases h;exact⟨_,rfl,q H' s⟩
theorem zi2{op op':CmpOp}{p q:Prim}(hp:VX p=true)(hq':VX q=true)(ho:OpR X (compareOp op) (yR X.K (zh p)))(ho':OpR X (compareOp op') (yR X.K (zh q)))(ha:IE X fn a ca)(hb:IE X fn b cb)(hc:IE X fn c cc)
  (hm:lastMarks [op,op'] [b,c]=false:=by with_unfolding_all rfl):IT X fn (.Compare a [op,op'] [b,c] pos) (.chain p q ca cb cc):=
 .mk <| (zgM ho ho' ha.v hb.v hc.v hm).imp fun σ H Q zz3=>by
  obtain⟨W,ρ,k,hR,he,hq⟩:=zz3
  simp only[ziy,jo1] at he
  obtain⟨r1,e1,r2,e2,z,e3,e4⟩:=he
  refine⟨W,ρ,r1,hR,e1,fun v1 H1 s1 f1=>⟨W,ρ,r2,hR.same s1,e2,fun v2 H2 s2 f2=>?_⟩⟩
  refine⟨W,_,z,hR.wf' (s1.trans s2),.cons (f1.same s2).sees (.cons f2.sees .nil),e3,fun v H3 s3 h3=>?_⟩
  split at e4
  ·cases h3 with
   |val h3=>
    cases h3
    simp only[jo1] at e4
    obtain⟨r3,e5,r4,e6,e7⟩:=e4
    refine⟨true,rfl,?_⟩
    rw[if_pos rfl]
    have s13:=(s1.trans s2).trans s3
    refine⟨W,ρ,r3,hR.same s13,e5,fun v4 H4 s4 f4=>?_⟩
    refine⟨W,_,r4,hR.wf' (s13.trans s4),.cons ((f2.same s3).same s4).sees (.cons f4.sees .nil),e6,fun v5 H5 s5 h5=>?_⟩
    obtain⟨b5,rfl⟩:=zbd hq' e6
    simp only[yB] at e7
    cases e7
    cases h5 with
    |val h5=>cases h5;exact⟨_,rfl,hq H5 (s13.trans (s4.trans s5))⟩
  ·cases h3 with
   |val h3=>
    cases h3;cases e4
    exact⟨false,rfl,by rw[if_neg Bool.false_ne_true];exact⟨false,rfl,hq H3 ((s1.trans s2).trans s3)⟩⟩
  ·cases e4
theorem zi3{K:PySem.W.Frag}{W:Addr->Prop}{H:Hp}{r:SV}{v:V}{k:Bool}(f:Frz K W H r v)(h:yB r=some k):QJ K v H k:=by
 unfold yB at h
 split at h
 ·cases h;cases f with|val f=>cases f;rfl
 ·cases h;cases f with|val f=>cases f;rfl
 ·cases h;cases f with|val f=>cases f;rfl
 ·rename_i l
  cases h
  obtain⟨a,xs,rfl,hq,rp⟩:=Frz.sees f |>.tup
  refine .inr (.inl ⟨xs,hq,?_⟩)
  cases rp<;>rfl
 ·cases h
  obtain⟨a,xs,rfl,hq,rp⟩:=Frz.sees f |>.lst
  refine .inl ⟨xs,hq,?_⟩
  cases rp<;>rfl
 ·cases h
  obtain⟨a,xs,rfl,hq,rp⟩:=Frz.sees f |>.lst
  refine .inl ⟨xs,hq,?_⟩
  cases rp<;>rfl
 ·cases h
theorem wk(hE:IE X fn e ce)(hev: ∀ρ,zF fn ce ρ=(zm fn ce ρ).bind yB)(he: ∀whole,isTrue e X.env whole=(do let v <-whole;standAt e.pos;holding [v] (truthy v)):=by intro _;rfl):IT X fn e ce:=
 .mk <| (zgP hE.v he).imp fun σ H Q zz3=>by
  obtain⟨W,ρ,k,hR,ht,q⟩:=zz3
  rw[hev,jo1] at ht
  obtain⟨r,e1,e2⟩:=ht
  exact⟨W,ρ,r,hR,e1,fun v H1 s1 f=>⟨k,zi3 f e2,q H1 s1⟩⟩
theorem kz(i:Nat): ∀ρ,zF fn (.var i) ρ=(zm fn (.var i) ρ).bind yB:=fun ρ=>id rfl
theorem VY(p:Prim)(cs:Es): ∀ρ,zF fn (.prim p cs) ρ=(zm fn (.prim p cs) ρ).bind yB:=fun ρ=>by rw[VM,wD,Option.bind_assoc]
theorem jy(f:Nat)(cs:Es): ∀ρ,zF fn (.call f cs) ρ=(zm fn (.call f cs) ρ).bind yB:=fun ρ=>by rw[ziz,zaO,Option.bind_assoc]
end
end L2.LW
set_option maxHeartbeats 4000000
namespace L2.LW
open PySem PySem.Spec PyProof.Rows
noncomputable def kA(K:PySem.W.Frag)(fn:Nat->List D->Option SV)(i:Nat):Sp:=fun vs H Q _=>∃W ds r,Wf W H/\Reps K W H ds vs/\fn i ds=some r/\∀v H',Same H H'->Res K W H H' r v->Q v H'
structure ARep (K:PySem.W.Frag)(W:Addr->Prop)(H:Hp)(io:List Nat)(ds:List D)(vs:List V):Prop where
 len:ds.length=vs.length
 val: ∀(k:Nat) (d:D),ds[k]? =some d->k∉io->∃v,vs[k]? =some v/\Rep K W H d v
 obj: ∀(k:Nat) (d:D),ds[k]? =some d->k∈io->∃a o,vs[k]? =some (.ref a)/\W a/\H a=some o/\ORep K W H d o
 inj: ∀(j k:Nat) (a:Addr),j∈io->k∈io->vs[j]? =some (.ref a)->vs[k]? =some (.ref a)->j=k
noncomputable def kB(io:List Nat)(vs:List V)(a:Addr):Prop:=∃k∈io,vs[k]? =some (.ref a)
noncomputable def zbe(K:PySem.W.Frag)(W:Addr->Prop)(H:Hp)(io:List Nat)(vs:List V)(outs:List D):Prop:=
 Paired (fun k d=>∃a o,vs[k]? =some (.ref a)/\H a=some o/\ORep K W H d o) io outs
noncomputable def zZ(K:PySem.W.Frag)(fa:Nat->List D->Option Ans)(i:Nat)(io:List Nat):Sp:=fun vs H Q _=>∃W ds r outs,Wf W H/\ARep K W H io ds vs/\fa i ds=some (.ok r outs)/\
 ∀v H',(∀a o,H a=some o->¬kB io vs a->H' a=some o)->zbe K W H' io vs outs->Res K W H H' r v->Q v H'
theorem Reps.get'{K:PySem.W.Frag}{W:Addr->Prop}{H:Hp}{ds:List D}{vs:List V}(r:Reps K W H ds vs):ARep K W H [] ds vs:=
 ⟨r.length,fun k d h _=>r.get h,fun k d _ h=>(by cases h),fun j k a h=>(by cases h)⟩
theorem zbf{fa:Nat->List D->Option Ans}{i:Nat}{ds:List D}{r:SV}(h:zP fa i ds=some r):fa i ds=some (.ok r []):=by
 unfold zP at h
 split at h
 ·rename_i r' e;cases h;exact e
 ·cases h
theorem zQ{Pg:Program}{w:World}{K:PySem.W.Frag}{mg:Str->Option Value}{base:Heap}{k:Nat}{f:Addr}{fd:FuncData}{ps:List Str}{fa:Nat->List D->Option Ans}{i:Nat}{io:List Nat}
  (F:FnOk Pg w K mg base zD k f fd ps (zZ K fa i io)) (h:io=[]):FnOk Pg w K mg base zD k f fd ps (kA K (zP fa) i):=by
 subst h
 exact F.imp fun vs H Q E ⟨W,ds,r,wf,rp,e,q⟩=>⟨W,ds,r,[],wf,rp.get',zbf e,fun v H' k _ res=>q v H' (fun a o h=>k a o h fun ⟨_,z,_⟩=>by cases z) res⟩
theorem zbg{K:PySem.W.Frag}{W:Addr->Prop}{H:Hp}: ∀{rs:List SV} {vs:List V},Paired (Frz K W H) rs vs->rs.any SV.lent=false->Reps K W H (rs.map zN) vs
 |_,_,.nil,_=>.nil
 |_,_,.cons h t,e=>by
  simp only[List.any_cons,Bool.or_eq_false_iff] at e
  refine .cons ?_ (zbg t e.2)
  cases h with
  |val h=>exact h
  |lis h e' r=>exact r.rep h e'
  |see h e' r=>simp[SV.lent] at e
theorem zbh{K:PySem.W.Frag}{W:Addr->Prop}{H:Hp}: ∀{rs:List SV} {vs:List V},Paired (Frz K W H) rs vs->Reps K (fun _=>False) H (rs.map zN) vs
 |_,_,.nil=>.nil
 |_,_,.cons h t=>by
  refine .cons ?_ (zbh t)
  cases h with
  |val h=>exact h.less fun _ z=>z.elim
  |lis h e' r=>exact (r.less fun _ z=>z.elim).rep (fun z=>z) e'
  |see h e' r=>exact (r.less fun _ z=>z.elim).rep (fun z=>z) e'
theorem Res.plain{K:PySem.W.Frag}{W W':Addr->Prop}{H H':Hp}{r:SV}{v:V}(h:Res K W' H H' r v)(wf: ∀a,W' a->W a)(p:r.plain=true):Res K W H H' r v:=by
 cases h with
 |val h=>exact .val (h.plain p)
 |new h e r=>exact .new h e (r.plain p)
 |see h e r=>exact .see (wf _ h) e (r.plain p)
section
variable {X:Cx} {fn:Nat->List D->Option SV} {fuel:Nat} {a b c e:Expr} {ca cb cc ce:E} {es:List Expr} {cs:Es} {pos p:Pos} {x:Str}
theorem zR{k:Nat}{f:Addr}{fd:FuncData}{ps:List Str}{i:Nat}(F:FnOk X.prog X.w X.K X.mg X.base zD k f fd ps (kA X.K fn i))(hr:Room k X.A)(hg:Gl X x)(hm:X.mg x=some (.ref f))(hk:PySem.W.keepIn X.K (.ref f)=true)
  (hb:Binds X.K fd ps []) (ha:IA X fn (e::es) cs) (hdb:(x==("__debug__":Str))=false:=by decide) (he:starEach (e::es) X.env=(false,eval e X.env)::starEach es X.env:=by rfl)
  (hpl:(backTo pos (starEach es X.env)).any (·.1)=false:=by rfl):IE X fn (.Call (.Name x p) (e::es) [] pos) (.call i cs):=
 .mk <| (zg2 F hr hg hm hk hb .nil zhU ha.h hdb he hpl).imp fun σ H Q zz3=>by
  obtain⟨W,ρ,r,hR,h,q⟩:=zz3
  simp only[zaO,jo1,wr] at h
  obtain⟨rs,e1,r',e2,e3⟩:=h
  split at e3
  ·cases e3
  ·rename_i hc
   cases e3
   refine⟨W,ρ,rs,hR,e1,fun vs H1 s1 f=>?_⟩
   show kA X.K fn i (vs++[]) H1 Q E0
   rw[List.append_nil]
   cases hl:rs.any SV.lent with
   |false=>exact⟨W,_,r,hR.wf' s1,zbg f hl,e2,fun v H' s2 h=>q v H' (s1.trans s2) (h.back s1)⟩
   |true=>
    have hp:r.plain=true:=by
     cases hp:r.plain with
     |true=>rfl
     |false=>exact absurd (by rw[hl,hp];rfl) hc
    exact⟨fun _=>False,_,r,fun _ z=>z.elim,zbh f,e2,fun v H' s2 h=>q v H' (s1.trans s2) ((h.plain (fun _ z=>z.elim) hp).back s1)⟩
section
variable {K:PySem.W.Frag} {W:Addr->Prop} {ρ:LW.Env} {σ:St} {H H':Hp} {i j:Nat} {d:D} {v:V}
theorem yT{α:Type}{l:List α}{i j:Nat}{x y:α}(h:(l.set i x)[j]? =some y):(i=j/\y=x/\j<l.length)\/(i≠j/\l[j]? =some y):=by
 rw[List.getElem?_set] at h
 split at h
 ·rename_i e
  subst e
  split at h
  ·cases h;exact .inl ⟨rfl,rfl,by assumption⟩
  ·cases h
 ·exact .inr ⟨by assumption,h⟩
theorem jz{α:Type}{l:List α}{i:Nat}{x:α}(h:i<l.length):(l.set i x)[i]? =some x:=by simp[h]
theorem xQ{α:Type}{l:List α}{i j:Nat}{x:α}(h:i≠j):(l.set i x)[j]? =l[j]? :=List.getElem?_set_ne h
theorem R.set_val(r:R K W ρ σ H)(h:Rep K W H d v):R K W (ρ.set i (some (.val d))) (σ.set i (some v)) H:=by
 refine⟨fun j e hj=>?_,fun j e hj=>?_,fun j x e hj hc=>?_,fun j k x y e1 e2 a h1 h2 c1 c2 h3 h4=>?_,r.wf,by simpa using r.len⟩
 ·rcases yT hj with ⟨rfl,z,hl⟩|⟨n,z⟩
  ·cases z
   exact⟨v,jz (by rw[<-r.len];exact hl),h⟩
  ·obtain⟨u,h1,h2⟩:=r.val j e z
   exact⟨u,by rw[xQ n];exact h1,h2⟩
 ·rcases yT hj with ⟨rfl,z,hl⟩|⟨n,z⟩
  ·cases z
  ·exact r.nol j e z
 ·rcases yT hj with ⟨rfl,z,hl⟩|⟨n,z⟩
  ·cases z;cases hc
  ·obtain⟨a,o,h1,h2⟩:=r.own j x e z hc
   exact⟨a,o,by rw[xQ n];exact h1,h2⟩
 ·rcases yT h1 with ⟨rfl,z,hl⟩|⟨n,z⟩
  ·cases z;cases c1
  ·rcases yT h2 with ⟨rfl,z',hl⟩|⟨n',z'⟩
   ·cases z';cases c2
   ·rw[xQ n] at h3
    rw[xQ n'] at h4
    exact r.inj j k x y e1 e2 a z z' c1 c2 h3 h4
theorem zi4{a:Addr}(h:wc (ρ.set i (some (.val d))) (σ.set i (some v)) a):wc ρ σ a:=by
 obtain⟨j,x,e,h1,hc,h2⟩:=h
 rcases yT h1 with ⟨rfl,z,hl⟩|⟨n,z⟩
 ·cases z;cases hc
 ·rw[xQ n] at h2
  exact⟨j,x,e,z,hc,h2⟩
theorem YS{x:SV}(hx: ∀d,x≠ .io d)(hf: ¬xT ρ i)(j:Nat):(xT (ρ.set i (some x)) j↔xT ρ j)/\(xT ρ j->i≠j):=by
 refine⟨⟨fun ⟨d,h⟩=>?_,fun ⟨d,h⟩=>?_⟩,fun h e=>hf (by rw[e];exact h)⟩
 ·rcases yT h with ⟨rfl,z,hl⟩|⟨n,z⟩
  ·cases z;exact absurd rfl (hx d)
  ·exact⟨d,z⟩
 ·exact⟨d,by rw[xQ (fun e=>hf (by rw[e];exact⟨d,h⟩))];exact h⟩
theorem VZ(r:R K W ρ σ H)(s:Same H H')(h:Rep K W H' d v)(hf: ¬xT ρ i):SPost K W ρ σ H W (ρ.set i (some (.val d))) (σ.set i (some v)) H':=
 ⟨(r.same s).set_val h,fun a o q _=>s a o q,fun a w=>.inl w,fun a w n=>⟨w,fun z=>n (zi4 z)⟩,fun j=>⟨(YS (x:=.val d) (fun _ z=>(nomatch z)) hf j).1,fun z=>xQ ((YS (x:=.val d) (fun _ z=>(nomatch z)) hf j).2 z)⟩⟩
theorem zi5{a:Addr}(wf:Wf W H)(s:Same H H'){o:HO}(e:H' a=some o):Wf (add W a) H':=fun b w=>by
 rcases w with w|rfl
 ·cases q:H b with
  |none=>exact absurd q (wf b w)
  |some u=>rw[s b u q];exact fun z=>nomatch z
 ·rw[e];exact fun z=>nomatch z
theorem Ja{a:Addr}(s:Same H H')(h:H a=Option.none):Ext W H (add W a) H':=
 ⟨fun b o q _=>s b o q,fun b xs q=>s b _ q,fun b o u q=>s b _ q,fun b w=>by
  rcases w with w|rfl
  ·exact .inl w
  ·exact .inr h⟩
theorem R.add{a:Addr}{o:HO}(r:R K W ρ σ H)(s:Same H H')(h:H a=Option.none)(e:H' a=some o):R K (LW.add W a) ρ σ H':=by
 refine⟨fun j d hj=>?_,r.nol,fun j x d hj hc=>?_,r.inj,zi5 r.wf s e,r.len⟩
 ·obtain⟨u,h1,h2⟩:=r.val j d hj
  exact⟨u,h1,h2.ext (Ja s h)⟩
 ·obtain⟨b,o,h1,h2,h3,h4⟩:=r.own j x d hj hc
  exact⟨b,o,h1,.inl h2,s _ _ h3,h4.ext (Ja s h)⟩
theorem R.noOwn{a:Addr}(r:R K W ρ σ H)(h:H a=Option.none): ¬wc ρ σ a:=fun z=>by
 obtain⟨_,o,d,e,_⟩:=r.ownW z
 rw[h] at e;cases e
theorem zbi{a:Addr}{o:HO}(r:R K W ρ σ H)(s:Same H H')(h:H a=Option.none)(e:H' a=some o)(rp:ORep K (LW.add W a) H' d o)(hf: ¬xT ρ i):
  SPost K W ρ σ H (LW.add W a) (ρ.set i (some (.obj true d))) (σ.set i (some (.ref a))) H':=by
 have ra:=r.add s h e
 refine⟨⟨fun j d hj=>?_,fun j d hj=>?_,fun j x es hj hc=>?_,fun j k x y e1 e2 b h1 h2 c1 c2 h3 h4=>?_,ra.wf,by simpa using r.len⟩,fun b o q _=>s b o q,(Ja (W:=W) s h).win,fun b w n=>⟨.inl w,fun z=>?_⟩,
  fun j=>⟨(YS (x:=.obj true d) (fun _ z=>(nomatch z)) hf j).1,fun z=>xQ ((YS (x:=.obj true d) (fun _ z=>(nomatch z)) hf j).2 z)⟩⟩
 ·rcases yT hj with ⟨rfl,z,hl⟩|⟨n,z⟩
  ·cases z
  ·obtain⟨u,h1,h2⟩:=ra.val j d z
   exact⟨u,by rw[xQ n];exact h1,h2⟩
 ·rcases yT hj with ⟨rfl,z,hl⟩|⟨n,z⟩
  ·cases z
  ·exact r.nol j d z
 ·rcases yT hj with ⟨rfl,z,hl⟩|⟨n,z⟩
  ·cases z;cases hc
   exact⟨a,o,jz (by rw[<-r.len];exact hl),.inr rfl,e,rp⟩
  ·obtain⟨b,ys,h1,h2⟩:=ra.own j x es z hc
   exact⟨b,ys,by rw[xQ n];exact h1,h2⟩
 ·have other: ∀{k:Nat} {x:SV} {e:D},ρ[k]? =some (some x)->x.cell=some e->σ[k]? =some (some (.ref a))->False:=fun {k x e} q1 q3 q2=>r.noOwn h ⟨k,x,e,q1,q3,q2⟩
  rcases yT h1 with ⟨rfl,z,hl⟩|⟨n,z⟩
  ·rcases yT h2 with ⟨rfl,_,_⟩|⟨n',z'⟩
   ·rfl
   ·rw[jz (by rw[<-r.len];exact hl)] at h3
    cases h3
    rw[xQ n'] at h4
    exact (other z' c2 h4).elim
  ·rcases yT h2 with ⟨rfl,z',hl⟩|⟨n',z'⟩
   ·rw[jz (by rw[<-r.len];exact hl)] at h4
    cases h4
    rw[xQ n] at h3
    exact (other z c1 h3).elim
   ·rw[xQ n] at h3
    rw[xQ n'] at h4
    exact r.inj j k x y e1 e2 b z z' c1 c2 h3 h4
 ·obtain⟨j,x,es,h1,hc,h2⟩:=z
  rcases yT h1 with ⟨rfl,_,hl⟩|⟨n',z'⟩
  ·rw[jz (by rw[<-r.len];exact hl)] at h2
   cases h2
   exact r.wf _ w h
  ·rw[xQ n'] at h2
   exact n ⟨j,x,es,z',hc,h2⟩
noncomputable def Jb(W:Addr->Prop)(a:Addr):Addr->Prop:=fun b=>W b/\b≠a
theorem kC{a:Addr}: ∀b,Jb W a b->W b:=fun _ h=>h.1
theorem kD{a:Addr}{o:Bool}(r:R K W ρ σ H)(h:ρ[j]? =some (some (.obj o d)))(h':σ[j]? =some (some (.ref a))):
  SPost K W ρ σ H (Jb W a) (ρ.set j (some (.val d))) σ H/\Rep K (Jb W a) H d (.ref a):=by
 cases o with
 |false=>exact absurd h (r.nol j d)
 |true=>
 obtain⟨a',o,e1,e2,e3,e4⟩:=r.own j _ d h rfl
 rw[h'] at e1;cases e1
 have rp:Rep K (Jb W a) H d (.ref a):=(e4.less kC).rep (fun z=>z.2 rfl) e3
 have nio: ¬xT ρ j:=fun ⟨d',z⟩=>by rw[h] at z;cases z
 refine⟨⟨⟨fun k d' hk=>?_,fun k d' hk=>?_,fun k x es hk hc=>?_,fun k l x y e1 e2 b h1 h2 c1 c2 h3 h4=>?_,fun b w=>r.wf b w.1,by simpa using r.len⟩,fun b o q _=>q,fun b w=>.inl w.1,fun b w n=>⟨⟨w,fun z=>?_⟩,fun z=>?_⟩,
  fun k=>⟨(YS (x:=.val d) (fun _ z=>(nomatch z)) nio k).1,fun _=>rfl⟩⟩,rp⟩
 ·rcases yT hk with ⟨rfl,z,hl⟩|⟨n,z⟩
  ·cases z;exact⟨_,h',rp⟩
  ·obtain⟨u,h1,h2⟩:=r.val k d' z
   exact⟨u,h1,h2.less kC⟩
 ·rcases yT hk with ⟨rfl,z,hl⟩|⟨n,z⟩
  ·cases z
  ·exact r.nol k d' z
 ·rcases yT hk with ⟨rfl,z,hl⟩|⟨n,z⟩
  ·cases z;cases hc
  ·obtain⟨b,ys,h1,h2,h3,h4⟩:=r.own k x es z hc
   refine⟨b,ys,h1,⟨h2,fun z'=>?_⟩,h3,h4.less kC⟩
   subst z'
   exact n (r.inj j k _ x d es b h z rfl hc h' h1)
 ·rcases yT h1 with ⟨rfl,z,hl⟩|⟨n,z⟩
  ·cases z;cases c1
  ·rcases yT h2 with ⟨rfl,z',hl⟩|⟨n',z'⟩
   ·cases z';cases c2
   ·exact r.inj k l x y e1 e2 b z z' c1 c2 h3 h4
 ·subst z
  exact n ⟨j,_,d,h,rfl,h'⟩
 ·obtain⟨k,x,es,h1,hc,h2⟩:=z
  rcases yT h1 with ⟨rfl,z,hl⟩|⟨n',z⟩
  ·cases z;cases hc
  ·exact n ⟨k,x,es,z,hc,h2⟩
theorem zi6(x:SV)(d:D):(x.put d).cell=some d:=by cases x<;>rfl
theorem zi7(x:SV)(d d':D):x.put d≠ .val d':=by cases x<;>exact fun z=>nomatch z
theorem zi8(x:SV)(d d':D):x.put d≠ .obj false d':=by
 cases x<;>intro z<;>first|cases z|(simp[SV.put] at z)
theorem zbj{x:SV}{d:D}:(∃d',x.put d= .io d')↔∃d',x= .io d':=by
 cases x with
 |io y=>exact⟨fun _=>⟨_,rfl⟩,fun _=>⟨_,rfl⟩⟩
 |_=>exact⟨fun ⟨_,z⟩=>(nomatch z),fun ⟨_,z⟩=>(nomatch z)⟩
theorem Jc{a:Addr}{x:SV}{d0 d':D}{o o':HO}(r:R K W ρ σ H)(h:ρ[i]? =some (some x))(hc:x.cell=some d0)(h':σ[i]? =some (some (.ref a)))(s:Same H H')(e:H' a=some o)(hk:(∀xs,o≠ .tup xs)/\(∀b u,o≠ .frz b u))
  (rp:ORep K W H' d' o'):SPost K W ρ σ H W (ρ.set i (some (x.put d'))) σ (zI H' a o'):=by
 have r':=r.same s
 have hO:wc ρ σ a:=⟨i,x,d0,h,hc,h'⟩
 have hW:W a:=(r.ownW hO).1
 have ext:Ext W H' W (zI H' a o'):=by
  refine⟨fun b o q n=>?_,fun b ys q=>?_,fun b o u q=>?_,fun b w=>.inl w⟩
  ·rw[zJ (fun z=>n (by rw[z];exact hW))];exact q
  ·rw[zJ (fun z=>by rw[z,e] at q;cases q;exact hk.1 _ rfl)];exact q
  ·rw[zJ (fun z=>by rw[z,e] at q;cases q;exact hk.2 _ _ rfl)];exact q
 have old: ∀{k:Nat} {y:SV} {es:D},(ρ.set i (some (x.put d')))[k]? =some (some y)->y.cell=some es->∃y' es',ρ[k]? =some (some y')/\y'.cell=some es':=fun {k y es} q c=>by
  rcases yT q with ⟨rfl,_,_⟩|⟨_,z⟩
  ·exact⟨_,_,h,hc⟩
  ·exact⟨_,_,z,c⟩
 refine⟨⟨fun k d' hk=>?_,fun k d' hk=>?_,fun k y es hk hc'=>?_,fun k l x y e1 e2 b h1 h2 c1 c2 h3 h4=>?_,fun b w=>?_,by simpa using r.len⟩,fun b o q n=>?_,fun b w=>.inl w,fun b w n=>⟨w,fun z=>?_⟩,fun j=>⟨?_,fun _=>rfl⟩⟩
 ·rcases yT hk with ⟨rfl,z,hl⟩|⟨n,z⟩
  ·exact absurd (Option.some.inj z).symm (zi7 _ _ _)
  ·obtain⟨u,h1,h2⟩:=r'.val k d' z
   exact⟨u,h1,h2.ext ext⟩
 ·rcases yT hk with ⟨rfl,z,hl⟩|⟨n,z⟩
  ·exact absurd (Option.some.inj z).symm (zi8 _ _ _)
  ·exact r.nol k d' z
 ·rcases yT hk with ⟨rfl,z,hl⟩|⟨n,z⟩
  ·cases z
   rw[zi6] at hc'
   cases hc'
   exact⟨a,_,h',hW,yL,rp.ext ext⟩
  ·obtain⟨b,ys,h1,h2,h3,h4⟩:=r'.own k y es z hc'
   refine⟨b,ys,h1,h2,?_,h4.ext ext⟩
   rw[zJ (fun z'=>by subst z';exact n (r.inj i k x y d0 es b h z hc hc' h' h1))]
   exact h3
 ·obtain⟨_,_,z1,w1⟩:=old h1 c1
  obtain⟨_,_,z2,w2⟩:=old h2 c2
  exact r.inj k l _ _ _ _ b z1 z2 w1 w2 h3 h4
 ·by_cases z:b=a
  ·subst z;rw[yL];exact fun z=>nomatch z
  ·rw[zJ z];exact r'.wf b w
 ·rw[zJ (fun z=>n (by rw[z];exact hO))]
  exact s b o q
 ·obtain⟨k,y,es,h1,hc',h2⟩:=z
  obtain⟨_,_,z,w⟩:=old h1 hc'
  exact n ⟨k,_,_,z,w,h2⟩
 ·by_cases e:i=j
  ·subst e
   have hl:i<ρ.length:=by
    obtain⟨z,_⟩:=List.getElem?_eq_some_iff.mp h;exact z
   constructor
   ·rintro⟨d',z⟩
    rw[jz hl] at z
    have z:=Option.some.inj (Option.some.inj z)
    obtain⟨d2,w⟩:=zbj.mp ⟨d',z⟩
    exact⟨d2,by rw[h,w]⟩
   ·rintro⟨d2,z⟩
    rw[h] at z
    obtain⟨d3,w⟩:=zbj (d:=d').mpr ⟨d2,Option.some.inj (Option.some.inj z)⟩
    exact⟨d3,by rw[jz hl,w]⟩
  ·unfold xT;rw[xQ e]
end
theorem Ret.back{K:PySem.W.Frag}{W W1 W2:Addr->Prop}{ρ ρ1:LW.Env}{σ σ1:St}{H H1 H2:Hp}{r:SV}{v:V}(p:SPost K W ρ σ H W1 ρ1 σ1 H1)(h:Ret K W1 ρ1 σ1 W2 H2 r v):Ret K W ρ σ W2 H2 r v:=by
 cases h with
 |val h=>exact .val h
 |new h n n' e r=>exact .new h (fun ⟨w,z⟩=>n (p.wout _ w z)) (fun ⟨i,z1,z2⟩=>n' ⟨i,(p.io i).1.mpr z1,by rw[(p.io i).2 z1];exact z2⟩) e r
theorem FlOk.back{K:PySem.W.Frag}{W W1 W2:Addr->Prop}{ρ ρ1 ρ2:LW.Env}{σ σ1 σ2:St}{H H1 H2:Hp}{D:Ends}{fl:Fl}(p:SPost K W ρ σ H W1 ρ1 σ1 H1)(h:FlOk K W ρ σ W2 ρ2 σ2 H2 D fl):FlOk K W1 ρ1 σ1 W2 ρ2 σ2 H2 D fl:=by
 cases fl with
 |rt r=>exact fun v q=>h v (q.back p)
 |_=>exact h
structure IS (X:Cx)(ex:LW.Env->Option (Fl×LW.Env))(st:Stmt):Prop where
 h:PS X st (YJ X.K ex)
structure ISs (X:Cx)(ex:LW.Env->Option (Fl×LW.Env))(st:List Stmt):Prop where
 h:PSs X st (YJ X.K ex)
variable {fa:Nat->List D->Option Ans} {st:Stmt} {sts:List Stmt} {s:S} {ss s1 s2:Ss}
theorem zw:ISs X (zr fa fuel .nil) []:=.mk <| zf3.imp fun D σ H zz3=>by
 obtain⟨W,ρ,x,hR,hx,q⟩:=zz3
 simp only[ziK] at hx;cases hx;exact q W σ H (.same hR (.refl H))
theorem zj(h1:IS X (zL fa fuel s) st)(h2:ISs X (zr fa fuel ss) sts):ISs X (zr fa fuel (.cons s ss)) (st::sts):=
 .mk <| (zf4 h1.h h2.h).imp fun D σ H zz3=>by
  obtain⟨W,ρ,x,hR,hx,q⟩:=zz3
  simp only[ziL,jo1] at hx
  obtain⟨⟨fl,ρ1⟩,e1,e2⟩:=hx
  refine⟨W,ρ,(fl,ρ1),hR,e1,fun W1 σ1 H1 p1=>?_⟩
  cases fl with
  |nx=>exact⟨W1,ρ1,x,p1.r,e2,fun W2 σ2 H2 p2=>FlOk.back p1 (q W2 σ2 H2 (p1.trans p2 hR))⟩
  |br=>cases e2;exact q W1 σ1 H1 p1
  |ct=>cases e2;exact q W1 σ1 H1 p1
  |rt r=>cases e2;exact q W1 σ1 H1 p1
theorem vJ(he:IE X (zP fa) e ce)(hs:swapsWith e Option.none pos.line X.env=pure false:=by rfl):IS X (zL fa fuel (.expr ce)) (.Expr e pos):=
 .mk <| (QE he.h hs).imp fun D σ H zz3=>by
  obtain⟨W,ρ,x,hR,hx,q⟩:=zz3
  simp only[ziA,jo2] at hx
  obtain⟨r,e1,rfl⟩:=hx
  exact⟨W,ρ,r,hR,e1,fun v H1 s1 _=>q W σ H1 (.same hR s1)⟩
theorem zY(i:Nat){pos':Pos}(hN:X.N.Nodup)(hi:X.N[i]? =some x)(hx:zM X.env.scope x)(he:IE X (zP fa) e ce)(hs:swapsWith e (some (.Name x pos')) pos.line X.env=pure false:=by rfl)
  (hf:X.fn x=true\/X.env.scope.names.lookup x=some .local:=by first|exact .inl rfl|exact .inr rfl|assumption):IS X (zL fa fuel (.asg i ce)) (.Assign [.Name x pos'] e pos):=
 .mk <| (zab hN hi hx he.h hs hf).imp fun D σ H zz3=>by
  obtain⟨W,ρ,y,hR,hy,q⟩:=zz3
  simp only[zaR,jo1] at hy
  obtain⟨r,e1,e2⟩:=hy
  split at e2
  ·cases e2
  ·rename_i hl
   cases e2
   simp only[Bool.not_eq_true,Bool.or_eq_false_iff,Bool.not_eq_false'] at hl
   refine⟨W,ρ,r,hR,e1,fun v H1 s1 h=>?_⟩
   cases h with
   |val h=>exact q W _ H1 (VZ hR s1 h (vU hl.2))
   |new h e r=>exact q _ _ H1 (zbi hR s1 h e r (vU hl.2))
   |see h e r=>simp[SV.lent] at hl
theorem zbk(i j:Nat){y:Str}{pos':Pos}(hN:X.N.Nodup)(hi:X.N[i]? =some x)(hx:zM X.env.scope x)(hj:X.N[j]? =some y)(hv:zn X.env.scope y)(hs:swapsWith (.Name y p) (some (.Name x pos')) pos.line X.env=pure false:=by rfl)
  (hf:X.fn x=true\/X.env.scope.names.lookup x=some .local:=by first|exact .inl rfl|exact .inr rfl|assumption) (hd:(y==("__debug__":Str))=false:=by decide) (hcd:(y==("__classdict__":Str))=false:=by decide):
  IS X (zL fa fuel (.mov i j)) (.Assign [.Name x pos'] (.Name y p) pos):=
 .mk <| (zab hN hi hx (vE hj hv hd hcd) hs hf).imp fun D σ H zz3=>by
  obtain⟨W,ρ,z,hR,hz,q⟩:=zz3
  simp only[zaS] at hz
  split at hz
  ·rename_i hfr
   split at hz
   ·rename_i d h
    cases hz
    obtain⟨v,h1,h2⟩:=hR.val j d h
    exact⟨v,h1,q W _ H (VZ hR (.refl H) h2 (vU hfr))⟩
   ·rename_i o ds h
    cases hz
    cases o with
    |false=>exact absurd h (hR.nol j ds)
    |true=>
    obtain⟨a,xs,h1,_⟩:=hR.own j _ ds h rfl
    obtain⟨p1,rp⟩:=kD hR h h1
    exact⟨_,h1,q _ _ H (p1.trans (VZ p1.r (.refl H) rp fun z=>vU hfr ((p1.io _).1.mp z)) hR)⟩
   ·cases hz
  ·cases hz
theorem yA(he:IE X (zP fa) e ce):IS X (zL fa fuel (.ret ce)) (.Return (some e) pos):=
 .mk <| (gX he.h).imp fun D σ H zz3=>by
  obtain⟨W,ρ,y,hR,hy,q⟩:=zz3
  simp only[ziC,jo1] at hy
  obtain⟨r,e1,e2⟩:=hy
  split at e2
  ·cases e2
  ·rename_i hl
   cases e2
   refine⟨W,ρ,r,hR,e1,fun v H1 s1 h=>?_⟩
   cases h with
   |val h=>exact q W σ H1 (.same hR s1) v (.val h)
   |new h e r=>
    refine q _ σ H1 ⟨hR.add s1 h e,fun b o q _=>s1 b o q,(Ja (W:=W) s1 h).win,fun b w n=>⟨.inl w,n⟩,fun _=>⟨.rfl,fun _=>rfl⟩⟩ _ (.new (.inr rfl) (fun z=>hR.wf _ z.1 h) (fun ⟨i,⟨d,z1⟩,z2⟩=>hR.noOwn h ⟨i,_,d,z1,rfl,z2⟩) e r)
   |see h e r=>simp[SV.lent] at hl
theorem wV(i:Nat)(hN:X.N[i]? =some x)(hv:zn X.env.scope x)(hd:(x==("__debug__":Str))=false:=by decide)(hcd:(x==("__classdict__":Str))=false:=by decide):IS X (zL fa fuel (.retV i)) (.Return (some (.Name x p)) pos):=
 .mk <| (gX (vE hN hv hd hcd)).imp fun D σ H zz3=>by
  obtain⟨W,ρ,y,hR,hy,q⟩:=zz3
  simp only[zaV] at hy
  split at hy
  ·rename_i d h
   cases hy
   obtain⟨v,h1,h2⟩:=hR.val i d h
   exact⟨v,h1,q W σ H (.same hR (.refl H)) v (.val h2)⟩
  ·rename_i o ds h
   cases hy
   cases o with
   |false=>exact absurd h (hR.nol i ds)
   |true=>
   obtain⟨a,xs,h1,h2,h3,h4⟩:=hR.own i _ ds h rfl
   refine⟨_,h1,q W σ H ?_ _ (.new h2 (fun z=>z.2 ⟨i,_,ds,h,rfl,h1⟩) (fun zz0=>by
    obtain⟨j,⟨d',z1⟩,z2⟩:=zz0
    have:=hR.inj i j _ _ ds d' a h z1 rfl rfl h1 z2
    subst this
    rw[h] at z1;cases z1) h3 h4)⟩
   have old: ∀{k:Nat} {z:SV},(ρ.set i Option.none)[k]? =some (some z)->ρ[k]? =some (some z):=fun {k z} q=>by
    rcases yT q with ⟨_,w,_⟩|⟨_,w⟩
    ·cases w
    ·exact w
   exact⟨⟨fun k d hk=>hR.val k d (old hk),fun k d hk=>hR.nol k d (old hk),fun k o es hk=>hR.own k o es (old hk),fun k l x y e1 e2 b z1 z2=>hR.inj k l x y e1 e2 b (old z1) (old z2),hR.wf,by simpa using hR.len⟩,fun b o q _=>q,fun b w=>.inl w,fun b w n=>⟨w,fun ⟨k,x,es,z1,c,z2⟩=>n ⟨k,x,es,old z1,c,z2⟩⟩,
    fun k=>⟨⟨fun ⟨d',z⟩=>⟨d',old z⟩,fun ⟨d',z⟩=>⟨d',by rw[xQ (fun e=>by subst e;rw[h] at z;cases z)];exact z⟩⟩,fun _=>rfl⟩⟩
  ·cases hy
theorem Jd:IS X (zL fa fuel .stop) st:=.mk <| zga.imp fun D σ H zz3=>by
 obtain⟨W,ρ,y,hR,hy,q⟩:=zz3
 simp only[ziJ] at hy;cases hy
theorem xA(hc:IT X (zP fa) c cc)(h1:ISs X (zr fa fuel s1) sts)(h2:ISs X (zr fa fuel s2) sts'):IS X (zL fa fuel (.ifs cc s1 s2)) (.If c sts sts' pos):=
 .mk <| (zf8 hc.h h1.h h2.h).imp fun D σ H zz3=>by
  obtain⟨W,ρ,y,hR,hy,q⟩:=zz3
  simp only[ziD,jo1] at hy
  obtain⟨k,e1,e2⟩:=hy
  refine⟨W,ρ,k,hR,e1,fun H1 w1=>?_⟩
  have p1:=SPost.same hR w1
  show if k=true then YJ X.K (zr fa fuel s1) D σ H1 else YJ X.K (zr fa fuel s2) D σ H1
  cases k with
  |true=>rw[if_pos rfl] at e2⊢;exact⟨W,ρ,y,p1.r,e2,fun W2 σ2 H2 p2=>FlOk.back p1 (q W2 σ2 H2 (p1.trans p2 hR))⟩
  |false=>rw[if_neg Bool.false_ne_true] at e2⊢;exact⟨W,ρ,y,p1.r,e2,fun W2 σ2 H2 p2=>FlOk.back p1 (q W2 σ2 H2 (p1.trans p2 hR))⟩
theorem jA(i:Nat){apos cpos:Pos}(hN:X.N[i]? =some x)(hv:zn X.env.scope x)(he:IE X (zP fa) e ce)(hst:starEach [e] X.env=(false,eval e X.env)::starEach [] X.env)(hd:(x==("__debug__":Str))=false)(hcd:(x==("__classdict__":Str))=false)
  (hs:swapsWith (.Call (.Attribute (.Name x p) "append" apos) [e] [] cpos) Option.none pos.line X.env=pure false:=by rfl)
  (hbase:attributeBase (.Name x p) "append" X.env (eval (.Name x p) X.env)=eval (.Name x p) X.env:=by rfl)
  (hline:(apos.endLine==cpos.line)=true:=by rfl):
  IS X (zL fa fuel (.app i ce)) (.Expr (.Call (.Attribute (.Name x p) "append" apos) [e] [] cpos) pos):=
 .mk <| (QE (zax PySem.F.plainAttrs_list PySem.F.slot_list_append PySem.F.type_list_append QP (vE hN hv hd hcd) (jo he.v Zb hst) hbase (by rw[hst];rfl) hline hst zu) hs).imp fun D σ H zz3=>by
  obtain⟨W,ρ,y,hR,hy,q⟩:=zz3
  simp only[zaT] at hy
  split at hy
  ·rename_i x h
   split at hy
   ·rename_i ds hc
    simp only[jo1] at hy
    obtain⟨r,e1,d,e2,e3⟩:=hy
    split at e3
    ·rename_i hl
     cases e3
     obtain⟨a,o,h1,h2,h3,h4⟩:=hR.own i _ _ h hc
     cases h4 with
     |lst h4=>
     rename_i xs
     refine⟨_,h1,.inl ⟨rfl,xs,.of h3⟩,?_⟩
     refine⟨W,ρ,r,hR,e1,fun v H1 w1 f=>?_⟩
     refine⟨a,xs,v,rfl,rfl,w1 _ _ h3,?_,?_⟩
     ·rw[<-h4.length,<-Zj];exact hl
     ·exact q W σ _ (Jc hR h hc h1 w1 (w1 _ _ h3) ⟨fun _ z=>(nomatch z),fun _ _ z=>(nomatch z)⟩ (.lst ((h4.ext (.same w1)).append (.cons (f.toD e2) .nil))))
    ·cases e3
   ·cases hy
  ·cases hy
end
end L2.LW
set_option maxHeartbeats 4000000
namespace L2.LW
open PySem PySem.Spec PyProof.Rows
noncomputable def Yl(K:PySem.W.Frag)(J:It)(W:Addr->Prop)(H:Hp)(ds:List D):Prop:=
 ∀W' H',Ext W H W' H'->∀k:Nat,(k=ds.length->J.stop k H')/\∀d,ds[k]? =some d->J.go k H'/\∀x H'',J.yld k H' x H''->H''=H'/\Rep K W' H' d x
noncomputable def Ys(K:PySem.W.Frag)(J:It)(W:Addr->Prop)(H:Hp)(ds:List D):Prop:=
 ∀W' H',Same H H'->(∀a,W' a->W a\/H a=Option.none)->∀k:Nat,(k=ds.length->J.stop k H')/\∀d,ds[k]? =some d->J.go k H'/\∀x H'',J.yld k H' x H''->H''=H'/\Rep K W' H' d x
theorem Ext.sameW{W W':Addr->Prop}{H H':Hp}(s:Same H H')(w: ∀a,W' a->W a\/H a=Option.none):Ext W H W' H':=⟨fun a o h _=>s a o h,fun a xs h=>s a _ h,fun a o u h=>s a _ h,w⟩
section
variable {K:PySem.W.Frag} {W:Addr->Prop} {H:Hp} {a:Addr} {xs:List V} {ds:List D}
theorem YT{H':Hp}{W':Addr->Prop}(hq:SqL K H' a xs)(rp:Reps K W' H' ds xs)(k:Nat):
  (k=ds.length->(Yd K a).stop k H')/\∀d,ds[k]? =some d->(Yd K a).go k H'/\∀x H'',(Yd K a).yld k H' x H''->H''=H'/\Rep K W' H' d x:=by
 refine⟨fun e=>⟨xs,hq,by rw[<-rp.length,e];exact Nat.le_refl _⟩,fun d e=>?_⟩
 obtain⟨v,e1,e2⟩:=rp.get e
 refine⟨⟨xs,v,hq,e1⟩,fun x H'' ⟨z,y⟩=>⟨z,?_⟩⟩
 have:=y xs hq
 rw[e1] at this
 cases this
 exact e2
theorem kE{H':Hp}{W':Addr->Prop}(hq:SqT K H' a xs)(rp:Reps K W' H' ds xs)(k:Nat):
  (k=ds.length->(Ye K a).stop k H')/\∀d,ds[k]? =some d->(Ye K a).go k H'/\∀x H'',(Ye K a).yld k H' x H''->H''=H'/\Rep K W' H' d x:=by
 refine⟨fun e=>⟨xs,hq,by rw[<-rp.length,e];exact Nat.le_refl _⟩,fun d e=>?_⟩
 obtain⟨v,e1,e2⟩:=rp.get e
 refine⟨⟨xs,v,hq,e1⟩,fun x H'' ⟨z,y⟩=>⟨z,?_⟩⟩
 have:=y xs hq
 rw[e1] at this
 cases this
 exact e2
theorem Je{H':Hp}{W':Addr->Prop}{lo:Int}{n:Nat}(k:Nat):
  (k=((List.range n).map fun (k:Nat)=>D.int (lo+(k:Int))).length->(jn lo n).stop k H')/\
   ∀d,((List.range n).map fun (k:Nat)=>D.int (lo+(k:Int)))[k]? =some d->(jn lo n).go k H'/\∀x H'',(jn lo n).yld k H' x H''->H''=H'/\Rep K W' H' d x:=by
 refine⟨fun e=>?_,fun d e=>?_⟩
 ·rw[List.length_map,List.length_range] at e
  exact Nat.le_of_eq e.symm
 ·rw[List.getElem?_map,jo2] at e
  obtain⟨j,e1,rfl⟩:=e
  obtain⟨h1,h2⟩:=List.getElem?_eq_some_iff.mp e1
  rw[List.length_range] at h1
  rw[List.getElem_range] at h2
  subst h2
  exact⟨h1,fun x H'' ⟨z,y⟩=>⟨z,by rw[y];exact .int _⟩⟩
theorem Zt{W':Addr->Prop}{H':Hp}(h:(¬W a/\Rd H a (.lst xs))\/YI K a xs)(x:Ext W H W' H'):SqL K H' a xs:=by
 rcases h with ⟨n,h|⟨o,h⟩⟩|h
 ·exact .inl (.inl (x.keep _ _ h n))
 ·exact .inl (.inr ⟨o,x.keep _ _ h n⟩)
 ·exact .inr h
end
noncomputable def zi9(K:PySem.W.Frag)(tl:TE):TI:=fun σ H R=>tl σ H fun x H1=>∃a,x= .ref a/\(((∃xs,SqL K H1 a xs)/\R (Yd K a) H1)\/((∃xs,SqT K H1 a xs)/\R (Ye K a) H1))
section
variable {X:Cx} {tg l:Expr}
theorem zbl{tl:TE}(hl:PE X l tl):PI X tg l (zi9 X.K tl):=by
 intro pins s σ H R I h
 refine zB (hl pins s σ H _ I h) fun v s1 ⟨x,H1,I1,r1,q1⟩=>?_
 obtain⟨a,e,q⟩:=q1
 subst e
 cases r1
 rcases q with ⟨⟨xs,hq⟩,q⟩|⟨⟨xs,hq⟩,q⟩
 ·obtain⟨its,rv,p,hz⟩:=I1.list hq
  refine wpAny_pyIter_list p.isList ?_
  refine⟨s1.heap.objs.size,[s1.heap.objs.size],_,_,H1,rfl,I1.kept (t':=s1.toks) fun b o e=>Heap.get?_push_of_some _ e,zgg a _,⟨_,Heap.get?_push_size _ rfl,rfl,rfl⟩,fun b hb=>?_,q⟩
  have e:b=s1.heap.objs.size:=by simpa using hb
  subst e
  exact I1.fpOk (Nat.le_refl _) (I1.hok.fresh (Nat.le_refl _))
 ·obtain⟨its,rv,p,hz⟩:=I1.tuple hq
  refine wpAny_pyIter_tuple (show s1.heap.IsTuple a its.toArray from p) ?_
  refine⟨s1.heap.objs.size,[s1.heap.objs.size],_,_,H1,rfl,I1.kept (t':=s1.toks) fun b o e=>Heap.get?_push_of_some _ e,zgh a _,⟨_,Heap.get?_push_size _ rfl,rfl,rfl⟩,fun b hb=>?_,q⟩
  have e:b=s1.heap.objs.size:=by simpa using hb
  subst e
  exact I1.fpOk (Nat.le_refl _) (I1.hok.fresh (Nat.le_refl _))
end
noncomputable def tI(K:PySem.W.Frag)(fn:Nat->List D->Option SV)(rng:Bool)(src:Es):TI:=fun σ H R0=>∃W ρ rs ds,R K W ρ σ H/\yd fn src ρ=some rs/\yl rng rs=some ds/\
 ∀J H',Same H H'->Ys K J W H' ds->(rs.any SV.lent=false->Yl K J W H' ds)->R0 J H'
structure Src (X:Cx)(fn:Nat->List D->Option SV)(tg e:Expr)(rng:Bool)(src:Es):Prop where
 h:PI X tg e (tI X.K fn rng src)
theorem _root_.L2.PI.imp{X:Cx}{tg l:Expr}{t t':TI}(h:PI X tg l t)(i: ∀σ H Q,t' σ H Q->t σ H Q):PI X tg l t':=fun pins s σ H Q I q=>h pins s σ H Q I (i σ H Q q)
section
variable {X:Cx} {fn:Nat->List D->Option SV} {fuel:Nat} {a b c e tg:Expr} {ca cb cc ce:E} {es:List Expr} {cs:Es} {pos p:Pos} {x:Str}
theorem wW(he:IE X fn e ce):Src X fn tg e false (.cons ce .nil):=
 .mk <| (zbl he.v).imp fun σ H R0 zz3=>by
  obtain⟨W,ρ,rs,ds,hR,h1,h2,q⟩:=zz3
  simp only[xN,xO,jo1,jo2] at h1
  obtain⟨r,e1,rs',e3,rfl⟩:=h1
  cases e3
  simp only[yl] at h2
  refine⟨W,ρ,r,hR,e1,fun v H1 s1 f=>?_⟩
  unfold yW at h2
  split at h2
  ·rename_i l hd
   cases h2
   have hs:=f.sees
   rw[hd] at hs
   obtain⟨a,xs,rfl,hq,rp⟩:=hs.tupH
   refine⟨a,rfl,.inr ⟨⟨xs,.of hq⟩,q _ H1 s1 (fun W' H' s w k=>kE (.of (s _ _ hq)) (rp.ext (.sameW s w)) k) fun _ W' H' x k=>kE (.of (x.tup _ _ hq)) (rp.ext x) k⟩⟩
  ·rename_i l hd
   cases h2
   have hs:=f.sees
   rw[hd] at hs
   obtain⟨a,xs,rfl,hq,rp⟩:=hs.lst
   refine⟨a,rfl,.inl ⟨⟨xs,hq⟩,q _ H1 s1 (fun W' H' s w k=>YT (s.seq hq) (rp.ext (.sameW s w)) k) fun hl W' H' x k=>?_⟩⟩
   have hl':r.lent=false:=by simpa using hl
   cases f with
   |val h=>
    change _=D.lst _ at hd
    subst hd
    cases h with
    |lst h r'=>exact YT (Zt h x) (r'.ext x) k
   |lis h e r'=>
    change _=D.lst _ at hd
    subst hd
    cases r' with
    |lst r'=>exact YT (.of (x.keep _ _ e h)) (r'.ext x) k
   |see h e r'=>simp[SV.lent] at hl'
  ·cases h2
theorem YU(hg:Gl X "range")(hm:X.mg "range"=Option.none)(ha:IA X fn [a] (.cons ca .nil))(hs:starEach [a] X.env=(false,eval a X.env)::starEach [] X.env):Src X fn tg (.Call (.Name "range" p) [a] [] pos) true (.cons ca .nil):=
 .mk <| (zgl hg hm ha.h hs).imp fun σ H R0 zz3=>by
  obtain⟨W,ρ,rs,ds,hR,h1,h2,q⟩:=zz3
  refine⟨W,ρ,rs,hR,h1,fun vs H1 s1 f=>?_⟩
  simp only[xN,xO,jo1,jo2] at h1
  obtain⟨r,e1,rs',e3,rfl⟩:=h1
  cases e3
  obtain⟨v,rfl,g⟩: ∃v,vs=[v]/\Frz X.K W H1 r v:=by
   cases f with
   |cons f t=>cases t;exact⟨_,rfl,f⟩
  clear f
  cases g with
  |val g=>
   cases g with
   |int n=>
    simp only[yl] at h2
    split at h2
    ·rename_i hn
     cases h2
     exact⟨n,rfl,hn.1,hn.2,q _ H1 s1 (fun W' H' s w k=>Je k) fun _ W' H' x k=>Je k⟩
    ·cases h2
   |_=>simp[yl] at h2
  |_=>simp[yl] at h2
theorem zja(hg:Gl X "range")(hm:X.mg "range"=Option.none)(ha:IA X fn [a,b] (.cons ca (.cons cb .nil)))(hs:starEach [a,b] X.env=(false,eval a X.env)::starEach [b] X.env)(hs2:starEach [b] X.env=(false,eval b X.env)::starEach [] X.env):
  Src X fn tg (.Call (.Name "range" p) [a,b] [] pos) true (.cons ca (.cons cb .nil)):=
 .mk <| (zgm hg hm ha.h (by rw[hs,hs2];rfl) hs2).imp fun σ H R0 zz3=>by
  obtain⟨W,ρ,rs,ds,hR,h1,h2,q⟩:=zz3
  refine⟨W,ρ,rs,hR,h1,fun vs H1 s1 f=>?_⟩
  simp only[xN,xO,jo1,jo2] at h1
  obtain⟨r,e1,rs',⟨r2,e2,rs'',e3,rfl⟩,rfl⟩:=h1
  cases e3
  obtain⟨v,v2,rfl,g,f2⟩: ∃v v2,vs=[v,v2]/\Frz X.K W H1 r v/\Frz X.K W H1 r2 v2:=by
   cases f with
   |cons f t=>cases t with
    |cons f' t=>cases t;exact⟨_,_,rfl,f,f'⟩
  clear f
  cases g with
  |val g=>
   cases f2 with
   |val f2=>
    cases g with
    |int n=>
     cases f2 with
     |int m=>
      simp only[yl] at h2
      split at h2
      ·rename_i hn
       cases h2
       exact⟨n,m,rfl,⟨hn.1.1,hn.1.2,hn.2.1,hn.2.2⟩,q _ H1 s1 (fun W' H' s w k=>Je k) fun _ W' H' x k=>Je k⟩
      ·cases h2
     |_=>simp[yl] at h2
    |_=>simp[yl] at h2
   |_=>simp[yl] at h2
  |_=>simp[yl] at h2
theorem kF{α:Type}{l:List α}{k:Nat}{d:α}(h:l[k]? =some d):l.drop k=d::l.drop (k+1):=by
 obtain⟨h1,h2⟩:=List.getElem?_eq_some_iff.mp h
 rw[List.drop_eq_getElem_cons h1,h2]
theorem YV{K:PySem.W.Frag}{J:It}{ds:List D}{i:Nat}{ex:LW.Env->Option (Fl×LW.Env)}{W:Addr->Prop}{ρ:LW.Env}{σ:St}{H:Hp}{x:Fl×LW.Env}{D0:Ends}(hR:R K W ρ σ H)(hfr: ¬xT ρ i)(hy:Yl K J W H ds)
  (hx:ym i ex ds ρ=some x) (q: ∀W' σ' H',SPost K W ρ σ H W' x.2 σ' H'->FlOk K W ρ σ W' x.2 σ' H' D0 x.1):
  ∃Wv:Nat->Nat->St->Hp->Prop,(∃m,Wv 0 m σ H)/\∀k m σ' H',Wv k m σ' H'->
   (J.stop k H'/\D0.nx σ' H')\/(J.go k H'/\∃N:St->Hp->Prop,(∀σ2 H2,N σ2 H2->∃m',m'<m/\Wv (k+1) m' σ2 H2)/\∀v H2,J.yld k H' v H2->Yb i v σ' H2 fun σ2 H2=>YJ K ex { D0 with nx:=N,ct:=N,bk:=D0.nx } σ2 H2):=by
 refine⟨fun k m σ' H'=>m=ds.length-k/\k<=ds.length/\∃W' ρ',SPost K W ρ σ H W' ρ' σ' H'/\ym i ex (ds.drop k) ρ'=some x,⟨_,rfl,Nat.zero_le _,W,ρ,.same hR (.refl H),hx⟩,?_⟩
 rintro k m σ' H' ⟨rfl,hk,W',ρ',p,hf⟩
 obtain⟨hstop,hgo⟩:=hy W' H' (p.ext hR) k
 by_cases hlt:k<ds.length
 ·have hd:ds[k]? =some ds[k]:=by simp[hlt]
  obtain⟨g1,g2⟩:=hgo _ hd
  rw[kF hd,ym,jo1] at hf
  obtain⟨⟨fl,ρ2⟩,e1,e2⟩:=hf
  refine .inr ⟨g1,fun σ2 H2=>(ds.length-(k+1))=ds.length-(k+1)/\k+1<=ds.length/\∃W' ρ',SPost K W ρ σ H W' ρ' σ2 H2/\ym i ex (ds.drop (k+1)) ρ'=some x,fun σ2 H2 h=>⟨_,by omega,h⟩,fun v H2 y=>?_⟩
  obtain⟨rfl,rv⟩:=g2 v H2 y
  have p1:=VZ (i:=i) p.r (.refl H2) rv fun z=>hfr ((p.io i).1.mp z)
  have p01:=p.trans p1 hR
  refine⟨W',_,(fl,ρ2),p1.r,e1,fun W3 σ3 H3 p3=>?_⟩
  have p03:=p01.trans p3 hR
  cases fl with
  |nx=>exact⟨rfl,hlt,W3,ρ2,p03,e2⟩
  |ct=>exact⟨rfl,hlt,W3,ρ2,p03,e2⟩
  |br=>cases e2;exact q W3 σ3 H3 p03
  |rt r=>cases e2;exact fun v hv=>q W3 σ3 H3 p03 v (hv.back p01)
 ·have e:k=ds.length:=by omega
  rw[List.drop_of_length_le (by omega),ym] at hf
  cases hf
  exact .inl ⟨hstop e,q W' σ' H' p⟩
variable {fa:Nat->List D->Option Ans} {sts:List Stmt} {ss:Ss}
theorem jB(i:Nat){rng:Bool}{src:Es}{px:Pos}(hp:PassesOwn (model X.prog X.w) X.A X.env X.xe)(hc:X.calm=true)(hN:X.N.Nodup)(hi:X.N[i]? =some x)(hx:zM X.env.scope x)(hs:Src X (zP fa) (.Name x px) e rng src)(hb:ISs X (zr fa fuel ss) sts)
  (hf:X.fn x=true\/X.env.scope.names.lookup x=some .local:=by first|exact .inl rfl|exact .inr rfl|assumption) (hfo: ∀x,foldedSetIterable e X.env x=pure x:=by intro _;rfl):IS X (zL fa fuel (.for_ i rng src ss)) (.For (.Name x px) e sts [] pos):=
 .mk <| (QG hp hc hs.h (jY hN hi hx hf) hb.h hfo).imp fun D0 σ H zz3=>by
  obtain⟨W,ρ,y,hR,hy,q⟩:=zz3
  simp only[ziE,jo1] at hy
  obtain⟨rs,e1,e2⟩:=hy
  split at e2
  ·cases e2
  ·rename_i hl
   simp only[Bool.not_eq_true,Bool.or_eq_false_iff,Bool.not_eq_false'] at hl
   rw[jo1] at e2
   obtain⟨ds,e3,e4⟩:=e2
   refine⟨W,ρ,rs,ds,hR,e1,e3,fun J H1 s1 _ hyl=>?_⟩
   have p1:=SPost.same hR s1
   exact YV p1.r (vU hl.2) (hyl hl.1) e4 fun W' σ' H' p=>FlOk.back p1 (q W' σ' H' (p1.trans p hR))
theorem jC(i j:Nat){y:Str}{px:Pos}(hp:PassesOwn (model X.prog X.w) X.A X.env X.xe)(hc:X.calm=true)(hN:X.N.Nodup)(hi:X.N[i]? =some x)(hx:zM X.env.scope x)(hj:X.N[j]? =some y)(hv:zn X.env.scope y)(hb:ISs X (zr fa fuel ss) sts)
  (hf:X.fn x=true\/X.env.scope.names.lookup x=some .local:=by first|exact .inl rfl|exact .inr rfl|assumption) (hd:(y==("__debug__":Str))=false:=by decide) (hcd:(y==("__classdict__":Str))=false:=by decide)
  (hfo: ∀x,foldedSetIterable (.Name y p) X.env x=pure x:=by intro _;rfl):IS X (zL fa fuel (.forV i j ss)) (.For (.Name x px) (.Name y p) sts [] pos):=
 .mk <| (QG hp hc (zbl (vE hj hv hd hcd)) (jY hN hi hx hf) hb.h hfo).imp fun D0 σ H zz3=>by
  obtain⟨W,ρ,z,hR,hz,q⟩:=zz3
  simp only[ziG] at hz
  split at hz
  case isFalse=>cases hz
  rename_i hfr
  have hfr:=vU hfr
  simp only[jo1,Zi] at hz
  obtain⟨⟨ds,ρ1⟩,e1,e2⟩:=hz
  split at e1
  ·rename_i d h
   rw[jo2] at e1
   obtain⟨l,e3,e4⟩:=e1
   cases e4
   obtain⟨v,h1,h2⟩:=hR.val j d h
   refine⟨v,h1,?_⟩
   unfold yW at e3
   split at e3
   ·cases e3
    cases h2 with
    |tup hq rp=>exact⟨_,rfl,.inr ⟨⟨_,.of hq⟩,YV hR hfr (fun W' H' x k=>kE (.of (x.tup _ _ hq)) (rp.ext x) k) e2 q⟩⟩
   ·cases e3
    cases h2 with
    |lst hq rp=>exact⟨_,rfl,.inl ⟨⟨_,hq.elim (fun z=>.inl z.2) fun z=>.inr z⟩,YV hR hfr (fun W' H' x k=>YT (Zt hq x) (rp.ext x) k) e2 q⟩⟩
   ·cases e3
  ·rename_i o es h
   cases e1
   cases o with
   |false=>exact absurd h (hR.nol j _)
   |true=>
   obtain⟨a,xs,h1,h2,h3,h4⟩:=hR.own j _ _ h rfl
   cases h4 with
   |lst h4=>
   obtain⟨p1,rp⟩:=kD hR h h1
   refine⟨_,h1,a,rfl,.inl ⟨⟨_,.of h3⟩,?_⟩⟩
   refine YV p1.r (fun z=>hfr ((p1.io i).1.mp z)) (fun W' H' x k=>?_) e2 fun W' σ' H' p=>FlOk.back p1 (q W' σ' H' (p1.trans p hR))
   cases rp with
   |lst hq rp=>exact YT (Zt hq x) (rp.ext x) k
  ·cases e1
theorem YW(hp:PassesOwn (model X.prog X.w) X.A X.env X.xe)(hc:IT X (zP fa) c cc)(hb:ISs X (zr fa fuel ss) sts):IS X (zL fa fuel (.while_ cc ss)) (.While c sts [] pos):=
 .mk <| (zgf hp hc.h hb.h).imp fun D0 σ H zz3=>by
  obtain⟨W,ρ,y,hR,hy,q⟩:=zz3
  simp only[ziH] at hy
  refine⟨fun m σ' H'=>∃W' ρ',SPost X.K W ρ σ H W' ρ' σ' H'/\xS (zF (zP fa) cc) (zr fa fuel ss) m ρ'=some y,⟨fuel,W,ρ,.same hR (.refl H),hy⟩,?_⟩
  rintro m σ' H' ⟨W',ρ',p,hw⟩
  cases m with
  |zero=>simp[xS] at hw
  |succ m=>
   rw[xS,jo1] at hw
   obtain⟨k,e1,e2⟩:=hw
   refine⟨W',ρ',k,p.r,e1,fun H1 s1=>?_⟩
   have p1:=SPost.same p.r s1
   have p01:=p.trans p1 hR
   cases k with
   |false=>
    rw[if_neg Bool.false_ne_true] at e2
    cases e2
    exact zhV (q W' σ' H1 p01)
   |true=>
    rw[if_pos rfl] at e2
    rw[jo1] at e2
    obtain⟨⟨fl,ρ2⟩,e3,e4⟩:=e2
    refine zhW ⟨fun σ2 H2=>∃W' ρ',SPost X.K W ρ σ H W' ρ' σ2 H2/\xS (zF (zP fa) cc) (zr fa fuel ss) m ρ'=some y,fun σ2 H2 h=>⟨m,Nat.lt_succ_self m,h⟩,?_⟩
    refine⟨W',ρ',(fl,ρ2),p1.r,e3,fun W3 σ3 H3 p3=>?_⟩
    have p03:=p01.trans p3 hR
    cases fl with
    |nx=>exact⟨W3,ρ2,p03,e4⟩
    |ct=>exact⟨W3,ρ2,p03,e4⟩
    |br=>cases e4;exact q W3 σ3 H3 p03
    |rt r=>cases e4;exact fun v hv=>q W3 σ3 H3 p03 v (hv.back p01)
end
theorem zbm(io:List Nat): ∀(ds:List D) (k i:Nat),(wj io k ds)[i]? =(ds[i]?).map fun d=>some (if io.contains (k+i) then SV.io d else .val d)
 |[],k,i=>by simp[wj]
 |d::r,k,0=>by simp[wj]
 |d::r,k,i+1=>by
  rw[wj,List.getElem?_cons_succ,zbm io r (k+1) i,List.getElem?_cons_succ]
  have:k+1+i=k+(i+1):=by omega
  rw[this]
theorem Jf(io:List Nat): ∀(ds:List D) (k:Nat),(wj io k ds).length=ds.length
 |[],k=>rfl
 |d::r,k=>by simp[wj,Jf io r (k+1)]
theorem zjb{io:List Nat}{ds:List D}{n:Nat}{i:Nat}{x:SV}(h:(wj io 0 ds++List.replicate n Option.none)[i]? =some (some x)):
  ∃d,ds[i]? =some d/\x=if io.contains i then SV.io d else .val d:=by
 by_cases hi:i<ds.length
 ·rw[List.getElem?_append_left (by rw[Jf];exact hi),zbm,jo2] at h
  obtain⟨d,e1,e2⟩:=h
  rw[Nat.zero_add] at e2
  exact⟨d,e1,(Option.some.inj e2).symm⟩
 ·rw[List.getElem?_append_right (by rw[Jf];omega)] at h
  rw[List.getElem?_replicate] at h
  split at h<;>cases h
theorem Zu{N:List Str}{vs:List V}{i:Nat}{v:V}(h:vs[i]? =some v):(we N vs)[i]? =some (some v):=by
 have hi:i<vs.length:=(List.getElem?_eq_some_iff.mp h).1
 unfold we
 rw[List.getElem?_append_left (by simpa using hi),List.getElem?_map,h]
 rfl
theorem kG{K:PySem.W.Frag}{W W':Addr->Prop}{H':Hp}{ρ':LW.Env}{σ':St}{vs:List V}(hR:R K W' ρ' σ' H')(sub: ∀b,W b->W' b): ∀{io:List Nat} {outs:List D},wt ρ' io=some outs->(∀k∈io,xT ρ' k->∃a,σ'[k]? =some (some (.ref a))/\vs[k]? =some (.ref a))->zbe K W H' io vs outs
 |[],outs,e,_=>by simp only[wt] at e;cases e;exact .nil
 |k::r,outs,e,hs=>by
  simp only[wt] at e
  split at e
  ·rename_i d h
   rw[jo2] at e
   obtain⟨l,e1,rfl⟩:=e
   obtain⟨a,h1,h2⟩:=hs k List.mem_cons_self ⟨d,h⟩
   obtain⟨a',o,h3,_,h5,h6⟩:=hR.own k _ d h rfl
   rw[h1] at h3;cases h3
   exact .cons ⟨a,o,h2,h5,h6.less sub⟩ (kG hR sub e1 fun j hj=>hs j (List.mem_cons_of_mem _ hj))
  ·cases e
theorem yq{Pg:Program}{w:World}{K:PySem.W.Frag}{mg:Str->Option Value}{base:Heap}{x qual:Str}{st:Stmt}{f:Addr}{fd:FuncData}{N ps:List Str}{k n i:Nat}{P:Nat->Option Fn}{fuel:Nat}{F0:Fn}{io:List Nat}
  (F:Fun K x qual st f fd) (S:FnScope N ps (zb st)) (hP:P i=some F0) (hnp:F0.np=ps.length) (hnl:F0.nl=N.length) (hio:F0.io=io) (hiop:io.all (fun k=>decide (k<F0.np))=true) (hxb:F0.xb=Option.none)
  (hbody: ∀(cdv:Value) (A:Around) (outer:List PySem.Env) (s:Shared) (H:Hp) (E:XK),Room k (A.deeper (envOfC qual (zb st) s.heap.objs.size f cdv))->
   ISs (yf zD Pg w K mg base N qual (zb st) f cdv A outer s H E).nox (zr (zq P fuel n) fuel F0.body) (zt st)):
  FnOk Pg w K mg base zD (k+1) f fd ps (zZ K (zq P fuel (n+1)) i io):=by
 subst hio
 have dec: ∀{ds:List D} {r:Ans},zq P fuel (n+1) i ds=some r->ds.length=F0.np/\ju F0.io (zr (zq P fuel n) fuel F0.body (wj F0.io 0 ds++List.replicate (F0.nl-F0.np) Option.none))=some r:=fun {ds r} h=>by
  rw[zq,hP] at h
  simp only[Option.bind_some,hxb] at h
  split at h
  ·exact⟨by assumption,h⟩
  ·cases h
 refine F.ok S (fun vs H Q E h=>?_) (fun cdv A outer s H vs Q E hr h=>⟨_,(hbody cdv A outer s H E hr).h,?_⟩)
 ·obtain⟨W,ds,r,outs,wf,rp,e,_⟩:=h
  rw[<-rp.len,(dec e).1,hnp]
 ·obtain⟨W,ds,r,outs,wf,rp,e,q⟩:=h
  obtain⟨hl,he⟩:=dec e
  have hlv:=rp.len
  have hplN:ps.length<=N.length:=by have:=congrArg List.length S.pre;rw[List.length_take] at this;omega
  generalize hρ:wj F0.io 0 ds++List.replicate (F0.nl-F0.np) Option.none=ρ at he
  have at_: ∀{j:Nat} {x:SV},ρ[j]? =some (some x)->∃d,ds[j]? =some d/\x=if F0.io.contains j then SV.io d else .val d:=fun {j x} h=>by rw[<-hρ] at h;exact zjb h
  have own_io: ∀a,wc ρ (we N vs) a->kB F0.io vs a:=fun a zz1=>by
   obtain⟨j,x,d,h1,hc,h2⟩:=zz1
   obtain⟨d',e1,e2⟩:=at_ h1
   split at e2
   ·rename_i hj
    have hj:j∈F0.io:=by simpa using hj
    obtain⟨b,o,h3,_⟩:=rp.obj j d' e1 hj
    rw[Zu h3] at h2
    cases h2
    exact⟨j,hj,h3⟩
   ·subst e2;cases hc
  have hR:R K W ρ (we N vs) H:=by
   refine⟨fun j d h=>?_,fun j d h=>?_,fun j x d h hc=>?_,fun j k x y d e a h1 h2 c1 c2 h3 h4=>?_,wf,?_⟩
   ·obtain⟨d',e1,e2⟩:=at_ h
    split at e2
    ·cases e2
    ·rename_i hj
     cases e2
     obtain⟨v,h1,h2⟩:=rp.val j d e1 (by simpa using hj)
     exact⟨v,Zu h1,h2⟩
   ·obtain⟨d',e1,e2⟩:=at_ h
    split at e2<;>cases e2
   ·obtain⟨d',e1,e2⟩:=at_ h
    split at e2
    ·rename_i hj
     subst e2;cases hc
     obtain⟨b,o,h3,h4,h5,h6⟩:=rp.obj j d e1 (by simpa using hj)
     exact⟨b,o,Zu h3,h4,h5,h6⟩
    ·subst e2;cases hc
   ·obtain⟨d1,e1,e2⟩:=at_ h1
    obtain⟨d2,e3,e4⟩:=at_ h2
    split at e2
    ·rename_i hj
     split at e4
     ·rename_i hk
      have hj:j∈F0.io:=by simpa using hj
      have hk:k∈F0.io:=by simpa using hk
      obtain⟨b,o,z1,_⟩:=rp.obj j d1 e1 hj
      obtain⟨b',o',z2,_⟩:=rp.obj k d2 e3 hk
      rw[Zu z1] at h3;cases h3
      rw[Zu z2] at h4;cases h4
      exact rp.inj j k _ hj hk z1 z2
     ·subst e4;cases c2
    ·subst e2;cases c1
   ·rw[<-hρ]
    unfold we
    rw[List.length_append,List.length_append,Jf,List.length_map,List.length_replicate,List.length_replicate]
    omega
  cases hx:zr (zq P fuel n) fuel F0.body ρ with
  |none=>rw[hx] at he;cases he
  |some y=>
   rw[hx] at he
   obtain⟨fl,ρ'⟩:=y
   refine⟨W,ρ,(fl,ρ'),hR,hx,fun W' σ' H' p=>?_⟩
   have kp: ∀a o,H a=some o->¬kB F0.io vs a->H' a=some o:=fun b o h n=>p.keep b o h fun z=>n (own_io b z)
   have io_at: ∀k∈F0.io,xT ρ' k->∃a,σ'[k]? =some (some (.ref a))/\vs[k]? =some (.ref a):=fun j hj z=>by
    have z0:=(p.io j).1.mp z
    obtain⟨d0,z1⟩:=z0
    obtain⟨d',e1,e2⟩:=at_ z1
    obtain⟨b,o,h3,_⟩:=rp.obj j d' e1 hj
    exact⟨b,by rw[(p.io j).2 ⟨d0,z1⟩,Zu h3],h3⟩
   have sub: ∀b,W b->W' b:=fun b w=>by
    by_cases hb:wc ρ (we N vs) b
    ·obtain⟨j,x,d,h1,hc,h2⟩:=hb
     obtain⟨d',e1,e2⟩:=at_ h1
     split at e2
     ·subst e2
      obtain⟨d2,z⟩:=(p.io j).1.mpr ⟨d',h1⟩
      obtain⟨a',o,h3,h4,_⟩:=p.r.own j _ d2 z rfl
      rw[(p.io j).2 ⟨d',h1⟩,h2] at h3
      cases h3
      exact h4
     ·subst e2;cases hc
    ·exact (p.wout b w hb).1
   cases fl with
   |br=>cases he
   |ct=>cases he
   |nx=>
    simp only[ju,jo2] at he
    obtain⟨l,e1,e2⟩:=he
    cases e2
    exact q _ H' kp (kG p.r sub e1 io_at) (.val .non)
   |rt r'=>
    simp only[ju,jo2] at he
    obtain⟨l,e1,e2⟩:=he
    cases e2
    intro v hv
    have ho:=kG p.r sub e1 io_at
    cases hv with
    |val h=>exact q v H' kp ho (.val (h.less sub))
    |new h nn n' eL rr=>
     have ha:=(p.win _ h).resolve_left fun w=>nn ⟨w,fun zz0=>by
      obtain⟨j,x,d,h1,hc,h2⟩:=zz0
      obtain⟨d',e1,e2⟩:=at_ h1
      split at e2
      ·subst e2;exact n' ⟨j,⟨d',h1⟩,h2⟩
      ·subst e2;cases hc⟩
     refine q _ H' kp ho (.new ha eL (rr.less fun b w=>?_))
     rcases w with w|rfl
     ·exact sub b w
     ·exact h
end L2.LW
set_option maxHeartbeats 4000000
namespace L2.LW
open PySem PySem.Spec PyProof.Rows
noncomputable def xU(env:PySem.Env):List (Str×NameKind)->List (Str×Addr)->List (Str×Addr)
 |[],acc=>acc
 |(n,k)::r,acc=>if k== .free then xU env r ((n,(env.cells.lookup n).getD 0)::acc) else xU env r acc
theorem zbn(env:PySem.Env): ∀(names:List (Str×NameKind)) (acc:List (Str×Addr)),(∀y∈names,y.2= .free->(env.cells.lookup y.1).isSome=true)->
  (forIn names acc fun (x:Str×NameKind) (cs:List (Str×Addr))=>(if (x.2==NameKind.free)=true then (do let c <-cellOf env x.1;pure (ForInStep.yield ((x.1,c)::cs)):Sem (ForInStep (List (Str×Addr)))) else pure (ForInStep.yield cs)))=(pure (xU env names acc):Sem (List (Str×Addr)))
 |[],acc,_=>rfl
 |(n,k)::r,acc,h=>by
  have ih:=fun acc=>zbn env r acc fun y hy=>h y (List.mem_cons_of_mem _ hy)
  rw[List.forIn_cons]
  by_cases hk:(k==NameKind.free)=true
  ·have hs:=h (n,k) List.mem_cons_self (by simpa using hk)
   obtain⟨c,hc⟩:=Option.isSome_iff_exists.mp hs
   have hc:env.cells.lookup n=some c:=hc
   simp only[hk,if_true,cellOf,hc,xU,Option.getD_some]
   show (forIn r ((n,c)::acc) _:Sem _)=_
   exact ih _
  ·simp only[hk,if_false,xU]
   show (forIn r acc _:Sem _)=_
   exact ih _
theorem zbo{scope:Scope}{env:PySem.Env}(h: ∀y∈scope.names,y.2= .free->(env.cells.lookup y.1).isSome=true):closureFor scope env=pure (xU env scope.names []):=by
 have key:closureFor scope env=((forIn scope.names ([]:List (Str×Addr)) fun (x:Str×NameKind) (cs:List (Str×Addr))=>
  (if (x.2==NameKind.free)=true then (do let c <-cellOf env x.1;pure (ForInStep.yield ((x.1,c)::cs)):Sem (ForInStep (List (Str×Addr)))) else pure (ForInStep.yield cs))) >>= fun cs=>pure cs):=rfl
 rw[key,zbn env scope.names [] h]
 rfl
theorem Jg{env:PySem.Env}{y:Str}{c:Addr}: ∀{names:List (Str×NameKind)} {acc:List (Str×Addr)},(∀z∈names,z.2= .free->(env.cells.lookup z.1).isSome=true)->(xU env names acc).lookup y=some c->
  acc.lookup y=some c\/env.cells.lookup y=some c
 |[],_,_,e=>.inl e
 |(n,k)::r,acc,h,e=>by
  unfold xU at e
  split at e
  ·rename_i hk
   rcases Jg (fun z hz=>h z (List.mem_cons_of_mem _ hz)) e with q|q
   ·rw[List.lookup_cons] at q
    split at q
    ·rename_i hy
     have hy:y=n:=by simpa using hy
     subst hy
     obtain⟨c',hc⟩:=Option.isSome_iff_exists.mp (h (y,k) List.mem_cons_self (by simpa using hk))
     have hc:env.cells.lookup y=some c':=hc
     rw[hc] at q
     cases q
     exact .inr hc
    ·exact .inl q
   ·exact .inr q
  ·exact Jg (fun z hz=>h z (List.mem_cons_of_mem _ hz)) e
theorem kH{env:PySem.Env}{y:Str}: ∀{names:List (Str×NameKind)} {acc:List (Str×Addr)},((acc.lookup y).isSome=true\/(y,NameKind.free)∈names)->((xU env names acc).lookup y).isSome=true
 |[],acc,h=>by
  rcases h with h|h
  ·exact h
  ·cases h
 |(n,k)::r,acc,h=>by
  unfold xU
  split
  ·rename_i hk
   refine kH ?_
   by_cases e:y=n
   ·subst e;exact .inl (by simp)
   ·have hb:(y==n)=false:=by simpa using e
    rcases h with h|h
    ·exact .inl (by rw[List.lookup_cons,hb];exact h)
    ·rcases List.mem_cons.mp h with z|z
     ·cases z;exact absurd rfl e
     ·exact .inr z
  ·rename_i hk
   refine kH ?_
   rcases h with h|h
   ·exact .inl h
   ·rcases List.mem_cons.mp h with z|z
    ·cases z;exact absurd rfl hk
    ·exact .inr z
noncomputable def wm(x:Str)(N:List Str):List Str:=N.map fun y=>if y=x then ("":Str) else y
noncomputable def vm(scope:Scope)(x:Str)(c:Addr)(cl:List (Str×Addr)):List (Str×Addr):=if scope.names.lookup x=some .cell then (x,c)::cl else cl
noncomputable def yr(X:Cx)(scope:Scope)(x:Str)(s₃:Shared)(H₃:Hp)(fp:List Addr)(pins:List (Addr×Obj)):Cx:=
 { X with N:=x::wm x X.N,s₀:=s₃,H₀:=H₃,env:=compEnvC scope (vm scope x (s₃.heap.objs.size+1) (xU X.env scope.names [])) s₃.heap.objs.size X.env,outer:=X.stack,stack:=X.stack,ex:=fp,fn:=fun y=>decide (y=x)&&decide (scope.names.lookup x=some .cell),pn:=X.pn++pins,xe:=fun _ _=>False }
structure CompSc (X:Cx)(scope:Scope)(x:Str):Prop where
 kind:scope.kind= .function
 loc:scope.names.lookup x=some .local\/scope.names.lookup x=some .cell
 names: ∀y∈scope.names,y.2= .local->scope.names.lookup y.1=some .local
 cell1:scope.names.filter (fun y=>y.2== .cell)=if scope.names.lookup x=some .cell then [(x,.cell)] else []
 free: ∀y∈scope.names,y.2= .free->X.env.scope.names.lookup y.1=some .cell\/X.env.scope.names.lookup y.1=some .free
 own: ∀y∈X.N,scope.names.lookup y=some .local->y=x
 none:scope.names.lookup ("":Str)=Option.none
 nd:(x::wm x X.N).Nodup
theorem Jh{y:Str}{k:NameKind}: ∀{l:List (Str×NameKind)},l.lookup y=some k->(y,k)∈l
 |[],h=>by cases h
 |(n,j)::r,h=>by
  rw[List.lookup_cons] at h
  split at h
  ·rename_i e
   have e:y=n:=by simpa using e
   cases h;subst e
   exact List.mem_cons_self
  ·exact List.mem_cons_of_mem _ (Jh h)
theorem Zv{env:PySem.Env}{y:Str}{k:NameKind}: ∀{names:List (Str×NameKind)},
  (names.map fun (z:Str×NameKind)=>match z with|(n,k)=>if (k==NameKind.free&&env.scope.kind== .function&&env.kindOf n==some .cell)=true then (n,NameKind.cell) else (n,k)).lookup y=some k->
  names.lookup y=some k\/(k= .cell/\names.lookup y=some .free)
 |[],h=>by cases h
 |(n,j)::r,h=>by
  rw[List.map_cons,List.lookup_cons] at h
  rw[List.lookup_cons]
  by_cases hc:(j==NameKind.free&&env.scope.kind== .function&&env.kindOf n==some .cell)=true
  ·simp only[hc,if_true] at h
   cases e:y==n with
   |true=>
    rw[e] at h
    cases h
    have hj:j= .free:=by
     simp only[Bool.and_eq_true] at hc
     simpa using hc.1.1
    exact .inr ⟨rfl,by rw[hj]⟩
   |false=>rw[e] at h;exact Zv h
  ·simp only[hc,Bool.false_eq_true,if_false] at h
   cases e:y==n with
   |true=>rw[e] at h;exact .inl h
   |false=>rw[e] at h;exact Zv h
section
variable {X:Cx} {scope:Scope} {x:Str} {s₃:Shared} {H₃:Hp} {fp:List Addr} {pins:List (Addr×Obj)} {σ:St}
theorem CompSc.onlyC(S:CompSc X scope x){y:Str}(h:scope.names.lookup y=some .cell):y=x/\scope.names.lookup x=some .cell:=by
 have hm:(y,NameKind.cell)∈scope.names.filter (fun y=>y.2== .cell):=List.mem_filter.mpr ⟨Jh h,rfl⟩
 rw[S.cell1] at hm
 split at hm
 ·simp at hm;subst hm;exact⟨rfl,h⟩
 ·cases hm
theorem zbp{x:Str}: ∀(names:List (Str×NameKind)) (a:Nat) (acc:List (Str×Addr)) (h:Heap),names.filter (fun y=>y.2== .cell)=[(x,.cell)]->cellsFrom a names acc=(x,a)::acc/\pushCells h names=h.push { cls:=.type "cell",data:=.cell Option.none }
 |[],_,_,_,e=>by cases e
 |(n,k)::r,a,acc,h,e=>by
  have none_: ∀(names:List (Str×NameKind)) (a:Nat) (acc:List (Str×Addr)) (h:Heap),names.filter (fun y=>y.2== .cell)=[]->cellsFrom a names acc=acc/\pushCells h names=h:=by
   intro names
   induction names with
   |nil=>intro a acc h _;exact⟨rfl,rfl⟩
   |cons y r ih=>
    intro a acc h e
    obtain⟨n,k⟩:=y
    rw[List.filter_cons] at e
    split at e
    ·cases e
    ·rename_i hk
     have hk:(k==NameKind.cell)=false:=by simpa using hk
     unfold cellsFrom pushCells
     rw[hk]
     exact ih a acc h e
  rw[List.filter_cons] at e
  split at e
  ·rename_i hk
   injection e with e1 e2
   cases e1
   unfold cellsFrom pushCells
   simp only[beq_self_eq_true,if_true]
   exact none_ r _ _ _ e2
  ·rename_i hk
   have hk:(k==NameKind.cell)=false:=by simpa using hk
   unfold cellsFrom pushCells
   rw[hk]
   exact zbp r a acc h e
theorem zbq: ∀(names:List (Str×NameKind)) (a:Nat) (acc:List (Str×Addr)) (h:Heap),names.filter (fun y=>y.2== .cell)=[]->cellsFrom a names acc=acc/\pushCells h names=h
 |[],_,_,_,_=>⟨rfl,rfl⟩
 |(n,k)::r,a,acc,h,e=>by
  rw[List.filter_cons] at e
  split at e
  ·cases e
  ·rename_i hk
   have hk:(k==NameKind.cell)=false:=by simpa using hk
   unfold cellsFrom pushCells
   rw[hk]
   exact zbq r a acc h e
theorem zbr{M:Model}{A:Around}{E:Value->Shared->Prop}{s:Shared}{globals:Addr}{cl:List (Str×Addr)}{qual:Str}{env:PySem.Env}{Q:PySem.Env->Shared->Prop}(S:CompSc X scope x)
  (h: ∀h₁,h₁.Ns s.heap.objs.size (fun _=>Option.none)->(∀b o,s.heap.get? b=some o->h₁.get? b=some o)->(scope.names.lookup x=some .cell->h₁.IsCell (s.heap.objs.size+1) Option.none)->
   Q (newEnv scope s.heap.objs.size globals (vm scope x (s.heap.objs.size+1) cl) qual Option.none .none (some env) builtinsNs) { s with heap:=h₁ }):
  wpAny M A (newFunctionEnv scope globals cl [] qual Option.none .none (some env)) Q E s:=by
 simp only[newFunctionEnv,Option.isSome_some,if_true]
 refine wpAny_bind (wpAny_alloc ?_)
 refine wpAny_bind (wpAny_layCells _ (fun name kind cells=>by cases hkc:kind==NameKind.cell<;>simp[hkc]) _ _ _ _ ?_)
 rw[List.forIn_nil]
 refine wpAny_bind (wpAny_pure (wpAny_pure ?_))
 rw[show ({ s with heap:=s.heap.push { cls:=.type "dict",data:=.dict #[] } }:Shared).heap.objs.size=s.heap.objs.size+1 from Heap.size_push ..]
 have hc:=S.cell1
 by_cases hx:scope.names.lookup x=some .cell
 ·rw[if_pos hx] at hc
  obtain⟨e1,e2⟩:=zbp (x:=x) scope.names (s.heap.objs.size+1) cl (s.heap.push { cls:=.type "dict",data:=.dict #[] }) hc
  have h':=h (pushCells (s.heap.push { cls:=.type "dict",data:=.dict #[] }) scope.names) ((Heap.Ns.new s.heap (.type "dict")).keeps (pushCells_keeps _ _)) (fun b o e=>pushCells_keeps _ _ b o (Heap.get?_push_of_some _ e)) (fun _=>by
   rw[e2]
   have:(s.heap.push { cls:=.type "dict",data:=.dict #[] }).objs.size=s.heap.objs.size+1:=Heap.size_push ..
   rw[<-this]
   exact⟨_,Heap.get?_push_size _ rfl,rfl⟩)
  rw[e1]
  unfold vm at h'
  rw[if_pos hx] at h'
  exact h'
 ·rw[if_neg hx] at hc
  obtain⟨e1,e2⟩:=zbq scope.names (s.heap.objs.size+1) cl (s.heap.push { cls:=.type "dict",data:=.dict #[] }) hc
  have h':=h (pushCells (s.heap.push { cls:=.type "dict",data:=.dict #[] }) scope.names) ((Heap.Ns.new s.heap (.type "dict")).keeps (pushCells_keeps _ _)) (fun b o e=>pushCells_keeps _ _ b o (Heap.get?_push_of_some _ e)) (fun z=>absurd z hx)
  rw[e1]
  unfold vm at h'
  rw[if_neg hx] at h'
  exact h'
theorem CompSc.cells(S:CompSc X scope x)(ok:X.Ok): ∀y∈scope.names,y.2= .free->(X.env.cells.lookup y.1).isSome=true:=fun y hy hk=>by
 obtain⟨c,hc⟩:=ok.has y.1 (S.free y hy hk)
 rw[hc];rfl
theorem CompSc.look(S:CompSc X scope x)(ok:X.Ok){y:Str}{c:Addr}(h:(yr X scope x s₃ H₃ fp pins).env.cells.lookup y=some c):
  (y=x/\scope.names.lookup x=some .cell/\c=s₃.heap.objs.size+1)\/((y≠x\/scope.names.lookup x≠some .cell)/\X.env.cells.lookup y=some c):=by
 have h:(vm scope x (s₃.heap.objs.size+1) (xU X.env scope.names [])).lookup y=some c:=h
 have old:(xU X.env scope.names []).lookup y=some c->X.env.cells.lookup y=some c:=fun h=>by
  rcases Jg (S.cells ok) h with q|q
  ·cases q
  ·exact q
 unfold vm at h
 split at h
 ·rename_i hc
  rw[List.lookup_cons] at h
  split at h
  ·rename_i e
   cases h
   exact .inl ⟨by simpa using e,hc,rfl⟩
  ·rename_i e
   exact .inr ⟨.inl (by simpa using e),old h⟩
 ·rename_i hc
  exact .inr ⟨.inr hc,old h⟩
theorem CompSc.kindOf(S:CompSc X scope x){y:Str}(h:(yr X scope x s₃ H₃ fp pins).env.kindOf y=some .cell\/(yr X scope x s₃ H₃ fp pins).env.kindOf y=some .free):scope.names.lookup y=some .free\/(y=x/\scope.names.lookup x=some .cell):=by
 rcases h with h|h
 ·rcases Zv (show _=_ from h) with q|⟨_,q⟩
  ·exact .inr (S.onlyC q)
  ·exact .inl q
 ·rcases Zv (show _=_ from h) with q|⟨z,q⟩
  ·exact .inl q
  ·cases z
theorem CompSc.has(S:CompSc X scope x){y:Str}(h:scope.names.lookup y=some .free): ∃c,(yr X scope x s₃ H₃ fp pins).env.cells.lookup y=some c/\(xU X.env scope.names []).lookup y=some c:=by
 obtain⟨c,hc⟩:=Option.isSome_iff_exists.mp (kH (env:=X.env) (names:=scope.names) (acc:=[]) (y:=y) (.inr (Jh h)))
 refine⟨c,?_,hc⟩
 show (vm scope x (s₃.heap.objs.size+1) (xU X.env scope.names [])).lookup y=some c
 unfold vm
 split
 ·rename_i hx
  have:(y==x)=false:=by
   cases e:y==x with
   |false=>rfl
   |true=>
    have e:y=x:=by simpa using e
    subst e;rw[h] at hx;cases hx
  rw[List.lookup_cons,this]
  exact hc
 ·exact hc
theorem kI{env:PySem.Env}{y:Str}: ∀{names:List (Str×NameKind)},names.lookup y=some .cell->
  (names.map fun (z:Str×NameKind)=>match z with|(n,k)=>if (k==NameKind.free&&env.scope.kind== .function&&env.kindOf n==some .cell)=true then (n,NameKind.cell) else (n,k)).lookup y=some .cell
 |[],h=>by cases h
 |(n,j)::r,h=>by
  rw[List.lookup_cons] at h
  rw[List.map_cons,List.lookup_cons]
  by_cases hc:(j==NameKind.free&&env.scope.kind== .function&&env.kindOf n==some .cell)=true
  ·simp only[hc,if_true]
   cases e:y==n with
   |true=>rfl
   |false=>rw[e] at h;exact kI h
  ·simp only[hc,Bool.false_eq_true,if_false]
   cases e:y==n with
   |true=>rw[e] at h;exact h
   |false=>rw[e] at h;exact kI h
theorem CompSc.locX(S:CompSc X scope x):zM (yr X scope x s₃ H₃ fp pins).env.scope x:=by
 rcases S.loc with h|h
 ·exact .inl (lookup_relabel_local h)
 ·exact .inr (kI h)
theorem CompSc.fnX(S:CompSc X scope x):(yr X scope x s₃ H₃ fp pins).fn x=true\/(yr X scope x s₃ H₃ fp pins).env.scope.names.lookup x=some .local:=by
 rcases S.loc with h|h
 ·exact .inr (lookup_relabel_local h)
 ·left
  show (decide (x=x)&&decide (scope.names.lookup x=some .cell))=true
  simp[h]
theorem zbs(S:CompSc X scope x)(I:Inv X pins σ H₃ s₃)(hf: ∀b∈fp,xJ X pins H₃ b)(hlt: ∀b∈fp,b<s₃.heap.objs.size):(yr X scope x s₃ H₃ fp pins).Ok where
 mod:=I.ok.mod
 kind:=S.kind
 glob:=I.ok.glob
 blt:=I.ok.blt
 above:=Nat.le_refl _
 inj:=fun y z c h1 h2=>by
  have old: ∀{y:Str} {c:Addr},X.env.cells.lookup y=some c->c<s₃.heap.objs.size:=fun {y c} h=>by
   obtain⟨v,o,ho,_⟩:=I.cell y c h
   exact Heap.lt_size ho
  rcases S.look I.ok h1 with ⟨e1,_,e2⟩|⟨_,q1⟩
  ·rcases S.look I.ok h2 with ⟨e3,_,e4⟩|⟨_,q2⟩
   ·rw[e1,e3]
   ·have:=old q2;rw[e2] at this;exact absurd this (Nat.not_lt.mpr (Nat.le_succ _))
  ·rcases S.look I.ok h2 with ⟨e3,_,e4⟩|⟨_,q2⟩
   ·have:=old q1;rw[e4] at this;exact absurd this (Nat.not_lt.mpr (Nat.le_succ _))
   ·exact I.ok.inj y z c q1 q2
 has:=fun y h=>by
  rcases S.kindOf h with q|⟨q1,q2⟩
  ·obtain⟨c,hc,_⟩:=S.has (s₃:=s₃) (H₃:=H₃) (fp:=fp) (pins:=pins) q
   exact⟨c,hc⟩
  ·refine⟨s₃.heap.objs.size+1,?_⟩
   show (vm scope x (s₃.heap.objs.size+1) (xU X.env scope.names [])).lookup y=_
   unfold vm
   rw[if_pos q2,q1,List.lookup_cons,beq_self_eq_true]
 cab:=fun y c h hc=>by
  have h:(decide (y=x)&&decide (scope.names.lookup x=some .cell))=true:=h
  rw[Bool.and_eq_true,decide_eq_true_iff,decide_eq_true_iff] at h
  rcases S.look I.ok hc with ⟨_,_,e⟩|⟨q,_⟩
  ·rw[e];exact Nat.le_succ _
  ·exact absurd h (fun z=>q.elim (fun w=>w z.1) fun w=>w z.2)
 hd:=I.ok.hd
 frames:=I.ok.frames
 stk:=.inl rfl
 exf:=fun b hb=>⟨Nat.ne_of_lt (hlt b hb),fun y c h=>by
  rcases S.look I.ok h with ⟨_,_,e⟩|⟨_,q⟩
  ·rw[e];exact fun z=>absurd (z▸hlt b hb) (Nat.not_lt.mpr (Nat.le_succ _))
  ·exact (hf b hb).2.2.2.2.1 y c q⟩
 bs:=I.bs
 bsz:=Nat.le_trans I.ok.bsz I.sz
 noex:=fun b o e hb=>by
  obtain⟨_,_,_,h,_⟩:=hf b hb
  rcases h with h|h
  ·exact I.ok.noex b o e h
  ·exact absurd (Nat.lt_of_lt_of_le (Heap.lt_size e) (Nat.le_trans I.ok.bsz h)) (Nat.lt_irrefl _)
 exfs:=fun b hb hz=>by
  obtain⟨_,h1,h2,_⟩:=hf b hb
  rcases List.mem_cons.mp (I.stkSub b hz) with e|e
  ·exact h1 e
  ·exact h2 e
 funs:=I.stack
 frf:=I.stkFree
theorem zjc{N:List Str}{i:Nat}{y:Str}(h:(wm x N)[i]? =some y): ∃z,N[i]? =some z/\((z=x/\y="")\/(z≠x/\y=z)):=by
 unfold wm at h
 rw[List.getElem?_map,jo2] at h
 obtain⟨z,e1,e2⟩:=h
 refine⟨z,e1,?_⟩
 split at e2
 ·exact .inl ⟨by assumption,e2.symm⟩
 ·exact .inr ⟨by assumption,e2.symm⟩
theorem zbt{h₁:Heap}{tk:Nat}(S:CompSc X scope x)(I:Inv X pins σ H₃ s₃)(hf: ∀b∈fp,xJ X pins H₃ b)(hlt: ∀b∈fp,b<s₃.heap.objs.size)(hns:h₁.Ns s₃.heap.objs.size fun _=>Option.none)
  (hk: ∀b o,s₃.heap.get? b=some o->h₁.get? b=some o) (ve:scope.names.lookup x=some .cell->h₁.IsCell (s₃.heap.objs.size+1) Option.none):Inv (yr X scope x s₃ H₃ fp pins) [] (Option.none::σ) H₃ { s₃ with heap:=h₁,toks:=tk }:=by
 refine⟨zbs S I hf hlt,rfl,I.bare,Un.kept hk,⟨_,hns,fun i y v h1 h2 h3=>?_⟩,fun y c h=>?_,I.hok.fresh (Nat.le_refl _),fun y c h=>?_,fun p hp=>?_,I.hok.kept hk,?_⟩
 ·cases i with
  |zero=>cases h2
  |succ i=>
   have h1:(wm x X.N)[i]? =some y:=h1
   have h2:σ[i]? =some (some v):=h2
   obtain⟨z,e1,e2⟩:=zjc h1
   have vis:scope.names.lookup y=some .local\/scope.names.lookup y=some .free:=by
    rcases h3 with q|q
    ·rcases Zv (show _=_ from q) with q|⟨z,q⟩
     ·exact .inl q
     ·cases z
    ·rcases S.kindOf q with q|⟨q,_⟩
     ·exact .inr q
     ·exfalso
      rcases e2 with ⟨_,z⟩|⟨ne,z⟩
      ·have hx:x="":=q.symm.trans z
       have hn:=S.none
       rw[<-hx] at hn
       rcases S.loc with w|w<;>rw[hn] at w<;>cases w
      ·exact ne (z.symm.trans q)
   rcases e2 with ⟨rfl,rfl⟩|⟨ne,rfl⟩
   ·rw[S.none] at vis
    rcases vis with q|q<;>cases q
   ·rcases vis with q|q
    ·exact absurd (S.own y (List.mem_of_getElem? e1) q) ne
    ·have kx:=S.free _ (Jh q) rfl
     obtain⟨m,_,hl⟩:=I.loc
     obtain⟨u,ru,l⟩:=hl i y v e1 h2 (.inr kx)
     refine⟨u,ru,.inr ⟨?_,?_⟩⟩
     ·rcases h3 with q'|q'
      ·rcases Zv (show _=_ from q') with q'|⟨z,_⟩
       ·rw[q] at q';cases q'
       ·cases z
      ·exact q'
     ·rcases l with ⟨k,_⟩|⟨_,c,hc,hcell'⟩
      ·have k:X.env.scope.names.lookup y=some .local:=k
       rcases kx with z|z
       ·have z:X.env.scope.names.lookup y=some .cell:=z
        rw[z] at k;cases k
       ·have z:X.env.scope.names.lookup y=some .free:=z
        rw[z] at k;cases k
      ·obtain⟨c',hc',hc2⟩:=S.has (s₃:=s₃) (H₃:=H₃) (fp:=fp) (pins:=pins) q
       have e:X.env.cells.lookup y=some c':=by
        rcases Jg (S.cells I.ok) hc2 with q|q
        ·cases q
        ·exact q
       rw[hc] at e
       cases e
       obtain⟨o,ho,hd⟩:=hcell'
       exact⟨c,hc',o,hk _ _ ho,hd⟩
 ·rcases S.look I.ok h with ⟨_,q,e⟩|⟨_,q⟩
  ·rw[e];exact⟨Option.none,ve q⟩
  ·obtain⟨v,o,ho,hd⟩:=I.cell y c q
   exact⟨v,o,hk _ _ ho,hd⟩
 ·rcases S.look I.ok h with ⟨_,q,e⟩|⟨_,q⟩
  ·rw[e];exact I.hok.fresh (Nat.le_succ _)
  ·exact I.freeC y c q
 ·have hp:p∈X.pn++pins:=by simpa [yr] using hp
  obtain⟨e,n,ne,nf,d⟩:=I.pin p hp
  refine⟨hk _ _ e,n,Nat.ne_of_lt (Heap.lt_size e),fun z=>?_,d⟩
  rcases List.mem_cons.mp (I.stkSub _ z) with q|q
  ·exact ne q
  ·exact nf q
 ·show σ.length+1=(x::wm x X.N).length
  unfold wm
  rw[List.length_cons,List.length_map,I.len]
theorem zbu{s':Shared}{h':Heap}{H':Hp}{σ':St}{ps:List (Addr×Obj)}(I:Inv X pins σ H₃ s₃)(hf: ∀b∈fp,xJ X pins H₃ b)(J:Inv (yr X scope x s₃ H₃ fp pins) ps σ' H' s')(hs:Heap.SameBut s₃.heap.objs.size s'.heap h'):
  Inv X pins σ H' { s' with heap:=h' }:=by
 have ne: ∀b o,s₃.heap.get? b=some o->b≠s₃.heap.objs.size:=fun b o e=>Nat.ne_of_lt (Heap.lt_size e)
 have fr:H' s₃.heap.objs.size=Option.none:=J.free
 have same: ∀b,b≠s₃.heap.objs.size->h'.get? b=s'.heap.get? b:=fun b hb=>hs.2 b hb
 refine I.call' (s':={ s' with heap:=h' }) (ch:=fp) J.os ⟨fun b o e n hb hx=>?_,fun b o e n hb hx=>?_,fun b o e n hx=>J.base.free b o e n hx,fun b o e hx=>?_,J.base.tups,J.base.frzs,J.base.tbls⟩ (fun b o e=>?_) J.bare fun b hb=>?_
 ·exact (same b (ne b o e)).trans (J.base.keep b o e n hb hx)
 ·obtain⟨sl,q⟩:=J.base.slot b o e n hb hx
  exact⟨sl,(same b (ne b o e)).trans q⟩
 ·obtain⟨o',q⟩:=J.base.there b o e hx
  exact⟨o',(same b (ne b o e)).trans q⟩
 ·refine (J.hok b o e).stay (fun c v hc q=>(same c ?_).trans q) (fun _ q=>q) fun _ _ q=>q
  intro z
  rcases hc with w|w
  ·rw[<-w,z,fr] at e;cases e
  ·rw[z,fr] at w;cases w
 ·obtain⟨_,h1,_,h3,h4,h5⟩:=hf b hb
  exact⟨h3,h1,h4,h5⟩
end
theorem zbv{prog:Program}{w:World}{A:Around}{E:Result->Shared->Prop}{s:Shared}{elt target iter:Expr}{ifs:List Expr}{scope:Scope}{pos:Pos}{it acc:Value}{env:PySem.Env}(J:Nat->Shared->Prop)
  (turn: ∀n s,J n s->wpAny (model prog w) A (pyNext it) (fun r s1=>match r with
   |Option.none=>E (.ok .next) s1
   |some v=>wpAny (model prog w) A (letOwnedTupleGo target it v) (fun _ s2=>wpAny (model prog w) A (assign target env v) (fun _ s3=>
     wpAny (model prog w) A (forIn ifs true fun c r=>if r=true then do let ok <-isTrue c env (eval c env);pure (ForInStep.yield ok) else pure (ForInStep.yield r)) (fun ok s4=>
      if ok=true then wpAny (model prog w) A (eval elt env) (fun y s5=>wpAny (model prog w) A (call (.builtin "list.append") [acc,y]) (fun _ s6=>∃m,m<n/\J m s6) (fun _ _=>False) s5) (fun _ _=>False) s4
      else ∃m,m<n/\J m s4) (fun _ _=>False) s3) (fun _ _=>False) s2) (fun _ _=>False) s1) (fun _ _=>False) s)
  (n:Nat) (h:J n s):codeAny (model prog w) A (.compLoop (.ListComp elt [⟨target,iter,ifs,0⟩] scope pos) 0 it acc env) E s:=by
 refine codeAny_loop rfl J (fun n s hJ=>?_) n h
 show wpAny _ _ ((compTurn (.ListComp elt [⟨target,iter,ifs,0⟩] scope pos) 0 it acc env).onRaise _) _ _ s
 refine wpAny_noted ?_
 rw[compTurn_list]
 have no: ∀(e:Value) (s':Shared),False->notedBy (model prog w) A env (fun e s'=>E (.error e) s') e s':=fun _ _ z=>z.elim
 refine wpAny_bind (wpAny_standAt (wpAny_bind (wpAny_mono (turn n s hJ) (fun r s1 h1=>?_) no)))
 cases r with
 |none=>exact wpAny_pure h1
 |some v=>
  refine wpAny_bind (wpAny_mono h1 (fun _ s2 h2=>?_) no)
  refine wpAny_bind (wpAny_mono h2 (fun _ s3 h3=>wpAny_bind (wpAny_mono h3 (fun ok s4 h4=>?_) no)) no)
  cases ok with
  |false=>exact wpAny_pure ⟨rfl,h4⟩
  |true=>exact wpAny_bind (wpAny_bind (wpAny_mono h4 (fun y s5 h5=>wpAny_bind (wpAny_mono h5 (fun _ s6 h6=>wpAny_pure (wpAny_pure ⟨rfl,h6⟩)) no)) no))
theorem R.cons{K:PySem.W.Frag}{W:Addr->Prop}{ρ:LW.Env}{σ:St}{H:Hp}{d:D}{v:V}(r:R K W ρ σ H)(h:Rep K W H d v):R K W (some (.val d)::ρ) (some v::σ) H:=by
 refine⟨fun i e hi=>?_,fun i e hi=>?_,fun i x e hi hc=>?_,fun i j x y d e a h1 h2 c1 c2 h3 h4=>?_,r.wf,by simpa using r.len⟩
 ·cases i with
  |zero=>cases hi;exact⟨v,rfl,h⟩
  |succ i=>exact r.val i e hi
 ·cases i with
  |zero=>cases hi
  |succ i=>exact r.nol i e hi
 ·cases i with
  |zero=>cases hi;cases hc
  |succ i=>exact r.own i x e hi hc
 ·cases i with
  |zero=>cases h1;cases c1
  |succ i=>
   cases j with
   |zero=>cases h2;cases c2
   |succ j=>rw[r.inj i j x y d e a h1 h2 c1 c2 h3 h4]
noncomputable def Ji(X:Cx)(fn:Nat->List D->Option SV)(scope:Scope)(x:Str)(ifs:List Expr)(cond:E):Prop:=
 (ifs=[]/\cond= .bl true)\/∃c,ifs=[c]/\∀s₃ H₃ fp pins,IT (yr X scope x s₃ H₃ fp pins) fn c cond
section
variable {X:Cx} {fn:Nat->List D->Option SV}
theorem zjd{scope:Scope}{x:Str}{ifs:List Expr}{cond:E}{s₃:Shared}{H₃:Hp}{fp:List Addr}{pins ps:List (Addr×Obj)}{σ:St}{H:Hp}{s:Shared}{W:Addr->Prop}{ρ:LW.Env}{k:Bool}{Q:Bool->Hp->Prop}
  (hc:Ji X fn scope x ifs cond) (I:Inv (yr X scope x s₃ H₃ fp pins) ps σ H s) (hR:R X.K W ρ σ H) (he:zF fn cond ρ=some k) (q: ∀H',Same H H'->Q k H'):
  wpAny (model X.prog X.w) X.A (forIn ifs true fun c r=>if r=true then do let ok <-isTrue c (yr X scope x s₃ H₃ fp pins).env (eval c (yr X scope x s₃ H₃ fp pins).env);pure (ForInStep.yield ok) else pure (ForInStep.yield r))
   (TP (yr X scope x s₃ H₃ fp pins) ps σ Q) (fun _ _=>False) s:=by
 rcases hc with ⟨rfl,rfl⟩|⟨c,rfl,hc⟩
 ·simp only[zix] at he
  cases he
  exact wpAny_tests_nil ⟨H,I,q H (.refl H)⟩
 ·exact wpAny_tests_one ((hc s₃ H₃ fp pins).h ps s σ H Q I ⟨W,ρ,k,hR,he,q⟩)
theorem Jj{test:D->Option Bool}{elt:D->Option SV}: ∀{ds out:List D},xg test elt ds=some out->out.length<=ds.length
 |[],_,h=>by simp only[xg] at h;cases h;exact Nat.le_refl _
 |d::r,out,h=>by
  simp only[xg,jo1] at h
  obtain⟨b,e1,e2⟩:=h
  cases b with
  |true=>
   simp only[jo1,jo2] at e2
   obtain⟨_,_,_,_,l,e3,rfl⟩:=e2
   have:=Jj e3
   simp;omega
  |false=>have:=Jj e2;simp;omega
theorem zbw{scope:Scope}{x:Str}{s₃:Shared}{H₃ H':Hp}{fp:List Addr}{pins:List (Addr×Obj)}{σ:St}(S:CompSc X scope x)(I:Inv X pins σ H₃ s₃)(hf: ∀b∈fp,xJ X pins H₃ b)(hlt: ∀b∈fp,b<s₃.heap.objs.size)
  (hn: ∀b∈fp,H' b=Option.none): ∀b∈fp,xJ (yr X scope x s₃ H₃ fp pins) [] H' b:=fun b hb=>by
 have ok:=zbs S I hf hlt
 refine⟨hn b hb,(ok.exf b hb).1,ok.exfs b hb,.inl hb,(ok.exf b hb).2,fun p hp=>?_⟩
 have hp:p∈X.pn++pins:=by simpa [yr] using hp
 exact (hf b hb).2.2.2.2.2 p hp
structure CSt (X:Cx)(scope:Scope)(x:Str)(s₃:Shared)(H₃:Hp)(fp:List Addr)(pins:List (Addr×Obj))(σ:St)(tn:Nat->Heap->Prop)(H2:Hp)(W:Addr->Prop)(L:Addr)(test:D->Option Bool)(elt:D->Option SV)(ds out:List D)
  (n k:Nat) (y:Option V) (H':Hp) (ys:List V) (out1 zT:List D) (s':Shared):Prop where
 inv:Inv (yr X scope x s₃ H₃ fp pins) [] (y::σ) H' s'
 htn:tn k s'.heap
 hfp: ∀b∈fp,H' b=Option.none
 hn:n=ds.length+1-k
 hk:k<=ds.length
 same:Same H2 H'
 lst:H' L=some (.lst ys)
 reps:Reps X.K (add W L) H' out1 ys
 hrest:xg test elt (ds.drop k)=some zT
 hout:out=out1++zT
theorem zbx{iter elt:Expr}{x:Str}{px pos pos2:Pos}{ifs:List Expr}{scope:Scope}{rng:Bool}{src:Es}{cond ce:E}{pins:List (Addr×Obj)}{s:Shared}{σ:St}{H:Hp}{W:Addr->Prop}{ρ:LW.Env}{rs:List SV}{ds out:List D}{use:Option (Value->Sem Unit)}{Qe:Value->Shared->Prop}
  (hcalm:X.calm=true) (S:CompSc X scope x) (hsrc:Src X fn (.Name x px) iter rng src)
  (hcond:Ji X fn scope x ifs cond) (helt: ∀s₃ H₃ fp pins,IE (yr X scope x s₃ H₃ fp pins) fn elt ce) (hfo: ∀y,foldedSetIterable iter X.env y=pure y) (I:Inv X pins σ H s) (hR:R X.K W ρ σ H)
  (e1:yd fn src ρ=some rs) (e2:yl rng rs=some ds) (hline:ds.length<=line) (e3:xg (fun d=>zF fn cond (some (.val d)::ρ)) (fun d=>zm fn ce (some (.val d)::ρ)) ds=some out)
  (fin: ∀(s4:Shared) (fl:Flow) (m:Str->Option Value) (C L:Addr) (H':Hp),s4.heap.Ns C m->(∀h',Heap.SameBut C s4.heap h'->Inv X pins σ H' { s4 with heap:=h' })->(X.s₀.heap.objs.size<=C/\C≠X.env.locals/\(∀y c,X.env.cells.lookup y=some c->c≠C)/\(∀p∈X.pn++pins,p.1≠C)/\H' C=Option.none)->Same H H'->
   Res X.K W H H' (.obj true (.lst out)) (.ref L)->compPost (model X.prog X.w) X.A X.xe use Qe (.ref L) C (.ok fl) s4):
  wpAny (model X.prog X.w) X.A (comprehension (.ListComp elt [⟨.Name x px,iter,ifs,0⟩] scope pos) scope X.env pos2 (newList []) false (eval iter X.env) use) Qe X.xe s:=by
 have hclos:=zbo (scope:=scope) (env:=X.env) (S.cells I.ok)
 refine wpAny_comprehension_free (use:=use) rfl hfo hclos S.kind S.names ?_
 refine zB (hsrc.h pins s σ H (fun J H2=>Same H H2/\Ys X.K J W H2 ds) I ⟨W,ρ,rs,ds,hR,e1,e2,fun J H' s1 y _=>⟨s1,y⟩⟩) fun v s1 h1=>zB h1 fun itv s2 h2=>?_
 obtain⟨it,fp,tn,J,H2,rfl,I2,T,st2,f2,sm,hy⟩:=h2
 refine wpAny_newObj_type (zbr S fun h₁ hns₁ hk₁ hc₁=>?_)
 have I3:=I2.lnew (t':=s2.toks) (ys:=[]) (its:=[]) .nil (Nat.zero_le _)
 have hD:H2 s2.heap.objs.size=Option.none:=I2.fresh
 generalize hL:s2.heap.objs.size=L at hD
 generalize hs3:({ s2 with heap:=s2.heap.push { cls:=.type "list",data:=.seq ([]:List Value).toArray },toks:=s2.toks }:Shared)=s₃ at I3
 have hs3h:s₃.heap=s2.heap.push { cls:=.type "list",data:=.seq ([]:List Value).toArray }:=by rw[<-hs3]
 rw[hL] at I3
 generalize hH3:zI H2 L (.lst [])=H₃ at I3
 have blt: ∀b∈fp,b<s2.heap.objs.size:=fun b hb=>by
  obtain⟨o,e,_⟩:=T.obj _ _ st2 b hb
  exact Heap.lt_size e
 have hlt: ∀b∈fp,b<s₃.heap.objs.size:=fun b hb=>by rw[hs3h,Heap.size_push];exact Nat.lt_succ_of_lt (blt b hb)
 have hf: ∀b∈fp,xJ X pins H₃ b:=fun b hb=>by
  refine⟨?_,(f2 b hb).2⟩
  rw[<-hH3,zJ (by rw[<-hL];exact Nat.ne_of_lt (blt b hb))]
  exact (f2 b hb).1
 have keep1: ∀b o,s₃.heap.get? b=some o->h₁.get? b=some o:=fun b o e=>by
  rw[hs3h] at e
  exact hk₁ b o e
 have ns1:h₁.Ns s₃.heap.objs.size fun _=>Option.none:=by rw[hs3h];exact hns₁
 have Ic:=zbt (tk:=s2.toks) S I3 hf hlt ns1 keep1 (by rw[hs3h];exact hc₁)
 have fpc:=fun {H':Hp} hn=>zbw (H':=H') S I3 hf hlt hn
 have win: ∀b,add W L b->W b\/H2 b=Option.none:=fun b w=>by
  rcases w with w|rfl
  ·exact .inl w
  ·exact .inr hD
 have hRL: ∀{H':Hp} {ys:List V},Same H2 H'->H' L=some (.lst ys)->R X.K (add W L) ρ σ H':=fun {H' ys} sm' e=>(hR.same sm).add sm' hD e
 have lenO:out.length<=ds.length:=Jj e3
 have loop: ∀s':Shared,s'={ s₃ with heap:=h₁,toks:=s2.toks }->codeAny (model X.prog X.w) X.A (.compLoop (.ListComp elt [⟨.Name x px,iter,ifs,0⟩] scope pos) 0 (.ref it) (.ref L) (yr X scope x s₃ H₃ fp pins).env)
   (compPost (model X.prog X.w) X.A X.xe use Qe (.ref L) s₃.heap.objs.size) s':=by
  rintro s' rfl
  refine zbv (fun n s'=>∃k y H' ys out1 zT,CSt X scope x s₃ H₃ fp pins σ tn H2 W L (fun d=>zF fn cond (some (.val d)::ρ)) (fun d=>zm fn ce (some (.val d)::ρ)) ds out n k y H' ys out1 zT s') ?_ (ds.length+1)
   ⟨0,Option.none,H₃,[],[],out,Ic,T.keep _ _ _ st2 (fun b hb o e=>keep1 b o (by rw[hs3h];exact Heap.get?_push_of_some _ e)),fun b hb=>(hf b hb).1,rfl,Nat.zero_le _,by rw[<-hH3];exact yX hD _,by rw[<-hH3];exact yL,.nil,e3,rfl⟩
  rintro n s' ⟨k,y,H',ys,out1,zT,c⟩
  obtain⟨hstop,hgo⟩:=hy (add W L) H' c.same win k
  by_cases hk:k<ds.length
  ·have hd:ds[k]? =some ds[k]:=by simp[hk]
   obtain⟨g1,g2⟩:=hgo _ hd
   have crest:=c.hrest
   rw[kF hd] at crest
   simp only[xg,jo1] at crest
   obtain⟨b,t1,t2⟩:=crest
   refine zB (T.item (yr X scope x s₃ H₃ fp pins) rfl rfl rfl hcalm k [] s' (y::σ) H' _ c.inv (fpc c.hfp) c.htn g1) fun r s4 ⟨u,hr,h4⟩=>?_
   subst hr
   refine zB h4 fun _ s5 ⟨xv,H5,I5,r5,y5,st5,fr5⟩=>?_
   obtain⟨rfl,rv⟩:=g2 xv H5 y5
   have I5':=I5.pinned (fpc fr5) (T.obj _ _ st5)
   refine zB (jY (X:=yr X scope x s₃ H₃ fp pins) (i:=0) S.nd rfl S.locX S.fnX _ s5 (y::σ) H5 xv u (fun σ' H'=>σ'=some xv::σ/\H'=H5) I5' r5 ⟨rfl,rfl⟩) fun _ s6 ⟨σ6,H6,I6,q6,q7⟩=>?_
   subst q6 q7
   have hRc:=(hRL c.same c.lst).cons rv
   refine zB (zjd (Q:=fun b' H7=>b'=b/\Same H6 H7) hcond I6 hRc t1 fun H7 s7=>⟨rfl,s7⟩) fun ok s7 ⟨H7,I7,q7,m7⟩=>?_
   subst q7
   have back: ∀{s':Shared} {H':Hp},Inv (yr X scope x s₃ H₃ fp pins) ([]++jZ fp s5.heap) (some xv::σ) H' s'->tn (k+1) s'.heap/\∀b∈fp,H' b=Option.none:=fun {s' H'} J=>by
    refine⟨T.keep _ _ _ st5 fun b hb o e=>(J.pin (b,o) (List.mem_append_right _ (List.mem_append_right _ (Za hb e)))).1,fun b hb=>?_⟩
    obtain⟨o,e,d⟩:=T.obj _ _ st5 b hb
    exact (J.pin (b,o) (List.mem_append_right _ (List.mem_append_right _ (Za hb e)))).2.1
   cases ok with
   |false=>
    rw[if_neg Bool.false_ne_true]
    have bk:=back I7
    exact⟨_,by have:=c.hn;omega,k+1,some xv,H7,ys,out1,zT,I7.unpinned,bk.1,bk.2,rfl,hk,c.same.trans m7,m7 _ _ c.lst,c.reps.ext (.same m7),t2,c.hout⟩
   |true=>
    rw[if_pos rfl]
    simp only[jo1,jo2] at t2
    obtain⟨r8,t3,d8,t4,rest',t5,rfl⟩:=t2
    have hR7:=hRc.same m7
    refine zB ((helt s₃ H₃ fp pins).h _ s7 _ H7 (fun v H8=>Same H7 H8/\Rep X.K (add W L) H8 d8 v) I7 ⟨add W L,_,r8,hR7,t3,fun v8 H8 m8 res=>⟨m8,(res.frz hR7.wf).toD t4⟩⟩) fun u8 s8 ⟨v8,H8,I8,rl8,m8,rp8⟩=>?_
    have lst8:=m8 _ _ (m7 _ _ c.lst)
    have lenY:=c.reps.length
    have lenT:=congrArg List.length c.hout
    rw[List.length_append,List.length_cons] at lenT
    have le:=Zj
    refine zB (QP (X:=yr X scope x s₃ H₃ fp pins) _ s8 _ H8 (.ref L) [v8] (.ref L) [u8] (fun _ H9=>H9=zI H8 L (.lst (ys++[v8]))) I8 rfl (.cons rl8 .nil) ⟨L,ys,v8,rfl,rfl,lst8,by omega,rfl⟩) fun _ s9 ⟨_,H9,I9,_,q9⟩=>?_
    subst q9
    have bk:=back I9
    have ext:Ext (add W L) H8 (add W L) (zI H8 L (.lst (ys++[v8]))):=by
     refine⟨fun b o q n=>?_,fun b zs q=>?_,fun b o u q=>?_,fun b w=>.inl w⟩
     ·rw[zJ (fun z=>n (.inr z))];exact q
     ·rw[zJ (fun z=>by rw[z,lst8] at q;cases q)];exact q
     ·rw[zJ (fun z=>by rw[z,lst8] at q;cases q)];exact q
    have smL:Same H2 (zI H8 L (.lst (ys++[v8]))):=fun b o q=>by
     rw[zJ (fun z=>by rw[z,hD] at q;cases q)]
     exact m8 _ _ (m7 _ _ (c.same _ _ q))
    exact⟨_,by have:=c.hn;omega,k+1,some xv,_,ys++[v8],out1++[d8],rest',I9.unpinned,bk.1,bk.2,rfl,hk,smL,yL,((c.reps.ext (.same (m7.trans m8))).ext ext).append (.cons (rp8.ext ext) .nil),t5,by rw[c.hout];simp⟩
  ·have ek:k=ds.length:=by have:=c.hk;omega
   refine zB (T.done (yr X scope x s₃ H₃ fp pins) rfl rfl rfl hcalm k [] s' (y::σ) H' _ c.inv (fpc c.hfp) c.htn (hstop ek)) fun r s4 ⟨hr,I4⟩=>?_
   subst hr
   obtain⟨m,hn,_⟩:=I4.loc
   have er:=c.hrest
   rw[List.drop_of_length_le (by omega),xg] at er
   cases er
   have eo:=c.hout
   rw[List.append_nil] at eo
   refine fin s4 _ m _ L H' hn (fun h' hs=>zbu I3 hf I4 hs) ⟨I3.sz,(Nat.ne_of_lt I3.lt).symm,fun y cc hc=>?_,fun p hp=>?_,I4.free⟩ (sm.trans c.same) (by rw[eo];exact .new (sm.free hD) c.lst (.lst c.reps))
   ·obtain⟨v,o,ho,_⟩:=I3.cell y cc hc
    exact Nat.ne_of_lt (Heap.lt_size ho)
   ·exact Nat.ne_of_lt (Heap.lt_size (I3.pin p hp).1)
 have st0:tn 0 h₁:=T.keep _ _ _ st2 (fun b hb o e=>keep1 b o (by rw[hs3h];exact Heap.get?_push_of_some _ e))
 subst hs3 hL
 exact codeAny_compStart_list (loop _ rfl) (T.self X.A 0 _ _ _ st0 (loop _ rfl))
theorem Zw{iter elt:Expr}{x:Str}{px pos:Pos}{ifs:List Expr}{scope:Scope}{rng:Bool}{src:Es}{cond ce:E}(hcalm:X.calm=true)(S:CompSc X scope x)(hsrc:Src X fn (.Name x px) iter rng src)
  (hcond:Ji X fn scope x ifs cond) (helt: ∀s₃ H₃ fp pins,IE (yr X scope x s₃ H₃ fp pins) fn elt ce) (hfo: ∀y,foldedSetIterable iter X.env y=pure y:=by intro _;rfl):
  IE X fn (.ListComp elt [⟨.Name x px,iter,ifs,0⟩] scope pos) (.comp rng src cond ce):=by
 refine .mk ?_
 rintro pins s σ H Q I ⟨W,ρ,r,hR,he,q⟩
 simp only[zaQ,jo1] at he
 obtain⟨rs,e1,ds,e2,e3⟩:=he
 split at e3
 case isFalse=>cases e3
 rename_i hline
 rw[jo2] at e3
 obtain⟨out,e3,rfl⟩:=e3
 rw[eval_ListComp]
 refine zbx (use:=Option.none) hcalm S hsrc hcond helt hfo I hR e1 e2 hline e3 fun s4 fl m C L H' hn back _ sm res=>?_
 exact⟨m,hn,fun h' hs=>⟨.ref L,H',back h' hs,rfl,q _ H' sm res⟩⟩
theorem YX(i:Nat){fa:Nat->List D->Option Ans}{fuel:Nat}{iter elt:Expr}{x y:Str}{px py pos spos:Pos}{ifs:List Expr}{scope:Scope}{rng:Bool}{src:Es}{cond ce:E}(hcalm:X.calm=true)(hN:X.N.Nodup)(hi:X.N[i]? =some y)(hy:X.env.scope.names.lookup y=some .local)(S:CompSc X scope x)(hsrc:Src X (zP fa) (.Name x px) iter rng src)
  (hcond:Ji X (zP fa) scope x ifs cond) (helt: ∀s₃ H₃ fp pins,IE (yr X scope x s₃ H₃ fp pins) (zP fa) elt ce)
  (hsw:swapsWith (.ListComp elt [⟨.Name x px,iter,ifs,0⟩] scope pos) (some (.Name y py)) spos.line X.env=pure true:=by rfl) (hfo: ∀y,foldedSetIterable iter X.env y=pure y:=by intro _;rfl):
  IS X (zL fa fuel (.asg i (.comp rng src cond ce))) (.Assign [.Name y py] (.ListComp elt [⟨.Name x px,iter,ifs,0⟩] scope pos) spos):=by
 refine .mk ?_
 rintro pins s σ H D0 I ⟨W,ρ,z,hR,hz,q⟩
 simp only[zaR,jo1] at hz
 obtain⟨r,he,hz⟩:=hz
 split at hz
 case isTrue=>cases hz
 rename_i hl
 cases hz
 simp only[Bool.not_eq_true,Bool.or_eq_false_iff,Bool.not_eq_false'] at hl
 simp only[zaQ,jo1] at he
 obtain⟨rs,e1,ds,e2,e3⟩:=he
 split at e3
 case isFalse=>cases e3
 rename_i hline
 rw[jo2] at e3
 obtain⟨out,e3,rfl⟩:=e3
 rw[exec_Assign_Name_used _ _ _ _ hsw]
 refine wpAny_bind (wpAny_standAt (wpAny_bind ?_))
 show wpAny _ X.A (do let _ <-comprehension (.ListComp elt [⟨.Name x px,iter,ifs,0⟩] scope pos) scope X.env _ (newList []) false (eval iter X.env) (some (assign (.Name y py) X.env))) _ _ s
 refine wpAny_bind (wpAny_mono (zbx (use:=some (assign (.Name y py) X.env)) (Qe:=fun _ s'=>SP X pins D0 .next s') hcalm S hsrc hcond helt hfo I hR e1 e2 hline e3 fun s4 fl m C L H' hn back cf sm res=>?_) (fun _ s' hq=>wpAny_pure (wpAny_pure hq)) fun _ _ e=>e)
 have I4:Inv X pins σ H' s4:=back s4.heap ⟨rfl,fun _ _=>rfl⟩
 refine wpAny_assign_Name (gQ I4 hN hi (.inl hy) (v:=.ref L) rfl (fun s5 I5 ⟨a,hs5,ha⟩=>?_) (.inr hy))
 have haC:a≠C:=by
  rcases ha with rfl|ha
  ·exact fun z=>cf.2.1 z.symm
  ·exact cf.2.2.1 _ _ ha
 have hnC:s5.heap.Ns C m:=by
  obtain⟨o,es,ep,ho,hrest⟩:=hn
  exact⟨o,es,ep,(hs5.2 C (Ne.symm haC)).trans ho,hrest⟩
 refine⟨m,hnC,fun h' hs=>?_⟩
 have I6:Inv X pins (σ.set i (some (.ref L))) H' { s5 with heap:=h' }:=by
  refine I5.call' (s':={ s5 with heap:=h' }) (ch:=[C]) rfl ⟨fun b o e n hb hx=>?_,fun b o e n hb hx=>?_,fun b o e n hx=>n,fun b o e hx=>?_,fun _ _ q=>q,fun _ _ _ q=>q,fun _ ps q=>⟨#[],by simpa using q⟩⟩ ?_ I5.bare fun b hb=>?_
  ·exact (hs.2 b (by simpa using hx)).trans e
  ·exact⟨o.slots,(hs.2 b (by simpa using hx)).trans e⟩
  ·exact⟨o,(hs.2 b (by simpa using hx)).trans e⟩
  ·intro b o e
   refine (I5.hok b o e).stay (fun c v hc q=>(hs.2 c ?_).trans q) (fun _ q=>q) fun _ _ q=>q
   intro z
   rcases hc with w|w
   ·rw[<-w,z,cf.2.2.2.2] at e;cases e
   ·rw[z,cf.2.2.2.2] at w;cases w
  ·have e:b=C:=by simpa using hb
   subst e
   exact⟨.inr cf.1,cf.2.1,cf.2.2.1,cf.2.2.2.1⟩
 cases res with
 |new h e r=>exact⟨_,H',I6,q _ _ H' (zbi hR sm h e r (vU hl.2))⟩
end
end L2.LW
set_option maxHeartbeats 4000000
namespace L2.LW
open PySem PySem.Spec PyProof.Rows
noncomputable def YY:Ty->String
 | .bool=>"bool"| .int=>"int"| .str=>"str"| .list=>"list"| .tuple=>"tuple"
noncomputable def zje:D->String
 | .int _=>"int"| .bl _=>"bool"| .non=>"NoneType"| .str _=>"str"| .tup _=>"tuple"| .lst _=>"list"| .dct _ _ _=>"dict"
theorem zjf(K:PySem.W.Frag)(d:D)(t:Ty):PySem.W.kitOne K (.type (zje d)) (.type (YY t))=some (wA t d):=by
 cases d<;>cases t<;>rfl
section
variable {X:Cx} {fn:Nat->List D->Option SV}
theorem zjg{pins:List (Addr×Obj)}{σ:St}{H:Hp}{s:Shared}{W:Addr->Prop}{A:Around}{E Q:Value->Shared->Prop}{d:D}{x:V}{u:Value}{t:Ty}(I:Inv X pins σ H s)(h:Sees X.K W H d x)(r:RelV x u)
  (q: ∀tk,Q (.bool (wA t d)) { s with toks:=tk }):wpAny (model X.prog X.w) A (call (.builtin "isinstance") [u,.type (YY t)]) Q E s:=by
 have e:=zjf X.K d t
 cases d with
 |int i=>cases h.int;obtain⟨tk,rfl⟩:=r;exact PySem.W.kia_one PySem.W.kitx_int I.kIn True.intro e (fun z=>nomatch z) q
 |bl b=>cases h.bl;cases r;exact PySem.W.kia_one PySem.W.kitx_bool I.kIn True.intro e (fun z=>nomatch z) q
 |non=>cases h.non;cases r;exact PySem.W.kia_one PySem.W.kitx_none I.kIn True.intro e (fun z=>nomatch z) q
 |str y=>cases h.str;obtain⟨tk,rfl⟩:=r;exact PySem.W.kia_one PySem.W.kitx_str I.kIn True.intro e (fun z=>nomatch z) q
 |tup l=>
  obtain⟨a,xs,rfl,hq,_⟩:=h.tup
  cases r
  obtain⟨its,rv,⟨o,ho,hc,n,hd⟩,hz⟩:=I.tuple hq
  exact PySem.W.kia_one PySem.W.kitx_tuple I.kIn ⟨o,ho,hc⟩ e (fun z=>nomatch z) q
 |lst l=>
  obtain⟨a,xs,rfl,hq,_⟩:=h.lst
  cases r
  obtain⟨its,rv,⟨o,n,ho,hc,_,hd⟩,hz⟩:=I.list hq
  exact PySem.W.kia_one PySem.W.kitx_list I.kIn ⟨o,ho,hc⟩ e (fun z=>nomatch z) q
 |dct b ks vs=>
  cases b with
  |false=>
   obtain⟨a,ns,ys,rfl,_,hH,_⟩:=h.dK
   cases r
   obtain⟨_,_,vs,_,ob,_,_,h1,h2,_⟩:=jp I.hok hH
   exact PySem.W.kia_one PySem.W.kitx_dict I.kIn ⟨ob,h1,h2.1⟩ e (fun z=>nomatch z) q
  |true=>
   obtain⟨a,ns,ys,rfl,_,hH,_⟩:=h.dT
   cases r
   obtain⟨_,_,xs,_,ob,_,_,h1,h2,_⟩:=jq I.hok (.inl hH)
   exact PySem.W.kia_one PySem.W.kitx_dict I.kIn ⟨ob,h1,h2.1⟩ e (fun z=>nomatch z) q
theorem zjh(t:Ty):CallR X (.builtin "isinstance") (fun xs H Q=>∃x,xs=[x,.ty (YY t)]/\VR X.K (zh (.inst t)) [x] H Q):=by
 rintro pins s σ H xs us Q I rv ⟨x,rfl,W,ds,r,wf,hs,hf,q⟩
 obtain⟨d,rfl,h1⟩:=YK hs
 replace hf:zaK t [d]=some r:=hf
 cases hf
 obtain⟨u,w',rfl,r1,r2⟩:=QK rv
 cases r2
 exact zjg I h1 r1 fun tk=>⟨.bl _,H,I.tok tk,rfl,q _ H (.refl H) (.val (.bl _))⟩
theorem YZ{a:Expr}{ca:E}{t:Ty}{y:Str}{p p2 pos:Pos}(hg:Gl X "isinstance")(hm:X.mg "isinstance"=Option.none)(hg2:Gl X y)(hm2:X.mg y=Option.none)(hv:bootBuiltins y=some (.type (YY t)))(ha:IE X fn a ca)
  (hn:y≠"__name__":=by decide) (hdb:(y==("__debug__":Str))=false:=by decide)
  (h1:starEach [a,.Name y p2] X.env=(false,eval a X.env)::starEach [.Name y p2] X.env:=by rfl) (h2:starEach [.Name y p2] X.env=(false,eval (.Name y p2) X.env)::starEach [] X.env:=by rfl)
  (hpl:(backTo pos (starEach [.Name y p2] X.env)).any (·.1)=false:=by rfl):
  IE X fn (.Call (.Name "isinstance" p) [a,.Name y p2] [] pos) (.prim (.inst t) (.cons ca .nil)):=
 .mk <| (QN (zjh t) hg hm PyProof.Rows.boot_isinstance (jo ha.v (jo (zfI hg2 hm2 hv (v:=.ty (YY t)) rfl hn hdb) Zb h2) h1) (by decide) (by decide) h1 hpl).imp fun σ H Q zz3=>by
  obtain⟨W,ρ,r,hR,he,q⟩:=zz3
  simp only[wD,xN,xO,jo1,jo2] at he
  obtain⟨rs,⟨r1,e1,rs',e3,rfl⟩,e4⟩:=he
  cases e3
  exact⟨W,ρ,r1,hR,e1,fun v1 H1 s1 f1=>⟨v1,rfl,YO hR s1 (.cons f1 .nil) e4 q⟩⟩
theorem kJ{K:PySem.W.Frag}{W:Addr->Prop}{H:Hp}{d:D}{v:V}(h:Sees K W H d v):decide (v= .non)=vg d:=by
 cases d with
 |int i=>cases h.int;rfl
 |bl i=>cases h.bl;rfl
 |str i=>cases h.str;rfl
 |non=>cases h.non;rfl
 |tup l=>obtain⟨a,xs,rfl,_⟩:=h.tup;rfl
 |lst l=>obtain⟨a,xs,rfl,_⟩:=h.lst;rfl
 |dct b ks vs=>
  cases b with
  |false=>obtain⟨a,ns,ys,rfl,_⟩:=h.dK;rfl
  |true=>obtain⟨a,ns,ys,rfl,_⟩:=h.dT;rfl
theorem zby{a:Expr}{ca:E}{j:Nat}{p pos:Pos}(ha:IE X fn a ca):IE X fn (.Compare a [.Is] [.Constant .none j p] pos) (.prim .isN (.cons ca .nil)):=
 .mk <| (zfM (gU ha.v)).imp fun σ H Q zz3=>by
  obtain⟨W,ρ,r,hR,he,q⟩:=zz3
  simp only[wD,xN,xO,jo1,jo2] at he
  obtain⟨rs,⟨r1,e1,rs',e3,rfl⟩,e4⟩:=he
  cases e3;cases e4
  refine⟨W,ρ,r1,hR,e1,fun v1 H1 s1 f1=>?_⟩
  show Q (.bl (decide (v1= .non))) H1
  rw[kJ f1.sees]
  exact q _ H1 s1 (.val (.bl _))
theorem zji{a:Expr}{ca:E}{j:Nat}{p pos:Pos}(ha:IE X fn a ca):IT X fn (.Compare a [.Is] [.Constant .none j p] pos) (.prim .isN (.cons ca .nil)):=
 .mk <| (gW (gU ha.v)).imp fun σ H Q zz3=>by
  obtain⟨W,ρ,k,hR,he,q⟩:=zz3
  simp only[VM,xN,xO,jo1,jo2] at he
  obtain⟨rs,⟨r1,e1,rs',e3,rfl⟩,r2,e4,e5⟩:=he
  cases e3;cases e4;cases e5
  refine⟨W,ρ,r1,hR,e1,fun v1 H1 s1 f1=>⟨_,rfl,?_⟩⟩
  rw[kJ f1.sees]
  exact q H1 s1
theorem zjj{a:Expr}{ca:E}{j:Nat}{p pos:Pos}(ha:IE X fn a ca):IT X fn (.Compare a [.IsNot] [.Constant .none j p] pos) (.prim .notN (.cons ca .nil)):=
 .mk <| (gW (zfL ha.v)).imp fun σ H Q zz3=>by
  obtain⟨W,ρ,k,hR,he,q⟩:=zz3
  simp only[VM,xN,xO,jo1,jo2] at he
  obtain⟨rs,⟨r1,e1,rs',e3,rfl⟩,r2,e4,e5⟩:=he
  cases e3;cases e4;cases e5
  refine⟨W,ρ,r1,hR,e1,fun v1 H1 s1 f1=>⟨_,rfl,?_⟩⟩
  rw[kJ f1.sees]
  exact q H1 s1
theorem zbz(l:List Int):(vF l).Perm l:=List.mergeSort_perm _ _
theorem zjk(l:List Int):(vF l).Pairwise (· <= ·):=by
 have h:=List.pairwise_mergeSort (le:=fun (a b:Int)=>decide (a<=b)) (fun a b c h1 h2=>by simp at*;omega) (fun a b=>by simp;omega) l
 exact h.imp fun h=>by simpa using h
theorem zjl{ds:List D}{ns:List Int}{pins:List (Addr×Obj)}{s:Shared}{σ:St}{H:Hp}{xs:List V}{us:List Value}{Q:VK}(I:Inv X pins σ H s)(rv:Vals xs us)
  {W:Addr->Prop} {l:List D} (hs:Paired (Sees X.K W H) [.lst l] xs) (e1:ints? l=some ns) (h64:ns.length<64) (q: ∀v H',Same H H'->Res X.K W H H' (.obj true (.lst ((vF ns).map .int))) v->Q v H'):
  wpAny (model X.prog X.w) X.A (call (.builtin "sorted") us) (EP X pins σ Q) X.xe s:=by
 cases hs with
 |cons h1 t=>
  cases t
  obtain⟨p,ys,rfl,hp,rp⟩:=h1.lst
  have ey:=rp.ofInts e1
  subst ey
  obtain⟨u,rfl,ru⟩:=wz rv
  cases ru
  obtain⟨its,rv',pl,hz⟩:=I.list hp
  have hi:=vS rv'
  have hlen:=rv'.length
  rw[List.length_map] at hlen
  refine sorted_ints pl.isList hi (by omega) fun out ns' a1 a2 a3=>?_
  have en:ns'=vF ns:=PySem.W.ksm_same (a2.trans (zbz ns).symm) a3 (zjk ns)
  subst en
  obtain⟨e,he⟩:=sortedAll_at s.heap its out
  have hl2:=(zbz ns).length_eq
  have fr:H (s.heap.objs.size+1)=Option.none:=I.hok.fresh (Nat.le_succ _)
  refine⟨.ref (s.heap.objs.size+1),zI H (s.heap.objs.size+1) (.lst ((vF ns).map V.int)),I.laid (t':=s.toks) (fun _ _=>sortedAll_old) (Nat.le_succ _) ⟨?_,out.toList,e,QQ a1,?_⟩,rfl,q _ _ (yX fr _) (vV fr (.ints _))⟩
  ·rw[List.length_map];exact Nat.le_of_lt (Yn (by omega))
  ·simpa [seqObj] using he
theorem zbA{K:PySem.W.Frag}{W:Addr->Prop}{H:Hp}: ∀{ds:List D} {xs:List V} {bs:List Bool},Reps K W H ds xs->bools? ds=some bs->xs=bs.map V.bl
 |_,_,bs,.nil,e=>by simp[bools?] at e;subst e;rfl
 |_,_,bs,.cons h t,e=>by
  cases h with
  |bl i=>
   simp only[bools?,jo2] at e
   obtain⟨ms,e1,rfl⟩:=e
   rw[zbA t e1];rfl
  |_=>simp[bools?] at e
theorem zbB: ∀{bs:List Bool} {us:List Value},Vals (bs.map V.bl) us->us=bs.map Value.bool
 |[],us,r=>by cases r;rfl
 |b::bs,us,r=>by
  cases r with
  |cons h t=>cases h;rw[zbB t];rfl
theorem zjm(bs:List Bool):((List.range bs.length).all fun i=>bs.getD i true)=bs.all id:=by
 induction bs with
 |nil=>rfl
 |cons b r ih=>
  rw[List.length_cons,List.range_succ_eq_map,List.all_cons,List.all_map,List.all_cons]
  simp only[Function.comp_def,List.getD_cons_succ,List.getD_cons_zero]
  rw[ih];rfl
theorem zbC(hc:X.calm=true):CallR X (.builtin "all") (VR X.K (zh .all)):=by
 rintro pins s σ H xs us Q I rv ⟨W,ds,r,wf,hs,hf,q⟩
 replace hf:VD ds=some r:=hf
 unfold VD at hf
 split at hf
 ·rename_i l
  rw[jo1] at hf
  obtain⟨bs,e1,hf⟩:=hf
  cases hf
  cases hs with
  |cons h1 t=>
   cases t
   obtain⟨p,ys,rfl,hp,rp⟩:=h1.lst
   have ey:=zbA rp e1
   subst ey
   obtain⟨u,rfl,ru⟩:=wz rv
   cases ru
   obtain⟨its,rv',pl,hz⟩:=I.list hp
   have ei:=zbB rv'
   subst ei
   obtain⟨o,n,ho,hcl,hdi,hda⟩:=id pl
   have hne:p≠s.heap.objs.size:=Nat.ne_of_lt (Heap.lt_size ho)
   refine call_all_walk (wpAny_pyIter_list pl.isList ?_)
   refine⟨s.heap.objs.size,_,_,_,_,_,fun i=>bs.getD i true,rfl,Walks.list (A:=X.A.in1) (I.ok.hd hc) s.heap.objs.size p hne (bs.map Value.bool).toArray,⟨⟨_,Heap.get?_push_size _ rfl,rfl,rfl⟩,⟨o,Heap.get?_push_of_some _ ho,hcl,n,hda⟩⟩,?_,fun h' tk hk=>?_⟩
   ·intro i v s' Q' E' hv hQ
    have hv:(bs.map Value.bool).toArray[i]? =some v:=hv
    rw[List.getElem?_toArray,List.getElem?_map,jo2] at hv
    obtain⟨b,e2,rfl⟩:=hv
    have e3:bs.getD i true=b:=by rw[List.getD_eq_getElem?_getD,e2];rfl
    have hQ:Q' (bs.getD i true) s':=hQ
    rw[e3] at hQ
    exact wpAny_truthy_bool hQ
   ·rw[List.size_toArray,List.length_map,zjm]
    refine⟨.bl _,H,I.kept (t':=tk) (fun b o' e=>?_),rfl,q _ H (.refl H) (.val (.bl _))⟩
    exact hk b o' (by simpa using Nat.ne_of_lt (Heap.lt_size e)) (Heap.get?_push_of_some _ e)
 ·cases hf
theorem zjn(xs:List V)(k:Int)(hk:0<=k):Zc xs Option.none (some k)=xs.take k.toNat:=by
 obtain⟨n,rfl⟩:=Int.eq_ofNat_of_zero_le hk
 unfold Zc
 rw[HT.sIx_none,HT.sIx_nat,List.drop_zero,Nat.sub_zero,Int.toNat_natCast]
 rcases Nat.le_total n xs.length with h|h
 ·rw[Nat.min_eq_left h]
 ·rw[Nat.min_eq_right h,List.take_of_length_le (Nat.le_refl _),List.take_of_length_le h]
theorem zjo{a b:Expr}{ca cb:E}{p pos:Pos}(ha:IE X fn a ca)(hb:IE X fn b cb):IE X fn (.Subscript a (.Slice Option.none (some b) Option.none p) pos) (.prim .cutTo (.cons ca (.cons cb .nil))):=
 .mk <| (zhd zhs ha.v zha (zhb hb.v)).imp fun σ H Q zz3=>by
  obtain⟨W,ρ,r,hR,he,q⟩:=zz3
  simp only[wD,xN,xO,jo1,jo2] at he
  obtain⟨rs,⟨r1,e1,rs',⟨r2,e2,rs'',e3,rfl⟩,rfl⟩,e4⟩:=he
  cases e3
  refine⟨W,ρ,r1,hR,e1,fun v1 H1 s1 f1=>⟨W,ρ,r2,hR.same s1,e2,fun v2 H2 s2 f2=>?_⟩⟩
  replace e4:VE [zN r1,zN r2]=some r:=e4
  unfold VE at e4
  split at e4
  ·rename_i l k z
   have h1:=(f1.same s2).sees
   have h2:=f2.sees
   injection z with z1 z2
   injection z2 with z2 _
   rw[z1] at h1
   rw[z2] at h2
   split at e4
   ·rename_i hk
    cases e4
    obtain⟨p,xs,rfl,hp,rp⟩:=h1.lst
    cases h2.int
    refine⟨k,rfl,p,xs,rfl,hp,fun p' hp'=>?_⟩
    rw[zjn xs k hk]
    have s12:=s1.trans s2
    exact q _ _ (s12.trans (yX hp' _)) ((vV hp' (rp.take _)).back s12)
   ·cases e4
  ·cases e4
theorem xD{scope:Scope}{env:PySem.Env}{y:Str}(h:scope.names.lookup y=some .free):zn (relabel scope env) y:=by
 unfold zn relabel
 have key: ∀(names:List (Str×NameKind)),names.lookup y=some .free->
   (names.map fun (z:Str×NameKind)=>match z with|(n,k)=>if (k==NameKind.free&&env.scope.kind== .function&&env.kindOf n==some .cell)=true then (n,NameKind.cell) else (n,k)).lookup y=some .cell\/
   (names.map fun (z:Str×NameKind)=>match z with|(n,k)=>if (k==NameKind.free&&env.scope.kind== .function&&env.kindOf n==some .cell)=true then (n,NameKind.cell) else (n,k)).lookup y=some .free:=by
  intro names
  induction names with
  |nil=>intro h;cases h
  |cons z r ih=>
   obtain⟨n,j⟩:=z
   intro h
   rw[List.lookup_cons] at h
   rw[List.map_cons,List.lookup_cons]
   by_cases hc:(j==NameKind.free&&env.scope.kind== .function&&env.kindOf n==some .cell)=true
   ·simp only[hc,if_true]
    cases e:y==n with
    |true=>exact .inl rfl
    |false=>rw[e] at h;exact ih h
   ·simp only[hc,Bool.false_eq_true,if_false]
    cases e:y==n with
    |true=>rw[e] at h;exact .inr h
    |false=>rw[e] at h;exact ih h
 exact .inr (key scope.names h)
theorem xp{scope:Scope}{env:PySem.Env}{y:Str}(h:scope.names.lookup y=some .local):zn (relabel scope env) y:=.inl (lookup_relabel_local h)
theorem Zx{scope:Scope}{env:PySem.Env}{y:Str}(h:scope.names.lookup y=some .globalImplicit):(relabel scope env).names.lookup y=some .globalImplicit:=by
 unfold relabel
 have key: ∀(names:List (Str×NameKind)),names.lookup y=some .globalImplicit->
   (names.map fun (z:Str×NameKind)=>match z with|(n,k)=>if (k==NameKind.free&&env.scope.kind== .function&&env.kindOf n==some .cell)=true then (n,NameKind.cell) else (n,k)).lookup y=some .globalImplicit:=by
  intro names
  induction names with
  |nil=>intro h;cases h
  |cons z r ih=>
   obtain⟨n,j⟩:=z
   intro h
   rw[List.lookup_cons] at h
   rw[List.map_cons,List.lookup_cons]
   by_cases hc:(j==NameKind.free&&env.scope.kind== .function&&env.kindOf n==some .cell)=true
   ·simp only[hc,if_true]
    cases e:y==n with
    |true=>
     rw[e] at h
     have h:j= .globalImplicit:=Option.some.inj h
     rw[h] at hc
     simp at hc
    |false=>rw[e] at h;exact ih h
   ·simp only[hc,Bool.false_eq_true,if_false]
    cases e:y==n with
    |true=>rw[e] at h;exact h
    |false=>rw[e] at h;exact ih h
 exact key scope.names h
noncomputable def kK(sc:Scope)(N:List Str)(scope:Scope)(x:Str):Bool:=
 decide (scope.kind= .function)&&(decide (scope.names.lookup x=some .local)||decide (scope.names.lookup x=some .cell))&&scope.names.all (fun y=> !decide (y.2= .local)||decide (scope.names.lookup y.1=some .local))&&
 decide (scope.names.filter (fun y=>y.2== .cell)=if scope.names.lookup x=some .cell then [(x,.cell)] else [])&&
 scope.names.all (fun y=> !decide (y.2= .free)||(decide (sc.names.lookup y.1=some .cell)||decide (sc.names.lookup y.1=some .free)))&&N.all (fun y=> !decide (scope.names.lookup y=some .local)||decide (y=x))&&
 decide (scope.names.lookup ("":Str)=Option.none)&&decide ((x::wm x N).Nodup)
theorem wF{scope sc:Scope}{N:List Str}{x:Str}(hs:X.env.scope=sc)(hN:X.N=N)(h:kK sc N scope x=true):CompSc X scope x:=by
 subst hs hN
 simp only[kK,Bool.and_eq_true,decide_eq_true_eq,List.all_eq_true,Bool.or_eq_true,Bool.not_eq_true',decide_eq_false_iff_not] at h
 obtain⟨⟨⟨⟨⟨⟨⟨h1,h2⟩,h3⟩,h4⟩,h5⟩,h6⟩,h7⟩,h8⟩:=h
 exact⟨h1,h2,fun y hy e=>(h3 y hy).resolve_left fun z=>z e,h4,fun y hy e=>(h5 y hy).resolve_left fun z=>z e,fun y hy e=>(h6 y hy).resolve_left fun z=>z e,h7,h8⟩
end
end L2.LW
set_option maxHeartbeats 4000000
namespace L2.LW
open PySem PySem.Spec PyProof.Rows
section
variable {Pg:Program} {w:World} {K:PySem.W.Frag} {mg:Str->Option Value} {base:Heap} {f:Addr} {fd:FuncData} {ps:List Str} {P:Nat->Option Fn} {fuel i n k:Nat}
theorem zbD{io:List Nat}(h: ∀ds,zq P fuel n i ds=Option.none):FnOk Pg w K mg base zD k f fd ps (zZ K (zq P fuel n) i io):=by
 have no: ∀vs H Q E,¬zZ K (zq P fuel n) i io vs H Q E:=fun vs H Q E zz4=>by
  obtain⟨W,ds,r,outs,_,_,e,_⟩:=zz4
  rw[h ds] at e;cases e
 exact⟨fun vs H Q E z=>absurd z (no vs H Q E),fun A outer s H args us vs Q E _ _ _ _ z=>absurd z (no vs H Q E)⟩
theorem zjp{io:List Nat}:FnOk Pg w K mg base zD k f fd ps (zZ K (zq P fuel 0) i io):=zbD fun _=>rfl
theorem yc{io:List Nat}(h:P i=Option.none):FnOk Pg w K mg base zD k f fd ps (zZ K (zq P fuel (n+1)) i io):=zbD fun ds=>by rw[zq,h];rfl
theorem zjq{H:Hp}{a:Addr}{ns:List Int}{E:XK}(h:zG P fuel n i [.lst (ns.map D.int)]=some (.val (.bl true)))(hS:SqL K H a (ns.map V.int)):zZ K (zq P fuel n) i [] [.ref a] H (fun v _=>v= .bl true) E:=by
 refine⟨fun _=>False,[.lst (ns.map D.int)],.val (.bl true),[],fun _ z=>z.elim,(Reps.cons (.lst ?_ (.ints ns)) .nil).get',zbf h,fun v H' _ _ r=>?_⟩
 ·rcases hS with hS|hS
  ·exact .inl ⟨fun z=>z,hS⟩
  ·exact .inr hS
 ·cases r with
  |val r=>cases r;rfl
end
end L2.LW
set_option maxHeartbeats 4000000
namespace L2.LW
open PySem PySem.Spec PyProof.Rows
noncomputable def zjr(tk tv:TE):TE:=fun σ H Q=>∀p,H p=Option.none->tk σ (zI H p (.dT [])) fun x H1=>tv σ H1 fun y H2=>H2 p=some (.dT [])/\∃b ks,x= .ref b/\H2 b=some (.tup (ks.map kV))/\Q (.ref p) (zI H2 p (.dT [(ks,y)]))
theorem zjs{X:Cx}{pos:Pos}{k v:Expr}{tk tv:TE}(hu:X.A.units+64<cLine)(hk:PE X k tk)(hv:PE X v tv):PE X (.Dict [some k] [v] pos) (zjr tk tv):=by
 intro pins s σ H Q I q
 have hn:=I.hok.fresh (Nat.le_refl s.heap.objs.size)
 have I1:=I.laid (a:=s.heap.objs.size) (o:=.dT []) (h':=s.heap.push { cls:=.type "dict",data:=.dict #[] }) (t':=s.toks) (fun _ _ q=>Heap.get?_push_of_some _ q) (Nat.le_refl _) (zaD s.heap I.big)
 refine wpAny_Dict_any rfl rfl (by simp) (by simp) (pairTrees_cons_walk (zB (hk pins _ σ _ _ I1 (q _ hn)) fun u s1 ⟨x,H1,I2,rx,q1⟩=>zB (hv pins s1 σ H1 _ I2 q1) fun w2 s2 ⟨y,H2,I3,ry,e,b,ks,ex,eb,q2⟩=>pairTrees_nil_walk ?_))
 subst ex
 cases rx
 unfold storeAll
 rw[List.forIn_cons]
 obtain⟨z,hd,xs,rel,dd⟩:=Ym I3.hok e
 cases rel
 refine wpAny_bind (wpAny_bind (wpAny_dictSet_heap (hsz:=by simp) (knd:=tupleKind (zW X.prog X.w)) (show X.A.units<cLine by omega) (Zd I3.hok eb) dd fun h' dd' hs=>wpAny_pure ?_))
 refine wpAny_pure ⟨.ref s.heap.objs.size,_,?_,rfl,q2⟩
 obtain⟨q,es,ep,hq,h2,h3,h4,_,h5⟩:=dd'
 refine Vv I3 (by rw[e];exact True.intro) hs ⟨q,hq⟩ ⟨by simp[sizeLine_eq],hd,_,((KT.put (H:=H2) (kvs:=[]) (xs:=[]) .nil ks eb ry)).keeps fun c ys ec=>?_,q,es,ep,hq,h2,h3,h4,h5⟩
 rw[zJ (QD ec e (fun z=>nomatch z))]
 exact ec
section
variable {X:Cx} {fn:Nat->List D->Option SV} {fa:Nat->List D->Option Ans} {fuel:Nat} {a b c e:Expr} {ca cb cc ce:E} {es:List Expr} {cs:Es} {pos p:Pos} {x:Str} {st:Stmt} {sts:List Stmt} {s:S} {ss s1 s2:Ss}
theorem kL(t:Bool):IE X fn (.Dict [] [] pos) (.dnew t):=by
 cases t with
 |false=>
  refine .mk (zhH.imp fun σ H Q ⟨W,ρ,r,hR,he,q⟩=>?_)
  simp only[zaP] at he;cases he
  exact fun p hp=>q _ _ (yX hp _) (.new hp yL (.dK (ns:=[]) (ys:=[]) rfl .nil))
 |true=>
  refine .mk (zhI.imp fun σ H Q ⟨W,ρ,r,hR,he,q⟩=>?_)
  simp only[zaP] at he;cases he
  exact fun p hp=>q _ _ (yX hp _) (.new hp yL (.dT (ns:=[]) (ys:=[]) rfl .nil))
theorem zjt{H H1:Hp}{p:Addr}{o o':HO}(hp:H p=Option.none)(s:Same (zI H p o) H1):Same H (zI H1 p o'):=fun b u q=>by
 rw[zJ (vR q hp)]
 exact s b u (by rw[zJ (vR q hp)];exact q)
theorem zju(hu:X.A.units+64<cLine)(ha:IE X fn a ca)(hb:IE X fn b cb):IE X fn (.Dict [some a] [b] pos) (.done true ca cb):=
 .mk <| (zjs hu ha.v hb.v).imp fun σ H Q zz3=>by
  obtain⟨W,ρ,r,hR,he,q⟩:=zz3
  simp only[zis,jo1] at he
  obtain⟨x,e1,y,e2,da,e3,db,e4,e5⟩:=he
  split at e5
  ·rename_i hk
   cases e5
   intro p hp
   have s0:=yX hp (.dT [])
   have hR0:=hR.add s0 hp yL
   refine⟨_,ρ,x,hR0,e1,fun v1 H1 s1 f1=>⟨_,ρ,y,hR0.same s1,e2,fun v2 H2 s2 f2=>⟨s2 _ _ (s1 _ _ yL),?_⟩⟩⟩
   have r1:=(f1.same s2).toD e3
   have r2:=f2.toD e4
   cases da with
   |tup l=>
    obtain⟨ms,hms⟩: ∃ms,ints? l=some ms:=by simp only[yQ,Option.isSome_iff_exists] at hk;exact hk
    cases r1 with
    |tup h1 rp=>
     have z1:=rp.ofInts hms
     have z2:=Zk hms
     subst z1 z2
     refine⟨_,ms.map Sum.inl,rfl,by rw[YM];exact h1,q _ _ (zjt hp (s1.trans s2)) (.new hp yL (.dT (ns:=[ms]) (ys:=[v2]) rfl (.cons ?_ .nil)))⟩
     have e2p:=s2 _ _ (s1 _ _ (yL (H:=H) (a:=p) (o:=.dT [])))
     refine r2.ext ⟨fun b o q n=>?_,fun b ys q=>?_,fun b o u q=>?_,fun b w=>.inl w⟩
     ·rw[zJ (fun z=>n (.inr z))];exact q
     ·rw[zJ (fun z=>by rw[z,e2p] at q;cases q)];exact q
     ·rw[zJ (fun z=>by rw[z,e2p] at q;cases q)];exact q
   |_=>simp[yQ] at hk
  ·cases e5
theorem zbE(i:Int)(v:V): ∀{ns:List Int} {ys:List V},ns.length=ys.length->(yy ns ys).map (fun kv=>if kv.1=Sum.inl i then (kv.1,v) else kv)=yy ns (List.zipWith (fun n y=>if n=i then v else y) ns ys)
 |[],[],_=>rfl
 |n::ns,y::ys,h=>by
  have ih:=zbE i v (ns:=ns) (ys:=ys) (by simpa using h)
  show (if (Sum.inl n:zy)=Sum.inl i then ((Sum.inl n:zy),v) else (Sum.inl n,y))::(yy ns ys).map _=(Sum.inl n,if n=i then v else y)::yy ns _
  rw[ih]
  by_cases e:n=i<;>simp[e]
theorem zbF(i:List Int)(v:V): ∀{ns:List (List Int)} {ys:List V},ns.length=ys.length->(yC ns ys).map (fun kv=>if kv.1=i.map Sum.inl then (kv.1,v) else kv)=yC ns (List.zipWith (fun n y=>if n=i then v else y) ns ys)
 |[],[],_=>rfl
 |n::ns,y::ys,h=>by
  have ih:=zbF i v (ns:=ns) (ys:=ys) (by simpa using h)
  show (if (n.map Sum.inl:List zy)=i.map Sum.inl then ((n.map Sum.inl:List zy),v) else (n.map Sum.inl,y))::(yC ns ys).map _=(n.map Sum.inl,if n=i then v else y)::yC ns _
  rw[ih]
  by_cases e:n=i
  ·simp[e]
  ·have: ¬((n.map Sum.inl:List zy)=i.map Sum.inl):=fun z=>e (zaZ z)
   simp[e,this]
theorem zbG{K:PySem.W.Frag}{W:Addr->Prop}{H:Hp}{d:D}{v:V}(rv:Rep K W H d v)(i:Int): ∀{ns:List Int} {vs:List D} {ys:List V},Reps K W H vs ys->Reps K W H (List.zipWith (fun k' v'=>if zV k' (.int i) then d else v') (ns.map D.int) vs) (List.zipWith (fun n y=>if n=i then v else y) ns ys)
 |[],_,_,_=>by simp;exact .nil
 |n::ns,_,_,.nil=>by simp;exact .nil
 |n::ns,_,_,.cons h t=>by
  have ih:=zbG rv i (ns:=ns) t
  simp only[List.map_cons,List.zipWith_cons_cons]
  refine .cons ?_ ih
  by_cases e:n=i
  ·simp[e,zV];exact rv
  ·simp[e,zV];exact h
theorem zbH{K:PySem.W.Frag}{W:Addr->Prop}{H:Hp}{d:D}{v:V}(rv:Rep K W H d v)(i:List Int): ∀{ns:List (List Int)} {vs:List D} {ys:List V},Reps K W H vs ys->Reps K W H (List.zipWith (fun k' v'=>if zV k' (kT i) then d else v') (ns.map kT) vs) (List.zipWith (fun n y=>if n=i then v else y) ns ys)
 |[],_,_,_=>by simp;exact .nil
 |n::ns,_,_,.nil=>by simp;exact .nil
 |n::ns,_,_,.cons h t=>by
  have ih:=zbH rv i (ns:=ns) t
  simp only[List.map_cons,List.zipWith_cons_cons]
  refine .cons ?_ ih
  have:zV (kT n) (kT i)=decide (n=i):=by simp[kT,zV,VO]
  rw[this]
  by_cases e:n=i
  ·simp[e];exact rv
  ·simp[e];exact h
theorem zjv{K:PySem.W.Frag}{W:Addr->Prop}{H:Hp}{ns:List Int}{ys:List V}{vs:List D}{d:D}{v:V}(h:ns.length=ys.length)(r:Reps K W H vs ys)(i:Int)(rv:Rep K W H d v):
  ORep K W H (xK false (ns.map D.int) vs (.int i) d) (.dK (xm (yy ns ys) (.inl i) v)):=by
 unfold xm xK
 rw[Vu,za2 h]
 split
 ·rw[zbE i v h]
  exact .dK (by simp[h]) (zbG rv i r)
 ·have e:yy ns ys++[(Sum.inl i,v)]=yy (ns++[i]) (ys++[v]):=by
   unfold yy
   rw[List.map_append,List.zip_append (by simpa using h)]
   rfl
  rw[e]
  have:=ORep.dK (K:=K) (W:=W) (H:=H) (ns:=ns++[i]) (ys:=ys++[v]) (by simp[h]) (r.append (.cons rv .nil))
  rw[List.map_append] at this
  exact this
theorem zbI{K:PySem.W.Frag}{W:Addr->Prop}{H:Hp}{ns:List (List Int)}{ys:List V}{vs:List D}{d:D}{v:V}(h:ns.length=ys.length)(r:Reps K W H vs ys)(i:List Int)(rv:Rep K W H d v):
  ORep K W H (xK true (ns.map kT) vs (kT i) d) (.dT (xm (yC ns ys) (i.map Sum.inl) v)):=by
 unfold xm xK
 rw[Vu,za3 h]
 split
 ·rw[zbF i v h]
  exact .dT (by simp[h]) (zbH rv i r)
 ·have e:yC ns ys++[(i.map Sum.inl,v)]=yC (ns++[i]) (ys++[v]):=by
   unfold yC
   rw[List.map_append,List.zip_append (by simpa using h)]
   rfl
  rw[e]
  have:=ORep.dT (K:=K) (W:=W) (H:=H) (ns:=ns++[i]) (ys:=ys++[v]) (by simp[h]) (r.append (.cons rv .nil))
  rw[List.map_append] at this
  exact this
theorem zbJ{ns:List Int}{ys:List V}(h:ns.length=ys.length):(yy ns ys).length=ns.length:=by simp[yy,h]
theorem kM{ns:List (List Int)}{ys:List V}(h:ns.length=ys.length):(yC ns ys).length=ns.length:=by simp[yC,h]
theorem kN(i:Nat){pos':Pos}(hu:X.A.units+64<cLine)(hN:X.N[i]? =some x)(hv:zn X.env.scope x)(ha:IE X (zP fa) a ca)(hb:IE X (zP fa) b cb)(hd:(x==("__debug__":Str))=false)(hcd:(x==("__classdict__":Str))=false)
  (hs:swapsWith b (some (.Subscript (.Name x p) a pos')) pos.line X.env=pure false:=by rfl):IS X (zL fa fuel (.dset i ca cb)) (.Assign [.Subscript (.Name x p) a pos'] b pos):=
 .mk <| (zhD (by omega) (vE hN hv hd hcd) ha.v hb.v hs).imp fun D0 σ H zz3=>by
  obtain⟨W,ρ,y,hR,hy,q⟩:=zz3
  simp only[zaU] at hy
  split at hy
  ·rename_i x h
   split at hy
   ·rename_i t ks vs hc
    simp only[jo1] at hy
    obtain⟨r,e1,d,e2,r',e3,d',e4,e5⟩:=hy
    split at e5
    ·rename_i hk
     cases e5
     rw[Bool.and_eq_true,decide_eq_true_iff] at hk
     refine⟨W,ρ,r,hR,e1,fun v H1 s1 f1=>?_⟩
     have hR1:=hR.same s1
     obtain⟨a,o,h1,h2,h3,h4⟩:=hR1.own i _ _ h hc
     refine⟨_,h1,W,ρ,r',hR1,e3,fun v2 H2 s2 f2=>?_⟩
     have rv:=(f1.same s2).toD e2
     have rk:=f2.toD e4
     have le:=Zj
     cases h4 with
     |dK l rp=>
      rename_i ns ys
      cases d' with
      |int n=>
       cases rk
       refine⟨a,_,rfl,DPut.k (k:=.inl n) (s2 _ _ h3) (by rw[zbJ l];simp at hk;omega),q W σ _ (Jc hR h hc h1 (s1.trans s2) (s2 _ _ h3) ⟨fun _ z=>(nomatch z),fun _ _ z=>(nomatch z)⟩ (zjv l (rp.ext (.same s2)) n rv))⟩
      |_=>simp[yQ] at hk
     |dT l rp=>
      rename_i ns ys
      cases d' with
      |tup kl=>
       obtain⟨ms,hms⟩: ∃ms,ints? kl=some ms:=by have:=hk.1;simp only[yQ,Option.isSome_iff_exists] at this;exact this
       cases rk with
       |tup hb rpb=>
       have z1:=rpb.ofInts hms
       have z2:=Zk hms
       subst z1 z2
       refine⟨a,_,rfl,DPut.t (k:=ms.map Sum.inl) (s2 _ _ h3) (by rw[hb,YM]) (by rw[kM l];simp at hk;omega),q W σ _ (Jc hR h hc h1 (s1.trans s2) (s2 _ _ h3) ⟨fun _ z=>(nomatch z),fun _ _ z=>(nomatch z)⟩ (zbI l (rp.ext (.same s2)) ms rv))⟩
      |_=>simp[yQ] at hk
    ·cases e5
   ·cases hy
  ·cases hy
end
end L2.LW
set_option maxHeartbeats 4000000
namespace L2.LW
open PySem PySem.Spec PyProof.Rows
inductive ArgOk (K:PySem.W.Frag)(ρ:LW.Env)(σ:St)(H H':Hp):AV->V->Prop where
 |e {d:D} {v:V} (h: ∀W,Rep K W H' d v):ArgOk K ρ σ H H' (.e d) v
 |l {ds:List D} {a:Addr} {xs:List V} (e:SqL K H' a xs/\Rd H' a (.lst xs)\/YI K a xs) (r: ∀W,Reps K W H' ds xs):ArgOk K ρ σ H H' (.l ds) (.ref a)
 |s {i:Nat} {x:SV} {d:D} {a:Addr} (h:ρ[i]? =some (some x)) (c:x.cell=some d) (k:Zf d=true) (e:σ[i]? =some (some (.ref a))):ArgOk K ρ σ H H' (.s i d) (.ref a)
 |n {t:Bool} {a:Addr} {o:HO} (h:H a=Option.none) (e:H' a=some o) (r: ∀W,ORep K W H' (.dct t [] []) o):ArgOk K ρ σ H H' (.n t) (.ref a)
theorem ArgOk.same{K:PySem.W.Frag}{ρ:LW.Env}{σ:St}{H H' H'':Hp}{x:AV}{v:V}(h:ArgOk K ρ σ H H' x v)(s:Same H' H''):ArgOk K ρ σ H H'' x v:=by
 cases h with
 |e h=>exact .e fun W=>(h W).ext (.same s)
 |l e r=>
  refine .l ?_ fun W=>(r W).ext (.same s)
  rcases e with ⟨e1,e2⟩|e
  ·refine .inl ⟨s.seq e1,?_⟩
   rcases e2 with e2|⟨o,e2⟩
   ·exact .inl (s _ _ e2)
   ·exact .inr ⟨o,s _ _ e2⟩
  ·exact .inr e
 |s h c k e=>exact .s h c k e
 |n h e r=>exact .n h (s _ _ e) fun W=>(r W).ext (.same s)
theorem ArgOk.back{K:PySem.W.Frag}{ρ:LW.Env}{σ:St}{H H' H'':Hp}{x:AV}{v:V}(h:ArgOk K ρ σ H' H'' x v)(s:Same H H'):ArgOk K ρ σ H H'' x v:=by
 cases h with
 |e h=>exact .e h
 |l e r=>exact .l e r
 |s h c k e=>exact .s h c k e
 |n h e r=>exact .n (s.free h) e r
inductive OutsX (K:PySem.W.Frag)(W:Addr->Prop)(H:Hp):List AV->List V->List D->Prop where
 |nil:OutsX K W H [] [] []
 |e {d:D} {v:V} {xs:List AV} {vs:List V} {os:List D} (t:OutsX K W H xs vs os):OutsX K W H (.e d::xs) (v::vs) os
 |l {d:List D} {v:V} {xs:List AV} {vs:List V} {os:List D} (t:OutsX K W H xs vs os):OutsX K W H (.l d::xs) (v::vs) os
 |s {i:Nat} {d:D} {a:Addr} {o:HO} {d':D} {xs:List AV} {vs:List V} {os:List D} (e:H a=some o) (r:ORep K W H d' o) (t:OutsX K W H xs vs os):OutsX K W H (.s i d::xs) (.ref a::vs) (d'::os)
 |n {b:Bool} {v:V} {d':D} {xs:List AV} {vs:List V} {os:List D} (t:OutsX K W H xs vs os):OutsX K W H (.n b::xs) (v::vs) (d'::os)
section
variable {X:Cx} {fn:Nat->List D->Option SV} {fa:Nat->List D->Option Ans} {fuel:Nat} {a b c e:Expr} {ca cb cc ce:E} {es:List Expr} {cs:Es} {ma:MA} {m:M} {pos p:Pos} {x:Str} {st:Stmt} {sts sts':List Stmt} {s:S} {ss s1 s2:Ss}
theorem OutsX.plain{K:PySem.W.Frag}{W W':Addr->Prop}{H:Hp}{xs:List AV}{vs:List V}{os:List D}(h:OutsX K W H xs vs os)(p:os.all wg=true):OutsX K W' H xs vs os:=by
 induction h with
 |nil=>exact .nil
 |e _ ih=>exact .e (ih p)
 |l _ ih=>exact .l (ih p)
 |s e r _ ih=>
  simp only[List.all_cons,Bool.and_eq_true] at p
  exact .s e (r.plain p.1) (ih p.2)
 |n _ ih=>
  simp only[List.all_cons,Bool.and_eq_true] at p
  exact .n (ih p.2)
theorem Res.fine{K:PySem.W.Frag}{W W':Addr->Prop}{H H':Hp}{r:SV}{v:V}(h:Res K W' H H' r v)(p:r.fine=true):Res K W H H' r v:=by
 cases h with
 |val h=>exact .val (h.plain p)
 |new h e r=>exact .new h e (r.plain p)
 |see h e r=>cases p
theorem SPost.wf'{K:PySem.W.Frag}{W W':Addr->Prop}{ρ ρ':LW.Env}{σ σ':St}{H H':Hp}(p:SPost K W ρ σ H W' ρ' σ' H'):Wf W' H':=p.r.wf
end
end L2.LW
set_option maxHeartbeats 4000000
namespace L2.LW
open PySem PySem.Spec PyProof.Rows
noncomputable def zjw(sc scope:Scope)(y:Str)(l1 l2:Nat):Bool:=(if sc.kind.isAnnotationScope then ScopeKind.function else sc.kind)== .function&&sc.names.lookup y==some .local&&l1==l2&& !(scope.names.any fun (n,k)=>n==y&&(k== .local||k== .cell))
theorem Xa{env:PySem.Env}{sc scope:Scope}{elt:Expr}{gens:List Comprehension}{y:Str}{py pos:Pos}{l:Nat}{b:Bool}(hs:env.scope=sc)(h:zjw sc scope y py.line pos.line=b):
  swapsWith (.ListComp elt gens scope pos) (some (.Name y py)) l env=pure b:=by
 subst hs;subst h;rfl
theorem zjx{K:PySem.W.Frag}{W:Addr->Prop}{ρ:LW.Env}{σ:St}{H:Hp}(r:R K W ρ σ H)(j:Nat): ∃W',SPost K W ρ σ H W' (vT ρ j) σ H:=by
 unfold vT
 split
 ·rename_i d h
  obtain⟨a,o,h1,_⟩:=r.own j _ d h rfl
  exact⟨_,(kD r h h1).1⟩
 ·exact⟨W,.same r (.refl H)⟩
theorem zbK{K:PySem.W.Frag}{σ:St}{H:Hp}: ∀(js:List Nat) {W:Addr->Prop} {ρ:LW.Env},R K W ρ σ H->∃W',SPost K W ρ σ H W' (js.foldl vT ρ) σ H
 |[],W,ρ,r=>⟨W,.same r (.refl H)⟩
 |j::js,W,ρ,r=>by
  obtain⟨W1,p1⟩:=zjx r j
  obtain⟨W2,p2⟩:=zbK js p1.r
  exact⟨W2,p1.trans p2 r⟩
section
variable {X:Cx} {fn:Nat->List D->Option SV} {fa:Nat->List D->Option Ans} {fuel:Nat} {st:Stmt} {s:S}
theorem kO(js:List Nat)(h:IS X (zL fa fuel s) st):IS X (zL fa fuel (.frz js s)) st:=
 .mk <| h.h.imp fun D σ H zz3=>by
  obtain⟨W,ρ,x,hR,hx,q⟩:=zz3
  simp only[ziI] at hx
  obtain⟨W1,p1⟩:=zbK js hR
  exact⟨W1,_,x,p1.r,hx,fun W2 σ2 H2 p2=>FlOk.back p1 (q W2 σ2 H2 (p1.trans p2 hR))⟩
theorem zjy{its:List Value}{ns:List Int}(hi:IntsAre its ns): ∃ps:List (Int×Tok),its=ps.map (fun p=>Value.int p.1 p.2)/\ns=ps.map (·.1):=by
 induction hi with
 |nil=>exact⟨[],rfl,rfl⟩
 |cons n t h ih=>
  obtain⟨ps,e1,e2⟩:=ih
  exact⟨(n,t)::ps,by rw[e1];rfl,by rw[e2];rfl⟩
theorem zbL{its:List Value}{ns:List Int}(hi:IntsAre its ns): ∃xs:Array (Int×Tok),its.toArray=intItems xs/\xs.size=ns.length/\∀i,(h:i<ns.length)->numAt xs i=ns[i]:=by
 obtain⟨ps,rfl,rfl⟩:=zjy hi
 refine⟨ps.toArray,by simp[intItems],by simp,fun i h=>?_⟩
 have h':i<ps.length:=by simpa using h
 simp[numAt,h']
end
end L2.LW
set_option maxHeartbeats 4000000
namespace L2.LW
open PySem PySem.W PyProof.Rows
section
variable {n:Nat} {r:Nat->Int} {cmp:Nat->Nat->(Bool->Shared->Prop)->Shared->Prop} {I:Shared->Prop}
noncomputable def kk(r:Nat->Int)(p:Array Nat)(i:Nat):Int:=r (p.getD i 0)
structure Pm (n:Nat)(r:Nat->Int)(p:Array Nat):Prop where
 perm:p.Perm (List.range n).toArray
 size:p.size=n
 lt: ∀i,i<n->p.getD i 0<n
 inj: ∀i j,i<n->j<n->i≠j->kk r p i≠kk r p j
theorem Pm.of{p:Array Nat}(hr: ∀i j,i<n->j<n->i≠j->r i≠r j)(h:p.Perm (List.range n).toArray):Pm n r p:=by
 have hs:p.size=n:=by have:=h.size_eq;simpa using this
 have hl:p.toList.Perm (List.range n):=Array.perm_iff_toList_perm.mp h
 have hlt: ∀i,i<n->p.getD i 0<n:=fun i hi=>by
  have hi':i<p.size:=by omega
  have:p[i]∈p.toList:=by simp
  have:=hl.mem_iff.mp this
  rw[List.mem_range] at this
  simpa [Array.getD,hi'] using this
 have hnd:p.toList.Nodup:=hl.nodup_iff.mpr List.nodup_range
 refine⟨h,hs,hlt,fun i j hi hj ne=>hr _ _ (hlt i hi) (hlt j hj) fun e=>ne ?_⟩
 have hi':i<p.size:=by omega
 have hj':j<p.size:=by omega
 simp only[Array.getD,hi',hj',dif_pos] at e
 have e':p.toList[i]'(by simpa using hi')=p.toList[j]'(by simpa using hj'):=by simpa using e
 exact (List.getElem_inj hnd).mp e'
noncomputable def Up(r:Nat->Int)(p:Array Nat)(k:Nat):Prop:=∀i j,i<j->j<k->kk r p i<kk r p j
noncomputable def Dn(r:Nat->Int)(p:Array Nat)(k:Nat):Prop:=∀i j,i<j->j<k->kk r p j<kk r p i
theorem Up.one{p:Array Nat}{k:Nat}(h:k<=1):Up r p k:=fun i j h1 h2=>by omega
theorem Dn.one{p:Array Nat}{k:Nat}(h:k<=1):Dn r p k:=fun i j h1 h2=>by omega
theorem Up.next{p:Array Nat}{k:Nat}(h:Up r p k)(hk:1<=k)(e:kk r p (k-1)<kk r p k):Up r p (k+1):=fun i j h1 h2=>by
 by_cases hj:j=k
 ·subst hj
  by_cases hi:i=j-1
  ·rw[hi];exact e
  ·exact Int.lt_trans (h i (j-1) (by omega) (by omega)) e
 ·exact h i j h1 (by omega)
theorem Dn.next{p:Array Nat}{k:Nat}(h:Dn r p k)(hk:1<=k)(e:kk r p k<kk r p (k-1)):Dn r p (k+1):=fun i j h1 h2=>by
 by_cases hj:j=k
 ·subst hj
  by_cases hi:i=j-1
  ·rw[hi];exact e
  ·exact Int.lt_trans e (h i (j-1) (by omega) (by omega))
 ·exact h i j h1 (by omega)
theorem Pm.lt'{p:Array Nat}(P:Pm n r p){i j:Nat}(hi:i<n)(hj:j<n)(ne:i≠j)(h: ¬kk r p i<kk r p j):kk r p j<kk r p i:=by
 have:=P.inj i j hi hj ne
 omega
variable (hc: ∀i j C s,i<n->j<n->I s->(∀s',I s'->C (decide (r i<r j)) s')->cmp i j C s)
include hc
theorem kP{p:Array Nat}(P:Pm n r p){Q:Nat->Shared->Prop}: ∀(f m:Nat) (s:Shared),1<=m->m+f=n->I s->Up r p m->(∀k s',I s'->m<=k->k<=n->Up r p k->(k=n\/kk r p k<kk r p (k-1))->(k=m\/kk r p m>kk r p (m-1))->Q k s')->(kas_asc p f m).kasWp cmp Q s
 |0,m,s,h1,h2,hI,hu,q=>q m s hI (Nat.le_refl _) (by omega) hu (.inl (by omega)) (.inl rfl)
 |f+1,m,s,h1,h2,hI,hu,q=>by
  refine hc _ _ _ s (P.lt m (by omega)) (P.lt (m-1) (by omega)) hI fun s' hI'=>?_
  by_cases h:kk r p m<kk r p (m-1)
  ·have e:decide (r (p.getD m 0)<r (p.getD (m-1) 0))=true:=decide_eq_true h
   simp only[e,if_true]
   exact q m s' hI' (Nat.le_refl _) (by omega) hu (.inr h) (.inl rfl)
  ·have e:decide (r (p.getD m 0)<r (p.getD (m-1) 0))=false:=decide_eq_false h
   simp only[e,Bool.false_eq_true,if_false]
   have hlt:=P.lt' (by omega) (by omega) (by omega) h
   exact kP P f (m+1) s' (by omega) (by omega) hI' (hu.next h1 hlt) fun k s'' hs h3 h4 h5 h6 _=>q k s'' hs (by omega) h4 h5 h6 (.inr hlt)
theorem zbM{p:Array Nat}(P:Pm n r p){Q:Array Nat×Nat×Nat->Shared->Prop}: ∀(f m:Nat) (s:Shared),1<=m->m+f=n->I s->Dn r p m->(∀k s',I s'->m<=k->k<=n->Dn r p k->Q (p,k,0) s')->(kas_desc f p m 0).kasWp cmp Q s
 |0,m,s,h1,h2,hI,hu,q=>q m s hI (Nat.le_refl _) (by omega) hu
 |f+1,m,s,h1,h2,hI,hu,q=>by
  refine hc _ _ _ s (P.lt m (by omega)) (P.lt (m-1) (by omega)) hI fun s' hI'=>?_
  by_cases h:kk r p m<kk r p (m-1)
  ·have e:decide (r (p.getD m 0)<r (p.getD (m-1) 0))=true:=decide_eq_true h
   simp only[e,if_true,Nat.lt_irrefl,if_false,gt_iff_lt]
   exact zbM P f (m+1) s' (by omega) (by omega) hI' (hu.next h1 h) fun k s'' hs h3 h4 h5=>q k s'' hs (by omega) h4 h5
  ·have e:decide (r (p.getD m 0)<r (p.getD (m-1) 0))=false:=decide_eq_false h
   simp only[e,Bool.false_eq_true,if_false]
   have hlt:=P.lt' (by omega) (by omega) (by omega) h
   refine hc _ _ _ s' (P.lt (m-1) (by omega)) (P.lt m (by omega)) hI' fun s'' hI''=>?_
   have e2:decide (r (p.getD (m-1) 0)<r (p.getD m 0))=true:=decide_eq_true hlt
   simp only[e2,if_true]
   exact q m s'' hI'' (Nat.le_refl _) (by omega) hu
omit hc in
theorem Pm.rev{p:Array Nat}(hr: ∀i j,i<n->j<n->i≠j->r i≠r j)(P:Pm n r p)(i j:Nat):Pm n r (kas_rev p i j):=Pm.of hr ((mirror_perm p i j _).trans P.perm)
omit hc in
theorem zbN{p:Array Nat}{m k:Nat}(hm:m<=p.size):kk r (kas_rev p 0 m) k=if k<m then kk r p (m-1-k) else kk r p k:=by
 have e:=getElem?_mirror_all (i:=0) hm k
 simp only[Nat.zero_le,true_and,Nat.zero_add] at e
 by_cases h:k<m
 ·rw[if_pos h] at e⊢
  simp only[kk,kas_rev,Array.getD_eq_getD_getElem?,e]
 ·rw[if_neg h] at e⊢
  simp only[kk,kas_rev,Array.getD_eq_getD_getElem?,e]
omit hc in
theorem Dn.rev{p:Array Nat}{m:Nat}(hm:m<=p.size)(h:Dn r p m):Up r (kas_rev p 0 m) m:=fun i j h1 h2=>by
 rw[zbN hm,zbN hm,if_pos (by omega),if_pos h2]
 exact h _ _ (by omega) (by omega)
theorem zjz(hr: ∀i j,i<n->j<n->i≠j->r i≠r j){p:Array Nat}(P:Pm n r p){m:Nat}{s:Shared}{Q:Nat×Array Nat->Shared->Prop}(h1:1<=m)(h2:m<=n)(hI:I s)(hd:Dn r p m)
  (q: ∀k p' s',I s'->k<=n->1<=k->Pm n r p'->Up r p' k->Q (k,p') s'):(kas_tail3 m n p).kasWp cmp Q s:=by
 unfold kas_tail3
 rw[KasT.kasWp_bind]
 have P':=P.rev hr 0 m
 refine kP hc P' (n-m) m s h1 (by omega) hI (hd.rev (by rw[P.size];exact h2)) fun k s' hs h3 h4 h5 _ _=>?_
 exact q k _ s' hs h4 (by omega) P' h5
theorem zjA(hr: ∀i j,i<n->j<n->i≠j->r i≠r j){p:Array Nat}(P:Pm n r p){s:Shared}{Q:Nat×Array Nat->Shared->Prop}(h2:2<=n)(hI:I s)(hd:kk r p 1<kk r p 0)
  (q: ∀k p' s',I s'->k<=n->1<=k->Pm n r p'->Up r p' k->Q (k,p') s'):(kas_descPart 1 n p).kasWp cmp Q s:=by
 unfold kas_descPart
 rw[KasT.kasWp_bind]
 refine zbM hc P (n-2) 2 s (by omega) (by omega) hI ((Dn.one (k:=1) (Nat.le_refl _)).next (Nat.le_refl _) hd) fun k s' hs h3 h4 h5=>?_
 simp only[Nat.lt_irrefl,if_false,gt_iff_lt]
 exact zjz hc hr P (by omega) h4 hs h5 q
theorem zjB(hr: ∀i j,i<n->j<n->i≠j->r i≠r j){p:Array Nat}(P:Pm n r p){s:Shared}{Q:Nat×Array Nat->Shared->Prop}(h2:2<=n)(hI:I s)
  (q: ∀k p' s',I s'->k<=n->1<=k->Pm n r p'->Up r p' k->Q (k,p') s'):(kas_count n p).kasWp cmp Q s:=by
 unfold kas_count
 rw[KasT.kasWp_bind]
 refine kP hc P (n-1) 1 s (Nat.le_refl _) (by omega) hI (Up.one (Nat.le_refl _)) fun k s' hs h3 h4 h5 h6 h7=>?_
 by_cases hk:k=n
 ·subst hk
  simp only[beq_self_eq_true,if_true]
  exact q _ p s' hs (Nat.le_refl _) h3 P h5
 ·have e:(k==n)=false:=by simpa using hk
  simp only[e,Bool.false_eq_true,if_false]
  by_cases h1:k>1
  ·simp only[h1,if_true]
   refine hc _ _ _ s' (P.lt 0 (by omega)) (P.lt (k-1) (by omega)) hs fun s'' hs'=>?_
   have e2:decide (r (p.getD 0 0)<r (p.getD (k-1) 0))=true:=decide_eq_true (h5 0 (k-1) (by omega) (by omega))
   simp only[e2,if_true]
   exact q _ p s'' hs' h4 h3 P h5
  ·have ek:k=1:=by omega
   subst ek
   simp only[Nat.lt_irrefl,if_false,gt_iff_lt]
   exact zjA hc hr P h2 hs (h6.resolve_left hk) q
theorem kQ{p:Array Nat}(P:Pm n r p){k:Nat}(hk:k<n){Q:Nat->Shared->Prop}: ∀(f l h:Nat) (s:Shared),h-l<=f->l<=h->h<=k->I s->(∀i,i<l->kk r p i<kk r p k)->(∀i,h<=i->i<k->kk r p k<kk r p i)->Up r p k->
  (∀l s',I s'->l<=k->(∀i,i<l->kk r p i<kk r p k)->(∀i,l<=i->i<k->kk r p k<kk r p i)->Q l s')->(kas_place p k f l h).kasWp cmp Q s
 |0,l,h,s,hf,h1,h2,hI,hl,hh,hu,q=>q l s hI (by omega) hl fun i h3 h4=>hh i (by omega) h4
 |f+1,l,h,s,hf,h1,h2,hI,hl,hh,hu,q=>by
  unfold kas_place
  by_cases hge:l>=h
  ·rw[if_pos hge]
   exact q l s hI (by omega) hl fun i h3 h4=>hh i (by omega) h4
  ·rw[if_neg hge]
   refine hc _ _ _ s (P.lt k hk) (P.lt _ (by omega)) hI fun s' hI'=>?_
   by_cases hm:kk r p k<kk r p ((l+h)/2)
   ·have e:decide (r (p.getD k 0)<r (p.getD ((l+h)/2) 0))=true:=decide_eq_true hm
    simp only[e,if_true]
    refine kQ P hk f l ((l+h)/2) s' (by omega) (by omega) (by omega) hI' hl (fun i h3 h4=>?_) hu q
    by_cases hi:i=(l+h)/2
    ·rw[hi];exact hm
    ·exact Int.lt_trans hm (hu _ _ (by omega) h4)
   ·have e:decide (r (p.getD k 0)<r (p.getD ((l+h)/2) 0))=false:=decide_eq_false hm
    simp only[e,Bool.false_eq_true,if_false]
    have hlt:=P.lt' hk (by omega) (by omega) hm
    refine kQ P hk f ((l+h)/2+1) h s' (by omega) (by omega) h2 hI' (fun i h3=>?_) hh hu q
    by_cases hi:i=(l+h)/2
    ·rw[hi];exact hlt
    ·exact Int.lt_trans (hu i ((l+h)/2) (by omega) (by omega)) hlt
omit hc in
theorem zbO{p:Array Nat}{k d:Nat}(hk:k<p.size)(hd:d<=k)(i:Nat):kk r (bubble p k d) i=if i=k-d then kk r p k else if k-d<i/\i<=k then kk r p (i-1) else kk r p i:=by
 have e:=getElem?_bubble hk d hd i
 by_cases h:i=k-d
 ·rw[if_pos h] at e⊢
  simp only[kk,Array.getD_eq_getD_getElem?,e]
 ·rw[if_neg h] at e⊢
  by_cases h':k-d<i/\i<=k
  ·rw[if_pos h'] at e⊢
   simp only[kk,Array.getD_eq_getD_getElem?,e]
  ·rw[if_neg h'] at e⊢
   simp only[kk,Array.getD_eq_getD_getElem?,e]
theorem zbP(hr: ∀i j,i<n->j<n->i≠j->r i≠r j){Q:Array Nat->Shared->Prop}: ∀(f:Nat) (p:Array Nat) (k:Nat) (s:Shared),1<=k->k+f=n->Pm n r p->I s->Up r p k->(∀p' s',I s'->Pm n r p'->Up r p' n->Q p' s')->(kas_bin f p k).kasWp cmp Q s
 |0,p,k,s,h1,h2,P,hI,hu,q=>q p s hI P (by rw[<-h2];exact hu)
 |f+1,p,k,s,h1,h2,P,hI,hu,q=>by
  unfold kas_bin
  rw[KasT.kasWp_bind]
  have hk:k<n:=by omega
  refine kQ hc P hk k 0 k s (by omega) (Nat.zero_le _) (Nat.le_refl _) hI (fun i h=>by omega) (fun i h3 h4=>by omega) hu fun l s' hI' hl h3 h4=>?_
  have hks:k<p.size:=by rw[P.size];exact hk
  have P':Pm n r (bubble p k (k-l)):=Pm.of hr ((bubble_perm p k _).trans P.perm)
  refine zbP hr f _ (k+1) s' (by omega) (by omega) P' hI' (fun i j hij hj=>?_) q
  rw[zbO hks (by omega),zbO hks (by omega)]
  have ekl:k-(k-l)=l:=by omega
  rw[ekl]
  by_cases hi:i=l
  ·rw[if_pos hi,if_neg (by omega)]
   rw[if_pos (by omega)]
   exact h4 _ (by omega) (by omega)
  ·rw[if_neg hi]
   by_cases hjl:j=l
   ·rw[if_pos hjl,if_neg (by omega)]
    exact h3 i (by omega)
   ·rw[if_neg hjl]
    by_cases hi2:l<i/\i<=k
    ·rw[if_pos hi2,if_pos (by omega)]
     exact hu _ _ (by omega) (by omega)
    ·rw[if_neg hi2]
     by_cases hj2:l<j/\j<=k
     ·rw[if_pos hj2]
      by_cases he:i=j-1
      ·omega
      ·exact hu _ _ (by omega) (by omega)
     ·rw[if_neg hj2]
      exact hu _ _ (by omega) (by omega)
theorem zjC(hr: ∀i j,i<n->j<n->i≠j->r i≠r j){s:Shared}{Q:Array Nat->Shared->Prop}(h2:2<=n)(hI:I s)(q: ∀p s',I s'->Pm n r p->Up r p n->Q p s'):(kas_sort n).kasWp cmp Q s:=by
 unfold kas_sort
 rw[KasT.kasWp_bind]
 have P0:Pm n r (List.toArray (List.range n)):=Pm.of hr (Array.Perm.refl _)
 refine zjB hc hr P0 h2 hI fun k p s' hI' hk h1 P hu=>?_
 by_cases hlt:k<n
 ·simp only[hlt,if_true]
  have e:max k 1=k:=by omega
  rw[e]
  exact zbP hc hr (n-k) p k s' h1 (by omega) P hI' hu q
 ·simp only[hlt,if_false]
  have e:k=n:=by omega
  exact q p s' hI' P (by rw[<-e];exact hu)
end
end L2.LW
set_option maxHeartbeats 4000000
namespace L2.LW
open PySem PySem.Spec PySem.W PyProof.Rows
section
variable {prog:Program} {w:World} {A:Around} {E:Value->Shared->Prop} {s:Shared}
theorem zbQ{a:Addr}{vs:List Value}{n:Nat}{P:PySem.Fin->Shared->Prop}{κ:SortKind}(ho:s.heap.get? a=some (seqObj "list" vs.toArray n))(h64:vs.length<64){r:Nat->Int}(hr: ∀i j,i<vs.length->j<vs.length->i≠j->r i≠r j)
  (hk:2<=vs.length->∀h' tk,(∀b o,b≠a->s.heap.get? b=some o->h'.get? b=some o)->wpAny (model prog w) A (keyKind' vs.toArray) (fun κ' s'=>κ'=κ/\∃tk',s'={ s with heap:=h',toks:=tk' }) (fun _ _=>False) { s with heap:=h',toks:=tk })
  (hc: ∀i j h' tk (C:Bool->Shared->Prop),i<vs.length->j<vs.length->(∀b o,b≠a->s.heap.get? b=some o->h'.get? b=some o)->(∀tk',C (decide (r i<r j)) { s with heap:=h',toks:=tk' })->
   wpAny (model prog w) A (keyLt' κ (vs.getD i Value.none) (vs.getD j Value.none)) C (fun _ _=>False) { s with heap:=h',toks:=tk })
  (h: ∀p tk,Pm vs.length r p->Up r p vs.length->P (.done (.ret .none)) { s with heap:=sortedHeap s.heap a vs (p.toList.map fun i=>vs.getD i Value.none).toArray,toks:=tk }):
  wpAny (model prog w) A (Builtin.«list.sort» ⟨[.ref a],[]⟩) P E s:=by
 rw[list_sort_plain]
 have ha:a<s.heap.objs.size:=Heap.lt_size ho
 refine wpAny_bind (listItems_at ho rfl ?_)
 refine wpAny_bind (listUpdate_at ho rfl ?_ (by rw[List.size_toArray,sizeLine_eq];omega) (Nat.zero_le _))
 obtain⟨e1,ho1⟩: ∃e1,(s.heap.update a (Obj.mapSeq fun _=> #[])).get? a=some (seqObj "list" #[] e1):=⟨_,get?_update_seq ho (fun _=> #[])⟩
 refine wpAny_bind (seqEpoch_at ho1 rfl ?_)
 refine wpAny_bind (wpAny_newTuple ?_ (by show vs.length<=_;rw[sizeLine_eq];omega))
 refine wpAny_bind (wpAny_newList ?_ (Nat.zero_le _))
 refine wpAny_holding ?_
 have ho6:(((s.heap.update a (Obj.mapSeq fun _=> #[])).push (seqObj "tuple" vs.toArray 0)).push (seqObj "list" #[] 0)).get? a=some (seqObj "list" #[] e1):=by
  rw[Heap.get?_push_ne _ _ _ (by rw[size_push',Heap.size_update];exact Nat.ne_of_lt (Nat.lt_succ_of_lt ha)),Heap.get?_push_ne _ _ _ (by rw[Heap.size_update];exact Nat.ne_of_lt ha)]
  exact ho1
 have keep: ∀b o,b≠a->s.heap.get? b=some o->(((s.heap.update a (Obj.mapSeq fun _=> #[])).push (seqObj "tuple" vs.toArray 0)).push (seqObj "list" #[] 0)).get? b=some o:=fun b o hb e=>
  Heap.get?_push_of_some _ (Heap.get?_push_of_some _ (by rw[Heap.get?_update_ne _ _ _ _ hb];exact e))
 show wpAny (model prog w) A _ P E { s with heap:=((s.heap.update a (Obj.mapSeq fun _=> #[])).push (seqObj "tuple" vs.toArray 0)).push (seqObj "list" #[] 0) }
 dsimp only
 have hsz:vs.toArray.size=vs.length:=by simp
 have hid:Pm vs.length r (List.range vs.length).toArray:=Pm.of hr (Array.Perm.refl _)
 by_cases h2:vs.toArray.size<2
 ·rw[if_pos h2,if_pos h2]
  refine wpAny_bind (wpAny_pure ?_)
  rw[StateT.run_pure]
  refine wpAny_bind (wpAny_pure ?_)
  dsimp only
  refine wpAny_bind (seqEpoch_at ho6 rfl ?_)
  refine wpAny_bind (listUpdate_at ho6 rfl ?_ (Nat.zero_le _) (by rw[Array.size_map];show (pairsOf vs).size<=_;rw[pairsOf_size,sizeLine_eq];omega))
  simp only[bne_self_eq_false,Bool.false_eq_true,if_false]
  have hh:=h (List.range vs.length).toArray s.toks hid (Up.one (by omega))
  have e:((List.range vs.length).toArray.toList.map fun i=>vs.getD i Value.none).toArray=(arrOf (SortSt.mk' general' (vs.toArray.zip vs.toArray) #[] 7 none)).map (·.2):=by
   show _=(vs.toArray.zip vs.toArray).map (·.2)
   apply Array.toList_inj.mp
   simp
   apply List.ext_getElem
   ·simp
   ·intro i h1 h2;simp at h1;simp[h1]
  rw[e] at hh
  exact wpAny_pure hh
 ·rw[if_neg h2,if_neg h2]
  rw[hsz] at h2
  have h2':2<=vs.length:=by omega
  refine wpAny_bind (wpAny_mono (hk h2' _ s.toks keep) (fun κ' s0 ⟨hκ,tk0,hs0⟩=>?_) fun _ _ x=>x.elim)
  subst hκ hs0
  refine wpAny_bind (wpAny_mono (kat_run (ks:=vs) (Q:=fun st' s'=>∃(p:Array Nat) (tk:Nat),Pm vs.length r p/\Up r p vs.length/\arrOf st'=p.map (kas_item (vs.toArray.zip vs.toArray))/\failedOf st'=Option.none/\
    s'={ s with heap:=((s.heap.update a (Obj.mapSeq fun _=> #[])).push (seqObj "tuple" vs.toArray 0)).push (seqObj "list" #[] 0),toks:=tk })
   (G:=fun p s'=>∃tk,Pm vs.length r p/\Up r p vs.length/\s'={ s with heap:=((s.heap.update a (Obj.mapSeq fun _=> #[])).push (seqObj "tuple" vs.toArray 0)).push (seqObj "list" #[] 0),toks:=tk })
   rfl h2' h64 (fun p st' s' a1 a2 a3 ⟨tk,a4,a5,a6⟩=>⟨p,tk,a4,a5,a2,a3,a6⟩) ?_) ?_ fun _ _ e=>e)
  ·exact zjC (I:=fun s'=>∃tk,s'={ s with heap:=((s.heap.update a (Obj.mapSeq fun _=> #[])).push (seqObj "tuple" vs.toArray 0)).push (seqObj "list" #[] 0),toks:=tk })
    (fun i j C s' hi hj zz6 q=>by
     obtain⟨tk,hs'⟩:=zz6
     subst hs'
     exact hc i j _ tk C hi hj keep fun tk'=>q _ ⟨tk',rfl⟩) hr h2' ⟨tk0,rfl⟩ fun p s' ⟨tk,hs'⟩ hp hu=>⟨tk,hp,hu,hs'⟩
  ·rintro⟨⟨⟩,st'⟩ s' ⟨p,tk,hp,hu,har,hf,rfl⟩
   dsimp only
   have hout:=kat_snds (ks:=vs) (vs:=vs) rfl har
   rw[hout]
   refine wpAny_bind (seqEpoch_at ho6 rfl ?_)
   refine wpAny_bind (listUpdate_at ho6 rfl ?_ (Nat.zero_le _) (by rw[List.size_toArray,List.length_map,Array.length_toList,hp.size,sizeLine_eq];omega))
   rw[hf]
   simp only[bne_self_eq_false,Bool.false_eq_true,if_false]
   exact wpAny_pure (h p tk hp hu)
theorem zjD{l:Addr}{vs:List Value}{Q:Value->Shared->Prop}{κ:SortKind}(hl:s.heap.IsList l vs.toArray)(h64:vs.length<64){r:Nat->Int}(hr: ∀i j,i<vs.length->j<vs.length->i≠j->r i≠r j)
  (hk:2<=vs.length->∀h' tk,(∀b o,s.heap.get? b=some o->h'.get? b=some o)->wpAny (model prog w) A.in1.in1 (keyKind' vs.toArray) (fun κ' s'=>κ'=κ/\∃tk',s'={ s with heap:=h',toks:=tk' }) (fun _ _=>False) { s with heap:=h',toks:=tk })
  (hc: ∀i j h' tk (C:Bool->Shared->Prop),i<vs.length->j<vs.length->(∀b o,s.heap.get? b=some o->h'.get? b=some o)->(∀tk',C (decide (r i<r j)) { s with heap:=h',toks:=tk' })->
   wpAny (model prog w) A.in1.in1 (keyLt' κ (vs.getD i Value.none) (vs.getD j Value.none)) C (fun _ _=>False) { s with heap:=h',toks:=tk })
  (h: ∀p tk,Pm vs.length r p->Up r p vs.length->Q (.ref (s.heap.objs.size+1)) { s with heap:=sortedAll s.heap vs (p.toList.map fun i=>vs.getD i Value.none).toArray,toks:=tk }):
  wpAny (model prog w) A (call (.builtin "sorted") [.ref l]) Q E s:=by
 refine Calls.call_function_entry kind_sorted plain_sorted entry_sorted (args_sorted1 _) ?_
 unfold Builtin.«sorted»
 refine wpAny_bind (m:=checkCount "sorted" 1 1 _) (wpAny_pure ?_)
 refine wpAny_bind (collect_list hl ?_ (by rw[sizeLine_eq];omega))
 refine wpAny_bind (wpAny_newList ?_ (by rw[sizeLine_eq];omega))
 have hsz:((s.heap.push (seqObj "list" #[] 0)).update s.heap.objs.size (Obj.mapSeq (· ++vs.toArray))).objs.size=s.heap.objs.size+1:=by
  rw[Heap.size_update,size_push']
 have hoL:(((s.heap.push (seqObj "list" #[] 0)).update s.heap.objs.size (Obj.mapSeq (· ++vs.toArray))).push (seqObj "list" vs.toArray 0)).get? (s.heap.objs.size+1)=some (seqObj "list" vs.toArray 0):=by
  rw[<-hsz];exact Heap.get?_push_size _ rfl
 have keep: ∀b o,s.heap.get? b=some o->(((s.heap.push (seqObj "list" #[] 0)).update s.heap.objs.size (Obj.mapSeq (· ++vs.toArray))).push (seqObj "list" vs.toArray 0)).get? b=some o:=fun b o q=>by
  have hlt:b<s.heap.objs.size:=Heap.lt_size q
  rw[Heap.get?_push_ne _ _ _ (by rw[hsz];exact Nat.ne_of_lt (Nat.lt_succ_of_lt hlt)),Heap.get?_update_ne _ _ _ _ (Nat.ne_of_lt hlt),Heap.get?_push_ne _ _ _ (Nat.ne_of_lt hlt)]
  exact q
 have nea: ∀b o,s.heap.get? b=some o->b≠s.heap.objs.size+1:=fun b o e=>Nat.ne_of_lt (Nat.lt_succ_of_lt (Heap.lt_size e))
 show wpAny _ _ _ _ _ { s with heap:=((s.heap.push (seqObj "list" #[] 0)).update s.heap.objs.size (Obj.mapSeq (· ++vs.toArray))).push (seqObj "list" vs.toArray 0) }
 rw[hsz]
 refine wpAny_bind (wpAny_holding (wpAny_call_entry slot_list_sort ⟨_,hoL,rfl⟩ entry_list_sort (zbQ (κ:=κ) (r:=r) hoL h64 hr (fun h2 h' tk hk'=>?_) (fun i j h' tk C hi hj hk' q=>?_) fun p tk hp hu=>⟨_,rfl,?_⟩) (args_list_sort _)))
 ·exact hk h2 h' tk fun b o e=>hk' b o (nea b o e) (keep b o e)
 ·exact hc i j h' tk C hi hj (fun b o e=>hk' b o (nea b o e) (keep b o e)) q
 ·exact wpAny_pure ⟨_,rfl,h p tk hp hu⟩
end
theorem vY: ∀x:List Int,LW.lexLt x x=false
 |[]=>rfl
 |a::x=>by rw[LW.lexLt,if_pos rfl];exact vY x
theorem Zy: ∀{x y z:List Int},LW.lexLt x y=true->LW.lexLt y z=true->LW.lexLt x z=true
 |x,[],_,h,_=>by cases x<;>simp[LW.lexLt] at h
 |_,_::_,[],_,h=>by cases h
 |[],_::_,_::_,_,_=>rfl
 |a::x,b::y,c::z,h1,h2=>by
  rw[LW.lexLt] at h1 h2⊢
  by_cases e1:a=b
  ·by_cases e2:b=c
   ·rw[if_pos e1] at h1
    rw[if_pos e2] at h2
    rw[if_pos (e1.trans e2)]
    exact Zy h1 h2
   ·rw[if_neg e2,decide_eq_true_iff] at h2
    rw[if_neg (by omega),decide_eq_true_iff]
    omega
  ·rw[if_neg e1,decide_eq_true_iff] at h1
   by_cases e2:b=c
   ·rw[if_neg (by omega),decide_eq_true_iff];omega
   ·rw[if_neg e2,decide_eq_true_iff] at h2
    rw[if_neg (by omega),decide_eq_true_iff];omega
theorem Xb: ∀{x y:List Int},x≠y->LW.lexLt x y=true\/LW.lexLt y x=true
 |[],[],h=>absurd rfl h
 |[],_::_,_=>.inl rfl
 |_::_,[],_=>.inr rfl
 |a::x,b::y,h=>by
  rw[LW.lexLt,LW.lexLt]
  by_cases e:a=b
  ·rw[if_pos e,if_pos e.symm]
   exact Xb fun z=>h (by rw[e,z])
  ·rw[if_neg e,if_neg (fun z=>e z.symm),decide_eq_true_iff,decide_eq_true_iff]
   omega
noncomputable abbrev wG(x y:List Int):Prop:=LW.lexLt x y=true
theorem kR(x:List Int): ∀l,(jr x l).Perm (x::l)
 |[]=>.refl _
 |y::r=>by
  unfold jr
  split
  ·exact .refl _
  ·exact ((kR x r).cons y).trans (.swap x y r)
theorem Xc: ∀l,(wB l).Perm l
 |[]=>.refl _
 |x::r=>(kR x _).trans ((Xc r).cons x)
theorem zbR{x:List Int}: ∀{l:List (List Int)},l.Pairwise wG->(∀y∈l,x≠y)->(jr x l).Pairwise wG
 |[],_,_=>by simp[jr]
 |y::r,h,hn=>by
  rw[List.pairwise_cons] at h
  unfold jr
  split
  ·rename_i hx
   rw[List.pairwise_cons,List.pairwise_cons]
   refine⟨fun z hz=>?_,h⟩
   rcases List.mem_cons.mp hz with rfl|hz
   ·exact hx
   ·exact Zy hx (h.1 z hz)
  ·rename_i hx
   have hyx:wG y x:=(Xb (hn y List.mem_cons_self)).resolve_left hx
   rw[List.pairwise_cons]
   refine⟨fun z hz=>?_,zbR h.2 fun z hz=>hn z (List.mem_cons_of_mem _ hz)⟩
   rcases List.mem_cons.mp ((kR x r).mem_iff.mp hz) with rfl|hz
   ·exact hyx
   ·exact h.1 z hz
theorem Jk: ∀{l:List (List Int)},l.Nodup->(wB l).Pairwise wG
 |[],_=>List.Pairwise.nil
 |x::r,h=>by
  rw[List.nodup_cons] at h
  exact zbR (Jk h.2) fun y hy e=>h.1 ((Xc r).mem_iff.mp (e▸hy))
theorem kS: ∀{l m:List (List Int)},l.Perm m->l.Pairwise wG->m.Pairwise wG->l=m
 |[],m,h,_,_=>(List.Perm.nil_eq h)
 |x::l,[],h,_,_=>by have:=h.length_eq;simp at this
 |x::l,y::m,h,h1,h2=>by
  rw[List.pairwise_cons] at h1 h2
  have e:x=y:=by
   rcases List.mem_cons.mp (h.mem_iff.mp List.mem_cons_self) with e|hx
   ·exact e
   ·rcases List.mem_cons.mp (h.mem_iff.mpr List.mem_cons_self) with e|hy
    ·exact e.symm
    ·have q1:=h2.1 x hx
     have q2:=h1.1 y hy
     have:=Zy q1 q2
     rw[vY] at this;cases this
  subst e
  rw[kS (List.Perm.cons_inv h) h1.2 h2.2]
noncomputable def xE(ks:List (List Int))(x:List Int):Int:=((ks.filter fun y=>LW.lexLt y x).length:Nat)
theorem Zz{ks:List (List Int)}{x y:List Int}(hx:x∈ks)(h:wG x y):xE ks x<xE ks y:=by
 unfold xE
 have key: ∀l:List (List Int),(l.filter fun z=>LW.lexLt z x).length<=(l.filter fun z=>LW.lexLt z y).length/\(x∈l->(l.filter fun z=>LW.lexLt z x).length<(l.filter fun z=>LW.lexLt z y).length):=by
  intro l
  induction l with
  |nil=>exact⟨Nat.le_refl _,fun z=>by cases z⟩
  |cons z l ih=>
   rw[List.filter_cons,List.filter_cons]
   by_cases h1:LW.lexLt z x=true
   ·have h2:=Zy h1 h
    rw[if_pos h1,if_pos h2]
    simp only[List.length_cons]
    refine⟨by omega,fun hz=>?_⟩
    rcases List.mem_cons.mp hz with rfl|hz
    ·rw[vY] at h1;cases h1
    ·have:=ih.2 hz;omega
   ·rw[if_neg h1]
    by_cases h2:LW.lexLt z y=true
    ·rw[if_pos h2]
     simp only[List.length_cons]
     exact⟨by omega,fun _=>by omega⟩
    ·rw[if_neg h2]
     refine⟨ih.1,fun hz=>?_⟩
     rcases List.mem_cons.mp hz with rfl|hz
     ·exact absurd h h2
     ·exact ih.2 hz
 have:=(key ks).2 hx
 omega
theorem Jl{ks:List (List Int)}{x y:List Int}(hx:x∈ks)(hy:y∈ks)(hne:x≠y):decide (xE ks x<xE ks y)=LW.lexLt x y:=by
 rcases Xb hne with h|h
 ·have:=Zz hx h
  rw[h,decide_eq_true_iff];exact this
 ·have h1:=Zz hy h
  have h2:LW.lexLt x y=false:=by
   cases e:LW.lexLt x y with
   |false=>rfl
   |true=>have:=Zy e h;rw[vY] at this;cases this
  rw[h2,decide_eq_false_iff_not];omega
section
variable {X:Cx} {pins:List (Addr×Obj)} {σ:St} {H:Hp} {s:Shared} {W:Addr->Prop}
noncomputable def jD(h:Heap)(v:Value)(k:List Int):Prop:=∃a o its n,v= .ref a/\h.get? a=some o/\o.cls= .type "tuple"/\o.data= .seq its n/\IntsAre its.toList k
theorem kU(I:Inv X pins σ H s): ∀{ds:List D} {xs:List V} {us:List Value} {ks:List (List Int)},Reps X.K W H ds xs->Vals xs us->tups? ds=some ks->Paired (jD s.heap) us ks
 |_,_,_,ks,.nil,r,e=>by cases r;simp[tups?] at e;subst e;exact .nil
 |_,_,_,ks,.cons h t,r,e=>by
  cases r with
  |cons r1 r2=>
   cases h with
   |tup hH rp=>
    simp only[tups?,jo1,jo2] at e
    obtain⟨k,e1,ks',e2,rfl⟩:=e
    refine .cons ?_ (kU I t r2 e2)
    cases r1
    obtain⟨its,rv,⟨o,ho,hc,n,hd⟩,_⟩:=I.tuple (.of hH)
    rw[rp.ofInts e1] at rv
    exact⟨_,o,its.toArray,n,rfl,ho,hc,hd,by simpa using vS rv⟩
   |_=>simp[tups?] at e
theorem Xd{α β:Type}{F:α->β->Prop}: ∀{xs:List α} {ys:List β} {i:Nat},Paired F xs ys->i<xs.length->∃x y,xs[i]? =some x/\ys[i]? =some y/\F x y
 |_,_,_,.nil,h=>by simp at h
 |_,_,0,.cons h _,_=>⟨_,_,rfl,rfl,h⟩
 |_,_,i+1,.cons _ t,h=>by
  obtain⟨x,y,h1,h2,h3⟩:=Xd (i:=i) t (by simpa using h)
  exact⟨x,y,by simpa using h1,by simpa using h2,h3⟩
theorem kW{h:Heap}: ∀{us:List Value} {ks:List (List Int)},Paired (jD h) us ks->(∀k∈ks,k≠[])->∃fs,KatTups h us fs/\fs.length=us.length/\∀v∈fs,∃i t,v=Value.int i t
 |_,_,.nil,_=>⟨[],.nil,rfl,fun _ z=>by cases z⟩
 |_,_,.cons hx t,hn=>by
  obtain⟨fs,h1,h2,h3⟩:=kW t fun k hk=>hn k (List.mem_cons_of_mem _ hk)
  obtain⟨a,o,its,n,rfl,ho,hc,hd,hi⟩:=hx
  have hne:=hn _ List.mem_cons_self
  cases hi':its.toList with
  |nil=>rw[hi'] at hi;cases hi;exact absurd rfl hne
  |cons v r=>
   rw[hi'] at hi
   cases hi with
   |cons i t' hr=>
    refine⟨.int i t'::fs,.cons ho hc hd (by rw[<-Array.getElem?_toList,hi'];rfl) h1,by simp[h2],fun v hv=>?_⟩
    rcases List.mem_cons.mp hv with rfl|hv
    ·exact⟨_,_,rfl⟩
    ·exact h3 v hv
theorem kX{prog:Program}{w:World}{A:Around}{Q:Bool->Shared->Prop}{s:Shared}{fin:Bool}: ∀{us vs:List Value} {x y:List Int} (i:Nat),IntsAre us x->IntsAre vs y->(fin=decide (us.length<vs.length))->Q (LW.lexLt x y) s->KatLex prog w A true fin Q (us.zip vs) i s
 |_,_,_,_,i,.nil,hv,hf,q=>by
  cases hv with
  |nil=>subst hf;exact kat_nil q
  |cons j t hv=>subst hf;exact kat_nil q
 |_,_,_,_,i,.cons a t hu,hv,hf,q=>by
  cases hv with
  |nil=>subst hf;exact kat_nil q
  |cons b t' hv=>
   refine kat_cons (wpAny_eqBool_int ?_)
   by_cases e:a=b
   ·subst e
    have:(a==a)=true:=by simp
    rw[this]
    refine kat_yes (kX (i+1) hu hv (by rw[hf];simp) ?_)
    rw[LW.lexLt,if_pos rfl] at q
    exact q
   ·have:(a==b)=false:=by simpa using e
    rw[this]
    refine kat_no ?_
    rw[LW.lexLt,if_neg e] at q
    cases i with
    |zero=>exact oneLt_int q
    |succ i=>
     have e2:(true&&(i+1==0))=false:=rfl
     rw[e2]
     exact kat_one _ _ (lt_int q)
theorem yO{α:Type}{l:List α}{i:Nat}{x d:α}(h:l[i]? =some x):l.getD i d=x:=by
 rw[List.getD_eq_getElem?_getD,h];rfl
theorem zbS{xs:List V}{us:List Value}(r:Vals xs us)(p:List Nat)(hp: ∀i∈p,i<us.length):Vals (p.map fun i=>xs.getD i .non) (p.map fun i=>us.getD i Value.none):=by
 induction p with
 |nil=>exact .nil
 |cons i p ih=>
  refine .cons ?_ (ih fun j hj=>hp j (List.mem_cons_of_mem _ hj))
  have hi:=hp i List.mem_cons_self
  have hl:=r.length
  obtain⟨u,h1,h2⟩:=r.get (i:=i) (x:=xs[i]'(by omega)) (by simp)
  show RelV (xs.getD i .non) (us.getD i Value.none)
  rw[yO h1,yO (x:=xs[i]'(by omega)) (by simp)]
  exact h2
theorem zbT{ds:List D}{xs:List V}(r:Reps X.K W H ds xs)(p:List Nat)(hp: ∀i∈p,i<ds.length):Reps X.K W H (p.map fun i=>ds.getD i .non) (p.map fun i=>xs.getD i .non):=by
 induction p with
 |nil=>exact .nil
 |cons i p ih=>
  refine .cons ?_ (ih fun j hj=>hp j (List.mem_cons_of_mem _ hj))
  have hi:=hp i List.mem_cons_self
  obtain⟨x,h1,h2⟩:=r.get (i:=i) (d:=ds[i]) (by simp)
  show Rep X.K W H (ds.getD i .non) (xs.getD i .non)
  rw[yO h1,yO (x:=ds[i]) (by simp)]
  exact h2
theorem zbU: ∀{ds:List D} {ks:List (List Int)},tups? ds=some ks->ds=ks.map kT
 |[],ks,e=>by simp[tups?] at e;subst e;rfl
 |d::r,ks,e=>by
  cases d with
  |tup l=>
   simp only[tups?,jo1,jo2] at e
   obtain⟨k,e1,ks',e2,rfl⟩:=e
   rw[zbU e2,Zk e1];rfl
  |_=>simp[tups?] at e
theorem zbV:CallR X (.builtin "sorted") (VR X.K (zh .sorted)):=by
 rintro pins s σ H xs us Q I rv ⟨W,ds,r,wf,hs,hf,q⟩
 replace hf:VC ds=some r:=hf
 unfold VC at hf
 split at hf
 case h_2=>cases hf
 rename_i l
 unfold Ze at hf
 split at hf
 ·rename_i ns e1
  split at hf
  ·rename_i h64
   cases hf
   exact zjl (ds:=[.lst l]) I rv hs e1 h64 q
  ·cases hf
 ·rw[jo1] at hf
  obtain⟨ks,e1,hf⟩:=hf
  split at hf
  case isFalse=>cases hf
  rename_i hcond
  cases hf
  obtain⟨h64,hnd,hne⟩:=hcond
  have hne': ∀k∈ks,k≠[]:=fun k hk e=>by
   have:=List.all_eq_true.mp hne k hk
   rw[e] at this;cases this
  cases hs with
  |cons h1 t=>
   cases t
   obtain⟨p,ys,rfl,hp,rp⟩:=h1.lst
   obtain⟨u,rfl,ru⟩:=wz rv
   cases ru
   obtain⟨its,rv',pl,hz⟩:=I.list hp
   have hT:=kU I rp rv' e1
   have hlen:its.length=ks.length:=Paired.length hT
   have hl2:=rp.length
   have hl3:=rv'.length
   let r:Nat->Int:=fun i=>xE ks (ks.getD i [])
   have memk: ∀i,i<its.length->ks.getD i []∈ks:=fun i hi=>by
    rw[yO (x:=ks[i]'(by omega)) (by simp)];exact List.getElem_mem _
   have injk: ∀i j,i<its.length->j<its.length->i≠j->ks.getD i []≠ks.getD j []:=fun i j hi hj ne e=>by
    rw[yO (x:=ks[i]'(by omega)) (by simp),yO (x:=ks[j]'(by omega)) (by simp)] at e
    exact ne ((List.getElem_inj hnd).mp e)
   have jE: ∀{h':Heap},(∀b o,s.heap.get? b=some o->h'.get? b=some o)->∀{v:Value} {k:List Int},jD s.heap v k->jD h' v k:=by
    intro h' hk v k ⟨a,o,i,n,h1,h2,h3⟩
    exact⟨a,o,i,n,h1,hk _ _ h2,h3⟩
   refine zjD (κ:=tuples' (Value.type "int" != Value.type "tuple")) (r:=r) pl.isList (by omega) (fun i j hi hj ne e=>?_) (fun h2 h' tk hk=>?_) (fun i j h' tk C hi hj hk qC=>?_) fun pm tk hpm hup=>?_
   ·rcases Xb (injk i j hi hj ne) with z|z
    ·have:=Zz (memk i hi) z
     have e:xE ks (ks.getD i [])=xE ks (ks.getD j []):=e
     omega
    ·have:=Zz (memk j hj) z
     have e:xE ks (ks.getD i [])=xE ks (ks.getD j []):=e
     omega
   ·obtain⟨fs,f1,f2,f3⟩:=kW (Paired.imp' (fun v k z=>jE hk z) hT) hne'
    exact kat_kind (s:={ s with heap:=h',toks:=tk }) f1 (by omega) (fun v hv=>by obtain⟨i,t,rfl⟩:=f3 v hv;exact Looks.of_pure rfl) (by simp) ⟨rfl,tk,rfl⟩
   ·obtain⟨x1,k1,a1,a2,a3⟩:=Xd hT hi
    obtain⟨x2,k2,b1,b2,b3⟩:=Xd hT hj
    rw[yO a1,yO b1]
    obtain⟨a,o,i1,n,rfl,c1,c2,c3,c4⟩:=jE hk a3
    obtain⟨b,o',i2,n',rfl,d1,d2,d3,d4⟩:=jE hk b3
    have er:decide (r i<r j)=LW.lexLt k1 k2:=by
     show decide (xE ks (ks.getD i [])<xE ks (ks.getD j []))=_
     by_cases e:i=j
     ·subst e
      rw[a2] at b2;cases b2
      rw[vY];simp
     ·have:=Jl (memk i hi) (memk j hj) (injk i j hi hj e)
      rw[yO a2,yO b2] at this
      rw[yO a2,yO b2]
      exact this
    rw[er] at qC
    refine kat_lt (s:={ s with heap:=h',toks:=tk }) c1 c3 d1 d3 ?_
    exact kX 0 c4 d4 (by simp) (qC tk)
   ·obtain⟨e,he⟩:=sortedAll_at s.heap its (pm.toList.map fun i=>its.getD i Value.none).toArray
    have hlt: ∀i∈pm.toList,i<its.length:=fun i hi=>by
     have:=(Array.perm_iff_toList_perm.mp hpm.perm).mem_iff.mp hi
     simpa using this
    have fr:H (s.heap.objs.size+1)=Option.none:=I.hok.fresh (Nat.le_succ _)
    have hperm:(pm.toList.map fun i=>ks.getD i []).Perm ks:=by
     have h1:=(Array.perm_iff_toList_perm.mp hpm.perm).map fun i=>ks.getD i []
     refine h1.trans (List.Perm.of_eq ?_)
     apply List.ext_getElem
     ·simp[hlen]
     ·intro i h1 h2;simp at h1;simp[h1,h2]
    have hupk:(pm.toList.map fun i=>ks.getD i []).Pairwise wG:=by
     rw[List.pairwise_iff_getElem]
     intro i j hi hj hij
     rw[List.length_map,Array.length_toList,hpm.size] at hi hj
     have h1:=hup i j hij (by omega)
     have li:=hpm.lt i hi
     have lj:=hpm.lt j hj
     simp only[List.getElem_map,Array.getElem_toList]
     have gi:pm.getD i 0=pm[i]'(by rw[hpm.size];exact hi):=by simp[Array.getD,hpm.size,hi]
     have gj:pm.getD j 0=pm[j]'(by rw[hpm.size];exact hj):=by simp[Array.getD,hpm.size,hj]
     unfold kk at h1
     rw[gi] at h1 li
     rw[gj] at h1 lj
     have hne:pm[i]'(by rw[hpm.size];exact hi)≠pm[j]'(by rw[hpm.size];exact hj):=fun z=>by rw[z] at h1;omega
     have:=Jl (memk _ li) (memk _ lj) (injk _ _ li lj hne)
     show LW.lexLt _ _=true
     rw[<-this,decide_eq_true_iff]
     exact h1
    have heq:(pm.toList.map fun i=>ks.getD i [])=wB ks:=kS (hperm.trans (Xc ks).symm) hupk (Jk hnd)
    have hds:(pm.toList.map fun i=>l.getD i .non)=(wB ks).map kT:=by
     rw[<-heq,List.map_map]
     apply List.map_congr_left
     intro i hi
     have hi':=hlt i hi
     rw[zbU e1]
     show (ks.map kT).getD i .non=kT (ks.getD i [])
     rw[yO (x:=kT (ks[i]'(by omega))) (by simp[show i<ks.length by omega]),yO (x:=ks[i]'(by omega)) (by simp)]
    have hrep:=zbT rp pm.toList fun i hi=>by have:=hlt i hi;omega
    rw[hds] at hrep
    have hvals:=zbS rv' pm.toList fun i hi=>hlt i hi
    refine⟨.ref (s.heap.objs.size+1),zI H (s.heap.objs.size+1) (.lst (pm.toList.map fun i=>ys.getD i .non)),I.laid (t':=tk) (fun _ _=>sortedAll_old) (Nat.le_succ _) ⟨?_,_,e,hvals,?_⟩,rfl,q _ _ (yX fr _) (vV fr hrep)⟩
    ·rw[List.length_map,Array.length_toList,hpm.size];exact Nat.le_of_lt (Yn (by omega))
    ·simpa [seqObj] using he
end
end L2.LW
set_option maxHeartbeats 4000000
namespace L2.LW
open PySem PySem.Spec PySem.W PyProof.Rows
section
variable {X:Cx} {fn:Nat->List D->Option SV} {fa:Nat->List D->Option Ans} {fuel:Nat} {e:Expr} {pos:Pos} {sts:List Stmt} {ss:Ss}
theorem zbW{xs:Array (Int×Tok)}{ns:List Int}(h1:xs.size=ns.length)(h2: ∀i,(h:i<ns.length)->numAt xs i=ns[i]):preSum (numAt xs) xs.size=ns.sum:=by
 rw[h1]
 have key: ∀k,k<=ns.length->preSum (numAt xs) k=(ns.take k).sum:=by
  intro k
  induction k with
  |zero=>intro _;rfl
  |succ k ih=>
   intro hk
   show preSum (numAt xs) k+numAt xs k=_
   rw[ih (by omega),h2 k (by omega),List.take_succ_eq_append_getElem (by omega),List.sum_append]
   simp only[List.sum_cons,List.sum_nil];omega
 have:=key ns.length (Nat.le_refl _)
 rwa [List.take_length] at this
theorem zjE(hc:X.calm=true):CallR X (.builtin "sum") (VR X.K (zh .sumL)):=by
 rintro pins s σ H xs us Q I rv ⟨W,ds,r,wf,hs,hf,q⟩
 replace hf:VF ds=some r:=hf
 unfold VF at hf
 split at hf
 ·rw[jo1] at hf
  obtain⟨ns,e1,hf⟩:=hf
  cases hf
  cases hs with
  |cons h1 t=>
   cases t
   obtain⟨p,ys,rfl,hp,rp⟩:=h1.lst
   have ey:=rp.ofInts e1
   subst ey
   obtain⟨u,rfl,ru⟩:=wz rv
   cases ru
   obtain⟨its,rv',pl,hz⟩:=I.list hp
   obtain⟨xs,x1,x2,x3⟩:=zbL (vS rv')
   have hpl:=pl.isList
   rw[x1] at hpl
   refine sum_intListG (I.ok.hd hc) hpl fun h' tk t' hk=>?_
   rw[zbW x2 x3]
   exact⟨.int _,H,I.kept (t':=tk) hk,⟨_,rfl⟩,q _ H (.refl H) (.val (.int _))⟩
 ·rw[jo1] at hf
  obtain⟨ns,e1,hf⟩:=hf
  cases hf
  cases hs with
  |cons h1 t=>
   cases t
   obtain⟨p,ys,rfl,hp,rp⟩:=h1.tup
   have ey:=rp.ofInts e1
   subst ey
   obtain⟨u,rfl,ru⟩:=wz rv
   cases ru
   obtain⟨its,rv',pl,hz⟩:=I.tuple hp
   obtain⟨xs,x1,x2,x3⟩:=zbL (vS rv')
   rw[x1] at pl
   refine ktm_sumG (I.ok.hd hc) pl fun h' tk t' hk=>?_
   rw[zbW x2 x3]
   exact⟨.int _,H,I.kept (t':=tk) hk,⟨_,rfl⟩,q _ H (.refl H) (.val (.int _))⟩
 ·cases hf
end
end L2.LW
set_option maxHeartbeats 4000000
namespace L2.LW
open PySem PySem.Spec PySem.W PySem.Calls PyProof.Rows
noncomputable def RawD(h:Heap)(d:Addr)(tb:Array DictEntry)(ep:Nat):Prop:=∃o,h.get? d=some o/\o.ExactDict/\o.data= .dict tb ep
section
variable {prog:Program} {w:World} {A:Around} {E:Value->Shared->Prop} {s:Shared} {it d:Addr} {k ep:Nat} {tb:Array DictEntry} {Q:Option Value->Shared->Prop}
theorem zjF(hi:s.heap.IsKeyIter it d k tb.size ep)(hr:RawD s.heap d tb ep)(lt:k<tb.size)
  (q: ∀h2,h2.IsKeyIter it d (k+1) tb.size ep->Heap.SameBut it s.heap h2->Q (some tb[k].key) { s with heap:=h2 }):wpAny (model prog w) A (pyNext (.ref it)) Q E s:=by
 obtain⟨oi,ei,ci,di⟩:=id hi
 obtain⟨ot,et,ct,dt⟩:=id hr
 unfold pyNext
 refine wpAny_bind (wpAny_attempt (wpAny_callSpecial?_slot (name:=Str.ofString "__next__") hi.typeIs PySem.F.slot_dict_keyiterator_next (wpAny_call_entry PySem.F.slot_dict_keyiterator_next hi.typeIs PySem.F.entry_dict_keyiterator_next ?_ (PySem.F.args_dict_keyiterator_next_1 _))))
 refine wpAny_bind (wpAny_pure (wpAny_bind (wpAny_bind ?_)))
 first|refine wpAny_bind (wpAny_typeNameOfWhole_keyiter hi.typeIs (wpAny_pure (wpAny_bind (wpAny_fieldsOf ei di ?_))))|refine wpAny_bind (wpAny_typeNameOf_keyiter hi.typeIs (wpAny_pure (wpAny_bind (wpAny_fieldsOf ei di ?_))))
 have own:Builtin.Dict_items.ownsTuple "dict_keyiterator"=false:=rfl
 simp only[own,Bool.false_eq_true,if_false]
 show wpAny _ _ (if (Value.ref d==Value.none)=true then _ else _) _ _ s
 rw[if_neg (by intro z;cases z)]
 refine wpAny_bind (wpAny_pure (wpAny_bind (wpAny_dictEntries et dt ?_)))
 rw[if_neg (by simp)]
 refine wpAny_bind (wpAny_pure (wpAny_bind (wpAny_dictEpoch et dt ?_)))
 rw[if_neg (by simp)]
 have nn: ¬((k:Int)<0):=by omega
 refine wpAny_pure ?_
 simp only[nn,if_false,Int.toNat_natCast,Array.getElem?_eq_getElem lt]
 refine wpAny_bind ?_
 first|refine wpAny_bind (wpAny_typeNameOfWhole_keyiter hi.typeIs (wpAny_pure (wpAny_bind (wpAny_isOneOf_keyiter hi.typeIs ?_))))|refine wpAny_bind (wpAny_typeNameOf_keyiter hi.typeIs (wpAny_pure (wpAny_bind (wpAny_isOneOf_keyiter hi.typeIs ?_))))
 show wpAny _ _ (setField (.ref it) 1 (rawInt ((k:Int)+1)) >>= _) _ _ s
 have hi2:(s.heap.update it (Obj.mapFields fun fs=>fs.setIfInBounds 1 (rawInt ((k:Int)+1)))).IsKeyIter it d (k+1) tb.size ep:=
  ⟨_,Heap.get?_update_self _ ei (Obj.isFreed_of_fields (Obj.data_mapFields di _)),(Obj.cls_mapFields ..).trans ci,by rw[Obj.data_mapFields di];simp[rawInt]⟩
 refine wpAny_bind (wpAny_setField ei di (by simp) (wpAny_bind (wpAny_holding (wpAny_bind (wpAny_isOneOf_keyiter (s:={ s with heap:=s.heap.update it (Obj.mapFields fun fs=>fs.setIfInBounds 1 (rawInt ((k:Int)+1))) }) hi2.typeIs ?_)))))
 show wpAny _ _ (pure tb[k].key) _ _ _
 exact wpAny_pure (wpAny_pure ⟨_,rfl,wpAny_pure (q _ hi2 (Heap.SameBut.update ..))⟩)
theorem zjG(hh:A.handled=none)(hi:s.heap.IsKeyIter it d tb.size tb.size ep)(hr:RawD s.heap d tb ep)(q: ∀h2,Heap.ExtBut it s.heap h2->Q none { s with heap:=h2 }):wpAny (model prog w) A (pyNext (.ref it)) Q E s:=by
 obtain⟨oi,ei,ci,di⟩:=id hi
 obtain⟨ot,et,ct,dt⟩:=id hr
 unfold pyNext
 refine wpAny_bind (wpAny_attempt (wpAny_callSpecial?_slot (name:=Str.ofString "__next__") hi.typeIs PySem.F.slot_dict_keyiterator_next (wpAny_call_entry PySem.F.slot_dict_keyiterator_next hi.typeIs PySem.F.entry_dict_keyiterator_next ?_ (PySem.F.args_dict_keyiterator_next_1 _))))
 refine wpAny_bind (wpAny_pure (wpAny_bind (wpAny_bind ?_)))
 first|refine wpAny_bind (wpAny_typeNameOfWhole_keyiter hi.typeIs (wpAny_pure (wpAny_bind (wpAny_fieldsOf ei di ?_))))|refine wpAny_bind (wpAny_typeNameOf_keyiter hi.typeIs (wpAny_pure (wpAny_bind (wpAny_fieldsOf ei di ?_))))
 have own:Builtin.Dict_items.ownsTuple "dict_keyiterator"=false:=rfl
 simp only[own,Bool.false_eq_true,if_false]
 show wpAny _ _ (if (Value.ref d==Value.none)=true then _ else _) _ _ s
 rw[if_neg (by intro z;cases z)]
 refine wpAny_bind (wpAny_pure (wpAny_bind (wpAny_dictEntries et dt ?_)))
 rw[if_neg (by simp)]
 refine wpAny_bind (wpAny_pure (wpAny_bind (wpAny_dictEpoch et dt ?_)))
 rw[if_neg (by simp)]
 have nn: ¬((tb.size:Int)<0):=by omega
 refine wpAny_pure ?_
 simp only[nn,if_false,Int.toNat_natCast,Array.getElem?_eq_none (Nat.le_refl tb.size)]
 refine wpAny_bind ?_
 first|refine wpAny_bind (wpAny_typeNameOfWhole_keyiter hi.typeIs (wpAny_pure ?_))|refine wpAny_bind (wpAny_typeNameOf_keyiter hi.typeIs (wpAny_pure ?_))
 show wpAny _ _ (setField (.ref it) 0 .none >>= _) _ _ s
 refine wpAny_bind (wpAny_setField ei di (by simp) ?_)
 show wpAny _ _ (newExc (.type "StopIteration") [] >>= _) _ _ _
 simp only[newExc,newTuple]
 refine wpAny_bind (wpAny_bind (wpAny_newObj_type (wpAny_bind (m:=firstArgMember _ _) (wpAny_of_eq (a:=Value.none) (by first|rfl|(simp only[firstArgMember];rfl)) (wpAny_newObj_type ?_ (by size_fits)))) (by size_fits)))
 simp only[raiseNew]
 refine wpAny_bind (wpAny_handled ?_)
 rw[show A.in1.handled=none from hh]
 refine wpAny_bind (wpAny_pure (wpAny_throw ?_))
 refine wpAny_bind (wpAny_isInstance (b:=true) (T:="StopIteration") ⟨_,Heap.get?_push_size _ rfl,rfl⟩ isSubtype_stop ?_)
 exact wpAny_pure (q _ (((Heap.SameBut.update ..).extBut.push _).push _))
end
theorem RawD.at{h h2:Heap}{d:Addr}{tb:Array DictEntry}{ep:Nat}(x:RawD h d tb ep)(e: ∀o,h.get? d=some o->h2.get? d=some o):RawD h2 d tb ep:=let ⟨o,ho,r⟩:=x;⟨o,e _ ho,r⟩
theorem RawD.lt{h:Heap}{d:Addr}{tb:Array DictEntry}{ep:Nat}(x:RawD h d tb ep):d<h.objs.size:=let ⟨_,ho,_⟩:=x;Heap.lt_size ho
section
variable {prog:Program} {w:World}
theorem zjH{A:Around}(hh:A.handled=none)(I d:Addr)(hne:d≠I)(tb:Array DictEntry)(ep:Nat):
  Walks prog w A I [I,d] [I] tb.size (fun i v=>∃e,tb[i]? =some e/\v=e.key) (fun i h=>h.IsKeyIter I d i tb.size ep/\RawD h d tb ep) where
 sub:=fun b hb=>by rw[List.mem_singleton] at hb;rw[hb];exact List.mem_cons_self
 frame:=fun _ _ _ st hk=>⟨st.1.at fun o e=>hk I List.mem_cons_self o e,st.2.at fun o e=>hk d (List.mem_cons_of_mem _ List.mem_cons_self) o e⟩
 item:=fun i s Q E lt st q=>zjF st.1 st.2 lt fun h2 hi2 sb=>
  q _ h2 s.toks ⟨tb[i],Array.getElem?_eq_getElem lt,rfl⟩ ⟨hi2,st.2.at fun o e=>sb.extBut d o hne e⟩ fun b o hb e=>sb.extBut b o (fun z=>hb (by rw[z];exact List.mem_cons_self)) e
 done:=fun s Q E st q=>zjG hh st.1 st.2 fun h2 eb=>q h2 s.toks fun b o hb e=>eb b o (fun z=>hb (by rw[z];exact List.mem_cons_self)) e
 self:=fun _ _ _ _ st q=>wpAny_pyIter_keyiter st.1 q
theorem zjI{A:Around}{E:Value->Shared->Prop}{s:Shared}{v d:Addr}{tb:Array DictEntry}{ep:Nat}{Q:Value->Shared->Prop}(hv:KdlKeysView s.heap v d)(hr:RawD s.heap d tb ep)
  (q:Q (.ref s.heap.objs.size) { s with heap:=s.heap.push { cls:=.type "dict_keyiterator",data:=.fields #[.ref d,.int 0 0,.int tb.size 0,.int ep 0] } }):wpAny (model prog w) A (pyIter (.ref v)) Q E s:=by
 obtain⟨ov,e1,c1,d1⟩:=id hv
 obtain⟨ot,et,ct,dt⟩:=id hr
 refine wpAny_pyIter_slot hv.typeIs kdl_slot_keys_iter (wpAny_call_entry kdl_slot_keys_iter hv.typeIs kdl_entry_keys_iter ?_ (kdl_args_keys_iter _))
 unfold Builtin.«dict_keys.__iter__»
 refine wpAny_bind (wpAny_pure (wpAny_bind ?_))
 unfold Builtin.Dict_items.dictOf
 refine wpAny_bind (wpAny_field e1 d1 (x:=.ref d) rfl (wpAny_pure (wpAny_bind ?_)))
 unfold Builtin.Dict_items.newIterator
 refine wpAny_bind (wpAny_dictEntries et dt (wpAny_bind (wpAny_dictEpoch et dt ?_)))
 have own:Builtin.Dict_items.ownsTuple "dict_keyiterator"=false:=rfl
 simp only[own,Bool.false_eq_true,if_false]
 exact wpAny_newObj_type (wpAny_pure ⟨_,rfl,"dict_keyiterator",_,⟨_,Heap.get?_push_size _ rfl,rfl⟩,PySem.F.slot_dict_keyiterator_next.lookup,q⟩)
theorem zjJ{r d:Addr}{tb:Array DictEntry}{ep:Nat}:KdlSrc prog w "dict_keys" r d tb.size (fun i v=>∃e,tb[i]? =some e/\v=e.key) (fun h=>KdlKeysView h r d/\RawD h d tb ep) where
 type:=fun _ x=>x.1.typeIs
 there:=fun _ x=>⟨let ⟨_,ho,_⟩:=x.1;Heap.lt_size ho,x.2.lt⟩
 keep:=fun _ _ x hk=>⟨let ⟨o,ho,y⟩:=x.1;⟨o,hk r (.inl rfl) o ho,y⟩,x.2.at fun o e=>hk d (.inr rfl) o e⟩
 notList:=rfl
 notTuple:=rfl
 hint:=fun _ _ _ _ x q=>kdl_hint_keys x.1.typeIs q
 iter:=fun _ _ hh x=>⟨_,_,fun _ _ q=>zjI x.1 x.2 q,zjH hh _ d (Nat.ne_of_lt x.2.lt) tb ep,⟨_,Heap.get?_push_size _ rfl,rfl,rfl⟩,x.2.at fun o e=>Heap.get?_push_of_some _ e⟩
end
end L2.LW
set_option maxHeartbeats 4000000
namespace L2.LW
open PySem PySem.Spec PySem.W PySem.Calls PyProof.Rows
theorem jE{h h':Heap}(hk: ∀b o,h.get? b=some o->h'.get? b=some o){v:Value}{k:List Int}:jD h v k->jD h' v k:=fun ⟨a,o,i,n,h1,h2,h3⟩=>⟨a,o,i,n,h1,hk _ _ h2,h3⟩
theorem zjK{prog:Program}{w:World}{A:Around}{s:Shared}{its:List Value}{ks:List (List Int)}(hT:Paired (jD s.heap) its ks)(hnd:ks.Nodup)(hne': ∀k∈ks,k≠[]):
  ∃r:Nat->Int,(∀i j,i<its.length->j<its.length->i≠j->r i≠r j)/\
   (2<=its.length->∀h' tk,(∀b o,s.heap.get? b=some o->h'.get? b=some o)->wpAny (model prog w) A (keyKind' its.toArray) (fun κ' s'=>κ'=tuples' (Value.type "int" != Value.type "tuple")/\∃tk',s'={ s with heap:=h',toks:=tk' }) (fun _ _=>False) { s with heap:=h',toks:=tk })/\
   (∀i j h' tk (C:Bool->Shared->Prop),i<its.length->j<its.length->(∀b o,s.heap.get? b=some o->h'.get? b=some o)->(∀tk',C (decide (r i<r j)) { s with heap:=h',toks:=tk' })->
    wpAny (model prog w) A (keyLt' (tuples' (Value.type "int" != Value.type "tuple")) (its.getD i Value.none) (its.getD j Value.none)) C (fun _ _=>False) { s with heap:=h',toks:=tk })/\
   ∀pm,Pm its.length r pm->Up r pm its.length->(pm.toList.map fun i=>ks.getD i [])=wB ks/\∀i∈pm.toList,i<its.length:=by
 have hlen:its.length=ks.length:=Paired.length hT
 let r:Nat->Int:=fun i=>xE ks (ks.getD i [])
 have memk: ∀i,i<its.length->ks.getD i []∈ks:=fun i hi=>by
  rw[yO (x:=ks[i]'(by omega)) (by simp)];exact List.getElem_mem _
 have injk: ∀i j,i<its.length->j<its.length->i≠j->ks.getD i []≠ks.getD j []:=fun i j hi hj ne e=>by
  rw[yO (x:=ks[i]'(by omega)) (by simp),yO (x:=ks[j]'(by omega)) (by simp)] at e
  exact ne ((List.getElem_inj hnd).mp e)
 refine⟨r,fun i j hi hj ne e=>?_,fun h2 h' tk hk=>?_,fun i j h' tk C hi hj hk qC=>?_,fun pm hpm hup=>?_⟩
 ·rcases Xb (injk i j hi hj ne) with z|z
  ·have:=Zz (memk i hi) z
   have e:xE ks (ks.getD i [])=xE ks (ks.getD j []):=e
   omega
  ·have:=Zz (memk j hj) z
   have e:xE ks (ks.getD i [])=xE ks (ks.getD j []):=e
   omega
 ·obtain⟨fs,f1,f2,f3⟩:=kW (Paired.imp' (fun v k z=>jE hk z) hT) hne'
  exact kat_kind (s:={ s with heap:=h',toks:=tk }) f1 (by omega) (fun v hv=>by obtain⟨i,t,rfl⟩:=f3 v hv;exact Looks.of_pure rfl) (by simp) ⟨rfl,tk,rfl⟩
 ·obtain⟨x1,k1,a1,a2,a3⟩:=Xd hT hi
  obtain⟨x2,k2,b1,b2,b3⟩:=Xd hT hj
  rw[yO a1,yO b1]
  obtain⟨a,o,i1,n,rfl,c1,c2,c3,c4⟩:=jE hk a3
  obtain⟨b,o',i2,n',rfl,d1,d2,d3,d4⟩:=jE hk b3
  have er:decide (r i<r j)=LW.lexLt k1 k2:=by
   show decide (xE ks (ks.getD i [])<xE ks (ks.getD j []))=_
   by_cases e:i=j
   ·subst e
    rw[a2] at b2;cases b2
    rw[vY];simp
   ·have:=Jl (memk i hi) (memk j hj) (injk i j hi hj e)
    rw[yO a2,yO b2] at this
    rw[yO a2,yO b2]
    exact this
  rw[er] at qC
  refine kat_lt (s:={ s with heap:=h',toks:=tk }) c1 c3 d1 d3 ?_
  exact kX 0 c4 d4 (by simp) (qC tk)
 ·have hlt: ∀i∈pm.toList,i<its.length:=fun i hi=>by
   have:=(Array.perm_iff_toList_perm.mp hpm.perm).mem_iff.mp hi
   simpa using this
  have hperm:(pm.toList.map fun i=>ks.getD i []).Perm ks:=by
   have h1:=(Array.perm_iff_toList_perm.mp hpm.perm).map fun i=>ks.getD i []
   refine h1.trans (List.Perm.of_eq ?_)
   apply List.ext_getElem
   ·simp[hlen]
   ·intro i h1 h2;simp at h1;simp[h1,h2]
  have hupk:(pm.toList.map fun i=>ks.getD i []).Pairwise wG:=by
   rw[List.pairwise_iff_getElem]
   intro i j hi hj hij
   rw[List.length_map,Array.length_toList,hpm.size] at hi hj
   have h1:=hup i j hij (by omega)
   have li:=hpm.lt i hi
   have lj:=hpm.lt j hj
   simp only[List.getElem_map,Array.getElem_toList]
   have gi:pm.getD i 0=pm[i]'(by rw[hpm.size];exact hi):=by simp[Array.getD,hpm.size,hi]
   have gj:pm.getD j 0=pm[j]'(by rw[hpm.size];exact hj):=by simp[Array.getD,hpm.size,hj]
   unfold kk at h1
   rw[gi] at h1 li
   rw[gj] at h1 lj
   have hne:pm[i]'(by rw[hpm.size];exact hi)≠pm[j]'(by rw[hpm.size];exact hj):=fun z=>by rw[z] at h1;omega
   have:=Jl (memk _ li) (memk _ lj) (injk _ _ li lj hne)
   show LW.lexLt _ _=true
   rw[<-this,decide_eq_true_iff]
   exact h1
  exact⟨kS (hperm.trans (Xc ks).symm) hupk (Jk hnd),hlt⟩
noncomputable def Jm(p d:Addr):HO:=.ext fun h=>KdlKeysView h p d
section
variable {X:Cx}
theorem zjL:MtR X "dict.keys" (fun x xs H Q=>∃a kvs,x= .ref a/\xs=[]/\H a=some (.dT kvs)/\∀p,H p=Option.none->Q (.ref p) (zI H p (Jm p a))):=by
 rintro pins s σ H x xs v us Q I rx rs ⟨a,kvs,rfl,rfl,e,q⟩
 cases rx
 cases rs
 obtain⟨_,hd,zs,_,dd⟩:=Ym I.hok e
 refine wpAny_call_entry PySem.F.slot_dict_keys dd.typeIs PySem.F.entry_dict_keys ?_ (PySem.F.args_dict_keys_1 _)
 unfold Builtin.«dict.keys»
 refine wpAny_bind ?_
 unfold Builtin.Dict.noArgs
 refine wpAny_bind (wpAny_notOrdered_dict dd.typeIs ?_)
 show wpAny _ _ (pure a) _ _ s
 refine wpAny_pure ?_
 show wpAny _ _ (Builtin.Dict.showsAll a >>= _) _ _ s
 unfold Builtin.Dict.showsAll
 rw[if_neg (by rw[hd];exact Bool.false_ne_true)]
 refine wpAny_bind (wpAny_pure (wpAny_bind (wpAny_newObj_type (wpAny_pure ⟨_,rfl,?_⟩))))
 have hv:KdlKeysView (s.heap.push { cls:=.type "dict_keys",data:=.fields #[.ref a] }) s.heap.objs.size a:=⟨_,Heap.get?_push_size _ rfl,rfl,rfl⟩
 exact⟨.ref s.heap.objs.size,_,I.laid (a:=s.heap.objs.size) (o:=Jm s.heap.objs.size a) (t':=s.toks) (fun _ _ q=>Heap.get?_push_of_some _ q) (Nat.le_refl _)
  ⟨hv,⟨_,Heap.get?_push_size _ rfl⟩,fun h1 h2 ⟨o,z1,z2⟩ k=>⟨o,k o z1,z2⟩⟩,rfl,q _ (I.hok.fresh (Nat.le_refl _))⟩
theorem zbX{K:PySem.W.Frag}{W:Addr->Prop}{H:Hp}: ∀l:List Int,Reps K W H (l.map D.int) (l.map V.int)
 |[]=>.nil
 |i::r=>.cons (.int i) (zbX r)
theorem zbY{K:PySem.W.Frag}{W:Addr->Prop}{H:Hp}: ∀{ns:List (List Int)} {ys:List V} {zs:List (List zy×Addr×Value)},ns.length=ys.length->
  Paired (fun (p:List zy×V) (q:List zy×Addr×Value)=>p.1=q.1/\H q.2.1=some (.tup (p.1.map kV))/\RelV p.2 q.2.2) (yC ns ys) zs->
  Reps K W H (ns.map kT) (zs.map fun x=>V.ref x.2.1)/\Vals (zs.map fun x=>V.ref x.2.1) (zs.map fun x=>Value.ref x.2.1)/\zs.length=ns.length
 |[],[],_,_,.nil=>⟨.nil,.nil,rfl⟩
 |n::ns,y::ys,_,hl,.cons h t=>by
  obtain⟨h1,h2,h3⟩:=zbY (ns:=ns) (ys:=ys) (by simpa using hl) t
  refine⟨.cons (.tup (xs:=n.map V.int) ?_ (zbX n)) h1,.cons rfl h2,by simp[h3]⟩
  have:=h.2.1
  rw[YM] at this
  exact this
theorem zjM(hc:X.calm=true):CallR X (.builtin "sorted") (fun xs H Q=>∃p a,xs=[.ref p]/\H p=some (Jm p a)/\VR X.K (zh .skeys) [.ref a] H Q):=by
 rintro pins s σ H xs us Q I rv ⟨p,a,rfl,hp,W,ds,r,wf,hs,hf,q⟩
 obtain⟨d,rfl,h1⟩:=YK hs
 replace hf:Yu [d]=some r:=hf
 unfold Yu at hf
 split at hf
 case h_2=>cases hf
 rename_i ks vs z
 cases z
 obtain⟨a',ns,ys,e,rfl,hH,hl,_⟩:=h1.dT
 cases e
 obtain⟨u,rfl,ru⟩:=wz rv
 cases ru
 have hks:tups? (ns.map kT)=some ns:=by
  clear hf hs h1 hl hH
  induction ns with
  |nil=>rfl
  |cons n r ih=>
   have: ∀l:List Int,ints? (l.map D.int)=some l:=fun l=>by induction l with
    |nil=>rfl
    |cons x l ih=>simp[ints?,ih]
   simp[tups?,kT,this,ih]
 unfold Yt at hf
 rw[hks] at hf
 simp only[Option.bind_some] at hf
 split at hf
 case isFalse=>cases hf
 rename_i hcond
 cases hf
 obtain⟨h64,hnd,hne⟩:=hcond
 have hne': ∀k∈ns,k≠[]:=fun k hk e=>by
  have:=List.all_eq_true.mp hne k hk
  rw[e] at this;cases this
 obtain⟨_,hd,zs,rel,o,es,ep,g1,g2,g3,g4,g5⟩:=(show ObjOk X.prog X.w H s.heap a (.dT (yC ns ys)) from I.hok a _ hH)
 have hview:KdlKeysView s.heap p a:=(show ObjOk X.prog X.w H s.heap p (Jm p a) from I.hok p _ hp).1
 obtain⟨rp,rv',zl⟩:=zbY (K:=X.K) (W:=W) hl rel
 have hT:=kU I rp rv' hks
 obtain⟨r,f1,f2,f3,f4⟩:=zjK (prog:=X.prog) (w:=X.w) (A:=X.A.in1.in1) hT hnd hne'
 have il:(zs.map fun x=>Value.ref x.2.1).length=ns.length:=by rw[List.length_map,zl]
 have esz:es.size=ns.length:=by rw[<-Array.length_toList,g4,List.length_map,zl]
 refine Calls.call_function_entry kind_sorted plain_sorted entry_sorted (args_sorted1 _) ?_
 unfold Builtin.«sorted»
 refine wpAny_bind (m:=checkCount "sorted" 1 1 _) (wpAny_pure ?_)
 refine wpAny_bind (kdu_collect (A:=X.A.in1) zjJ (I.ok.hd hc) ⟨hview,o,g1,g2,g3⟩ (by rw[sizeLine_eq];omega) fun h2 tk acc hk hacc=>?_)
 have ea:acc.toList=zs.map fun x=>Value.ref x.2.1:=by
  apply List.ext_getElem?
  intro j
  have sz:acc.size=es.size:=hacc.1
  by_cases hj:j<acc.size
  ·have h3:acc.toList[j]? =some acc[j]:=by simp[hj]
   obtain⟨e,e1,e2⟩:=hacc.2 j acc[j] (by simp[hj])
   rw[h3,e2]
   rw[<-Array.getElem?_toList,g4,List.getElem?_map,jo2] at e1
   obtain⟨x,e3,e4⟩:=e1
   rw[List.getElem?_map,e3,<-e4];rfl
  ·rw[List.getElem?_eq_none (by simpa using hj),List.getElem?_eq_none (by rw[il];omega)]
 rw[ea]
 refine wpAny_bind (wpAny_newList ?_ (by rw[il,sizeLine_eq];omega))
 generalize hits:(zs.map fun x=>Value.ref x.2.1)=its at*
 have hoL:(h2.push (seqObj "list" its.toArray 0)).get? h2.objs.size=some (seqObj "list" its.toArray 0):=Heap.get?_push_size _ rfl
 have keep: ∀b q,s.heap.get? b=some q->(h2.push (seqObj "list" its.toArray 0)).get? b=some q:=fun b q e=>Heap.get?_push_of_some _ (hk b q e)
 have nea: ∀b q,s.heap.get? b=some q->b≠h2.objs.size:=fun b q e=>Nat.ne_of_lt (Heap.lt_size (hk b q e))
 have I2:=I.kept (t':=tk) hk
 show wpAny _ _ _ _ _ { s with heap:=h2.push (seqObj "list" its.toArray 0),toks:=tk }
 refine wpAny_bind (wpAny_holding (wpAny_call_entry slot_list_sort ⟨_,hoL,rfl⟩ entry_list_sort (zbQ (s:={ s with heap:=h2.push (seqObj "list" its.toArray 0),toks:=tk }) (κ:=tuples' (Value.type "int" != Value.type "tuple")) (r:=r) hoL (by omega) f1 (fun z2 h' tk hk'=>?_) (fun i j h' tk C hi hj hk' q=>?_) fun pm tk hp hu=>⟨_,rfl,?_⟩) (args_list_sort _)))
 ·exact f2 z2 h' tk fun b o e=>hk' b o (nea b o e) (keep b o e)
 ·exact f3 i j h' tk C hi hj (fun b o e=>hk' b o (nea b o e) (keep b o e)) q
 ·obtain⟨heq,hlt⟩:=f4 pm hp hu
  refine wpAny_pure ⟨_,rfl,?_⟩
  obtain⟨e,he⟩:=sortedHeap_at (out:=(pm.toList.map fun i=>its.getD i Value.none).toArray) hoL
  have fr:H h2.objs.size=Option.none:=I2.hok.fresh (Nat.le_refl _)
  have hds:(pm.toList.map fun i=>(ns.map kT).getD i .non)=(wB ns).map kT:=by
   rw[<-heq,List.map_map]
   apply List.map_congr_left
   intro i hi
   have hi':=hlt i hi
   show (ns.map kT).getD i .non=kT (ns.getD i [])
   rw[yO (x:=kT (ns[i]'(by omega))) (by simp[show i<ns.length by omega]),yO (x:=ns[i]'(by omega)) (by simp)]
  have hrep:=zbT rp pm.toList fun i hi=>by have:=hlt i hi;simp;omega
  rw[hds] at hrep
  have hvals:=zbS rv' pm.toList fun i hi=>hlt i hi
  have rn:=vV fr hrep
  refine⟨.ref h2.objs.size,_,I2.laid (a:=h2.objs.size) (h':=sortedHeap (h2.push (seqObj "list" its.toArray 0)) h2.objs.size its (pm.toList.map fun i=>its.getD i Value.none).toArray) (o:=.lst (pm.toList.map fun i=>(zs.map fun x=>V.ref x.2.1).getD i .non)) (t':=tk) (fun b o q=>?_) (Nat.le_refl _) ⟨?_,_,e,hvals,?_⟩,rfl,q _ _ (yX fr _) rn⟩
  ·have lt:b<h2.objs.size:=Heap.lt_size q
   have q':=Heap.get?_push_of_some (seqObj "list" its.toArray 0) q
   rw[sortedHeap_old (Nat.ne_of_lt lt) (Heap.lt_size q')];exact q'
  ·rw[List.length_map,Array.length_toList,hp.size];exact Nat.le_of_lt (Yn (by omega))
  ·simpa [seqObj] using he
end
end L2.LW
set_option maxHeartbeats 4000000
namespace L2.LW
open PySem PySem.Spec PySem.W PySem.Calls PyProof.Rows
section
variable {X:Cx} {fn:Nat->List D->Option SV} {fa:Nat->List D->Option Ans} {fuel:Nat} {a b c e:Expr} {ca cb cc ce:E} {pos p:Pos} {x:Str}
theorem zjN{apos cpos:Pos}(hc:X.calm=true)(hg:Gl X "sorted")(hm:X.mg "sorted"=Option.none)(ha:IE X fn a ca)
  (hst:starEach [Expr.Call (.Attribute a "keys" apos) [] [] cpos] X.env=(false,eval (Expr.Call (.Attribute a "keys" apos) [] [] cpos) X.env)::starEach [] X.env:=by rfl)
  (hbase:attributeBase a "keys" X.env (eval a X.env)=eval a X.env:=by rfl) (hline:(apos.endLine==cpos.line)=true:=by rfl):
  IE X fn (.Call (.Name "sorted" p) [.Call (.Attribute a "keys" apos) [] [] cpos] [] pos) (.prim .skeys (.cons ca .nil)):=
 .mk <| (QN (zjM hc) hg hm PyProof.Rows.boot_sorted (jo (zaw PySem.F.plainAttrs_dict PySem.F.slot_dict_keys PySem.F.type_dict_keys zjL ha.v hbase hline) Zb hst) (by decide) (by decide) hst zu).imp fun σ H Q zz3=>by
  obtain⟨W,ρ,r,hR,he,q⟩:=zz3
  simp only[wD,xN,xO,jo1,jo2] at he
  obtain⟨rs,⟨r1,e1,rs',e3,rfl⟩,e4⟩:=he
  cases e3
  refine⟨W,ρ,r1,hR,e1,fun v1 H1 s1 f1=>?_⟩
  have hsee:=km (.cons f1 .nil)
  have e5:Yu [zN r1]=some r:=e4
  unfold Yu at e5
  split at e5
  case h_2=>cases e5
  rename_i ks vs z
  have z1:zN r1= .dct true ks vs:=by simpa using z
  obtain⟨d0,ed,hs⟩:=YK hsee
  simp at ed
  subst ed
  rw[z1] at hs
  obtain⟨a0,ns,ys,rfl,rfl,hH,hl,_⟩:=hs.dT
  refine⟨.inr (.inr (.inl ⟨rfl,.inr ⟨_,hH⟩⟩)),a0,_,rfl,rfl,hH,fun p0 hp0=>?_⟩
  exact⟨p0,a0,rfl,yL,YO hR (s1.trans (yX hp0 _)) (.cons (f1.same (yX hp0 _)) .nil) e4 q⟩
end
end L2.LW
set_option maxHeartbeats 4000000
namespace L2.LW
open PySem PySem.Spec PySem.W PySem.Calls PyProof.Rows
noncomputable def ve(i:Nat):Int:=reduceHash (Builtin.Tuple.tupleHashOf [hashInt ((i/8:Nat):Int),hashInt ((i%8:Nat):Int)])
theorem zjO:((List.range 64).map ve).Nodup:=by decide+kernel
theorem zbZ{P:Program}{w:World}{a b:Int}(h:0<=a/\a<=7/\0<=b/\b<=7):(a*8+b).toNat<64/\tupleKeyHash (zW P w) [Sum.inl a,Sum.inl b]=ve (a*8+b).toNat:=by
 refine⟨by omega,?_⟩
 unfold ve
 rw[show (((a*8+b).toNat/8:Nat):Int)=a by omega,show (((a*8+b).toNat%8:Nat):Int)=b by omega]
 rfl
noncomputable def jF(k:List zy):Prop:=∃a b:Int,k=[Sum.inl a,Sum.inl b]/\0<=a/\a<=7/\0<=b/\b<=7
theorem zjP{P:Program}{w:World}{k k':List zy}(h:jF k)(h':jF k')(e:tupleKeyHash (zW P w) k=tupleKeyHash (zW P w) k'):k=k':=by
 obtain⟨a,b,rfl,r⟩:=h
 obtain⟨c,d,rfl,r'⟩:=h'
 obtain⟨l1,e1⟩:=zbZ (P:=P) (w:=w) r
 obtain⟨l2,e2⟩:=zbZ (P:=P) (w:=w) r'
 rw[e1,e2] at e
 have e3:((List.range 64).map ve)[(a*8+b).toNat]'(by rw[List.length_map,List.length_range];exact l1)=((List.range 64).map ve)[(c*8+d).toNat]'(by rw[List.length_map,List.length_range];exact l2):=by simpa using e
 have:=(List.getElem_inj zjO).mp e3
 have ea:a=c:=by omega
 have eb:b=d:=by omega
 rw[ea,eb]
section
variable {prog:Program} {w:World} {K:Type} [DecidableEq K] {knd:HeapKind prog w K} {A:Around} {E:Value->Shared->Prop} {s:Shared}
theorem zb0{d a:Addr}{xs:List (K×Addr×Value)}{k:K}{v:Value}{Q:Unit->Shared->Prop}(hu:knd.room A)(hkey:knd.is s.heap k a)(hm:s.heap.DictOfH knd d xs)(hsz:xs.length<=sizeLine)
  (q: ∀h2,h2.DictOfH knd d (storedH xs k a v)->Heap.SameBut d s.heap h2->Q () { s with heap:=h2 }):wpAny (model prog w) A (dictSetHashed d (.ref a) (knd.hash k) v) Q E s:=by
 obtain⟨ob,tb,ep,e1,ex,e2,e3,al,nd⟩:=hm
 have lz:=size_of_entries e3
 unfold dictSetHashed
 try with_reducible refine wpAny_holding ?_
 refine wpAny_bind (wpAny_dictFind_heap hu hkey e1 e2 e3 al nd (fun no=>?_) fun j p hj=>?_)
 ·have ak:=atKey_none_of_get no
  have nm:=not_mem_keys_of_get no
  refine wpAny_bind (wpAny_rule (wpAny_updateDictKeys (hz:=by omega) e1 e2 (q _ ?_ (Heap.SameBut.update ..))))
  rw[storedH_new ak]
  refine⟨_,_,ep+1,Heap.get?_update_self _ e1 (Obj.isFreed_of_dict (Obj.data_mapDictKeys e2 _)),ex.mapDictKeys _,Obj.data_mapDictKeys e2 _,by simp[e3,entryOfKey],fun z hz=>?_,?_⟩
  ·rcases List.mem_append.mp hz with hz|hz
   ·exact knd.keeps (al z hz) e1 e2 (Heap.SameBut.update ..)
   ·rw[List.mem_singleton] at hz
    rw[hz]
    exact knd.keeps hkey e1 e2 (Heap.SameBut.update ..)
  ·rw[List.map_append,List.nodup_append]
   exact⟨nd,by simp,fun y hy z hz e=>nm (by simp at hz;rw[<-hz,<-e];exact hy)⟩
 ·have ak:=atKey_of_get nd hj
  refine wpAny_bind (wpAny_rule (wpAny_bind (wpAny_updateDict e1 e2 (wpAny_point (q _ ?_ (Heap.SameBut.update ..))))))
  rw[storedH_old ak]
  refine⟨_,_,ep,Heap.get?_update_self _ e1 (Obj.isFreed_of_dict (Obj.data_mapDict e2 _)),ex.mapDict _,Obj.data_mapDict e2 _,?_,fun z hz=>?_,?_⟩
  ·have mm:=modify_map_putAt (entryOfKey knd) (fun t:DictEntry=>{ t with val:=v }) k v (fun _ _=>rfl) nd hj
   rw[<-e3] at mm
   obtain⟨l⟩:=tb
   simpa using mm
  ·obtain⟨y,hy,rfl⟩:=List.mem_map.mp hz
   unfold putAt
   split<;>exact knd.keeps (al y hy) e1 e2 (Heap.SameBut.update ..)
  ·rw[keys_map_putAt];exact nd
noncomputable def xV(xs zs:List (K×Addr×Value)):List (K×Addr×Value):=zs.foldl (fun acc z=>storedH acc z.1 z.2.1 z.2.2) xs
theorem zjQ(xs:List (K×Addr×Value))(k:K)(a:Addr)(v:Value):(storedH xs k a v).length<=xs.length+1:=by
 unfold storedH;split<;>simp
theorem kY(xs:List (K×Addr×Value)): ∀zs:List (K×Addr×Value),(xV xs zs).length<=xs.length+zs.length:=fun zs=>by
 induction zs generalizing xs with
 |nil=>simp[xV]
 |cons z r ih=>
  have h1:=ih (storedH xs z.1 z.2.1 z.2.2)
  have h2:=zjQ xs z.1 z.2.1 z.2.2
  show (xV (storedH xs z.1 z.2.1 z.2.2) r).length<=_
  simp;omega
theorem zb1: ∀(zs xs:List (K×Addr×Value)),((xs++zs).map (·.1)).Nodup->xV xs zs=xs++zs
 |[],xs,_=>by simp[xV]
 |z::r,xs,h=>by
  have ak:atKey xs z.1=none:=atKey_none_of_get fun j p hj=>by
   rw[List.map_append,List.map_cons,List.nodup_append] at h
   exact h.2.2 z.1 (List.mem_map.mpr ⟨(z.1,p),List.mem_of_getElem? hj,rfl⟩) z.1 List.mem_cons_self rfl
  show xV (storedH xs z.1 z.2.1 z.2.2) r=_
  rw[storedH_new ak,zb1 r _ (by simpa using h)]
  simp
theorem zb2(xs zs:List (K×Addr×Value))(i:Nat)(z:K×Addr×Value)(h:zs[i]? =some z):xV xs (zs.take (i+1))=storedH (xV xs (zs.take i)) z.1 z.2.1 z.2.2:=by
 simp[xV,List.take_add_one,h,List.foldl_append]
end
section
variable {P:Program} {w:World} {A:Around} {E:Value->Shared->Prop} {s:Shared}
theorem zjR{id:String}{d:Addr}{ob:Obj}{tb:Array DictEntry}{ep:Nat}{zs:List (List zy×Addr×Value)}{Q:Array DictEntry->Shared->Prop}(e1:s.heap.get? d=some ob)(e2:ob.data= .dict tb ep)(e3:tb.toList=zs.map (entryOfKey (tupleKind (zW P w))))
  (al: ∀z∈zs,(tupleKind (zW P w)).is s.heap z.1 z.2.1) (nd:(zs.map (·.1)).Nodup) (sm: ∀z∈zs,jF z.1) (q:Q tb s):wpAny (model P w) A (Builtin.Dict.entriesForEmpty id d) Q E s:=by
 unfold Builtin.Dict.entriesForEmpty
 refine wpAny_bind (wpAny_dictEntries e1 e2 (wpAny_bind ?_))
 rw[<-Array.forIn_toList]
 refine wpAny_forIn_list _ (fun zT _ s'=>s'=s/\∀t∈zT,t∈tb.toList) _ (fun t zT b s' ⟨hs,hall⟩=>?_) (fun b s' ⟨hs,_⟩=>?_) _ _ ⟨rfl,fun t ht=>ht⟩
 ·subst hs
  have ht:=hall t List.mem_cons_self
  have ht2:=ht
  rw[e3] at ht2
  obtain⟨z,hz,rfl⟩:=List.mem_map.mp ht2
  have tq:=al z hz
  have nxt:(s'=s'/\∀t∈zT,t∈tb.toList):=⟨rfl,fun y hy=>hall y (List.mem_cons_of_mem _ hy)⟩
  refine wpAny_bind ?_
  show wpAny _ _ (Builtin.Dict.quietEq (.ref z.2.1)) _ _ _
  unfold Builtin.Dict.quietEq
  refine wpAny_bind (wpAny_specialOf (IsTupleKey.typeIs tq) PySem.F.slot_tuple_eq.lookup (wpAny_pure ?_))
  have one: ¬(tb.filter fun y=>y.hash==(entryOfKey (tupleKind (zW P w)) z).hash).size>1:=by
   intro big
   have:(tb.toList.filter fun y=>y.hash==(entryOfKey (tupleKind (zW P w)) z).hash).length>1:=by
    have:=big
    rw[<-Array.length_toList,Array.toList_filter] at this
    exact this
   rw[e3,List.filter_map,List.length_map] at this
   have nd2:zs.Nodup:=(List.pairwise_map.mp nd).imp fun h e=>h (by rw[e])
   have le:(zs.filter ((fun y=>y.hash==(entryOfKey (tupleKind (zW P w)) z).hash)∘entryOfKey (tupleKind (zW P w)))).length<=[z].length:=by
    have key: ∀y∈zs.filter ((fun y=>y.hash==(entryOfKey (tupleKind (zW P w)) z).hash)∘entryOfKey (tupleKind (zW P w))),y=z:=fun y hy=>by
     rw[List.mem_filter] at hy
     obtain⟨hy1,hy2⟩:=hy
     have eh:tupleKeyHash (zW P w) y.1=tupleKeyHash (zW P w) z.1:=by simpa [entryOfKey,tupleKind] using hy2
     have ek:=zjP (sm y hy1) (sm z hz) eh
     obtain⟨i,hi,rfl⟩:=List.getElem_of_mem hy1
     obtain⟨j,hj,rfl⟩:=List.getElem_of_mem hz
     have:i=j:=(List.getElem_inj nd (h₀:=by simpa using hi) (h₁:=by simpa using hj)).mp (by simpa using ek)
     subst this;rfl
    have nf:=nd2.filter ((fun y=>y.hash==(entryOfKey (tupleKind (zW P w)) z).hash)∘entryOfKey (tupleKind (zW P w)))
    generalize zs.filter ((fun y=>y.hash==(entryOfKey (tupleKind (zW P w)) z).hash)∘entryOfKey (tupleKind (zW P w)))=L at key nf
    match L,nf,key with
    |[],_,_=>simp
    |[_],_,_=>simp
    |x::y::r,nf,key=>
     have h1:=key x (by simp)
     have h2:=key y (by simp)
     rw[h1,h2] at nf
     simp at nf
   simp at le
   omega
  have ne:((some (Value.builtin "tuple.__eq__")==some (Value.builtin "object.__eq__"))=false):=by decide
  rw[ne]
  simp only[Bool.not_false,if_true]
  rw[if_neg one]
  exact wpAny_pure nxt
 ·subst hs
  exact wpAny_pure q
theorem zjS{nm:String}{d o:Addr}{xs zs:List (List zy×Addr×Value)}{Q:Unit->Shared->Prop}(hu:A.units<cLine)(ne:d≠o)(hoS:(o==sysModules)=false)
  (hd:s.heap.DictOfH (tupleKind (zW P w)) d xs) (ho:s.heap.DictOfH (tupleKind (zW P w)) o zs) (sm: ∀z∈zs,jF z.1) (hsz:xs.length+zs.length<sizeLine)
  (q: ∀h2,h2.DictOfH (tupleKind (zW P w)) d (xV xs zs)->Heap.SameBut d s.heap h2->Q () { s with heap:=h2 }):wpAny (model P w) A (Builtin.Dict.mergeDict nm d o) Q E s:=by
 obtain⟨od,td,pd,d1,d2,d3,d4,d5,d6⟩:=id hd
 obtain⟨oo,to,po,o1,o2,o3,o4,o5,o6⟩:=id ho
 have lz:=size_of_entries o4
 have lx:=size_of_entries d4
 unfold Builtin.Dict.mergeDict
 rw[if_neg (by simpa using ne)]
 unfold Builtin.Dict.showsAll
 rw[if_neg (by rw[hoS];exact Bool.false_ne_true)]
 refine wpAny_bind (wpAny_pure (wpAny_bind (wpAny_dictEntries o1 o3 ?_)))
 dsimp only
 split
 ·refine wpAny_bind (wpAny_dictEntries d1 d3 ?_)
  split
  ·rename_i em
   have x0:xs=[]:=List.length_eq_zero_iff.mp (by rw[<-lx,Array.isEmpty_iff.mp em];rfl)
   subst x0
   refine wpAny_bind (zjR o1 o3 o4 o5 o6 sm ?_)
   split
   ·refine wpAny_bind (wpAny_updateDictKeysTo d1 d3 (wpAny_pure (q _ ?_ (Heap.SameBut.update ..))) (by omega))
    rw[zb1 zs [] (by simpa using o6)]
    exact⟨_,_,pd+1,Heap.get?_update_self _ d1 (Obj.isFreed_of_dict (Obj.data_mapDictKeys d3 _)),d2.mapDictKeys _,Obj.data_mapDictKeys d3 _,o4,fun z hz'=>(tupleKind (zW P w)).keeps (o5 z hz') d1 d3 (Heap.SameBut.update ..),o6⟩
   ·rename_i h0
    have e0:to.size=0:=by
     have:to.isEmpty=true:=by simpa using h0
     rw[Array.isEmpty_iff.mp this];rfl
    have z0:zs=[]:=List.length_eq_zero_iff.mp (by omega)
    subst z0
    exact wpAny_pure (q _ (by simpa [xV] using hd) (Heap.SameBut.refl _ _))
  ·refine wpAny_bind (wpAny_dictEpoch o1 o3 (wpAny_bind (wpAny_dictEntries o1 o3 (wpAny_bind ?_))))
   rw[Std.Legacy.Range.forIn_eq_forIn_range']
   simp only[Nat.div_one,Nat.add_sub_cancel,Nat.sub_zero,Std.Legacy.Range.size]
   refine wpAny_forIn_list _ (fun zT _ s'=>∃h2 i,s'={ s with heap:=h2 }/\zT=List.range' i (to.size-i)/\i<=to.size/\h2.DictOfH (tupleKind (zW P w)) d (xV xs (zs.take i))/\h2.get? o=some oo/\Heap.SameBut d s.heap h2)
    _ (fun x zT b s'=>?_) (fun b s'=>?_) _ _ ⟨s.heap,0,rfl,by simp,Nat.zero_le _,by simpa [xV] using hd,o1,Heap.SameBut.refl _ _⟩
   ·rintro⟨h2,i,rfl,er,hi,hd2,oh,sb⟩
    have lt:i<to.size:=by
     by_cases z:i<to.size
     ·exact z
     ·rw[show to.size-i=0 by omega] at er;simp at er
    rw[show to.size-i=(to.size-(i+1))+1 by omega,List.range'_succ] at er
    injection er with ex erest
    subst ex
    refine wpAny_bind (wpAny_dictEntries oh o3 ?_)
    obtain⟨z,ez⟩: ∃z,zs[x]? =some z:=⟨zs[x]'(by omega),List.getElem?_eq_getElem _⟩
    have et:to[x]? =some (entryOfKey (tupleKind (zW P w)) z):=by rw[entry_at o4 x,ez];rfl
    rw[et]
    show wpAny _ _ (holding [Value.ref z.2.1,z.2.2] (dictSetHashed d (.ref z.2.1) ((tupleKind (zW P w)).hash z.1) z.2.2) >>= _) _ _ _
    have hz:=List.mem_of_getElem? ez
    have ml:=kY xs (zs.take x)
    have tl:(zs.take x).length<=zs.length:=by rw[List.length_take];omega
    refine wpAny_bind (wpAny_holding (zb0 (s:={ s with heap:=h2 }) hu ((tupleKind (zW P w)).keeps (o5 z hz) d1 d3 sb) hd2 (by omega) fun h3 hd3 sb3=>?_))
    have oh3:h3.get? o=some oo:=(sb3.2 o (Ne.symm ne)).trans oh
    refine wpAny_bind (wpAny_dictEpoch (s:={ s with heap:=h3 }) oh3 o3 ?_)
    rw[if_neg (by simp)]
    exact wpAny_pure ⟨h3,x+1,rfl,erest,lt,by rw[zb2 xs zs x z ez];exact hd3,oh3,sb.trans sb3⟩
   ·rintro⟨h2,i,rfl,er,hi,hd2,oh,sb⟩
    have:i=to.size:=by
     by_cases z:i<to.size
     ·rw[show to.size-i=(to.size-(i+1))+1 by omega,List.range'_succ] at er;cases er
     ·omega
    rw[this,lz,List.take_length] at hd2
    exact wpAny_pure (q h2 hd2 sb)
 ·refine wpAny_bind (wpAny_dictEpoch o1 o3 (wpAny_bind (wpAny_dictEntries o1 o3 (wpAny_bind ?_))))
  rw[Std.Legacy.Range.forIn_eq_forIn_range']
  simp only[Nat.div_one,Nat.add_sub_cancel,Nat.sub_zero,Std.Legacy.Range.size]
  refine wpAny_forIn_list _ (fun zT _ s'=>∃h2 i,s'={ s with heap:=h2 }/\zT=List.range' i (to.size-i)/\i<=to.size/\h2.DictOfH (tupleKind (zW P w)) d (xV xs (zs.take i))/\h2.get? o=some oo/\Heap.SameBut d s.heap h2)
   _ (fun x zT b s'=>?_) (fun b s'=>?_) _ _ ⟨s.heap,0,rfl,by simp,Nat.zero_le _,by simpa [xV] using hd,o1,Heap.SameBut.refl _ _⟩
  ·rintro⟨h2,i,rfl,er,hi,hd2,oh,sb⟩
   have lt:i<to.size:=by
    by_cases z:i<to.size
    ·exact z
    ·rw[show to.size-i=0 by omega] at er;simp at er
   rw[show to.size-i=(to.size-(i+1))+1 by omega,List.range'_succ] at er
   injection er with ex erest
   subst ex
   refine wpAny_bind (wpAny_dictEntries oh o3 ?_)
   obtain⟨z,ez⟩: ∃z,zs[x]? =some z:=⟨zs[x]'(by omega),List.getElem?_eq_getElem _⟩
   have et:to[x]? =some (entryOfKey (tupleKind (zW P w)) z):=by rw[entry_at o4 x,ez];rfl
   rw[et]
   show wpAny _ _ (holding [Value.ref z.2.1,z.2.2] (dictSetHashed d (.ref z.2.1) ((tupleKind (zW P w)).hash z.1) z.2.2) >>= _) _ _ _
   have hz:=List.mem_of_getElem? ez
   have ml:=kY xs (zs.take x)
   have tl:(zs.take x).length<=zs.length:=by rw[List.length_take];omega
   refine wpAny_bind (wpAny_holding (zb0 (s:={ s with heap:=h2 }) hu ((tupleKind (zW P w)).keeps (o5 z hz) d1 d3 sb) hd2 (by omega) fun h3 hd3 sb3=>?_))
   have oh3:h3.get? o=some oo:=(sb3.2 o (Ne.symm ne)).trans oh
   refine wpAny_bind (wpAny_dictEpoch (s:={ s with heap:=h3 }) oh3 o3 ?_)
   rw[if_neg (by simp)]
   exact wpAny_pure ⟨h3,x+1,rfl,erest,lt,by rw[zb2 xs zs x z ez];exact hd3,oh3,sb.trans sb3⟩
  ·rintro⟨h2,i,rfl,er,hi,hd2,oh,sb⟩
   have:i=to.size:=by
    by_cases z:i<to.size
    ·rw[show to.size-i=(to.size-(i+1))+1 by omega,List.range'_succ] at er;cases er
    ·omega
   rw[this,lz,List.take_length] at hd2
   exact wpAny_pure (q h2 hd2 sb)
end
end L2.LW
set_option maxHeartbeats 4000000
namespace L2.LW
open PySem PySem.Spec PySem.W PySem.Calls PyProof.Rows
noncomputable def ZA(kvs kvs2:List (List zy×V)):List (List zy×V):=kvs2.foldl (fun acc p=>xm acc p.1 p.2) kvs
theorem KT.merge{H:Hp}: ∀{kvs2:List (List zy×V)} {zs:List (List zy×Addr×Value)},KT H kvs2 zs->∀{kvs:List (List zy×V)} {xs:List (List zy×Addr×Value)},KT H kvs xs->KT H (ZA kvs kvs2) (xV xs zs)
 |_,_,.nil,_,_,r=>r
 |_,_,.cons (a:=p) (b:=z) h t,kvs,xs,r=>by
  have r1:KT H (xm kvs p.1 p.2) (storedH xs z.1 z.2.1 z.2.2):=by
   have e:p.1=z.1:=h.1
   rw[e]
   exact KT.put r z.1 (by rw[<-e];exact h.2.1) h.2.2
  exact KT.merge t r1
section
variable {X:Cx}
theorem zjT(hu:X.A.units+64<cLine):MtR X "dict.update" (fun x xs H Q=>∃a b kvs kvs2,x= .ref a/\xs=[.ref b]/\a≠b/\H a=some (.dT kvs)/\H b=some (.dT kvs2)/\(∀p∈kvs2,jF p.1)/\kvs.length+kvs2.length<sizeLine/\Q .non (zI H a (.dT (ZA kvs kvs2)))):=by
 rintro pins s σ H x xs v us Q I rx rs ⟨a,b,kvs,kvs2,rfl,rfl,ne,ea,eb,sm,hsz,q⟩
 cases rx
 obtain⟨u,rfl,ru⟩:=wz rs
 cases ru
 obtain⟨_,hd,zs,rel,dd⟩:=Ym I.hok ea
 obtain⟨-,hd2,zs2,rel2,dd2⟩:=Ym I.hok eb
 have l1:zs.length=kvs.length:=(Paired.length rel).symm
 have l2:zs2.length=kvs2.length:=(Paired.length rel2).symm
 have sm2: ∀z∈zs2,jF z.1:=by
  clear q hsz l2 dd2 eb
  induction rel2 with
  |nil=>intro z hz;cases hz
  |cons h t ih=>
   intro z hz
   rcases List.mem_cons.mp hz with rfl|hz
   ·rw[<-h.1];exact sm _ List.mem_cons_self
   ·exact ih (fun p hp=>sm p (List.mem_cons_of_mem _ hp)) z hz
 refine wpAny_call_entry PySem.F.slot_dict_update dd.typeIs PySem.F.entry_dict_update ?_ (PySem.F.args_dict_update_2 _ _)
 unfold Builtin.«dict.update»
 refine wpAny_bind ?_
 unfold Builtin.Dict.selfAndRest
 refine wpAny_bind (wpAny_notOrdered_dict dd.typeIs ?_)
 show wpAny _ _ (pure (a,[Value.ref b])) _ _ s
 refine wpAny_pure ?_
 show wpAny _ _ (Builtin.Dict.updateFrom "dict.update" a (.ref b) [] .none) _ _ s
 unfold Builtin.Dict.updateFrom
 refine wpAny_bind (wpAny_typeOf dd2.typeIs ?_)
 rw[if_neg (by decide)]
 refine wpAny_bind ?_
 unfold Builtin.Dict.merge
 refine wpAny_bind ?_
 unfold Builtin.Dict.readDirectly
 refine wpAny_bind (wpAny_isInstance dd2.typeIs isSubtype_dict_dict ?_)
 simp only[Bool.not_true,Bool.false_eq_true,if_false]
 refine wpAny_bind (wpAny_specialOf dd2.typeIs PySem.F.slot_dict_iter.lookup (wpAny_pure ?_))
 simp only[if_true,beq_self_eq_true]
 refine wpAny_bind (wpAny_pure (zjS (show X.A.in1.units<cLine from Nat.lt_of_le_of_lt (Nat.le_refl _) (by show X.A.units+1<cLine;omega)) ne hd2 dd dd2 sm2 (by omega) fun h2 dd3 sb=>?_))
 show wpAny _ _ (Builtin.Dict.addKeywords a [] >>= _) _ _ _
 refine wpAny_bind (wpAny_pure (wpAny_pure ⟨.none,rfl,.non,_,?_,rfl,q⟩))
 obtain⟨ob,es,ep,q1,q2,q3,q4,_,q5⟩:=dd3
 have ml:=kY zs zs2
 refine Vv (t':=s.toks) I (by rw[ea];exact True.intro) sb ⟨ob,q1⟩ ⟨?_,hd,_,(KT.merge rel2 rel).keeps fun c ys ec=>?_,ob,es,ep,q1,q2,q3,q4,q5⟩
 ·have:=Paired.length (KT.merge rel2 rel)
  omega
 ·rw[zJ (QD ec ea (fun z=>nomatch z))]
  exact ec
end
theorem zb3{K:PySem.W.Frag}{W:Addr->Prop}{H:Hp}: ∀{ns2:List (List Int)} {ys2:List V} {vs2:List D},ns2.length=ys2.length->Reps K W H vs2 ys2->∀{ns:List (List Int)} {ys:List V} {vs:List D},ns.length=ys.length->Reps K W H vs ys->
  ORep K W H (.dct true (wQ (ns.map kT) vs (ns2.map kT) vs2).1 (wQ (ns.map kT) vs (ns2.map kT) vs2).2) (.dT (ZA (yC ns ys) (yC ns2 ys2)))
 |[],[],_,_,.nil,ns,ys,vs,l,r=>.dT l r
 |n::ns2,y::ys2,_,l2,.cons (d:=d) (ds:=dt) h t,ns,ys,vs,l,r=>by
  have o1:=zbI l r n h
  have st: ∀{D0:D} {P0:List (List zy×V)},ORep K W H D0 (.dT P0)->∃ns' ys' vs',D0= .dct true (ns'.map kT) vs'/\P0=yC ns' ys'/\ns'.length=ys'.length/\Reps K W H vs' ys':=by
   intro D0 P0 o
   cases o with
   |dT l r=>exact⟨_,_,_,rfl,rfl,l,r⟩
  obtain⟨ns',ys',vs',e1,e2,l',r'⟩:=st o1
  have ih:=zb3 (ns2:=ns2) (ys2:=ys2) (by simpa using l2) t l' r'
  have e3:wQ (ns.map kT) vs ((n::ns2).map kT) (d::dt)=wQ (ns'.map kT) vs' (ns2.map kT) dt:=by
   rw[List.map_cons,wQ,e1]
  have e4:ZA (yC ns ys) (yC (n::ns2) (y::ys2))=ZA (yC ns' ys') (yC ns2 ys2):=by
   show ZA (xm (yC ns ys) (n.map Sum.inl) y) (yC ns2 ys2)=_
   rw[e2]
  rw[e3,e4]
  exact ih
theorem zjU{ns:List (List Int)}{ys:List V}(h:(ns.map kT).all YF=true): ∀p∈yC ns ys,jF p.1:=by
 intro p hp
 have h1:=(List.of_mem_zip (show (p.1,p.2)∈_ from hp)).1
 rw[List.mem_map] at h1
 obtain⟨n,hn,e⟩:=h1
 have h2:=List.all_eq_true.mp h (kT n) (List.mem_map.mpr ⟨n,hn,rfl⟩)
 rw[<-e]
 unfold kT YF at h2
 match n,h2 with
 |[],h2=>simp at h2
 |[_],h2=>simp at h2
 |[a,b],h2=>exact⟨a,b,rfl,by simpa using h2⟩
 |_::_::_::_,h2=>simp at h2
section
variable {X:Cx} {fn:Nat->List D->Option SV} {fa:Nat->List D->Option Ans} {fuel:Nat} {pos p p2:Pos} {x y:Str}
theorem zjV(i j:Nat){apos cpos:Pos}(hu:X.A.units+64<cLine)(hN:X.N[i]? =some x)(hv:zn X.env.scope x)(hN2:X.N[j]? =some y)(hv2:zn X.env.scope y)(hst:starEach [Expr.Name y p2] X.env=(false,eval (.Name y p2) X.env)::starEach [] X.env)
  (hd:(x==("__debug__":Str))=false) (hcd:(x==("__classdict__":Str))=false) (hd2:(y==("__debug__":Str))=false) (hcd2:(y==("__classdict__":Str))=false)
  (hs:swapsWith (.Call (.Attribute (.Name x p) "update" apos) [.Name y p2] [] cpos) Option.none pos.line X.env=pure false:=by rfl)
  (hbase:attributeBase (.Name x p) "update" X.env (eval (.Name x p) X.env)=eval (.Name x p) X.env:=by rfl)
  (hline:(apos.endLine==cpos.line)=true:=by rfl):
  IS X (zL fa fuel (.dupd i j)) (.Expr (.Call (.Attribute (.Name x p) "update" apos) [.Name y p2] [] cpos) pos):=
 .mk <| (QE (zax PySem.F.plainAttrs_dict PySem.F.slot_dict_update PySem.F.type_dict_update (zjT hu) (vE hN hv hd hcd) (jo (vE hN2 hv2 hd2 hcd2) Zb hst) hbase (by rw[hst];rfl) hline hst zu) hs).imp fun D σ H zz3=>by
  obtain⟨W,ρ,y,hR,hy,q⟩:=zz3
  simp only[ziB] at hy
  unfold YG at hy
  split at hy
  ·cases hy
  rename_i nij
  split at hy
  case h_2=>cases hy
  rename_i x0 h
  unfold VH at hy
  split at hy
  case h_2=>cases hy
  rename_i ks vs ks2 vs2 hc hc2
  split at hy
  case isFalse=>cases hy
  rename_i hcond
  cases hy
  rw[Bool.and_eq_true,decide_eq_true_iff] at hcond
  unfold Zg at hc2
  split at hc2
  case h_2=>cases hc2
  rename_i y0 h0
  obtain⟨a,o,h1,h2,h3,h4⟩:=hR.own i _ _ h hc
  obtain⟨b,o2,g1,g2,g3,g4⟩:=hR.own j _ _ h0 hc2
  have ne:a≠b:=fun z=>nij (hR.inj i j _ _ _ _ a h h0 hc hc2 h1 (by rw[z];exact g1))
  cases h4 with
  |dT l rp=>
  cases g4 with
  |dT l2 rp2=>
  have le:=Zj
  refine⟨_,h1,.inr (.inr (.inl ⟨rfl,.inr ⟨_,h3⟩⟩)),_,g1,a,b,_,_,rfl,rfl,ne,h3,g3,zjU hcond.1,?_,?_⟩
  ·rw[kM l,kM l2,<-le]
   simpa using hcond.2
  ·exact q W σ _ (Jc hR h hc h1 (.refl H) h3 ⟨fun _ z=>(nomatch z),fun _ _ z=>(nomatch z)⟩ (zb3 l2 rp2 l rp))
end
end L2.LW
set_option maxHeartbeats 4000000
set_option maxHeartbeats 4000000
namespace L2.LW
open PySem PySem.Spec PySem.W PySem.Calls PyProof.Rows
section
variable {X:Cx} {fn:Nat->List D->Option SV}
theorem zjW:OpR X (binaryOp .Add) (yR X.K (zh .addT)):=by
 rintro pins s σ H x y v u Q I rx ry ⟨W,ds,r,wf,hs,hf,q⟩
 obtain⟨d,e,rfl,h1,h2⟩:=xP hs
 replace hf:Yv [d,e]=some r:=hf
 unfold Yv at hf
 split at hf
 case h_2=>cases hf
 rename_i a b z
 cases z
 split at hf
 case isFalse=>cases hf
 rename_i hl
 cases hf
 obtain⟨p,xs,rfl,hp,rp⟩:=h1.tupH
 obtain⟨p2,xs2,rfl,hp2,rp2⟩:=h2.tupH
 have l1:=rp.length
 have l2:=rp2.length
 by_cases hx:xs=[]
 ·subst hx
  cases rp
  cases rx;cases ry
  obtain⟨its,rv,ht,hz⟩:=I.tuple (SqT.of hp)
  obtain⟨its2,rv2,ht2,hz2⟩:=I.tuple (SqT.of hp2)
  cases rv
  obtain⟨⟨c1,d1,da1,sl1⟩,ho,hc,n,hd⟩:=id ht
  obtain⟨⟨c2,d2,da2,sl2⟩,ho2,hc2,n2,hd2⟩:=id ht2
  simp only at hc hd hc2 hd2
  subst hc hd hc2 hd2
  refine concat_meets ⟨_,ho,rfl⟩ ⟨_,ho2,rfl⟩ noFill_tuple_add seq_tuple_add PySem.F.slot_tuple_add PySem.F.entry_tuple_add (PySem.F.args_tuple_add_2 _ _) (tuple_addW0 p p2 _ _ n n2 d1 d2 sl1 sl2 (by simp)) ⟨ho,ho2,?_⟩
  exact⟨.ref p2,H,I,rfl,q _ H (.refl H) (.val (.tup hp2 rp2))⟩
 ·refine zhi pins s σ H _ _ v u Q I rx ry ⟨p,p2,xs,xs2,rfl,rfl,.of hp,.of hp2,hx,by rw[sizeLine_eq];omega,fun z=>?_,fun _ p' hp'=>?_⟩
  ·subst z
   cases rp2
   rw[List.append_nil] at q
   exact q _ H (.refl H) (.val (.tup hp rp))
  ·exact q _ _ (yX hp' _) (kf hp' (rp.append rp2))
end
end L2.LW
set_option maxHeartbeats 4000000
set_option maxHeartbeats 4000000
set_option maxHeartbeats 4000000
namespace L2.LW
open PySem PySem.Spec PySem.W PySem.Calls PyProof.Rows
noncomputable def FlXOk(K:PySem.W.Frag)(cl:Nat->Value)(E:XK)(W:Addr->Prop)(ρ:LW.Env)(σ:St)(W':Addr->Prop)(ρ':LW.Env)(σ':St)(H':Hp)(D:Ends):FlX->Prop
 | .fl f=>FlOk K W ρ σ W' ρ' σ' H' D f
 | .ex c=>E (cl c) Option.none H'
theorem FlXOk.back{K:PySem.W.Frag}{cl:Nat->Value}{E:XK}{W W1 W2:Addr->Prop}{ρ ρ1 ρ2:LW.Env}{σ σ1 σ2:St}{H H1 H2:Hp}{D:Ends}{fl:FlX}(p:SPost K W ρ σ H W1 ρ1 σ1 H1)(h:FlXOk K cl E W ρ σ W2 ρ2 σ2 H2 D fl):FlXOk K cl E W1 ρ1 σ1 W2 ρ2 σ2 H2 D fl:=by
 cases fl with
 |fl f=>exact FlOk.back (ρ2:=ρ2) p h
 |ex c=>exact h
section
variable {X:Cx} {cl:Nat->Value} {E:XK} {fa:Nat->List D->Option Ans} {fuel:Nat} {st:Stmt} {sts sts':List Stmt} {s:S} {t:T} {ts t1 t2:Ts} {e c:Expr} {es:List Expr} {cs:Es} {cc:LW.E} {x y:Str} {p pos:Pos}
noncomputable def zjX(K:PySem.W.Frag)(cl:Nat->Value)(E:XK)(fa:Nat->List D->Option Ans)(i:Nat)(cs:Es):TE:=fun σ H Q=>∃W ρ a,R K W ρ σ H/\vk fa i cs ρ=some a/\match a with
 | .ok r []=>∀v H',Same H H'->Res K W H H' r v->Q v H'
 | .ok _ _=>False
 | .ex c=>∀H',Same H H'->E (cl c) Option.none H'
section
variable {i:Nat} (hp:PE X e (zjX X.K cl E fa i cs))
include hp
end
end
end L2.LW
set_option maxHeartbeats 4000000
set_option maxHeartbeats 4000000
set_option maxHeartbeats 4000000
namespace L2.LW
open PySem PySem.Spec PySem.W PySem.Calls PyProof.Rows
theorem all_cons{P:Nat->Prop}{a:Nat}{l:List Nat}(h:P a)(t: ∀c∈l,P c): ∀c∈a::l,P c:=fun c hc=>by
 rcases List.mem_cons.mp hc with rfl|hc
 ·exact h
 ·exact t c hc
end L2.LW
set_option maxHeartbeats 4000000
set_option maxRecDepth 100000
set_option maxHeartbeats 4000000
namespace L2.LW
open PySem PySem.Spec PySem.W PySem.Calls PyProof.Rows
noncomputable def zb4(n:Nat)(itm:Nat->Option V)(ok:Hp->Prop):It:=
 ⟨fun i H=>i<n/\ok H,fun i H v H'=>∃p x,H p=Option.none/\v= .ref p/\H'=zI H p (.tup [.int i,x])/\itm i=some x,fun i H=>i=n/\ok H⟩
section
variable {X:Cx} {pins:List (Addr×Obj)} {σ:St} {H:Hp} {s:Shared}
theorem zjY {e it : Addr} {h' : Heap} {i : Int} {tk : Tok} {k : Nat} {x : V} {u : Value} (I : Inv X pins σ H s) (fe : xJ X pins H e) (fi : xJ X pins H it)
    (kp : ∀ b o, b ≠ e → b ≠ it → s.heap.get? b = some o → h'.get? b = some o) (ht : h'.get? s.heap.objs.size = some { cls := .type "tuple", data := .seq #[.int i tk, u] }) (rx : RelV x u) :
    Inv X pins σ (zI H s.heap.objs.size (.tup [.int i, x])) { s with heap := h', toks := k } := by
  have low : ∀ b o, s.heap.get? b = some o → b ≠ s.heap.objs.size := fun b o z => Nat.ne_of_lt (Heap.lt_size z)
  have lowH : ∀ b o, H b = some o → b ≠ s.heap.objs.size := fun b o z => Nat.ne_of_lt (I.hok.lt z)
  have un : Un (wy X.stack) [e, it] H (zI H s.heap.objs.size (.tup [.int i, x])) s.heap h' :=
    ⟨fun b o z _ _ hx => kp b o (fun y => hx (by simp [y])) (fun y => hx (by simp [y])) z, fun b o z _ _ hx => ⟨o.slots, kp b o (fun y => hx (by simp [y])) (fun y => hx (by simp [y])) z⟩,
     fun b o z n _ => by rw [zJ (low b o z)]; exact n, fun b o z hx => ⟨o, kp b o (fun y => hx (by simp [y])) (fun y => hx (by simp [y])) z⟩,
     fun b xs z => by rw [zJ (lowH b _ z)]; exact z, fun b o u z => by rw [zJ (lowH b _ z)]; exact z, fun b ps z => ⟨#[], by rw [zJ (lowH b _ z)]; simpa using z⟩⟩
  have ok : HOk X.prog X.w (zI H s.heap.objs.size (.tup [.int i, x])) h' := fun a o z => by
    by_cases ha : a = s.heap.objs.size
    · subst ha
      rw [yL] at z
      cases z
      exact ⟨by show 2 ≤ sizeLine; decide, [.int i tk, u], .cons ⟨tk, rfl⟩ (.cons rx .nil), _, ht, rfl, _, rfl⟩
    · rw [zJ ha] at z
      have nt : ∀ b, (b = a ∨ H b = some (.own a)) → b ≠ e ∧ b ≠ it := fun b hb => by
        have hb' : H b ≠ Option.none := by
          rcases hb with rfl | hb
          · rw [z]; exact fun z => nomatch z
          · rw [hb]; exact fun z => nomatch z
        exact ⟨fun y => hb' (by rw [y]; exact fe.1), fun y => hb' (by rw [y]; exact fi.1)⟩
      exact (I.hok a o z).stay (fun b u hb q => kp b u (nt b hb).1 (nt b hb).2 q) (fun b q => by rw [zJ (lowH b _ q)]; exact q) fun b xs q => by rw [zJ (lowH b _ q)]; exact q
  refine I.call' (s' := { s with heap := h', toks := k }) rfl un ok I.bare fun b hb => ?_
  rcases List.mem_cons.mp hb with rfl | hb
  · exact ⟨fe.2.2.2.1, fe.2.1, fe.2.2.2.2.1, fe.2.2.2.2.2⟩
  · obtain rfl := List.mem_singleton.mp hb
    exact ⟨fi.2.2.2.1, fi.2.1, fi.2.2.2.2.1, fi.2.2.2.2.2⟩
theorem zjZ{e it:Addr}{h':Heap}(I:Inv X pins σ H s)(fi:xJ X pins H it)(kp: ∀b o,b≠it->s.heap.get? b=some o->h'.get? b=some o):Inv X pins σ H { s with heap:=h' }:=
 I.turned (t':=s.toks) (fun b o hb z=>kp b o hb z) fi.1 fi.2.1 fi.2.2.2.1 fi.2.2.2.2.1 fi.2.2.2.2.2
end
theorem zj0{P:Program}{w:World}{A:Around}{E:Value->Shared->Prop}{s:Shared}{elts:List Expr}{kt:Nat}{pt:Pos}{e it a:Addr}{i:Int}{item:Value}{Q:Unit->Shared->Prop}(he:IsEnumOut s.heap e it i item a)
  (hQ: ∀h',IsEnum h' e it i item->Heap.SameBut e s.heap h'->Q () { s with heap:=h' }):wpAny (model P w) A (letOwnedTupleGo (.Tuple elts kt pt) (.ref e) (.ref a)) Q E s:=wpAny_letOwnedTupleGo_enum he hQ
end L2.LW
set_option maxHeartbeats 4000000
set_option maxHeartbeats 4000000
namespace L2.LW
open PySem PySem.Spec PySem.W PySem.Calls PyProof.Rows
theorem kZ: ∀{k n:Nat} {l:List D} {d:D},(xn n l)[k]? =some d->∃x,l[k]? =some x/\d= .tup [.int ((n+k:Nat):Int),x]
 |_,_,[],_,h=>by simp[xn] at h
 |0,n,x::l,d,h=>by
  simp only[xn,List.getElem?_cons_zero,Option.some.injEq] at h
  exact⟨x,rfl,h.symm⟩
 |k+1,n,x::l,d,h=>by
  simp only[xn,List.getElem?_cons_succ] at h
  obtain⟨y,h1,h2⟩:=kZ h
  refine⟨y,by simpa using h1,?_⟩
  rw[h2]
  congr 3
  omega
theorem qa: ∀(n:Nat) (l:List D),(xn n l).length=l.length
 |_,[]=>rfl
 |n,_::l=>by simp[xn,qa (n+1) l]
noncomputable def YE(K:PySem.W.Frag)(J:It)(W:Addr->Prop)(H:Hp)(ds:List D):Prop:=
 ∀W' H',Ext W H W' H'->∀k:Nat,(k=ds.length->J.stop k H')/\∀d,ds[k]? =some d->J.go k H'/\∀x H'',J.yld k H' x H''->Same H' H''/\Rep K W' H'' d x
section
variable {X:Cx} {fn:Nat->List D->Option SV} {fa:Nat->List D->Option Ans} {fuel:Nat} {e:Expr} {ce:E} {pos p:Pos} {sts:List Stmt} {ss:Ss} {elts:List Expr} {kt:Nat} {pt pos':Pos}
theorem zj1{K:PySem.W.Frag}{W:Addr->Prop}{H:Hp}{xs:List V}{l:List D}{itm:Nat->Option V}{ok:Hp->Prop}{n:Nat}(hn:n=l.length)(hi: ∀i:Nat,itm i=xs[i]?)(hok: ∀W' H',Ext W H W' H'->ok H')(hr: ∀W' H',Ext W H W' H'->Reps K W' H' l xs):YE K (zb4 n itm ok) W H (xn 0 l):=by
 intro W' H' x k
 rw[qa]
 refine⟨fun z=>⟨by omega,hok W' H' x⟩,fun d hd=>?_⟩
 obtain⟨y,h1,rfl⟩:=kZ hd
 have lt:k<l.length:=(List.getElem?_eq_some_iff.mp h1).1
 refine⟨⟨by omega,hok W' H' x⟩,?_⟩
 rintro v H'' ⟨q,w,hq,rfl,rfl,hw⟩
 have sm:Same H' (zI H' q (.tup [.int k,w])):=yX hq _
 refine⟨sm,?_⟩
 obtain⟨w',g1,g2⟩:=(hr W' H' x).get h1
 rw[hi,g1] at hw
 cases hw
 rw[Nat.zero_add]
 exact .tup yL (.cons (.int _) (.cons (g2.ext (.same sm)) .nil))
end
end L2.LW
set_option maxHeartbeats 4000000
namespace L2.LW
open PySem PySem.Spec PySem.W PySem.Calls PyProof.Rows Builtin Builtin.ObjectAttr Builtin.Getset_descriptor
noncomputable def Lies(x D:Addr)(h:Heap):Prop:=∃o:Obj,h.get? x=some o/\o.cls= .ref D
theorem Lies.ty{x D:Addr}{M:Model}{h:Heap}(I:Lies x D h):Looks M h (typeOf (.ref x)) (.ref D):=by
 obtain⟨o,e1,e2⟩:=I
 exact e2▸(Looks.ld e1).andThen .now
section
variable {prog:Program} {w:World} {A:Around} {E:Value->Shared->Prop} {s:Shared} {K:PySem.W.Frag} {x C D:Addr}
structure Asks (K:PySem.W.Frag)(D:Addr):Prop where
 g:findIn K (.ref D) "__getattribute__"=some (some (.builtin "BaseException.__getattribute__"))
 h:findIn K (.ref D) "__getattr__"=some Option.none
 c:(clsIn K D).isSome=true
 a:findIn K (.ref D) "__class__"=some (some (.builtin "object.__class__"))
 n:specialIn K (.builtin "object.__class__") "__get__"=some (some (.builtin "getset_descriptor.__get__"))
 t:takesIn K (.builtin "object.__class__")=some true
 m:mroIn K D (.type "object")=some true
 e:mroIn K D (.type "BaseException")=some true
theorem Asks.find(Z:Asks K D){M:Model}{h:Heap}(X:K.In h):Looks M h (Builtin.ObjectAttr.find (.ref x) (.ref D) "__class__") (.bind (.builtin "getset_descriptor.__get__") (.builtin "object.__class__")):=
 (looks_findIn X Z.a).andThen ((looks_specialIn X Z.n).andThen ((show Looks M h (dataDescriptor? (some (.builtin "object.__class__")) (some (.builtin "getset_descriptor.__get__"))) (some _) from (looks_takesIn X Z.t).andThen .now).andThen (Looks.tag .now)))
theorem zj2:splitId "BaseException.__getattribute__"=some ("BaseException","__getattribute__"):=by decide+kernel
theorem zb5:builtinKind "BaseException.__getattribute__"=some .slot:=by decide+kernel
theorem zj3:plainId "BaseException.__getattribute__"=true:=by decide+kernel
theorem zj4:entryFor table "BaseException.__getattribute__"=some Builtin.«object.__getattribute__»:=
 entryFor_alias (id':="object.__getattribute__") (by kernel_rfl) (by first|rfl|decide+kernel) (by decide+kernel) (by kernel_rfl)
theorem zj5(a b:Value):argsOk "BaseException.__getattribute__" ⟨[a,b],[]⟩:=by unfold argsOk;kernel_rfl
theorem zj6(u:Value):bindSpecial (.builtin "BaseException.__getattribute__") u=pure (.builtin "BaseException.__getattribute__",[u]):=by
 have n1:withoutEnding? "BaseException.__getattribute__" "#opaque"=Option.none:=by decide+kernel
 have n2:withoutEnding? "BaseException.__getattribute__" "#data"=Option.none:=by decide+kernel
 simp only[bindSpecial,typeOf,builtinType,n1,n2,zb5]
 rfl
theorem Asks.check(Z:Asks K D){M:Model}{zT:List Value}{Q:Unit->Shared->Prop}(X:K.In s.heap)(I:Lies x D s.heap)(ok:argsOk "BaseException.__getattribute__" ⟨.ref x::zT,[]⟩)(q:Q () s):
  wpAny M A (checkBuiltinCall "BaseException.__getattribute__" ⟨.ref x::zT,[]⟩) Q E s:=by
 obtain⟨hp,gn,dw,tt,os⟩:=s
 have T0:Looks M hp (isInstance (.ref x) (.type "BaseException")) true:=(Lies.ty (M:=M) I).andThen (looks_mroIn X Z.e)
 simp only[checkBuiltinCall,zb5,zj2]
 refine wpAny_bind (T0.at ?_)
 simp only[Bool.not_true,Bool.false_eq_true,if_false]
 cases hs:Manifest.signature? "BaseException.__getattribute__" with
 |none=>exact wpAny_pure q
 |some sg=>
  simp only[argsOk,hs] at ok
  have ok2:Bind.checkArgs "BaseException.__getattribute__" sg ⟨.ref x::zT,[]⟩=pure ():=ok
  show wpAny M A (Bind.checkArgs _ sg _) Q E _
  rw[ok2]
  exact wpAny_pure q
theorem Asks.got(Z:Asks K D){tp:Value}{R:Result->Shared->Prop}(X:K.In s.heap)(I:Lies x D s.heap)(q:R (.ok (.ret (.ref D))) s):
  codeAny (model prog w) A (.call (.builtin "getset_descriptor.__get__") ⟨[.builtin "object.__class__",.ref x,tp],[]⟩) R s:=by
 obtain⟨hp,gn,dw,tt,os⟩:=s
 have T0:Looks (model prog w) hp (typeOf (.ref x)) (.ref D):=Lies.ty I
 have T1:=looks_mroIn (M:=model prog w) X Z.m
 refine codeAny_call_builtin KF.slot_gs.plain KF.entry_gs (KF.slot_gs.check _ _ _ _ _ _ _ _ KF.type_class (KF.args_gs _ _ _) ?_)
 unfold Builtin.«getset_descriptor.__get__» descrGet
 rw[dga_obj]
 refine wpAny_bind (wpAny_pure ?_)
 unfold descrGetter descrCheckInstance descrNameAndClass isInstance
 simp only[KF.owner_class]
 repeat lk
 refine⟨Code.quiet_builtin _ (by decide+kernel),codeAny_builtin KF.entry_class ?_⟩
 unfold Builtin.«object.__class__» shownTypeOf
 repeat lk
 exact q
theorem Asks.entry(Z:Asks K D){tk:Tok}{Q:Fin->Shared->Prop}(X:K.In s.heap)(I:Lies x D s.heap)(q:Q (.done (.ret (.ref D))) s):
  wpAny (model prog w) A (Builtin.«object.__getattribute__» ⟨[.ref x,.str "__class__" tk],[]⟩) Q E s:=by
 obtain⟨hp,gn,dw,tt,os⟩:=s
 have T0:Looks (model prog w) hp (typeOf (.ref x)) (.ref D):=Lies.ty I
 have T1:=Z.find (x:=x) (M:=model prog w) X
 refine wpAny_bind (wpAny_pure (wpAny_bind (wpAny_pure (wpAny_bind (T0.at (wpAny_bind (T1.at ?_)))))))
 show wpAny _ _ (holding [.builtin "object.__class__"] (call (.builtin "getset_descriptor.__get__") [.builtin "object.__class__",.ref x,.ref D]) >>= ret) _ _ _
 exact wpAny_bind (wpAny_holding (wpAny_call (Z.got X I (wpAny_pure q))))
theorem Asks.attr(Z:Asks K D){Q:Option Value->Shared->Prop}(X:K.In s.heap)(I:Lies x D s.heap)(q:Q (some (.ref D)) { s with toks:=s.toks+1 }):wpAny (model prog w) A (getAttr? (.ref x) "__class__") Q E s:=by
 obtain⟨hp,gn,dw,tt,os⟩:=s
 have T0:Looks (model prog w) hp (typeOf (.ref x)) (.ref D):=Lies.ty I
 have T1:=looks_findIn (M:=model prog w) X Z.g
 have T2:=looks_findIn (M:=model prog w) X Z.h
 unfold getAttr? getAttrBy? getAttrBy
 refine wpAny_bind (wpAny_mkText (wpAny_bind (wpAny_attempt (wpAny_holding (wpAny_bind (T0.at (wpAny_bind (T1.at ?_))))))))
 show wpAny _ _ (getAttrByItsOwn _ _ _ _ _ _) _ _ _
 unfold getAttrByItsOwn hookBefore
 refine wpAny_bind (T2.at ?_)
 refine wpAny_bind (wpAny_attempt (wpAny_holding ?_))
 show wpAny _ _ (bindSpecial (.builtin "BaseException.__getattribute__") (.ref x) >>= _) _ _ _
 refine wpAny_bind (wpAny_of_eq (zj6 _) ?_)
 refine wpAny_call (codeAny_call_builtin zj3 zj4 (Z.check (s:=⟨hp,gn,dw,tt+1,os⟩) X I (zj5 _ _) (Z.entry (s:=⟨hp,gn,dw,tt+1,os⟩) X I ?_)))
 exact wpAny_mono (handed_on (Q:=fun v s'=>v= .ref D/\s'=⟨hp,gn,dw,tt+1,os⟩) rfl ⟨rfl,rfl⟩) (fun v s' z=>by obtain⟨rfl,rfl⟩:=z;exact wpAny_pure q) fun _ _ z=>z
theorem zb6{M:Model}{h:Heap}{B:Addr}(X:K.In h)(e:(clsIn K B).isSome=true):Looks M h (isType (.ref B)) true:=by
 unfold clsIn at e
 split at e
 case h_2=>cases e
 rename_i ho
 intro A1 Q1 E1 s1 k q
 unfold isType loadHead
 exact wpAny_bind (wpAny_loadPart (k _ _ (X _ _ ho)) (wpAny_pure q))
theorem Asks.nested(Z:Asks K D){c:Value}{dep:Int}{tk:Tok}{Q:Fin->Shared->Prop}(X:K.In s.heap)(I:Lies x D s.heap)(ty:Looks (model prog w) s.heap (typeOf c) (.type "type"))(it:Looks (model prog w) s.heap (isType c) true)
  (ne:(Value.ref D==c)=false) (sb:Looks (model prog w) s.heap (isSubtype (.ref D) c) false) (q:Q (.done (.ret (.bool false))) { s with toks:=s.toks+1 }):
  wpAny (model prog w) A (Builtin.«isinstance.nested» ⟨[.ref x,c,.int dep tk],[]⟩) Q E s:=by
 obtain⟨hp,gn,dw,tt,os⟩:=s
 have T0:Looks (model prog w) hp (typeOf (.ref x)) (.ref D):=Lies.ty I
 have TD:Looks (model prog w) hp (isType (.ref D)) true:=zb6 X Z.c
 have TI:Looks (model prog w) hp (isInstance (.ref x) c) false:=T0.andThen sb
 unfold Builtin.«isinstance.nested»
 refine wpAny_bind (T0.at ?_)
 rw[if_neg (by rw[ne];decide)]
 refine wpAny_bind (ty.at ?_)
 rw[if_pos (by decide)]
 k_delta "plainIsInstance"
 refine wpAny_bind (wpAny_bind (it.at ?_))
 simp only[Bool.not_true,Bool.false_eq_true,if_false]
 refine wpAny_bind (TI.at ?_)
 simp only[Bool.false_eq_true,if_false]
 refine wpAny_bind (Z.attr X I ?_)
 refine wpAny_bind (TD.at ?_)
 simp only[Bool.not_true,Bool.false_eq_true,if_false]
 refine wpAny_bind (wpAny_rule ?_)
 refine sb.at ?_
 first
  |exact wpAny_pure q
  |exact wpAny_pure (wpAny_pure q)
  |exact wpAny_bind (wpAny_pure (wpAny_pure q))
theorem Asks.not(Z:Asks K D){Q:Value->Shared->Prop}(X:K.In s.heap)(I:Lies x D s.heap)(e:kin_not K D C=true)(q:Q (.bool false) { s with toks:=s.toks+1 }):wpAny (model prog w) A (call (.builtin "isinstance") [.ref x,.ref C]) Q E s:=by
 unfold kin_not at e
 simp only[Bool.and_eq_true,decide_eq_true_eq,beq_iff_eq] at e
 obtain⟨⟨⟨e0,e1⟩,e2⟩,e3⟩:=e
 refine call_isinstance (S:=fun _ R s=>(K.In s.heap/\Lies x D s.heap)/\R (.ok (.ret (.bool false))) { s with toks:=s.toks+1 }) (fun _ _ _ _ _ hs=>isinstance_outer (Z.nested hs.1.1 hs.1.2 (looks_typeIn hs.1.1 e2) (zb6 hs.1.1 e1) ?_ (looks_subIn hs.1.1 e3) hs.2) (by intro z;cases z)) ⟨⟨X,I⟩,q⟩
 exact Bool.eq_false_iff.mpr fun z=>e0 (Value.ref.inj (beq_iff_eq.mp z))
end
end L2.LW
set_option maxHeartbeats 4000000
namespace L2.LW
open PySem PySem.Spec PySem.W PySem.Calls PyProof.Rows
noncomputable def zj7(K:PySem.W.Frag)(D:Addr):Bool:=findIn K (.ref D) "__getattribute__"==some (some (.builtin "BaseException.__getattribute__"))&&findIn K (.ref D) "__getattr__"==some Option.none&&(clsIn K D).isSome&&findIn K (.ref D) "__class__"==some (some (.builtin "object.__class__"))&&specialIn K (.builtin "object.__class__") "__get__"==some (some (.builtin "getset_descriptor.__get__"))&&
 takesIn K (.builtin "object.__class__")==some true&&mroIn K D (.type "object")==some true&&mroIn K D (.type "BaseException")==some true
noncomputable def apart(K:PySem.W.Frag)(CL:Nat->Addr)(cs:List Nat):Bool:=cs.all fun c=>zj7 K (CL c)&&cs.all fun d=>c==d||kin_not K (CL c) (CL d)
end L2.LW
set_option maxHeartbeats 4000000
namespace L2.LW
open PySem PySem.Spec PySem.W PySem.Calls PyProof.Rows
theorem zj8(a:Nat): ∀b:Nat,(a ^^^ b)+(a&&& b)=a|||b:=by
 induction a using Nat.strongRecOn with
 |ind a ih=>
  intro b
  by_cases h:a=0
  ·subst h;simp
  ·have h1:=ih (a/2) (by omega) (b/2)
   have d1:=Nat.xor_div_two (a:=a) (b:=b)
   have d2:=Nat.and_div_two (a:=a) (b:=b)
   have d3:=Nat.or_div_two (a:=a) (b:=b)
   have m1:=Nat.xor_mod_two_eq_one (a:=a) (b:=b)
   have m2:(a&&& b)%2=1↔a%2=1/\b%2=1:=Nat.and_mod_two_eq_one
   have m3:(a|||b)%2=1↔a%2=1\/b%2=1:=Nat.or_mod_two_eq_one
   rw[<-d1,<-d2,<-d3] at h1
   omega
theorem zb7{a b:Int}(ha:0<=a)(hb:0<=b):Builtin.bitAnd a b=((a.toNat&&& b.toNat:Nat):Int):=by
 unfold Builtin.bitAnd
 rw[decide_eq_true ha,decide_eq_true hb]
theorem zb8{a b:Int}(ha:0<=a)(hb:0<=b):Builtin.bitOr a b=((a.toNat|||b.toNat:Nat):Int):=by
 unfold Builtin.bitOr Builtin.bitAnd
 have e1: ¬(0<=Builtin.bitNot a):=by unfold Builtin.bitNot;omega
 have e2: ¬(0<=Builtin.bitNot b):=by unfold Builtin.bitNot;omega
 rw[decide_eq_false e1,decide_eq_false e2]
 have n1:Builtin.bitNot (Builtin.bitNot a)=a:=by unfold Builtin.bitNot;omega
 have n2:Builtin.bitNot (Builtin.bitNot b)=b:=by unfold Builtin.bitNot;omega
 show Builtin.bitNot (Builtin.bitNot (((Builtin.bitNot (Builtin.bitNot a)).toNat|||(Builtin.bitNot (Builtin.bitNot b)).toNat:Nat):Int))=_
 rw[n1,n2]
 unfold Builtin.bitNot
 omega
theorem zj9{a b:Int}(ha:0<=a)(hb:0<=b):Builtin.bitXor a b=((a.toNat ^^^ b.toNat:Nat):Int):=by
 unfold Builtin.bitXor
 rw[zb8 ha hb,zb7 ha hb,<-zj8 a.toNat b.toNat]
 omega
section
variable {X:Cx}
theorem Xe:OpR X (binaryOp .BitAnd) (yR X.K (zh .band)):=by
 rintro pins s σ H x y v u Q I rx ry ⟨W,ds,r,wf,hs,hf,q⟩
 obtain⟨d,e,rfl,h1,h2⟩:=xP hs
 replace hf:Yy [d,e]=some r:=hf
 unfold Yy at hf
 split at hf
 case h_2=>cases hf
 rename_i a b z
 cases z
 split at hf
 case isFalse=>cases hf
 rename_i hc
 cases hf
 cases h1.int;cases h2.int
 exact zgB pins s σ H _ _ v u Q I rx ry ⟨_,_,rfl,rfl,by show Q (.int (Builtin.bitAnd _ _)) H;rw[zb7 hc.1 hc.2];exact q _ H (.refl H) (.val (.int _))⟩
theorem qb:OpR X (binaryOp .BitOr) (yR X.K (zh .bor)):=by
 rintro pins s σ H x y v u Q I rx ry ⟨W,ds,r,wf,hs,hf,q⟩
 obtain⟨d,e,rfl,h1,h2⟩:=xP hs
 replace hf:Yz [d,e]=some r:=hf
 unfold Yz at hf
 split at hf
 case h_2=>cases hf
 rename_i a b z
 cases z
 split at hf
 case isFalse=>cases hf
 rename_i hc
 cases hf
 cases h1.int;cases h2.int
 exact zgC pins s σ H _ _ v u Q I rx ry ⟨_,_,rfl,rfl,by show Q (.int (Builtin.bitOr _ _)) H;rw[zb8 hc.1 hc.2];exact q _ H (.refl H) (.val (.int _))⟩
theorem zka:OpR X (binaryOp .BitXor) (yR X.K (zh .bxor)):=by
 rintro pins s σ H x y v u Q I rx ry ⟨W,ds,r,wf,hs,hf,q⟩
 obtain⟨d,e,rfl,h1,h2⟩:=xP hs
 replace hf:YA [d,e]=some r:=hf
 unfold YA at hf
 split at hf
 case h_2=>cases hf
 rename_i a b z
 cases z
 split at hf
 case isFalse=>cases hf
 rename_i hc
 cases hf
 cases h1.int;cases h2.int
 exact zgD pins s σ H _ _ v u Q I rx ry ⟨_,_,rfl,rfl,by show Q (.int (Builtin.bitXor _ _)) H;rw[zj9 hc.1 hc.2];exact q _ H (.refl H) (.val (.int _))⟩
theorem vZ:OpR X (binaryOp .LShift) (yR X.K (zh .shl)):=by
 rintro pins s σ H x y v u Q I rx ry ⟨W,ds,r,wf,hs,hf,q⟩
 obtain⟨d,e,rfl,h1,h2⟩:=xP hs
 replace hf:Yx [d,e]=some r:=hf
 unfold Yx at hf
 split at hf
 case h_2=>cases hf
 rename_i a b z
 cases z
 split at hf
 case isFalse=>cases hf
 rename_i hc
 cases hf
 cases h1.int;cases h2.int
 exact zgA pins s σ H _ _ v u Q I rx ry ⟨_,_,rfl,rfl,⟨by omega,by omega,by omega⟩,q _ H (.refl H) (.val (.int _))⟩
theorem zkb:MtR X "int.bit_length" (fun x xs H Q=>∃i,x= .int i/\xs=[]/\Q (.int (Builtin.Int.intBits i:Nat)) H):=by
 rintro pins s σ H x xs v us Q I rx rs ⟨i,rfl,rfl,q⟩
 obtain⟨t,rfl⟩:=rx
 cases rs
 refine wpAny_call_entry PySem.F.slot_int_bit_length (typeIs_int s i t) PySem.F.entry_int_bit_length ?_ (PySem.F.args_int_bit_length_1 _)
 obtain⟨hp,g,d,tk,os⟩:=s
 wp_walk
 exact⟨_,rfl,.int _,H,I.tok _,⟨_,rfl⟩,q⟩
end
section
variable {X:Cx} {fn:Nat->List D->Option SV} {o e f a:Expr} {co ce cf ca:E} {apos cpos:Pos}
theorem zkc(ha:IE X fn a ca)(hbase:attributeBase a "bit_length" X.env (eval a X.env)=eval a X.env:=by rfl)(hline:(apos.endLine==cpos.line)=true:=by rfl):
  IE X fn (.Call (.Attribute a "bit_length" apos) [] [] cpos) (.prim .blen (.cons ca .nil)):=
 .mk <| (zaw PySem.F.plainAttrs_int PySem.F.slot_int_bit_length PySem.F.type_int_bit_length zkb ha.v hbase hline).imp fun σ H Q zz3=>by
  obtain⟨W,ρ,r,hR,he,q⟩:=zz3
  simp only[wD,xN,xO,jo1,jo2] at he
  obtain⟨rs,⟨r1,e1,rs',e3,rfl⟩,e4⟩:=he
  cases e3
  refine⟨W,ρ,r1,hR,e1,fun v1 H1 s1 f1=>?_⟩
  have hs:=f1.sees
  have e5:YB [zN r1]=some r:=e4
  unfold YB at e5
  split at e5
  case h_2=>cases e5
  rename_i i z
  have z1:zN r1= .int i:=by simpa using z
  rw[z1] at hs
  cases hs.int
  split at e5
  case isFalse=>cases e5
  rename_i h0
  cases e5
  refine⟨rfl,i,rfl,rfl,?_⟩
  have e6:Builtin.Int.intBits i=wO i.toNat:=by
   unfold Builtin.Int.intBits wO
   have n:i.natAbs=i.toNat:=by omega
   rw[n]
   by_cases c:i=0
   ·subst c;rfl
   ·rw[if_neg (by simpa using c),if_neg (by omega)]
  rw[e6]
  exact q _ H1 s1 (.val (.int _))
theorem zkd{H H':Hp}{a:Addr}{u:HO}(s:Same H H')(h:Rd H a u):Rd H' a u:=by
 rcases h with h|⟨o,h⟩
 ·exact .inl (s _ _ h)
 ·exact .inr ⟨o,s _ _ h⟩
theorem zb9(hu:X.A.units+64<cLine)(ha:IE X fn o co)(hb:IE X fn e ce)(hc:IE X fn f cf)(m:M2 X o "get" apos e f cpos):
  IE X fn (.Call (.Attribute o "get" apos) [e,f] [] cpos) (.prim .dget (.cons co (.cons ce (.cons cf .nil)))):=
 .mk <| (zhN (by omega) ha.v hb.v hc.v m).imp fun σ H Q zz3=>by
  obtain⟨W,ρ,r,hR,he,q⟩:=zz3
  simp only[wD,xN,xO,jo1,jo2] at he
  obtain⟨rs,⟨r1,e1,rs1,⟨r2,e2,rs2,⟨r3,e3,rs3,e4,rfl⟩,rfl⟩,rfl⟩,e5⟩:=he
  cases e4
  have e6:YC [zN r1,zN r2,zN r3]=some r:=e5
  unfold YC at e6
  split at e6
  case h_2=>cases e6
  rename_i ks vs k i z
  have z1:zN r1= .dct false ks vs:=by simp at z;exact z.1
  have z2:zN r2= .int k:=by simp at z;exact z.2.1
  have z3:zN r3= .int i:=by simp at z;exact z.2.2
  refine⟨W,ρ,r1,hR,e1,fun v1 H1 s1 f1=>?_⟩
  have g1:=f1.sees
  rw[z1] at g1
  obtain⟨b,ns,ys,rfl,rfl,hH,hl,rp⟩:=g1.dK
  refine⟨b,rfl,.inl ⟨_,hH⟩,W,ρ,r2,hR.same s1,e2,fun v2 H2 s2 f2=>⟨W,ρ,r3,hR.same (s1.trans s2),e3,fun v3 H3 s3 f3=>?_⟩⟩
  have g2:=f2.sees
  rw[z2] at g2
  cases g2.int
  have g3:=f3.sees
  rw[z3] at g3
  cases g3.int
  refine⟨yZ (yy ns ys) (.inl k),.inl ⟨_,.inl k,zkd (s2.trans s3) hH,rfl,rfl⟩,?_⟩
  have go: ∀j:Int,some (SV.val (.int j))=some r->Q (.int j) H3:=fun j z=>by
   cases z
   exact q _ H3 ((s1.trans s2).trans s3) (.val (.int _))
  split at e6
  ·rename_i v hv
   obtain⟨y,ey,ry⟩:=za4 hl rp hv
   cases ry
   rw[ey]
   exact go v e6
  ·rename_i hv
   have:yZ (yy ns ys) (.inl k)=none:=by
    rw[VP hl]
    unfold dget at hv
    cases hk:yU (ns.map D.int) (.int k) with
    |none=>rfl
    |some j=>
     rw[hk] at hv
     have hv:vs[j]? =none:=hv
     show ys[j]? =none
     rw[List.getElem?_eq_none_iff] at hv⊢
     rw[<-rp.length];exact hv
   rw[this]
   exact go i e6
  ·cases e6
end
end L2.LW
set_option maxHeartbeats 4000000
namespace L2
open PySem PySem.Spec PyProof.Rows
noncomputable def Xf(K:PySem.W.Frag)(a:Addr)(xs:List V):It:=
 ⟨fun i H=>SqL K H a xs/\i<xs.length,fun i H x H'=>H'=H/\xs[xs.length-1-i]? =some x,fun i H=>SqL K H a xs/\i=xs.length⟩
theorem zke{P:Program}{w:World}{K:PySem.W.Frag}{tg:Expr}(a it:Addr)(xs:List V):Turn P w K tg (Xf K a xs) [it] it (fun i h=>h.IsRevIter it a ((xs.length:Int)-1-(i:Int))) where
 mem:=by simp
 obj:=fun i h st b hb=>by
  have e:b=it:=by simpa using hb
  subst e
  obtain⟨o,e,c,d⟩:=st
  exact⟨o,e,fun v z=>by rw[d] at z;cases z⟩
 keep:=fun i h h' st k=>st.at fun o e=>k it (by simp) o e
 item:=by
  intro X hP hw hK hc i pins s σ H E I hf st hg
  subst hP hw hK
  obtain⟨hq,hi⟩:=hg
  obtain⟨its,rv,p,hz⟩:=I.list hq
  have hx:xs[xs.length-1-i]? =some (xs[xs.length-1-i]'(by omega)):=List.getElem?_eq_getElem _
  obtain⟨u,hu,ru⟩:=rv.get hx
  obtain⟨f0,f1,f2,f3,f4,f5⟩:=hf it (by simp)
  have e1:(xs.length:Int)-1-(i:Int)=((xs.length-1-i:Nat):Int):=by omega
  rw[e1] at st
  refine wpAny_pyNext_rev_item st p.isList (x:=u) (by simpa using hu) fun h' st' sb=>?_
  have I1:Inv X pins σ H { s with heap:=h' }:=I.turned (t':=s.toks) (fun b o hb e=>(sb.2 b hb).trans e) f0 f1 f3 f4 f5
  have e2:((xs.length-1-i:Nat):Int)-1=(xs.length:Int)-1-((i+1:Nat):Int):=by omega
  rw[e2] at st'
  obtain⟨o,e,c,d⟩:=id st'
  exact⟨u,rfl,Yc (s:={ s with heap:=h' }) e c d (by decide) ⟨_,H,I1,ru,⟨rfl,hx⟩,st',fun b hb=>(hf b hb).1⟩⟩
 done:=by
  intro X hP hw hK hc i pins s σ H E I hf st hg
  subst hP hw hK
  obtain⟨hq,hi⟩:=hg
  obtain⟨f0,f1,f2,f3,f4,f5⟩:=hf it (by simp)
  have e1:(xs.length:Int)-1-(i:Int)= -1:=by omega
  rw[e1] at st
  exact wpAny_pyNext_rev_end (I.ok.hd hc) st fun h' eb=>⟨rfl,I.turned (t':=s.toks) (fun b o hb e=>eb b o hb e) f0 f1 f3 f4 f5⟩
 self:=fun _ _ _ _ _ st h=>wpAny_pyIter_revIter st h
section
variable {X:Cx} {tg:Expr}
noncomputable def zkf(K:PySem.W.Frag)(ta:TA):TI:=fun σ H R=>ta σ H fun vs H1=>∃a xs,vs=[.ref a]/\SqL K H1 a xs/\R (Xf K a xs) H1
theorem zkg{e:Expr}{ta:TA}{p pos:Pos}(hg:Gl X "reversed")(hm:X.mg "reversed"=none)(ha:PA X [e] ta)(hs:starEach [e] X.env=[(false,eval e X.env)]:=by rfl):PI X tg (.Call (.Name "reversed" p) [e] [] pos) (zkf X.K ta):=by
 intro pins s σ H R I h
 refine Call_ (jl I hg hm boot_reversed (PyProof.Rows.callWith_type1 (zB (ha pos pins s σ H _ I h) fun us s1 ⟨vs,H1,I1,r1,q1⟩=>?_) hs rfl))
 obtain⟨a,xs,e,hq,q⟩:=q1
 subst e
 cases r1 with
 |cons r rr=>
  cases rr
  cases r
  obtain⟨its,rv,pl,hz⟩:=I1.list hq
  refine call_reversed_list pl.isList ?_
  have hl:=rv.length
  have st:(s1.heap.push (revObj a ((its.toArray.size:Int)-1))).IsRevIter s1.heap.objs.size a ((xs.length:Int)-1-((0:Nat):Int)):=⟨_,Heap.get?_push_size _ rfl,rfl,by
   show Data.fields #[.ref a,rawInt ((its.toArray.size:Int)-1)]=_
   rw[List.size_toArray,<-hl]
   simp⟩
  refine wpAny_pyIter_revIter (s:={ s1 with heap:=_ }) st ?_
  refine⟨s1.heap.objs.size,[s1.heap.objs.size],_,_,H1,rfl,I1.kept (t':=s1.toks) fun b o e=>Heap.get?_push_of_some _ e,zke a _ xs,st,fun b hb=>?_,q⟩
  have e:b=s1.heap.objs.size:=by simpa using hb
  subst e
  exact I1.fpOk (Nat.le_refl _) (I1.hok.fresh (Nat.le_refl _))
end
end L2
namespace L2.LW
open PySem PySem.Spec PySem.W PySem.Calls PyProof.Rows
theorem zca{K:PySem.W.Frag}{a:Addr}{xs:List V}{ds:List D}{H':Hp}{W':Addr->Prop}(hq:SqL K H' a xs)(rp:Reps K W' H' ds xs)(k:Nat):
  (k=ds.reverse.length->(Xf K a xs).stop k H')/\∀d,ds.reverse[k]? =some d->(Xf K a xs).go k H'/\∀x H'',(Xf K a xs).yld k H' x H''->H''=H'/\Rep K W' H' d x:=by
 have ln:=rp.length
 rw[List.length_reverse]
 refine⟨fun e=>⟨hq,by omega⟩,fun d e=>?_⟩
 obtain⟨hk,e2⟩:=List.getElem?_eq_some_iff.mp e
 rw[List.length_reverse] at hk
 rw[List.getElem_reverse] at e2
 have e3:ds[xs.length-1-k]? =some d:=by
  rw[<-ln,<-e2]
  exact List.getElem?_eq_getElem _
 obtain⟨v,e1,rv⟩:=rp.get e3
 refine⟨⟨hq,by omega⟩,fun x H'' z=>?_⟩
 obtain⟨z1,z2⟩:=z
 rw[e1] at z2
 cases z2
 exact⟨z1,rv⟩
section
variable {X:Cx} {fn:Nat->List D->Option SV} {a tg:Expr} {ca:E} {pos p:Pos}
theorem zkh(hg:Gl X "reversed")(hm:X.mg "reversed"=Option.none)(ha:IA X fn [a] (.cons ca .nil))(hs:starEach [a] X.env=(false,eval a X.env)::starEach [] X.env):Src X fn tg (.Call (.Name "reversed" p) [a] [] pos) false (.cons ca (.cons .non .nil)):=
 .mk <| (zkg hg hm ha.h hs).imp fun σ H R0 zz3=>by
  obtain⟨W,ρ,rs,ds,hR,h1,h2,q⟩:=zz3
  simp only[xN,xO,jo1,jo2] at h1
  obtain⟨r,e1,rs',⟨r2,e2,rs2,e3,rfl⟩,rfl⟩:=h1
  cases e3
  have e2:some (SV.val D.non)=some r2:=e2
  cases e2
  refine⟨W,ρ,[r],hR,by simp only[xN,xO,e1,Option.bind_some,Option.map_some],fun vs H1 s1 f=>?_⟩
  obtain⟨v,rfl,g⟩: ∃v,vs=[v]/\Frz X.K W H1 r v:=by
   cases f with
   |cons f t=>cases t;exact⟨_,rfl,f⟩
  clear f
  cases g with
  |val g=>
   cases g with
   |lst h rp=>
    simp only[yl] at h2
    cases h2
    exact⟨_,_,rfl,Zt h (Ext.refl W H1),q _ H1 s1 (fun W' H' s w k=>zca (Zt h (.sameW s w)) (rp.ext (.sameW s w)) k) fun _ W' H' x k=>zca (Zt h x) (rp.ext x) k⟩
   |_=>simp[yl] at h2
  |_=>simp[yl] at h2
end
end L2.LW
set_option maxHeartbeats 4000000
namespace L2
open PySem PySem.Spec PyProof.Rows
noncomputable def Xg(a:Addr)(o:Obj)(kvs:List (zy×V)):It:=
 ⟨fun i H=>H a=some (.frz o (.dK kvs))/\i<kvs.length,fun i H x H'=>H'=H/\∃kv,kvs[i]? =some kv/\x=kV kv.1,fun i H=>H a=some (.frz o (.dK kvs))/\i=kvs.length⟩
theorem qc{X:Cx}{pins:List (Addr×Obj)}{σ:St}{H:Hp}{s:Shared}{a:Addr}{o:Obj}{kvs:List (zy×V)}{es:Array DictEntry}{ep:Nat}(I:Inv X pins σ H s)(e:H a=some (.frz o (.dK kvs)))(hd:o.data= .dict es ep):
  ∃vs,KV kvs vs/\s.heap.DictAt (zW X.prog X.w) a vs ep/\(a==sysModules)=false:=by
 obtain⟨h1,h2,h3,vs,h4,o',es',ep',g1,g2,g3,g4⟩:=(show ObjOk X.prog X.w H s.heap a (.frz o (.dK kvs)) from I.hok a _ e)
 rw[h1] at g1
 cases g1
 rw[hd] at g3
 cases g3
 exact⟨vs,h4,⟨o,es,h1,g2,hd,g4⟩,h3⟩
theorem zcb: ∀{kvs:List (zy×V)} {vs:List (zy×Value)},Paired (fun (p:zy×V) (q:zy×Value)=>p.1=q.1/\RelV p.2 q.2) kvs vs->∀{i:Nat} {kv:zy×V},kvs[i]? =some kv->∃x,vs[i]? =some (kv.1,x)
 |_,_,.nil,i,kv,e=>by simp at e
 |_,_,.cons (b:=b) h t,0,kv,e=>by
  simp at e
  subst e
  exact⟨b.2,by rw[h.1];rfl⟩
 |_,_,.cons h t,i+1,kv,e=>zcb t (by simpa using e)
theorem zki{P:Program}{w:World}{K:PySem.W.Frag}{tg:Expr}(a it:Addr)(o:Obj)(kvs:List (zy×V)){es:Array DictEntry}{ep:Nat}(hd:o.data= .dict es ep):Turn P w K tg (Xg a o kvs) [it] it (fun i h=>h.IsKeyIter it a i kvs.length ep) where
 mem:=by simp
 obj:=fun i h st b hb=>by
  have e:b=it:=by simpa using hb
  subst e
  obtain⟨o,e,c,d⟩:=st
  exact⟨o,e,fun v z=>by rw[d] at z;cases z⟩
 keep:=fun i h h' st k=>st.at fun o e=>k it (by simp) o e
 item:=by
  intro X hP hw hK hc i pins s σ H E I hf st hg
  subst hP hw hK
  obtain⟨hq,hi⟩:=hg
  obtain⟨vs,kv,da,_⟩:=qc I hq hd
  have hx:kvs[i]? =some kvs[i]:=List.getElem?_eq_getElem hi
  obtain⟨x,hx2⟩:=zcb kv hx
  obtain⟨f0,f1,f2,f3,f4,f5⟩:=hf it (by simp)
  have hl:kvs.length=vs.length:=kv.length
  rw[hl] at st
  refine wpAny_pyNext_dict_item st da hx2 fun key h' hkey st' sb=>?_
  rw[<-hl] at st'
  have I1:Inv X pins σ H { s with heap:=h' }:=I.turned (t':=s.toks) (fun b o hb e=>(sb.2 b hb).trans e) f0 f1 f3 f4 f5
  obtain⟨o,e,c,d⟩:=id st'
  refine⟨key,rfl,Yc (s:={ s with heap:=h' }) e c d (by decide) ⟨kV kvs[i].1,H,I1,?_,⟨rfl,_,hx,rfl⟩,st',fun b hb=>(hf b hb).1⟩⟩
  rcases vd hkey with ⟨j,t,e1,e2⟩|⟨j,t,e1,e2⟩
  ·rw[e1,e2];exact⟨t,rfl⟩
  ·rw[e1,e2];exact⟨t,rfl⟩
 done:=by
  intro X hP hw hK hc i pins s σ H E I hf st hg
  subst hP hw hK
  obtain⟨hq,hi⟩:=hg
  obtain⟨vs,kv,da,_⟩:=qc I hq hd
  have hl:kvs.length=vs.length:=kv.length
  obtain⟨f0,f1,f2,f3,f4,f5⟩:=hf it (by simp)
  rw[hl] at st
  exact wpAny_pyNext_dict_end (I.ok.hd hc) st da (by rw[hi,hl];simp) fun h' eb=>⟨rfl,I.turned (t':=s.toks) (fun b o hb e=>eb b o hb e) f0 f1 f3 f4 f5⟩
 self:=fun _ _ _ _ _ st h=>wpAny_pyIter_keyiter st h
section
variable {X:Cx} {tg:Expr}
noncomputable def zkj(tl:TE):TI:=fun σ H R=>tl σ H fun x H1=>∃a o kvs es ep,x= .ref a/\H1 a=some (.frz o (.dK kvs))/\o.data= .dict es ep/\R (Xg a o kvs) H1
theorem zkk{l:Expr}{tl:TE}(hl:PE X l tl):PI X tg l (zkj tl):=by
 intro pins s σ H R I h
 refine zB (hl pins s σ H _ I h) fun v s1 ⟨x,H1,I1,r1,q1⟩=>?_
 obtain⟨a,o,kvs,es,ep,e,hq,hd,q⟩:=q1
 subst e
 cases r1
 obtain⟨vs,kv,da,lo⟩:=qc I1 hq hd
 have hl:kvs.length=vs.length:=kv.length
 refine wpAny_pyIter_dict lo da ?_
 refine⟨s1.heap.objs.size,[s1.heap.objs.size],_,_,H1,rfl,I1.kept (t':=s1.toks) fun b o e=>Heap.get?_push_of_some _ e,zki a _ o kvs hd,⟨_,Heap.get?_push_size _ rfl,rfl,by rw[hl];rfl⟩,fun b hb=>?_,q⟩
 have e:b=s1.heap.objs.size:=by simpa using hb
 subst e
 exact I1.fpOk (Nat.le_refl _) (I1.hok.fresh (Nat.le_refl _))
end
section
variable {X:Cx} {pins:List (Addr×Obj)} {σ:St} {H:Hp} {s:Shared} {a:Addr} {kvs:List (zy×V)}
theorem Inv.still(I:Inv X pins σ H s)(e:H a=some (.dK kvs)): ∃o es ep,o.data= .dict es ep/\Inv X pins σ (zI H a (.frz o (.dK kvs))) s:=by
 have ok:ObjOk X.prog X.w H s.heap a (.dK kvs):=I.hok a _ e
 obtain⟨h1,h2,vs,h3,o,es,ep,g1,g2,g3,g4⟩:=id ok
 exact⟨o,es,ep,g3,I.write (x:=a) (e:=a) (o:=.frz o (.dK kvs)) (h':=s.heap) (t':=s.toks) (by rw[e];exact True.intro) (.inl rfl) (fun b u _ q=>q) ⟨o,g1⟩ ⟨g1,h1,h2,vs,h3,o,es,ep,g1,g2,g3,g4⟩⟩
theorem Inv.loose{o:Obj}(I:Inv X pins σ H s)(e:H a=some (.frz o (.dK kvs)))(n: ∀o u,X.H₀ a≠some (.frz o u)):Inv X pins σ (zI H a (.dK kvs)) s:=by
 have ne: ∀b,H b=none->b≠a:=fun b hb z=>by rw[z,e] at hb;cases hb
 refine { I with base:=⟨I.base.keep,I.base.slot,fun b ob q n' hx=>?_,I.base.there,fun b xs q=>?_,fun b ob u q=>?_,fun b ps q=>?_⟩,free:=?_,freeC:=?_,pin:=?_,hok:=?_ }
 ·have:=I.base.free b ob q n' hx
  rw[zJ (ne b this)];exact this
 ·have:=I.base.tups b xs q
  rw[zJ (fun z=>by rw[z,e] at this;cases this)];exact this
 ·have:=I.base.frzs b ob u q
  rw[zJ (fun z=>n ob u (by rw[<-z];exact q))];exact this
 ·obtain⟨m,z⟩:=I.base.tbls b ps q
  exact⟨m,by rw[zJ (fun y=>by rw[y,e] at z;cases z)];exact z⟩
 ·rw[zJ (ne _ I.free)];exact I.free
 ·intro x c h
  have:=I.freeC x c h
  rw[zJ (ne _ this)];exact this
 ·intro p hp
  obtain⟨h1,h2,h3⟩:=I.pin p hp
  exact⟨h1,by rw[zJ (ne _ h2)];exact h2,h3⟩
 ·intro b u q
  have ho: ∀c y,H c=some (.own y)->zI H a (.dK kvs) c=some (.own y):=fun c y hc=>by
   rw[zJ (fun z=>by rw[z,e] at hc;cases hc)];exact hc
  have ht: ∀c xs,H c=some (.tup xs)->zI H a (.dK kvs) c=some (.tup xs):=fun c xs hc=>by
   rw[zJ (fun z=>by rw[z,e] at hc;cases hc)];exact hc
  by_cases hb:b=a
  ·subst hb
   rw[yL] at q
   cases q
   obtain⟨_,ok⟩:=(show ObjOk X.prog X.w H s.heap b (.frz o (.dK kvs)) from I.hok b _ e)
   exact ok.stay (fun _ _ _ q=>q) (fun c hc=>ho c _ hc) fun c xs hc=>ht c xs hc
  ·rw[zJ hb] at q
   exact (I.hok b u q).stay (fun _ _ _ q=>q) (fun c hc=>ho c _ hc) fun c xs hc=>ht c xs hc
end
end L2
namespace L2.LW
open PySem PySem.Spec PySem.W PySem.Calls PyProof.Rows
section
variable {K:PySem.W.Frag} {W:Addr->Prop} {H H':Hp}
structure Swp (H H':Hp):Prop where
 d: ∀b x,Rd H b (.dK x)->Rd H' b (.dK x)
 o: ∀b u,(∀x,u≠ .dK x)->(∀o x,u≠ .frz o (.dK x))->H b=some u->H' b=some u
theorem zkl(w:Swp H H'){a:Addr}{xs:List V}(h:(¬W a/\Rd H a (.lst xs))\/YI K a xs):(¬W a/\Rd H' a (.lst xs))\/YI K a xs:=by
 rcases h with ⟨n,h|⟨o,h⟩⟩|h
 ·exact .inl ⟨n,.inl (w.o _ _ (fun _ z=>nomatch z) (fun _ _ z=>nomatch z) h)⟩
 ·exact .inl ⟨n,.inr ⟨o,w.o _ _ (fun _ z=>nomatch z) (fun _ _ z=>nomatch z) h⟩⟩
 ·exact .inr h
theorem zkm(w:Swp H H'){b:Addr}{kvs:List (List zy×V)}(h:H b=some (.dT kvs)):H' b=some (.dT kvs):=w.o b _ (fun _ z=>nomatch z) (fun _ _ z=>nomatch z) h
theorem zkn(w:Swp H H'){b:Addr}{xs:List V}(h:H b=some (.tup xs)):H' b=some (.tup xs):=w.o b _ (fun _ z=>nomatch z) (fun _ _ z=>nomatch z) h
mutual
theorem Rep.swap(w:Swp H H'): ∀{d:D} {v:V},Rep K W H d v->Rep K W H' d v
 |_,_,.int i=>.int i
 |_,_,.bl b=>.bl b
 |_,_,.non=>.non
 |_,_,.str s=>.str s
 |_,_,.dK n h l r=>.dK n (w.d _ _ h) l (Reps.swap w r)
 |_,_,.dT n h l r=>.dT n (zkm w h) l (Reps.swap w r)
 |_,_,.tup h r=>.tup (zkn w h) (Reps.swap w r)
 |_,_,.lst h r=>.lst (zkl w h) (Reps.swap w r)
theorem Reps.swap(w:Swp H H'): ∀{ds:List D} {vs:List V},Reps K W H ds vs->Reps K W H' ds vs
 |_,_,.nil=>.nil
 |_,_,.cons h t=>.cons (Rep.swap w h) (Reps.swap w t)
end
theorem ORep.swap(w:Swp H H'){d:D}{o:HO}(h:ORep K W H d o):ORep K W H' d o:=by
 cases h with
 |lst r=>exact .lst (r.swap w)
 |dK l r=>exact .dK l (r.swap w)
 |dT l r=>exact .dT l (r.swap w)
theorem R.swap{ρ:LW.Env}{σ:St}(r:R K W ρ σ H)(w:Swp H H')(ow: ∀a o,W a->H a=some o->H' a=some o):R K W ρ σ H':=by
 refine⟨fun i d h=>?_,r.nol,fun i x d h1 h2=>?_,r.inj,fun a wa=>?_,r.len⟩
 ·obtain⟨v,e,q⟩:=r.val i d h
  exact⟨v,e,q.swap w⟩
 ·obtain⟨a,o,e1,e2,e3,e4⟩:=r.own i x d h1 h2
  exact⟨a,o,e1,e2,ow a o e2 e3,e4.swap w⟩
 ·cases e:H a with
  |none=>exact absurd e (r.wf a wa)
  |some o=>rw[ow a o wa e];exact fun z=>nomatch z
theorem zko{a:Addr}{o:Obj}{kvs:List (zy×V)}(e:H a=some (.dK kvs)):Swp H (zI H a (.frz o (.dK kvs))):=by
 refine⟨fun b x h=>?_,fun b u n1 n2 h=>?_⟩
 ·by_cases z:b=a
  ·subst z
   rcases h with h|⟨o',h⟩
   ·rw[e] at h;cases h;exact .inr ⟨o,yL⟩
   ·rw[e] at h;cases h
  ·rcases h with h|⟨o',h⟩
   ·exact .inl (by rw[zJ z];exact h)
   ·exact .inr ⟨o',by rw[zJ z];exact h⟩
 ·rw[zJ (fun z=>by rw[z,e] at h;cases h;exact n1 _ rfl)];exact h
theorem zkp{a:Addr}{o:Obj}{kvs:List (zy×V)}(e:H a=some (.frz o (.dK kvs))):Swp H (zI H a (.dK kvs)):=by
 refine⟨fun b x h=>?_,fun b u n1 n2 h=>?_⟩
 ·by_cases z:b=a
  ·subst z
   rcases h with h|⟨o',h⟩
   ·rw[e] at h;cases h
   ·rw[e] at h;cases h;exact .inl yL
  ·rcases h with h|⟨o',h⟩
   ·exact .inl (by rw[zJ z];exact h)
   ·exact .inr ⟨o',by rw[zJ z];exact h⟩
 ·rw[zJ (fun z=>by rw[z,e] at h;cases h;exact n2 _ _ rfl)];exact h
end
theorem zkq{K:PySem.W.Frag}{a:Addr}{o:Obj}{ns:List Int}{ys:List V}(hl:ns.length=ys.length){H':Hp}{W':Addr->Prop}(hq:H' a=some (.frz o (.dK (yy ns ys))))(k:Nat):
  (k=(ns.map D.int).length->(Xg a o (yy ns ys)).stop k H')/\∀d,(ns.map D.int)[k]? =some d->(Xg a o (yy ns ys)).go k H'/\∀x H'',(Xg a o (yy ns ys)).yld k H' x H''->H''=H'/\Rep K W' H' d x:=by
 have ln:=zbJ hl
 rw[List.length_map]
 refine⟨fun e=>⟨hq,by rw[ln];exact e⟩,fun d e=>?_⟩
 rw[List.getElem?_map,jo2] at e
 obtain⟨i,e1,rfl⟩:=e
 obtain⟨hk,e2⟩:=List.getElem?_eq_some_iff.mp e1
 refine⟨⟨hq,by rw[ln];exact hk⟩,fun x H'' z=>?_⟩
 obtain⟨z1,kv,z2,z3⟩:=z
 have:kv.1=Sum.inl i:=by
  unfold yy at z2
  rw[List.getElem?_zip_eq_some] at z2
  have:=z2.1
  rw[List.getElem?_map,e1] at this
  simpa using this.symm
 rw[z3,this]
 exact⟨z1,.int i⟩
section
variable {X:Cx} {fuel:Nat} {fa:Nat->List D->Option Ans} {sts:List Stmt} {ss:Ss} {x:Str} {p pos:Pos}
theorem zkr(i j:Nat){y:Str}{px:Pos}(hp:PassesOwn (model X.prog X.w) X.A X.env X.xe)(hc:X.calm=true)(hN:X.N.Nodup)(hi:X.N[i]? =some x)(hx:zM X.env.scope x)(hj:X.N[j]? =some y)(hv:zn X.env.scope y)(hb:ISs X (zr fa fuel ss) sts)
  (hf:X.fn x=true\/X.env.scope.names.lookup x=some .local:=by first|exact .inl rfl|exact .inr rfl|assumption) (hd:(y==("__debug__":Str))=false:=by decide) (hcd:(y==("__classdict__":Str))=false:=by decide)
  (hfo: ∀x,foldedSetIterable (.Name y p) X.env x=pure x:=by intro _;rfl):IS X (zL fa fuel (.forK i j ss)) (.For (.Name x px) (.Name y p) sts [] pos):=by
 refine .mk ?_
 rintro pins s σ H D0 I ⟨W,ρ,z,hR,hz,q⟩
 simp only[ziF] at hz
 split at hz
 case isFalse=>cases hz
 rename_i hfr
 have hfr:=vU hfr
 simp only[jo1] at hz
 obtain⟨ks,e1,⟨fl,ρ1⟩,e2,e3⟩:=hz
 unfold YH at e1
 split at e1
 case h_2=>cases e1
 rename_i ks' vs hslot
 cases e1
 obtain⟨rfl,rfl⟩:fl= .nx/\z=(.nx,ρ1):=by
  cases fl<;>first|(cases e3;exact⟨rfl,rfl⟩)|cases e3
 obtain⟨v,h1,h2⟩:=hR.val j _ hslot
 cases h2 with
 | @dK a ns ys vs n h l r=>
  have core: ∀{H1:Hp} {o:Obj} {es:Array DictEntry} {ep:Nat} {D1:Ends},Inv X pins σ H1 s->R X.K W ρ σ H1->H1 a=some (.frz o (.dK (yy ns ys)))->o.data= .dict es ep->
    (∀W' σ' H',SPost X.K W ρ σ H1 W' ρ1 σ' H'->D1.nx σ' H')->wpAny (model X.prog X.w) X.A (exec (.For (.Name x px) (.Name y p) sts [] pos) X.env) (SP X pins D1) X.xe s:=fun {H1 o es ep D1} I1 R1 hq hod q1=>
   QG hp hc (zkk (vE hj hv hd hcd)) (jY hN hi hx hf) hb.h hfo pins s σ H1 D1 I1 ⟨_,h1,a,o,_,es,ep,rfl,hq,hod,
    YV R1 hfr (fun W' H' x k=>zkq l (x.frz _ _ _ hq) k) e2 fun W' σ' H' ps=>q1 W' σ' H' ps⟩
  rcases h with h|⟨o,h⟩
  ·obtain⟨o,es,ep,hod,I1⟩:=I.still h
   have R1:R X.K W ρ σ (zI H a (.frz o (.dK (yy ns ys)))):=hR.swap (zko h) fun b u wb hbu=>by
    rw[zJ (fun z=>n (by rw[<-z];exact wb))];exact hbu
   have n0: ∀o u,X.H₀ a≠some (.frz o u):=fun o u z=>by
    have:=I.base.frzs a o u z
    rw[h] at this;cases this
   refine wpAny_mono (core (D1:={ nx:=fun σ' H'=>∃W',SPost X.K W ρ σ (zI H a (.frz o (.dK (yy ns ys)))) W' ρ1 σ' H',rt:=fun _ _=>False }) I1 R1 yL hod fun W' σ' H' ps=>⟨W',ps⟩) (fun f s' hs=>?_) fun _ _ e=>e
   cases f with
   |next=>
    obtain⟨σ',H',I',W',ps⟩:=hs
    have na: ¬wc ρ σ a:=fun z=>n (R1.ownW z).1
    have ha:H' a=some (.frz o (.dK (yy ns ys))):=ps.keep a _ yL na
    have nw: ¬W' a:=fun w=>by
     rcases ps.win a w with z|z
     ·exact n z
     ·rw[yL] at z;cases z
    refine⟨σ',zI H' a (.dK (yy ns ys)),I'.loose ha n0,q W' σ' _ ⟨ps.r.swap (zkp ha) fun b u wb hbu=>?_,fun b u hbu no=>?_,fun b w=>?_,ps.wout,ps.io⟩⟩
    ·rw[zJ (fun z=>nw (by rw[<-z];exact wb))];exact hbu
    ·by_cases z:b=a
     ·subst z;rw[yL,<-h,hbu]
     ·rw[zJ z]
      exact ps.keep b u (by rw[zJ z];exact hbu) no
    ·rcases ps.win b w with z|z
     ·exact .inl z
     ·by_cases y:b=a
      ·exact absurd (by rw[<-y];exact w) nw
      ·rw[zJ y] at z;exact .inr z
   |brk=>obtain⟨_,_,_,z⟩:=hs;exact z.elim
   |cont=>obtain⟨_,_,_,z⟩:=hs;exact z.elim
   |ret u=>obtain⟨_,_,_,_,_,z⟩:=hs;exact z.elim
  ·obtain⟨_,_,_,vs',_,o',es,ep,g1,g2,g3,_⟩:=(show ObjOk X.prog X.w H s.heap a (.frz o (.dK (yy ns ys))) from I.hok a _ h)
   have e1:o=o':=by
    have h1:=(show ObjOk X.prog X.w H s.heap a (.frz o (.dK (yy ns ys))) from I.hok a _ h).1
    rw[h1] at g1
    cases g1;rfl
   subst e1
   exact core I hR h g3 fun W' σ' H' ps=>q W' σ' H' ps
end
end L2.LW
set_option maxHeartbeats 4000000
set_option maxRecDepth 100000
namespace L2.LW
open PySem PySem.Spec PySem.W PySem.Calls PyProof.Rows
open AutoSeq1 (wpAny_loadPart')
section
variable {prog:Program} {w:World} {A:Around} {E:Value->Shared->Prop} {s:Shared}
theorem zks{it t:Addr}{i:Nat}{items:Array Value}{x:Value}{Q:Value->Shared->Prop}(ht:s.heap.IsTupleIter it t i)(hl:s.heap.IsTuple t items)(hx:items[i]? =some x)
  (hQ: ∀h',h'.IsTupleIter it t (i+1)->Heap.SameBut it s.heap h'->Q x { s with heap:=h' }):wpAny (model prog w) A (Builtin.SmallTypes.nextOf (.ref it)) Q E s:=by
 obtain⟨ob,h1,h2,h3⟩:=id ht
 obtain⟨ol,g1,_,nl,g2⟩:=hl
 unfold Builtin.SmallTypes.nextOf
 refine wpAny_bind (wpAny_callSpecial?_slot (name:=Str.ofString "__next__") ht.typeIs F.slot_tuple_iterator_next (wpAny_call_entry F.slot_tuple_iterator_next ht.typeIs F.entry_tuple_iterator_next ?_ (F.args_tuple_iterator_next_1 _)))
 show wpAny _ _ (field (.ref it) 0 >>= _) _ _ s;refine wpAny_bind (wpAny_field h1 h3 (x:=.ref t) rfl ?_)
 show wpAny _ _ (if (Value.ref t==Value.none)=true then _ else _) _ _ s;rw[if_neg (show ¬((Value.ref t==Value.none)=true) from Bool.false_ne_true)]
 show wpAny _ _ (field (.ref it) 1 >>= _) _ _ s;refine wpAny_bind (wpAny_field h1 h3 (x:=.int i 0) rfl ?_)
 show wpAny _ _ (seqItems? (.ref t) >>= _) _ _ s;refine wpAny_bind (wpAny_seqItems g1 g2 ?_);simp only[Int.toNat_natCast,hx]
 refine wpAny_bind (wpAny_setField h1 h3 (by simp) (wpAny_pure ⟨x,rfl,wpAny_pure (hQ _ ⟨_,Heap.get?_update_self _ h1 (Obj.isFreed_of_fields (Obj.data_mapFields h3 _)),(Obj.cls_mapFields ..).trans h2,by rw[Obj.data_mapFields h3];simp[rawInt]⟩ (Heap.SameBut.update ..))⟩))
theorem zkt{it t:Addr}{i:Nat}{items:Array Value}{Q:Value->Shared->Prop}(hh:A.handled=Option.none)(ht:s.heap.IsTupleIter it t i)(hl:s.heap.IsTuple t items)(hx:items[i]? =Option.none)
  (hE: ∀h' e,Heap.ExtBut it s.heap h'->(∃o,h'.get? e=some o/\o.cls= .type "StopIteration")->E (.ref e) { s with heap:=h' }):wpAny (model prog w) A (Builtin.SmallTypes.nextOf (.ref it)) Q E s:=by
 obtain⟨ob,h1,h2,h3⟩:=id ht
 obtain⟨ol,g1,_,nl,g2⟩:=hl
 unfold Builtin.SmallTypes.nextOf
 refine wpAny_bind (wpAny_callSpecial?_slot (name:=Str.ofString "__next__") ht.typeIs F.slot_tuple_iterator_next (wpAny_call_entry F.slot_tuple_iterator_next ht.typeIs F.entry_tuple_iterator_next ?_ (F.args_tuple_iterator_next_1 _)))
 show wpAny _ _ (field (.ref it) 0 >>= _) _ _ s;refine wpAny_bind (wpAny_field h1 h3 (x:=.ref t) rfl ?_)
 show wpAny _ _ (if (Value.ref t==Value.none)=true then _ else _) _ _ s;rw[if_neg (show ¬((Value.ref t==Value.none)=true) from Bool.false_ne_true)]
 show wpAny _ _ (field (.ref it) 1 >>= _) _ _ s;refine wpAny_bind (wpAny_field h1 h3 (x:=.int i 0) rfl ?_)
 show wpAny _ _ (seqItems? (.ref t) >>= _) _ _ s;refine wpAny_bind (wpAny_seqItems g1 g2 ?_);simp only[Int.toNat_natCast,hx]
 refine wpAny_bind (wpAny_rule (wpAny_bind (wpAny_setField h1 h3 (by simp) ?_)));show wpAny _ _ (newExc (.type "StopIteration") [] >>= _) _ _ _
 refine wpAny_bind ?_;simp only[newExc,newTuple];refine wpAny_bind (wpAny_newObj_type ?_ (by size_fits))
 refine wpAny_bind (m:=firstArgMember _ _) (wpAny_of_eq (a:=Value.none) (by first|rfl|(simp only[firstArgMember];rfl)) (wpAny_newObj_type ?_ (by size_fits)))
 simp only[raiseNew];refine wpAny_bind (wpAny_handled ?_);(first|rw[show A.in1.handled=Option.none from hh]|rw[hh])
 exact wpAny_bind (wpAny_pure (wpAny_throw (hE _ _ (((Heap.SameBut.update ..).extBut.push _).push _) ⟨_,Heap.get?_push_size _ rfl,rfl⟩)))
theorem zku{h h':Heap}{a:Addr}{its:Array Value}(x:h.IsTuple a its)(e: ∀o,h.get? a=some o->h'.get? a=some o):h'.IsTuple a its:=by
 obtain⟨o,h1,r⟩:=x
 exact⟨o,e o h1,r⟩
theorem zcc(hh:A.handled=Option.none)(it t:Addr)(ne:t≠it)(items:Array Value):Draws prog w A it [it,t] items.size (fun i v=>items[i]? =some v) (fun i h=>h.IsTupleIter it t i/\h.IsTuple t items) where
 live:=fun _ _ st=>by obtain⟨⟨o,h,_⟩,_⟩:=st;exact⟨o,h⟩
 frame:=fun _ _ _ st hk=>⟨st.1.at fun o e=>hk it (by simp) o e,zku st.2 fun o e=>hk t (by simp) o e⟩
 item:=fun i s Q E hi st hQ=>zks st.1 st.2 (x:=items[i]) (by simp[hi]) fun h' ht' hs'=>hQ _ h' s.toks (by simp[hi]) ⟨ht',st.2.extBut hs'.extBut ne⟩ hs'
 done:=fun s Q E st hE=>zkt hh st.1 st.2 (by simp) hE
theorem zkv(l:Addr)(items:Array Value)(n:Nat)(dct:Option Addr)(sl:Array (Option Value)):
  Meets (Builtin.«enumerate.__new__» ⟨[.type "enumerate",.ref l],[]⟩) (fun _ R s=>s.heap.get? l=some { cls:=.type "tuple",dict:=dct,data:=.seq items n,slots:=sl }/\
   R (.ok (.ret (.ref (s.heap.push { cls:=.type "tuple_iterator",data:=.fields #[.ref l,.int 0 0] }).objs.size)))
    { s with heap:=(s.heap.push { cls:=.type "tuple_iterator",data:=.fields #[.ref l,.int 0 0] }).push { cls:=.type "enumerate",data:=.fields #[.none,.bool false,.ref s.heap.objs.size,rawInt 0,.none,.none] } }):=
 .of_wp fun prog w A R s h=>by
  obtain⟨hp,g,d,tk,os⟩:=s;obtain⟨hl,h⟩:=h
  have hsub:=sub_enumerate
  have hT:Heap.IsTuple (Shared.heap ⟨hp,g,d,tk,os⟩) l items:=⟨_,hl,rfl,n,rfl⟩
  wp_walk using wpAny_loadPart' hl
  refine wpAny_stack_any fun st=>wpAny_pure ?_
  split
  ·rename_i c _ _ _ _ _
   cases (c==Value.type "enumerate")
   ·wp_walk using wpAny_loadPart' hl,wpAny_pyIter_tuple hT
    exact⟨_,rfl,h⟩
   ·wp_walk using wpAny_loadPart' hl,wpAny_pyIter_tuple hT
    exact⟨_,rfl,h⟩
  ·wp_walk using wpAny_loadPart' hl,wpAny_pyIter_tuple hT
   exact⟨_,rfl,h⟩
theorem zkw{l:Addr}{items:Array Value}{Q:Value->Shared->Prop}(hL:s.heap.IsTuple l items)
  (h: ∀h',IsEnum h' (s.heap.objs.size+1) s.heap.objs.size 0 .none->h'.IsTupleIter s.heap.objs.size l 0->h'.objs.size=s.heap.objs.size+2->(∀b o,s.heap.get? b=some o->h'.get? b=some o)->Q (.ref (s.heap.objs.size+1)) { s with heap:=h' }):
  wpAny (model prog w) A (call (.type "enumerate") [.ref l]) Q E s:=by
 obtain⟨⟨c,dct,dt,sl⟩,hl,hc,n,hd⟩:=hL
 replace hc:c= .type "tuple":=hc
 replace hd:dt= .seq items n:=hd
 subst hc hd
 refine callType_new F.called_enumerate (by decide) (F.typeCall_enumerate_1 _) (F.newCall_enumerate_1 _) (fun obj=>F.args_object_init_2 obj _) F.entry_enumerate_new (zkv l items n dct sl) ⟨hl,?_⟩
 have hz:(s.heap.push { cls:=.type "tuple_iterator",data:=.fields #[.ref l,.int 0 0] }).objs.size=s.heap.objs.size+1:=Heap.size_push ..
 show _/\_
 rw[hz]
 have he:IsEnum ((s.heap.push { cls:=.type "tuple_iterator",data:=.fields #[.ref l,.int 0 0] }).push { cls:=.type "enumerate",data:=.fields #[.none,.bool false,.ref s.heap.objs.size,rawInt 0,.none,.none] }) (s.heap.objs.size+1) s.heap.objs.size 0 .none:=by
  have:=Heap.get?_push_size (s.heap.push { cls:=.type "tuple_iterator",data:=.fields #[.ref l,.int 0 0] }) (o:={ cls:=.type "enumerate",data:=.fields #[.none,.bool false,.ref s.heap.objs.size,rawInt 0,.none,.none] }) rfl
  rw[hz] at this;exact this
 refine⟨⟨_,he,rfl⟩,h _ he ⟨_,Heap.get?_push_of_some _ (Heap.get?_push_size _ rfl),rfl,rfl⟩ (by rw[Heap.size_push,hz]) fun b o x=>Heap.get?_push_of_some _ (Heap.get?_push_of_some _ x)⟩
end
theorem zkx{P:Program}{w:World}{K:PySem.W.Frag}{elts:List Expr}{kt:Nat}{pt:Pos}{xs:List V}(a it e:Addr)(ne:e≠it):
  Turn P w K (.Tuple elts kt pt) (zb4 xs.length (fun i=>xs[i]?) fun H=>SqT K H a xs) [e,it] e (fun i h=>(∃old,IsEnum h e it i old)/\h.IsTupleIter it a i) where
 mem:=by simp
 obj:=fun i h zz2 b hb=>by
  obtain⟨⟨old,st⟩,st2⟩:=zz2
  rcases List.mem_cons.mp hb with rfl|hb
  ·exact⟨_,st,fun v z=>by cases z⟩
  ·obtain rfl:=List.mem_singleton.mp hb
   obtain⟨o,e1,c,d⟩:=st2
   exact⟨o,e1,fun v z=>by rw[d] at z;cases z⟩
 keep:=fun i h h' ⟨⟨old,st⟩,st2⟩ k=>⟨⟨old,k e (by simp) _ st⟩,st2.at fun o z=>k it (by simp) o z⟩
 item:=by
  intro X hP hw hK hc i pins s σ H E I hf ⟨⟨old,st⟩,st2⟩ ⟨hlt,hq⟩
  subst hP hw hK
  obtain⟨its,rv,p,hz⟩:=I.tuple hq
  have p:s.heap.IsTuple a its.toArray:=p
  have na:a≠it:=fun z=>by
   obtain⟨o,q1,q2,_⟩:=p
   obtain⟨o',q3,q4,_⟩:=st2
   rw[z,q3] at q1;cases q1
   rw[q2] at q4;simp at q4
  have nea:a≠e:=fun z=>by
   obtain⟨o,q1,q2,_⟩:=p
   have st:s.heap.get? e=some _:=st
   rw[z,st] at q1;cases q1
   simp at q2
  have D:=zcc (prog:=X.prog) (w:=X.w) (A:=X.A.in1) (I.ok.hd hc) it a na its.toArray
  have hl:=rv.length
  refine wpAny_pyNext_enum_itemD D st ⟨st2,p⟩ (by simp;omega) ne (by simp[ne,Ne.symm nea]) fun v h1 tk hv eo l1 tp sz kp=>?_
  obtain⟨u,hu,ru⟩:=rv.get (show xs[i]? =some xs[i] by simp[hlt])
  have hv:its[i]? =some v:=by simpa using hv
  rw[hu] at hv
  cases hv
  refine⟨_,rfl,zj0 (s:={ s with heap:=h1,toks:=tk+1 }) eo fun h2 en sb=>?_⟩
  have lt:e<s.heap.objs.size:=Heap.lt_size st
  have lt2:it<s.heap.objs.size:=by obtain⟨o,z,_⟩:=st2;exact Heap.lt_size z
  have I2:=zjY (h':=h2) (i:=(i:Int)) (tk:=tk) (k:=tk+1) I (hf e (by simp)) (hf it (by simp)) (fun b o n1 n2 z=>(sb.2 b n1).trans (kp b o n1 n2 z)) ((sb.2 _ (Nat.ne_of_gt lt)).trans tp) ru
  refine⟨.ref s.heap.objs.size,_,I2,rfl,⟨_,_,I.fresh,rfl,rfl,by simp[hlt]⟩,⟨⟨v,?_⟩,l1.1.extBut sb.extBut (Ne.symm ne)⟩,fun b hb=>?_⟩
  ·have e2:((i+1:Nat):Int)=(i:Int)+1:=by omega
   rw[e2];exact en
  ·have nb:b≠s.heap.objs.size:=by
    rcases List.mem_cons.mp hb with rfl|hb
    ·exact Nat.ne_of_lt lt
    ·obtain rfl:=List.mem_singleton.mp hb;exact Nat.ne_of_lt lt2
   rw[zJ nb];exact (hf b hb).1
 done:=by
  intro X hP hw hK hc i pins s σ H E I hf ⟨⟨old,st⟩,st2⟩ ⟨hge,hq⟩
  subst hP hw hK
  obtain⟨its,rv,p,hz⟩:=I.tuple hq
  have p:s.heap.IsTuple a its.toArray:=p
  have na:a≠it:=fun z=>by
   obtain⟨o,q1,q2,_⟩:=p
   obtain⟨o',q3,q4,_⟩:=st2
   rw[z,q3] at q1;cases q1
   rw[q2] at q4;simp at q4
  have D:=zcc (prog:=X.prog) (w:=X.w) (A:=X.A.in1) (I.ok.hd hc) it a na its.toArray
  have hl:i=its.toArray.size:=by rw[hge,rv.length];simp
  subst hl
  exact wpAny_pyNext_enum_endD D st ⟨st2,p⟩ fun h' eb=>⟨rfl,zjZ (e:=e) I (hf it (by simp)) fun b o hb z=>eb b o hb z⟩
 self:=fun _ _ _ _ _ ⟨⟨_,st⟩,_⟩ h=>wpAny_pyIter_enum st h
section
variable {X:Cx} {fn:Nat->List D->Option SV} {e:Expr} {ce:E} {pos p:Pos} {elts:List Expr} {kt:Nat} {pt:Pos}
noncomputable def zky(K:PySem.W.Frag)(fn:Nat->List D->Option SV)(c:E):TI:=fun σ H R0=>∃W ρ l,R K W ρ σ H/\zm fn c ρ=some (.val (.tup l))/\∀J H1,Same H H1->YE K J W H1 (xn 0 l)->R0 J H1
theorem zkz(hg:Gl X "enumerate")(hm:X.mg "enumerate"=Option.none)(he:IE X fn e ce)(hst:starEach [e] X.env=[(false,eval e X.env)]):
  PI X (.Tuple elts kt pt) (.Call (.Name "enumerate" p) [e] [] pos) (zky X.K fn ce):=by
 intro pins s σ H R0 I ⟨W,ρ,l,hR,h1,q1⟩
 refine wpAny_Call_Name_kw (jl I hg hm PyProof.Rows.boot_enumerate ?_ (by decide) (by decide))
 have hA:=(jo he.v Zb hst) pos pins s σ H (fun vs H1=>∃v,vs=[v]/\Same H H1/\Frz X.K W H1 (.val (.tup l)) v) I ⟨W,ρ,_,hR,h1,fun v H1 s1 f1=>⟨v,rfl,s1,f1⟩⟩
 refine PyProof.Rows.callWith_type1 (zB hA fun us s1 ⟨vs,H1,I1,rv,v,hv,s01,f1⟩=>?_) hst zu
 subst hv
 obtain⟨u,rfl,ru⟩:=wz rv
 cases f1 with
 |val h=>
  cases h with
  | @tup q xs ds hH rp=>
   cases ru
   obtain⟨its,rv2,pl,hz⟩:=I1.tuple (SqT.of hH)
   refine zkw pl fun h' en li sz kp=>?_
   refine wpAny_pyIter_enum en ?_
   have I2:Inv X pins σ H1 { s1 with heap:=h' }:=I1.kept (t':=s1.toks) kp
   refine⟨s1.heap.objs.size+1,[s1.heap.objs.size+1,s1.heap.objs.size],_,_,H1,rfl,I2,zkx (xs:=xs) q s1.heap.objs.size (s1.heap.objs.size+1) (Nat.succ_ne_self _),⟨⟨_,en⟩,li⟩,fun b hb=>?_,q1 _ H1 s01 (zj1 (xs:=xs) rp.length.symm (fun _=>rfl) (fun W' H' x=>.of (x.tup _ _ hH)) fun W' H' x=>rp.ext x)⟩
   rcases List.mem_cons.mp hb with rfl|hb
   ·exact I1.fpOk (Nat.le_succ _) (I1.hok.fresh (Nat.le_succ _))
   ·obtain rfl:=List.mem_singleton.mp hb
    exact I1.fpOk (Nat.le_refl _) (I1.hok.fresh (Nat.le_refl _))
end
end L2.LW
set_option maxHeartbeats 4000000
namespace L2.LW
open PySem PySem.Spec PySem.W PySem.Calls PyProof.Rows
noncomputable def xi(X:Cx)(scope:Scope)(x y:Str)(s₃:Shared)(H₃:Hp)(fp:List Addr)(pins:List (Addr×Obj)):Cx:={ yr X scope x s₃ H₃ fp pins with N:=x::y::X.N }
structure CompSc2 (X:Cx)(scope:Scope)(x y:Str):Prop where
 one:CompSc X scope x
 nx:wm x X.N=X.N
 lx:scope.names.lookup x=some .local
 ly:scope.names.lookup y=some .local
 nd2:(x::y::X.N).Nodup
section
variable {X:Cx} {scope:Scope} {x y:Str} {s₃:Shared} {H₃:Hp} {fp:List Addr} {pins ps:List (Addr×Obj)} {σ:St} {a b:Option V} {H:Hp} {s:Shared}
theorem zkA(h:(yr X scope x s₃ H₃ fp pins).Ok):(xi X scope x y s₃ H₃ fp pins).Ok:=⟨h.mod,h.kind,h.glob,h.blt,h.above,h.inj,h.has,h.cab,h.hd,h.frames,h.stk,h.exf,h.bs,h.bsz,h.noex,h.exfs,h.funs,h.frf⟩
theorem zkB(h:(xi X scope x y s₃ H₃ fp pins).Ok):(yr X scope x s₃ H₃ fp pins).Ok:=⟨h.mod,h.kind,h.glob,h.blt,h.above,h.inj,h.has,h.cab,h.hd,h.frames,h.stk,h.exf,h.bs,h.bsz,h.noex,h.exfs,h.funs,h.frf⟩
theorem zkC(S:CompSc2 X scope x y)(J:Inv (xi X scope x y s₃ H₃ fp pins) ps (a::b::σ) H s):Inv (yr X scope x s₃ H₃ fp pins) ps (a::σ) H s:=by
 obtain⟨m,hm,hl⟩:=J.loc
 refine⟨zkB J.ok,J.os,J.bare,J.base,⟨m,hm,fun i z v h1 h2 h3=>?_⟩,J.cell,J.free,J.freeC,J.pin,J.hok,?_⟩
 ·cases i with
  |zero=>exact hl 0 z v h1 h2 h3
  |succ i=>
   have h1:(wm x X.N)[i]? =some z:=h1
   rw[S.nx] at h1
   exact hl (i+2) z v h1 h2 h3
 ·have:=J.len
  show σ.length+1=(x::wm x X.N).length
  rw[S.nx]
  have e:σ.length+1+1=X.N.length+1+1:=this
  rw[List.length_cons];omega
theorem zkD(S:CompSc2 X scope x y)(J:Inv (yr X scope x s₃ H₃ fp pins) ps (Option.none::σ) H s):Inv (xi X scope x y s₃ H₃ fp pins) ps (Option.none::Option.none::σ) H s:=by
 obtain⟨m,hm,hl⟩:=J.loc
 refine⟨zkA J.ok,J.os,J.bare,J.base,⟨m,hm,fun i z v h1 h2 h3=>?_⟩,J.cell,J.free,J.freeC,J.pin,J.hok,?_⟩
 ·match i with
  |0=>cases h2
  |1=>cases h2
  |i+2=>
   have h1:X.N[i]? =some z:=h1
   exact hl (i+1) z v (by show (wm x X.N)[i]? =some z;rw[S.nx];exact h1) h2 h3
 ·have e:σ.length+1=(x::wm x X.N).length:=J.len
  rw[S.nx,List.length_cons] at e
  show σ.length+1+1=X.N.length+1+1
  omega
theorem CompSc2.locX(S:CompSc2 X scope x y):zM (xi X scope x y s₃ H₃ fp pins).env.scope x:=.inl (lookup_relabel_local S.lx)
theorem CompSc2.locY(S:CompSc2 X scope x y):zM (xi X scope x y s₃ H₃ fp pins).env.scope y:=.inl (lookup_relabel_local S.ly)
theorem CompSc2.fnX(S:CompSc2 X scope x y):(xi X scope x y s₃ H₃ fp pins).fn x=true\/(xi X scope x y s₃ H₃ fp pins).env.scope.names.lookup x=some .local:=.inr (lookup_relabel_local S.lx)
theorem CompSc2.fnY(S:CompSc2 X scope x y):(xi X scope x y s₃ H₃ fp pins).fn y=true\/(xi X scope x y s₃ H₃ fp pins).env.scope.names.lookup y=some .local:=.inr (lookup_relabel_local S.ly)
structure CSt2 (X:Cx)(scope:Scope)(x y:Str)(s₃:Shared)(H₃:Hp)(fp:List Addr)(pins:List (Addr×Obj))(σ:St)(tn:Nat->Heap->Prop)(H2:Hp)(W:Addr->Prop)(L:Addr)(test:D->Option Bool)(elt:D->Option SV)(ds out:List D)
  (n k:Nat) (a b:Option V) (H':Hp) (ys:List V) (out1 zT:List D) (s':Shared):Prop where
 inv:Inv (xi X scope x y s₃ H₃ fp pins) [] (a::b::σ) H' s'
 htn:tn k s'.heap
 hfp: ∀b∈fp,H' b=Option.none
 hn:n=ds.length+1-k
 hk:k<=ds.length
 same:Same H2 H'
 lst:H' L=some (.lst ys)
 reps:Reps X.K (add W L) H' out1 ys
 hrest:xg test elt (ds.drop k)=some zT
 hout:out=out1++zT
end
section
variable {X:Cx} {fn:Nat->List D->Option SV}
theorem zkE{e0 elt c:Expr}{x y:Str}{px py pos pos2 p pos3 pt:Pos}{kt:Nat}{scope:Scope}{cond ce ce0:E}{pins:List (Addr×Obj)}{s:Shared}{σ:St}{H:Hp}{W:Addr->Prop}{ρ:LW.Env}{l out:List D}{use:Option (Value->Sem Unit)}{Qe:Value->Shared->Prop}
  (hcalm:X.calm=true) (S:CompSc2 X scope x y) (hg:Gl X "enumerate") (hm:X.mg "enumerate"=Option.none) (he:IE X fn e0 ce0) (hst:starEach [e0] X.env=[(false,eval e0 X.env)])
  (hcond: ∀s₃ H₃ fp pins,IT (xi X scope x y s₃ H₃ fp pins) fn c cond) (helt: ∀s₃ H₃ fp pins,IE (xi X scope x y s₃ H₃ fp pins) fn elt ce) (hfo: ∀y,foldedSetIterable (.Call (.Name "enumerate" p) [e0] [] pos3) X.env y=pure y) (I:Inv X pins σ H s) (hR:R X.K W ρ σ H)
  (e1:zm fn ce0 ρ=some (.val (.tup l))) (hline:l.length<=line) (e3:xg (fun p=>vi p fun a b=>zF fn cond (some (.val a)::some (.val b)::ρ)) (fun p=>vi p fun a b=>zm fn ce (some (.val a)::some (.val b)::ρ)) (xn 0 l)=some out)
  (fin: ∀(s4:Shared) (fl:Flow) (m:Str->Option Value) (C L:Addr) (H':Hp),s4.heap.Ns C m->(∀h',Heap.SameBut C s4.heap h'->Inv X pins σ H' { s4 with heap:=h' })->Same H H'->
   Res X.K W H H' (.obj true (.lst out)) (.ref L)->compPost (model X.prog X.w) X.A X.xe use Qe (.ref L) C (.ok fl) s4):
  wpAny (model X.prog X.w) X.A (comprehension (.ListComp elt [⟨.Tuple [.Name x px,.Name y py] kt pt,.Call (.Name "enumerate" p) [e0] [] pos3,[c],0⟩] scope pos) scope X.env pos2 (newList []) false (eval (.Call (.Name "enumerate" p) [e0] [] pos3) X.env) use) Qe X.xe s:=by
 have hclos:=zbo (scope:=scope) (env:=X.env) (S.one.cells I.ok)
 refine wpAny_comprehension_free (use:=use) rfl hfo hclos S.one.kind S.one.names ?_
 refine zB (zkz (elts:=[.Name x px,.Name y py]) (kt:=kt) (pt:=pt) hg hm he hst pins s σ H (fun J H2=>Same H H2/\YE X.K J W H2 (xn 0 l)) I ⟨W,ρ,l,hR,e1,fun J H' s1 y=>⟨s1,y⟩⟩) fun v s1 h1=>zB h1 fun itv s2 h2=>?_
 obtain⟨it,fp,tn,J,H2,rfl,I2,T,st2,f2,sm,hy⟩:=h2
 refine wpAny_newObj_type (zbr S.one fun h₁ hns₁ hk₁ hc₁=>?_)
 have hdl:(xn 0 l).length=l.length:=qa 0 l
 generalize hds:xn 0 l=ds at*
 have I3:=I2.lnew (t':=s2.toks) (ys:=[]) (its:=[]) .nil (Nat.zero_le _)
 have hD:H2 s2.heap.objs.size=Option.none:=I2.fresh
 generalize hL:s2.heap.objs.size=L at hD
 generalize hs3:({ s2 with heap:=s2.heap.push { cls:=.type "list",data:=.seq ([]:List Value).toArray },toks:=s2.toks }:Shared)=s₃ at I3
 have hs3h:s₃.heap=s2.heap.push { cls:=.type "list",data:=.seq ([]:List Value).toArray }:=by rw[<-hs3]
 rw[hL] at I3
 generalize hH3:zI H2 L (.lst [])=H₃ at I3
 have blt: ∀b∈fp,b<s2.heap.objs.size:=fun b hb=>by
  obtain⟨o,e,_⟩:=T.obj _ _ st2 b hb
  exact Heap.lt_size e
 have hlt: ∀b∈fp,b<s₃.heap.objs.size:=fun b hb=>by rw[hs3h,Heap.size_push];exact Nat.lt_succ_of_lt (blt b hb)
 have hf: ∀b∈fp,xJ X pins H₃ b:=fun b hb=>by
  refine⟨?_,(f2 b hb).2⟩
  rw[<-hH3,zJ (by rw[<-hL];exact Nat.ne_of_lt (blt b hb))]
  exact (f2 b hb).1
 have keep1: ∀b o,s₃.heap.get? b=some o->h₁.get? b=some o:=fun b o e=>by
  rw[hs3h] at e
  exact hk₁ b o e
 have ns1:h₁.Ns s₃.heap.objs.size fun _=>Option.none:=by rw[hs3h];exact hns₁
 have Ic:=zkD S (zbt (tk:=s2.toks) S.one I3 hf hlt ns1 keep1 (by rw[hs3h];exact hc₁))
 have fpc: ∀{H':Hp},(∀b∈fp,H' b=Option.none)->∀b∈fp,xJ (xi X scope x y s₃ H₃ fp pins) [] H' b:=fun {H'} hn b hb=>zbw (H':=H') S.one I3 hf hlt hn b hb
 have win: ∀b,add W L b->W b\/H2 b=Option.none:=fun b w=>by
  rcases w with w|rfl
  ·exact .inl w
  ·exact .inr hD
 have hRL: ∀{H':Hp} {ys:List V},Same H2 H'->H' L=some (.lst ys)->R X.K (add W L) ρ σ H':=fun {H' ys} sm' e=>(hR.same sm).add sm' hD e
 have lenO:out.length<=ds.length:=Jj e3
 have loop: ∀s':Shared,s'={ s₃ with heap:=h₁,toks:=s2.toks }->codeAny (model X.prog X.w) X.A (.compLoop (.ListComp elt [⟨.Tuple [.Name x px,.Name y py] kt pt,.Call (.Name "enumerate" p) [e0] [] pos3,[c],0⟩] scope pos) 0 (.ref it) (.ref L) (xi X scope x y s₃ H₃ fp pins).env)
   (compPost (model X.prog X.w) X.A X.xe use Qe (.ref L) s₃.heap.objs.size) s':=by
  rintro s' rfl
  refine zbv (fun n s'=>∃k a b H' ys out1 zT,CSt2 X scope x y s₃ H₃ fp pins σ tn H2 W L (fun p=>vi p fun a b=>zF fn cond (some (.val a)::some (.val b)::ρ)) (fun p=>vi p fun a b=>zm fn ce (some (.val a)::some (.val b)::ρ)) ds out n k a b H' ys out1 zT s') ?_ (ds.length+1)
   ⟨0,Option.none,Option.none,H₃,[],[],out,Ic,T.keep _ _ _ st2 (fun b hb o e=>keep1 b o (by rw[hs3h];exact Heap.get?_push_of_some _ e)),fun b hb=>(hf b hb).1,rfl,Nat.zero_le _,by rw[<-hH3];exact yX hD _,by rw[<-hH3];exact yL,.nil,e3,rfl⟩
  rintro n s' ⟨k,ya,yb,H',ys,out1,zT,c'⟩
  obtain⟨hstop,hgo⟩:=hy (add W L) H' (.sameW c'.same win) k
  by_cases hk:k<ds.length
  ·have hd:ds[k]? =some ds[k]:=by simp[hk]
   obtain⟨g1,g2⟩:=hgo _ hd
   have crest:=c'.hrest
   rw[kF hd] at crest
   simp only[xg,jo1] at crest
   obtain⟨b,t1,t2⟩:=crest
   obtain⟨dx,dx1,dx2⟩:=kZ (by rw[hds];exact hd:(xn 0 l)[k]? =some ds[k])
   rw[dx2] at t1 t2 g2
   have t1:zF fn cond (some (.val (.int ((0+k:Nat):Int)))::some (.val dx)::ρ)=some b:=t1
   refine zB (T.item (xi X scope x y s₃ H₃ fp pins) rfl rfl rfl hcalm k [] s' (ya::yb::σ) H' _ c'.inv (fpc c'.hfp) c'.htn g1) fun r s4 ⟨u,hr,h4⟩=>?_
   subst hr
   refine zB h4 fun _ s5 ⟨xv,H5,I5,r5,y5,st5,fr5⟩=>?_
   obtain⟨sm5,rv⟩:=g2 xv H5 y5
   have I5':=I5.pinned (fpc fr5) (T.obj _ _ st5)
   obtain⟨q,va,vb,rfl,hq,ra,rb⟩: ∃q va vb,xv= .ref q/\H5 q=some (.tup [va,vb])/\Rep X.K (add W L) H5 (.int ((0+k:Nat):Int)) va/\Rep X.K (add W L) H5 dx vb:=by
    cases rv with
    |tup hH rp=>
     cases rp with
     |cons ra rp=>
      cases rp with
      |cons rb rp=>cases rp;exact⟨_,_,_,rfl,hH,ra,rb⟩
   have pg:PG (xi X scope x y s₃ H₃ fp pins) (.Tuple [.Name x px,.Name y py] kt pt) (zaa X.K 2 (QF (Yb 0) (QF (Yb 1) gY))):=zgc hcalm (gZ (jY (i:=0) S.nd2 rfl S.locX S.fnX) (gZ (jY (i:=1) S.nd2 rfl S.locY S.fnY) zgb))
   refine zB (pg _ s5 (ya::yb::σ) H5 (.ref q) u (fun σ' H'=>σ'=some va::some vb::σ/\H'=H5) I5' r5 ⟨_,_,rfl,.of hq,rfl,_,_,rfl,_,_,rfl,rfl,rfl,rfl⟩) fun _ s6 ⟨σ6,H6,I6,q6,q7⟩=>?_
   subst q6 q7
   have hRc:=((hRL (c'.same.trans sm5) (sm5 _ _ c'.lst)).cons rb).cons ra
   refine zB (wpAny_tests_one ((hcond s₃ H₃ fp pins).h _ s6 _ H6 (fun b' H7=>b'=b/\Same H6 H7) I6 ⟨add W L,_,b,hRc,t1,fun H7 s7=>⟨rfl,s7⟩⟩)) fun ok s7 ⟨H7,I7,q7,m7⟩=>?_
   subst q7
   have back: ∀{s':Shared} {H':Hp},Inv (xi X scope x y s₃ H₃ fp pins) ([]++jZ fp s5.heap) (some va::some vb::σ) H' s'->tn (k+1) s'.heap/\∀b∈fp,H' b=Option.none:=fun {s' H'} J=>by
    refine⟨T.keep _ _ _ st5 fun b hb o e=>(J.pin (b,o) (List.mem_append_right _ (List.mem_append_right _ (Za hb e)))).1,fun b hb=>?_⟩
    obtain⟨o,e,d⟩:=T.obj _ _ st5 b hb
    exact (J.pin (b,o) (List.mem_append_right _ (List.mem_append_right _ (Za hb e)))).2.1
   have m57:=sm5.trans m7
   cases ok with
   |false=>
    rw[if_neg Bool.false_ne_true]
    have bk:=back I7
    exact⟨_,by have:=c'.hn;omega,k+1,some va,some vb,H7,ys,out1,zT,I7.unpinned,bk.1,bk.2,rfl,hk,c'.same.trans m57,m57 _ _ c'.lst,c'.reps.ext (.same m57),t2,c'.hout⟩
   |true=>
    rw[if_pos rfl]
    simp only[jo1,jo2] at t2
    obtain⟨r8,t3,d8,t4,rest',t5,rfl⟩:=t2
    have t3:zm fn ce (some (.val (.int ((0+k:Nat):Int)))::some (.val dx)::ρ)=some r8:=t3
    have hR7:=hRc.same m7
    refine zB ((helt s₃ H₃ fp pins).h _ s7 _ H7 (fun v H8=>Same H7 H8/\Rep X.K (add W L) H8 d8 v) I7 ⟨add W L,_,r8,hR7,t3,fun v8 H8 m8 res=>⟨m8,(res.frz hR7.wf).toD t4⟩⟩) fun u8 s8 ⟨v8,H8,I8,rl8,m8,rp8⟩=>?_
    have lst8:=m8 _ _ (m57 _ _ c'.lst)
    have lenY:=c'.reps.length
    have lenT:=congrArg List.length c'.hout
    rw[List.length_append,List.length_cons] at lenT
    have le:=Zj
    refine zB (QP (X:=xi X scope x y s₃ H₃ fp pins) _ s8 _ H8 (.ref L) [v8] (.ref L) [u8] (fun _ H9=>H9=zI H8 L (.lst (ys++[v8]))) I8 rfl (.cons rl8 .nil) ⟨L,ys,v8,rfl,rfl,lst8,by omega,rfl⟩) fun _ s9 ⟨_,H9,I9,_,q9⟩=>?_
    subst q9
    have bk:=back I9
    have ext:Ext (add W L) H8 (add W L) (zI H8 L (.lst (ys++[v8]))):=by
     refine⟨fun b o q n=>?_,fun b zs q=>?_,fun b o u q=>?_,fun b w=>.inl w⟩
     ·rw[zJ (fun z=>n (.inr z))];exact q
     ·rw[zJ (fun z=>by rw[z,lst8] at q;cases q)];exact q
     ·rw[zJ (fun z=>by rw[z,lst8] at q;cases q)];exact q
    have smL:Same H2 (zI H8 L (.lst (ys++[v8]))):=fun b o q=>by
     rw[zJ (fun z=>by rw[z,hD] at q;cases q)]
     exact m8 _ _ (m57 _ _ (c'.same _ _ q))
    exact⟨_,by have:=c'.hn;omega,k+1,some va,some vb,_,ys++[v8],out1++[d8],rest',I9.unpinned,bk.1,bk.2,rfl,hk,smL,yL,((c'.reps.ext (.same (m57.trans m8))).ext ext).append (.cons (rp8.ext ext) .nil),t5,by rw[c'.hout];simp⟩
  ·have ek:k=ds.length:=by have:=c'.hk;omega
   refine zB (T.done (xi X scope x y s₃ H₃ fp pins) rfl rfl rfl hcalm k [] s' (ya::yb::σ) H' _ c'.inv (fpc c'.hfp) c'.htn (hstop ek)) fun r s4 ⟨hr,I4⟩=>?_
   subst hr
   have I4:=zkC S I4
   obtain⟨m,hn,_⟩:=I4.loc
   have er:=c'.hrest
   rw[List.drop_of_length_le (by omega),xg] at er
   cases er
   have eo:=c'.hout
   rw[List.append_nil] at eo
   exact fin s4 _ m _ L H' hn (fun h' hs=>zbu I3 hf I4 hs) (sm.trans c'.same) (by rw[eo];exact .new (sm.free hD) c'.lst (.lst c'.reps))
 have st0:tn 0 h₁:=T.keep _ _ _ st2 (fun b hb o e=>keep1 b o (by rw[hs3h];exact Heap.get?_push_of_some _ e))
 subst hs3 hL
 exact codeAny_compStart_list (loop _ rfl) (T.self X.A 0 _ _ _ st0 (loop _ rfl))
theorem zkF{e0 elt c:Expr}{x y:Str}{px py pos p pos3 pt:Pos}{kt:Nat}{scope:Scope}{cond ce ce0:E}(hcalm:X.calm=true)(S:CompSc2 X scope x y)(hg:Gl X "enumerate")(hm:X.mg "enumerate"=Option.none)(he:IE X fn e0 ce0)
  (hst:starEach [e0] X.env=[(false,eval e0 X.env)]) (hcond: ∀s₃ H₃ fp pins,IT (xi X scope x y s₃ H₃ fp pins) fn c cond) (helt: ∀s₃ H₃ fp pins,IE (xi X scope x y s₃ H₃ fp pins) fn elt ce)
  (hfo: ∀z,foldedSetIterable (.Call (.Name "enumerate" p) [e0] [] pos3) X.env z=pure z:=by intro _;rfl):
  IE X fn (.ListComp elt [⟨.Tuple [.Name x px,.Name y py] kt pt,.Call (.Name "enumerate" p) [e0] [] pos3,[c],0⟩] scope pos) (.compE ce0 cond ce):=by
 refine .mk ?_
 rintro pins s σ H Q I ⟨W,ρ,r,hR,hev,q⟩
 simp only[zit,jo1] at hev
 obtain⟨r0,e1,l,e2,e3⟩:=hev
 have e2: ∃l',r0= .val (.tup l')/\l'=l:=by
  cases r0 with
  |val d=>cases d with
   |tup l'=>exact⟨l',rfl,by simpa [YD] using e2⟩
   |_=>cases e2
  |_=>cases e2
 obtain⟨l',rfl,rfl⟩:=e2
 split at e3
 case isFalse=>cases e3
 rename_i hline
 rw[jo2] at e3
 obtain⟨out,e3,rfl⟩:=e3
 rw[eval_ListComp]
 refine zkE (use:=Option.none) hcalm S hg hm he hst hcond helt hfo I hR e1 hline e3 fun s4 fl m C L H' hn back sm res=>?_
 exact⟨m,hn,fun h' hs=>⟨.ref L,H',back h' hs,rfl,q _ H' sm res⟩⟩
noncomputable def zcd(sc:Scope)(N:List Str)(scope:Scope)(x y:Str):Bool:=
 kK sc N scope x&&decide (wm x N=N)&&decide (scope.names.lookup x=some .local)&&decide (scope.names.lookup y=some .local)&&decide ((x::y::N).Nodup)
theorem zkG{scope sc:Scope}{N:List Str}{x y:Str}(hs:X.env.scope=sc)(hN:X.N=N)(h:zcd sc N scope x y=true):CompSc2 X scope x y:=by
 simp only[zcd,Bool.and_eq_true,decide_eq_true_eq] at h
 obtain⟨⟨⟨⟨h1,h2⟩,h3⟩,h4⟩,h5⟩:=h
 exact⟨wF hs hN h1,by rw[hN];exact h2,h3,h4,by rw[hN];exact h5⟩
end
end L2.LW
set_option maxHeartbeats 4000000
set_option maxRecDepth 100000
namespace L2.LW
open PySem PySem.Spec PySem.W PySem.Calls PyProof.Rows
section
variable {X:Cx} {cl:Nat->Value} {E:XK} {fa:Nat->List D->Option Ans} {fuel:Nat} {s:S} {st:Stmt}
theorem zce{o e f:Expr}{m:Str}{apos cpos:Pos}(h1:starEach [e,f] X.env=(false,eval e X.env)::starEach [f] X.env)(h2:starEach [f] X.env=(false,eval f X.env)::starEach [] X.env)
  (hb:attributeBase o m X.env (eval o X.env)=eval o X.env:=by rfl) (hl:(apos.endLine==cpos.line)=true:=by rfl):M2 X o m apos e f cpos:=
 ⟨hb,by rw[h1,h2];rfl,hl,by rw[h1,h2];rfl⟩
end
end L2.LW
namespace L2.LW
open PySem
section
variable {fn:Nat->List D->Option SV} {fa:Nat->List D->Option Ans} {fuel:Nat} {ρ:Env}
@[simp] theorem zrh{i:Int}:zm fn (.int i) ρ=some (.val (.int i)):=rfl
@[simp] theorem zri{i:Bool}:zm fn (.bl i) ρ=some (.val (.bl i)):=rfl
@[simp] theorem zrj:zm fn .non ρ=some (.val .non):=rfl
@[simp] theorem zrk{i:Str}:zm fn (.str i) ρ=some (.val (.str i)):=rfl
@[simp] theorem zcf{i:Nat}:zm fn (.var i) ρ=look ρ i:=rfl
@[simp] theorem zkH{p:Prim}{es:Es}:zm fn (.prim p es) ρ=(yd fn es ρ).bind fun rs=>zh p (rs.map zN):=rfl
@[simp] theorem zrl{es:Es}:zm fn (.tup es) ρ=(yd fn es ρ).bind fun rs=>(xL rs).map fun ds=>.val (.tup ds):=rfl
@[simp] theorem zrm{es:Es}:zm fn (.lst es) ρ=(yd fn es ρ).bind fun rs=>(xL rs).map fun ds=>.obj true (.lst ds):=rfl
noncomputable def qd(r:SV)(k:Option SV):Option SV:=match r with
 | .val (.bl true)=>k
 | .val (.bl false)=>some (.val (.bl false))
 |_=>none
noncomputable def zcg(r:SV)(k:Option SV):Option SV:=match r with
 | .val (.bl true)=>some (.val (.bl true))
 | .val (.bl false)=>k
 |_=>none
noncomputable def zch(r:SV):Option SV:=match r with
 | .val (.bl b)=>some (.val (.bl (!b)))
 |_=>none
@[simp] theorem zrn{b:Bool}{k:Option SV}:qd (.val (.bl b)) k=if b then k else some (.val (.bl false)):=by cases b<;>rfl
@[simp] theorem zro{b:Bool}{k:Option SV}:zcg (.val (.bl b)) k=if b then some (.val (.bl true)) else k:=by cases b<;>rfl
@[simp] theorem zrp{b:Bool}:zch (.val (.bl b))=some (.val (.bl (!b))):=rfl
@[simp] theorem zrq{a b:E}:zm fn (.and a b) ρ=(zm fn a ρ).bind fun r=>qd r (zm fn b ρ):=rfl
@[simp] theorem zrr{a b:E}:zm fn (.or a b) ρ=(zm fn a ρ).bind fun r=>zcg r (zm fn b ρ):=rfl
@[simp] theorem zrs{a:E}:zm fn (.not a) ρ=(zm fn a ρ).bind zch:=rfl
@[simp] theorem zrt{p q:Prim}{a b c:E}:zm fn (.chain p q a b c) ρ=(zm fn a ρ).bind fun x=>(zm fn b ρ).bind fun y=>(zh p [zN x,zN y]).bind fun z=>qd z ((zm fn c ρ).bind fun w=>zh q [zN y,zN w]):=rfl
@[simp] theorem zru{c a b:E}:zm fn (.ite c a b) ρ=(zF fn c ρ).bind fun k=>if k then zm fn a ρ else zm fn b ρ:=rfl
@[simp] theorem zrv{f:Nat}{es:Es}:zm fn (.call f es) ρ=(yd fn es ρ).bind fun rs=>wr rs (fn f (rs.map zN)):=rfl
theorem zkI{g:Bool}{src:Es}{cond elt:E}:zm fn (.comp g src cond elt) ρ=(yd fn src ρ).bind fun rs=>(yl g rs).bind fun ds=>
  if ds.length<=line then (xg (fun d=>zF fn cond (some (.val d)::ρ)) (fun d=>zm fn elt (some (.val d)::ρ)) ds).map fun l=>.obj true (.lst l) else none:=rfl
@[simp] theorem zrw{t:Bool}:zm fn (.dnew t) ρ=some (.obj true (.dct t [] [])):=rfl
@[simp] theorem zrx{t:Bool}{k v:E}:zm fn (.done t k v) ρ=(zm fn k ρ).bind fun x=>(zm fn v ρ).bind fun y=>(toD x).bind fun a=>(toD y).bind fun b=>if yQ t a then some (.obj true (.dct t [a] [b])) else none:=rfl
@[simp] theorem qe:yd fn .nil ρ=some []:=rfl
@[simp] theorem qf{e:E}{es:Es}:yd fn (.cons e es) ρ=(zm fn e ρ).bind fun r=>(yd fn es ρ).map (r:: ·):=rfl
@[simp] theorem zry{a b:E}:zF fn (.and a b) ρ=(zF fn a ρ).bind fun k=>if k then zF fn b ρ else some false:=rfl
@[simp] theorem zrz{a b:E}:zF fn (.or a b) ρ=(zF fn a ρ).bind fun k=>if k then some true else zF fn b ρ:=rfl
@[simp] theorem zrA{a:E}:zF fn (.not a) ρ=(zF fn a ρ).map (!·):=rfl
@[simp] theorem zrB{i:Int}:zF fn (.int i) ρ=some (i != 0):=rfl
@[simp] theorem zkJ{i:Bool}:zF fn (.bl i) ρ=some i:=rfl
@[simp] theorem zrC{i:Nat}:zF fn (.var i) ρ=(look ρ i).bind yB:=rfl
@[simp] theorem zkK{p:Prim}{es:Es}:zF fn (.prim p es) ρ=(yd fn es ρ).bind fun rs=>(zh p (rs.map zN)).bind yB:=rfl
@[simp] theorem zrD{f:Nat}{es:Es}:zF fn (.call f es) ρ=(yd fn es ρ).bind fun rs=>(wr rs (fn f (rs.map zN))).bind yB:=rfl
noncomputable def zci(r:SV)(k:Option Bool):Option Bool:=match r with
 | .val (.bl true)=>k
 | .val (.bl false)=>some false
 |_=>none
@[simp] theorem zrE{b:Bool}{k:Option Bool}:zci (.val (.bl b)) k=if b then k else some false:=by cases b<;>rfl
@[simp] theorem zrF{p q:Prim}{a b c:E}:zF fn (.chain p q a b c) ρ=(zm fn a ρ).bind fun x=>(zm fn b ρ).bind fun y=>(zh p [zN x,zN y]).bind fun z=>zci z ((zm fn c ρ).bind fun w=>(zh q [zN y,zN w]).bind yB):=rfl
@[simp] theorem zrG{e:E}:zL fa fuel (.expr e) ρ=(zm (zP fa) e ρ).map fun _=>(.nx,ρ):=rfl
@[simp] theorem zrH{i:Nat}{e:E}:zL fa fuel (.asg i e) ρ=(zm (zP fa) e ρ).bind fun r=>if r.lent|| !free ρ i then none else some (.nx,ρ.set i (some r)):=rfl
noncomputable def zE:Option (Option SV)->Bool
 |some (some (.io _))=>false
 |_=>true
@[simp] theorem zcj{i:Nat}:free ρ i=zE ρ[i]? :=by
 unfold free zE
 rcases h:ρ[i]? with _|_|(d|⟨o,d⟩|d)<;>rfl
@[simp] theorem zrI:zE none=true:=rfl
@[simp] theorem zrJ:zE (some none)=true:=rfl
@[simp] theorem yH{d:D}:zE (some (some (.val d)))=true:=rfl
@[simp] theorem zck{o:Bool}{d:D}:zE (some (some (.obj o d)))=true:=rfl
noncomputable def qg(ρ:Env)(i j:Nat):Option (Option SV)->Option (Fl×Env)
 |some (some (.val d))=>some (.nx,ρ.set i (some (.val d)))
 |some (some (.obj _ d))=>some (.nx,(ρ.set j (some (.val d))).set i (some (.val d)))
 |_=>none
@[simp] theorem zrK{i j:Nat}{d:D}:qg ρ i j (some (some (.val d)))=some (.nx,ρ.set i (some (.val d))):=rfl
@[simp] theorem zrL{i j:Nat}{o:Bool}{d:D}:qg ρ i j (some (some (.obj o d)))=some (.nx,(ρ.set j (some (.val d))).set i (some (.val d))):=rfl
@[simp] theorem zrM{i j:Nat}:zL fa fuel (.mov i j) ρ=if free ρ i then qg ρ i j ρ[j]? else none:=by
 rw[zaS]
 rcases h:ρ[j]? with _|_|(d|⟨o,d⟩|d)<;>rfl
noncomputable def jG(ρ:Env)(j:Nat):Option (Option SV)->Option (List D×Env)
 |some (some (.val d))=>(yW d).map fun l=>(l,ρ)
 |some (some (.obj _ (.lst ds)))=>some (ds,ρ.set j (some (.val (.lst ds))))
 |_=>none
@[simp] theorem zrN{j:Nat}{d:D}:jG ρ j (some (some (.val d)))=(yW d).map fun l=>(l,ρ):=rfl
@[simp] theorem zrO{j:Nat}{o:Bool}{ds:List D}:jG ρ j (some (some (.obj o (.lst ds))))=some (ds,ρ.set j (some (.val (.lst ds)))):=rfl
@[simp] theorem zrP{j:Nat}:Zi ρ j=jG ρ j ρ[j]? :=by
 unfold Zi jG
 rcases h:ρ[j]? with _|_|(d|⟨o,d⟩|d)<;>rfl
@[simp] theorem zrQ{l:List D}:yW (.tup l)=some l:=rfl
@[simp] theorem zrR{l:List D}:yW (.lst l)=some l:=rfl
noncomputable def zkL(ρ:Env)(i:Nat)(x:SV)(r:Option SV):Option D->Option (Fl×Env)
 |some (.lst ds)=>r.bind fun r=>(toD r).bind fun d=>if ds.length<line then some (.nx,ρ.set i (some (x.put (.lst (ds++[d]))))) else none
 |_=>none
noncomputable def ja(ρ:Env)(i:Nat)(r:Option SV):Option (Option SV)->Option (Fl×Env)
 |some (some x)=>zkL ρ i x r x.cell
 |_=>none
@[simp] theorem Xh{i:Nat}{r:Option SV}{ds:List D}:ja ρ i r (some (some (.obj true (.lst ds))))=r.bind fun r=>(toD r).bind fun d=>if ds.length<line then some (.nx,ρ.set i (some (.obj true (.lst (ds++[d]))))) else none:=rfl
@[simp] theorem zrS{i:Nat}{e:E}:zL fa fuel (.app i e) ρ=ja ρ i (zm (zP fa) e ρ) ρ[i]? :=by
 rw[zaT]
 rcases h:ρ[i]? with _|_|(d|⟨_|_,d⟩|d)
 ·rfl
 ·rfl
 ·rfl
 ·rfl
 ·cases d<;>rfl
 ·cases d<;>rfl
noncomputable def zkM(ρ:Env)(i:Nat)(x:SV)(rk rv:Option SV):Option D->Option (Fl×Env)
 |some (.dct t ks vs)=>rv.bind fun r=>(toD r).bind fun d=>rk.bind fun r=>(toD r).bind fun a=>if yQ t a&&decide (ks.length<line) then some (.nx,ρ.set i (some (x.put (xK t ks vs a d)))) else none
 |_=>none
noncomputable def jH(ρ:Env)(i:Nat)(rk rv:Option SV):Option (Option SV)->Option (Fl×Env)
 |some (some x)=>zkM ρ i x rk rv x.cell
 |_=>none
@[simp] theorem zcl{i:Nat}{rk rv:Option SV}{t:Bool}{ks vs:List D}:jH ρ i rk rv (some (some (.obj true (.dct t ks vs))))=rv.bind fun r=>(toD r).bind fun d=>rk.bind fun r=>(toD r).bind fun a=>if yQ t a&&decide (ks.length<line) then some (.nx,ρ.set i (some (.obj true (xK t ks vs a d)))) else none:=rfl
@[simp] theorem zrT{i:Nat}{rk rv:Option SV}{t:Bool}{ks vs:List D}:jH ρ i rk rv (some (some (.io (.dct t ks vs))))=rv.bind fun r=>(toD r).bind fun d=>rk.bind fun r=>(toD r).bind fun a=>if yQ t a&&decide (ks.length<line) then some (.nx,ρ.set i (some (.io (xK t ks vs a d)))) else none:=rfl
@[simp] theorem zrU{i:Nat}{k v:E}:zL fa fuel (.dset i k v) ρ=jH ρ i (zm (zP fa) k ρ) (zm (zP fa) v ρ) ρ[i]? :=by
 rw[zaU]
 rcases h:ρ[i]? with _|_|(d|⟨_|_,d⟩|d)
 ·rfl
 ·rfl
 ·rfl
 ·rfl
 ·cases d<;>rfl
 ·cases d<;>rfl
@[simp] theorem zrV{i j k:Nat}{e:E}:zL fa fuel (.unp3 i j k e) ρ=(zm (zP fa) e ρ).bind (zaM ρ i j k):=rfl
@[simp] theorem zrW{i j:Nat}:zL fa fuel (.dupd i j) ρ=YG ρ i j:=rfl
@[simp] theorem zrX{m:M}:zL fa fuel (.exprM m) ρ=(vj fa m ρ).map fun x=>(.nx,x.2):=rfl
@[simp] theorem zrY{i:Nat}{m:M}:zL fa fuel (.asgM i m) ρ=(vj fa m ρ).bind fun x=>if x.1.lent|| !free x.2 i then none else some (.nx,x.2.set i (some (.val (zN x.1)))):=rfl
@[simp] theorem zrZ{c:E}{m:M}{a b:Ss}:zL fa fuel (.ifO c m a b) ρ=(zF (zP fa) c ρ).bind fun k=>if k then zr fa fuel a ρ else (vj fa m ρ).bind fun x=>(yB x.1).bind fun k=>if k then zr fa fuel a x.2 else zr fa fuel b x.2:=rfl
noncomputable def zcm(ρ:Env)(xs:List AV):Ans->Option (SV×Env)
 | .ok r outs=>if r.fine&&outs.all wg then (xR ρ xs outs).map fun ρ'=>(r,ρ') else none
 | .ex _=>none
@[simp] theorem zr0{xs:List AV}{r:SV}{outs:List D}:zcm ρ xs (.ok r outs)=if r.fine&&outs.all wg then (xR ρ xs outs).map fun ρ'=>(r,ρ') else none:=rfl
@[simp] theorem zr1{f:Nat}{ma:MA}:vj fa (.call f ma) ρ=(wC (zP fa) ma ρ).bind fun xs=>(fa f (xs.map Zh)).bind (zcm ρ xs):=rfl
noncomputable def zcn(p:Prim)(k:Option (SV×Env)):SV->Option (SV×Env)
 | .val d=>if plain d then k.bind fun y=>(zh p [d,zN y.1]).map fun z=>(z,y.2) else none
 |_=>none
@[simp] theorem zr2{p:Prim}{k:Option (SV×Env)}{d:D}:zcn p k (.val d)=if plain d then k.bind fun y=>(zh p [d,zN y.1]).map fun z=>(z,y.2) else none:=rfl
@[simp] theorem zr3{p:Prim}{a:E}{m:M}:vj fa (.op p a m) ρ=(zm (zP fa) a ρ).bind (zcn p (vj fa m ρ)):=rfl
@[simp] theorem zr4:wC fn .nil ρ=some []:=rfl
@[simp] theorem zr5{c:E}{r:MA}:wC fn (.e c r) ρ=(zm fn c ρ).bind fun x=>(wP x).bind fun a=>(wC fn r ρ).map (a:: ·):=rfl
noncomputable def Jn:Option (Option SV)->Option D
 |some (some x)=>x.cell
 |_=>none
@[simp] theorem zr6{i:Nat}:Zg ρ i=Jn ρ[i]? :=by
 unfold Zg Jn
 rcases h:ρ[i]? with _|_|(d|⟨_|_,d⟩|d)<;>rfl
@[simp] theorem zr7{d:D}:Jn (some (some (.obj true d)))=some d:=rfl
@[simp] theorem zr8{d:D}:Jn (some (some (.io d)))=some d:=rfl
@[simp] theorem zr9{i:Nat}{r:MA}:wC fn (.s i r) ρ=(Zg ρ i).bind fun d=>if Zf d then (wC fn r ρ).map (.s i d:: ·) else none:=rfl
@[simp] theorem zsa{t:Bool}{r:MA}:wC fn (.n t r) ρ=(wC fn r ρ).map (.n t:: ·):=rfl
@[simp] theorem zsb:xR ρ [] []=some ρ:=rfl
@[simp] theorem zsc{i:Nat}{d d':D}{r:List AV}{ds:List D}:xR ρ (.s i d::r) (d'::ds)=xR (VG ρ i d') r ds:=rfl
@[simp] theorem zsd{t:Bool}{d':D}{r:List AV}{ds:List D}:xR ρ (.n t::r) (d'::ds)=xR ρ r ds:=rfl
@[simp] theorem zse{d:D}{r:List AV}{ds:List D}:xR ρ (.e d::r) ds=xR ρ r ds:=rfl
@[simp] theorem zsf{d:List D}{r:List AV}{ds:List D}:xR ρ (.l d::r) ds=xR ρ r ds:=rfl
noncomputable def Jo(ρ:Env)(i:Nat)(d:D):Option (Option SV)->Env
 |some (some x)=>ρ.set i (some (x.put d))
 |_=>ρ
@[simp] theorem zsg{i:Nat}{d:D}:VG ρ i d=Jo ρ i d ρ[i]? :=by
 unfold VG Jo
 rcases h:ρ[i]? with _|_|(d|⟨_|_,d⟩|d)<;>rfl
@[simp] theorem zsh{i:Nat}{d d0:D}:Jo ρ i d (some (some (.obj true d0)))=ρ.set i (some (.obj true d)):=rfl
@[simp] theorem zsi{i:Nat}{d d0:D}:Jo ρ i d (some (some (.io d0)))=ρ.set i (some (.io d)):=rfl
@[simp] theorem zsj{d:D}:Zh (.e d)=d:=rfl
@[simp] theorem zsk{d:List D}:Zh (.l d)= .lst d:=rfl
@[simp] theorem zsl{i:Nat}{d:D}:Zh (.s i d)=d:=rfl
@[simp] theorem zsm{t:Bool}:Zh (.n t)= .dct t [] []:=rfl
@[simp] theorem zsn{l:List D}:wP (.val (.tup l))=if plain (.tup l) then some (.e (.tup l)) else none:=rfl
@[simp] theorem zso{i:Int}:wP (.val (.int i))=some (.e (.int i)):=by simp[wP,plain]
@[simp] theorem zsp{i:Bool}:wP (.val (.bl i))=some (.e (.bl i)):=by simp[wP,plain]
@[simp] theorem zsq{l:List D}:wP (.val (.lst l))=if xa l then some (.l l) else none:=rfl
@[simp] theorem zsr{o:Bool}{l:List D}:wP (.obj o (.lst l))=if xa l then some (.l l) else none:=rfl
@[simp] theorem zss{t:Bool}{ks vs:List D}:Zf (.dct t ks vs)=xa vs:=rfl
@[simp] theorem zst{t:Bool}{ks vs:List D}:wg (.dct t ks vs)=xa vs:=rfl
@[simp] theorem zsu{vs:List D}:wg (.lst vs)=xa vs:=rfl
@[simp] theorem zsv{d:D}:SV.fine (.val d)=plain d:=rfl
@[simp] theorem zsw{d:D}:SV.fine (.obj true d)=wg d:=rfl
@[simp] theorem zsx{e:E}:zL fa fuel (.ret e) ρ=(zm (zP fa) e ρ).bind fun r=>if r.lent then none else some (.rt r,ρ):=rfl
noncomputable def qh(ρ:Env)(i:Nat):Option (Option SV)->Option (Fl×Env)
 |some (some (.val d))=>some (.rt (.val d),ρ)
 |some (some (.obj _ d))=>some (.rt (.obj true d),ρ.set i none)
 |_=>none
@[simp] theorem zsy{i:Nat}{d:D}:qh ρ i (some (some (.val d)))=some (.rt (.val d),ρ):=rfl
@[simp] theorem zsz{i:Nat}{o:Bool}{d:D}:qh ρ i (some (some (.obj o d)))=some (.rt (.obj true d),ρ.set i none):=rfl
@[simp] theorem zsA{i:Nat}:zL fa fuel (.retV i) ρ=qh ρ i ρ[i]? :=by
 rw[zaV]
 rcases h:ρ[i]? with _|_|(d|⟨o,d⟩|d)<;>rfl
@[simp] theorem zsB:zL fa fuel .retN ρ=some (.rt (.val .non),ρ):=rfl
@[simp] theorem zsC{c:E}{a b:Ss}:zL fa fuel (.ifs c a b) ρ=(zF (zP fa) c ρ).bind fun k=>if k then zr fa fuel a ρ else zr fa fuel b ρ:=rfl
theorem jb{i:Nat}{g:Bool}{src:Es}{body:Ss}:zL fa fuel (.for_ i g src body) ρ=(yd (zP fa) src ρ).bind fun rs=>if rs.any SV.lent|| !free ρ i then none else (yl g rs).bind fun ds=>ym i (zr fa fuel body) ds ρ:=rfl
theorem zkN{i j:Nat}{body:Ss}:zL fa fuel (.forK i j body) ρ=if free ρ i then (YH ρ j).bind fun ks=>(ym i (zr fa fuel body) ks ρ).bind VJ else none:=rfl
@[simp] theorem zsD:VJ (.nx,ρ)=some (.nx,ρ):=rfl
theorem vn{i j:Nat}{body:Ss}:zL fa fuel (.forV i j body) ρ=if free ρ i then (Zi ρ j).bind fun x=>ym i (zr fa fuel body) x.1 x.2 else none:=rfl
theorem ZB{c:E}{body:Ss}:zL fa fuel (.while_ c body) ρ=xS (zF (zP fa) c) (zr fa fuel body) fuel ρ:=rfl
noncomputable def Jp(ρ:Env)(j:Nat):Option (Option SV)->Env
 |some (some (.obj true d))=>ρ.set j (some (.val d))
 |_=>ρ
@[simp] theorem zsE{j:Nat}:vT ρ j=Jp ρ j ρ[j]? :=by
 unfold vT Jp
 rcases h:ρ[j]? with _|_|(d|⟨_|_,d⟩|d)<;>rfl
@[simp] theorem zsF{j:Nat}{d:D}:Jp ρ j (some (some (.val d)))=ρ:=rfl
@[simp] theorem zsG{j:Nat}{d:D}:Jp ρ j (some (some (.obj true d)))=ρ.set j (some (.val d)):=rfl
@[simp] theorem zsH{js:List Nat}{s:S}:zL fa fuel (.frz js s) ρ=zL fa fuel s (js.foldl vT ρ):=rfl
@[simp] theorem zsI:zL fa fuel .brk ρ=some (.br,ρ):=rfl
@[simp] theorem zsJ:zL fa fuel .cnt ρ=some (.ct,ρ):=rfl
@[simp] theorem zsK:zL fa fuel .pass ρ=some (.nx,ρ):=rfl
@[simp] theorem zsL:zL fa fuel .stop ρ=none:=rfl
@[simp] theorem zsM:zr fa fuel .nil ρ=some (.nx,ρ):=rfl
noncomputable def andThen(x:Fl×Env)(k:Env->Option (Fl×Env)):Option (Fl×Env):=match x.1 with
 | .nx=>k x.2
 |_=>some x
@[simp] theorem zsN{ρ:Env}{k:Env->Option (Fl×Env)}:andThen (.nx,ρ) k=k ρ:=rfl
@[simp] theorem zsO{ρ:Env}{k:Env->Option (Fl×Env)}:andThen (.br,ρ) k=some (.br,ρ):=rfl
@[simp] theorem zsP{ρ:Env}{k:Env->Option (Fl×Env)}:andThen (.ct,ρ) k=some (.ct,ρ):=rfl
@[simp] theorem zsQ{ρ:Env}{r:SV}{k:Env->Option (Fl×Env)}:andThen (.rt r,ρ) k=some (.rt r,ρ):=rfl
@[simp] theorem qi{s:S}{ss:Ss}:zr fa fuel (.cons s ss) ρ=(zL fa fuel s ρ).bind fun x=>andThen x (zr fa fuel ss):=by
 exact id rfl
noncomputable def vK:Option (Fl×Env)->Option SV
 |some (.rt r,_)=>some r
 |some (.nx,_)=>some (.val .non)
 |_=>none
@[simp] theorem zsR{r:SV}{ρ:Env}:vK (some (.rt r,ρ))=some r:=rfl
@[simp] theorem zsS{ρ:Env}:vK (some (.nx,ρ))=some (.val .non):=rfl
@[simp] theorem zsT:vK none=none:=rfl
@[simp] theorem zsU{c:Prop}[Decidable c]{a b:Option (Fl×Env)}:vK (if c then a else b)=if c then vK a else vK b:=by split<;>rfl
end
noncomputable def ZC:Option (Option SV)->Option SV
 |some (some (.val d))=>some (.val d)
 |some (some (.obj _ d))=>some (.obj false d)
 |some (some (.io d))=>some (.obj false d)
 |_=>none
@[simp] theorem zsV{ρ:Env}{i:Nat}:look ρ i=ZC ρ[i]? :=by
 unfold look ZC
 rcases h:ρ[i]? with _|_|(d|⟨o,d⟩|d)<;>rfl
@[simp] theorem zsW{d:D}:ZC (some (some (.val d)))=some (.val d):=rfl
@[simp] theorem zsX{o:Bool}{d:D}:ZC (some (some (.obj o d)))=some (.obj false d):=rfl
@[simp] theorem zsY{d:D}:ZC (some (some (.io d)))=some (.obj false d):=rfl
@[simp] theorem zsZ:ZC (some none)=none:=rfl
@[simp] theorem zkO{d:D}:zN (.val d)=d:=rfl
@[simp] theorem zkP{o:Bool}{d:D}:zN (.obj o d)=d:=rfl
@[simp] theorem Jq{d:D}:toD (.val d)=some d:=rfl
@[simp] theorem qj{d:D}:toD (.obj true d)=some d:=rfl
@[simp] theorem zs0:xL []=some []:=rfl
@[simp] theorem zs1{r:SV}{rs:List SV}:xL (r::rs)=(toD r).bind fun d=>(xL rs).map (d:: ·):=rfl
@[simp] theorem zs3{d:D}:SV.lent (.val d)=false:=rfl
@[simp] theorem zs4{d:D}:SV.lent (.obj true d)=false:=rfl
@[simp] theorem zs5{d:D}:SV.lent (.obj false d)=true:=rfl
@[simp] theorem zs6{i:Int}:yg i=some (.val (.int i)):=rfl
@[simp] theorem zs7{i:Bool}:yF i=some (.val (.bl i)):=rfl
@[simp] theorem zs8{b:Bool}:yB (.val (.bl b))=some b:=rfl
@[simp] theorem zs9{i:Int}:yB (.val (.int i))=some (i != 0):=rfl
@[simp] theorem zta:yB (.val .non)=some false:=rfl
@[simp] theorem ztb{l:List D}:yB (.val (.tup l))=some (!l.isEmpty):=rfl
@[simp] theorem ztc{l:List D}:yB (.val (.lst l))=some (!l.isEmpty):=rfl
@[simp] theorem ztd{o:Bool}{l:List D}:yB (.obj o (.lst l))=some (!l.isEmpty):=rfl
theorem zkQ{rs:List SV}{r:Option SV}(h:rs.any SV.lent=false):wr rs r=r:=by
 unfold wr;rw[h];cases r<;>rfl
theorem zkR{rs:List SV}{x:SV}(h:x.plain=true):wr rs (some x)=some x:=by
 unfold wr;simp[h]
@[simp] theorem zte{rs:List SV}{x:Option SV}(h:rs.any SV.lent=false):wr rs x=x:=zkQ h
@[simp] theorem ztf{rs:List SV}{x:SV}(h:x.plain=true):wr rs (some x)=some x:=zkR h
@[simp] theorem ztg{d:D}:SV.plain (.val d)=plain d:=rfl
@[simp] theorem zth{o:Bool}{d:D}:SV.plain (.obj o d)=wg d:=rfl
@[simp] theorem zti{i:Int}:plain (.int i)=true:=by simp[plain]
@[simp] theorem ztj{i:Bool}:plain (.bl i)=true:=by simp[plain]
@[simp] theorem ztk:plain .non=true:=by simp[plain]
@[simp] theorem ztl{i:Str}:plain (.str i)=true:=by simp[plain]
@[simp] theorem ztm{l:List D}:plain (.tup l)=xa l:=rfl
@[simp] theorem ztn{l:List D}:plain (.lst l)=false:=rfl
@[simp] theorem zto{t:Bool}{a b:List D}:plain (.dct t a b)=false:=rfl
@[simp] theorem ztp:xa []=true:=rfl
@[simp] theorem ztq{x:D}{xs:List D}:xa (x::xs)=(plain x&&xa xs):=rfl
@[simp] theorem ztr{P:Nat->Option Fn}{fuel n:Nat}:zP (zq P fuel n)=zG P fuel n:=rfl
theorem zco: ∀(k:Nat) (ds:List D),wj [] k ds=ds.map fun d=>some (.val d)
 |_,[]=>rfl
 |k,d::r=>by simp[wj,zco (k+1) r]
theorem zkS(x:Option (Fl×Env)):(match ju [] x with|some (.ok r [])=>some r|_=>none)=vK x:=by
 rcases x with _|⟨_|_|_|r,ρ⟩<;>rfl
theorem zkT{P:Nat->Option Fn}{fuel n i:Nat}{F:Fn}{ds:List D}(h:P i=some F)(hl:ds.length=F.np)(hio:F.io=[])(hx:F.xb=none:=by rfl):
  zG P fuel (n+1) i ds=vK (zr (zq P fuel n) fuel F.body (ds.map (fun d=>some (.val d))++List.replicate (F.nl-F.np) none)):=by
 unfold zG zP
 rw[zq,h]
 simp only[Option.bind_some,if_pos hl,hio,zco,hx]
 exact zkS _
@[simp] theorem zts{a b:Int}:zh .add [.int a,.int b]=some (.val (.int (a+b))):=rfl
theorem Jr{a b:List D}(h:a.length+b.length<=line):zh .add [.lst a,.lst b]=some (.obj true (.lst (a++b))):=by simp only[zh,Vx,if_pos h]
@[simp] theorem ztt{a b:Int}:zh .sub [.int a,.int b]=some (.val (.int (a-b))):=rfl
theorem zkU{a b:Int}(h: -(2 ^ 64)<a/\a<2 ^ 64):zh .mul [.int a,.int b]=some (.val (.int (a*b))):=by simp only[zh,Yo,if_pos (Or.inl h:_\/(-(2 ^ 64)<b/\b<2 ^ 64)),yg]
theorem zkV{a b:Int}(h: -(2 ^ 64)<b/\b<2 ^ 64):zh .mul [.int a,.int b]=some (.val (.int (a*b))):=by simp only[zh,Yo,if_pos (Or.inr h:(-(2 ^ 64)<a/\a<2 ^ 64)\/_),yg]
theorem zkW{a b:Int}(h:0<b/\b<1073741824):zh .fdiv [.int a,.int b]=some (.val (.int (a/b))):=by simp only[zh,Vy,if_pos h,yg]
theorem ZD{a b:Int}(h:0<b):zh .mod [.int a,.int b]=some (.val (.int (a%b))):=by simp only[zh,Vz,if_pos h,yg]
@[simp] theorem ztu{a:Int}:zh .neg [.int a]=some (.val (.int (-a))):=rfl
theorem Js{a b:D}(h:zS 8 a=true)(h':zS 8 b=true):zh .eq [a,b]=some (.val (.bl (zV a b))):=by simp[zh,Yp,h,h']
theorem qk{a b:D}(h:zS 8 a=true)(h':zS 8 b=true):zh .ne [a,b]=some (.val (.bl (!zV a b))):=by simp[zh,Yq,h,h']
@[simp] theorem ztv{a b:Int}:zh .eq [.int a,.int b]=some (.val (.bl (a==b))):=by rw[Js rfl rfl,zV]
@[simp] theorem ztw{a b:Int}:zh .ne [.int a,.int b]=some (.val (.bl (a != b))):=by rw[qk rfl rfl,zV];rfl
@[simp] theorem ztx{a b:Int}:zh .lt [.int a,.int b]=some (.val (.bl (decide (a<b)))):=rfl
@[simp] theorem zty{a b:Int}:zh .le [.int a,.int b]=some (.val (.bl (decide (a<=b)))):=rfl
@[simp] theorem ztz{a b:Int}:zh .gt [.int a,.int b]=some (.val (.bl (decide (b<a)))):=rfl
@[simp] theorem ztA{a b:Int}:zh .ge [.int a,.int b]=some (.val (.bl (decide (b<=a)))):=rfl
@[simp] theorem ztB{d:D}:zh .isN [d]=some (.val (.bl (vg d))):=rfl
@[simp] theorem ztC{d:D}:zh .notN [d]=some (.val (.bl (!vg d))):=rfl
@[simp] theorem ztD{l:List D}:zh .len [.tup l]=some (.val (.int l.length)):=rfl
@[simp] theorem ztE{l:List D}:zh .len [.lst l]=some (.val (.int l.length)):=rfl
@[simp] theorem ztF{i:Int}:zh .abs [.int i]=some (.val (.int (if i<0 then -i else i))):=rfl
@[simp] theorem zcp{i j:Int}:zh .min2 [.int i,.int j]=some (.val (.int (if j<i then j else i))):=rfl
@[simp] theorem Jt{i j:Int}:zh .max2 [.int i,.int j]=some (.val (.int (if j>i then j else i))):=rfl
theorem zkX{r:List Int}:zh .sumL [.lst (r.map D.int)]=some (.val (.int r.sum)):=by
 have: ∀l:List Int,ints? (l.map D.int)=some l:=fun l=>by induction l with
  |nil=>rfl
  |cons x l ih=>simp[ints?,ih]
 simp only[zh,VF,this,Option.bind_some,yg]
@[simp] theorem ztG{b:Bool}:zh .intOf [.bl b]=some (.val (.int (if b then 1 else 0))):=rfl
@[simp] theorem ztH{b:Int}:zh .intOf [.int b]=some (.val (.int b)):=rfl
@[simp] theorem ztI{l:List D}:zh .toList [.tup l]=some (.obj true (.lst l)):=rfl
@[simp] theorem ztJ{l:List D}:zh .toList [.lst l]=some (.obj true (.lst l)):=rfl
@[simp] theorem ztK{l:List D}:zh .toTup [.tup l]=some (.val (.tup l)):=rfl
@[simp] theorem ztL{l:List D}:zh .toTup [.lst l]=some (.val (.tup l)):=rfl
@[simp] theorem ztM{t:Ty}{d:D}:zh (.inst t) [d]=some (.val (.bl (wA t d))):=rfl
theorem zkY{l:List D}{i:Int}:zh .idx [.tup l,.int i]=(atI l i).map .val:=rfl
theorem jI{l:List D}{i:Int}:zh .idx [.lst l,.int i]=(atI l i).map .val:=rfl
theorem atI_nat{α:Type}{l:List α}{k:Nat}(h:k<l.length):atI l (k:Int)=some l[k]:=by
 unfold atI ixN
 rw[if_pos (by omega),if_pos (by omega)]
 simp[h]
@[simp] theorem ztN{a b:D}:zh .idx [.tup [a,b],.int 0]=some (.val a):=rfl
@[simp] theorem ztO{a b:D}:zh .idx [.tup [a,b],.int 1]=some (.val b):=rfl
@[simp] theorem ztP{b:Bool}:wA .bool (.bl b)=true:=rfl
@[simp] theorem ztQ{b:Int}:wA .bool (.int b)=false:=rfl
@[simp] theorem ztR{b:Int}:wA .int (.int b)=true:=rfl
@[simp] theorem ztS{l:List D}:wA .tuple (.tup l)=true:=rfl
@[simp] theorem ztT{l:List D}:wA .list (.lst l)=true:=rfl
@[simp] theorem ztU:vg .non=true:=rfl
@[simp] theorem ztV{i:Int}:vg (.int i)=false:=rfl
@[simp] theorem ztW{l:List D}:vg (.tup l)=false:=rfl
@[simp] theorem ztX{l:List D}:vg (.lst l)=false:=rfl
theorem ql{α:Type}{f:α->D}{test:D->Option Bool}{elt:D->Option SV}{t:α->Bool}{e:α->D}: ∀{xs:List α},(∀x∈xs,test (f x)=some (t x))->(∀x∈xs,t x=true->(elt (f x)).bind toD=some (e x))->
  xg test elt (xs.map f)=some ((xs.filter t).map e)
 |[],_,_=>rfl
 |d::r,h1,h2=>by
  have ih:=ql (xs:=r) (fun x hx=>h1 x (List.mem_cons_of_mem _ hx)) (fun x hx=>h2 x (List.mem_cons_of_mem _ hx))
  rw[List.map_cons,xg,h1 d List.mem_cons_self]
  simp only[Option.bind_some]
  cases ht:t d with
  |false=>simp[ih,ht]
  |true=>
   have h3:=h2 d List.mem_cons_self ht
   rw[jo1] at h3
   obtain⟨x,e1,e2⟩:=h3
   simp[ih,ht,e1,e2]
theorem jc{fn:Nat->List D->Option SV}{ρ:Env}{g:Bool}{src:Es}{cond elt:E}{rs:List SV}{α:Type}{f:α->D}{xs:List α}(t:α->Bool)(e:α->D)(h:yd fn src ρ=some rs)(hi:yl g rs=some (xs.map f))(hl:xs.length<=line)
  (ht: ∀x∈xs,zF fn cond (some (.val (f x))::ρ)=some (t x)) (he: ∀x∈xs,t x=true->(zm fn elt (some (.val (f x))::ρ)).bind toD=some (e x)):
  zm fn (.comp g src cond elt) ρ=some (.obj true (.lst ((xs.filter t).map e))):=by
 rw[zkI,h]
 simp only[Option.bind_some,hi,List.length_map,if_pos hl]
 rw[ql ht he];rfl
theorem Ju{fn:Nat->List D->Option SV}{ρ:Env}{g:Bool}{src:Es}{elt:E}{rs:List SV}{α:Type}{f:α->D}{xs:List α}(e:α->D)(h:yd fn src ρ=some rs)(hi:yl g rs=some (xs.map f))(hl:xs.length<=line)
  (he: ∀x∈xs,(zm fn elt (some (.val (f x))::ρ)).bind toD=some (e x)):
  zm fn (.comp g src (.bl true) elt) ρ=some (.obj true (.lst (xs.map e))):=by
 have:=jc (fun _=>true) e h hi hl (fun _ _=>zkJ) (fun x hx _=>he x hx)
 have e2:xs.filter (fun _=>true)=xs:=List.filter_eq_self.mpr fun _ _=>rfl
 rwa [e2] at this
theorem zcq{i:Nat}{body:Env->Option (Fl×Env)}(I:List D->Env->Prop){ds:List D}: ∀{post pre:List D} {ρ:Env},ds=pre++post->I pre ρ->
  (∀pre d post ρ,ds=pre++d::post->I pre ρ->∃fl ρ',body (ρ.set i (some (.val d)))=some (fl,ρ')/\(fl= .nx\/fl= .ct)/\I (pre++[d]) ρ')->
  ∃ρ',ym i body post ρ=some (.nx,ρ')/\I ds ρ'
 |[],pre,ρ,e,h,_=>⟨ρ,rfl,by rw[e];simpa using h⟩
 |d::post,pre,ρ,e,h,st=>by
  obtain⟨fl,ρ1,e1,e2,h1⟩:=st pre d post ρ e h
  obtain⟨ρ',e3,h3⟩:=zcq I (ds:=ds) (post:=post) (pre:=pre++[d]) (ρ:=ρ1) (by simp[e]) h1 st
  refine⟨ρ',?_,h3⟩
  rw[ym,e1]
  simp only[Option.bind_some]
  rcases e2 with rfl|rfl<;>exact e3
theorem zcr{i:Nat}{body:Env->Option (Fl×Env)}(I:List D->Env->Prop)(Q:SV->Prop){ds:List D}: ∀{post pre:List D} {ρ:Env},ds=pre++post->I pre ρ->
  (∀pre d post ρ,ds=pre++d::post->I pre ρ->∃fl ρ',body (ρ.set i (some (.val d)))=some (fl,ρ')/\(((fl= .nx\/fl= .ct)/\I (pre++[d]) ρ')\/∃r,fl= .rt r/\Q r))->
  ∃fl ρ',ym i body post ρ=some (fl,ρ')/\((fl= .nx/\I ds ρ')\/∃r,fl= .rt r/\Q r)
 |[],pre,ρ,e,h,_=>⟨_,ρ,rfl,.inl ⟨rfl,by rw[e];simpa using h⟩⟩
 |d::post,pre,ρ,e,h,st=>by
  obtain⟨fl,ρ1,e1,e2⟩:=st pre d post ρ e h
  rcases e2 with ⟨e2,h1⟩|⟨r,rfl,q⟩
  ·obtain⟨fl',ρ',e3,h3⟩:=zcr I Q (ds:=ds) (post:=post) (pre:=pre++[d]) (ρ:=ρ1) (by simp[e]) h1 st
   refine⟨fl',ρ',?_,h3⟩
   rw[ym,e1]
   simp only[Option.bind_some]
   rcases e2 with rfl|rfl<;>exact e3
  ·refine⟨_,ρ1,?_,.inr ⟨r,rfl,q⟩⟩
   rw[ym,e1];rfl
theorem zkZ{i:Nat}{body:Env->Option (Fl×Env)}(I:Nat->Env->Prop){ds:List D}{ρ:Env}(h0:I 0 ρ)
  (st: ∀k ρ (hk:k<ds.length),I k ρ->∃fl ρ',body (ρ.set i (some (.val ds[k])))=some (fl,ρ')/\(fl= .nx\/fl= .ct)/\I (k+1) ρ'):
  ∃ρ',ym i body ds ρ=some (.nx,ρ')/\I ds.length ρ':=by
 refine zcq (fun pre ρ=>I pre.length ρ) (ds:=ds) (post:=ds) (pre:=[]) rfl h0 fun pre d post ρ e h=>?_
 subst e
 have hk:pre.length<(pre++d::post).length:=by simp
 obtain⟨fl,ρ',h1,h2,h3⟩:=st pre.length ρ hk h
 refine⟨fl,ρ',?_,h2,by simpa using h3⟩
 rw[<-h1];simp
theorem zk0{i:Nat}{body:Env->Option (Fl×Env)}(I:Nat->Env->Prop)(Q:SV->Prop){ds:List D}{ρ:Env}(h0:I 0 ρ)
  (st: ∀k ρ (hk:k<ds.length),I k ρ->∃fl ρ',body (ρ.set i (some (.val ds[k])))=some (fl,ρ')/\(((fl= .nx\/fl= .ct)/\I (k+1) ρ')\/∃r,fl= .rt r/\Q r)):
  ∃fl ρ',ym i body ds ρ=some (fl,ρ')/\((fl= .nx/\I ds.length ρ')\/∃r,fl= .rt r/\Q r):=by
 refine zcr (fun pre ρ=>I pre.length ρ) Q (ds:=ds) (post:=ds) (pre:=[]) rfl h0 fun pre d post ρ e h=>?_
 subst e
 have hk:pre.length<(pre++d::post).length:=by simp
 obtain⟨fl,ρ',h1,h2⟩:=st pre.length ρ hk h
 refine⟨fl,ρ',?_,by simpa using h2⟩
 rw[<-h1];simp
theorem qm{i:Nat}{body:Env->Option (Fl×Env)}{α:Type}{f:α->D}{xs:List α}(I:Nat->Env->Prop){ρ:Env}(h0:I 0 ρ)
  (st: ∀k ρ (hk:k<xs.length),I k ρ->∃fl ρ',body (ρ.set i (some (.val (f xs[k]))))=some (fl,ρ')/\(fl= .nx\/fl= .ct)/\I (k+1) ρ'):
  ∃ρ',ym i body (xs.map f) ρ=some (.nx,ρ')/\I xs.length ρ':=by
 have:=zkZ (i:=i) (body:=body) I (ds:=xs.map f) (ρ:=ρ) h0 fun k ρ hk h=>by
  obtain⟨fl,ρ',h1,h2⟩:=st k ρ (by simpa using hk) h
  exact⟨fl,ρ',by rw[List.getElem_map];exact h1,h2⟩
 simpa using this
theorem qo{i:Nat}{body:Env->Option (Fl×Env)}{α:Type}{f:α->D}{xs:List α}(I:Nat->Env->Prop)(Q:SV->Prop){ρ:Env}(h0:I 0 ρ)
  (st: ∀k ρ (hk:k<xs.length),I k ρ->∃fl ρ',body (ρ.set i (some (.val (f xs[k]))))=some (fl,ρ')/\(((fl= .nx\/fl= .ct)/\I (k+1) ρ')\/∃r,fl= .rt r/\Q r)):
  ∃fl ρ',ym i body (xs.map f) ρ=some (fl,ρ')/\((fl= .nx/\I xs.length ρ')\/∃r,fl= .rt r/\Q r):=by
 have:=zk0 (i:=i) (body:=body) I Q (ds:=xs.map f) (ρ:=ρ) h0 fun k ρ hk h=>by
  obtain⟨fl,ρ',h1,h2⟩:=st k ρ (by simpa using hk) h
  exact⟨fl,ρ',by rw[List.getElem_map];exact h1,h2⟩
 simpa using this
theorem zcs{i:Nat}{body:Env->Option (Fl×Env)}(I:Nat->Env->Prop){a:Int}{m:Nat}{ρ:Env}(h0:I 0 ρ)
  (st: ∀k ρ,k<m->I k ρ->∃fl ρ',body (ρ.set i (some (.val (.int (a+(k:Int))))))=some (fl,ρ')/\(fl= .nx\/fl= .ct)/\I (k+1) ρ'):
  ∃ρ',ym i body ((List.range m).map fun (k:Nat)=>D.int (a+(k:Int))) ρ=some (.nx,ρ')/\I m ρ':=by
 have:=qm (i:=i) (body:=body) (f:=fun (k:Nat)=>D.int (a+(k:Int))) (xs:=List.range m) I (ρ:=ρ) h0 fun k ρ hk h=>by
  obtain⟨fl,ρ',h1,h2⟩:=st k ρ (by simpa using hk) h
  exact⟨fl,ρ',by rw[List.getElem_range];exact h1,h2⟩
 simpa using this
theorem zk1{i:Nat}{body:Env->Option (Fl×Env)}(I:Nat->Env->Prop)(Q:SV->Prop){a:Int}{m:Nat}{ρ:Env}(h0:I 0 ρ)
  (st: ∀k ρ,k<m->I k ρ->∃fl ρ',body (ρ.set i (some (.val (.int (a+(k:Int))))))=some (fl,ρ')/\(((fl= .nx\/fl= .ct)/\I (k+1) ρ')\/∃r,fl= .rt r/\Q r)):
  ∃fl ρ',ym i body ((List.range m).map fun (k:Nat)=>D.int (a+(k:Int))) ρ=some (fl,ρ')/\((fl= .nx/\I m ρ')\/∃r,fl= .rt r/\Q r):=by
 have:=qo (i:=i) (body:=body) (f:=fun (k:Nat)=>D.int (a+(k:Int))) (xs:=List.range m) I Q (ρ:=ρ) h0 fun k ρ hk h=>by
  obtain⟨fl,ρ',h1,h2⟩:=st k ρ (by simpa using hk) h
  exact⟨fl,ρ',by rw[List.getElem_range];exact h1,h2⟩
 simpa using this
theorem Xi{test:Env->Option Bool}{body:Env->Option (Fl×Env)}(I:Nat->Env->Prop)(J:Env->Prop): ∀{m n:Nat} {ρ:Env},m<n->I m ρ->
  (∀m ρ,I m ρ->(test ρ=some false/\J ρ)\/(test ρ=some true/\∃fl ρ' m',body ρ=some (fl,ρ')/\(fl= .nx\/fl= .ct)/\m'<m/\I m' ρ'))->
  ∃ρ',xS test body n ρ=some (.nx,ρ')/\J ρ'
 |m,0,ρ,hn,_,_=>by omega
 |m,n+1,ρ,hn,h,st=>by
  rcases st m ρ h with ⟨e,j⟩|⟨e,fl,ρ1,m',e1,e2,hm,h1⟩
  ·exact⟨ρ,by rw[xS,e];rfl,j⟩
  ·obtain⟨ρ',e3,j⟩:=Xi I J (m:=m') (n:=n) (ρ:=ρ1) (by omega) h1 st
   refine⟨ρ',?_,j⟩
   rw[xS,e]
   simp only[Option.bind_some,if_true,e1]
   rcases e2 with rfl|rfl<;>exact e3
theorem zct{test:Env->Option Bool}{body:Env->Option (Fl×Env)}(I:Nat->Env->Prop)(J:Env->Prop)(Q:SV->Prop): ∀{m n:Nat} {ρ:Env},m<n->I m ρ->
  (∀m ρ,I m ρ->(test ρ=some false/\J ρ)\/(test ρ=some true/\∃fl ρ',body ρ=some (fl,ρ')/\(((fl= .nx\/fl= .ct)/\∃m',m'<m/\I m' ρ')\/∃r,fl= .rt r/\Q r)))->
  ∃fl ρ',xS test body n ρ=some (fl,ρ')/\((fl= .nx/\J ρ')\/∃r,fl= .rt r/\Q r)
 |m,0,ρ,hn,_,_=>by omega
 |m,n+1,ρ,hn,h,st=>by
  rcases st m ρ h with ⟨e,j⟩|⟨e,fl,ρ1,e1,⟨e2,m',hm,h1⟩|⟨r,rfl,q⟩⟩
  ·exact⟨_,ρ,by rw[xS,e];rfl,.inl ⟨rfl,j⟩⟩
  ·obtain⟨fl',ρ',e3,j⟩:=zct I J Q (m:=m') (n:=n) (ρ:=ρ1) (by omega) h1 st
   refine⟨fl',ρ',?_,j⟩
   rw[xS,e]
   simp only[Option.bind_some,if_true,e1]
   rcases e2 with rfl|rfl<;>exact e3
  ·refine⟨_,ρ1,?_,.inr ⟨r,rfl,q⟩⟩
   rw[xS,e]
   simp only[Option.bind_some,if_true,e1]
section
variable {fa:Nat->List D->Option Ans} {fuel:Nat} {ρ:Env}
noncomputable def Jv(k:Env->Option (FlX×Env)):FlX×Env->Option (FlX×Env)
 |(.fl .nx,ρ)=>k ρ
 |x=>some x
@[simp] theorem ztY{k:Env->Option (FlX×Env)}:Jv k (.fl .nx,ρ)=k ρ:=rfl
@[simp] theorem ztZ{k:Env->Option (FlX×Env)}{r:SV}:Jv k (.fl (.rt r),ρ)=some (.fl (.rt r),ρ):=rfl
@[simp] theorem zt0{k:Env->Option (FlX×Env)}{c:Nat}:Jv k (.ex c,ρ)=some (.ex c,ρ):=rfl
@[simp] theorem zt1:xM fa fuel .nil ρ=some (.fl .nx,ρ):=by rw[xM]
@[simp] theorem zt2{t:T}{ts:Ts}:xM fa fuel (.cons t ts) ρ=(xx fa fuel t ρ).bind (Jv (xM fa fuel ts)):=by
 rw[xM]
 congr 1
 funext x
 rcases x with ⟨⟨_|_|_|_⟩|_,_⟩<;>rfl
@[simp] theorem zt3{s:S}:xx fa fuel (.pl s) ρ=(zL fa fuel s ρ).map fun x=>(.fl x.1,x.2):=by rw[xx]
@[simp] theorem zt4{c:Nat}:xx fa fuel (.raise c) ρ=some (.ex c,ρ):=by rw[xx]
@[simp] theorem zt5:xx fa fuel .stuck ρ=none:=by rw[xx]
@[simp] theorem zt6{c:E}{a b:Ts}:xx fa fuel (.ifs c a b) ρ=(zF (zP fa) c ρ).bind fun k=>if k then xM fa fuel a ρ else xM fa fuel b ρ:=by rw[xx]
noncomputable def qp(ρ:Env):Ans->Option (FlX×Env)
 | .ok _ []=>some (.fl .nx,ρ)
 | .ex c=>some (.ex c,ρ)
 |_=>none
@[simp] theorem zt7{r:SV}:qp ρ (.ok r [])=some (.fl .nx,ρ):=rfl
@[simp] theorem zt8{c:Nat}:qp ρ (.ex c)=some (.ex c,ρ):=rfl
@[simp] theorem zt9{i:Nat}{es:Es}:xx fa fuel (.callX i es) ρ=(vk fa i es ρ).bind (qp ρ):=by rw[xx];rfl
noncomputable def qq(ρ:Env):Ans->Option (FlX×Env)
 | .ok r []=>if r.lent then none else some (.fl (.rt r),ρ)
 | .ex c=>some (.ex c,ρ)
 |_=>none
@[simp] theorem zua{r:SV}:qq ρ (.ok r [])=if r.lent then none else some (.fl (.rt r),ρ):=rfl
@[simp] theorem zub{c:Nat}:qq ρ (.ex c)=some (.ex c,ρ):=rfl
@[simp] theorem zuc{i:Nat}{es:Es}:xx fa fuel (.retX i es) ρ=(vk fa i es ρ).bind (qq ρ):=by rw[xx];rfl
noncomputable def zcu(k:Nat)(ρ:Env):Ans->Option (FlX×Env)
 | .ok r []=>if r.lent|| !free ρ k then none else some (.fl .nx,ρ.set k (some r))
 | .ex c=>some (.ex c,ρ)
 |_=>none
@[simp] theorem zud{k c:Nat}:zcu k ρ (.ex c)=some (.ex c,ρ):=rfl
@[simp] theorem zue{k i:Nat}{es:Es}:xx fa fuel (.asgX k i es) ρ=(vk fa i es ρ).bind (zcu k ρ):=by rw[xx];rfl
noncomputable def zcv(neg:Bool)(a b:Option (FlX×Env))(ρ:Env):Ans->Option (FlX×Env)
 | .ok (.val (.bl k)) []=>if k != neg then a else b
 | .ex c=>some (.ex c,ρ)
 |_=>none
@[simp] theorem zuf{neg:Bool}{a b:Option (FlX×Env)}{c:Nat}:zcv neg a b ρ (.ex c)=some (.ex c,ρ):=rfl
@[simp] theorem zug{neg:Bool}{i:Nat}{es:Es}{a b:Ts}:xx fa fuel (.ifX neg i es a b) ρ=(vk fa i es ρ).bind (zcv neg (xM fa fuel a ρ) (xM fa fuel b ρ) ρ):=by rw[xx];rfl
noncomputable def qr(cs:List Nat)(h:Hd):FlX×Env->Option (FlX×Env)
 |(.ex c,ρ)=>if cs.contains c then kc c ρ h else none
 |x=>some x
@[simp] theorem zuh{cs:List Nat}{h:Hd}{f:Fl}:qr cs h (.fl f,ρ)=some (.fl f,ρ):=rfl
@[simp] theorem zui{cs:List Nat}{h:Hd}{c:Nat}:qr cs h (.ex c,ρ)=if cs.contains c then kc c ρ h else none:=rfl
@[simp] theorem zuj{b:Ts}{k:Nat}{cs:List Nat}{h:Hd}:xx fa fuel (.tryX b k cs h) ρ=(xM fa fuel b ρ).bind (qr cs h):=by
 rw[xx]
 congr 1
 funext x
 rcases x with ⟨_|_,_⟩<;>rfl
@[simp] theorem zuk{i:Nat}{es:Es}:vk fa i es ρ=(yd (zP fa) es ρ).bind fun rs=>if rs.any SV.lent then none else fa i (rs.map zN):=rfl
@[simp] theorem zul{r:SV}:VL (some (.fl (.rt r),ρ))=some (.ok r []):=rfl
@[simp] theorem zum:VL (some (.fl .nx,ρ))=some (.ok (.val .non) []):=rfl
@[simp] theorem zun{c:Nat}:VL (some (.ex c,ρ))=some (.ex c):=rfl
end
end L2.LW
namespace LK
open L2.LW
noncomputable def Xj:Ss:=(.cons (.ifs (.or (.prim (.inst .bool) (.cons (.var 0) .nil)) (.not (.prim (.inst .int) (.cons (.var 0) .nil)))) (.cons (.ret (.bl false))
  .nil) .nil)
  (.cons (.ret (.chain .le .le (.var 1) (.var 0) (.var 2)))
  .nil))
noncomputable def Xk:Ss:=(.cons (.ret (.and (.prim (.inst .tuple) (.cons (.var 0) .nil)) (.prim .eq (.cons (.prim .len (.cons (.var 0) .nil)) (.cons (.int 2) .nil)))))
  .nil)
noncomputable def Xl:Ss:=(.cons (.ret (.and (.call 1 (.cons (.var 0) .nil)) (.and (.call 0 (.cons (.prim .idx (.cons (.var 0) (.cons (.int 0) .nil))) (.cons (.int 0) (.cons (.int 7) .nil)))) (.call 0 (.cons (.prim .idx (.cons (.var 0) (.cons (.int 1) .nil))) (.cons (.int 0) (.cons (.int 7) .nil)))))))
  .nil)
noncomputable def Xm:Ss:=(.cons (.ret (.and (.call 1 (.cons (.var 0) .nil)) (.and (.call 0 (.cons (.prim .idx (.cons (.var 0) (.cons (.int 1) .nil))) (.cons (.int 1) (.cons (.int 4) .nil)))) (.call 0 (.cons (.prim .idx (.cons (.var 0) (.cons (.int 0) .nil))) (.cons (.int 0) (.cons (.prim .idx (.cons (.var 0) (.cons (.int 1) .nil))) .nil)))))))
  .nil)
noncomputable def Xn:Ss:=(.cons (.ret (.prim .all (.cons (.comp true (.cons (.int 1) (.cons (.prim .len (.cons (.var 0) .nil)) .nil)) (.bl true) (.prim .lt (.cons (.prim .idx (.cons (.var 1) (.cons (.prim .sub (.cons (.var 0) (.cons (.int 1) .nil))) .nil))) (.cons (.prim .idx (.cons (.var 1) (.cons (.var 0) .nil))) .nil)))) .nil)))
  .nil)
noncomputable def Xo:Ss:=(.cons (.ifs (.or (.not (.prim (.inst .tuple) (.cons (.var 0) .nil))) (.not (.chain .le .le (.int 1) (.prim .len (.cons (.var 0) .nil)) (.int 24)))) (.cons (.ret (.bl false))
  .nil) .nil)
  (.cons (.ret (.and (.prim .all (.cons (.comp false (.cons (.var 0) .nil) (.bl true) (.call 2 (.cons (.var 0) .nil))) .nil)) (.call 4 (.cons (.var 0) .nil))))
  .nil))
noncomputable def Xp:Ss:=(.cons (.ifs (.not (.call 5 (.cons (.var 0) .nil))) (.cons .stop
  .nil) .nil)
  (.cons (.retV 0)
  .nil))
noncomputable def Xq:Ss:=(.cons (.ifs (.not (.call 3 (.cons (.var 0) .nil))) (.cons .stop
  .nil) .nil)
  (.cons (.retV 0)
  .nil))
noncomputable def Xr:Ss:=(.cons (.ret (.tup (.cons (.prim .min2 (.cons (.prim .abs (.cons (.var 0) .nil)) (.cons (.prim .abs (.cons (.var 1) .nil)) .nil))) (.cons (.prim .max2 (.cons (.prim .abs (.cons (.var 0) .nil)) (.cons (.prim .abs (.cons (.var 1) .nil)) .nil))) .nil))))
  .nil)
noncomputable def Xs:Ss:=(.cons (.ret (.prim .eq (.cons (.call 9 (.cons (.prim .sub (.cons (.prim .idx (.cons (.var 2) (.cons (.int 0) .nil))) (.cons (.prim .idx (.cons (.var 1) (.cons (.int 0) .nil))) .nil))) (.cons (.prim .sub (.cons (.prim .idx (.cons (.var 2) (.cons (.int 1) .nil))) (.cons (.prim .idx (.cons (.var 1) (.cons (.int 1) .nil))) .nil))) .nil))) (.cons (.var 0) .nil))))
  .nil)
noncomputable def Xt:Ss:=(.cons (.ret (.comp false (.cons (.var 0) .nil) (.call 10 (.cons (.var 2) (.cons (.var 3) (.cons (.var 0) .nil)))) (.var 0)))
  .nil)
noncomputable def Xu:Ss:=(.cons (.ifs (.prim .lt (.cons (.var 1) (.cons (.prim .len (.cons (.var 0) .nil)) .nil))) (.cons (.ret (.prim .idx (.cons (.var 0) (.cons (.var 1) .nil))))
  .nil) .nil)
  (.cons (.ret (.int 0))
  .nil))
noncomputable def Xv:Ss:=(.cons (.ret (.prim .mod (.cons (.prim .mod (.cons (.prim .mul (.cons (.var 0) (.cons (.int 48271) .nil))) (.cons (.var 1) .nil))) (.cons (.var 2) .nil))))
  .nil)
noncomputable def Jw:Ss:=(.cons (.asg 12 (.prim .add (.cons (.prim .add (.cons (.call 13 (.cons (.var 0) (.cons (.prim .add (.cons (.prim .add (.cons (.var 1) (.cons (.int 2) .nil))) (.cons (.prim .mod (.cons (.prim .add (.cons (.var 10) (.cons (.prim .mul (.cons (.int 2) (.cons (.var 11) .nil))) .nil))) (.cons (.int 7) .nil))) .nil))) .nil))) (.cons (.prim .mul (.cons (.prim .mul (.cons (.int 31) (.cons (.var 10) .nil))) (.cons (.var 10) .nil))) .nil))) (.cons (.prim .mul (.cons (.prim .mul (.cons (.int 57) (.cons (.var 11) .nil))) (.cons (.var 11) .nil))) .nil))))
  (.cons (.ifs (.or (.prim .eq (.cons (.var 8) (.cons (.int 0) .nil))) (.prim .gt (.cons (.call 14 (.cons (.var 12) (.cons (.int 9931) (.cons (.prim .idx (.cons (.lst (.cons (.int 2) (.cons (.int 4) (.cons (.int 7) .nil)))) (.cons (.prim .sub (.cons (.var 8) (.cons (.int 1) .nil))) .nil))) .nil)))) (.cons (.int 0) .nil)))) (.cons (.app 9 (.tup (.cons (.prim .add (.cons (.var 6) (.cons (.var 10) .nil))) (.cons (.prim .add (.cons (.var 7) (.cons (.var 11) .nil))) .nil))))
  .nil) .nil)
  .nil))
noncomputable def Xw:Ss:=(.cons (.for_ 11 true (.cons (.var 5) .nil) Jw)
  .nil)
noncomputable def Xx:Ss:=(.cons (.asg 3 (.call 13 (.cons (.var 0) (.cons (.var 1) .nil))))
  (.cons (.asg 4 (.prim .add (.cons (.int 1) (.cons (.call 14 (.cons (.var 3) (.cons (.int 9973) (.cons (.int 5) .nil)))) .nil))))
  (.cons (.asg 5 (.prim .add (.cons (.int 1) (.cons (.call 14 (.cons (.var 3) (.cons (.int 9967) (.cons (.int 6) .nil)))) .nil))))
  (.cons (.asg 6 (.call 14 (.cons (.call 13 (.cons (.var 0) (.cons (.prim .add (.cons (.var 1) (.cons (.int 1) .nil))) .nil))) (.cons (.int 9949) (.cons (.prim .sub (.cons (.int 9) (.cons (.var 4) .nil))) .nil)))))
  (.cons (.asg 7 (.call 14 (.cons (.call 13 (.cons (.var 0) (.cons (.prim .add (.cons (.var 1) (.cons (.int 1) .nil))) .nil))) (.cons (.int 9941) (.cons (.prim .sub (.cons (.int 9) (.cons (.var 5) .nil))) .nil)))))
  (.cons (.asg 8 (.call 14 (.cons (.prim .add (.cons (.var 3) (.cons (.int 3) .nil))) (.cons (.int 9907) (.cons (.int 4) .nil)))))
  (.cons (.asg 9 (.lst .nil))
  (.cons (.for_ 10 true (.cons (.var 4) .nil) Xw)
  (.cons (.ifs (.not (.var 9)) (.cons (.asg 9 (.lst (.cons (.tup (.cons (.var 6) (.cons (.var 7) .nil))) .nil)))
  .nil) .nil)
  (.cons (.ret (.prim .toTup (.cons (.prim .cutTo (.cons (.var 9) (.cons (.var 2) .nil))) .nil)))
  .nil))))))))))
noncomputable def Xy:Ss:=(.cons (.asg 1 (.lst (.cons (.tup (.cons (.int 1) (.cons (.int 2) .nil))) (.cons (.tup (.cons (.int 0) (.cons (.int 1) .nil))) (.cons (.tup (.cons (.int 1) (.cons (.int 1) .nil))) (.cons (.tup (.cons (.int 1) (.cons (.int 2) .nil))) (.cons (.tup (.cons (.int 0) (.cons (.int 2) .nil))) (.cons (.tup (.cons (.int 1) (.cons (.int 3) .nil))) (.cons (.tup (.cons (.int 2) (.cons (.int 3) .nil))) (.cons (.tup (.cons (.int 0) (.cons (.int 1) .nil))) (.cons (.tup (.cons (.int 1) (.cons (.int 2) .nil))) (.cons (.tup (.cons (.int 2) (.cons (.int 2) .nil))) (.cons (.tup (.cons (.int 0) (.cons (.int 3) .nil))) (.cons (.tup (.cons (.int 1) (.cons (.int 4) .nil))) (.cons (.tup (.cons (.int 2) (.cons (.int 4) .nil))) .nil)))))))))))))))
  (.cons (.ret (.prim .idx (.cons (.prim .add (.cons (.var 1) (.cons (.lst (.cons (.tup (.cons (.int 3) (.cons (.int 3) .nil))) (.cons (.tup (.cons (.int 3) (.cons (.int 4) .nil))) (.cons (.tup (.cons (.int 0) (.cons (.int 4) .nil))) (.cons (.tup (.cons (.int 4) (.cons (.int 4) .nil))) (.cons (.tup (.cons (.int 1) (.cons (.int 2) .nil))) (.cons (.tup (.cons (.int 1) (.cons (.int 1) .nil))) .nil))))))) .nil))) (.cons (.prim .mod (.cons (.var 0) (.cons (.int 19) .nil))) .nil))))
  .nil))
noncomputable def Xz:Ss:=(.cons (.ret (.prim .eq (.cons (.prim .sorted (.cons (.lst (.cons (.prim .abs (.cons (.prim .sub (.cons (.prim .idx (.cons (.var 1) (.cons (.int 0) .nil))) (.cons (.prim .idx (.cons (.var 2) (.cons (.int 0) .nil))) .nil))) .nil)) (.cons (.prim .abs (.cons (.prim .sub (.cons (.prim .idx (.cons (.var 1) (.cons (.int 1) .nil))) (.cons (.prim .idx (.cons (.var 2) (.cons (.int 1) .nil))) .nil))) .nil)) .nil))) .nil)) (.cons (.prim .toList (.cons (.var 0) .nil)) .nil))))
  .nil)
noncomputable def XA:Ss:=(.cons (.ret (.comp false (.cons (.var 0) .nil) (.call 17 (.cons (.var 2) (.cons (.var 3) (.cons (.var 0) .nil)))) (.var 0)))
  .nil)
noncomputable def ZE:Ss:=(.cons (.ifs (.prim .nin (.cons (.var 7) (.cons (.var 3) .nil))) (.cons (.dset 3 (.var 7) (.var 6))
  (.cons (.app 5 (.var 7))
  .nil)) .nil)
  .nil)
noncomputable def Jx:Ss:=(.cons (.for_ 7 false (.cons (.call 11 (.cons (.var 0) (.cons (.var 1) (.cons (.var 6) .nil)))) .nil) ZE)
  .nil)
noncomputable def Jy:Ss:=(.cons (.asg 5 (.lst .nil))
  (.cons (.forV 6 4 Jx)
  (.cons (.mov 4 5)
  .nil)))
noncomputable def XB:Ss:=(.cons (.asg 3 (.done true (.var 2) .non))
  (.cons (.asg 4 (.lst (.cons (.var 2) .nil)))
  (.cons (.while_ (.prim .gt (.cons (.prim .len (.cons (.var 4) .nil)) (.cons (.int 0) .nil))) Jy)
  (.cons (.retV 3)
  .nil))))
noncomputable def XC:Ss:=(.cons (.ifs (.prim .nin (.cons (.var 4) (.cons (.var 3) .nil))) (.cons (.asg 5 (.call 20 (.cons (.var 0) (.cons (.var 1) (.cons (.var 4) .nil)))))
  (.cons (.dupd 3 5)
  (.cons (.app 2 (.prim .skeys (.cons (.var 5) .nil)))
  .nil))) .nil)
  .nil)
noncomputable def XD:Ss:=(.cons (.asg 2 (.lst .nil))
  (.cons (.asg 3 (.dnew true))
  (.cons (.forV 4 0 XC)
  (.cons (.retV 2)
  .nil))))
noncomputable def XE:Ss:=(.cons (.asg 4 (.prim .add (.cons (.var 4) (.cons (.comp false (.cons (.call 18 (.cons (.var 0) (.cons (.var 1) (.cons (.prim .idx (.cons (.var 4) (.cons (.var 5) .nil))) .nil)))) .nil) (.prim .nin (.cons (.var 0) (.cons (.var 5) .nil))) (.var 0)) .nil))))
  (.cons (.asg 5 (.prim .add (.cons (.var 5) (.cons (.int 1) .nil))))
  .nil))
noncomputable def Jz:Ss:=(.cons (.asg 4 (.lst (.cons (.prim .idx (.cons (.var 3) (.cons (.int 0) .nil))) .nil)))
  (.cons (.asg 5 (.int 0))
  (.cons (.while_ (.prim .lt (.cons (.var 5) (.cons (.prim .len (.cons (.var 4) .nil)) .nil))) XE)
  (.cons (.app 2 (.prim .sorted (.cons (.var 4) .nil)))
  (.cons (.asg 3 (.comp false (.cons (.var 3) .nil) (.prim .nin (.cons (.var 0) (.cons (.var 5) .nil))) (.var 0)))
  .nil)))))
noncomputable def XF:Ss:=(.cons (.asg 2 (.lst .nil))
  (.cons (.asg 3 (.prim .toList (.cons (.var 0) .nil)))
  (.cons (.while_ (.var 3) Jz)
  (.cons (.retV 2)
  .nil))))
noncomputable def XG:Ss:=(.cons (.ifs (.prim .gt (.cons (.prim .len (.cons (.var 0) .nil)) (.cons (.var 1) .nil))) (.cons .stop
  .nil) .nil)
  .nil)
noncomputable def XH:Ss:=(.cons (.ret (.prim .sumL (.cons (.compE (.var 0) (.call 10 (.cons (.var 3) (.cons (.var 4) (.cons (.var 1) .nil)))) (.prim .shl (.cons (.int 1) (.cons (.var 0) .nil)))) .nil)))
  .nil)
noncomputable def JA:Ss:=(.cons (.ifs (.prim .ne (.cons (.prim .band (.cons (.var 1) (.cons (.prim .shl (.cons (.int 1) (.cons (.var 3) .nil))) .nil))) (.cons (.int 0) .nil))) (.cons (.dset 2 (.prim .shl (.cons (.int 1) (.cons (.var 3) .nil))) (.prim .shl (.cons (.int 1) (.cons (.var 3) .nil))))
  .nil) .nil)
  .nil)
noncomputable def XI:Ss:=(.cons (.asg 2 (.dnew false))
  (.cons (.for_ 3 true (.cons (.var 0) .nil) JA)
  (.cons (.retV 2)
  .nil)))
noncomputable def ZF:Ss:=(.cons (.asg 5 (.prim .shl (.cons (.int 1) (.cons (.var 4) .nil))))
  (.cons (.ifs (.and (.prim .eq (.cons (.prim .band (.cons (.var 3) (.cons (.var 5) .nil))) (.cons (.int 0) .nil))) (.prim .ne (.cons (.prim .band (.cons (.prim .idx (.cons (.var 1) (.cons (.var 3) .nil))) (.cons (.prim .idx (.cons (.var 0) (.cons (.var 4) .nil))) .nil))) (.cons (.int 0) .nil)))) (.cons (.dset 2 (.prim .bor (.cons (.var 3) (.cons (.var 5) .nil))) (.prim .bor (.cons (.prim .dget (.cons (.var 2) (.cons (.prim .bor (.cons (.var 3) (.cons (.var 5) .nil))) (.cons (.int 0) .nil)))) (.cons (.var 5) .nil))))
  .nil) .nil)
  .nil))
noncomputable def JB:Ss:=(.cons (.for_ 4 true (.cons (.prim .len (.cons (.var 0) .nil)) .nil) ZF)
  .nil)
noncomputable def XJ:Ss:=(.cons (.asg 2 (.dnew false))
  (.cons (.forK 3 1 JB)
  (.cons (.retV 2)
  .nil)))
noncomputable def qt:Ss:=(.cons (.app 2 (.call 64 (.cons (.var 0) (.cons (.prim .idx (.cons (.var 2) (.cons (.prim .neg (.cons (.int 1) .nil)) .nil))) .nil))))
  .nil)
noncomputable def XM:Ss:=(.cons (.asg 2 (.lst (.cons (.call 63 (.cons (.prim .len (.cons (.var 0) .nil)) (.cons (.var 1) .nil))) .nil)))
  (.cons (.while_ (.prim .lt (.cons (.prim .len (.cons (.var 2) .nil)) (.cons (.prim .len (.cons (.var 0) .nil)) .nil))) qt)
  (.cons (.retV 2)
  .nil)))
noncomputable def JC:Ss:=(.cons (.asg 8 (.prim .sub (.cons (.prim .blen (.cons (.prim .band (.cons (.prim .idx (.cons (.var 7) (.cons (.var 5) .nil))) (.cons (.var 3) .nil))) .nil)) (.cons (.int 1) .nil))))
  (.cons (.app 6 (.prim .idx (.cons (.var 0) (.cons (.var 8) .nil))))
  (.cons (.asg 5 (.prim .bxor (.cons (.var 5) (.cons (.prim .shl (.cons (.int 1) (.cons (.var 8) .nil))) .nil))))
  (.cons (.asg 3 (.prim .idx (.cons (.var 1) (.cons (.var 8) .nil))))
  .nil))))
noncomputable def ZG:Ss:=(.cons (.asg 4 (.call 65 (.cons (.var 1) (.cons (.var 2) .nil))))
  (.cons (.asg 5 (.prim .sub (.cons (.prim .shl (.cons (.int 1) (.cons (.prim .len (.cons (.var 0) .nil)) .nil))) (.cons (.int 1) .nil))))
  (.cons (.ifs (.prim .eq (.cons (.prim .band (.cons (.prim .dget (.cons (.prim .idx (.cons (.var 4) (.cons (.prim .neg (.cons (.int 1) .nil)) .nil))) (.cons (.var 5) (.cons (.int 0) .nil)))) (.cons (.var 3) .nil))) (.cons (.int 0) .nil))) (.cons (.ret .non)
  .nil) .nil)
  (.cons (.asg 6 (.lst .nil))
  (.cons (.frz [4] (.for_ 7 false (.cons (.var 4) (.cons .non .nil)) JC))
  (.cons (.retV 6)
  .nil))))))
noncomputable def ZH:Ss:=(.cons (.expr (.call 6 (.cons (.var 0) .nil)))
  (.cons (.expr (.call 7 (.cons (.var 1) .nil)))
  (.cons (.expr (.call 61 (.cons (.var 0) (.cons (.int 16) .nil))))
  (.cons (.asg 2 (.comp false (.cons (.var 0) .nil) (.bl true) (.call 62 (.cons (.var 1) (.cons (.var 2) (.cons (.var 0) .nil))))))
  (.cons (.asg 3 (.prim .sub (.cons (.prim .shl (.cons (.int 1) (.cons (.prim .len (.cons (.var 0) .nil)) .nil))) (.cons (.int 1) .nil))))
  (.cons (.ret (.call 66 (.cons (.var 0) (.cons (.var 2) (.cons (.var 3) (.cons (.var 3) .nil))))))
  .nil))))))
noncomputable def jJ:Ss:=(.cons (.expr (.call 6 (.cons (.var 0) .nil)))
  (.cons (.expr (.call 7 (.cons (.var 1) .nil)))
  (.cons (.expr (.call 61 (.cons (.var 0) (.cons (.int 16) .nil))))
  (.cons (.ifs (.prim .lt (.cons (.prim .len (.cons (.var 0) .nil)) (.cons (.int 3) .nil))) (.cons (.ret .non)
  .nil) .nil)
  (.cons (.asg 2 (.comp false (.cons (.var 0) .nil) (.bl true) (.call 62 (.cons (.var 1) (.cons (.var 2) (.cons (.var 0) .nil))))))
  (.cons (.ret (.call 66 (.cons (.var 0) (.cons (.var 2) (.cons (.int 1) (.cons (.prim .idx (.cons (.var 2) (.cons (.int 0) .nil))) .nil))))))
  .nil))))))
noncomputable def XN:Ss:=(.cons (.asg 4 (.comp false (.cons (.var 0) .nil) (.prim .nin (.cons (.var 0) (.cons (.var 4) .nil))) (.var 0)))
  (.cons (.frz [4] (.asg 5 (.prim .len (.cons (.call 30 (.cons (.var 4) (.cons (.var 1) .nil))) .nil))))
  (.cons (.ret (.and (.prim .gt (.cons (.var 5) (.cons (.prim .add (.cons (.prim .len (.cons (.var 3) .nil)) (.cons (.var 2) .nil))) .nil))) (.prim .gt (.cons (.var 5) (.cons (.int 1) .nil)))))
  .nil)))
noncomputable def XO:Ss:=(.cons (.ifs (.or (.prim .eq (.cons (.prim .len (.cons (.var 3) .nil)) (.cons (.int 0) .nil))) (.prim .gt (.cons (.var 4) (.cons (.prim .idx (.cons (.var 3) (.cons (.prim .neg (.cons (.int 1) .nil)) .nil))) .nil)))) (.cons (.app 2 (.prim .add (.cons (.var 3) (.cons (.lst (.cons (.var 4) .nil)) .nil))))
  .nil) .nil)
  .nil)
noncomputable def JD:Ss:=(.cons (.forV 4 0 XO)
  .nil)
noncomputable def XQ:Ss:=(.cons (.asg 2 (.lst .nil))
  (.cons (.forV 3 1 JD)
  (.cons (.retV 2)
  .nil)))
noncomputable def JE:Ss:=(.cons (.ifs (.call 69 (.cons (.var 0) (.cons (.var 1) (.cons (.var 2) (.cons (.var 4) .nil))))) (.cons (.retV 4)
  .nil) .nil)
  .nil)
noncomputable def JF:Ss:=(.cons (.forV 4 3 JE)
  (.cons (.asg 3 (.call 70 (.cons (.var 0) (.cons (.var 3) .nil))))
  .nil))
noncomputable def ZI:Ss:=(.cons (.expr (.call 6 (.cons (.var 0) .nil)))
  (.cons (.expr (.call 7 (.cons (.var 1) .nil)))
  (.cons (.expr (.call 61 (.cons (.var 0) (.cons (.int 9) .nil))))
  (.cons (.ifs (.not (.call 0 (.cons (.var 2) (.cons (.int 0) (.cons (.int 1) .nil))))) (.cons .stop
  .nil) .nil)
  (.cons (.asg 3 (.lst (.cons (.lst .nil) .nil)))
  (.cons (.while_ (.prim .lt (.cons (.prim .mul (.cons (.int 2) (.cons (.prim .len (.cons (.prim .idx (.cons (.var 3) (.cons (.int 0) .nil))) .nil)) .nil))) (.cons (.prim .len (.cons (.var 0) .nil)) .nil))) JF)
  (.cons (.ret .non)
  .nil)))))))
noncomputable def JG:Ss:=(.cons (.asg 7 (.prim .add (.cons (.var 7) (.cons (.comp false (.cons (.var 0) .nil) (.or (.not (.var 6)) (.prim .gt (.cons (.var 0) (.cons (.prim .idx (.cons (.var 6) (.cons (.prim .neg (.cons (.int 1) .nil)) .nil))) .nil)))) (.prim .addT (.cons (.var 6) (.cons (.tup (.cons (.var 0) .nil)) .nil)))) .nil))))
  .nil)
noncomputable def JH:Ss:=(.cons (.asg 6 (.comp false (.cons (.var 0) .nil) (.prim .nin (.cons (.var 0) (.cons (.var 6) .nil))) (.var 0)))
  (.cons (.frz [6] (.ifs (.prim .gt (.cons (.prim .len (.cons (.call 32 (.cons (.var 6) (.cons (.var 1) .nil))) .nil)) (.cons (.prim .max2 (.cons (.prim .add (.cons (.var 4) (.cons (.var 2) .nil))) (.cons (.int 1) .nil))) .nil))) (.cons (.ret (.prim .toList (.cons (.var 5) .nil)))
  .nil) .nil))
  .nil))
noncomputable def XR:Ss:=(.cons (.forV 5 3 JH)
  (.cons (.asg 7 (.lst .nil))
  (.cons (.forV 5 3 JG)
  (.cons (.mov 3 7)
  .nil))))
noncomputable def ZJ:Ss:=(.cons (.asg 3 (.lst (.cons (.tup .nil) .nil)))
  (.cons (.for_ 4 true (.cons (.prim .len (.cons (.var 0) .nil)) .nil) XR)
  (.cons (.ret .non)
  .nil)))
noncomputable def XS:Ss:=(.cons (.asg 1 (.call 15 (.cons (.var 0) (.cons (.int 2) (.cons (.prim .idx (.cons (.lst (.cons (.int 9) (.cons (.int 7) .nil))) (.cons (.prim .mod (.cons (.call 13 (.cons (.var 0) (.cons (.int 1) .nil))) (.cons (.int 2) .nil))) .nil))) .nil)))))
  (.cons (.asg 2 (.call 16 (.cons (.call 13 (.cons (.var 0) (.cons (.int 0) .nil))) .nil)))
  (.cons (.asg 3 (.prim .mod (.cons (.prim .fdiv (.cons (.call 13 (.cons (.var 0) (.cons (.int 1) .nil))) (.cons (.int 2) .nil))) (.cons (.int 2) .nil))))
  (.cons (.asg 4 (.call 71 (.cons (.var 1) (.cons (.var 2) (.cons (.var 3) .nil)))))
  (.cons (.ifs (.or (.prim .ne (.cons (.var 4) (.cons (.call 72 (.cons (.var 1) (.cons (.var 2) (.cons (.var 3) .nil)))) .nil))) (.and (.prim .notN (.cons (.var 4) .nil)) (.not (.prim (.inst .list) (.cons (.var 4) .nil))))) (.cons (.ret (.bl false))
  .nil) .nil)
  (.cons (.ifs (.prim .isN (.cons (.var 4) .nil)) (.cons (.ret (.bl true))
  .nil) .nil)
  (.cons (.ret (.ite (.prim .eq (.cons (.var 3) (.cons (.int 1) .nil))) (.prim .isN (.cons (.call 67 (.cons (.var 1) (.cons (.var 2) .nil))) .nil)) (.prim .isN (.cons (.call 68 (.cons (.var 1) (.cons (.var 2) .nil))) .nil))))
  .nil)))))))
noncomputable def U:Nat->Option Fn
 |0=>some ⟨3,3,Xj,[],none⟩
 |1=>some ⟨1,1,Xk,[],none⟩
 |2=>some ⟨1,1,Xl,[],none⟩
 |3=>some ⟨1,1,Xm,[],none⟩
 |4=>some ⟨1,1,Xn,[],none⟩
 |5=>some ⟨1,1,Xo,[],none⟩
 |6=>some ⟨1,1,Xp,[],none⟩
 |7=>some ⟨1,1,Xq,[],none⟩
 |9=>some ⟨2,2,Xr,[],none⟩
 |10=>some ⟨3,3,Xs,[],none⟩
 |11=>some ⟨3,3,Xt,[],none⟩
 |13=>some ⟨2,2,Xu,[],none⟩
 |14=>some ⟨3,3,Xv,[],none⟩
 |15=>some ⟨3,13,Xx,[],none⟩
 |16=>some ⟨1,2,Xy,[],none⟩
 |17=>some ⟨3,3,Xz,[],none⟩
 |18=>some ⟨3,3,XA,[],none⟩
 |20=>some ⟨3,8,XB,[],none⟩
 |30=>some ⟨2,6,XD,[],none⟩
 |32=>some ⟨2,6,XF,[],none⟩
 |61=>some ⟨2,2,XG,[],none⟩
 |62=>some ⟨3,3,XH,[],none⟩
 |63=>some ⟨2,4,XI,[],none⟩
 |64=>some ⟨2,6,XJ,[],none⟩
 |65=>some ⟨2,3,XM,[],none⟩
 |66=>some ⟨4,9,ZG,[],none⟩
 |67=>some ⟨2,4,ZH,[],none⟩
 |68=>some ⟨2,3,jJ,[],none⟩
 |69=>some ⟨4,6,XN,[],none⟩
 |70=>some ⟨2,5,XQ,[],none⟩
 |71=>some ⟨3,5,ZI,[],none⟩
 |72=>some ⟨3,8,ZJ,[],none⟩
 |73=>some ⟨1,5,XS,[],none⟩
 |_=>none
theorem U0:U 0=some ⟨3,3,Xj,[],none⟩:=rfl
theorem U1:U 1=some ⟨1,1,Xk,[],none⟩:=rfl
theorem U2:U 2=some ⟨1,1,Xl,[],none⟩:=rfl
theorem U3:U 3=some ⟨1,1,Xm,[],none⟩:=rfl
theorem U4:U 4=some ⟨1,1,Xn,[],none⟩:=rfl
theorem U5:U 5=some ⟨1,1,Xo,[],none⟩:=rfl
theorem U6:U 6=some ⟨1,1,Xp,[],none⟩:=rfl
theorem U7:U 7=some ⟨1,1,Xq,[],none⟩:=rfl
theorem U9:U 9=some ⟨2,2,Xr,[],none⟩:=rfl
theorem zk2:U 10=some ⟨3,3,Xs,[],none⟩:=rfl
theorem zk3:U 11=some ⟨3,3,Xt,[],none⟩:=rfl
theorem zk4:U 13=some ⟨2,2,Xu,[],none⟩:=rfl
theorem zk5:U 14=some ⟨3,3,Xv,[],none⟩:=rfl
theorem zk6:U 15=some ⟨3,13,Xx,[],none⟩:=rfl
theorem zk7:U 16=some ⟨1,2,Xy,[],none⟩:=rfl
theorem zk8:U 17=some ⟨3,3,Xz,[],none⟩:=rfl
theorem zk9:U 18=some ⟨3,3,XA,[],none⟩:=rfl
theorem zla:U 20=some ⟨3,8,XB,[],none⟩:=rfl
theorem zlb:U 30=some ⟨2,6,XD,[],none⟩:=rfl
theorem zlc:U 32=some ⟨2,6,XF,[],none⟩:=rfl
theorem zld:U 61=some ⟨2,2,XG,[],none⟩:=rfl
theorem zle:U 62=some ⟨3,3,XH,[],none⟩:=rfl
theorem zlf:U 63=some ⟨2,4,XI,[],none⟩:=rfl
theorem zlg:U 64=some ⟨2,6,XJ,[],none⟩:=rfl
theorem zlh:U 65=some ⟨2,3,XM,[],none⟩:=rfl
theorem zli:U 66=some ⟨4,9,ZG,[],none⟩:=rfl
theorem zlj:U 67=some ⟨2,4,ZH,[],none⟩:=rfl
theorem zlk:U 68=some ⟨2,3,jJ,[],none⟩:=rfl
theorem zll:U 69=some ⟨4,6,XN,[],none⟩:=rfl
theorem zlm:U 70=some ⟨2,5,XQ,[],none⟩:=rfl
theorem zln:U 71=some ⟨3,5,ZI,[],none⟩:=rfl
theorem zlo:U 72=some ⟨3,8,ZJ,[],none⟩:=rfl
theorem zlp:U 73=some ⟨1,5,XS,[],none⟩:=rfl
end LK
namespace LK
open L2.LW
noncomputable def zi:Nat:=100000
noncomputable abbrev call(n i:Nat)(ds:List D):Option SV:=zG U zi n i ds
theorem yt{n i:Nat}{F:Fn}{ds:List D}(h:U i=some F)(hl:ds.length=F.np)(hio:F.io=[]:=by rfl)(hx:F.xb=none:=by rfl):
  zG U zi (n+1) i ds=vK (zr (zq U zi n) zi F.body (ds.map (fun d=>some (.val d))++List.replicate (F.nl-F.np) none)):=zkT h hl hio hx
noncomputable abbrev zd:=Int×Int
noncomputable def cD(c:zd):D:=.tup [.int c.1,.int c.2]
noncomputable def fD(f:List zd):D:=.tup (f.map cD)
noncomputable def lD(f:List zd):D:=.lst (f.map cD)
@[simp] theorem zuo{c:zd}:plain (cD c)=true:=by simp[cD]
@[simp] theorem zcw: ∀{l:List zd},xa (l.map cD)=true
 |[]=>by simp
 |c::r=>by simp[zcw (l:=r)]
@[simp] theorem zup{f:List zd}:plain (fD f)=true:=by simp[fD]
@[simp] theorem qu{c:zd}{n:Nat}:zS (n+1) (cD c)=true:=by simp[cD,zS]
@[simp] theorem zcx{n:Nat}{l:List zd}:(l.map cD).all (zS (n+1))=true:=by
 rw[List.all_map,List.all_eq_true];intro x _;exact qu
@[simp] theorem qv{a b:zd}:zV (cD a) (cD b)=decide (a=b):=by
 rw[Bool.eq_iff_iff]
 obtain⟨a1,a2⟩:=a;obtain⟨b1,b2⟩:=b
 simp[cD,zV,xw]
@[simp] theorem zlq: ∀{a b:List zd},xw (a.map cD) (b.map cD)=decide (a=b)
 |[],[]=>by simp[xw]
 |[],_::_=>by simp[xw]
 |_::_,[]=>by simp[xw]
 |x::xs,y::ys=>by
  rw[Bool.eq_iff_iff]
  simp[xw,zlq (a:=xs) (b:=ys)]
@[simp] theorem zcy{c:zd}{l:List zd}:((l.map cD).any fun y=>zV y (cD c))=decide (c∈l):=by
 rw[Bool.eq_iff_iff]
 simp[List.any_map,List.any_eq_true]
theorem JI(n:Nat)(i a b:Int):zG U zi (n+1) 0 [.int i,.int a,.int b]=some (.val (.bl (decide (a<=i)&&decide (i<=b)))):=by
 rw[yt U0 rfl]
 simp[Xj]
 by_cases h:a<=i<;>simp[h]
theorem zcz(n:Nat)(c:zd):zG U zi (n+1) 1 [cD c]=some (.val (.bl true)):=by
 rw[yt U1 rfl]
 simp[Xk,cD]
noncomputable def jK(c:zd):Prop:=0<=c.1/\c.1<=7/\0<=c.2/\c.2<=7
theorem zlr(n:Nat){c:zd}(h:jK c):zG U zi (n+2) 2 [cD c]=some (.val (.bl true)):=by
 rw[yt U2 rfl]
 obtain⟨h1,h2,h3,h4⟩:=h
 have h0:=zcz n c
 simp[Xl,h0,JI]
 simp[cD,JI,h1,h2,h3,h4]
noncomputable def zX(a b:zd):Prop:=a.1<b.1\/(a.1=b.1/\a.2<b.2)
noncomputable instance (a b:zd):Decidable (zX a b):=by unfold zX;exact inferInstance
@[simp] theorem zls{a b:zd}:zh .lt [cD a,cD b]=some (.val (.bl (decide (zX a b)))):=by
 simp only[cD,zh,Yr,ints?,Option.map_some,Option.bind_some,yF,lexLt]
 congr 3
 rw[Bool.eq_iff_iff]
 simp only[zX]
 by_cases h:a.1=b.1
 ·simp[h]
  by_cases h2:a.2=b.2
  ·simp[h2]
  ·simp[h2]
 ·simp[h]
theorem zcA{a b c:zd}(h:zX a b)(h':zX b c):zX a c:=by
 unfold zX at*;omega
theorem qw{a:zd}: ¬zX a a:=by unfold zX;omega
theorem zlt{a b:zd}(h:zX a b)(h':zX b a):False:=qw (zcA h h')
structure OkF (f:List zd):Prop where
 ne:f≠[]
 len:f.length<=24
 cells: ∀c∈f,jK c
 rise:f.Pairwise zX
theorem OkF.nodup{f:List zd}(h:f.Pairwise zX):f.Nodup:=h.imp fun hab e=>by subst e;exact qw hab
theorem yI:(100000:Nat)<=line:=by decide
theorem zcB{α:Type}{f:α->Bool}: ∀{l:List α},bools? (l.map fun x=>D.bl (f x))=some (l.map f)
 |[]=>rfl
 |x::r=>by simp[bools?,zcB (l:=r)]
theorem zcC{α:Type}{f:α->Bool}{l:List α}:zh .all [.lst (l.map fun x=>D.bl (f x))]=some (.val (.bl (l.all f))):=by
 simp[zh,VD,zcB,List.all_map,Function.comp_def]
theorem zlu(n:Nat){l:zd}(h:0<=l.1/\l.1<=l.2/\1<=l.2/\l.2<=4):zG U zi (n+2) 3 [cD l]=some (.val (.bl true)):=by
 rw[yt U3 rfl]
 obtain⟨h1,h2,h3,h4⟩:=h
 have h0:=zcz n l
 simp[Xm,h0]
 simp[cD,JI,h1,h2,h3,h4]
theorem ZK{i:Int}(h:0<=i)(h':i<=1000000):vh i:=by unfold vh;omega
theorem zlv{a b:Int}(h:vh a/\vh b):yl true [.val (.int a),.val (.int b)]=some ((List.range (b-a).toNat).map fun (k:Nat)=>D.int (a+(k:Int))):=by simp[yl,h]
theorem JJ{a:Int}(h:vh a):yl true [.val (.int a)]=some ((List.range a.toNat).map fun (k:Nat)=>D.int (0+(k:Int))):=by simp[yl,h]
@[simp] theorem zuq{l:List D}:yl false [.val (.tup l)]=some l:=id rfl
@[simp] theorem zur{l:List D}:yl false [.val (.lst l)]=some l:=id rfl
@[simp] theorem zus{o:Bool}{l:List D}:yl false [.obj o (.lst l)]=some l:=id rfl
theorem qx{f:List zd}{k:Nat}(h:k<f.length):zh .idx [fD f,.int (k:Int)]=some (.val (cD f[k])):=by
 rw[fD,zkY,atI_nat (by simpa using h)];simp
theorem zlw(n:Nat){f:List zd}(hl:f.length<=1000)(h:f.Pairwise zX):zG U zi (n+1) 4 [fD f]=some (.val (.bl true)):=by
 rw[yt U4 rfl]
 have hl':=yI
 have e3:((f.length:Int)-1).toNat=f.length-1:=by omega
 simp only[Xn]
 simp
 rw[Ju (rs:=[.val (.int 1),.val (.int f.length)]) (xs:=List.range (f.length-1)) (f:=fun (k:Nat)=>D.int (1+(k:Int))) (fun _=>.bl true)]
 ·simp[zcC]
 ·simp[fD]
 ·rw[zlv ⟨ZK (by omega) (by omega),ZK (by omega) (by omega)⟩,e3]
 ·simp;omega
 ·intro k hk
  rw[List.mem_range] at hk
  have e1:(1+(k:Int)-1)=(k:Int):=by omega
  have e2:(1+(k:Int))=((k+1:Nat):Int):=by omega
  have hk1:k<f.length:=by omega
  have hk2:k+1<f.length:=by omega
  have:=List.pairwise_iff_getElem.mp h k (k+1) hk1 hk2 (by omega)
  simp[e1]
  rw[qx hk1,e2,qx hk2]
  simp[this]
@[simp] theorem zut{f:List zd}:wA .tuple (fD f)=true:=id rfl
@[simp] theorem zuu{c:zd}:wA .tuple (cD c)=true:=id rfl
theorem vo{f:List zd}:zh .len [fD f]=some (.val (.int f.length)):=by simp[fD]
theorem zlx(n:Nat){f:List zd}(h:OkF f):zG U zi (n+3) 5 [fD f]=some (.val (.bl true)):=by
 rw[yt U5 rfl]
 have hl':=yI
 have h1:=h.len
 have h2:1<=f.length:=by have:=h.ne;cases f<;>simp_all
 have hr:=zlw (n+1) (by omega) h.rise
 simp -implicitDefEqProofs only[Xo]
 simp -implicitDefEqProofs [vo,show (1:Int)<=f.length by omega,show (f.length:Int)<=24 by omega,hr]
 rw[Ju (rs:=[.val (fD f)]) (xs:=f) (f:=cD) (fun _=>.bl true)]
 ·simp -implicitDefEqProofs [zcC,fD]
 ·simp
 ·rfl
 ·omega
 ·intro c hc
  simp -implicitDefEqProofs [zlr n (h.cells c hc)]
theorem qy(n:Nat){f:List zd}(h:OkF f):zG U zi (n+4) 6 [fD f]=some (.val (fD f)):=by
 rw[yt U6 rfl]
 simp[Xp,zlx n h]
structure OkL (l:zd):Prop where
 a:0<=l.1
 b:l.1<=l.2
 c:1<=l.2
 d:l.2<=4
theorem qz(n:Nat){l:zd}(h:OkL l):zG U zi (n+3) 7 [cD l]=some (.val (cD l)):=by
 rw[yt U7 rfl]
 simp[Xq,zlu n ⟨h.a,h.b,h.c,h.d⟩]
theorem zly{c:zd}{f:List zd}:zh .nin [cD c,fD f]=some (.val (.bl (!decide (c∈f)))):=by
 simp only[fD,zh,vG,qu,zcx,Bool.and_self,if_true,zcy,yF]
theorem qA{c:zd}{f:List zd}:zh .nin [cD c,lD f]=some (.val (.bl (!decide (c∈f)))):=by
 simp only[lD,zh,vG,qu,zcx,Bool.and_self,if_true,zcy,yF]
noncomputable def xW(i:Int):Int:=if i<0 then -i else i
noncomputable def yh(l a b:zd):Bool:=decide ((min (xW (a.1-b.1)) (xW (a.2-b.2)),max (xW (a.1-b.1)) (xW (a.2-b.2)))=l)
theorem JK(a b:Int):xW (a-b)=xW (b-a):=by unfold xW;split<;>split<;>omega
theorem wH(l a b:zd):yh l a b=yh l b a:=by unfold yh;rw[JK a.1,JK a.2]
@[simp] theorem zuv{c:zd}:zh .idx [cD c,.int 0]=some (.val (.int c.1)):=id rfl
@[simp] theorem zuw{c:zd}:zh .idx [cD c,.int 1]=some (.val (.int c.2)):=id rfl
theorem zlz{a b:zd}:zh .eq [cD a,cD b]=some (.val (.bl (decide (a=b)))):=by rw[Js (by simp) (by simp),qv]
noncomputable def qB(x y:Int):zd:=(min (xW x) (xW y),max (xW x) (xW y))
theorem zlA(n:Nat)(x y:Int):zG U zi (n+1) 9 [.int x,.int y]=some (.val (cD (qB x y))):=by
 rw[yt U9 rfl]
 have e: ∀x y:Int,D.tup [.int (if y<x then y else x),.int (if y>x then y else x)]=cD (min x y,max x y):=by
  intro x y
  have e1:(if y<x then y else x)=min x y:=by split<;>omega
  have e2:(if y>x then y else x)=max x y:=by split<;>omega
  rw[e1,e2];rfl
 simp[Xr, -zcp, -Jt]
 simp only[zcp,Jt,Option.bind_some,xL,toD,Option.map_some,Function.comp_apply]
 simp
 rw[e]
 rfl
theorem zlB(l a b:zd):decide (qB (b.1-a.1) (b.2-a.2)=l)=yh l a b:=by
 unfold yh qB;rw[JK a.1,JK a.2]
theorem zcD(n:Nat)(l a b:zd):zG U zi (n+2) 10 [cD l,cD a,cD b]=some (.val (.bl (yh l a b))):=by
 rw[yt zk2 rfl]
 simp[Xs,zlA,zlz,zlB]
theorem zlC(n:Nat)(l c:zd){f:List zd}{F:D}(hF:yW F=some (f.map cD))(h:f.length<=1000):zG U zi (n+3) 11 [F,cD l,cD c]=some (.obj true (.lst ((f.filter (yh l c)).map cD))):=by
 rw[yt zk3 rfl]
 have hl':=yI
 simp only[Xt]
 simp
 rw[jc (rs:=[.val F]) (xs:=f) (f:=cD) (yh l c) cD]
 ·simp
 ·simp
 ·exact hF
 ·omega
 ·intro x _;simp[zcD]
 ·intro x _ _;simp
end LK
namespace LK
open L2.LW
noncomputable def sm(a:Int):Prop:= -(2 ^ 64)<a/\a<2 ^ 64
theorem qD{a:Int}(h: -1000000<=a)(h':a<=1000000):sm a:=by unfold sm;omega
theorem qE{a b:Int}(h:sm b):zh .mul [.int a,.int b]=some (.val (.int (a*b))):=zkV h
noncomputable def sD(ns:List Int):D:=.lst (ns.map D.int)
noncomputable def xq(ns:List Int)(k:Int):Int:=ns.getD k.toNat 0
theorem ZL(n:Nat)(ns:List Int){k:Int}(h:0<=k):zG U zi (n+1) 13 [sD ns,.int k]=some (.val (.int (xq ns k))):=by
 rw[yt zk4 rfl]
 obtain⟨j,rfl⟩:=Int.eq_ofNat_of_zero_le h
 simp only[Xu]
 by_cases hj:j<ns.length
 ·have hj':(j:Int)<(ns.length:Int):=by omega
  simp[sD,hj']
  rw[jI,atI_nat (by simpa using hj)]
  simp[xq,hj]
 ·have hj': ¬(j:Int)<(ns.length:Int):=by omega
  simp[sD,hj']
  simp[xq,List.getElem?_eq_none (by omega:ns.length<=j)]
theorem jL(n:Nat)(x:Int){p m:Int}(h:0<p)(h':0<m):zG U zi (n+1) 14 [.int x,.int p,.int m]=some (.val (.int (x*48271%p%m))):=by
 rw[yt zk5 rfl]
 simp[Xv,qE (qD (a:=48271) (by decide) (by decide)),ZD h,ZD h']
structure Built (down right wide:Int)(r k:Int)(fs:List zd):Prop where
 rise:fs.Pairwise zX
 at_: ∀x∈fs,down<=x.1/\right<=x.2/\x.2<right+wide/\(x.1<down+r\/(x.1=down+r/\x.2<right+k))
theorem Built.next{down right wide r k:Int}{fs:List zd}(b:Built down right wide r k fs)(hk:0<=k)(hw:k<wide)(hr:0<=r):Built down right wide r (k+1) (fs++[(down+r,right+k)]):=by
 refine⟨?_,fun x hx=>?_⟩
 ·rw[List.pairwise_append]
  refine⟨b.rise,by simp,fun x hx y hy=>?_⟩
  simp only[List.mem_singleton] at hy
  subst hy
  have:=b.at_ x hx
  unfold zX;simp only;omega
 ·rw[List.mem_append,List.mem_singleton] at hx
  rcases hx with hx|rfl
  ·have:=b.at_ x hx;omega
  ·show down<=down+r/\right<=right+k/\right+k<right+wide/\(down+r<down+r\/(down+r=down+r/\right+k<right+(k+1)))
   omega
theorem Built.skip{down right wide r k:Int}{fs:List zd}(b:Built down right wide r k fs):Built down right wide r (k+1) fs:=
 ⟨b.rise,fun x hx=>by have:=b.at_ x hx;omega⟩
theorem Built.row{down right wide r:Int}{fs:List zd}(b:Built down right wide r wide fs):Built down right wide (r+1) 0 fs:=
 ⟨b.rise,fun x hx=>by have:=b.at_ x hx;omega⟩
theorem zlD(a b c:D){w:Int}(h:w=0\/w=1\/w=2): ∃d,(d=a\/d=b\/d=c)/\zh .idx [.lst [a,b,c],.int w]=some (.val d):=by
 rcases h with rfl|rfl|rfl
 ·exact⟨a,.inl rfl,rfl⟩
 ·exact⟨b,.inr (.inl rfl),rfl⟩
 ·exact⟨c,.inr (.inr rfl),rfl⟩
@[simp] theorem zux{fs:List zd}{a b:Int}:fs.map cD++[.tup [.int a,.int b]]=(fs++[(a,b)]).map cD:=by simp[cD]
theorem zlE(n:Nat)(ns:List Int){at_ most x rows wide down right way r k:Int}{j12:Option SV}{fs:List zd}(h0:0<=at_)(hr:0<=r/\r<=1000)(hk:0<=k/\k<=1000)(hw:0<=way/\way<4)(hl:fs.length<=1000)(hj:zE (some j12)=true):
  ∃v fs',zE (some v)=true/\zr (zq U zi (n+1)) zi Jw [some (.val (sD ns)),some (.val (.int at_)),some (.val (.int most)),some (.val (.int x)),some (.val (.int rows)),some (.val (.int wide)),some (.val (.int down)),some (.val (.int right)),some (.val (.int way)),
   some (.obj true (.lst (fs.map cD))),some (.val (.int r)),some (.val (.int k)),j12]=
   some (.nx,[some (.val (sD ns)),some (.val (.int at_)),some (.val (.int most)),some (.val (.int x)),some (.val (.int rows)),some (.val (.int wide)),some (.val (.int down)),some (.val (.int right)),some (.val (.int way)),
   some (.obj true (.lst (fs'.map cD))),some (.val (.int r)),some (.val (.int k)),v])/\(fs'=fs\/fs'=fs++[(down+r,right+k)]):=by
 have m1:sm r:=qD (by omega) (by omega)
 have m2:sm k:=qD (by omega) (by omega)
 have h7:(0:Int)<7:=by decide
 have hi:0<=at_+2+(r+2*k)%7:=by omega
 have hl':=yI
 have hl2:fs.length<line:=by omega
 simp only[Jw]
 simp[qE m1,qE m2,ZD h7,ZL n ns hi,hj]
 by_cases hz:way=0
 ·simp[hz,hl2]
  exact⟨_,yH,fs++[(down+r,right+k)],by simp;rfl,.inr rfl⟩
 ·obtain⟨d,hd,e⟩:=zlD (.int 2) (.int 4) (.int 7) (w:=way-1) (by omega)
  simp[hz,e]
  have key: ∃m,d= .int m/\0<m:=by
   rcases hd with rfl|rfl|rfl
   ·exact⟨_,rfl,by decide⟩
   ·exact⟨_,rfl,by decide⟩
   ·exact⟨_,rfl,by decide⟩
  obtain⟨m,rfl,hm⟩:=key
  simp[jL n _ (show (0:Int)<9931 by decide) hm]
  split
  ·simp[hl2]
   exact⟨_,yH,fs++[(down+r,right+k)],by simp;rfl,.inr rfl⟩
  ·exact⟨_,yH,fs,rfl,.inl rfl⟩
noncomputable def wu(ns:List Int)(at_ most x rows wide down right way:Int)(fs:List zd)(a b c:Option SV):Env:=
 [some (.val (sD ns)),some (.val (.int at_)),some (.val (.int most)),some (.val (.int x)),some (.val (.int rows)),some (.val (.int wide)),some (.val (.int down)),some (.val (.int right)),some (.val (.int way)),some (.obj true (.lst (fs.map cD))),a,b,c]
theorem zlF(n:Nat)(ns:List Int){at_ most x rows wide down right way:Int}{r:Nat}{fs:List zd}{b c:Option SV}(h0:0<=at_)(hr:r<=100)(hw:0<=wide/\wide<=6)(hy:0<=way/\way<4)(hl:fs.length<=6*r)(hb:Built down right wide r 0 fs)(fb:zE (some b)=true)(fc:zE (some c)=true):
  ∃a' b' c' fs',(zE (some a')=true/\zE (some b')=true/\zE (some c')=true)/\zr (zq U zi (n+1)) zi Xw (wu ns at_ most x rows wide down right way fs (some (.val (.int r))) b c)=some (.nx,wu ns at_ most x rows wide down right way fs' a' b' c')/\fs'.length<=6*(r+1)/\Built down right wide (r+1:Nat) 0 fs':=by
 obtain⟨ρ',h1,b',c',fs',fr,rfl,h2,h3⟩:=zcs (i:=11) (a:=0) (m:=wide.toNat) (body:=zr (zq U zi (n+1)) zi Jw)
  (fun k ρ=>∃b' c' fs',(zE (some b')=true/\zE (some c')=true)/\ρ=wu ns at_ most x rows wide down right way fs' (some (.val (.int r))) b' c'/\fs'.length<=6*r+k/\Built down right wide r (k:Int) fs') (ρ:=wu ns at_ most x rows wide down right way fs (some (.val (.int r))) b c)
  ⟨b,c,fs,⟨fb,fc⟩,rfl,by omega,hb⟩ fun k ρ hk zz3=>by
   obtain⟨b',c',fs',fr,e,h2,h3⟩:=zz3
   subst e
   obtain⟨v,fs2,fv,e1,e2⟩:=zlE n ns (at_:=at_) (most:=most) (x:=x) (rows:=rows) (wide:=wide) (down:=down) (right:=right) (way:=way) (r:=r) (k:=0+(k:Int)) (j12:=c') (fs:=fs') h0 (by omega) (by omega) hy (by omega) fr.2
   refine⟨_,_,e1,.inl rfl,_,v,fs2,⟨yH,fv⟩,rfl,?_⟩
   rw[Int.zero_add] at e2
   rcases e2 with rfl|rfl
   ·exact⟨by omega,h3.skip⟩
   ·exact⟨by simp;omega,h3.next (by omega) (by omega) (by omega)⟩
 refine⟨some (.val (.int r)),b',c',fs',⟨yH,fr.1,fr.2⟩,?_,by omega,?_⟩
 ·simp only[Xw,qi,jb,qf,qe,zcf,zcj]
  rw[show (wu ns at_ most x rows wide down right way fs (some (.val (.int r))) b c)[11]? =some b from rfl,fb,show look (wu ns at_ most x rows wide down right way fs (some (.val (.int r))) b c) 5=some (.val (.int wide)) from rfl]
  simp[JJ (ZK hw.1 (by omega:wide<=1000000))]
  rw[show (List.map (fun (k:Nat)=>D.int (k:Int)) (List.range wide.toNat))=(List.range wide.toNat).map fun (k:Nat)=>D.int (0+(k:Int)) by simp,h1]
  simp
 ·have e:(wide.toNat:Int)=wide:=by omega
  rw[e] at h3
  have:=h3.row
  simpa using this
theorem zlG(n:Nat)(ns:List Int){at_ most x rows wide down right way:Int}{a b c:Option SV}(h0:0<=at_)(hr:0<=rows/\rows<=5)(hw:0<=wide/\wide<=6)(hy:0<=way/\way<4)(fa:zE (some a)=true)(fb:zE (some b)=true)(fc:zE (some c)=true):
  ∃a' b' c' fs',zL (zq U zi (n+1)) zi (.for_ 10 true (.cons (.var 4) .nil) Xw) (wu ns at_ most x rows wide down right way [] a b c)=some (.nx,wu ns at_ most x rows wide down right way fs' a' b' c')/\Built down right wide rows 0 fs'/\fs'.length<=30:=by
 obtain⟨ρ',h1,a',b',c',fs',fr,rfl,h2,h3⟩:=zcs (i:=10) (a:=0) (m:=rows.toNat) (body:=zr (zq U zi (n+1)) zi Xw)
  (fun k ρ=>∃a' b' c' fs',(zE (some a')=true/\zE (some b')=true/\zE (some c')=true)/\ρ=wu ns at_ most x rows wide down right way fs' a' b' c'/\fs'.length<=6*k/\Built down right wide (k:Int) 0 fs') (ρ:=wu ns at_ most x rows wide down right way [] a b c)
  ⟨a,b,c,[],⟨fa,fb,fc⟩,rfl,by simp,⟨by simp,by simp⟩⟩ fun k ρ hk zz3=>by
   obtain⟨a',b',c',fs',fr,e,h2,h3⟩:=zz3
   subst e
   obtain⟨a2,b2,c2,fs2,fr2,e1,e2,e3⟩:=zlF n ns (at_:=at_) (most:=most) (x:=x) (rows:=rows) (wide:=wide) (down:=down) (right:=right) (way:=way) (r:=k) (fs:=fs') (b:=b') (c:=c') h0 (by omega) hw hy h2 h3 fr.2.1 fr.2.2
   refine⟨_,_,?_,.inl rfl,a2,b2,c2,fs2,fr2,rfl,e2,e3⟩
   rw[Int.zero_add]
   exact e1
 refine⟨a',b',c',fs',?_,?_,by omega⟩
 ·simp only[jb,qf,qe,zcf,zcj]
  rw[show (wu ns at_ most x rows wide down right way [] a b c)[10]? =some a from rfl,fa,show look (wu ns at_ most x rows wide down right way [] a b c) 4=some (.val (.int rows)) from rfl]
  simp[JJ (ZK hr.1 (by omega:rows<=1000000))]
  rw[show (List.map (fun (k:Nat)=>D.int (k:Int)) (List.range rows.toNat))=(List.range rows.toNat).map fun (k:Nat)=>D.int (0+(k:Int)) by simp,h1]
 ·have e:(rows.toNat:Int)=rows:=by omega
  rw[e] at h3
  exact h3
theorem zcE{fs:List zd}{k:Int}(h:0<=k):zh .cutTo [.lst (fs.map cD),.int k]=some (.obj true (.lst ((fs.take k.toNat).map cD))):=by
 simp[zh,VE,h]
noncomputable def zlH(f:List zd):Prop:=∃d:Int,∀c∈f,d<=c.1/\c.1<d+5
theorem zlI(n:Nat)(ns:List Int){at_ most:Int}(h0:0<=at_)(hm:1<=most)(hm2:most<=24): ∃f,OkF f/\(f.length:Int)<=most/\zlH f/\zG U zi (n+2) 15 [sD ns,.int at_,.int most]=some (.val (fD f)):=by
 rw[yt zk6 rfl]
 simp only[Xx]
 have p5:(0:Int)<5:=by decide
 have p6:(0:Int)<6:=by decide
 have p4:(0:Int)<4:=by decide
 have q1:(0:Int)<9973:=by decide
 have q2:(0:Int)<9967:=by decide
 have q3:(0:Int)<9949:=by decide
 have q4:(0:Int)<9941:=by decide
 have q5:(0:Int)<9907:=by decide
 have h1:0<=at_+1:=by omega
 simp[ZL n ns h0,ZL n ns h1,jL n _ q1 p5,jL n _ q2 p6,jL n _ q5 p4]
 generalize hx:xq ns at_=x
 generalize hrows:1+x*48271%9973%5=rows
 generalize hwide:1+x*48271%9967%6=wide
 have hr9:0<9-rows:=by omega
 have hw9:0<9-wide:=by omega
 simp[jL n _ q3 hr9,jL n _ q4 hw9,ZL n ns h1,jL n _ q5 p4]
 generalize hdown:xq ns (at_+1)*48271%9949%(9-rows)=down
 generalize hright:xq ns (at_+1)*48271%9941%(9-wide)=right
 generalize hway:(x+3)*48271%9907%4=way
 have bw:0<=way/\way<4:=by omega
 have bd:0<=down/\down<9-rows:=by rw[<-hdown];exact⟨Int.emod_nonneg _ (by omega),Int.emod_lt_of_pos _ hr9⟩
 have br:0<=right/\right<9-wide:=by rw[<-hright];exact⟨Int.emod_nonneg _ (by omega),Int.emod_lt_of_pos _ hw9⟩
 obtain⟨a',b',c',fs,e1,hb,hl⟩:=zlG n ns (at_:=at_) (most:=most) (x:=x) (rows:=rows) (wide:=wide) (down:=down) (right:=right) (way:=way) (a:=none) (b:=none) (c:=none) h0 (by omega) (by omega) bw rfl rfl rfl
 have e1':=e1
 simp only[wu,List.map_nil] at e1'
 have hok: ∀c∈fs,jK c:=fun c hc=>by
  have:=hb.at_ c hc
  unfold jK;omega
 by_cases hf:fs=[]
 ·subst hf
  refine⟨[(down,right)],⟨by simp,by simp,fun c hc=>?_,by simp⟩,by simp;omega,⟨down,fun c hc=>?_⟩,?_⟩
  ·simp at hc;subst hc;unfold jK;simp only;omega
  ·simp at hc;subst hc;simp only;omega
  ·simp[e1']
   rw[show D.tup [.int down,.int right]=cD (down,right) from rfl,show ([cD (down,right)]:List D)=[(down,right)].map cD from rfl,zcE (by omega)]
   rw[List.take_of_length_le (by simp;omega)]
   simp[fD]
 ·refine⟨fs.take most.toNat,⟨fun h=>?_,?_,fun c hc=>hok c (List.mem_of_mem_take hc),hb.rise.sublist (List.take_sublist _ _)⟩,?_,⟨down,fun c hc=>?_⟩,?_⟩
  ·rw[List.take_eq_nil_iff] at h
   rcases h with h|h
   ·omega
   ·exact hf h
  ·rw[List.length_take];omega
  ·rw[List.length_take];omega
  ·have:=hb.at_ c (List.mem_of_mem_take hc)
   omega
  ·have hne:fs.map cD≠[]:=by simpa using hf
   simp[e1',hne,hf]
   rw[zcE (by omega)]
   simp[fD]
theorem zlJ(n:Nat)(ns:List Int){at_ most:Int}(h0:0<=at_)(hm:1<=most)(hm2:most<=24): ∃f,OkF f/\(f.length:Int)<=most/\zG U zi (n+2) 15 [sD ns,.int at_,.int most]=some (.val (fD f)):=by
 obtain⟨f,h1,h2,_,h3⟩:=zlI n ns h0 hm hm2
 exact⟨f,h1,h2,h3⟩
end LK
namespace LK
open L2.LW
noncomputable def XT:List zd:=[(1,2),(0,1),(1,1),(1,2),(0,2),(1,3),(2,3),(0,1),(1,2),(2,2),(0,3),(1,4),(2,4),(3,3),(3,4),(0,4),(4,4),(1,2),(1,1)]
theorem zlK: ∀l∈XT,OkL l:=by
 intro l hl
 simp only[XT,List.mem_cons,List.not_mem_nil,or_false] at hl
 rcases hl with rfl|rfl|rfl|rfl|rfl|rfl|rfl|rfl|rfl|rfl|rfl|rfl|rfl|rfl|rfl|rfl|rfl|rfl|rfl<;>exact⟨by decide,by decide,by decide,by decide⟩
theorem zlL(n:Nat)(x:Int): ∃l,OkL l/\zG U zi (n+1) 16 [.int x]=some (.val (cD l)):=by
 rw[yt zk7 rfl]
 have h19:(0:Int)<19:=by decide
 have hl:=yI
 obtain⟨k,hk⟩:=Int.eq_ofNat_of_zero_le (Int.emod_nonneg x (by decide:(19:Int)≠0))
 have hk2:k<19:=by have:=Int.emod_lt_of_pos x h19;omega
 have hlen:XT.length=19:=rfl
 refine⟨XT[k]'(by omega),zlK _ (List.getElem_mem _),?_⟩
 simp only[Xy]
 simp[ZD h19,hk]
 rw[Jr (by simp;omega)]
 simp
 rw[show ([D.tup [.int 1,.int 2],.tup [.int 0,.int 1],.tup [.int 1,.int 1],.tup [.int 1,.int 2],.tup [.int 0,.int 2],.tup [.int 1,.int 3],.tup [.int 2,.int 3],.tup [.int 0,.int 1],.tup [.int 1,.int 2],.tup [.int 2,.int 2],.tup [.int 0,.int 3],.tup [.int 1,.int 4],.tup [.int 2,.int 4],
  .tup [.int 3,.int 3],.tup [.int 3,.int 4],.tup [.int 0,.int 4],.tup [.int 4,.int 4],.tup [.int 1,.int 2],.tup [.int 1,.int 1]]:List D)=XT.map cD from rfl]
 rw[jI,atI_nat (by simp;omega)]
 simp
theorem zlM(x y:Int):vF [x,y]=[min x y,max x y]:=by
 by_cases h:x<=y
 ·simp[vF,List.mergeSort,List.MergeSort.Internal.splitInTwo,h,List.merge]
  omega
 ·simp[vF,List.mergeSort,List.MergeSort.Internal.splitInTwo,h,List.merge]
  omega
theorem zlN(n:Nat)(l a b:zd):zG U zi (n+1) 17 [cD l,cD a,cD b]=some (.val (.bl (yh l a b))):=by
 rw[yt zk8 rfl]
 simp only[Xz]
 simp
 have e:zh .sorted [.lst [.int (if a.1-b.1<0 then -(a.1-b.1) else a.1-b.1),.int (if a.2-b.2<0 then -(a.2-b.2) else a.2-b.2)]]=some (.obj true (.lst [.int (min (xW (a.1-b.1)) (xW (a.2-b.2))),.int (max (xW (a.1-b.1)) (xW (a.2-b.2)))])):=by
  simp[zh,VC,Ze,ints?,zlM,xW]
 rw[e,show zh .toList [cD l]=some (.obj true (.lst [.int l.1,.int l.2])) from rfl]
 simp
 rw[Js (by simp[zS]) (by simp[zS])]
 simp[zV,xw]
 unfold yh
 rw[Bool.eq_iff_iff]
 obtain⟨l1,l2⟩:=l
 simp
theorem zlO{a b:List zd}:zh .ne [lD a,lD b]=some (.val (.bl (!decide (a=b)))):=by
 rw[lD,lD,qk (by simp[zS]) (by simp[zS])]
 simp[zV]
noncomputable def depth:Nat:=40
end LK
namespace LK
open L2.LW
noncomputable abbrev Ms:=List (zd×zd)
noncomputable def dD(ms:Ms):D:=.dct true (ms.map fun p=>cD p.1) (ms.map fun p=>cD p.2)
noncomputable def get(ms:Ms)(c:zd):Option zd:=(ms.find? fun p=>decide (p.1=c)).map (·.2)
noncomputable def put(ms:Ms)(c v:zd):Ms:=if (get ms c).isSome then ms.map (fun p=>if p.1=c then (p.1,v) else p) else ms++[(c,v)]
@[simp] theorem XU{c:zd}:yQ true (cD c)=true:=by simp[cD,yQ,ints?]
theorem zcF(c:zd): ∀l:List zd,yU (l.map cD) (cD c)=l.findIdx? fun x=>decide (x=c)
 |[]=>rfl
 |x::r=>by
  have ih:=zcF c r
  unfold yU at ih⊢
  rw[List.map_cons,List.findIdx?_cons,List.findIdx?_cons,qv,ih]
theorem ZM(c:zd): ∀l:List zd,(yU (l.map cD) (cD c)).isSome=decide (c∈l):=fun l=>by
 rw[zcF]
 cases e:l.findIdx? fun x=>decide (x=c) with
 |none=>
  rw[List.findIdx?_eq_none_iff] at e
  have:c∉l:=fun h=>by have:=e c h;simp at this
  simp[this]
 |some i=>
  obtain⟨h1,h2,_⟩:=List.findIdx?_eq_some_iff_getElem.mp e
  have:c∈l:=by
   have h2:l[i]=c:=by simpa using h2
   rw[<-h2];exact List.getElem_mem h1
  simp[this]
theorem zlP(p:zd×zd)(r:Ms)(c:zd):get (p::r) c=if p.1=c then some p.2 else get r c:=by
 unfold get
 rw[List.find?_cons]
 by_cases h:p.1=c<;>simp[h]
theorem JL(c:zd): ∀ms:Ms,(get ms c).isSome=decide (c∈ms.map (·.1))
 |[]=>rfl
 |p::r=>by
  rw[zlP,List.map_cons]
  by_cases h:p.1=c
  ·simp[h]
  ·rw[if_neg h,JL c r]
   have: ¬c=p.1:=fun z=>h z.symm
   simp[this]
theorem zcG(ms:Ms):(ms.map fun p=>cD p.1)=(ms.map (·.1)).map cD:=by rw[List.map_map];rfl
@[simp] theorem zuy{c:zd}{ms:Ms}:zh .inn [cD c,dD ms]=some (.val (.bl (get ms c).isSome)):=by
 simp only[dD,zh,QT,XU,if_true,yF,zcG,ZM,JL]
@[simp] theorem zuz{c:zd}{ms:Ms}:zh .nin [cD c,dD ms]=some (.val (.bl (!(get ms c).isSome))):=by
 simp only[dD,zh,vG,XU,if_true,yF,zcG,ZM,JL]
@[simp] theorem zuA{ms:Ms}:xa (ms.map fun p=>cD p.2)=true:=by
 have:(ms.map fun p=>cD p.2)=(ms.map (·.2)).map cD:=by rw[List.map_map];rfl
 rw[this];exact zcw
@[simp] theorem zuB{ms:Ms}:Zf (dD ms)=true:=by simp[dD]
@[simp] theorem zuC{ms:Ms}:wg (dD ms)=true:=by simp[dD]
noncomputable def zlQ(ms:Ms):Prop:=(ms.map (·.1)).Nodup
theorem wX{α:Type}[DecidableEq α]: ∀{l m:List α},l.Nodup->(∀x∈l,x∈m)->l.length<=m.length
 |[],_,_,_=>Nat.zero_le _
 |x::r,m,hn,hs=>by
  rw[List.nodup_cons] at hn
  have hx:=hs x List.mem_cons_self
  have ih:=wX (l:=r) (m:=m.erase x) hn.2 fun y hy=>by
   rw[List.mem_erase_of_ne (fun e=>hn.1 (by rw[<-e];exact hy))]
   exact hs y (List.mem_cons_of_mem _ hy)
  rw[List.length_erase_of_mem hx] at ih
  have:0<m.length:=List.length_pos_of_mem hx
  simp;omega
noncomputable def zlR(l:zd):List Int:=((List.range l.2.toNat).map fun (k:Nat)=>(1+(k:Int))).filter fun d=>decide (l.1%d=0)&&decide (l.2%d=0)
noncomputable def XV(l:zd):Int:=match zlR l with
 |[]=>1
 |n::r=>r.foldl max n
theorem zlS{l:zd}(h:OkL l):l∈[((0:Int),(1:Int)),(1,1),(0,2),(1,2),(2,2),(0,3),(1,3),(2,3),(3,3),(0,4),(1,4),(2,4),(3,4),(4,4)]:=by
 obtain⟨h1,h2,h3,h4⟩:=h
 have all: ∀i j:Fin 5,i.1<=j.1->1<=j.1->(((i.1:Nat):Int),((j.1:Nat):Int))∈[((0:Int),(1:Int)),(1,1),(0,2),(1,2),(2,2),(0,3),(1,3),(2,3),(3,3),(0,4),(1,4),(2,4),(3,4),(4,4)]:=by decide+kernel
 have:=all ⟨l.1.toNat,by omega⟩ ⟨l.2.toNat,by omega⟩ (by simp only;omega) (by simp only;omega)
 simp only at this
 rw[Int.toNat_of_nonneg h1,Int.toNat_of_nonneg (by omega)] at this
 exact this
theorem OkL.cases{P:zd->Prop}{l:zd}(h:OkL l)(p: ∀x∈[((0:Int),(1:Int)),(1,1),(0,2),(1,2),(2,2),(0,3),(1,3),(2,3),(3,3),(0,4),(1,4),(2,4),(3,4),(4,4)],P x):P l:=p l (zlS h)
noncomputable def zlT(l:zd):Bool:=decide ((l.1/XV l+l.2/XV l)%2=1)
noncomputable def zlU(l c:zd):Int:=if zlT l then (c.1/XV l+c.2/XV l)%2 else c.1/XV l%2
theorem zuD{g m x y:Int}(hg:1<=g)(h:x-y=g*m\/x-y= -(g*m)):(x/g=y/g+m\/x/g=y/g-m)/\x%g=y%g:=by
 rcases h with h|h
 ·rw[show x=y+g*m by omega,Int.add_mul_ediv_left _ _ (by omega),Int.add_mul_emod_self_left]
  exact⟨.inl rfl,rfl⟩
 ·rw[show x=y+g*(-m) by rw[Int.mul_neg];omega,Int.add_mul_ediv_left _ _ (by omega),Int.add_mul_emod_self_left]
  exact⟨.inr (by omega),rfl⟩
end LK
namespace LK
open L2.LW
theorem zlV{i:Nat}{body:Env->Option (Fl×Env)}(I:List zd->Env->Prop)(Q:SV->Env->Prop){xs:List zd}{ρ:Env}(h0:I [] ρ)
  (st: ∀pre x post ρ,xs=pre++x::post->I pre ρ->∃fl ρ',body (ρ.set i (some (.val (cD x))))=some (fl,ρ')/\(((fl= .nx\/fl= .ct)/\I (pre++[x]) ρ')\/∃r,fl= .rt r/\Q r ρ')):
  ∃fl ρ',ym i body (xs.map cD) ρ=some (fl,ρ')/\((fl= .nx/\I xs ρ')\/∃r,fl= .rt r/\Q r ρ'):=by
 have key: ∀(post pre:List zd) (ρ:Env),xs=pre++post->I pre ρ->∃fl ρ',ym i body (post.map cD) ρ=some (fl,ρ')/\((fl= .nx/\I xs ρ')\/∃r,fl= .rt r/\Q r ρ'):=by
  intro post
  induction post with
  |nil=>intro pre ρ e h;exact⟨_,ρ,rfl,.inl ⟨rfl,by rw[e];simpa using h⟩⟩
  |cons x post ih=>
   intro pre ρ e h
   obtain⟨fl,ρ1,e1,e2⟩:=st pre x post ρ e h
   rw[List.map_cons,ym,e1]
   simp only[Option.bind_some]
   rcases e2 with ⟨e2,h1⟩|⟨r,rfl,q⟩
   ·obtain⟨fl',ρ',e3,h3⟩:=ih (pre++[x]) ρ1 (by simp[e]) h1
    rcases e2 with rfl|rfl<;>exact⟨fl',ρ',e3,h3⟩
   ·exact⟨_,ρ1,rfl,.inr ⟨r,rfl,q⟩⟩
 exact key xs [] ρ rfl h0
theorem JM{i:Nat}{body:Env->Option (Fl×Env)}(I:List zd->Env->Prop){xs:List zd}{ρ:Env}(h0:I [] ρ)
  (st: ∀pre x post ρ,xs=pre++x::post->I pre ρ->∃fl ρ',body (ρ.set i (some (.val (cD x))))=some (fl,ρ')/\(fl= .nx\/fl= .ct)/\I (pre++[x]) ρ'):
  ∃ρ',ym i body (xs.map cD) ρ=some (.nx,ρ')/\I xs ρ':=by
 obtain⟨fl,ρ',e,h⟩:=zlV (i:=i) (body:=body) I (fun _ _=>False) (xs:=xs) (ρ:=ρ) h0 fun pre x post ρ e h=>by
  obtain⟨fl,ρ',h1,h2,h3⟩:=st pre x post ρ e h
  exact⟨fl,ρ',h1,.inl ⟨h2,h3⟩⟩
 rcases h with ⟨rfl,h⟩|⟨_,_,z⟩
 ·exact⟨ρ',e,h⟩
 ·exact z.elim
noncomputable def zcH(k:Option (List D)):Option (Option SV)->Option (List D)
 |some (some (.io d))=>k.map (d:: ·)
 |_=>none
@[simp] theorem zuE{k:Option (List D)}{d:D}:zcH k (some (some (.io d)))=k.map (d:: ·):=id rfl
@[simp] theorem zuF{ρ:Env}:wt ρ []=some []:=by rw[wt]
@[simp] theorem zuG{ρ:Env}{i:Nat}{r:List Nat}:wt ρ (i::r)=zcH (wt ρ r) ρ[i]? :=by
 rw[wt]
 rcases ρ[i]? with _|_|(_|_|_)<;>rfl
@[simp] theorem zuH{io:List Nat}{r:SV}{ρ:Env}:ju io (some (.rt r,ρ))=(wt ρ io).map (Ans.ok r):=id rfl
@[simp] theorem zuI{io:List Nat}{ρ:Env}:ju io (some (.nx,ρ))=(wt ρ io).map (Ans.ok (.val .non)):=id rfl
noncomputable def tD(tr:List zd):D:=.dct true (tr.map cD) (tr.map fun _=>.bl true)
@[simp] theorem zuJ{tr:List zd}:xa (tr.map fun _=>(.bl true:D))=true:=by
 induction tr with
 |nil=>simp
 |cons x r ih=>simpa using ih
@[simp] theorem zuK{tr:List zd}:Zf (tD tr)=true:=by simp[tD]
@[simp] theorem zuL{tr:List zd}:wg (tD tr)=true:=by simp[tD]
@[simp] theorem zuM{c:zd}{tr:List zd}:zh .nin [cD c,tD tr]=some (.val (.bl (!decide (c∈tr)))):=by
 simp only[tD,zh,vG,XU,if_true,yF,ZM]
section
variable (f:List zd) (l:zd)
noncomputable def nb(c:zd):List zd:=f.filter (yh l c)
structure Half (ms:Ms):Prop where
 nd:zlQ ms
 inF: ∀x y,get ms x=some y->x∈f/\y∈f/\yh l x y=true
structure Match (ms:Ms):Prop extends Half f l ms where
 sym: ∀x y,get ms x=some y->get ms y=some x
end
section
variable {f:List zd} {l:zd}
theorem XW{c o:zd}:o∈nb f l c↔o∈f/\yh l c o=true:=by unfold nb;exact List.mem_filter
theorem Half.len{ms:Ms}(h:Half f l ms):ms.length<=f.length:=by
 have:=wX (l:=ms.map fun (p:zd×zd)=>p.1) (m:=f) h.nd fun x hx=>by
  have:(get ms x).isSome=true:=by rw[JL];simpa using hx
  obtain⟨y,hy⟩:=Option.isSome_iff_exists.mp this
  exact (h.inF x y hy).1
 simpa using this
@[simp] theorem zuN{c:zd}:wP (.val (cD c))=some (.e (cD c)):=by simp[cD]
@[simp] theorem zuO{g:List zd}:wP (.val (fD g))=some (.e (fD g)):=by simp[fD]
structure TrOk (f tr:List zd):Prop where
 nd:tr.Nodup
 sub: ∀x∈tr,x∈f
theorem TrOk.len{tr:List zd}(h:TrOk f tr):tr.length<=f.length:=wX h.nd h.sub
theorem TrOk.snoc{tr:List zd}{o:zd}(h:TrOk f tr)(ho:o∈f)(ht:o∉tr):TrOk f (tr++[o]):=by
 refine⟨?_,fun x hx=>?_⟩
 ·rw[List.nodup_append]
  refine⟨h.nd,by simp,fun a ha b hb e=>?_⟩
  simp at hb;subst hb;subst e;exact ht ha
 ·rw[List.mem_append,List.mem_singleton] at hx
  rcases hx with z|rfl
  ·exact h.sub x z
  ·exact ho
end
end LK
namespace LK
open L2.LW
section
variable {f:List zd} {l:zd}
noncomputable def zlW(ms:Ms)(c:zd):zd:=(get ms c).getD c
noncomputable def ml(f:List zd)(l:zd)(ms:Ms):List zd:=f.filter fun c=>decide (zlU l c=0)&&(get ms c).isSome
theorem Match.inj{ms:Ms}(h:Match f l ms){a b v:zd}(ha:get ms a=some v)(hb:get ms b=some v):a=b:=by
 have h1:=h.sym _ _ ha
 have h2:=h.sym _ _ hb
 rw[h1] at h2
 exact Option.some.inj h2
open Classical in
end
end LK
namespace LK
open L2.LW
section
variable {f:List zd} {l:zd}
structure Ring (f:List zd)(ms:Ms)(T:zd->Prop)(ar0 ar fu:List zd):Prop where
 nd:ar.Nodup
 sub: ∀y∈ar,y∈f/\T y
 new: ∃nw,ar=ar0++nw/\fu=nw.map (zlW ms)
theorem Ring.len{ms:Ms}{T:zd->Prop}{ar0 ar fu:List zd}(h:Ring f ms T ar0 ar fu):ar.length<=f.length/\fu.length<=f.length:=by
 have h1:=wX h.nd fun y hy=>(h.sub y hy).1
 obtain⟨nw,rfl,rfl⟩:=h.new
 simp at h1⊢
 omega
@[simp] theorem zuP{a b:D}:zh .idx [.tup [a,b],.int 0]=some (.val a):=id rfl
@[simp] theorem zuQ{g:List zd}:wg (lD g)=true:=by simp[lD]
@[simp] theorem zuR{g:List zd}:wA .list (lD g)=true:=id rfl
end
end LK
namespace LK
open L2.LW
section
variable {α:Type}
noncomputable def dG(g:α->D)(ms:List (zd×α)):D:=.dct true (ms.map fun p=>cD p.1) (ms.map fun p=>g p.2)
noncomputable def zU(ms:List (zd×α))(c:zd):Option α:=(ms.find? fun p=>decide (p.1=c)).map (·.2)
theorem jd(p:zd×α)(r:List (zd×α))(c:zd):zU (p::r) c=if p.1=c then some p.2 else zU r c:=by
 unfold zU
 rw[List.find?_cons]
 by_cases h:p.1=c<;>simp[h]
theorem wv(c:zd): ∀ms:List (zd×α),(zU ms c).isSome=decide (c∈ms.map (·.1))
 |[]=>rfl
 |p::r=>by
  rw[jd,List.map_cons]
  by_cases h:p.1=c
  ·simp[h]
  ·rw[if_neg h,wv c r]
   have: ¬c=p.1:=fun z=>h z.symm
   simp[this]
theorem XX(ms:List (zd×α)):(ms.map fun p=>cD p.1)=(ms.map (·.1)).map cD:=by rw[List.map_map];rfl
theorem JN{g:α->D}{c:zd}{ms:List (zd×α)}:zh .nin [cD c,dG g ms]=some (.val (.bl (!(zU ms c).isSome))):=by
 simp only[dG,zh,vG,XU,if_true,yF,XX,ZM,wv]
theorem zcI{g:α->D}{ms:List (zd×α)}{c:zd}{v:α}(h:zU ms c=none):xK true (ms.map fun p=>cD p.1) (ms.map fun p=>g p.2) (cD c) (g v)=dG g (ms++[(c,v)]):=by
 unfold xK
 rw[XX,ZM,<-wv,h]
 simp[dG]
theorem vL{ms:List (zd×α)}{c x:zd}{v:α}(h:zU ms c=none):zU (ms++[(c,v)]) x=if x=c then some v else zU ms x:=by
 induction ms with
 |nil=>
  show zU ((c,v)::[]) x=_
  rw[jd]
  by_cases e:c=x
  ·subst e;simp
  ·have: ¬x=c:=fun z=>e z.symm
   rw[if_neg e,if_neg this]
 |cons p r ih=>
  rw[jd] at h
  split at h
  ·cases h
  ·rename_i hp
   rw[List.cons_append,jd,jd,ih h]
   by_cases e:p.1=x
   ·rw[if_pos e,if_pos e,if_neg (fun z=>hp (e.trans z))]
   ·rw[if_neg e,if_neg e]
theorem zlX{g:α->D}{ρ:Env}{i:Nat}{ms:List (zd×α)}{c:zd}{v:α}(h:zU ms c=none)(hl:ms.length<line):
  jH ρ i (some (.val (cD c))) (some (.val (g v))) (some (some (.obj true (dG g ms))))=some (.nx,ρ.set i (some (.obj true (dG g (ms++[(c,v)]))))):=by
 rw[dG,zcl]
 simp only[Option.bind_some,Jq,XU,List.length_map,hl,decide_true,Bool.and_self,if_true,zcI h]
end
section
variable (f:List zd) (l:zd)
noncomputable def Bk(goal:zd):Nat->zd->Prop
 |0,c=>c=goal
 |k+1,c=>Bk goal k c\/(c∈f/\∃p,Bk goal k p/\yh l c p=true)
noncomputable def Lv(goal:zd)(k:Nat)(c:zd):Prop:=Bk f l goal k c/\∀i,i<k->¬Bk f l goal i c
noncomputable abbrev vp:=List (zd×Option zd)
noncomputable def oD:Option zd->D
 |none=>.non
 |some c=>cD c
structure LOk (goal:zd)(ms:vp):Prop where
 nd:(ms.map (·.1)).Nodup
 sub: ∀c,(zU ms c).isSome=true->c∈f
 root: ∀c,zU ms c=some none->c=goal
 next: ∀c p,zU ms c=some (some p)->yh l c p=true/\∃j,Lv f l goal (j+1) c/\Lv f l goal j p/\(zU ms p).isSome=true
end
section
variable {f:List zd} {l:zd} {goal:zd}
theorem Bk.mono: ∀{k m:Nat} {c:zd},k<=m->Bk f l goal k c->Bk f l goal m c
 |k,0,c,h,b=>by
  have:k=0:=by omega
  subst this;exact b
 |k,m+1,c,h,b=>by
  by_cases e:k=m+1
  ·subst e;exact b
  ·exact .inl (Bk.mono (by omega) b)
theorem Bk.inF(hg:goal∈f): ∀{k:Nat} {c:zd},Bk f l goal k c->c∈f
 |0,c,h=>by rw[show c=goal from h];exact hg
 |k+1,c,h=>by
  rcases h with h|h
  ·exact Bk.inF hg h
  ·exact h.1
theorem Bk.lv{k:Nat}{c:zd}(h:Bk f l goal k c): ∃j,j<=k/\Lv f l goal j c:=by
 induction k with
 |zero=>exact⟨0,Nat.le_refl _,h,fun i hi=>by omega⟩
 |succ k ih=>
  by_cases hk:Bk f l goal k c
  ·obtain⟨j,h1,h2⟩:=ih hk
   exact⟨j,by omega,h2⟩
  ·exact⟨k+1,Nat.le_refl _,h,fun i hi z=>hk (z.mono (by omega))⟩
theorem LOk.len{ms:vp}(h:LOk f l goal ms):ms.length<=f.length:=by
 have:=wX (l:=ms.map fun (p:zd×Option zd)=>p.1) (m:=f) h.nd fun x hx=>h.sub x (by rw[wv];simpa using hx)
 simpa using this
noncomputable def yz(F:D)(l goal:zd)(ms:vp)(s4 s5 s6 s7:Option SV):Env:=[some (.val F),some (.val (cD l)),some (.val (cD goal)),some (.obj true (dG oD ms)),s4,s5,s6,s7]
theorem zlY(n:Nat){F:D}(hf:f.length<=100){ms:vp}{fu:List zd}{s4:Option SV}{k:Nat}{c o:zd}(hm:LOk f l goal ms)(hc:Lv f l goal k c)(hcm:(zU ms c).isSome=true)(hk: ∀x,Bk f l goal k x->(zU ms x).isSome=true)(hof:o∈f)(hn:yh l c o=true)(hfu:fu.length<=1000):
  ((zU ms o).isSome=true/\zr (zq U zi n) zi ZE (yz F l goal ms s4 (some (.obj true (lD fu))) (some (.val (cD c))) (some (.val (cD o))))=some (.nx,yz F l goal ms s4 (some (.obj true (lD fu))) (some (.val (cD c))) (some (.val (cD o)))))\/
  (zU ms o=none/\LOk f l goal (ms++[(o,some c)])/\Lv f l goal (k+1) o/\zr (zq U zi n) zi ZE (yz F l goal ms s4 (some (.obj true (lD fu))) (some (.val (cD c))) (some (.val (cD o))))=
   some (.nx,yz F l goal (ms++[(o,some c)]) s4 (some (.obj true (lD (fu++[o])))) (some (.val (cD c))) (some (.val (cD o))))):=by
 have hl':=yI
 have hml:=hm.len
 cases hg:zU ms o with
 |some v=>
  refine .inl ⟨rfl,?_⟩
  simp[ZE,yz,JN,hg]
 |none=>
  have hlv:Lv f l goal (k+1) o:=⟨.inr ⟨hof,c,hc.1,by rw[wH];exact hn⟩,fun i hi b=>by
   have:=hk o (b.mono (by omega))
   rw[hg] at this;cases this⟩
  have hno:o≠c:=fun e=>by subst e;rw[hg] at hcm;cases hcm
  refine .inr ⟨rfl,⟨?_,fun x hx=>?_,fun x hx=>?_,fun x p hx=>?_⟩,hlv,?_⟩
  ·rw[List.map_append,List.nodup_append]
   refine⟨hm.nd,by simp,fun a ha b hb e=>?_⟩
   simp at hb;subst hb;subst e
   have:(zU ms a).isSome=true:=by rw[wv];simpa using ha
   rw[hg] at this;cases this
  ·rw[vL hg] at hx
   split at hx
   ·rename_i e;subst e;exact hof
   ·exact hm.sub x hx
  ·rw[vL hg] at hx
   split at hx
   ·cases hx
   ·exact hm.root x hx
  ·rw[vL hg] at hx
   have up: ∀y,(zU ms y).isSome=true->(zU (ms++[(o,some c)]) y).isSome=true:=fun y hy=>by
    rw[vL hg];split
    ·rfl
    ·exact hy
   split at hx
   ·rename_i e
    cases hx;subst e
    exact⟨by rw[wH];exact hn,k,hlv,hc,up _ hcm⟩
   ·obtain⟨h1,j,h2,h3,h4⟩:=hm.next x p hx
    exact⟨h1,j,h2,h3,up _ h4⟩
  ·have e1: ∀ρ:Env,jH ρ 3 (some (.val (cD o))) (some (.val (cD c))) (some (some (.obj true (dG oD ms))))=some (.nx,ρ.set 3 (some (.obj true (dG oD (ms++[(o,some c)]))))):=fun ρ=>zlX (g:=oD) (v:=some c) hg (by omega)
   have e2: ∀(ρ:Env),ja ρ 5 (some (.val (cD o))) (some (some (.obj true (lD fu))))=some (.nx,ρ.set 5 (some (.obj true (lD (fu++[o]))))):=fun ρ=>by
    rw[lD,Xh]
    have:fu.length<line:=by omega
    simp only[Option.bind_some,Jq,List.length_map,this,if_true]
    simp[lD]
   simp[ZE,yz,JN,hg,e1,e2]
structure Rg (f:List zd)(l goal:zd)(k:Nat)(ms0 ms:vp)(fu:List zd):Prop extends LOk f l goal ms where
 old: ∀x,Bk f l goal k x->(zU ms x).isSome=true
 fu_: ∀x,x∈fu↔(zU ms x).isSome=true/\Lv f l goal (k+1) x
 up: ∀x,(zU ms x).isSome=true->Bk f l goal (k+1) x
 nd2:fu.Nodup
 cnt:ms.length=ms0.length+fu.length
theorem zlZ(n:Nat){F:D}(hF:yW F=some (f.map cD))(hf:f.length<=100){ms0 ms:vp}{fu:List zd}{s4 s7:Option SV}{k:Nat}{c:zd}(h:Rg f l goal k ms0 ms fu)(hc:Lv f l goal k c)(h7:zE (some s7)=true):
  ∃ms' fu' s7',zr (zq U zi (n+3)) zi Jx (yz F l goal ms s4 (some (.obj true (lD fu))) (some (.val (cD c))) s7)=some (.nx,yz F l goal ms' s4 (some (.obj true (lD fu'))) (some (.val (cD c))) s7')/\
   Rg f l goal k ms0 ms' fu'/\(∀o∈nb f l c,(zU ms' o).isSome=true)/\(∀x,(zU ms x).isSome=true->(zU ms' x).isSome=true)/\zE (some s7')=true:=by
 obtain⟨ρ',e,ms',fu',s7',rfl,r1,r2,r3,r4⟩:=JM (i:=7) (body:=zr (zq U zi (n+3)) zi ZE)
  (fun pre ρ=>∃ms' fu' s7',ρ=yz F l goal ms' s4 (some (.obj true (lD fu'))) (some (.val (cD c))) s7'/\Rg f l goal k ms0 ms' fu'/\(∀o∈pre,(zU ms' o).isSome=true)/\(∀x,(zU ms x).isSome=true->(zU ms' x).isSome=true)/\zE (some s7')=true)
  (xs:=nb f l c) (ρ:=yz F l goal ms s4 (some (.obj true (lD fu))) (some (.val (cD c))) s7) ⟨ms,fu,s7,rfl,h,fun o ho=>(by cases ho),fun y hy=>hy,h7⟩
  fun pre o post ρ e zz5=>by
   obtain⟨ms',fu',s7',eρ,r1,r2,r3,r4⟩:=zz5
   subst eρ
   have ho:o∈nb f l c:=by rw[e];simp
   have hlen:=r1.len
   have hcnt:=r1.cnt
   rcases zlY (n+3) hf (fu:=fu') (s4:=s4) r1.toLOk hc (r1.old c hc.1) r1.old (XW.mp ho).1 (XW.mp ho).2 (by omega) with ⟨q1,e2⟩|⟨q1,q2,q3,e2⟩
   ·refine⟨_,_,e2,.inl rfl,ms',fu',_,rfl,r1,fun y hy=>?_,r3,yH⟩
    rw[List.mem_append,List.mem_singleton] at hy
    rcases hy with z|rfl
    ·exact r2 y z
    ·exact q1
   ·have up: ∀y,(zU ms' y).isSome=true->(zU (ms'++[(o,some c)]) y).isSome=true:=fun y hy=>by
     rw[vL q1];split
     ·rfl
     ·exact hy
    refine⟨_,_,e2,.inl rfl,_,_,_,rfl,{ q2 with old:=fun x hx=>up x (r1.old x hx),fu_:=fun x=>?_,up:=fun x hx=>?_,nd2:=?_,cnt:=?_ },fun y hy=>?_,fun x hx=>up x (r3 x hx),yH⟩
    ·rw[List.mem_append,List.mem_singleton,r1.fu_ x,vL q1]
     by_cases ex:x=o
     ·subst ex;simp[q3]
     ·simp[ex]
    ·rw[vL q1] at hx
     split at hx
     ·rename_i ex;rw[ex];exact q3.1
     ·exact r1.up x hx
    ·rw[List.nodup_append]
     refine⟨r1.nd2,by simp,fun a ha b hb eab=>?_⟩
     simp at hb;subst hb;subst eab
     have:=((r1.fu_ a).mp ha).1
     rw[q1] at this;cases this
    ·simp;omega
    ·rw[List.mem_append,List.mem_singleton] at hy
     rcases hy with z|rfl
     ·exact up y (r2 y z)
     ·rw[vL q1];simp
 refine⟨ms',fu',s7',?_,r1,r2,r3,r4⟩
 have cn:=zlC n l c hF (by omega:f.length<=1000)
 simp only[Jx,qi,jb]
 simp[yz,cn,h7]
 rw[<-nb,<-yz,e]
 simp[yz]
theorem zl0(n:Nat){F:D}(hF:yW F=some (f.map cD))(hf:f.length<=100){ms:vp}{ed:List zd}{s5 s6 s7:Option SV}{k:Nat}(hm:LOk f l goal ms)(hk: ∀x,Bk f l goal k x↔(zU ms x).isSome=true)(hed: ∀x,x∈ed↔Lv f l goal k x)
  {s4:Option SV} (hs4:s4=some (.val (lD ed))\/s4=some (.obj true (lD ed))) (h5:zE (some s5)=true) (h6:zE (some s6)=true) (h7:zE (some s7)=true):
  ∃ms' fu s5' s6' s7',zr (zq U zi (n+3)) zi Jy (yz F l goal ms s4 s5 s6 s7)=some (.nx,yz F l goal ms' (some (.val (lD fu))) s5' s6' s7')/\
   LOk f l goal ms'/\(∀x,Bk f l goal (k+1) x↔(zU ms' x).isSome=true)/\(∀x,x∈fu↔Lv f l goal (k+1) x)/\ms'.length=ms.length+fu.length/\zE (some s5')=true/\zE (some s6')=true/\zE (some s7')=true:=by
 have f0: ∀x,x∈([]:List zd)↔(zU ms x).isSome=true/\Lv f l goal (k+1) x:=fun x=>by
  constructor
  ·intro z;cases z
  ·rintro⟨z1,z2⟩;exact absurd ((hk x).mpr z1) (z2.2 k (Nat.lt_succ_self k))
 have R0:Rg f l goal k ms ms []:={ hm with old:=fun x=>(hk x).mp,fu_:=f0,up:=fun x hx=>.inl ((hk x).mpr hx),nd2:=by simp,cnt:=by simp }
 obtain⟨ρ',e,ms',fu,s6',s7',rfl,r1,r2,r3,r4⟩:=JM (i:=6) (body:=zr (zq U zi (n+3)) zi Jx)
  (fun pre ρ=>∃ms' fu s6' s7',ρ=yz F l goal ms' (some (.val (lD ed))) (some (.obj true (lD fu))) s6' s7'/\Rg f l goal k ms ms' fu/\(∀x∈pre,∀o∈nb f l x,(zU ms' o).isSome=true)/\zE (some s6')=true/\zE (some s7')=true)
  (xs:=ed) (ρ:=yz F l goal ms (some (.val (lD ed))) (some (.obj true (lD []))) s6 s7) ⟨ms,[],s6,s7,rfl,R0,fun o ho=>(by cases ho),h6,h7⟩
  fun pre x post ρ e zz5=>by
   obtain⟨ms',fu,s6',s7',eρ,r1,r2,r3,r4⟩:=zz5
   subst eρ
   have hx:x∈ed:=by rw[e];simp
   obtain⟨ms2,fu2,s72,e2,q1,q2,q3,q4⟩:=zlZ n hF hf (s4:=some (.val (lD ed))) (s7:=s7') r1 ((hed x).mp hx) r4
   refine⟨_,_,e2,.inl rfl,ms2,fu2,_,s72,rfl,q1,fun y hy o ho=>?_,yH,q4⟩
   rw[List.mem_append,List.mem_singleton] at hy
   rcases hy with z|rfl
   ·exact q3 o (r2 y z o ho)
   ·exact q2 o ho
 have full: ∀x,Bk f l goal (k+1) x↔(zU ms' x).isSome=true:=fun x=>by
  refine⟨fun b=>?_,r1.up x⟩
  rcases b with b|⟨hxf,p,hp,hn⟩
  ·exact r1.old x b
  ·by_cases hb:Bk f l goal k x
   ·exact r1.old x hb
   ·obtain⟨j,hj,hlv⟩:=hp.lv
    have:j=k:=by
     by_cases e:j=k
     ·exact e
     ·exact absurd (Bk.mono (k:=j+1) (by omega) (.inr ⟨hxf,p,hlv.1,hn⟩)) hb
    subst this
    exact r2 p ((hed p).mpr hlv) x (XW.mpr ⟨hxf,by rw[wH];exact hn⟩)
 refine⟨ms',fu,some (.val (lD fu)),s6',s7',?_,r1.toLOk,full,fun x=>?_,r1.cnt,yH,r3,r4⟩
 ·simp only[Jy]
  rcases hs4 with rfl|rfl
  ·simp[yz,h5,h6,vn]
   rw[show yW (lD ed)=some (ed.map cD) from rfl,show D.lst []=lD [] from rfl]
   simp only[Option.map_some,Option.bind_some]
   rw[<-yz,e]
   simp[yz]
  ·simp[yz,h5,h6,vn]
   rw[show jG [some (SV.val F),some (SV.val (cD l)),some (SV.val (cD goal)),some (SV.obj true (dG oD ms)),some (SV.obj true (lD ed)),some (SV.obj true (D.lst [])),s6,s7] 4 (some (some (SV.obj true (lD ed))))=some (ed.map cD,yz F l goal ms (some (.val (lD ed))) (some (.obj true (lD []))) s6 s7) from rfl]
   simp only[Option.map_some,Option.bind_some]
   rw[e]
   simp[yz]
 ·rw[r1.fu_ x]
  exact⟨fun z=>z.2,fun z=>⟨(full x).mp z.1,z⟩⟩
structure LFull (f:List zd)(l goal:zd)(ms:vp):Prop extends LOk f l goal ms where
 all: ∀x,(zU ms x).isSome=true↔∃k,Bk f l goal k x
theorem zl1(n:Nat){F:D}(hF:yW F=some (f.map cD))(hf:f.length<=100)(hg:goal∈f): ∃ms,LFull f l goal ms/\zG U zi (n+4) 20 [F,cD l,cD goal]=some (.obj true (dG oD ms)):=by
 have ms0:LOk f l goal [(goal,none)]:=by
  refine⟨by simp,fun c hc=>?_,fun c hc=>?_,fun c p hc=>?_⟩
  ·rw[wv] at hc;simp at hc;subst hc;exact hg
  ·rw[jd] at hc;split at hc
   ·rename_i z;exact z.symm
   ·cases hc
  ·rw[jd] at hc;split at hc
   ·cases hc
   ·cases hc
 obtain⟨ρ',e,ms,s4,s5,s6,s7,rfl,h1,h2⟩:=Xi (test:=zF (zG U zi (n+3)) (.prim .gt (.cons (.prim .len (.cons (.var 4) .nil)) (.cons (.int 0) .nil)))) (body:=zr (zq U zi (n+3)) zi Jy)
  (fun m ρ=>∃k ms ed s4 s5 s6 s7,ρ=yz F l goal ms s4 s5 s6 s7/\(s4=some (.val (lD ed))\/s4=some (.obj true (lD ed)))/\LOk f l goal ms/\(∀x,Bk f l goal k x↔(zU ms x).isSome=true)/\(∀x,x∈ed↔Lv f l goal k x)/\(zE (some s5)=true/\zE (some s6)=true/\zE (some s7)=true)/\m=2*(f.length-ms.length)+(if ed=[] then 0 else 1))
  (fun ρ=>∃ms s4 s5 s6 s7,ρ=yz F l goal ms s4 s5 s6 s7/\LFull f l goal ms/\True)
  (m:=2*(f.length-1)+1) (n:=zi) (ρ:=yz F l goal [(goal,none)] (some (.obj true (lD [goal]))) none none none) (by unfold zi;omega)
  ⟨0,_,[goal],_,none,none,none,rfl,.inr rfl,ms0,fun x=>by
    rw[wv];simp[Bk],fun x=>by
    rw[List.mem_singleton];exact⟨fun z=>⟨z,fun i hi=>by omega⟩,fun z=>z.1⟩,⟨rfl,rfl,rfl⟩,by simp⟩
  fun m ρ zz2=>by
   obtain⟨k,ms,ed,s4,s5,s6,s7,eρ,hs4,q1,q2,q3,q4,q5⟩:=zz2
   subst eρ
   have ht:zF (zG U zi (n+3)) (.prim .gt (.cons (.prim .len (.cons (.var 4) .nil)) (.cons (.int 0) .nil))) (yz F l goal ms s4 s5 s6 s7)=some (decide (0<ed.length)):=by
    rcases hs4 with rfl|rfl
    ·simp[yz,lD]
    ·simp[yz,lD]
   by_cases hed:ed=[]
   ·subst hed
    refine .inl ⟨by rw[ht];rfl,ms,s4,s5,s6,s7,rfl,{ q1 with all:=fun x=>⟨fun z=>⟨k,(q2 x).mpr z⟩,fun ⟨j,hj⟩=>?_⟩ },trivial⟩
    have none_: ∀j x,Bk f l goal j x->Bk f l goal k x:=by
     intro j
     induction j with
     |zero=>intro x hx;exact hx.mono (Nat.zero_le k)
     |succ j ih=>
      intro x hx
      rcases hx with hx|⟨hxf,p,hp,hn⟩
      ·exact ih x hx
      ·obtain⟨i,hi,hlv⟩:=(ih p hp).lv
       by_cases e:i=k
       ·subst e;exact absurd ((q3 p).mpr hlv) (by simp)
       ·exact Bk.mono (k:=i+1) (by omega) (.inr ⟨hxf,p,hlv.1,hn⟩)
    exact (q2 x).mp (none_ j x hj)
   ·have hpos:0<ed.length:=List.length_pos_iff.mpr hed
    refine .inr ⟨by rw[ht];simp[hpos],?_⟩
    obtain⟨ms',fu,s5',s6',s7',e2,r1,r2,r3,r4,r5⟩:=zl0 n hF hf q1 q2 q3 hs4 q4.1 q4.2.1 q4.2.2
    have hl1:=r1.len
    refine⟨_,_,2*(f.length-ms'.length)+(if fu=[] then 0 else 1),e2,.inl rfl,?_,k+1,ms',fu,_,s5',s6',s7',rfl,.inl rfl,r1,r2,r3,r5,rfl⟩
    rw[q5,if_neg hed]
    cases fu with
    |nil=>simp at r4⊢;omega
    |cons a b=>simp at r4⊢;omega
 refine⟨ms,h1,?_⟩
 rw[yt zla rfl]
 simp only[XB]
 simp[ZB]
 rw[show D.dct true [cD goal] [D.non]=dG oD [(goal,none)] from rfl,show D.lst [cD goal]=lD [goal] from rfl,<-yz,e]
 simp[yz]
end
end LK
namespace LK
open L2.LW
theorem zcJ{α:Type}{R:α->α->Prop}(ir: ∀a,¬R a a)(as: ∀a b,R a b->R b a->False): ∀{l m:List α},l.Pairwise R->m.Pairwise R->(∀x,x∈l↔x∈m)->l=m
 |[],[],_,_,_=>rfl
 |[],y::m,_,_,h=>absurd ((h y).mpr List.mem_cons_self) (by simp)
 |x::l,[],_,_,h=>absurd ((h x).mp List.mem_cons_self) (by simp)
 |x::l,y::m,hl,hm,h=>by
  rw[List.pairwise_cons] at hl hm
  have exy:x=y:=by
   rcases List.mem_cons.mp ((h x).mp List.mem_cons_self) with e|e
   ·exact e
   ·rcases List.mem_cons.mp ((h y).mpr List.mem_cons_self) with e'|e'
    ·exact e'.symm
    ·exact (as _ _ (hm.1 x e) (hl.1 y e')).elim
  subst exy
  rw[zcJ ir as hl.2 hm.2 fun z=>?_]
  constructor
  ·intro hz
   rcases List.mem_cons.mp ((h z).mp (List.mem_cons_of_mem _ hz)) with e|e
   ·subst e;exact (ir _ (hl.1 z hz)).elim
   ·exact e
  ·intro hz
   rcases List.mem_cons.mp ((h z).mpr (List.mem_cons_of_mem _ hz)) with e|e
   ·subst e;exact (ir _ (hm.1 z hz)).elim
   ·exact e
noncomputable def cl(c:zd):List Int:=[c.1,c.2]
theorem zcK{a b:zd}(h:cl a=cl b):a=b:=by
 simp[cl] at h;exact Prod.ext h.1 h.2
theorem zl2{a b:zd}(h:zX a b):wG (cl a) (cl b):=by
 show L2.LW.lexLt [a.1,a.2] [b.1,b.2]=true
 simp only[L2.LW.lexLt]
 unfold zX at h
 by_cases e:a.1=b.1
 ·have: ¬a.2=b.2:=by omega
  have h2:a.2<b.2:=by omega
  simp[e,this,h2]
 ·have h2:a.1<b.1:=by omega
  simp[e,h2]
theorem zcL: ∀L:List zd,tups? (L.map cD)=some (L.map cl)
 |[]=>rfl
 |c::r=>by simp[tups?,cD,ints?,zcL r,cl]
theorem zl3{L g:List zd}(hL:L.Nodup)(hg:g.Pairwise zX)(h: ∀x,x∈L↔x∈g):wB (L.map cl)=g.map cl:=by
 have nd:(L.map cl).Nodup:=by
  rw[List.Nodup,List.pairwise_map];exact hL.imp fun ne e=>ne (zcK e)
 have up:=Jk nd
 have up2:(g.map cl).Pairwise wG:=by rw[List.pairwise_map];exact hg.imp zl2
 refine zcJ (R:=wG) (fun a z=>by have:=vY a;rw[show L2.LW.lexLt a a=true from z] at this;cases this) (fun a b z1 z2=>by have:=Zy z1 z2;rw[vY] at this;cases this) up up2 fun x=>?_
 rw[(Xc _).mem_iff,List.mem_map,List.mem_map]
 exact⟨fun ⟨c,hc,e⟩=>⟨c,(h c).mp hc,e⟩,fun ⟨c,hc,e⟩=>⟨c,(h c).mpr hc,e⟩⟩
theorem zcM{L g:List zd}(hL:L.Nodup)(hl:L.length<64)(hg:g.Pairwise zX)(h: ∀x,x∈L↔x∈g):Yt (L.map cD)=some (.obj true (lD g)):=by
 unfold Yt
 have nd:(L.map cl).Nodup:=by
  rw[List.Nodup,List.pairwise_map];exact hL.imp fun ne e=>ne (zcK e)
 rw[zcL,Option.bind_some,if_pos ⟨by simpa using hl,nd,by simp[cl]⟩,zl3 hL hg h,List.map_map]
 rfl
theorem zl4{L g:List zd}(h0:L≠[])(hL:L.Nodup)(hl:L.length<64)(hg:g.Pairwise zX)(h: ∀x,x∈L↔x∈g):Ze (L.map cD)=some (.obj true (lD g)):=by
 unfold Ze
 have:ints? (L.map cD)=none:=by
  cases L with
  |nil=>exact absurd rfl h0
  |cons c r=>rfl
 rw[this]
 exact zcM hL hl hg h
section
variable {α:Type} (g:α->D)
theorem zl5{ms:List (zd×α)}{c:zd}{v:α}(h:(zU ms c).isSome=true):xK true (ms.map fun p=>cD p.1) (ms.map fun p=>g p.2) (cD c) (g v)=dG g (ms.map fun p=>if p.1=c then (p.1,v) else p):=by
 unfold xK
 rw[XX,ZM,<-wv,if_pos h,<-XX]
 have: ∀ms:List (zd×α),List.zipWith (fun k' v'=>if zV k' (cD c)=true then g v else v') (ms.map fun p=>cD p.1) (ms.map fun p=>g p.2)=ms.map fun p=>g (if p.1=c then (p.1,v) else p).2:=by
  intro ms
  induction ms with
  |nil=>rfl
  |cons p r ih=>
   rw[List.map_cons,List.map_cons,List.zipWith_cons_cons,ih,List.map_cons,qv]
   by_cases h:p.1=c<;>simp[h]
 rw[this]
 unfold dG
 rw[List.map_map,List.map_map]
 congr 1
 apply List.map_congr_left
 intro p _
 show cD p.1=cD (if p.1=c then (p.1,v) else p).1
 split<;>rfl
theorem zcN: ∀(ms2 ms:List (zd×α)),∃ms':List (zd×α),wQ (ms.map fun p=>cD p.1) (ms.map fun p=>g p.2) (ms2.map fun p=>cD p.1) (ms2.map fun p=>g p.2)=(ms'.map (fun p=>cD p.1),ms'.map fun p=>g p.2)/\
  (∀c,(zU ms' c).isSome=((zU ms c).isSome||(zU ms2 c).isSome))/\ms'.length<=ms.length+ms2.length
 |[],ms=>⟨ms,by simp[wQ],fun c=>by simp[zU],by simp⟩
 |p::r,ms=>by
  have st: ∃ms1:List (zd×α),xK true (ms.map fun p=>cD p.1) (ms.map fun p=>g p.2) (cD p.1) (g p.2)=dG g ms1/\(∀c,(zU ms1 c).isSome=((zU ms c).isSome||decide (p.1=c)))/\ms1.length<=ms.length+1:=by
   by_cases h:(zU ms p.1).isSome=true
   ·refine⟨_,zl5 g h,fun c=>?_,by simp⟩
    have hk:((ms.map fun q=>if q.1=p.1 then (q.1,p.2) else q).map (·.1))=ms.map (·.1):=by
     rw[List.map_map];apply List.map_congr_left;intro q _
     show (if q.1=p.1 then (q.1,p.2) else q).1=q.1
     split<;>rfl
    rw[wv,hk,<-wv]
    by_cases e:p.1=c
    ·subst e;simp[h]
    ·simp[e]
   ·have h':zU ms p.1=none:=by simpa using h
    refine⟨_,zcI h',fun c=>?_,by simp⟩
    rw[vL h']
    by_cases e:c=p.1
    ·subst e;simp
    ·have: ¬p.1=c:=fun z=>e z.symm
     simp[e,this]
  obtain⟨ms1,e1,e2,e3⟩:=st
  obtain⟨ms',f1,f2,f3⟩:=zcN r ms1
  refine⟨ms',?_,fun c=>?_,by simp;omega⟩
  ·rw[List.map_cons,List.map_cons,wQ,e1]
   exact f1
  ·rw[f2,e2,jd]
   by_cases e:p.1=c
   ·simp[e]
   ·simp[e]
end
theorem zl6{α:Type}{g:α->D}{ms:List (zd×α)}(h: ∀c∈ms.map (·.1),jK c):(ms.map fun p=>cD p.1).all YF=true:=by
 rw[List.all_eq_true]
 intro d hd
 rw[List.mem_map] at hd
 obtain⟨p,hp,rfl⟩:=hd
 have:=h p.1 (List.mem_map.mpr ⟨p,hp,rfl⟩)
 unfold jK at this
 simp[cD,YF];omega
noncomputable def yw(f:List zd)(l c:zd):List zd:=f.filter fun x=>@decide (∃k,Bk f l c k x) (Classical.propDecidable _)
theorem vt{f:List zd}{l c x:zd}:x∈yw f l c↔x∈f/\∃k,Bk f l c k x:=by
 unfold yw;rw[List.mem_filter];simp
noncomputable def yx(f:List zd)(l:zd):List zd->List (List zd)->List (List zd)
 |[],acc=>acc
 |c::r,acc=>if c∈acc.flatten then yx f l r acc else yx f l r (acc++[yw f l c])
noncomputable def xX(f:List zd)(l:zd):List (List zd):=yx f l f []
noncomputable def yi(P:List (List zd)):D:=.lst (P.map lD)
theorem zcO{f:List zd}{l:zd}{acc:List (List zd)}: ∀{g:List zd},(∀c∈g,c∈acc.flatten)->yx f l g acc=acc
 |[],_=>rfl
 |c::r,h=>by rw[yx,if_pos (h c List.mem_cons_self)];exact zcO fun x hx=>h x (List.mem_cons_of_mem _ hx)
theorem qF{f:List zd}{l c:zd}(h:c∈f):c∈yw f l c:=vt.mpr ⟨h,0,rfl⟩
theorem zcP{f:List zd}{l:zd}: ∀{g:List zd} {acc:List (List zd)} {c:zd} {r:List zd},(∀x∈g,x∈f)->g.filter (fun x=>decide (x∉acc.flatten))=c::r->yx f l g acc=yx f l g (acc++[yw f l c])
 |[],acc,c,r,_,h=>by cases h
 |x::g,acc,c,r,hg,h=>by
  by_cases hx:x∈acc.flatten
  ·rw[List.filter_cons,if_neg (by simpa using hx)] at h
   rw[yx,if_pos hx,yx,if_pos (by rw[List.flatten_append];exact List.mem_append_left _ hx)]
   exact zcP (fun y hy=>hg y (List.mem_cons_of_mem _ hy)) h
  ·rw[List.filter_cons,if_pos (by simpa using hx)] at h
   injection h with h1 h2
   subst h1
   rw[yx,if_neg hx,yx,if_pos (by rw[List.flatten_append];exact List.mem_append_right _ (by simp[qF (l:=l) (hg x List.mem_cons_self)]))]
end LK
namespace LK
open L2.LW
theorem XY{f:List zd}{l x:zd}: ∀{g:List zd} {acc:List (List zd)},yx f l (g++[x]) acc=if x∈(yx f l g acc).flatten then yx f l g acc else yx f l g acc++[yw f l x]
 |[],acc=>by
  show yx f l [x] acc=_
  rw[yx]
  rfl
 |c::r,acc=>by
  rw[List.cons_append,yx,yx]
  split
  ·exact XY
  ·exact XY
theorem zcQ{f:List zd}{l c:zd}(h:f.Pairwise zX):(yw f l c).Pairwise zX:=h.filter _
section
variable {f:List zd} {l:zd}
noncomputable def wI(F:D)(l:zd)(acc:List (List zd))(ms:vp)(s4 s5:Option SV):Env:=[some (.val F),some (.val (cD l)),some (.obj true (yi acc)),some (.obj true (dG oD ms)),s4,s5]
theorem zl7(n:Nat){F:D}(hF:yW F=some (f.map cD))(hf:OkF f){acc:List (List zd)}{ms:vp}{c:zd}{s5:Option SV}(hc:c∈f)(hm: ∀x,(zU ms x).isSome=decide (x∈acc.flatten))(hl:ms.length<=1000)(ha:acc.length<=1000)(h5:zE (some s5)=true):
  ∃ms' s5',zr (zq U zi (n+4)) zi XC (wI F l acc ms (some (.val (cD c))) s5)=some (.nx,wI F l (if c∈acc.flatten then acc else acc++[yw f l c]) ms' (some (.val (cD c))) s5')/\
   (∀x,(zU ms' x).isSome=decide (x∈(if c∈acc.flatten then acc else acc++[yw f l c]).flatten))/\ms'.length<=ms.length+24/\zE (some s5')=true:=by
 have hl':=yI
 by_cases hin:c∈acc.flatten
 ·refine⟨ms,s5,?_,by simpa [hin] using hm,by omega,h5⟩
  have h1:=hm c
  rw[decide_eq_true hin] at h1
  rw[if_pos hin]
  simp[XC,wI,JN,h1]
 ·have hlen:=hf.len
  obtain⟨ms2,q,e2⟩:=zl1 (l:=l) n hF (by omega:f.length<=100) hc
  obtain⟨ms',f1,f2,f3⟩:=zcN oD ms2 ms
  have len2:=q.toLOk.len
  have h1:=hm c
  rw[decide_eq_false hin] at h1
  have sub: ∀x,x∈ms2.map (·.1)↔x∈yw f l c:=fun x=>by
   rw[vt,<-q.all x,wv,decide_eq_true_iff]
   refine⟨fun z=>⟨q.sub x (by rw[wv,decide_eq_true_iff];exact z),z⟩,fun z=>z.2⟩
  have sk:zh .skeys [dG oD ms2]=some (.obj true (lD (yw f l c))):=by
   show Yt (ms2.map fun p=>cD p.1)=_
   rw[XX]
   exact zcM q.nd (by rw[List.length_map];omega) (zcQ hf.rise) sub
  have ed: ∀s4,YG (wI F l acc ms s4 (some (.obj true (dG oD ms2)))) 3 5=some (.nx,wI F l acc ms' s4 (some (.obj true (dG oD ms2)))):=fun s4=>by
   show VH _ 3 (.obj true (dG oD ms)) (some (dG oD ms)) (some (dG oD ms2))=_
   unfold dG
   have sm:=zl6 (g:=oD) (ms:=ms2) fun x hx=>hf.cells x (vt.mp ((sub x).mp hx)).1
   have le:ms.length+ms2.length<line:=by omega
   simp only[VH,sm,List.length_map,le,decide_true,Bool.and_self,if_true,f1]
   rfl
  have ap: ∀(ρ:Env),ja ρ 2 (some (.obj true (lD (yw f l c)))) (some (some (.obj true (yi acc))))=some (.nx,ρ.set 2 (some (.obj true (yi (acc++[yw f l c]))))):=fun ρ=>by
   rw[yi,Xh]
   have:acc.length<line:=by omega
   simp only[Option.bind_some,qj,List.length_map,this,if_true]
   simp[yi]
  refine⟨ms',some (.obj true (dG oD ms2)),?_,fun x=>?_,by omega,zck⟩
  ·rw[if_neg hin]
   simp[XC,wI,JN,h1,e2,h5]
   rw[<-wI,ed]
   simp[wI,sk,ap]
  ·rw[if_neg hin,f2,hm,List.flatten_append,Bool.eq_iff_iff]
   have:(zU ms2 x).isSome=decide (x∈yw f l c):=by rw[wv,Bool.eq_iff_iff];simp[sub x]
   rw[this]
   simp
theorem zl8(n:Nat){F:D}(hF:yW F=some (f.map cD))(hf:OkF f):zG U zi (n+5) 30 [F,cD l]=some (.obj true (yi (xX f l))):=by
 have hlen:=hf.len
 obtain⟨ρ',e,ms,s4,s5,rfl,_⟩:=JM (i:=4) (body:=zr (zq U zi (n+4)) zi XC)
  (fun pre ρ=>∃ms s4 s5,ρ=wI F l (yx f l pre []) ms s4 s5/\(∀x,(zU ms x).isSome=decide (x∈(yx f l pre []).flatten))/\ms.length<=24*pre.length/\(yx f l pre []).length<=pre.length/\zE (some s5)=true)
  (xs:=f) (ρ:=wI F l [] [] none none) ⟨[],none,none,rfl,fun x=>by simp[yx,zU],by simp,by simp[yx],rfl⟩
  fun pre c post ρ e zz5=>by
   obtain⟨ms,s4,s5,eρ,r1,r2,r3,r4⟩:=zz5
   subst eρ
   have hc:c∈f:=by rw[e];simp
   have hp:pre.length<f.length:=by rw[e];simp
   obtain⟨ms',s5',e2,q1,q2,q3⟩:=zl7 (l:=l) n hF hf hc r1 (by omega) (by omega) r4
   refine⟨_,_,e2,.inl rfl,ms',some (.val (cD c)),s5',?_,?_,?_,?_,q3⟩
   ·rw[XY]
   ·rw[XY];exact q1
   ·simp;omega
   ·rw[XY];split<;>simp<;>omega
 rw[yt zlb rfl]
 simp only[XD]
 simp[vn]
 rw[hF]
 simp only[Option.map_some,Option.bind_some]
 rw[show D.dct true [] []=dG oD [] from rfl,show D.lst []=yi [] from rfl,<-wI,e]
 simp[wI,xX]
end
end LK
namespace LK
open L2.LW
section
variable {f:List zd} {l:zd}
theorem Bk.join{b c:zd}{k:Nat}(h2:Bk f l c k b): ∀{j:Nat} {a:zd},Bk f l b j a->Bk f l c (k+j) a
 |0,a,h=>by rw[show a=b from h];exact h2
 |j+1,a,h=>by
  rcases h with h|⟨ha,p,hp,hn⟩
  ·exact .inl (Bk.join h2 h)
  ·exact .inr ⟨ha,p,Bk.join h2 hp,hn⟩
theorem Bk.symm{b:zd}(hb:b∈f): ∀{j:Nat} {a:zd},a∈f->Bk f l b j a->Bk f l a j b
 |0,a,_,h=>by rw[show a=b from h];exact rfl
 |j+1,a,ha,h=>by
  rcases h with h|⟨_,p,hp,hn⟩
  ·exact .inl (Bk.symm hb ha h)
  ·have hpf:=hp.inF hb
   have h1:=Bk.symm hb hpf hp
   have h2:Bk f l a 1 p:=.inr ⟨hpf,a,rfl,by rw[wH];exact hn⟩
   have:=Bk.join h2 h1
   rwa [Nat.add_comm] at this
theorem qG: ∀{g:List zd} {acc:List (List zd)},(∀x∈g,x∈f)->(∀p∈acc,∃c∈f,p=yw f l c)->∀p∈yx f l g acc,∃c∈f,p=yw f l c
 |[],acc,_,h=>h
 |c::r,acc,hg,h=>by
  rw[yx]
  split
  ·exact qG (fun x hx=>hg x (List.mem_cons_of_mem _ hx)) h
  ·refine qG (fun x hx=>hg x (List.mem_cons_of_mem _ hx)) fun p hp=>?_
   rw[List.mem_append,List.mem_singleton] at hp
   rcases hp with hp|rfl
   ·exact h p hp
   ·exact⟨c,hg c List.mem_cons_self,rfl⟩
end
end LK
namespace LK
open L2.LW
theorem zcR{α:Type}{p:α->Bool}: ∀{f:List α},(f.filter p).length+(f.filter fun x=> !p x).length=f.length
 |[]=>rfl
 |a::r=>by
  have:=zcR (p:=p) (f:=r)
  rw[List.filter_cons,List.filter_cons,List.length_cons]
  cases h:p a
  ·simp;omega
  ·simp;omega
end LK
namespace LK
open L2.LW
section
variable {f:List zd} {l:zd}
open Classical in
theorem qH(hn:f.Nodup): ∀{g:List zd} {acc:List (List zd)},(∀x∈g,x∈f)->(∀p∈acc,∃c∈f,p=yw f l c)->acc.flatten.Nodup->(yx f l g acc).flatten.Nodup
 |[],acc,_,_,h=>h
 |c::r,acc,hg,hp,h=>by
  rw[yx]
  have hr: ∀x∈r,x∈f:=fun x hx=>hg x (List.mem_cons_of_mem _ hx)
  split
  ·exact qH hn hr hp h
  ·rename_i hc
   refine qH hn hr (fun p z=>?_) ?_
   ·rw[List.mem_append,List.mem_singleton] at z
    rcases z with z|rfl
    ·exact hp p z
    ·exact⟨c,hg c List.mem_cons_self,rfl⟩
   ·rw[List.flatten_append,List.nodup_append]
    refine⟨h,by rw[List.flatten_cons,List.flatten_nil,List.append_nil];unfold yw;exact hn.sublist List.filter_sublist,fun a ha b hb e=>hc ?_⟩
    subst e
    have hb:a∈yw f l c:=by simpa using hb
    obtain⟨p,h1,h2⟩:=List.mem_flatten.mp ha
    obtain⟨d,hd,rfl⟩:=hp p h1
    obtain⟨haf,k,hk⟩:=vt.mp hb
    obtain⟨_,j,hj⟩:=vt.mp h2
    have hcf:=hg c List.mem_cons_self
    have:=Bk.join hj (Bk.symm hcf haf hk)
    exact List.mem_flatten.mpr ⟨_,h1,vt.mpr ⟨hcf,_,this⟩⟩
end
end LK
namespace LK
open L2.LW
theorem zl9{f:List zd}{l:zd}:(xX f l).length<=f.length:=by
 have key: ∀(g:List zd) (acc:List (List zd)),(yx f l g acc).length<=acc.length+g.length:=by
  intro g
  induction g with
  |nil=>intro acc;simp[yx]
  |cons c r ih=>
   intro acc
   rw[yx]
   split
   ·have:=ih acc;simp;omega
   ·have:=ih (acc++[yw f l c]);simp at this⊢;omega
 have:=key f []
 simpa [xX] using this
end LK
namespace LK
open L2.LW
noncomputable abbrev Mi:=List (Nat×Nat)
noncomputable def nD(n:Nat):D:=.int (n:Int)
noncomputable def dI(ms:Mi):D:=.dct false (ms.map fun p=>nD p.1) (ms.map fun p=>nD p.2)
noncomputable def yn(ms:Mi)(k:Nat):Option Nat:=(ms.find? fun p=>decide (p.1=k)).map (·.2)
noncomputable def vv(ms:Mi)(k v:Nat):Mi:=if (yn ms k).isSome then ms.map (fun p=>if p.1=k then (p.1,v) else p) else ms++[(k,v)]
theorem qI{a b:Nat}:zV (nD a) (nD b)=decide (a=b):=by
 simp only[nD,zV]
 rw[Bool.eq_iff_iff]
 simp
 omega
theorem ww(p:Nat×Nat)(r:Mi)(k:Nat):yn (p::r) k=if p.1=k then some p.2 else yn r k:=by
 unfold yn
 rw[List.find?_cons]
 by_cases h:p.1=k<;>simp[h]
theorem zcS(k:Nat): ∀ms:Mi,(yn ms k).isSome=decide (k∈ms.map (·.1))
 |[]=>rfl
 |p::r=>by
  rw[ww,List.map_cons]
  by_cases h:p.1=k
  ·simp[h]
  ·rw[if_neg h,zcS k r]
   have: ¬k=p.1:=fun z=>h z.symm
   simp[this]
theorem qJ(k:Nat): ∀ms:Mi,dget (ms.map fun p=>nD p.1) (ms.map fun p=>nD p.2) (nD k)=(yn ms k).map nD
 |[]=>rfl
 |p::r=>by
  have ih:=qJ k r
  unfold dget yU at ih⊢
  rw[List.map_cons,List.map_cons,List.findIdx?_cons,qI,ww]
  by_cases h:p.1=k
  ·simp[h]
  ·rw[if_neg h,<-ih]
   simp only[h,decide_false,Bool.false_eq_true,if_false]
   cases (List.findIdx? (fun x=>zV x (nD k)) (r.map fun p=>nD p.1))<;>simp
theorem zcT(k:Nat): ∀ms:Mi,(yU (ms.map fun p=>nD p.1) (nD k)).isSome=(yn ms k).isSome
 |[]=>rfl
 |p::r=>by
  have ih:=zcT k r
  unfold yU at ih⊢
  rw[List.map_cons,List.findIdx?_cons,qI,ww]
  by_cases h:p.1=k
  ·simp[h]
  ·rw[if_neg h,<-ih]
   simp only[h,decide_false,Bool.false_eq_true,if_false]
   cases (List.findIdx? (fun x=>zV x (nD k)) (r.map fun p=>nD p.1))<;>simp
theorem zcU{k v:Nat}{ms:Mi}(h:yn ms k=some v):zh .idx [dI ms,nD k]=some (.val (nD v)):=by
 show jt [dI ms,nD k]=_
 unfold dI jt
 dsimp only
 rw[if_pos (show yQ false (nD k)=true from rfl),qJ,h]
 rfl
theorem zcV{k:Nat}{ms:Mi}:zh .dget [dI ms,nD k,.int 0]=some (.val (nD ((yn ms k).getD 0))):=by
 show YC [dI ms,nD k,.int 0]=_
 have e:YC [dI ms,nD k,.int 0]=match dget (ms.map fun p=>nD p.1) (ms.map fun p=>nD p.2) (nD k) with
   |some (.int v)=>yg v
   |none=>yg 0
   |_=>none:=rfl
 rw[e,qJ]
 cases yn ms k with
 |none=>rfl
 |some v=>rfl
theorem zma{ms:Mi}{k v:Nat}:xK false (ms.map fun p=>nD p.1) (ms.map fun p=>nD p.2) (nD k) (nD v)=dI (vv ms k v):=by
 unfold xK vv
 rw[zcT]
 split
 ·unfold dI
  congr 1
  ·rw[List.map_map]
   apply List.map_congr_left
   intro p _
   dsimp only[Function.comp]
   split<;>rfl
  ·rename_i hh
   clear hh
   induction ms with
   |nil=>rfl
   |cons p r ih=>
    simp only[List.map_cons,List.zipWith_cons_cons,ih,qI]
    congr 1
    by_cases h:p.1=k<;>simp[h]
 ·rw[dI,List.map_append,List.map_append]
  rfl
theorem JO{ms:Mi}{k v x:Nat}:yn (vv ms k v) x=if x=k then some v else yn ms x:=by
 unfold vv
 by_cases h:(yn ms k).isSome=true
 ·rw[if_pos h]
  induction ms with
  |nil=>cases h
  |cons p r ih=>
   rw[List.map_cons,ww,ww]
   rw[ww] at h
   by_cases e:p.1=k
   ·rw[if_pos e]
    dsimp only
    by_cases ex:x=k
    ·rw[if_pos (by rw[e,ex]),if_pos ex]
    ·rw[if_neg (by rw[e];exact fun z=>ex z.symm),if_neg ex,if_neg (by rw[e];exact fun z=>ex z.symm)]
     clear ih h
     induction r with
     |nil=>rfl
     |cons q r ih=>
      rw[List.map_cons,ww,ww,ih]
      by_cases e2:q.1=k
      ·rw[if_pos e2,if_neg (by dsimp only;rw[e2];exact fun z=>ex z.symm),if_neg (by rw[e2];exact fun z=>ex z.symm)]
      ·rw[if_neg e2]
   ·rw[if_neg e] at h
    rw[if_neg e,ih h]
    by_cases ex:x=k
    ·rw[if_pos ex,if_pos ex,if_neg (by rw[ex];exact e)]
    ·rw[if_neg ex,if_neg ex]
 ·rw[if_neg h]
  have hn:yn ms k=none:=by simpa using h
  induction ms with
  |nil=>
   show yn [(k,v)] x=_
   rw[ww]
   by_cases e:x=k
   ·rw[if_pos e,if_pos e.symm]
   ·rw[if_neg e,if_neg fun z=>e z.symm]
  |cons p r ih=>
   rw[ww] at hn
   by_cases hp:p.1=k
   ·rw[if_pos hp] at hn;cases hn
   ·rw[if_neg hp] at hn
    rw[List.cons_append,ww,ww,ih (by rw[hn];simp) hn]
    by_cases e:p.1=x
    ·rw[if_pos e,if_pos e,if_neg (fun z=>hp (e.trans z))]
    ·rw[if_neg e,if_neg e]
theorem zcW{ms:Mi}{k v:Nat}(h:(ms.map (·.1)).Nodup):((vv ms k v).map (·.1)).Nodup:=by
 unfold vv
 by_cases e:(yn ms k).isSome=true
 ·rw[if_pos e,List.map_map]
  have:(fun p:Nat×Nat=>p.1)∘(fun p:Nat×Nat=>if p.1=k then (p.1,v) else p)=fun p=>p.1:=by
   funext p
   dsimp only[Function.comp]
   split<;>rfl
  rw[this];exact h
 ·rw[if_neg e,List.map_append,List.nodup_append]
  refine⟨h,by simp,fun a ha b hb eab=>?_⟩
  simp at hb
  subst hb;subst eab
  rw[zcS] at e
  exact e (by simpa using ha)
theorem qK{ms:Mi}(h:(ms.map (·.1)).Nodup){k v:Nat}:(k,v)∈ms↔yn ms k=some v:=by
 induction ms with
 |nil=>constructor<;>(intro z;cases z)
 |cons p r ih=>
  rw[List.map_cons,List.nodup_cons] at h
  rw[ww,List.mem_cons]
  by_cases e:p.1=k
  ·rw[if_pos e]
   constructor
   ·rintro (z|z)
    ·rw[<-z]
    ·exact absurd (List.mem_map.mpr ⟨_,z,rfl⟩) (by rw[<-e];exact h.1)
   ·intro z
    cases z
    exact .inl (by rw[<-e])
  ·rw[if_neg e,<-ih h.2]
   constructor
   ·rintro (z|z)
    ·rw[<-z] at e;exact absurd rfl e
    ·exact z
   ·exact .inr
theorem zcX{ρ:Env}{i:Nat}{ms:Mi}{k v:Nat}(hl:ms.length<line):
  jH ρ i (some (.val (nD k))) (some (.val (nD v))) (some (some (.obj true (dI ms))))=some (.nx,ρ.set i (some (.obj true (dI (vv ms k v))))):=by
 rw[dI,zcl]
 simp only[Option.bind_some,Jq,List.length_map,hl,decide_true,Bool.and_self,zma]
 rfl
theorem ZN{n:Nat}(h:n<64):zh .shl [.int 1,nD n]=some (.val (nD (2 ^ n))):=by
 show Yx [.int 1,nD n]=_
 unfold Yx nD
 dsimp only
 rw[if_pos (by omega)]
 simp[yg]
theorem XZ{a b:Nat}:zh .band [nD a,nD b]=some (.val (nD (a&&& b))):=by
 show Yy [nD a,nD b]=_
 unfold Yy nD
 dsimp only
 rw[if_pos (by omega)]
 rfl
theorem zcY{a b:Nat}:zh .bor [nD a,nD b]=some (.val (nD (a|||b))):=by
 show Yz [nD a,nD b]=_
 unfold Yz nD
 dsimp only
 rw[if_pos (by omega)]
 rfl
theorem zmb{a b:Nat}:zh .bxor [nD a,nD b]=some (.val (nD (a ^^^ b))):=by
 show YA [nD a,nD b]=_
 unfold YA nD
 dsimp only
 rw[if_pos (by omega)]
 rfl
theorem zmc{a:Nat}:zh .blen [nD a]=some (.val (nD (wO a))):=by
 show YB [nD a]=_
 unfold YB nD
 dsimp only
 rw[if_pos (by omega)]
 rfl
theorem qL{a:Nat}:zh .ne [nD a,.int 0]=some (.val (.bl (decide (a≠0)))):=by
 rw[qk rfl rfl]
 unfold nD
 rw[zV]
 congr 3
 rw[Bool.eq_iff_iff]
 simp
theorem zcZ{a:Nat}:zh .eq [nD a,.int 0]=some (.val (.bl (decide (a=0)))):=by
 rw[Js rfl rfl]
 unfold nD
 rw[zV]
 congr 3
 rw[Bool.eq_iff_iff]
 simp
theorem zc0{N:Nat}(h:N<=1000):yl true [.val (nD N)]=some ((List.range N).map nD):=by
 rw[nD,JJ (ZK (by omega) (by omega))]
 simp only[Int.toNat_natCast,Int.zero_add]
 rfl
theorem Va{a b:Nat}:(a&&& b)≠0↔∃p,a.testBit p=true/\b.testBit p=true:=by
 constructor
 ·intro h
  obtain⟨p,hp⟩:=Nat.exists_testBit_of_ne_zero h
  rw[Nat.testBit_and,Bool.and_eq_true] at hp
  exact⟨p,hp⟩
 ·rintro⟨p,h1,h2⟩ z
  have:(a&&& b).testBit p=true:=by rw[Nat.testBit_and,h1,h2];rfl
  rw[z] at this;simp at this
theorem JP{a p:Nat}:(a&&& 2 ^ p)=0↔a.testBit p=false:=by
 constructor
 ·intro h
  have:(a&&& 2 ^ p).testBit p=false:=by rw[h];simp
  rw[Nat.testBit_and,Nat.testBit_two_pow_self,Bool.and_true] at this
  exact this
 ·intro h
  apply Nat.eq_of_testBit_eq
  intro i
  rw[Nat.testBit_and,Nat.zero_testBit]
  by_cases e:p=i
  ·subst e;rw[h];rfl
  ·rw[Nat.testBit_two_pow_of_ne e,Bool.and_false]
noncomputable def xj:List Nat->Nat
 |[]=>0
 |p::r=>xj r|||2 ^ p
theorem wY{i:Nat}: ∀{L:List Nat},(xj L).testBit i=true↔i∈L
 |[]=>by simp[xj]
 |p::r=>by
  rw[xj,Nat.testBit_or,Bool.or_eq_true,wY,List.mem_cons]
  constructor
  ·rintro (z|z)
   ·exact .inr z
   ·by_cases e:p=i
    ·exact .inl e.symm
    ·rw[Nat.testBit_two_pow_of_ne e] at z;cases z
  ·rintro (z|z)
   ·subst z;exact .inr Nat.testBit_two_pow_self
   ·exact .inl z
theorem zc1{N:Nat}: ∀{L:List Nat},(∀p∈L,p<N)->xj L<2 ^ N
 |[],_=>Nat.two_pow_pos N
 |p::r,h=>Nat.or_lt_two_pow (zc1 fun q hq=>h q (List.mem_cons_of_mem _ hq)) (Nat.pow_lt_pow_right (by decide) (h p List.mem_cons_self))
theorem zmd{p:Nat}{L:List Nat}(h:p∉L):xj (p::L) ^^^ 2 ^ p=xj L:=by
 apply Nat.eq_of_testBit_eq
 intro i
 rw[xj,Nat.testBit_xor,Nat.testBit_or]
 by_cases e:p=i
 ·subst e
  have:(xj L).testBit p=false:=by
   rw[Bool.eq_false_iff];exact fun z=>h (wY.mp z)
  rw[Nat.testBit_two_pow_self,this];rfl
 ·rw[Nat.testBit_two_pow_of_ne e];simp
theorem qM{N i:Nat}:(2 ^ N-1).testBit i=decide (i<N):=Nat.testBit_two_pow_sub_one N i
theorem zme{a:Nat}(h:a≠0):a.testBit (wO a-1)=true:=by
 unfold wO
 rw[if_neg h,Nat.add_sub_cancel]
 exact Nat.testBit_log2 h
end LK
namespace LK
open L2.LW
section
variable {N:Nat} {nm:Nat->Nat} {st:Nat}
inductive Pth (N:Nat)(nm:Nat->Nat)(st:Nat):List Nat->Prop where
 |one {p:Nat} (h:p<N) (s:st.testBit p=true):Pth N nm st [p]
 |more {q p:Nat} {L:List Nat} (h:Pth N nm st (p::L)) (lt:q<N) (new:q∉p::L) (nr:(nm q).testBit p=true):Pth N nm st (q::p::L)
theorem Pth.lt{L:List Nat}(h:Pth N nm st L): ∀p∈L,p<N:=by
 induction h with
 |one h s=>intro p hp;rw[List.mem_singleton] at hp;rw[hp];exact h
 |more h lt new nr ih=>
  intro p hp
  rcases List.mem_cons.mp hp with rfl|hp
  ·exact lt
  ·exact ih p hp
theorem Pth.nd{L:List Nat}(h:Pth N nm st L):L.Nodup:=by
 induction h with
 |one h s=>simp
 |more h lt new nr ih=>exact List.nodup_cons.mpr ⟨new,ih⟩
structure Lay (N:Nat)(nm:Nat->Nat)(st:Nat)(j:Nat)(ms:Mi):Prop where
 nd:(ms.map (·.1)).Nodup
 lt: ∀v e,yn ms v=some e->v<2 ^ N/\e<2 ^ N
 is: ∀v p,(∃e,yn ms v=some e/\e.testBit p=true)↔∃L,Pth N nm st (p::L)/\L.length=j/\xj (p::L)=v
theorem zc2{ms:Mi}(nd:(ms.map (·.1)).Nodup)(lt: ∀v e,yn ms v=some e->v<2 ^ N)(hN:N<=16):ms.length<=65536:=by
 have:=wX (l:=ms.map (·.1)) (m:=List.range (2 ^ N)) nd fun x hx=>by
  obtain⟨p,hp,rfl⟩:=List.mem_map.mp hx
  exact List.mem_range.mpr (lt p.1 p.2 ((qK nd).mp hp))
 rw[List.length_map,List.length_range] at this
 exact Nat.le_trans this (Nat.pow_le_pow_right (by decide) hN)
noncomputable def je(N st:Nat)(ms:Mi)(s3:Option SV):Env:=[some (.val (nD N)),some (.val (nD st)),some (.obj true (dI ms)),s3]
theorem zmf(n:Nat)(hN:N<=16): ∃ms,Lay N nm st 0 ms/\zG U zi (n+1) 63 [nD N,nD st]=some (.obj true (dI ms)):=by
 have hl':=yI
 obtain⟨ρ',e,ms,s3,rfl,q1,q2,q3⟩:=qm (i:=3) (body:=zr (zq U zi n) zi JA)
  (fun k ρ=>∃ms s3,ρ=je N st ms s3/\(ms.map (·.1)).Nodup/\(∀v e,yn ms v=some e->v<2 ^ N/\e<2 ^ N)/\∀v p,(∃e,yn ms v=some e/\e.testBit p=true)↔p<k/\st.testBit p=true/\v=2 ^ p)
  (f:=nD) (xs:=List.range N) (ρ:=je N st [] none) ⟨[],none,rfl,by simp,fun v e h=>(by cases h),fun v p=>by
   constructor
   ·rintro⟨e,h,_⟩;cases h
   ·rintro⟨h,_⟩;omega⟩
  fun k ρ hk zz=>by
   obtain⟨ms,s3,eρ,q1,q2,q3⟩:=zz
   subst eρ
   rw[List.length_range] at hk
   rw[List.getElem_range]
   have sh:=ZN (n:=k) (by omega)
   have bd:=XZ (a:=st) (b:=2 ^ k)
   have kl:=zc2 q1 (fun v e h=>(q2 v e h).1) hN
   have pl:(2:Nat) ^ k<2 ^ N:=Nat.pow_lt_pow_right (by decide) hk
   by_cases hb:st.testBit k=true
   ·have hz:(st&&& 2 ^ k)≠0:=fun z=>by rw[JP.mp z] at hb;cases hb
    have ne:=qL (a:=st&&& 2 ^ k)
    rw[decide_eq_true hz] at ne
    refine⟨.nx,je N st (vv ms (2 ^ k) (2 ^ k)) (some (.val (nD k))),?_,.inl rfl,_,_,rfl,zcW q1,fun v e h=>?_,fun v p=>?_⟩
    ·simp only[JA,je]
     simp[sh,bd,ne]
     rw[zcX (by omega)]
     simp
    ·rw[JO] at h
     split at h
     ·rename_i z;cases h;rw[z];exact⟨pl,pl⟩
     ·exact q2 v e h
    ·rw[JO]
     by_cases ev:v=2 ^ k
     ·rw[if_pos ev]
      constructor
      ·rintro⟨e,h,h2⟩
       cases h
       have:p=k:=by
        by_cases z:k=p
        ·exact z.symm
        ·rw[Nat.testBit_two_pow_of_ne z] at h2;cases h2
       subst this
       exact⟨by omega,hb,ev⟩
      ·rintro⟨h1,h2,h3⟩
       have:p=k:=(Nat.pow_right_inj (by decide:1<2)).mp (h3.symm.trans ev)
       subst this
       exact⟨_,rfl,Nat.testBit_two_pow_self⟩
     ·rw[if_neg ev,q3 v p]
      constructor
      ·rintro⟨h1,h2,h3⟩;exact⟨by omega,h2,h3⟩
      ·rintro⟨h1,h2,h3⟩
       refine⟨?_,h2,h3⟩
       by_cases z:p=k
       ·subst z;exact absurd h3 ev
       ·omega
   ·have hb':st.testBit k=false:=by simpa using hb
    have hz:=JP.mpr hb'
    have ne:=qL (a:=st&&& 2 ^ k)
    rw[decide_eq_false (fun z=>z hz)] at ne
    refine⟨.nx,je N st ms (some (.val (nD k))),?_,.inl rfl,_,_,rfl,q1,q2,fun v p=>?_⟩
    ·simp only[JA,je]
     simp[sh,bd,ne]
    ·rw[q3 v p]
     constructor
     ·rintro⟨h1,h2,h3⟩;exact⟨by omega,h2,h3⟩
     ·rintro⟨h1,h2,h3⟩
      refine⟨?_,h2,h3⟩
      by_cases z:p=k
      ·subst z;rw[hb'] at h2;cases h2
      ·omega
 rw[List.length_range] at q3
 refine⟨ms,⟨q1,q2,fun v p=>?_⟩,?_⟩
 ·rw[q3 v p]
  constructor
  ·rintro⟨h1,h2,h3⟩
   exact⟨[],.one h1 h2,rfl,by rw[h3];simp[xj]⟩
  ·rintro⟨L,h1,h2,h3⟩
   have:L=[]:=List.eq_nil_of_length_eq_zero h2
   subst this
   cases h1 with
   |one h s=>exact⟨h,s,by rw[<-h3];simp[xj]⟩
 ·rw[yt zlf rfl]
  have it:=zc0 (N:=N) (by omega)
  simp -implicitDefEqProofs only[XI]
  simp -implicitDefEqProofs [jb,it]
  rw[show D.dct false [] []=dI [] from rfl,<-je,e]
  simp -implicitDefEqProofs [je]
end
end LK
namespace LK
open L2.LW
theorem JQ{α:Type}{g:α->D}{i:Nat}{body:Env->Option (Fl×Env)}(I:List α->Env->Prop){xs:List α}{ρ:Env}(h0:I [] ρ)
  (st: ∀pre x post ρ,xs=pre++x::post->I pre ρ->∃fl ρ',body (ρ.set i (some (.val (g x))))=some (fl,ρ')/\(fl= .nx\/fl= .ct)/\I (pre++[x]) ρ'):
  ∃ρ',ym i body (xs.map g) ρ=some (.nx,ρ')/\I xs ρ':=by
 have key: ∀(post pre:List α) (ρ:Env),xs=pre++post->I pre ρ->∃ρ',ym i body (post.map g) ρ=some (.nx,ρ')/\I xs ρ':=by
  intro post
  induction post with
  |nil=>intro pre ρ e h;exact⟨ρ,rfl,by rw[e];simpa using h⟩
  |cons x post ih=>
   intro pre ρ e h
   obtain⟨fl,ρ1,e1,e2,h1⟩:=st pre x post ρ e h
   obtain⟨ρ',e3,h3⟩:=ih (pre++[x]) ρ1 (by simp[e]) h1
   refine⟨ρ',?_,h3⟩
   rw[List.map_cons,ym,e1]
   simp only[Option.bind_some]
   rcases e2 with rfl|rfl<;>exact e3
 exact key xs [] ρ rfl h0
section
variable {N:Nat} {ns:List Nat} {st:Nat}
noncomputable def vM(lg:Mi)(u p:Nat):Prop:=∃e,yn lg u=some e/\e.testBit p=true
noncomputable def ZO(N:Nat)(lg:Mi):Prop:=(lg.map (·.1)).Nodup/\∀v e,yn lg v=some e->v<2 ^ N/\e<2 ^ N
noncomputable def Vb(ns:List Nat)(ms:Mi)(v q:Nat):Prop:=v.testBit q=false/\∃e0,yn ms v=some e0/\(e0&&& ns.getD q 0)≠0
noncomputable def xF(ns:List Nat)(ms lg:Mi)(s3 s4 s5:Option SV):Env:=[some (.val (.lst (ns.map nD))),some (.val (dI ms)),some (.obj true (dI lg)),s3,s4,s5]
theorem qO{ns:List Nat}{q:Nat}(h:q<ns.length):zh .idx [.lst (ns.map nD),nD q]=some (.val (nD (ns.getD q 0))):=by
 show jt [.lst (ns.map nD),.int (q:Int)]=_
 unfold jt
 dsimp only
 rw[atI_nat (by simpa using h)]
 simp[List.getD,h]
theorem zmg{ρ:Env}{i:Nat}{ms:Mi}{k v:Nat}(hl:ms.length<line):
  jH ρ i (some (.val (nD k))) (some (.val (nD v))) (some (some (.obj true (dI ms))))=some (.nx,ρ.set i (some (.obj true (dI (vv ms k v))))):=zcX hl
theorem zmh(n:Nat)(hN:N<=16)(hns:ns.length=N){ms lg:Mi}{v e0 q:Nat}{s5:Option SV}(hv:yn ms v=some e0)(vlt:v<2 ^ N)(hq:q<N)(wl:ZO N lg)(h5:zE (some s5)=true):
  ∃lg' s5',zr (zq U zi n) zi ZF (xF ns ms lg (some (.val (nD v))) (some (.val (nD q))) s5)=some (.nx,xF ns ms lg' (some (.val (nD v))) (some (.val (nD q))) s5')/\ZO N lg'/\zE (some s5')=true/\
   ∀u p,vM lg' u p↔vM lg u p\/(Vb ns ms v q/\u=v|||2 ^ q/\p=q):=by
 have hl':=yI
 have sh:=ZN (n:=q) (by omega)
 have b1:=XZ (a:=v) (b:=2 ^ q)
 obtain⟨g,hg⟩: ∃g,ns.getD q 0=g:=⟨_,rfl⟩
 obtain⟨y,hy⟩: ∃y,(yn lg (v|||2 ^ q)).getD 0=y:=⟨_,rfl⟩
 have b2:=XZ (a:=e0) (b:=g)
 have b3:=zcY (a:=v) (b:=2 ^ q)
 have b4:=zcV (k:=v|||2 ^ q) (ms:=lg)
 rw[hy] at b4
 have b5:=zcY (a:=y) (b:=2 ^ q)
 have i1:=zcU hv
 have i2:=qO (ns:=ns) (q:=q) (by omega)
 rw[hg] at i2
 have kl:=zc2 wl.1 (fun v e h=>(wl.2 v e h).1) hN
 have pl:(2:Nat) ^ q<2 ^ N:=Nat.pow_lt_pow_right (by decide) hq
 have z1:=zcZ (a:=v&&& 2 ^ q)
 have z2:=qL (a:=e0&&& g)
 have st:=zmg (ρ:=xF ns ms lg (some (.val (nD v))) (some (.val (nD q))) (some (.val (nD (2 ^ q))))) (i:=2) (ms:=lg) (k:=v|||2 ^ q) (v:=y|||2 ^ q) (by omega)
 by_cases c1:v.testBit q=true
 ·have hz: ¬(v&&& 2 ^ q)=0:=fun z=>by rw[JP.mp z] at c1;cases c1
  rw[decide_eq_false hz] at z1
  refine⟨lg,some (.val (nD (2 ^ q))),?_,wl,yH,fun u p=>?_⟩
  ·simp only[ZF,xF]
   simp[sh,b1,z1,h5]
  ·constructor
   ·exact .inl
   ·rintro (z|⟨z,_⟩)
    ·exact z
    ·rw[z.1] at c1;cases c1
 ·have c1':v.testBit q=false:=by simpa using c1
  rw[decide_eq_true (JP.mpr c1')] at z1
  by_cases c2:(e0&&& g)=0
  ·rw[decide_eq_false (fun z=>z c2)] at z2
   refine⟨lg,some (.val (nD (2 ^ q))),?_,wl,yH,fun u p=>?_⟩
   ·simp only[ZF,xF]
    simp[sh,b1,z1,h5,i1,i2,b2,z2]
   ·constructor
    ·exact .inl
    ·rintro (z|⟨⟨_,e1,h1,h2⟩,_⟩)
     ·exact z
     ·rw[hv] at h1;cases h1;rw[hg] at h2;exact absurd c2 h2
  ·rw[decide_eq_true c2] at z2
   refine⟨vv lg (v|||2 ^ q) (y|||2 ^ q),some (.val (nD (2 ^ q))),?_,⟨zcW wl.1,fun u e h=>?_⟩,yH,fun u p=>?_⟩
   ·unfold xF at st
    simp only[ZF,xF]
    simp[sh,b1,z1,h5,i1,i2,b2,z2,b3,b4,b5]
    rw[st]
    simp
   ·rw[JO] at h
    split at h
    ·rename_i z
     cases h
     rw[z]
     refine⟨Nat.or_lt_two_pow vlt pl,Nat.or_lt_two_pow ?_ pl⟩
     rw[<-hy]
     cases hh:yn lg (v|||2 ^ q) with
     |none=>exact Nat.two_pow_pos N
     |some e=>exact (wl.2 _ _ hh).2
    ·exact wl.2 u e h
   ·have ok:Vb ns ms v q:=⟨c1',e0,hv,by rw[hg];exact c2⟩
    unfold vM
    rw[JO]
    by_cases eu:u=v|||2 ^ q
    ·rw[if_pos eu]
     constructor
     ·rintro⟨e,h1,h2⟩
      cases h1
      rw[Nat.testBit_or,Bool.or_eq_true] at h2
      rcases h2 with h2|h2
      ·left
       rw[eu]
       rw[<-hy] at h2
       cases hh:yn lg (v|||2 ^ q) with
       |none=>rw[hh] at h2;simp at h2
       |some e=>rw[hh] at h2;exact⟨e,rfl,h2⟩
      ·right
       refine⟨ok,eu,?_⟩
       by_cases z:q=p
       ·exact z.symm
       ·rw[Nat.testBit_two_pow_of_ne z] at h2;cases h2
     ·rintro (⟨e,h1,h2⟩|⟨_,_,h3⟩)
      ·rw[eu] at h1
       refine⟨_,rfl,?_⟩
       rw[<-hy,h1,Nat.testBit_or]
       show (e.testBit p||_)=true
       rw[h2];rfl
      ·refine⟨_,rfl,?_⟩
       rw[Nat.testBit_or,h3,Nat.testBit_two_pow_self,Bool.or_true]
    ·rw[if_neg eu]
     constructor
     ·exact .inl
     ·rintro (z|⟨_,z,_⟩)
      ·exact z
      ·exact absurd z eu
theorem zmi(n:Nat)(hN:N<=16)(hns:ns.length=N){ms lg:Mi}{v e0:Nat}{s4 s5:Option SV}(hv:yn ms v=some e0)(vlt:v<2 ^ N)(wl:ZO N lg)(h4:zE (some s4)=true)(h5:zE (some s5)=true):
  ∃lg' s4' s5',zr (zq U zi n) zi JB (xF ns ms lg (some (.val (nD v))) s4 s5)=some (.nx,xF ns ms lg' (some (.val (nD v))) s4' s5')/\ZO N lg'/\(zE (some s4')=true/\zE (some s5')=true)/\
   ∀u p,vM lg' u p↔vM lg u p\/(p<N/\Vb ns ms v p/\u=v|||2 ^ p):=by
 obtain⟨ρ',e,lg',s4',s5',rfl,q1,q2,q3,q4⟩:=qm (i:=4) (body:=zr (zq U zi n) zi ZF)
  (fun k ρ=>∃lg' s4' s5',ρ=xF ns ms lg' (some (.val (nD v))) s4' s5'/\ZO N lg'/\zE (some s4')=true/\zE (some s5')=true/\∀u p,vM lg' u p↔vM lg u p\/(p<k/\Vb ns ms v p/\u=v|||2 ^ p))
  (f:=nD) (xs:=List.range N) (ρ:=xF ns ms lg (some (.val (nD v))) s4 s5) ⟨lg,s4,s5,rfl,wl,h4,h5,fun u p=>by
   constructor
   ·exact .inl
   ·rintro (z|⟨z,_⟩)
    ·exact z
    ·omega⟩
  fun k ρ hk zz=>by
   obtain⟨lg',s4',s5',eρ,q1,q2,q3,q4⟩:=zz
   subst eρ
   rw[List.length_range] at hk
   rw[List.getElem_range]
   obtain⟨lg2,s52,e2,w2,f2,h2⟩:=zmh n hN hns (s5:=s5') hv vlt hk q1 q3
   refine⟨_,_,e2,.inl rfl,lg2,_,s52,rfl,w2,yH,f2,fun u p=>?_⟩
   rw[h2 u p,q4 u p]
   constructor
   ·rintro ((z|⟨z1,z2,z3⟩)|⟨z1,z2,z3⟩)
    ·exact .inl z
    ·exact .inr ⟨by omega,z2,z3⟩
    ·exact .inr ⟨by omega,by rw[z3];exact z1,by rw[z3];exact z2⟩
   ·rintro (z|⟨z1,z2,z3⟩)
    ·exact .inl (.inl z)
    ·by_cases ep:p=k
     ·subst ep;exact .inr ⟨z2,z3,rfl⟩
     ·exact .inl (.inr ⟨by omega,z2,z3⟩)
 rw[List.length_range] at q4
 refine⟨lg',s4',s5',?_,q1,⟨q2,q3⟩,q4⟩
 have it:=zc0 (N:=N) (by omega)
 have ln:zh .len [.lst (ns.map nD)]=some (.val (nD N)):=by
  show yg ((ns.map nD).length:Nat)=_
  rw[List.length_map,hns];rfl
 simp -implicitDefEqProofs only[JB,qi,jb]
 simp -implicitDefEqProofs [xF,ln,it,h4]
 rw[<-xF,e]
 simp -implicitDefEqProofs [xF]
theorem zmj(n:Nat)(hN:N<=16)(hns:ns.length=N){j:Nat}{ms:Mi}(hm:Lay N (fun q=>ns.getD q 0) st j ms):
  ∃lg,Lay N (fun q=>ns.getD q 0) st (j+1) lg/\zG U zi (n+1) 64 [.lst (ns.map nD),dI ms]=some (.obj true (dI lg)):=by
 obtain⟨ρ',e,lg,s3,s4,s5,rfl,q1,q2,q3⟩:=JQ (g:=fun p:Nat×Nat=>nD p.1) (i:=3) (body:=zr (zq U zi n) zi JB)
  (fun pre ρ=>∃lg s3 s4 s5,ρ=xF ns ms lg s3 s4 s5/\ZO N lg/\(zE (some s3)=true/\zE (some s4)=true/\zE (some s5)=true)/\∀u p,vM lg u p↔∃x∈pre,p<N/\Vb ns ms x.1 p/\u=x.1|||2 ^ p)
  (xs:=ms) (ρ:=xF ns ms [] none none none) ⟨[],none,none,none,rfl,⟨by simp,fun v e h=>(by cases h)⟩,⟨rfl,rfl,rfl⟩,fun u p=>by
   constructor
   ·rintro⟨e,h,_⟩;cases h
   ·rintro⟨x,h,_⟩;cases h⟩
  fun pre x post ρ e zz=>by
   obtain⟨lg,s3,s4,s5,eρ,q1,⟨f3,f4,f5⟩,q3⟩:=zz
   subst eρ
   have hx:x∈ms:=by rw[e];simp
   have hg:=(qK hm.nd).mp (show (x.1,x.2)∈ms from hx)
   obtain⟨lg2,s42,s52,e2,w2,⟨g4,g5⟩,h2⟩:=zmi n hN hns (s4:=s4) (s5:=s5) hg (hm.lt _ _ hg).1 q1 f4 f5
   refine⟨_,_,e2,.inl rfl,lg2,_,s42,s52,rfl,w2,⟨yH,g4,g5⟩,fun u p=>?_⟩
   rw[h2 u p,q3 u p]
   constructor
   ·rintro (⟨y,hy,z⟩|z)
    ·exact⟨y,List.mem_append_left _ hy,z⟩
    ·exact⟨x,List.mem_append_right _ (List.mem_singleton.mpr rfl),z⟩
   ·rintro⟨y,hy,z⟩
    rcases List.mem_append.mp hy with hy|hy
    ·exact .inl ⟨y,hy,z⟩
    ·rw[List.mem_singleton] at hy
     subst hy
     exact .inr z
 refine⟨lg,⟨q1.1,q1.2,fun u p=>?_⟩,?_⟩
 ·show vM lg u p↔_
  rw[q3 u p]
  constructor
  ·rintro⟨x,hx,hp,⟨h1,e0,h2,h3⟩,h4⟩
   obtain⟨r,r1,r2⟩:=Va.mp h3
   obtain⟨L,l1,l2,l3⟩:=(hm.is x.1 r).mp ⟨e0,h2,r1⟩
   refine⟨r::L,.more l1 hp (fun z=>?_) r2,by simp[l2],?_⟩
   ·rw[<-l3] at h1
    rw[wY.mpr z] at h1;cases h1
   ·rw[h4,<-l3,xj]
  ·rintro⟨L,l1,l2,l3⟩
   cases l1 with
   |one h s=>simp at l2
   |more h lt new nr=>
    rename_i r L
    obtain⟨e0,h2,r1⟩:=(hm.is (xj (r::L)) r).mpr ⟨L,h,by simpa using l2,rfl⟩
    refine⟨(xj (r::L),e0),(qK hm.nd).mpr h2,lt,⟨?_,e0,h2,Va.mpr ⟨r,r1,nr⟩⟩,?_⟩
    ·rw[Bool.eq_false_iff]
     exact fun z=>new (wY.mp z)
    ·rw[<-l3,xj]
 ·rw[yt zlg rfl]
  have ky: ∀lg s3 s4 s5,YH (xF ns ms lg s3 s4 s5) 1=some (ms.map fun p=>nD p.1):=fun _ _ _ _=>rfl
  simp -implicitDefEqProofs only[XJ]
  simp -implicitDefEqProofs [zkN]
  rw[show D.dct false [] []=dI [] from rfl,<-xF,ky]
  simp -implicitDefEqProofs only[Option.bind_some]
  rw[e]
  simp -implicitDefEqProofs [xF]
end
end LK
namespace LK
open L2.LW
section
variable {N:Nat} {ns:List Nat} {st:Nat}
theorem zc3{ls:List Mi}{x:Mi}(h:ls.getLast? =some x):zh .idx [.lst (ls.map dI),.int (-1)]=some (.val (dI x)):=by
 rw[List.getLast?_eq_getElem?,List.getElem?_eq_some_iff] at h
 obtain⟨h1,h2⟩:=h
 rw[jI]
 unfold atI ixN
 have hp:0<ls.length:=by omega
 rw[if_neg (by omega),if_pos (by rw[List.length_map];omega)]
 simp only[Option.bind_some]
 rw[show (-1+((ls.map dI).length:Int)).toNat=ls.length-1 by rw[List.length_map];omega]
 rw[List.getElem?_map,List.getElem?_eq_getElem h1,h2]
 rfl
noncomputable def wx(ns:List Nat)(st:Nat)(ls:List Mi):Env:=[some (.val (.lst (ns.map nD))),some (.val (nD st)),some (.obj true (.lst (ls.map dI)))]
noncomputable def qP(N:Nat)(ns:List Nat)(st:Nat)(ls:List Mi):Prop:=∀j (h:j<ls.length),Lay N (fun q=>ns.getD q 0) st j ls[j]
theorem zmk(n:Nat)(hN:N<=16)(h1:1<=N)(hns:ns.length=N): ∃ls,ls.length=N/\qP N ns st ls/\zG U zi (n+2) 65 [.lst (ns.map nD),nD st]=some (.obj true (.lst (ls.map dI))):=by
 have hl':=yI
 obtain⟨m0,L0,c0⟩:=zmf (nm:=fun q=>ns.getD q 0) (st:=st) n hN
 have ln:zh .len [.lst (ns.map nD)]=some (.val (nD N)):=by
  show yg ((ns.map nD).length:Nat)=_
  rw[List.length_map,hns];rfl
 obtain⟨ρ',e,ls,rfl,q1,q2⟩:=Xi (test:=zF (zG U zi (n+1)) (.prim .lt (.cons (.prim .len (.cons (.var 2) .nil)) (.cons (.prim .len (.cons (.var 0) .nil)) .nil)))) (body:=zr (zq U zi (n+1)) zi qt)
  (fun m ρ=>∃ls,ρ=wx ns st ls/\(0<ls.length/\ls.length<=N/\qP N ns st ls)/\m=N-ls.length)
  (fun ρ=>∃ls,ρ=wx ns st ls/\ls.length=N/\qP N ns st ls)
  (m:=N-1) (n:=zi) (ρ:=wx ns st [m0]) (by unfold zi;omega)
  ⟨[m0],rfl,⟨by simp,by simpa using h1,fun j h=>by
   have:j=0:=by simpa using h
   subst this
   exact L0⟩,by simp⟩
  fun m ρ zz=>by
   obtain⟨ls,eρ,⟨q1,q2,q3⟩,rfl⟩:=zz
   subst eρ
   have lt:zh .lt [.int ((ls.map dI).length:Nat),nD N]=some (.val (.bl (decide (ls.length<N)))):=by
    rw[List.length_map]
    have z:decide ((ls.length:Int)<(N:Int))=decide (ls.length<N):=by rw[decide_eq_decide];omega
    rw[<-z]
    rfl
   have ht:zF (zG U zi (n+1)) (.prim .lt (.cons (.prim .len (.cons (.var 2) .nil)) (.cons (.prim .len (.cons (.var 0) .nil)) .nil))) (wx ns st ls)=some (decide (ls.length<N)):=by
    have ll:zh .len [.lst (ls.map dI)]=some (.val (.int ((ls.map dI).length:Nat))):=rfl
    simp -implicitDefEqProofs only[wx,zkK,qf,qe,zkH]
    simp -implicitDefEqProofs [ln,ll]
    rw[List.length_map] at lt
    rw[lt]
    simp
   by_cases c:ls.length<N
   ·refine .inr ⟨by rw[ht,decide_eq_true c],?_⟩
    obtain⟨x,hx⟩: ∃x,ls.getLast? =some x:=by
     cases z:ls.getLast? with
     |none=>rw[List.getLast?_eq_none_iff] at z;rw[z] at q1;simp at q1
     |some x=>exact⟨x,rfl⟩
    have hx2:=hx
    rw[List.getLast?_eq_getElem?,List.getElem?_eq_some_iff] at hx2
    obtain⟨g1,g2⟩:=hx2
    have hL:=q3 (ls.length-1) g1
    rw[g2] at hL
    obtain⟨lg,l1,l2⟩:=zmj n hN hns hL
    have la:=zc3 hx
    refine⟨.nx,wx ns st (ls++[lg]),N-(ls.length+1),?_,.inl rfl,by omega,ls++[lg],rfl,⟨by simp,by simp;omega,fun j hj=>?_⟩,by simp⟩
    ·have ap:ja (wx ns st ls) 2 (some (.obj true (dI lg))) (some (some (.obj true (.lst (ls.map dI)))))=some (.nx,wx ns st (ls++[lg])):=by
      have:ls.length<line:=by omega
      simp[wx,this]
     unfold wx at ap
     simp only[qt,wx]
     simp -implicitDefEqProofs [la,l2,ap]
    ·rw[List.length_append,List.length_singleton] at hj
     by_cases z:j<ls.length
     ·rw[List.getElem_append_left z];exact q3 j z
     ·have:j=ls.length:=by omega
      subst this
      rw[List.getElem_append_right (Nat.le_refl _)]
      have e1:ls.length-1+1=ls.length:=by omega
      rw[e1] at l1
      simpa using l1
   ·exact .inl ⟨by rw[ht,decide_eq_false c],ls,rfl,by omega,q3⟩
 refine⟨ls,q1,q2,?_⟩
 rw[yt zlh rfl]
 simp -implicitDefEqProofs only[XM]
 simp -implicitDefEqProofs [ZB,ln,c0]
 rw[show [dI m0]=[m0].map dI from rfl,<-wx,e]
 simp -implicitDefEqProofs [wx]
end
end LK
namespace LK
open L2.LW
section
variable {N:Nat} {ns:List Nat} {st en:Nat} {f:List zd}
theorem zc4{L:List Nat}(nd:L.Nodup)(lt: ∀p∈L,p<N)(len:L.length=N): ∀i,i<N->i∈L:=fun i hi=>by
 by_cases z:i∈L
 ·exact z
 ·have:=wX (l:=i::L) (m:=List.range N) (List.nodup_cons.mpr ⟨z,nd⟩) fun x hx=>by
   rw[List.mem_range]
   rcases List.mem_cons.mp hx with rfl|hx
   ·exact hi
   ·exact lt x hx
  rw[List.length_cons,List.length_range] at this
  omega
theorem zml{L:List Nat}(nd:L.Nodup)(lt: ∀p∈L,p<N)(len:L.length=N):xj L=2 ^ N-1:=by
 apply Nat.eq_of_testBit_eq
 intro i
 rw[Bool.eq_iff_iff,wY,qM,decide_eq_true_iff]
 exact⟨lt i,zc4 nd lt len i⟩
structure Run (N:Nat)(ns:List Nat)(st en:Nat)(qs:List Nat):Prop where
 len:qs.length=N
 lt: ∀q∈qs,q<N
 nd:qs.Nodup
 step: ∀i (h:i+1<qs.length),(ns.getD qs[i] 0).testBit qs[i+1]=true
 head: ∀z,qs.head? =some z->en.testBit z=true
 last: ∀z,qs.getLast? =some z->st.testBit z=true
noncomputable def xG(f:List zd)(qs:List Nat):List zd:=qs.map fun q=>f.getD q (0,0)
structure Bck (N:Nat)(ns:List Nat)(st en:Nat)(qs:List Nat)(v E:Nat):Prop where
 lt: ∀q∈qs,q<N
 nd:qs.Nodup
 off: ∀q∈qs,v.testBit q=false
 step: ∀i (h:i+1<qs.length),(ns.getD qs[i] 0).testBit qs[i+1]=true
 head: ∀z,qs.head? =some z->en.testBit z=true
 e0:qs=[]->E=en
 e1: ∀z,qs.getLast? =some z->E=ns.getD z 0
 more:qs.length<N->∃p L,Pth N (fun q=>ns.getD q 0) st (p::L)/\L.length+1+qs.length=N/\xj (p::L)=v/\E.testBit p=true
 fin:qs.length=N->∀z,qs.getLast? =some z->st.testBit z=true
theorem Bck.turn{qs:List Nat}{v E e q:Nat}{ms:Mi}(b:Bck N ns st en qs v E)(lt:qs.length<N)(hm:Lay N (fun q=>ns.getD q 0) st (N-1-qs.length) ms)(hg:yn ms v=some e)(hq:(e&&& E).testBit q=true):
  Bck N ns st en (qs++[q]) (v ^^^ 2 ^ q) (ns.getD q 0)/\q<N:=by
 rw[Nat.testBit_and,Bool.and_eq_true] at hq
 obtain⟨L,h1,h2,h3⟩:=(hm.is v q).mp ⟨e,hg,hq.1⟩
 have nd:=h1.nd
 rw[List.nodup_cons] at nd
 have vq:v.testBit q=true:=by rw[<-h3];exact wY.mpr List.mem_cons_self
 have ev:v ^^^ 2 ^ q=xj L:=by rw[<-h3];exact zmd nd.1
 have hqN:q<N:=h1.lt q List.mem_cons_self
 have nq:q∉qs:=fun z=>by rw[b.off q z] at vq;cases vq
 have en_: ∀z,qs.getLast? =some z->(ns.getD z 0).testBit q=true:=fun z hz=>by rw[<-b.e1 z hz];exact hq.2
 refine⟨⟨fun x hx=>?_,?_,fun x hx=>?_,fun i hi=>?_,fun z hz=>?_,fun z=>?_,fun z hz=>?_,fun hl=>?_,fun hl z hz=>?_⟩,hqN⟩
 ·rcases List.mem_append.mp hx with hx|hx
  ·exact b.lt x hx
  ·rw[List.mem_singleton] at hx;rw[hx];exact hqN
 ·rw[List.nodup_append]
  refine⟨b.nd,by simp,fun a ha c hc e=>?_⟩
  rw[List.mem_singleton] at hc
  rw[hc] at e
  rw[e] at ha
  exact nq ha
 ·rw[ev,Bool.eq_false_iff]
  intro z
  have z:=wY.mp z
  rcases List.mem_append.mp hx with hx|hx
  ·have:=b.off x hx
   rw[<-h3,wY.mpr (List.mem_cons_of_mem _ z)] at this
   cases this
  ·rw[List.mem_singleton] at hx
   rw[hx] at z
   exact nd.1 z
 ·rw[List.length_append,List.length_singleton] at hi
  by_cases c:i+1<qs.length
  ·rw[List.getElem_append_left (by omega),List.getElem_append_left c]
   exact b.step i c
  ·have e1:i+1=qs.length:=by omega
   rw[List.getElem_append_left (by omega),List.getElem_append_right (by omega)]
   have hz:qs.getLast? =some (qs[i]'(by omega)):=by
    rw[List.getLast?_eq_getElem?,List.getElem?_eq_some_iff]
    exact⟨by omega,by congr 1;omega⟩
   have:=en_ _ hz
   simpa using this
 ·cases qs with
  |nil=>
   simp at hz
   subst hz
   rw[<-b.e0 rfl];exact hq.2
  |cons a r=>exact b.head z (by simpa using hz)
 ·simp at z
 ·simp at hz
  rw[hz]
 ·rw[List.length_append,List.length_singleton] at hl⊢
  cases h1 with
  |one h s=>simp at h2;omega
  |more h lt new nr=>
   rename_i p L
   exact⟨p,L,h,by simp at h2;omega,by rw[ev],nr⟩
 ·rw[List.length_append,List.length_singleton] at hl
  have:L=[]:=List.eq_nil_of_length_eq_zero (by omega)
  subst this
  simp at hz
  subst hz
  cases h1 with
  |one h s=>exact s
noncomputable def jM(f:List zd)(ns:List Nat)(st E:Nat)(ls:List Mi)(v:Nat)(qs:List Nat)(s7 s8:Option SV):Env:=
 [some (.val (fD f)),some (.val (.lst (ns.map nD))),some (.val (nD st)),some (.val (nD E)),some (.val (.lst (ls.map dI))),some (.val (nD v)),some (.obj true (lD (xG f qs))),s7,s8]
theorem zmm{q:Nat}(h:q<f.length):zh .idx [fD f,nD q]=some (.val (cD (f.getD q (0,0)))):=by
 have:=qx h
 rw[show f.getD q (0,0)=f[q] by simp[List.getD,h]]
 exact this
theorem zmn(n:Nat)(hN:N<=16)(hns:ns.length=N)(hf:f.length=N){ls:List Mi}{qs:List Nat}{v E:Nat}{ms:Mi}{s8:Option SV}(b:Bck N ns st en qs v E)(lt:qs.length<N)(hm:Lay N (fun q=>ns.getD q 0) st (N-1-qs.length) ms)(h8:zE (some s8)=true):
  ∃q,Bck N ns st en (qs++[q]) (v ^^^ 2 ^ q) (ns.getD q 0)/\zr (zq U zi n) zi JC (jM f ns st E ls v qs (some (.val (dI ms))) s8)=some (.nx,jM f ns st (ns.getD q 0) ls (v ^^^ 2 ^ q) (qs++[q]) (some (.val (dI ms))) (some (.val (nD q)))):=by
 have hl':=yI
 obtain⟨p,L,p1,p2,p3,p4⟩:=b.more lt
 obtain⟨e,g1,g2⟩:=(hm.is v p).mpr ⟨L,p1,by omega,p3⟩
 have nz:(e&&& E)≠0:=Va.mpr ⟨p,g2,p4⟩
 have hq:=zme nz
 obtain⟨b2,qN⟩:=b.turn lt hm g1 hq
 obtain⟨q,hqe⟩: ∃q,wO (e&&& E)-1=q:=⟨_,rfl⟩
 rw[hqe] at hq b2 qN
 refine⟨q,b2,?_⟩
 have i1:=zcU g1
 have i2:=XZ (a:=e) (b:=E)
 have i3:=zmc (a:=e&&& E)
 have i4:zh .sub [nD (wO (e&&& E)),.int 1]=some (.val (nD q)):=by
  have:wO (e&&& E)=q+1:=by
   have:wO (e&&& E)≠0:=by unfold wO;rw[if_neg nz];omega
   omega
  rw[this]
  show yg (((q+1:Nat):Int)-1)=_
  have:((q+1:Nat):Int)-1=(q:Int):=by omega
  rw[this];rfl
 have i5:=zmm (f:=f) (q:=q) (by omega)
 have i6:=ZN (n:=q) (by omega)
 have i7:=zmb (a:=v) (b:=2 ^ q)
 have i8:=qO (ns:=ns) (q:=q) (by omega)
 have ap: ∀ρ:Env,ja ρ 6 (some (.val (cD (f.getD q (0,0))))) (some (some (.obj true (lD (xG f qs)))))=some (.nx,ρ.set 6 (some (.obj true (lD (xG f (qs++[q])))))):=fun ρ=>by
  have:((xG f qs).map cD).length<line:=by rw[List.length_map];unfold xG;rw[List.length_map];omega
  rw[lD,Xh]
  simp only[Option.bind_some,Jq,this,if_true]
  simp[lD,xG]
 generalize f.getD q (0,0)=c at*
 generalize ns.getD q 0=g at*
 simp -implicitDefEqProofs only[JC,jM]
 simp -implicitDefEqProofs [i1,i2,i3,i4,i5,i6,i7,i8,h8,ap]
end
end LK
namespace LK
open L2.LW
section
variable {N:Nat} {ns:List Nat} {st en:Nat} {f:List zd}
theorem zc5(n:Nat)(hN:N<=16)(h1:1<=N)(hns:ns.length=N)(hf:f.length=N):
  (∃qs,Run N ns st en qs/\zG U zi (n+3) 66 [fD f,.lst (ns.map nD),nD st,nD en]=some (.obj true (lD (xG f qs))))\/
  ((∀p L,Pth N (fun q=>ns.getD q 0) st (p::L)->L.length+1=N->en.testBit p=false)/\zG U zi (n+3) 66 [fD f,.lst (ns.map nD),nD st,nD en]=some (.val .non)):=by
 have hl':=yI
 obtain⟨ls,l1,l2,c1⟩:=zmk (ns:=ns) (st:=st) n hN h1 hns
 have hx:ls.getLast? =some (ls[N-1]'(by omega)):=by
  have z:ls[ls.length-1]? =ls[N-1]? :=by rw[l1]
  rw[List.getLast?_eq_getElem?,z]
  exact List.getElem?_eq_getElem _
 have hL:=l2 (N-1) (by omega)
 generalize ls[N-1]'(by omega)=x at*
 have i0:=zc3 hx
 have ln:zh .len [fD f]=some (.val (nD N)):=by rw[vo,hf];rfl
 have i1:=ZN (n:=N) (by omega)
 have i2:zh .sub [nD (2 ^ N),.int 1]=some (.val (nD (2 ^ N-1))):=by
  show yg (((2 ^ N:Nat):Int)-1)=_
  have:((2 ^ N:Nat):Int)-1=((2 ^ N-1:Nat):Int):=by have:=Nat.two_pow_pos N;omega
  rw[this];rfl
 have i3:=zcV (k:=2 ^ N-1) (ms:=x)
 obtain⟨e,he⟩: ∃e,(yn x (2 ^ N-1)).getD 0=e:=⟨_,rfl⟩
 rw[he] at i3
 have i4:=XZ (a:=e) (b:=en)
 have i5:=zcZ (a:=e&&& en)
 rw[yt zli rfl]
 by_cases z:(e&&& en)=0
 ·refine .inr ⟨fun p L hp hlen=>?_,?_⟩
  ·obtain⟨e',g1,g2⟩:=(hL.is (2 ^ N-1) p).mpr ⟨L,hp,by omega,zml hp.nd hp.lt (by simpa using hlen)⟩
   rw[g1] at he
   have he:e'=e:=he
   subst he
   rw[Bool.eq_false_iff]
   exact fun h=>Va.mpr ⟨p,g2,h⟩ z
  ·rw[decide_eq_true z] at i5
   simp -implicitDefEqProofs only[ZG]
   simp -implicitDefEqProofs [c1,ln,i1,i2,i0,i3,i4,i5]
 ·rw[decide_eq_false z] at i5
  obtain⟨p,b1,b2⟩:=Va.mp z
  have ge:yn x (2 ^ N-1)=some e:=by
   cases hg:yn x (2 ^ N-1) with
   |none=>rw[hg] at he;have he:0=e:=he;rw[<-he] at b1;simp at b1
   |some y=>rw[hg] at he;have he:y=e:=he;rw[he]
  obtain⟨L,p1,p2,p3⟩:=(hL.is _ p).mp ⟨e,ge,b1⟩
  have B0:Bck N ns st en [] (2 ^ N-1) en:=⟨fun q h=>(by cases h),List.nodup_nil,fun q h=>(by cases h),fun i h=>(by simp at h),fun z h=>(by cases h),fun _=>rfl,fun z h=>(by cases h),fun _=>⟨p,L,p1,by simp;omega,p3,b2⟩,fun h z hz=>(by cases hz)⟩
  obtain⟨ρ',ex,qs,v,E,s7,s8,rfl,q1,q2,_⟩:=JQ (g:=dI) (i:=7) (body:=zr (zq U zi (n+2)) zi JC)
   (fun pre ρ=>∃qs v E s7 s8,ρ=jM f ns st E ls v qs s7 s8/\qs.length=pre.length/\Bck N ns st en qs v E/\zE (some s7)=true/\zE (some s8)=true)
   (xs:=ls.reverse) (ρ:=jM f ns st en ls (2 ^ N-1) [] none none) ⟨[],2 ^ N-1,en,none,none,rfl,rfl,B0,rfl,rfl⟩
   fun pre m post ρ e zz=>by
    obtain⟨qs,v,E,s7,s8,eρ,q1,q2,f7,f8⟩:=zz
    subst eρ
    have ll:=congrArg List.length e
    rw[List.length_reverse,List.length_append,List.length_cons] at ll
    have gm:ls.reverse[pre.length]? =some m:=by rw[e];simp
    rw[List.getElem?_eq_some_iff] at gm
    obtain⟨g1,g2⟩:=gm
    rw[List.getElem_reverse] at g2
    have hm:=l2 (ls.length-1-pre.length) (by omega)
    rw[g2,show ls.length-1-pre.length=N-1-qs.length by omega] at hm
    obtain⟨q,b3,e3⟩:=zmn (n+2) hN hns hf (ls:=ls) (s8:=s8) q2 (by omega) hm f8
    exact⟨_,_,e3,.inl rfl,qs++[q],_,_,_,_,rfl,by simp[q1],b3,yH,yH⟩
  rw[List.length_reverse] at q1
  refine .inl ⟨qs,⟨by omega,q2.lt,q2.nd,q2.step,q2.head,q2.fin (by omega)⟩,?_⟩
  have rv:yl false [.val (.lst (ls.map dI)),.val .non]=some (ls.map dI).reverse:=rfl
  rw[List.map_reverse] at ex
  simp -implicitDefEqProofs only[ZG]
  simp -implicitDefEqProofs [c1,ln,i1,i2,i0,i3,i4,i5,jb,rv]
  rw[show D.lst []=lD (xG f []) from rfl,<-jM,ex]
  simp -implicitDefEqProofs [jM]
noncomputable def vw(f:List zd)(l c:zd):Nat:=xj ((List.range f.length).filter fun k=>yh l c (f.getD k (0,0)))
theorem zmo{l c:zd}{k:Nat}:(vw f l c).testBit k=true↔k<f.length/\yh l c (f.getD k (0,0))=true:=by
 unfold vw
 rw[wY,List.mem_filter,List.mem_range]
theorem zmp{l c:zd}:(((List.range f.length).filter fun k=>yh l c (f.getD k (0,0))).map fun k=>2 ^ k).sum=vw f l c:=by
 unfold vw
 have key: ∀M,(((List.range M).filter fun k=>yh l c (f.getD k (0,0))).map fun k=>2 ^ k).sum=xj ((List.range M).filter fun k=>yh l c (f.getD k (0,0))):=by
  intro M
  induction M with
  |zero=>rfl
  |succ M ih=>
   rw[List.range_succ,List.filter_append,List.map_append,List.sum_append,ih]
   have lt:xj ((List.range M).filter fun k=>yh l c (f.getD k (0,0)))<2 ^ M:=zc1 fun p hp=>List.mem_range.mp (List.mem_filter.mp hp).1
   by_cases h:yh l c (f.getD M (0,0))=true
   ·rw[List.filter_cons_of_pos (by simpa using h)]
    simp only[List.filter_nil,List.map_cons,List.map_nil,List.sum_cons,List.sum_nil,Nat.add_zero]
    have z:=Nat.two_pow_add_eq_or_of_lt lt 1
    rw[Nat.mul_one] at z
    rw[Nat.add_comm,z]
    apply Nat.eq_of_testBit_eq
    intro i
    rw[Bool.eq_iff_iff,wY,Nat.testBit_or,Bool.or_eq_true,wY,List.mem_append,List.mem_singleton]
    constructor
    ·rintro (z|z)
     ·right
      by_cases e:M=i
      ·exact e.symm
      ·rw[Nat.testBit_two_pow_of_ne e] at z;cases z
     ·exact .inl z
    ·rintro (z|z)
     ·exact .inr z
     ·subst z;exact .inl Nat.testBit_two_pow_self
   ·rw[List.filter_cons_of_neg (by simpa using h)]
    simp
 exact key f.length
end
end LK
namespace LK
open L2.LW
section
variable {f:List zd} {l:zd}
theorem zmq{fn:Nat->List D->Option SV}{src cond elt:E}{ρ:Env}:zm fn (.compE src cond elt) ρ=(zm fn src ρ).bind fun r=>(YD r).bind fun ds=>
  if ds.length<=line then (xg (fun p=>vi p fun a b=>zF fn cond (some (.val a)::some (.val b)::ρ)) (fun p=>vi p fun a b=>zm fn elt (some (.val a)::some (.val b)::ρ)) (xn 0 ds)).map fun l=>.obj true (.lst l) else none:=rfl
theorem zc6: ∀(m:Nat) (xs:List zd),xn m (xs.map cD)=(List.range xs.length).map fun k=>.tup [nD (m+k),cD (xs.getD k (0,0))]
 |_,[]=>rfl
 |m,c::r=>by
  rw[List.map_cons,xn,zc6 (m+1) r,List.length_cons,List.range_succ_eq_map,List.map_cons,List.map_map]
  congr 1
  apply List.map_congr_left
  intro k _
  show D.tup [nD (m+1+k),_]=D.tup [nD (m+(k+1)),_]
  rw[show m+1+k=m+(k+1) by omega]
  rfl
theorem zc7(n:Nat)(hf:f.length<=16)(c:zd):zG U zi (n+3) 62 [fD f,cD l,cD c]=some (.val (nD (vw f l c))):=by
 have hl':=yI
 have cp: ∀ρ:Env,ρ[0]? =some (some (.val (fD f)))->ρ[1]? =some (some (.val (cD l)))->ρ[2]? =some (some (.val (cD c)))->
   zm (zG U zi (n+2)) (.compE (.var 0) (.call 10 (.cons (.var 3) (.cons (.var 4) (.cons (.var 1) .nil)))) (.prim .shl (.cons (.int 1) (.cons (.var 0) .nil)))) ρ=
    some (.obj true (.lst (((List.range f.length).filter fun k=>yh l c (f.getD k (0,0))).map fun k=>nD (2 ^ k)))):=by
  intro ρ h0 h1 h2
  rw[zmq]
  have e0:zm (zG U zi (n+2)) (.var 0) ρ=some (.val (fD f)):=by simp[h0]
  rw[e0]
  simp only[Option.bind_some]
  rw[show YD (.val (fD f))=some (f.map cD) from rfl]
  simp only[Option.bind_some]
  rw[if_pos (by rw[List.length_map];omega),zc6,ql (t:=fun k=>yh l c (f.getD k (0,0))) (e:=fun k=>nD (2 ^ k))]
  ·rfl
  ·intro k hk
   have an:=zcD n l c (f.getD k (0,0))
   rw[Nat.zero_add]
   generalize f.getD k (0,0)=d at*
   show zF _ _ (some (.val (nD k))::some (.val (cD d))::ρ)=_
   simp[h1,h2,an]
  ·intro k hk _
   rw[List.mem_range] at hk
   have sh:=ZN (n:=k) (by omega)
   rw[Nat.zero_add]
   generalize f.getD k (0,0)=d at*
   show (zm _ _ (some (.val (nD k))::some (.val (cD d))::ρ)).bind toD=_
   simp[sh]
 have sm:zh .sumL [.lst (((List.range f.length).filter fun k=>yh l c (f.getD k (0,0))).map fun k=>nD (2 ^ k))]=some (.val (nD (vw f l c))):=by
  rw[<-zmp]
  generalize (List.range f.length).filter (fun k=>yh l c (f.getD k (0,0)))=L
  have e:(L.map fun k=>nD (2 ^ k))=(L.map fun k=>((2 ^ k:Nat):Int)).map D.int:=by rw[List.map_map];rfl
  rw[e,zkX]
  have:(L.map fun k=>((2 ^ k:Nat):Int)).sum=(((L.map fun k=>2 ^ k).sum:Nat):Int):=by
   induction L with
   |nil=>rfl
   |cons a r ih=>rw[List.map_cons,List.map_cons,List.sum_cons,List.sum_cons,ih (by rw[List.map_map];rfl)];rfl
  rw[this];rfl
 generalize (((List.range f.length).filter fun k=>yh l c (f.getD k (0,0))).map fun k=>nD (2 ^ k))=G at*
 rw[yt zle rfl]
 simp only[XH]
 simp[cp,sm]
theorem zc8: ∀w:List zd,(SV.obj true (lD w)).plain=true:=fun w=>by
 show xa (w.map cD)=true
 induction w with
 |nil=>rfl
 |cons a r ih=>simp[ih]
structure HW (f:List zd)(l:zd)(w:List zd):Prop where
 pm:w.Perm f
 step: ∀i (h:i+1<w.length),yh l w[i] w[i+1]=true
noncomputable def xB(f:List zd)(l:zd):List Nat:=f.map (vw f l)
theorem qQ{p q:Nat}(hp:p<f.length):((xB f l).getD p 0).testBit q=true↔q<f.length/\yh l (f.getD p (0,0)) (f.getD q (0,0))=true:=by
 have:(xB f l).getD p 0=vw f l (f.getD p (0,0)):=by
  unfold xB
  rw[List.getD_eq_getElem?_getD,List.getD_eq_getElem?_getD,List.getElem?_map,List.getElem?_eq_getElem hp];rfl
 rw[this,zmo]
theorem qR{N st:Nat}{nm:Nat->Nat}: ∀{ps:List Nat},ps≠[]->ps.Nodup->(∀p∈ps,p<N)->(∀i (h:i+1<ps.length),(nm ps[i]).testBit ps[i+1]=true)->(∀z,ps.getLast? =some z->st.testBit z=true)->Pth N nm st ps
 |[],h,_,_,_,_=>absurd rfl h
 |[p],_,_,lt,_,la=>.one (lt p List.mem_cons_self) (la p rfl)
 |q::p::r,_,nd,lt,sp,la=>by
  rw[List.nodup_cons] at nd
  refine .more (qR (by simp) nd.2 (fun x hx=>lt x (List.mem_cons_of_mem _ hx)) (fun i h=>?_) fun z hz=>la z (by rw[List.getLast?_cons_cons];exact hz)) (lt q List.mem_cons_self) nd.1 (sp 0 (by simp))
  exact sp (i+1) (by simpa using h)
theorem zc9(nd:f.Nodup){st en:Nat}{qs:List Nat}(r:Run f.length (xB f l) st en qs):HW f l (xG f qs):=by
 refine⟨?_,fun i h=>?_⟩
 ·have pq:qs.Perm (List.range f.length):=by
   rw[List.perm_ext_iff_of_nodup r.nd List.nodup_range]
   intro x
   rw[List.mem_range]
   exact⟨r.lt x,zc4 r.nd r.lt r.len x⟩
  have:=pq.map fun q=>f.getD q (0,0)
  refine this.trans (List.Perm.of_eq ?_)
  apply List.ext_getElem
  ·simp
  ·intro i h1 h2
   simp[List.getD,h2]
 ·unfold xG at h⊢
  rw[List.length_map] at h
  rw[List.getElem_map,List.getElem_map]
  exact ((qQ (r.lt _ (List.getElem_mem _))).mp (r.step i h)).2
theorem zda(nd:f.Nodup){w:List zd}(h:HW f l w): ∃qs,xG f qs=w/\qs.length=f.length/\(∀q∈qs,q<f.length)/\qs.Nodup/\∀i (h:i+1<qs.length),((xB f l).getD qs[i] 0).testBit qs[i+1]=true:=by
 have lt: ∀c∈w,f.idxOf c<f.length:=fun c hc=>List.idxOf_lt_length_of_mem (h.pm.mem_iff.mp hc)
 have gt: ∀c∈w,f.getD (f.idxOf c) (0,0)=c:=fun c hc=>by
  have:=lt c hc
  rw[List.getD_eq_getElem?_getD,List.getElem?_eq_getElem this]
  exact List.getElem_idxOf this
 refine⟨w.map f.idxOf,?_,by rw[List.length_map];exact h.pm.length_eq,fun q hq=>?_,?_,fun i hi=>?_⟩
 ·unfold xG
  rw[List.map_map]
  conv=>rhs;rw[<-List.map_id w]
  apply List.map_congr_left
  intro c hc
  exact gt c hc
 ·obtain⟨c,hc,rfl⟩:=List.mem_map.mp hq
  exact lt c hc
 ·unfold List.Nodup
  rw[List.pairwise_map]
  refine (h.pm.nodup_iff.mpr nd).imp_of_mem fun {a b} ha hb hab e=>hab ?_
  rw[<-gt a ha,<-gt b hb,e]
 ·rw[List.length_map] at hi
  rw[List.getElem_map,List.getElem_map,qQ (lt _ (List.getElem_mem _))]
  refine⟨lt _ (List.getElem_mem _),?_⟩
  rw[gt _ (List.getElem_mem _),gt _ (List.getElem_mem _)]
  exact h.step i hi
theorem qS(n:Nat){m:Int}(h:(f.length:Int)<=m):zG U zi (n+1) 61 [fD f,.int m]=some (.val .non):=by
 rw[yt zld rfl]
 have: ¬m<(f.length:Int):=by omega
 simp only[XG]
 simp[vo,this]
theorem zmr(n:Nat)(hf:OkF f)(hl:OkL l)(h16:f.length<=16):
  (∃w,HW f l w/\zG U zi (n+5) 67 [fD f,cD l]=some (.obj true (lD w)))\/((∀w,¬HW f l w)/\zG U zi (n+5) 67 [fD f,cD l]=some (.val .non)):=by
 have hl':=yI
 have nd:=OkF.nodup hf.rise
 have h1:1<=f.length:=by have:=hf.ne;cases f<;>simp_all
 have nz:zG U zi (n+4) 6 [fD f]=some (.val (fD f)):=qy n hf
 have cl:zG U zi (n+4) 7 [cD l]=some (.val (cD l)):=qz (n+1) hl
 have rb:=qS (f:=f) (n+3) (m:=16) (by omega)
 have cp: ∀ρ:Env,ρ[0]? =some (some (.val (fD f)))->ρ[1]? =some (some (.val (cD l)))->zm (zG U zi (n+4)) (.comp false (.cons (.var 0) .nil) (.bl true) (.call 62 (.cons (.var 1) (.cons (.var 2) (.cons (.var 0) .nil))))) ρ=some (.obj true (.lst ((xB f l).map nD))):=by
  intro ρ h0 h1
  rw[Ju (rs:=[.val (fD f)]) (xs:=f) (f:=cD) (fun c=>nD (vw f l c))]
  ·unfold xB;rw[List.map_map];rfl
  ·simp[h0]
  ·rfl
  ·omega
  ·intro c _
   have:=zc7 (l:=l) (n+1) h16 c
   simp[h0,h1,this]
 have i1:=ZN (n:=f.length) (by omega)
 have ln:zh .len [fD f]=some (.val (nD f.length)):=by rw[vo];rfl
 have i2:zh .sub [nD (2 ^ f.length),.int 1]=some (.val (nD (2 ^ f.length-1))):=by
  show yg (((2 ^ f.length:Nat):Int)-1)=_
  have:((2 ^ f.length:Nat):Int)-1=((2 ^ f.length-1:Nat):Int):=by have:=Nat.two_pow_pos f.length;omega
  rw[this];rfl
 rw[yt zlj rfl]
 rcases zc5 (N:=f.length) (ns:=xB f l) (st:=2 ^ f.length-1) (en:=2 ^ f.length-1) (f:=f) (n+1) h16 h1 (by unfold xB;simp) rfl with ⟨qs,r,e⟩|⟨no,e⟩
 ·refine .inl ⟨xG f qs,zc9 nd r,?_⟩
  have pw:=zc8 (xG f qs)
  simp -implicitDefEqProofs only[ZH]
  simp -implicitDefEqProofs [nz,cl,rb,cp,ln,i1,i2,e,pw]
 ·refine .inr ⟨fun w hw=>?_,?_⟩
  ·obtain⟨qs,q1,q2,q3,q4,q5⟩:=zda nd hw
   cases qs with
   |nil=>simp at q2;omega
   |cons p L=>
    have pt:Pth f.length (fun q=>(xB f l).getD q 0) (2 ^ f.length-1) (p::L):=qR (by simp) q4 q3 q5 fun z hz=>by
     rw[qM,decide_eq_true_iff]
     exact q3 z (List.mem_of_getLast? hz)
    have:=no p L pt (by simpa using q2)
    rw[qM,decide_eq_false_iff_not] at this
    exact this (q3 p List.mem_cons_self)
  ·simp -implicitDefEqProofs only[ZH]
   simp -implicitDefEqProofs [nz,cl,rb,cp,ln,i1,i2,e]
end
end LK
namespace LK
open L2.LW
section
variable {f:List zd} {l:zd}
inductive Chn (l:zd):List zd->Prop where
 |nil:Chn l []
 |one (a:zd):Chn l [a]
 |cons {a b:zd} {r:List zd} (h:yh l a b=true) (t:Chn l (b::r)):Chn l (a::b::r)
theorem zdb: ∀{w:List zd},Chn l w->∀i (h:i+1<w.length),yh l w[i] w[i+1]=true
 |_,.nil,i,h=>by simp at h
 |_,.one a,i,h=>by simp at h
 |_,.cons h t,0,_=>h
 |_,.cons h t,i+1,hi=>zdb t i (by simpa using hi)
theorem JR: ∀{w:List zd},(∀i (h:i+1<w.length),yh l w[i] w[i+1]=true)->Chn l w
 |[],_=>.nil
 |[a],_=>.one a
 |a::b::r,h=>.cons (h 0 (by simp)) (JR fun i hi=>h (i+1) (by simpa using hi))
theorem qT: ∀{a b:List zd},Chn l (a++b)↔Chn l a/\Chn l b/\∀x y,a.getLast? =some x->b.head? =some y->yh l x y=true
 |[],b=>by simp only[List.nil_append];exact⟨fun h=>⟨.nil,h,fun x y hx=>(by cases hx)⟩,fun h=>h.2.1⟩
 |[a],b=>by
  cases b with
  |nil=>simp only[List.append_nil];exact⟨fun h=>⟨h,.nil,fun x y _ hy=>(by cases hy)⟩,fun h=>h.1⟩
  |cons c r=>
   constructor
   ·intro h
    cases h with
    |cons h t=>exact⟨.one a,t,fun x y hx hy=>by cases hx;cases hy;exact h⟩
   ·rintro⟨_,h2,h3⟩
    exact .cons (h3 a c rfl rfl) h2
 |a::a2::r,b=>by
  have ih:=qT (a:=a2::r) (b:=b)
  constructor
  ·intro h
   cases h with
   |cons h t=>
    obtain⟨h1,h2,h3⟩:=ih.mp t
    exact⟨.cons h h1,h2,fun x y hx hy=>h3 x y (by rw[List.getLast?_cons_cons] at hx;exact hx) hy⟩
  ·rintro⟨h1,h2,h3⟩
   cases h1 with
   |cons h t=>exact .cons h (ih.mpr ⟨t,h2,fun x y hx hy=>h3 x y (by rw[List.getLast?_cons_cons];exact hx) hy⟩)
structure HR (f:List zd)(l:zd)(w:List zd):Prop extends HW f l w where
 ring: ∀a b,w.head? =some a->w.getLast? =some b->yh l a b=true
theorem HR.turn{w:List zd}(h:HR f l w){c:zd}(hc:c∈f): ∃w',HR f l w'/\w'.getLast? =some c:=by
 obtain⟨a,b,rfl⟩:=List.append_of_mem (h.pm.mem_iff.mpr hc)
 have ch:=JR h.step
 rw[show a++c::b=(a++[c])++b by simp] at ch
 obtain⟨c1,c2,c3⟩:=qT.mp ch
 have la:(a++[c]).getLast? =some c:=by simp
 refine⟨b++(a++[c]),⟨⟨?_,zdb (qT.mpr ⟨c2,c1,fun x y hx hy=>?_⟩)⟩,fun x y hx hy=>?_⟩,by rw[<-List.append_assoc];simp⟩
 ·refine List.Perm.trans ?_ h.pm
  rw[show a++c::b=(a++[c])++b by simp]
  exact List.perm_append_comm
 ·have:=h.ring y x (by
   cases a with
   |nil=>simpa using hy
   |cons z r=>simpa using hy) (by
   rw[show a++c::b=(a++[c])++b by simp,List.getLast?_append,hx];rfl)
  rw[wH];exact this
 ·have ey:y=c:=by
   rw[<-List.append_assoc,List.getLast?_append] at hy
   simp at hy
   exact hy.symm
  subst ey
  cases b with
  |cons z r=>
   have:x=z:=by simpa using hx.symm
   subst this
   rw[wH]
   exact c3 y x la rfl
  |nil=>
   have hx':(a++[y]).head? =some x:=by simpa using hx
   exact h.ring x y hx' (by simp)
theorem zms(n:Nat)(hf:OkF f)(hl:OkL l)(h16:f.length<=16):
  (f.length<3/\zG U zi (n+5) 68 [fD f,cD l]=some (.val .non))\/(3<=f.length/\∃w,HR f l w/\zG U zi (n+5) 68 [fD f,cD l]=some (.obj true (lD w)))\/
  (3<=f.length/\(∀w,¬HR f l w)/\zG U zi (n+5) 68 [fD f,cD l]=some (.val .non)):=by
 have hl':=yI
 have nd:=OkF.nodup hf.rise
 have nz:zG U zi (n+4) 6 [fD f]=some (.val (fD f)):=qy n hf
 have cl:zG U zi (n+4) 7 [cD l]=some (.val (cD l)):=qz (n+1) hl
 have rb:=qS (f:=f) (n+3) (m:=16) (by omega)
 rw[yt zlk rfl]
 by_cases h3:f.length<3
 ·refine .inl ⟨h3,?_⟩
  have lt:((f.length:Int)<3):=by omega
  simp -implicitDefEqProofs only[jJ]
  simp -implicitDefEqProofs [nz,cl,rb,vo,lt]
 ·have lt: ¬((f.length:Int)<3):=by omega
  have cp: ∀ρ:Env,ρ[0]? =some (some (.val (fD f)))->ρ[1]? =some (some (.val (cD l)))->zm (zG U zi (n+4)) (.comp false (.cons (.var 0) .nil) (.bl true) (.call 62 (.cons (.var 1) (.cons (.var 2) (.cons (.var 0) .nil))))) ρ=some (.obj true (.lst ((xB f l).map nD))):=by
   intro ρ h0 h1
   rw[Ju (rs:=[.val (fD f)]) (xs:=f) (f:=cD) (fun c=>nD (vw f l c))]
   ·unfold xB;rw[List.map_map];rfl
   ·simp[h0]
   ·rfl
   ·omega
   ·intro c _
    have:=zc7 (l:=l) (n+1) h16 c
    simp[h0,h1,this]
  have i0:zh .idx [.lst ((xB f l).map nD),.int 0]=some (.val (nD ((xB f l).getD 0 0))):=qO (ns:=xB f l) (q:=0) (by unfold xB;simp;omega)
  have b1: ∀z,(1:Nat).testBit z=true↔z=0:=fun z=>by
   have:=Nat.testBit_two_pow (n:=0) (m:=z)
   rw[Nat.pow_zero] at this
   rw[this,decide_eq_true_iff]
   exact eq_comm
  have c0:f.getD 0 (0,0)∈f:=by
   rw[List.getD_eq_getElem?_getD,List.getElem?_eq_getElem (by omega:0<f.length)]
   exact List.getElem_mem _
  have nb:=fun z=>qQ (f:=f) (l:=l) (p:=0) (q:=z) (by omega)
  generalize he:(xB f l).getD 0 0=en at*
  rcases zc5 (N:=f.length) (ns:=xB f l) (st:=1) (en:=en) (f:=f) (n+1) h16 (by omega) (by unfold xB;simp) rfl with ⟨qs,r,e⟩|⟨no,e⟩
  ·refine .inr (.inl ⟨by omega,xG f qs,⟨zc9 nd r,fun a b ha hb=>?_⟩,?_⟩)
   ·unfold xG at ha hb
    rw[List.head?_map,jo2] at ha
    rw[List.getLast?_map,jo2] at hb
    obtain⟨x,hx,rfl⟩:=ha
    obtain⟨y,hy,rfl⟩:=hb
    rw[(b1 y).mp (r.last y hy),wH]
    exact ((nb x).mp (r.head x hx)).2
   ·have pw:=zc8 (xG f qs)
    simp -implicitDefEqProofs only[jJ]
    simp -implicitDefEqProofs [nz,cl,rb,vo,lt,cp,i0,pw]
    rw[show D.int 1=nD 1 from rfl,e]
    simp -implicitDefEqProofs [pw]
  ·refine .inr (.inr ⟨by omega,fun w hw=>?_,?_⟩)
   ·obtain⟨w',hw',hla⟩:=hw.turn c0
    obtain⟨qs,q1,q2,q3,q4,q5⟩:=zda nd hw'.toHW
    cases qs with
    |nil=>simp at q2;omega
    |cons p L=>
     have ls: ∀z,(p::L).getLast? =some z->z=0:=fun z hz=>by
      have h1:w'.getLast? =some (f.getD z (0,0)):=by rw[<-q1];unfold xG;rw[List.getLast?_map,hz];rfl
      rw[hla] at h1
      have h2:f.getD 0 (0,0)=f.getD z (0,0):=by simpa using h1
      have zl:=q3 z (List.mem_of_getLast? hz)
      rw[List.getD_eq_getElem?_getD,List.getD_eq_getElem?_getD,List.getElem?_eq_getElem zl,List.getElem?_eq_getElem (by omega:0<f.length)] at h2
      exact ((List.getElem_inj nd).mp h2).symm
     have pt:Pth f.length (fun q=>(xB f l).getD q 0) 1 (p::L):=qR (by simp) q4 q3 q5 fun z hz=>(b1 z).mpr (ls z hz)
     have h5:=no p L pt (by simpa using q2)
     have h6:en.testBit p=true:=by
      rw[nb p]
      refine⟨q3 p List.mem_cons_self,?_⟩
      have:=hw'.ring (f.getD p (0,0)) (f.getD 0 (0,0)) (by rw[<-q1];rfl) hla
      rw[wH];exact this
     rw[h6] at h5;cases h5
   ·simp -implicitDefEqProofs only[jJ]
    simp -implicitDefEqProofs [nz,cl,rb,vo,lt,cp,i0]
    rw[show D.int 1=nD 1 from rfl,e]
    simp -implicitDefEqProofs
end
end LK
namespace LK
open L2.LW
section
variable {f:List zd} {l:zd}
structure Pts (R:List zd)(l:zd)(P:List (List zd)):Prop where
 ne: ∀p∈P,p≠[]
 sub: ∀p∈P,∀x∈p,x∈R
 apart:P.Pairwise fun p q=>∀x∈p,x∉q
 close: ∀p∈P,∀x∈p,∀y∈R,yh l x y=true->y∈p
theorem zdc{w:List zd}(ch:Chn l w){c R p:List zd}(hw: ∀x∈w,x∈c\/x∈R)(dis: ∀x∈R,x∉c)(sub: ∀x∈p,x∈R)(close: ∀x∈p,∀y∈R,yh l x y=true->y∈p)(ne: ∃x∈w,x∈p):
  ∃a y b,w=a++y::b/\y∈p/\(∀x∈a,x∉p)/\(a=[]\/∃z,a.getLast? =some z/\z∈c):=by
 induction w with
 |nil=>obtain⟨x,hx,_⟩:=ne;cases hx
 |cons x r ih=>
  by_cases hx:x∈p
  ·exact⟨[],x,r,rfl,hx,fun y hy=>(by cases hy),.inl rfl⟩
  ·have chr:Chn l r:=by
    cases ch with
    |one=>exact .nil
    |cons h t=>exact t
   obtain⟨a,y,b,e,h1,h2,h3⟩:=ih chr (fun z hz=>hw z (List.mem_cons_of_mem _ hz)) (by
    obtain⟨z,hz,hp⟩:=ne
    rcases List.mem_cons.mp hz with rfl|hz
    ·exact absurd hp hx
    ·exact⟨z,hz,hp⟩)
   refine⟨x::a,y,b,by rw[e];rfl,h1,fun z hz=>?_,.inr ?_⟩
   ·rcases List.mem_cons.mp hz with rfl|hz
    ·exact hx
    ·exact h2 z hz
   ·rcases h3 with rfl|⟨z,hz,zc⟩
    ·refine⟨x,rfl,?_⟩
     rcases hw x List.mem_cons_self with q|q
     ·exact q
     ·exfalso
      subst e
      cases ch with
      |cons h t=>exact hx (close y h1 x q (by rw[wH];exact h))
    ·refine⟨z,?_,zc⟩
     cases a with
     |nil=>cases hz
     |cons a1 a2=>rw[List.getLast?_cons_cons];exact hz
theorem zdd{α:Type}[DecidableEq α]{R:List zd}{P:List (List zd)}(h:Pts R l P)(g:List zd->α->Prop){m:List α}(ex: ∀p∈P,∃a∈m,g p a)(inj: ∀p q a,p∈P->q∈P->g p a->g q a->∃x∈p,x∈q):P.length<=m.length:=by
 have key: ∀(Q:List (List zd)),(∀p∈Q,p∈P)->Q.Pairwise (fun p q=>∀x∈p,x∉q)->∃as:List α,as.length=Q.length/\as.Nodup/\(∀a∈as,a∈m)/\∀a∈as,∃q∈Q,g q a:=by
  intro Q
  induction Q with
  |nil=>exact fun _ _=>⟨[],rfl,List.nodup_nil,fun a ha=>(by cases ha),fun a ha=>(by cases ha)⟩
  |cons p Q ih=>
   intro hs hp
   rw[List.pairwise_cons] at hp
   obtain⟨as,e1,e2,e3,e4⟩:=ih (fun q hq=>hs q (List.mem_cons_of_mem _ hq)) hp.2
   obtain⟨a,am,ag⟩:=ex p (hs p List.mem_cons_self)
   refine⟨a::as,by simp[e1],List.nodup_cons.mpr ⟨fun z=>?_,e2⟩,fun b hb=>?_,fun b hb=>?_⟩
   ·obtain⟨q,hq,gq⟩:=e4 a z
    obtain⟨x,x1,x2⟩:=inj p q a (hs p List.mem_cons_self) (hs q (List.mem_cons_of_mem _ hq)) ag gq
    exact hp.1 q hq x x1 x2
   ·rcases List.mem_cons.mp hb with rfl|hb
    ·exact am
    ·exact e3 b hb
   ·rcases List.mem_cons.mp hb with rfl|hb
    ·exact⟨p,List.mem_cons_self,ag⟩
    ·obtain⟨q,hq,gq⟩:=e4 b hb
     exact⟨q,List.mem_cons_of_mem _ hq,gq⟩
 obtain⟨as,e1,e2,e3,_⟩:=key P (fun p hp=>hp) h.apart
 rw[<-e1]
 exact wX e2 e3
theorem zde{a a' b b':List zd}{y y' z:zd}(nd:(a++y::b).Nodup)(e:a++y::b=a'++y'::b')(h:a.getLast? =some z)(h':a'.getLast? =some z):y=y':=by
 obtain⟨a1,rfl⟩: ∃a1,a=a1++[z]:=by
  rw[List.getLast?_eq_some_iff] at h;exact h
 obtain⟨a2,rfl⟩: ∃a2,a'=a2++[z]:=by
  rw[List.getLast?_eq_some_iff] at h';exact h'
 have e':a1++z::y::b=a2++z::y'::b':=by simpa using e
 have nd':(a1++z::y::b).Nodup:=by simpa using nd
 clear e nd h h'
 induction a1 generalizing a2 with
 |nil=>
  cases a2 with
  |nil=>simp at e';exact e'.1
  |cons x r=>
   rw[List.nil_append,List.cons_append] at e'
   injection e' with e1 e2
   rw[List.nil_append,List.nodup_cons,e2] at nd'
   exact absurd (List.mem_append_right r List.mem_cons_self) nd'.1
 |cons x r ih=>
  cases a2 with
  |nil=>
   rw[List.nil_append,List.cons_append] at e'
   injection e' with e1 e2
   rw[List.cons_append,List.nodup_cons,e1] at nd'
   exact absurd (List.mem_append_right r List.mem_cons_self) nd'.1
  |cons x' r'=>
   rw[List.cons_append,List.cons_append] at e'
   injection e' with e1 e2
   rw[List.cons_append,List.nodup_cons] at nd'
   exact ih r' e2 nd'.2
theorem zmt(nd:f.Nodup){w:List zd}(hw:HW f l w){c R:List zd}(hR: ∀x,x∈R↔x∈f/\x∉c){P:List (List zd)}(hP:Pts R l P):P.length<=c.length+1:=by
 have ch:=JR hw.step
 have wnd:w.Nodup:=hw.pm.nodup_iff.mpr nd
 have cov: ∀x∈w,x∈c\/x∈R:=fun x hx=>by
  by_cases z:x∈c
  ·exact .inl z
  ·exact .inr ((hR x).mpr ⟨hw.pm.mem_iff.mp hx,z⟩)
 have dis: ∀x∈R,x∉c:=fun x hx=>((hR x).mp hx).2
 have:=zdd hP (fun p (o:Option zd)=>∃a y b,w=a++y::b/\y∈p/\a.getLast? =o) (m:=none::c.map some) (fun p hp=>?_) (fun p q o hp hq h1 h2=>?_)
 ·simpa using this
 ·obtain⟨a,y,b,e,h1,h2,h3⟩:=zdc ch cov dis (hP.sub p hp) (hP.close p hp) (by
   have:=hP.ne p hp
   cases p with
   |nil=>exact absurd rfl this
   |cons x r=>exact⟨x,hw.pm.mem_iff.mpr ((hR x).mp (hP.sub _ hp x List.mem_cons_self)).1,List.mem_cons_self⟩)
  rcases h3 with rfl|⟨z,hz,zc⟩
  ·exact⟨none,List.mem_cons_self,[],y,b,e,h1,rfl⟩
  ·exact⟨some z,List.mem_cons_of_mem _ (List.mem_map_of_mem zc),a,y,b,e,h1,hz⟩
 ·obtain⟨a,y,b,e,y1,la⟩:=h1
  obtain⟨a',y',b',e',y2,la'⟩:=h2
  have:y=y':=by
   cases o with
   |none=>
    rw[List.getLast?_eq_none_iff] at la la'
    subst la;subst la'
    rw[e] at e'
    simp at e'
    exact e'.1
   |some z=>exact zde (by rw[<-e];exact wnd) (e.symm.trans e') la la'
  exact⟨y,y1,by rw[this];exact y2⟩
theorem zmu(nd:f.Nodup){w:List zd}(hw:HR f l w){c R:List zd}(hc: ∃x∈c,x∈f)(hR: ∀x,x∈R↔x∈f/\x∉c){P:List (List zd)}(hP:Pts R l P):P.length<=c.length:=by
 obtain⟨x0,xc,xf⟩:=hc
 obtain⟨w,hw,hla⟩:=hw.turn xf
 have ch:=JR hw.step
 have wnd:w.Nodup:=hw.pm.nodup_iff.mpr nd
 have cov: ∀x∈w,x∈c\/x∈R:=fun x hx=>by
  by_cases z:x∈c
  ·exact .inl z
  ·exact .inr ((hR x).mpr ⟨hw.pm.mem_iff.mp hx,z⟩)
 have dis: ∀x∈R,x∉c:=fun x hx=>((hR x).mp hx).2
 refine zdd hP (fun p (o:zd)=>∃a y b,w=a++y::b/\y∈p/\((a=[]/\o=x0)\/a.getLast? =some o)) (m:=c) (fun p hp=>?_) (fun p q o hp hq h1 h2=>?_)
 ·obtain⟨a,y,b,e,h1,h2,h3⟩:=zdc ch cov dis (hP.sub p hp) (hP.close p hp) (by
   have:=hP.ne p hp
   cases p with
   |nil=>exact absurd rfl this
   |cons x r=>exact⟨x,hw.pm.mem_iff.mpr ((hR x).mp (hP.sub _ hp x List.mem_cons_self)).1,List.mem_cons_self⟩)
  rcases h3 with rfl|⟨z,hz,zc⟩
  ·exact⟨x0,xc,[],y,b,e,h1,.inl ⟨rfl,rfl⟩⟩
  ·exact⟨z,zc,a,y,b,e,h1,.inr hz⟩
 ·obtain⟨a,y,b,e,y1,la⟩:=h1
  obtain⟨a',y',b',e',y2,la'⟩:=h2
  have no: ∀{a b:List zd} {y:zd},w=a++y::b->a.getLast? ≠some x0:=fun {a b y} e z=>by
   obtain⟨a1,rfl⟩: ∃a1,a=a1++[x0]:=by
    rw[List.getLast?_eq_some_iff] at z;exact z
   have h1:w=(a1++[x0])++(y::b):=e
   have h2:(y::b).getLast? =some x0:=by
    rw[h1,List.getLast?_append] at hla
    cases hh:(y::b).getLast? with
    |none=>simp at hh
    |some q=>rw[hh] at hla;simpa using hla
   rw[h1,List.nodup_append] at wnd
   exact wnd.2.2 x0 (by simp) x0 (List.mem_of_getLast? h2) rfl
  have:y=y':=by
   rcases la with ⟨rfl,rfl⟩|la
   ·rcases la' with ⟨rfl,_⟩|la'
    ·rw[e] at e'
     simp at e'
     exact e'.1
    ·exact absurd la' (no e')
   ·rcases la' with ⟨_,rfl⟩|la'
    ·exact absurd la (no e)
    ·exact zde (by rw[<-e];exact wnd) (e.symm.trans e') la la'
  exact⟨y,y1,by rw[this];exact y2⟩
end
end LK
namespace LK
open L2.LW
section
variable {f:List zd} {l:zd}
theorem qU{a b:zd}:zh .gt [cD a,cD b]=some (.val (.bl (decide (zX b a)))):=zls (a:=b) (b:=a)
noncomputable def xk(f c:List zd):List zd:=f.filter fun x=> !decide (x∈c)
theorem mem_rest{c:List zd}{x:zd}:x∈xk f c↔x∈f/\x∉c:=by unfold xk;rw[List.mem_filter];simp
theorem zdf(hf:OkF f){c:List zd}(h:xk f c≠[]):OkF (xk f c):=
 ⟨h,Nat.le_trans (List.length_filter_le _ _) hf.len,fun x hx=>hf.cells x (mem_rest.mp hx).1,hf.rise.sublist List.filter_sublist⟩
noncomputable def yG(f:List zd)(l:zd)(s:Nat)(c:List zd):Bool:=decide (c.length+s<(xX (xk f c) l).length)&&decide (1<(xX (xk f c) l).length)
theorem zdg{P:List (List zd)}:zh .len [yi P]=some (.val (.int (P.length:Nat))):=by
 show yg ((P.map lD).length:Nat)=_
 rw[List.length_map];rfl
theorem zmv(n:Nat)(hf:OkF f){c:List zd}{s:Nat}(h:xk f c≠[]):zG U zi (n+6) 69 [fD f,cD l,.int (s:Int),lD c]=some (.val (.bl (yG f l s c))):=by
 have hl':=yI
 have hlen:=hf.len
 have pw:=zl8 (l:=l) n (F:=lD (xk f c)) rfl (zdf hf h)
 have cp: ∀ρ:Env,ρ[0]? =some (some (.val (fD f)))->ρ[3]? =some (some (.val (lD c)))->zm (zG U zi (n+5)) (.comp false (.cons (.var 0) .nil) (.prim .nin (.cons (.var 0) (.cons (.var 4) .nil))) (.var 0)) ρ=some (.obj true (lD (xk f c))):=by
  intro ρ h0 h3
  rw[jc (rs:=[.val (fD f)]) (xs:=f) (f:=cD) (fun x=> !decide (x∈c)) cD]
  ·rfl
  ·simp[h0]
  ·rfl
  ·omega
  ·intro x _
   simp[h3,qA]
  ·intro x _ _;simp
 have ln:=zdg (P:=xX (xk f c) l)
 have lc:zh .len [lD c]=some (.val (.int (c.length:Nat))):=by simp[lD]
 rw[yt zll rfl]
 simp only[XN]
 simp[cp,pw,lc,ln]
 unfold yG
 generalize (xX (xk f c) l).length=P
 by_cases h1:c.length+s<P
 ·have h1':(c.length:Int)+s<P:=by omega
  by_cases h2:1<P
  ·have h2':(1:Int)<P:=by omega
   simp[h1,h1',h2,h2']
  ·have h2': ¬(1:Int)<P:=by omega
   simp[h1,h1',h2,h2']
 ·have h1': ¬(c.length:Int)+s<P:=by omega
  simp[h1,h1']
noncomputable def yu(f:List zd)(c:List zd):List zd:=match c.getLast? with
 |none=>f
 |some z=>f.filter fun x=>decide (zX z x)
noncomputable def yD(f:List zd)(cs:List (List zd)):List (List zd):=cs.flatMap fun c=>(yu f c).map fun x=>c++[x]
noncomputable def xr(f:List zd)(cs w:List (List zd))(s3 s4:Option SV):Env:=[some (.val (fD f)),some (.val (yi cs)),some (.obj true (yi w)),s3,s4]
theorem qV{c:List zd}:(yu f c).length<=f.length:=by
 unfold yu
 split
 ·exact Nat.le_refl _
 ·exact List.length_filter_le _ _
theorem zmw{c:List zd}: ∀x∈yu f c,x∈f:=fun x hx=>by
 unfold yu at hx
 split at hx
 ·exact hx
 ·exact (List.mem_filter.mp hx).1
theorem zdh{w:List zd}{x:zd}(h:w.getLast? =some x):zh .idx [lD w,.int (-1)]=some (.val (cD x)):=by
 rw[List.getLast?_eq_getElem?,List.getElem?_eq_some_iff] at h
 obtain⟨h1,h2⟩:=h
 rw[lD,jI]
 unfold atI ixN
 have hp:0<w.length:=by omega
 rw[if_neg (by omega),if_pos (by rw[List.length_map];omega)]
 simp only[Option.bind_some]
 rw[show (-1+((w.map cD).length:Int)).toNat=w.length-1 by rw[List.length_map];omega]
 rw[List.getElem?_map,List.getElem?_eq_getElem h1,h2]
 rfl
theorem zmx(n:Nat)(hf:f.length<=24){cs w:List (List zd)}{c:List zd}{s4:Option SV}(hw:w.length<=80000)(hc:c.length<=100)(h4:zE (some s4)=true):
  ∃s4',zr (zq U zi n) zi JD (xr f cs w (some (.val (lD c))) s4)=some (.nx,xr f cs (w++(yu f c).map fun x=>c++[x]) (some (.val (lD c))) s4')/\zE (some s4')=true:=by
 have hl':=yI
 let P:zd->Bool:=fun x=>match c.getLast? with|none=>true|some z=>decide (zX z x)
 have eP:yu f c=f.filter P:=by
  unfold yu
  show _=f.filter fun x=>match c.getLast? with|none=>true|some z=>decide (zX z x)
  cases c.getLast? with
  |none=>exact (List.filter_eq_self.mpr fun _ _=>rfl).symm
  |some z=>rfl
 obtain⟨ρ',e,s4',rfl,h4'⟩:=JM (i:=4) (body:=zr (zq U zi n) zi XO)
  (fun pre ρ=>∃s4',ρ=xr f cs (w++(pre.filter P).map fun x=>c++[x]) (some (.val (lD c))) s4'/\zE (some s4')=true)
  (xs:=f) (ρ:=xr f cs w (some (.val (lD c))) s4) ⟨s4,by simp,h4⟩
  fun pre x post ρ e zz=>by
   obtain⟨s4',eρ,g4⟩:=zz
   subst eρ
   have lp:pre.length+1<=f.length:=by rw[e];simp
   have lf:(pre.filter P).length<=pre.length:=List.length_filter_le _ _
   have ec:zh .len [lD c]=some (.val (.int (c.length:Nat))):=by simp[lD]
   have ad:zh .add [lD c,.lst [cD x]]=some (.obj true (lD (c++[x]))):=by
    rw[lD,Jr (by simp;omega)];simp[lD]
   have ap: ∀(ρ:Env) (W:List (List zd)),W.length<line->ja ρ 2 (some (.obj true (lD (c++[x])))) (some (some (.obj true (yi W))))=some (.nx,ρ.set 2 (some (.obj true (yi (W++[c++[x]]))))):=fun ρ W hW=>by
    rw[yi,Xh]
    simp only[Option.bind_some,qj,List.length_map,hW,if_true]
    simp[yi]
   have wl:(w++(pre.filter P).map fun x=>c++[x]).length<line:=by rw[List.length_append,List.length_map];omega
   have hf1:(pre++[x]).filter P=pre.filter P++(if P x=true then [x] else []):=by
    rw[List.filter_append]
    congr 1
    by_cases h:P x=true
    ·rw[if_pos h,List.filter_cons_of_pos h];rfl
    ·rw[if_neg h,List.filter_cons_of_neg h];rfl
   have hP:P x=match c.getLast? with|none=>true|some z=>decide (zX z x):=rfl
   cases hc0:c.getLast? with
   |none=>
    rw[hc0] at hP
    have hP:P x=true:=hP
    have cn:c=[]:=List.getLast?_eq_none_iff.mp hc0
    refine⟨.nx,xr f cs ((w++(pre.filter P).map fun x=>c++[x])++[c++[x]]) (some (.val (lD c))) (some (.val (cD x))),?_,.inl rfl,some (.val (cD x)),?_,yH⟩
    ·have l0:((c.length:Nat):Int)=0:=by rw[cn];rfl
     generalize (w++(pre.filter P).map fun x=>c++[x])=W at*
     have ap':=ap (xr f cs W (some (.val (lD c))) (some (.val (cD x)))) W wl
     unfold xr at ap'
     simp only[XO,xr]
     simp[ec,l0,ad,ap']
    ·rw[hf1,if_pos hP];simp
   |some z=>
    rw[hc0] at hP
    have hP:P x=decide (zX z x):=hP
    have li:=zdh hc0
    have l0: ¬(((c.length:Nat):Int)=0):=fun q=>by
     have:c=[]:=List.eq_nil_of_length_eq_zero (by omega)
     rw[this] at hc0;cases hc0
    have l1:(((c.length:Nat):Int)==0)=false:=by simpa using l0
    by_cases hz:zX z x
    ·refine⟨.nx,xr f cs ((w++(pre.filter P).map fun x=>c++[x])++[c++[x]]) (some (.val (lD c))) (some (.val (cD x))),?_,.inl rfl,some (.val (cD x)),?_,yH⟩
     ·generalize (w++(pre.filter P).map fun x=>c++[x])=W at*
      have ap':=ap (xr f cs W (some (.val (lD c))) (some (.val (cD x)))) W wl
      unfold xr at ap'
      simp only[XO,xr]
      simp[ec,l1,li,qU,hz,ad,ap']
     ·rw[hf1,if_pos (by rw[hP];simpa using hz)];simp
    ·refine⟨.nx,xr f cs (w++(pre.filter P).map fun x=>c++[x]) (some (.val (lD c))) (some (.val (cD x))),?_,.inl rfl,some (.val (cD x)),?_,yH⟩
     ·generalize (w++(pre.filter P).map fun x=>c++[x])=W at*
      simp only[XO,xr]
      simp[ec,l1,li,qU,hz]
     ·rw[hf1,if_neg (by rw[hP];simpa using hz)];simp
 refine⟨s4',?_,h4'⟩
 rw[eP]
 simp -implicitDefEqProofs only[JD]
 simp -implicitDefEqProofs [xr,h4,vn]
 rw[show yW (fD f)=some (f.map cD) from rfl]
 simp -implicitDefEqProofs only[Option.map_some,Option.bind_some]
 rw[<-xr,e]
 simp -implicitDefEqProofs [xr]
theorem zmy(n:Nat)(hf:f.length<=9){cs:List (List zd)}(hl:cs.length<=8000)(hc: ∀c∈cs,c.length<=100):zG U zi (n+1) 70 [fD f,yi cs]=some (.obj true (yi (yD f cs))):=by
 have hl':=yI
 have wsnoc: ∀(pre:List (List zd)) (c:List zd),yD f (pre++[c])=yD f pre++(yu f c).map fun x=>c++[x]:=fun pre c=>by unfold yD;simp
 have wlen: ∀pre:List (List zd),(yD f pre).length<=9*pre.length:=fun pre=>by
  induction pre with
  |nil=>simp[yD]
  |cons c r ih=>
   have e:yD f (c::r)=((yu f c).map fun x=>c++[x])++yD f r:=rfl
   have:=qV (f:=f) (c:=c)
   rw[e,List.length_append,List.length_map,List.length_cons]
   omega
 obtain⟨ρ',e,s3,s4,rfl,_⟩:=JQ (g:=lD) (i:=3) (body:=zr (zq U zi n) zi JD)
  (fun pre ρ=>∃s3 s4,ρ=xr f cs (yD f pre) s3 s4/\zE (some s3)=true/\zE (some s4)=true)
  (xs:=cs) (ρ:=xr f cs [] none none) ⟨none,none,rfl,rfl,rfl⟩
  fun pre c post ρ e zz=>by
   obtain⟨s3,s4,eρ,f3,f4⟩:=zz
   subst eρ
   have hm:c∈cs:=by rw[e];simp
   have lp:pre.length<=cs.length:=by rw[e];simp
   have:=wlen pre
   obtain⟨s4',e2,f4'⟩:=zmx n (by omega:f.length<=24) (cs:=cs) (w:=yD f pre) (c:=c) (s4:=s4) (by omega) (hc c hm) f4
   exact⟨_,_,e2,.inl rfl,_,s4',by rw[wsnoc],yH,f4'⟩
 rw[yt zlm rfl]
 simp -implicitDefEqProofs only[XQ]
 simp -implicitDefEqProofs [vn]
 rw[show yW (yi cs)=some (cs.map lD) from rfl]
 simp -implicitDefEqProofs only[Option.map_some,Option.bind_some]
 rw[show D.lst []=yi [] from rfl,<-xr,e]
 simp -implicitDefEqProofs [xr]
noncomputable def zv(f:List zd):Nat->List (List zd)
 |0=>[[]]
 |k+1=>yD f (zv f k)
theorem zdi{cs:List (List zd)}{m:Nat}(hf:f.length<=m):(yD f cs).length<=m*cs.length:=by
 induction cs with
 |nil=>simp[yD]
 |cons c r ih=>
  have e:yD f (c::r)=((yu f c).map fun x=>c++[x])++yD f r:=rfl
  have:=qV (f:=f) (c:=c)
  rw[e,List.length_append,List.length_map,List.length_cons,Nat.mul_add,Nat.mul_one]
  omega
theorem zdj(hf:f.length<=9): ∀k,(zv f k).length<=9 ^ k
 |0=>by simp[zv]
 |k+1=>by
  have:=zdi (cs:=zv f k) hf
  have ih:=zdj hf k
  rw[zv,Nat.pow_succ]
  omega
theorem vN: ∀{k:Nat} {c:List zd},c∈zv f k->c.length=k/\∀x∈c,x∈f
 |0,c,h=>by
  rw[zv,List.mem_singleton] at h
  subst h
  exact⟨rfl,fun x hx=>(by cases hx)⟩
 |k+1,c,h=>by
  rw[zv,yD,List.mem_flatMap] at h
  obtain⟨d,hd,hc⟩:=h
  obtain⟨x,hx,rfl⟩:=List.mem_map.mp hc
  obtain⟨h1,h2⟩:=vN hd
  refine⟨by simp[h1],fun y hy=>?_⟩
  rcases List.mem_append.mp hy with hy|hy
  ·exact h2 y hy
  ·rw[List.mem_singleton] at hy;rw[hy];exact zmw x hx
theorem zdk(hr:f.Pairwise zX): ∀{k:Nat},k<=f.length->f.take k∈zv f k
 |0,_=>by simp[zv]
 |k+1,h=>by
  have ih:=zdk hr (k:=k) (by omega)
  rw[zv,yD,List.mem_flatMap]
  refine⟨f.take k,ih,List.mem_map.mpr ⟨f[k]'(by omega),?_,?_⟩⟩
  ·unfold yu
   cases hz:(f.take k).getLast? with
   |none=>exact List.getElem_mem _
   |some z=>
    rw[List.mem_filter,decide_eq_true_iff]
    refine⟨List.getElem_mem _,?_⟩
    have hk:k≠0:=fun e=>by rw[e] at hz;simp at hz
    rw[List.getLast?_eq_getElem?,List.length_take,Nat.min_eq_left (by omega),List.getElem?_take,if_pos (by omega),List.getElem?_eq_some_iff] at hz
    obtain⟨h1,h2⟩:=hz
    rw[<-h2]
    exact (List.pairwise_iff_getElem.mp hr) (k-1) k h1 (by omega) (by omega)
  ·rw[List.take_add_one,List.getElem?_eq_getElem (by omega:k<f.length)];rfl
end
end LK
namespace LK
open L2.LW
section
variable {f:List zd} {l:zd}
noncomputable def xH(f:List zd)(m:Nat):List (List zd):=(List.range m).flatMap (zv f)
theorem ZP(m:Nat):xH f (m+1)=xH f m++zv f m:=by
 unfold xH
 rw[List.range_succ,List.flatMap_append]
 simp
theorem Vc{p:List zd->Bool}{c:List zd}: ∀{m k:Nat},k<=m->(xH f k).find? p=some c->(xH f m).find? p=some c
 |0,k,h,e=>by
  obtain rfl:k=0:=by omega
  exact e
 |m+1,k,h,e=>by
  by_cases z:k=m+1
  ·subst z;exact e
  ·rw[ZP,List.find?_append,Vc (m:=m) (by omega) e];rfl
theorem rest_ne(nd:f.Nodup){c:List zd}(h:c.length<f.length):xk f c≠[]:=fun z=>by
 have:=wX nd (m:=c) fun x hx=>by
  by_cases q:x∈c
  ·exact q
  ·have:=mem_rest.mpr ⟨hx,q⟩
   rw[z] at this;cases this
 omega
noncomputable def xI(f:List zd)(l:zd)(s:Nat)(s3 s4:Option SV):Env:=[some (.val (fD f)),some (.val (cD l)),some (.val (.int (s:Int))),s3,s4]
noncomputable def qW(f:List zd)(l:zd)(s:Nat):D:=match (xH f ((f.length+1)/2)).find? (yG f l s) with
 |some c=>lD c
 |none=>.non
theorem zmz(n:Nat)(hf:OkF f)(hl:OkL l)(h9:f.length<=9){s:Nat}(hs:s<=1):zG U zi (n+7) 71 [fD f,cD l,.int (s:Int)]=some (.val (qW f l s)):=by
 have hl':=yI
 have nd:=OkF.nodup hf.rise
 have nz:zG U zi (n+6) 6 [fD f]=some (.val (fD f)):=qy (n+2) hf
 have cl:zG U zi (n+6) 7 [cD l]=some (.val (cD l)):=qz (n+3) hl
 have rb:=qS (f:=f) (n+5) (m:=9) (by omega)
 have wo:=JI (n+5) (s:Int) 0 1
 have w1:(decide ((0:Int)<=(s:Int))&&decide ((s:Int)<=1))=true:=by
  rw[decide_eq_true (by omega),decide_eq_true (by omega)];rfl
 rw[w1] at wo
 obtain⟨fl,ρ',e,hq⟩:=zct (test:=zF (zG U zi (n+6)) (.prim .lt (.cons (.prim .mul (.cons (.int 2) (.cons (.prim .len (.cons (.prim .idx (.cons (.var 3) (.cons (.int 0) .nil))) .nil)) .nil))) (.cons (.prim .len (.cons (.var 0) .nil)) .nil)))) (body:=zr (zq U zi (n+6)) zi JF)
  (fun m ρ=>∃k s4,ρ=xI f l s (some (.obj true (yi (zv f k)))) s4/\2*k<=f.length+1/\(xH f k).find? (yG f l s)=none/\zE (some s4)=true/\m=10-k)
  (fun ρ=>(∃s3 s4,ρ=xI f l s s3 s4)/\(xH f ((f.length+1)/2)).find? (yG f l s)=none)
  (fun r=>∃c,(xH f ((f.length+1)/2)).find? (yG f l s)=some c/\r= .val (lD c))
  (m:=10) (n:=zi) (ρ:=xI f l s (some (.obj true (yi [[]]))) none) (by unfold zi;omega)
  ⟨0,none,rfl,by omega,rfl,rfl,rfl⟩
  fun m ρ zz=>by
   obtain⟨k,s4,eρ,q1,q2,q3,rfl⟩:=zz
   subst eρ
   have cm:=zdk hf.rise (k:=k) (by have:=hf.ne;cases f<;>simp_all<;>omega)
   obtain⟨c0,r0,e0⟩: ∃c0 r0,zv f k=c0::r0:=by
    cases h:zv f k with
    |nil=>rw[h] at cm;cases cm
    |cons a b=>exact⟨a,b,rfl⟩
   have l0:c0.length=k:=(vN (f:=f) (k:=k) (c:=c0) (by rw[e0];exact List.mem_cons_self)).1
   have cl9:=zdj h9 k
   have p9:9 ^ k<=59049:=Nat.pow_le_pow_right (n:=9) (by decide) (by omega:k<=5)
   have i0:zh .idx [yi (zv f k),.int 0]=some (.val (lD c0)):=by
    rw[e0,yi,jI,show (0:Int)=((0:Nat):Int) from rfl,atI_nat (by simp)]
    simp
   have i1:zh .len [lD c0]=some (.val (.int (k:Int))):=by simp[lD,l0]
   have i2:zh .mul [.int 2,.int (k:Int)]=some (.val (.int (2*(k:Int)))):=zkU (by omega)
   have ht:zF (zG U zi (n+6)) (.prim .lt (.cons (.prim .mul (.cons (.int 2) (.cons (.prim .len (.cons (.prim .idx (.cons (.var 3) (.cons (.int 0) .nil))) .nil)) .nil))) (.cons (.prim .len (.cons (.var 0) .nil)) .nil))) (xI f l s (some (.obj true (yi (zv f k)))) s4)=some (decide (2*k<f.length)):=by
    have:decide (2*(k:Int)<(f.length:Int))=decide (2*k<f.length):=by rw[decide_eq_decide];omega
    simp -implicitDefEqProofs [xI,i0,i1,i2,vo,this]
   by_cases c:2*k<f.length
   ·refine .inr ⟨by rw[ht,decide_eq_true c],?_⟩
    have k4:k<=4:=by omega
    have cl8:(zv f k).length<=6561:=Nat.le_trans cl9 (Nat.pow_le_pow_right (n:=9) (by decide) k4)
    have lv: ∀d∈zv f k,zG U zi (n+6) 69 [fD f,cD l,.int (s:Int),lD d]=some (.val (.bl (yG f l s d))):=fun d hd=>zmv n hf (rest_ne nd (by rw[(vN hd).1];omega))
    have om:=zmy (f:=f) (n+5) h9 (cs:=zv f k) (by omega) fun d hd=>by rw[(vN hd).1];omega
    obtain⟨fl,ρ',e,hq⟩:=qo (i:=4) (body:=zr (zq U zi (n+6)) zi JE) (f:=lD) (xs:=zv f k)
     (fun i ρ=>∃s4,ρ=xI f l s (some (.val (yi (zv f k)))) s4/\((zv f k).take i).find? (yG f l s)=none/\zE (some s4)=true)
     (fun r=>∃c,(xH f (k+1)).find? (yG f l s)=some c/\r= .val (lD c))
     (ρ:=xI f l s (some (.val (yi (zv f k)))) s4) ⟨s4,rfl,rfl,q3⟩
     fun i ρ hi zz=>by
      obtain⟨s4,eρ,g1,g2⟩:=zz
      subst eρ
      have hd:(zv f k)[i]∈zv f k:=List.getElem_mem _
      have lv1:=lv _ hd
      have tk:(zv f k).take (i+1)=(zv f k).take i++[(zv f k)[i]]:=by rw[List.take_add_one,List.getElem?_eq_getElem hi];rfl
      by_cases hb:yG f l s (zv f k)[i]=true
      ·rw[hb] at lv1
       refine⟨.rt (.val (lD (zv f k)[i])),xI f l s (some (.val (yi (zv f k)))) (some (.val (lD (zv f k)[i]))),?_,.inr ⟨_,rfl,(zv f k)[i],?_,rfl⟩⟩
       ·generalize (zv f k)[i]=d at*
        simp only[JE,xI]
        simp[lv1]
       ·rw[ZP,List.find?_append,q2]
        have sp:zv f k=(zv f k).take i++((zv f k)[i]::(zv f k).drop (i+1)):=by
         rw[<-List.drop_eq_getElem_cons hi,List.take_append_drop]
        conv=>lhs;rw[sp]
        rw[List.find?_append,g1,List.find?_cons_of_pos hb];rfl
      ·have hb':yG f l s (zv f k)[i]=false:=by simpa using hb
       rw[hb'] at lv1
       refine⟨.nx,xI f l s (some (.val (yi (zv f k)))) (some (.val (lD (zv f k)[i]))),?_,.inl ⟨.inl rfl,some (.val (lD (zv f k)[i])),rfl,?_,yH⟩⟩
       ·generalize (zv f k)[i]=d at*
        simp only[JE,xI]
        simp[lv1]
       ·rw[tk,List.find?_append,g1,List.find?_cons_of_neg hb];rfl
    have fz:jG [some (SV.val (fD f)),some (SV.val (cD l)),some (SV.val (.int (s:Int))),some (SV.obj true (yi (zv f k))),s4] 3 (some (some (SV.obj true (yi (zv f k)))))=some ((zv f k).map lD,xI f l s (some (.val (yi (zv f k)))) s4):=rfl
    rcases hq with ⟨rfl,s4',rfl,g1,g2⟩|⟨r,rfl,d,g1,rfl⟩
    ·rw[List.take_length] at g1
     refine⟨.nx,xI f l s (some (.obj true (yi (zv f (k+1))))) s4',?_,.inl ⟨.inl rfl,10-(k+1),by omega,k+1,s4',rfl,by omega,?_,g2,rfl⟩⟩
     ·rw[zv]
      generalize zv f k=Q at*
      simp -implicitDefEqProofs only[JF,xI]
      simp -implicitDefEqProofs [q3,vn]
      rw[fz]
      simp -implicitDefEqProofs only[Option.map_some,Option.bind_some]
      rw[e]
      simp -implicitDefEqProofs [xI,om]
     ·rw[ZP,List.find?_append,q2,g1];rfl
    ·refine⟨.rt (.val (lD d)),ρ',?_,.inr ⟨_,rfl,d,Vc (by omega) g1,rfl⟩⟩
     generalize zv f k=Q at*
     simp -implicitDefEqProofs only[JF,xI]
     simp -implicitDefEqProofs [q3,vn]
     rw[fz]
     simp -implicitDefEqProofs only[Option.map_some,Option.bind_some]
     rw[e]
     simp -implicitDefEqProofs
   ·refine .inl ⟨by rw[ht,decide_eq_false c],⟨_,_,rfl⟩,?_⟩
    rw[show (f.length+1)/2=k by omega]
    exact q2
 rw[yt zln rfl]
 unfold qW
 rcases hq with ⟨rfl,⟨s3,s4,rfl⟩,hno⟩|⟨r,rfl,c,hc,rfl⟩
 ·rw[hno]
  simp -implicitDefEqProofs only[ZI]
  simp -implicitDefEqProofs [nz,cl,rb,wo,ZB]
  rw[show D.lst [D.lst []]=yi [[]] from rfl,<-xI,e]
  simp -implicitDefEqProofs
 ·rw[hc]
  simp -implicitDefEqProofs only[ZI]
  simp -implicitDefEqProofs [nz,cl,rb,wo,ZB]
  rw[show D.lst [D.lst []]=yi [[]] from rfl,<-xI,e]
  simp -implicitDefEqProofs
end
end LK
namespace LK
open L2.LW
section
variable {f:List zd} {l:zd}
theorem zdl{R:List zd}(hn:R.Nodup):Pts R l (xX R l):=by
 have is:=qG (f:=R) (l:=l) (g:=R) (acc:=[]) (fun x hx=>hx) (fun p hp=>by cases hp)
 refine⟨fun p hp z=>?_,fun p hp x hx=>?_,?_,fun p hp x hx y hy hxy=>?_⟩
 ·obtain⟨c,hc,rfl⟩:=is p hp
  have:=qF (l:=l) hc
  rw[z] at this;cases this
 ·obtain⟨c,hc,rfl⟩:=is p hp
  exact (vt.mp hx).1
 ·have nd:=qH (f:=R) (l:=l) hn (g:=R) (acc:=[]) (fun x hx=>hx) (fun p hp=>by cases hp) (by simp)
  exact (List.pairwise_flatten.mp nd).2.imp fun h x hx hx'=>h x hx x hx' rfl
 ·obtain⟨c,hc,rfl⟩:=is p hp
  obtain⟨hxf,k,hk⟩:=vt.mp hx
  have h1:Bk R l x 1 y:=.inr ⟨hy,x,rfl,by rw[wH];exact hxy⟩
  exact vt.mpr ⟨hy,_,Bk.join hk h1⟩
theorem zdm(nd:f.Nodup){w:List zd}(hw:HW f l w)(c:List zd):(xX (xk f c) l).length<=c.length+1:=
 zmt nd hw (c:=c) (fun x=>mem_rest) (zdl (nd.sublist List.filter_sublist))
noncomputable def RW(f:List zd)(l:zd):Prop:=3<=f.length/\∃w,HR f l w
theorem zmA(n:Nat)(hf:OkF f)(hl:OkL l)(h16:f.length<=16):(RW f l/\∃w,zG U zi (n+5) 68 [fD f,cD l]=some (.obj true (lD w)))\/(¬RW f l/\zG U zi (n+5) 68 [fD f,cD l]=some (.val .non)):=by
 rcases zms n hf hl h16 with ⟨h,e⟩|⟨h,w,hw,e⟩|⟨h,hw,e⟩
 ·exact .inr ⟨fun z=>by have:=z.1;omega,e⟩
 ·exact .inl ⟨⟨h,w,hw⟩,w,e⟩
 ·exact .inr ⟨fun z=>z.2.elim hw,e⟩
end
theorem zdn{w:List zd}:vg (lD w)=false:=rfl
end LK
namespace LK
open L2.LW
section
variable {f:List zd} {l:zd} {F:D}
theorem zmB(n:Nat)(l c:zd)(h0:yW F=some (f.map cD))(h:f.length<=1000):zG U zi (n+2) 18 [F,cD l,cD c]=some (.obj true (lD (f.filter (yh l c)))):=by
 rw[yt zk9 rfl]
 have hl':=yI
 simp only[XA]
 simp
 rw[jc (rs:=[.val F]) (xs:=f) (f:=cD) (yh l c) cD]
 ·simp[lD]
 ·simp
 ·exact h0
 ·omega
 ·intro x _;simp[zlN]
 ·intro x _ _;simp
theorem zdo{x:zd}{fo:List (List zd)}{P:List zd}:decide (x∉(fo++[P]).flatten)=(decide (x∉P)&&decide (x∉fo.flatten)):=by
 rw[Bool.eq_iff_iff]
 simp[-List.mem_flatten,List.flatten_append,and_comm]
noncomputable def xl(F:D)(l:zd)(fo:List (List zd))(le:List zd)(s4 s5:Option SV):Env:=[some (.val F),some (.val (cD l)),some (.obj true (yi fo)),some (.obj true (lD le)),s4,s5]
structure Ga (f:List zd)(l c:zd)(L:List zd)(k:Nat):Prop where
 nd:L.Nodup
 sub: ∀x∈L,x∈f/\∃j,Bk f l c j x
 me:c∈L
 cl: ∀i (h:i<L.length),i<k->∀o∈nb f l L[i],o∈L
 le:k<=L.length
theorem Ga.len{c:zd}{L:List zd}{k:Nat}(g:Ga f l c L k):L.length<=f.length:=wX g.nd fun x hx=>(g.sub x hx).1
theorem Ga.all{c:zd}{L:List zd}(g:Ga f l c L L.length): ∀j x,Bk f l c j x->x∈L:=by
 intro j
 induction j with
 |zero=>intro x hx;rw[show x=c from hx];exact g.me
 |succ j ih=>
  intro x hx
  rcases hx with hx|⟨hxf,p,hp,hn⟩
  ·exact ih x hx
  ·obtain⟨i,hi,rfl⟩:=List.getElem_of_mem (ih p hp)
   exact g.cl i hi hi x (XW.mpr ⟨hxf,by rw[wH];exact hn⟩)
theorem Ga.is{c:zd}{L:List zd}(hc:c∈f)(g:Ga f l c L L.length): ∀x,x∈L↔x∈yw f l c:=fun x=>by
 rw[vt]
 exact⟨fun h=>g.sub x h,fun ⟨_,j,h⟩=>g.all j x h⟩
theorem zmC(n:Nat)(h0:yW F=some (f.map cD))(hn:f.Nodup)(hf:f.length<=24){fo:List (List zd)}{le L:List zd}{c:zd}{k:Nat}(g:Ga f l c L k)(hk:k<L.length):
  ∃L',zr (zq U zi (n+2)) zi XE (xl F l fo le (some (.obj true (lD L))) (some (.val (.int (k:Int)))))=some (.nx,xl F l fo le (some (.obj true (lD L'))) (some (.val (.int ((k+1:Nat):Int)))))/\Ga f l c L' (k+1):=by
 have hl':=yI
 have glen:=g.len
 have ln:=zmB n l L[k] h0 (by omega:f.length<=1000)
 have ix:zh .idx [lD L,.int (k:Int)]=some (.val (cD L[k])):=by
  rw[lD,jI,atI_nat (by simpa using hk)];simp
 refine⟨L++(nb f l L[k]).filter (fun o=>decide (o∉L)),?_,?_⟩
 ·have fl:((nb f l L[k]).filter fun o=>decide (o∉L)).length<=f.length:=Nat.le_trans (List.length_filter_le _ _) (List.length_filter_le _ _)
  simp only[XE]
  simp[xl]
  rw[jc (rs:=[.obj true (lD (nb f l L[k]))]) (xs:=nb f l L[k]) (f:=cD) (fun o=>decide (o∉L)) cD]
  ·simp only[Function.comp_apply,Option.map_some,Option.bind_some,List.map_cons,List.map_nil,zkP,zkO]
   rw[lD,Jr (by simp only[List.length_map];omega)]
   simp[lD]
  ·simp[ix,ln]
   rfl
  ·rfl
  ·have:=List.length_filter_le (yh l L[k]) f
   unfold nb;omega
  ·intro o ho
   simp[qA]
  ·intro o ho _
   simp
 ·refine⟨?_,fun x hx=>?_,by simp[g.me],fun i hi hik o ho=>?_,by simp;omega⟩
  ·rw[List.nodup_append]
   refine⟨g.nd,(hn.filter _).filter _,fun a ha b hb e=>?_⟩
   rw[List.mem_filter,decide_eq_true_iff] at hb
   exact hb.2 (by rw[<-e];exact ha)
  ·rw[List.mem_append] at hx
   rcases hx with hx|hx
   ·exact g.sub x hx
   ·rw[List.mem_filter] at hx
    obtain⟨h1,h2⟩:=XW.mp hx.1
    obtain⟨_,j,hj⟩:=g.sub L[k] (List.getElem_mem hk)
    exact⟨h1,j+1,.inr ⟨h1,L[k],hj,by rw[wH];exact h2⟩⟩
  ·rw[List.mem_append]
   have hiL:i<L.length:=by omega
   rw[List.getElem_append_left hiL] at ho
   by_cases e:i<k
   ·exact .inl (g.cl i hiL e o ho)
   ·have:i=k:=by omega
    subst this
    by_cases ho2:o∈L
    ·exact .inl ho2
    ·exact .inr (List.mem_filter.mpr ⟨ho,by simp[ho2]⟩)
theorem zmD(n:Nat)(h0:yW F=some (f.map cD))(hn:f.Nodup)(hf:f.length<=24){fo:List (List zd)}{le:List zd}{c:zd}(hc:c∈f):
  ∃L,zL (zq U zi (n+2)) zi (.while_ (.prim .lt (.cons (.var 5) (.cons (.prim .len (.cons (.var 4) .nil)) .nil))) XE) (xl F l fo le (some (.obj true (lD [c]))) (some (.val (.int 0))))=some (.nx,xl F l fo le (some (.obj true (lD L))) (some (.val (.int (L.length:Int)))))/\Ga f l c L L.length:=by
 obtain⟨ρ',e,L,rfl,g⟩:=Xi (test:=zF (zG U zi (n+2)) (.prim .lt (.cons (.var 5) (.cons (.prim .len (.cons (.var 4) .nil)) .nil)))) (body:=zr (zq U zi (n+2)) zi XE)
  (fun m ρ=>∃L,∃k:Nat,ρ=xl F l fo le (some (.obj true (lD L))) (some (.val (.int (k:Int))))/\Ga f l c L k/\m=f.length-k)
  (fun ρ=>∃L,ρ=xl F l fo le (some (.obj true (lD L))) (some (.val (.int (L.length:Int))))/\Ga f l c L L.length)
  (m:=f.length) (n:=zi) (ρ:=xl F l fo le (some (.obj true (lD [c]))) (some (.val (.int 0)))) (by unfold zi;omega)
  ⟨[c],0,rfl,⟨by simp,fun x hx=>by rw[List.mem_singleton] at hx;subst hx;exact⟨hc,0,rfl⟩,by simp,fun i _ h=>by omega,by simp⟩,by omega⟩
  fun m ρ zz2=>by
   obtain⟨L,k,eρ,g,hm⟩:=zz2
   subst eρ
   have ht:zF (zG U zi (n+2)) (.prim .lt (.cons (.var 5) (.cons (.prim .len (.cons (.var 4) .nil)) .nil))) (xl F l fo le (some (.obj true (lD L))) (some (.val (.int (k:Int)))))=some (decide (k<L.length)):=by
    simp[xl,lD]
   by_cases hk:k<L.length
   ·obtain⟨L',e2,g'⟩:=zmC n h0 hn hf (fo:=fo) (le:=le) g hk
    have:=g.len
    exact .inr ⟨by rw[ht];simp[hk],_,_,f.length-(k+1),e2,.inl rfl,by omega,L',k+1,rfl,g',rfl⟩
   ·have:k=L.length:=by have:=g.le;omega
    subst this
    exact .inl ⟨by rw[ht];simp,L,rfl,g⟩
 refine⟨L,?_,g⟩
 rw[ZB]
 exact e
theorem zmE(n:Nat)(h0:yW F=some (f.map cD))(hF:OkF f){fo:List (List zd)}{c:zd}{r:List zd}{s4 s5:Option SV}(hle:f.filter (fun x=>decide (x∉fo.flatten))=c::r)(hfo:fo.length<=100)(h4:zE (some s4)=true)(h5:zE (some s5)=true):
  ∃s4' s5',zr (zq U zi (n+2)) zi Jz (xl F l fo (c::r) s4 s5)=some (.nx,xl F l (fo++[yw f l c]) (f.filter fun x=>decide (x∉(fo++[yw f l c]).flatten)) s4' s5')/\zE (some s4')=true/\zE (some s5')=true:=by
 have hl':=yI
 have hlen:=hF.len
 have hn:=OkF.nodup hF.rise
 have hc:c∈f:=by
  have:c∈f.filter (fun x=>decide (x∉fo.flatten)):=by rw[hle];exact List.mem_cons_self
  exact (List.mem_filter.mp this).1
 obtain⟨L,e,g⟩:=zmD (l:=l) n h0 hn hlen (fo:=fo) (le:=c::r) hc
 have gl:=g.len
 have so:zh .sorted [lD L]=some (.obj true (lD (yw f l c))):=by
  show Ze (L.map cD)=_
  exact zl4 (fun z=>by have:=g.me;rw[z] at this;cases this) g.nd (by omega) (zcQ hF.rise) (g.is hc)
 have ap: ∀(ρ:Env),ja ρ 2 (some (.obj true (lD (yw f l c)))) (some (some (.obj true (yi fo))))=some (.nx,ρ.set 2 (some (.obj true (yi (fo++[yw f l c]))))):=fun ρ=>by
  rw[yi,Xh]
  have:fo.length<line:=by omega
  simp only[Option.bind_some,qj,List.length_map,this,if_true]
  simp[yi]
 have ix:zh .idx [lD (c::r),.int 0]=some (.val (cD c)):=by
  rw[lD,jI,show (0:Int)=((0:Nat):Int) from rfl,atI_nat (by simp)];rfl
 have rl:(c::r).length<=f.length:=by rw[<-hle];exact List.length_filter_le _ _
 refine⟨some (.obj true (lD L)),some (.val (.int (L.length:Int))),?_,zck,yH⟩
 generalize hG:(f.filter fun x=>decide (x∉(fo++[yw f l c]).flatten))=G
 simp only[Jz]
 simp[xl,ix,h4,h5]
 rw[show D.lst [cD c]=lD [c] from rfl,<-xl,e]
 simp[xl,so,ap]
 rw[jc (rs:=[.obj false (lD (c::r))]) (xs:=c::r) (f:=cD) (fun o=>decide (o∉L)) cD]
 ·simp
  rw[<-hG,<-hle,List.filter_filter]
  show lD _=lD _
  congr 1
  apply List.filter_congr
  intro x hx
  rw[zdo]
  congr 1
  rw[Bool.eq_iff_iff]
  simp[g.is hc x]
 ·simp
 ·rfl
 ·omega
 ·intro o ho
  simp[qA]
 ·intro o ho _
  simp
theorem zmF(n:Nat)(h0:yW F=some (f.map cD))(hto:zh .toList [F]=some (.obj true (lD f)))(hF:OkF f):zG U zi (n+3) 32 [F,cD l]=some (.obj true (yi (xX f l))):=by
 have hlen:=hF.len
 have f0:(f.filter fun x=>decide (x∉([]:List (List zd)).flatten))=f:=List.filter_eq_self.mpr (by simp)
 obtain⟨ρ',e,s3,s4,s5,rfl⟩:=Xi (test:=zF (zG U zi (n+2)) (.var 3)) (body:=zr (zq U zi (n+2)) zi Jz)
  (fun m ρ=>∃fo s4 s5,ρ=xl F l fo (f.filter fun x=>decide (x∉fo.flatten)) s4 s5/\yx f l f fo=xX f l/\fo.length+m<=f.length/\m=(f.filter fun x=>decide (x∉fo.flatten)).length/\zE (some s4)=true/\zE (some s5)=true)
  (fun ρ=>∃s3 s4 s5,ρ=xl F l (xX f l) s3 s4 s5)
  (m:=f.length) (n:=zi) (ρ:=xl F l [] f none none) (by unfold zi;omega)
  ⟨[],none,none,by rw[f0],rfl,by simp,by rw[f0],rfl,rfl⟩
  fun m ρ zz2=>by
   obtain⟨fo,s4,s5,eρ,r1,r2,r3,r4,r5⟩:=zz2
   subst eρ
   have ht:zF (zG U zi (n+2)) (.var 3) (xl F l fo (f.filter fun x=>decide (x∉fo.flatten)) s4 s5)=some (!(f.filter fun x=>decide (x∉fo.flatten)).isEmpty):=by
    simp[xl,lD]
   cases hle:f.filter fun x=>decide (x∉fo.flatten) with
   |nil=>
    refine .inl ⟨by rw[hle] at ht;rw[ht];rfl,[],s4,s5,?_⟩
    have:xX f l=fo:=by
     rw[<-r1]
     apply zcO
     intro c hc
     by_cases z:c∈fo.flatten
     ·exact z
     ·have:c∈f.filter fun x=>decide (x∉fo.flatten):=List.mem_filter.mpr ⟨hc,by simpa using z⟩
      rw[hle] at this;cases this
    rw[this]
   |cons c r=>
    rw[hle] at r3 ht
    simp at r3
    have r1':=zcP (f:=f) (l:=l) (fun x hx=>hx) hle
    obtain⟨s4',s5',e2,q4,q5⟩:=zmE (l:=l) n h0 hF (s4:=s4) (s5:=s5) hle (by omega) r4 r5
    have hc:c∈f:=by
     have:c∈f.filter (fun x=>decide (x∉fo.flatten)):=by rw[hle];exact List.mem_cons_self
     exact (List.mem_filter.mp this).1
    have lt:(f.filter fun x=>decide (x∉(fo++[yw f l c]).flatten)).length<m:=by
     have e3:(f.filter fun x=>decide (x∉(fo++[yw f l c]).flatten))=(c::r).filter fun x=>decide (x∉yw f l c):=by
      rw[<-hle,List.filter_filter]
      apply List.filter_congr
      intro x hx
      rw[zdo]
     rw[e3,List.filter_cons,if_neg (by simp[qF hc])]
     have:=List.length_filter_le (fun x=>decide (x∉yw f l c)) r
     omega
    refine .inr ⟨by rw[ht];rfl,_,_,_,e2,.inl rfl,lt,fo++[yw f l c],s4',s5',rfl,by rw[<-r1'];exact r1,by rw[List.length_append,List.length_singleton];omega,rfl,q4,q5⟩
 rw[yt zlc rfl]
 simp only[XF]
 simp[ZB,hto]
 rw[show D.lst []=yi [] from rfl,<-xl,e]
 simp[xl]
end
end LK
namespace LK
open L2.LW
section
variable {f:List zd} {l:zd}
theorem zdp: ∀{k:Nat} {c:List zd},c∈zv f k->c.Pairwise zX
 |0,c,h=>by
  rw[zv,List.mem_singleton] at h
  subst h
  exact .nil
 |k+1,c,h=>by
  rw[zv,yD,List.mem_flatMap] at h
  obtain⟨d,hd,hc⟩:=h
  obtain⟨x,hx,rfl⟩:=List.mem_map.mp hc
  have ih:=zdp hd
  rw[List.pairwise_append]
  refine⟨ih,List.pairwise_singleton _ _,fun a ha b hb=>?_⟩
  rw[List.mem_singleton.mp hb]
  unfold yu at hx
  cases hz:d.getLast? with
  |none=>rw[List.getLast?_eq_none_iff.mp hz] at ha;cases ha
  |some z=>
   rw[hz] at hx
   have zx:zX z x:=by simpa using (List.mem_filter.mp hx).2
   obtain⟨q,rfl⟩:=List.getLast?_eq_some_iff.mp hz
   rcases List.mem_append.mp ha with ha|ha
   ·exact zcA ((List.pairwise_append.mp ih).2.2 a ha z List.mem_cons_self) zx
   ·rw[List.mem_singleton.mp ha];exact zx
noncomputable def wn(f:List zd)(cs:List (List zd)):Nat:=(cs.map fun c=>2 ^ (yu f c).length).sum
theorem zmG(a b:List (List zd)):wn f (a++b)=wn f a+wn f b:=by unfold wn;rw[List.map_append,List.sum_append]
theorem zdq{a g:List zd}{x:zd}(hr:(a++x::g).Pairwise zX):(a++x::g).filter (fun y=>decide (zX x y))=g:=by
 obtain⟨h1,h2,h3⟩:=List.pairwise_append.mp hr
 rw[List.pairwise_cons] at h2
 rw[List.filter_append,List.filter_eq_nil_iff.mpr fun y hy=>?_,List.filter_cons_of_neg (by simpa using qw),List.filter_eq_self.mpr fun y hy=>?_]
 ·rfl
 ·simpa using h2.1 y hy
 ·have:=h3 y hy x List.mem_cons_self
  simpa using fun z=>zlt this z
theorem zdr{c:List zd}: ∀(g a:List zd),f=a++g->f.Pairwise zX->wn f (g.map fun x=>c++[x])<=2 ^ g.length
 |[],a,e,hr=>by simp[wn]
 |x::g,a,e,hr=>by
  have ih:=zdr (c:=c) g (a++[x]) (by rw[e];simp) hr
  have e1:yu f (c++[x])=g:=by
   unfold yu
   rw[List.getLast?_concat,e]
   exact zdq (by rw[<-e];exact hr)
  rw[List.map_cons]
  show (2 ^ (yu f (c++[x])).length)+wn f (g.map fun x=>c++[x])<=_
  rw[e1,List.length_cons,Nat.pow_succ]
  omega
theorem zmH(hr:f.Pairwise zX){c:List zd}(hc: ∀x∈c,x∈f): ∃a,f=a++yu f c:=by
 unfold yu
 cases hz:c.getLast? with
 |none=>exact⟨[],rfl⟩
 |some z=>
  obtain⟨a,g,e⟩:=List.append_of_mem (hc z (List.mem_of_getLast? hz))
  refine⟨a++[z],?_⟩
  show f=(a++[z])++f.filter fun x=>decide (zX z x)
  have:=zdq (a:=a) (g:=g) (x:=z) (by rw[<-e];exact hr)
  rw[<-e] at this
  rw[this,e];simp
theorem zds(hr:f.Pairwise zX): ∀{cs:List (List zd)},(∀c∈cs,∀x∈c,x∈f)->wn f (yD f cs)<=wn f cs
 |[],_=>Nat.le_refl _
 |c::r,h=>by
  have e:yD f (c::r)=((yu f c).map fun x=>c++[x])++yD f r:=rfl
  have ih:=zds hr (cs:=r) fun c hc=>h c (List.mem_cons_of_mem _ hc)
  obtain⟨a,ha⟩:=zmH hr (h c List.mem_cons_self)
  have:=zdr (c:=c) (yu f c) a ha hr
  rw[e,zmG]
  show _<=2 ^ (yu f c).length+wn f r
  omega
theorem zdt(hr:f.Pairwise zX): ∀k,wn f (zv f k)<=2 ^ f.length
 |0=>by simp[zv,wn,yu]
 |k+1=>Nat.le_trans (zds hr fun c hc=>(vN hc).2) (zdt hr k)
theorem zdu: ∀cs:List (List zd),cs.length<=wn f cs
 |[]=>Nat.zero_le _
 |c::r=>by
  have:=zdu r
  have h1:=Nat.two_pow_pos (yu f c).length
  show r.length+1<=2 ^ (yu f c).length+wn f r
  omega
theorem zmI(hr:f.Pairwise zX)(h9:f.length<=9)(k:Nat):(zv f k).length<=512:=
 Nat.le_trans (zdu (f:=f) _) (Nat.le_trans (zdt hr k) (Nat.pow_le_pow_right (n:=2) (by decide) h9))
theorem zmJ(nd:f.Nodup){c:List zd}(cn:c.Nodup)(hc: ∀x∈c,x∈f):(xk f c).length+c.length<=f.length:=by
 have h1:(f.filter fun x=>decide (x∈c)).length+(xk f c).length=f.length:=zcR
 have h2:=wX cn (m:=f.filter fun x=>decide (x∈c)) fun x hx=>List.mem_filter.mpr ⟨hc x hx,by simpa using hx⟩
 omega
theorem zmK(nd:f.Nodup){k s:Nat}{c:List zd}(hc:c∈zv f k)(hk:f.length<=2*k):yG f l s c=false:=by
 have h1:=zmJ nd (OkF.nodup (zdp hc)) (vN hc).2
 have h2:=(vN hc).1
 have h3:=zl9 (f:=xk f c) (l:=l)
 unfold yG
 rw[decide_eq_false (by omega)];rfl
theorem zdv(nd:f.Nodup){s:Nat}: ∀m,(xH f ((f.length+1)/2)).find? (yG f l s)=none->(xH f m).find? (yG f l s)=none
 |0,_=>rfl
 |m+1,h=>by
  by_cases c:m+1<=(f.length+1)/2
  ·cases hq:(xH f (m+1)).find? (yG f l s) with
   |none=>rfl
   |some d=>rw[Vc c hq] at h;cases h
  ·rw[ZP,List.find?_append,zdv nd m h,List.find?_eq_none.mpr fun d hd=>?_]
   ·rfl
   ·rw[zmK nd hd (by omega)];simp
noncomputable def yE(P:List (List zd)):D:=.lst (P.map fD)
noncomputable def yY(f:List zd)(l:zd)(s:Nat)(s3 s4 s5 s6 s7:Option SV):Env:=[some (.val (fD f)),some (.val (cD l)),some (.val (.int (s:Int))),s3,s4,s5,s6,s7]
theorem zmL{w:List zd}{x:zd}(h:w.getLast? =some x):zh .idx [fD w,.int (-1)]=some (.val (cD x)):=zdh h
theorem zmM(n:Nat)(hf:OkF f){c:List zd}{m s:Nat}(hm:c.length=m)(hr:xk f c≠[]){s3 s6 s7:Option SV}(h6:zE (some s6)=true):
  zr (zq U zi (n+3)) zi JH (yY f l s s3 (some (.val (.int (m:Int)))) (some (.val (fD c))) s6 s7)=some (if yG f l s c then .rt (.obj true (lD c)) else .nx,yY f l s s3 (some (.val (.int (m:Int)))) (some (.val (fD c))) (some (.val (lD (xk f c)))) s7):=by
 have hl':=yI
 have hlen:=hf.len
 have pw:=zmF (l:=l) n (F:=lD (xk f c)) rfl rfl (zdf hf hr)
 have cp: ∀ρ:Env,ρ[0]? =some (some (.val (fD f)))->ρ[5]? =some (some (.val (fD c)))->zm (zG U zi (n+3)) (.comp false (.cons (.var 0) .nil) (.prim .nin (.cons (.var 0) (.cons (.var 6) .nil))) (.var 0)) ρ=some (.obj true (lD (xk f c))):=by
  intro ρ h0 h5
  rw[jc (rs:=[.val (fD f)]) (xs:=f) (f:=cD) (fun x=> !decide (x∈c)) cD]
  ·rfl
  ·simp[h0]
  ·rfl
  ·omega
  ·intro x _
   simp[h5,zly]
  ·intro x _ _;simp
 have ln:=zdg (P:=xX (xk f c) l)
 have tl:zh .toList [fD c]=some (.obj true (lD c)):=rfl
 have pm:zh .max2 [.int ((m:Int)+(s:Int)),.int 1]=some (.val (.int (max ((m:Int)+s) 1))):=by
  rw[Jt];congr 3;split<;>omega
 unfold yG
 simp only[JH,yY]
 simp[cp,pw,ln,pm, -Jt,h6]
 generalize (xX (xk f c) l).length=P
 by_cases h1:c.length+s<P/\1<P
 ·have h1':max ((m:Int)+s) 1<(P:Int):=by omega
  simp[h1',tl,h1]
 ·have h1': ¬max ((m:Int)+s) 1<(P:Int):=by omega
  simp[h1',h1]
theorem zmN(n:Nat)(hf:f.length<=24){c:List zd}{s:Nat}(hc:c.length<=100){w:List (List zd)}(hw:w.length<=80000){s3 s4 s6:Option SV}:
  zr (zq U zi n) zi JG (yY f l s s3 s4 (some (.val (fD c))) s6 (some (.obj true (yE w))))=some (.nx,yY f l s s3 s4 (some (.val (fD c))) s6 (some (.obj true (yE (w++(yu f c).map fun x=>c++[x]))))):=by
 have hl':=yI
 let P:zd->Bool:=fun x=>match c.getLast? with|none=>true|some z=>decide (zX z x)
 have eP:yu f c=f.filter P:=by
  unfold yu
  show _=f.filter fun x=>match c.getLast? with|none=>true|some z=>decide (zX z x)
  cases c.getLast? with
  |none=>exact (List.filter_eq_self.mpr fun _ _=>rfl).symm
  |some z=>rfl
 have cp: ∀ρ:Env,ρ[0]? =some (some (.val (fD f)))->ρ[5]? =some (some (.val (fD c)))->zm (zG U zi n) (.comp false (.cons (.var 0) .nil) (.or (.not (.var 6)) (.prim .gt (.cons (.var 0) (.cons (.prim .idx (.cons (.var 6) (.cons (.prim .neg (.cons (.int 1) .nil)) .nil))) .nil)))) (.prim .addT (.cons (.var 6) (.cons (.tup (.cons (.var 0) .nil)) .nil)))) ρ=some (.obj true (yE ((yu f c).map fun x=>c++[x]))):=by
  intro ρ h0 h5
  rw[jc (rs:=[.val (fD f)]) (xs:=f) (f:=cD) P fun x=>fD (c++[x])]
  ·rw[eP];unfold yE;rw[List.map_map];rfl
  ·simp[h0]
  ·rfl
  ·omega
  ·intro x _
   have hP:P x=match c.getLast? with|none=>true|some z=>decide (zX z x):=rfl
   have tc:yB (.val (fD c))=some (!c.isEmpty):=by cases c<;>rfl
   cases hz:c.getLast? with
   |none=>
    rw[hz] at hP
    have hP:P x=true:=hP
    rw[List.getLast?_eq_none_iff] at hz
    subst hz
    simp[h5,tc,hP]
   |some z=>
    rw[hz] at hP
    have hP:P x=decide (zX z x):=hP
    have li:=zmL hz
    have ce:c.isEmpty=false:=by cases c<;>simp_all
    simp[h5,tc,ce,li,qU,hP]
  ·intro x _ _
   have ad:zh .addT [fD c,.tup [cD x]]=some (.val (fD (c++[x]))):=by
    show Yv [.tup (c.map cD),.tup [cD x]]=_
    unfold Yv
    simp only
    rw[if_pos (by rw[List.length_map];simp;omega)]
    simp[fD]
   simp[h5,ad]
 have ad:zh .add [yE w,yE ((yu f c).map fun x=>c++[x])]=some (.obj true (yE (w++(yu f c).map fun x=>c++[x]))):=by
  have:=qV (f:=f) (c:=c)
  unfold yE
  rw[Jr (by simp only[List.length_map];omega)];simp
 generalize ((yu f c).map fun x=>c++[x])=E at*
 simp only[JG,yY]
 simp[cp,ad]
theorem zmO(pre:List (List zd))(c:List zd):yD f (pre++[c])=yD f pre++(yu f c).map fun x=>c++[x]:=by unfold yD;simp
theorem zmP{pre post:List (List zd)}:(yD f pre).length<=f.length*(pre++post).length:=by
 have:=zdi (f:=f) (cs:=pre) (Nat.le_refl _)
 rw[List.length_append,Nat.mul_add]
 omega
noncomputable def qX(f:List zd)(l:zd)(s:Nat):SV:=match (xH f f.length).find? (yG f l s) with
 |some c=>.obj true (lD c)
 |none=>.val .non
theorem zmQ(n:Nat)(hf:OkF f)(h9:f.length<=9){m s:Nat}(hm:m<f.length){s3:SV}(h3:s3= .val (yE (zv f m))\/s3= .obj true (yE (zv f m))){s5 s6 s7:Option SV}(h5:zE (some s5)=true)(h6:zE (some s6)=true)(h7:zE (some s7)=true):
  ∃fl ρ',zr (zq U zi (n+3)) zi XR (yY f l s (some s3) (some (.val (.int (m:Int)))) s5 s6 s7)=some (fl,ρ')/\
   ((∃d,(zv f m).find? (yG f l s)=some d/\fl= .rt (.obj true (lD d)))\/((zv f m).find? (yG f l s)=none/\fl= .nx/\∃s5 s6 s7,ρ'=yY f l s (some (.val (yE (zv f (m+1))))) (some (.val (.int (m:Int)))) s5 s6 s7/\zE (some s5)=true/\zE (some s6)=true/\zE (some s7)=true)):=by
 have hl':=yI
 have nd:=OkF.nodup hf.rise
 have few:=zmI hf.rise h9 m
 have len: ∀d∈zv f m,d.length=m:=fun d hd=>(vN hd).1
 obtain⟨fl,ρ',e,hq⟩:=qo (i:=5) (body:=zr (zq U zi (n+3)) zi JH) (f:=fD) (xs:=zv f m)
  (fun i ρ=>∃s5 s6,ρ=yY f l s (some (.val (yE (zv f m)))) (some (.val (.int (m:Int)))) s5 s6 s7/\((zv f m).take i).find? (yG f l s)=none/\zE (some s5)=true/\zE (some s6)=true)
  (fun r=>∃c,(zv f m).find? (yG f l s)=some c/\r= .obj true (lD c))
  (ρ:=yY f l s (some (.val (yE (zv f m)))) (some (.val (.int (m:Int)))) s5 s6 s7) ⟨s5,s6,rfl,rfl,h5,h6⟩
  fun i ρ hi zz=>by
   obtain⟨s5,s6,eρ,g1,g5,g6⟩:=zz
   subst eρ
   have hd:(zv f m)[i]∈zv f m:=List.getElem_mem _
   have lk:=zmM (l:=l) (s:=s) (s3:=some (.val (yE (zv f m)))) (s6:=s6) (s7:=s7) n hf (len _ hd) (rest_ne nd (by rw[len _ hd];omega)) g6
   have tk:(zv f m).take (i+1)=(zv f m).take i++[(zv f m)[i]]:=by rw[List.take_add_one,List.getElem?_eq_getElem hi];rfl
   refine⟨_,_,lk,?_⟩
   by_cases hb:yG f l s (zv f m)[i]=true
   ·rw[if_pos hb]
    refine .inr ⟨_,rfl,(zv f m)[i],?_,rfl⟩
    have sp:zv f m=(zv f m).take i++((zv f m)[i]::(zv f m).drop (i+1)):=by
     rw[<-List.drop_eq_getElem_cons hi,List.take_append_drop]
    conv=>lhs;rw[sp]
    rw[List.find?_append,g1,List.find?_cons_of_pos hb];rfl
   ·rw[if_neg hb]
    refine .inl ⟨.inl rfl,_,_,rfl,?_,yH,yH⟩
    rw[tk,List.find?_append,g1,List.find?_cons_of_neg hb];rfl
 have fz:jG [some (SV.val (fD f)),some (SV.val (cD l)),some (SV.val (.int (s:Int))),some s3,some (.val (.int (m:Int))),s5,s6,s7] 3 (some (some s3))=some ((zv f m).map fD,yY f l s (some (.val (yE (zv f m)))) (some (.val (.int (m:Int)))) s5 s6 s7):=by
  rcases h3 with rfl|rfl<;>rfl
 rcases hq with ⟨rfl,s5',s6',rfl,g1,g5,g6⟩|⟨r,rfl,d,g1,rfl⟩
 ·rw[List.take_length] at g1
  obtain⟨ρ2,e2,s5'',rfl,g5''⟩:=JQ (g:=fD) (i:=5) (body:=zr (zq U zi (n+3)) zi JG)
   (fun pre ρ=>∃s5,ρ=yY f l s (some (.val (yE (zv f m)))) (some (.val (.int (m:Int)))) s5 s6' (some (.obj true (yE (yD f pre))))/\zE (some s5)=true)
   (xs:=zv f m) (ρ:=yY f l s (some (.val (yE (zv f m)))) (some (.val (.int (m:Int)))) s5' s6' (some (.obj true (yE (yD f []))))) ⟨s5',rfl,g5⟩
   fun pre c post ρ ec zz=>by
    obtain⟨s5,eρ,f5⟩:=zz
    subst eρ
    have hm:c∈zv f m:=by rw[ec];simp
    have pp:=zmP (f:=f) (pre:=pre) (post:=c::post)
    rw[<-ec] at pp
    have:f.length*(zv f m).length<=9*512:=Nat.mul_le_mul h9 few
    have mo:=zmN (l:=l) (s:=s) (n+3) (by omega:f.length<=24) (c:=c) (by rw[len c hm];omega) (w:=yD f pre) (by omega) (s3:=some (.val (yE (zv f m)))) (s4:=some (.val (.int (m:Int)))) (s6:=s6')
    exact⟨_,_,mo,.inl rfl,_,by rw[zmO],yH⟩
  refine⟨.nx,yY f l s (some (.val (yE (zv f (m+1))))) (some (.val (.int (m:Int)))) s5'' s6' (some (.val (yE (zv f (m+1))))),?_,.inr ⟨g1,rfl,s5'',s6',_,rfl,g5'',g6,yH⟩⟩
  rw[zv]
  generalize zv f m=Q at*
  simp -implicitDefEqProofs only[XR,yY]
  simp -implicitDefEqProofs [h5,h7,vn]
  rw[fz]
  simp -implicitDefEqProofs only[Option.bind_some]
  rw[e]
  simp -implicitDefEqProofs [yY,h7,g5,vn]
  rw[show D.lst []=yE (yD f []) from rfl,show yW (yE Q)=some (Q.map fD) from rfl]
  simp -implicitDefEqProofs only[Option.map_some,Option.bind_some]
  rw[<-yY,e2]
  simp -implicitDefEqProofs [yY]
 ·refine⟨.rt (.obj true (lD d)),ρ',?_,.inl ⟨d,g1,rfl⟩⟩
  generalize zv f m=Q at*
  simp -implicitDefEqProofs only[XR,yY]
  simp -implicitDefEqProofs [h5,h7,vn]
  rw[fz]
  simp -implicitDefEqProofs only[Option.bind_some]
  rw[e]
  simp -implicitDefEqProofs
theorem zmR(n:Nat)(hf:OkF f)(h9:f.length<=9){s:Nat}:zG U zi (n+4) 72 [fD f,cD l,.int (s:Int)]=some (qX f l s):=by
 have hl':=yI
 obtain⟨fl,ρ',e,hq⟩:=zk1 (i:=4) (body:=zr (zq U zi (n+3)) zi XR) (a:=0) (m:=f.length)
  (fun m ρ=>∃s3 s4 s5 s6 s7,ρ=yY f l s (some s3) s4 s5 s6 s7/\(s3= .val (yE (zv f m))\/s3= .obj true (yE (zv f m)))/\(xH f m).find? (yG f l s)=none/\zE (some s4)=true/\zE (some s5)=true/\zE (some s6)=true/\zE (some s7)=true)
  (fun r=>∃c,(xH f f.length).find? (yG f l s)=some c/\r= .obj true (lD c))
  (ρ:=yY f l s (some (.obj true (yE [[]]))) none none none none) ⟨_,_,_,_,_,rfl,.inr rfl,rfl,rfl,rfl,rfl,rfl⟩
  fun m ρ hm zz=>by
   obtain⟨s3,s4,s5,s6,s7,eρ,q3,q,g4,g5,g6,g7⟩:=zz
   subst eρ
   obtain⟨fl,ρ',e,hq⟩:=zmQ (l:=l) (s:=s) n hf h9 hm q3 g5 g6 g7
   refine⟨fl,ρ',?_,?_⟩
   ·rw[Int.zero_add];exact e
   ·rcases hq with ⟨d,g1,rfl⟩|⟨g1,rfl,s5,s6,s7,rfl,r5,r6,r7⟩
    ·refine .inr ⟨_,rfl,d,Vc (k:=m+1) (by omega) ?_,rfl⟩
     rw[ZP,List.find?_append,q,g1];rfl
    ·refine .inl ⟨.inl rfl,_,_,_,_,_,rfl,.inl rfl,?_,yH,r5,r6,r7⟩
     rw[ZP,List.find?_append,q,g1];rfl
 have it:yl true [.val (.int (f.length:Int))]=some ((List.range f.length).map fun (k:Nat)=>D.int (0+(k:Int))):=by
  have:=JJ (a:=(f.length:Int)) (ZK (by omega) (by omega))
  rwa [Int.toNat_natCast] at this
 simp only[Int.zero_add] at e
 rw[yt zlo rfl]
 unfold qX
 rcases hq with ⟨rfl,s3,s4,s5,s6,s7,rfl,_,hno,_⟩|⟨r,rfl,c,hc,rfl⟩
 ·rw[hno]
  simp -implicitDefEqProofs only[ZJ]
  simp -implicitDefEqProofs [vo,it,jb]
  rw[show D.lst [D.tup []]=yE [[]] from rfl,<-yY,e]
  simp -implicitDefEqProofs
 ·rw[hc]
  simp -implicitDefEqProofs only[ZJ]
  simp -implicitDefEqProofs [vo,it,jb]
  rw[show D.lst [D.tup []]=yE [[]] from rfl,<-yY,e]
  simp -implicitDefEqProofs
end
theorem zmS(n:Nat)(ns:List Int):zG U zi (n+32) 73 [sD ns]=some (.val (.bl true)):=by
 have hl':=yI
 obtain⟨mo,hm1,hm2,hm3⟩: ∃mo:Int,1<=mo/\mo<=9/\zh .idx [.lst [.int 9,.int 7],.int (xq ns 1%2)]=some (.val (.int mo)):=by
  have h1:=Int.emod_nonneg (xq ns 1) (show (2:Int)≠0 by decide)
  have h2:=Int.emod_lt_of_pos (xq ns 1) (show (0:Int)<2 by decide)
  have:xq ns 1%2=0\/xq ns 1%2=1:=by omega
  rcases this with h|h<;>rw[h]
  ·exact⟨9,by decide,by decide,rfl⟩
  ·exact⟨7,by decide,by decide,rfl⟩
 obtain⟨f,hf,h9,e1⟩:=zlJ (n+29) ns (at_:=2) (most:=mo) (by decide) hm1 (by omega)
 obtain⟨l,hl,e2⟩:=zlL (n+30) (xq ns 0)
 have hlen:=hf.len
 have nd:=OkF.nodup hf.rise
 have f9:f.length<=9:=by omega
 have c0:=ZL (n+30) ns (k:=0) (by decide)
 have c1:=ZL (n+30) ns (k:=1) (by decide)
 obtain⟨s,hs,es⟩: ∃s:Nat,s<=1/\xq ns 1/2%2=(s:Int):=by
  have h1:=Int.emod_nonneg (xq ns 1/2) (show (2:Int)≠0 by decide)
  have h2:=Int.emod_lt_of_pos (xq ns 1/2) (show (0:Int)<2 by decide)
  exact⟨(xq ns 1/2%2).toNat,by omega,by omega⟩
 have m2:zh .mod [.int (xq ns 1),.int 2]=some (.val (.int (xq ns 1%2))):=ZD (by decide)
 have d2:zh .fdiv [.int (xq ns 1),.int 2]=some (.val (.int (xq ns 1/2))):=zkW (by decide)
 have m3:zh .mod [.int (xq ns 1/2),.int 2]=some (.val (.int (s:Int))):=by rw[<-es];exact ZD (by decide)
 have k1:=zmz (n+24) hf hl f9 hs
 have k2:=zmR (l:=l) (s:=s) (n+27) hf f9
 have wf:=zmr (n+26) hf hl (by omega)
 have rf:=zmA (n+26) hf hl (by omega)
 rw[yt zlp rfl]
 simp -implicitDefEqProofs only[XS]
 unfold qW at k1
 unfold qX at k2
 cases hq:(xH f ((f.length+1)/2)).find? (yG f l s) with
 |none=>
  rw[hq] at k1
  rw[zdv nd f.length hq] at k2
  have nn:zh .ne [.non,.non]=some (.val (.bl false)):=rfl
  simp -implicitDefEqProofs [e1,e2,c0,c1,m2,hm3,d2,m3,k1,k2,nn]
 |some c=>
  have hq2:=Vc (m:=f.length) (by have:=hf.ne;cases f<;>simp_all<;>omega) hq
  rw[hq] at k1
  rw[hq2] at k2
  have hb:=List.find?_some hq
  have hmem:=List.mem_of_find?_eq_some hq
  unfold xH at hmem
  obtain⟨k,_,hk⟩:=List.mem_flatMap.mp hmem
  have nn:zh .ne [lD c,lD c]=some (.val (.bl false)):=by rw[zlO];simp
  unfold yG at hb
  rw[Bool.and_eq_true,decide_eq_true_iff,decide_eq_true_iff] at hb
  have hz:s=1\/s=0:=by omega
  have k1:zG U zi (n+31) 71 [fD f,cD l,.int (s:Int)]=some (.val (lD c)):=k1
  have k2:zG U zi (n+31) 72 [fD f,cD l,.int (s:Int)]=some (.obj true (lD c)):=k2
  rcases hz with rfl|rfl
  ·rcases wf with ⟨w,hw,ew⟩|⟨hw,ew⟩
   ·have:=zdm nd hw c
    omega
   ·simp only[show ((1:Nat):Int)=1 from rfl] at k1 k2 m3
    simp -implicitDefEqProofs [e1,e2,c0,c1,m2,hm3,d2,m3,k1,k2,nn,zdn,ew]
  ·rcases rf with ⟨hr,r,er⟩|⟨hr,er⟩
   ·obtain⟨h3,w,hw⟩:=hr
    have b1:=zdm nd hw.toHW c
    cases hc:c with
    |nil=>rw[hc] at b1 hb;simp at b1 hb;omega
    |cons a r=>
     have:=zmu nd hw (c:=c) ⟨a,by rw[hc];exact List.mem_cons_self,(vN hk).2 a (by rw[hc];exact List.mem_cons_self)⟩ (fun x=>mem_rest) (zdl (nd.sublist List.filter_sublist))
     omega
   ·simp only[show ((0:Nat):Int)=0 from rfl] at k1 k2 m3
    simp -implicitDefEqProofs [e1,e2,c0,c1,m2,hm3,d2,m3,k1,k2,nn,zdn,er]
theorem zmT(ns:List Int)(_:ns.length<=63):zG U zi depth 73 [.lst (ns.map D.int)]=some (.val (.bl true)):=zmS 8 ns
end LK
set_option maxHeartbeats 4000000
namespace LK
open PySem PySem.Spec PyProof.Rows L2 L2.LW
noncomputable def za(i:Nat):Stmt:=PySem.Challenge.pw_leaperwalk_k10_cuts.main.body.getD i (.Pass ⟨0,0,0,0⟩)
noncomputable def zp:Nat->List Str
 |0=>["thing","least","most"]
 |1=>["thing"]
 |2=>["thing"]
 |3=>["thing"]
 |4=>["cells"]
 |5=>["thing"]
 |6=>["floor"]
 |7=>["leap"]
 |9=>["down","right"]
 |10=>["leap","one","other"]
 |11=>["floor","leap","cell"]
 |13=>["_law_script","_law_k"]
 |14=>["_law_cell_here","_law_prime","_law_many"]
 |15=>["_law_script","_law_at","_law_most"]
 |16=>["_law_cell_here"]
 |17=>["_law_leap_here","_law_one","_law_other"]
 |18=>["_law_floor_here","_law_leap_here","_law_cell_here"]
 |20=>["floor","leap","goal"]
 |30=>["cells","leap"]
 |32=>["_law_floor_here","_law_leap_here"]
 |61=>["floor","most"]
 |62=>["floor","leap","cell"]
 |63=>["count","starts"]
 |64=>["near","layer"]
 |65=>["near","starts"]
 |66=>["floor","near","starts","ends"]
 |67=>["floor","leap"]
 |68=>["floor","leap"]
 |69=>["floor","leap","spare","cut"]
 |70=>["floor","cuts"]
 |71=>["floor","leap","spare"]
 |72=>["_law_floor_here","_law_leap_here","_law_spare"]
 |73=>["_law_script"]
 |_=>[]
noncomputable def yo:Nat->List Nat
 |_=>[]
structure Txt (K:PySem.W.Frag)(mg:Str->Option Value)(F:Nat->Addr)(FD:Nat->FuncData)(TK:Nat->Tok):Prop where
 m0:mg "is_whole"=some (.ref (F 0))
 f0:Fun K "is_whole" "is_whole" (za 10) (F 0) (FD 0)
 b0:Binds K (FD 0) (zp 0) []
 m1:mg "is_couple"=some (.ref (F 1))
 f1:Fun K "is_couple" "is_couple" (za 11) (F 1) (FD 1)
 b1:Binds K (FD 1) (zp 1) []
 m2:mg "is_cell"=some (.ref (F 2))
 f2:Fun K "is_cell" "is_cell" (za 12) (F 2) (FD 2)
 b2:Binds K (FD 2) (zp 2) []
 m3:mg "is_leap"=some (.ref (F 3))
 f3:Fun K "is_leap" "is_leap" (za 13) (F 3) (FD 3)
 b3:Binds K (FD 3) (zp 3) []
 m4:mg "is_rising"=some (.ref (F 4))
 f4:Fun K "is_rising" "is_rising" (za 14) (F 4) (FD 4)
 b4:Binds K (FD 4) (zp 4) []
 m5:mg "is_floor"=some (.ref (F 5))
 f5:Fun K "is_floor" "is_floor" (za 15) (F 5) (FD 5)
 b5:Binds K (FD 5) (zp 5) []
 m6:mg "checked"=some (.ref (F 6))
 f6:Fun K "checked" "checked" (za 16) (F 6) (FD 6)
 b6:Binds K (FD 6) (zp 6) []
 m7:mg "checked_leap"=some (.ref (F 7))
 f7:Fun K "checked_leap" "checked_leap" (za 17) (F 7) (FD 7)
 b7:Binds K (FD 7) (zp 7) []
 m9:mg "folded"=some (.ref (F 9))
 f9:Fun K "folded" "folded" (za 19) (F 9) (FD 9)
 b9:Binds K (FD 9) (zp 9) []
 m10:mg "are_near"=some (.ref (F 10))
 f10:Fun K "are_near" "are_near" (za 20) (F 10) (FD 10)
 b10:Binds K (FD 10) (zp 10) []
 m11:mg "cells_near"=some (.ref (F 11))
 f11:Fun K "cells_near" "cells_near" (za 21) (F 11) (FD 11)
 b11:Binds K (FD 11) (zp 11) []
 m13:mg "_law_cell"=some (.ref (F 13))
 f13:Fun K "_law_cell" "_law_cell" (za 39) (F 13) (FD 13)
 b13:Binds K (FD 13) (zp 13) []
 m14:mg "_law_mix"=some (.ref (F 14))
 f14:Fun K "_law_mix" "_law_mix" (za 40) (F 14) (FD 14)
 b14:Binds K (FD 14) (zp 14) []
 m15:mg "_law_floor"=some (.ref (F 15))
 f15:Fun K "_law_floor" "_law_floor" (za 41) (F 15) (FD 15)
 b15:Binds K (FD 15) (zp 15) []
 m16:mg "_law_leap"=some (.ref (F 16))
 f16:Fun K "_law_leap" "_law_leap" (za 42) (F 16) (FD 16)
 b16:Binds K (FD 16) (zp 16) []
 m17:mg "_law_is_near"=some (.ref (F 17))
 f17:Fun K "_law_is_near" "_law_is_near" (za 43) (F 17) (FD 17)
 b17:Binds K (FD 17) (zp 17) []
 m18:mg "_law_near"=some (.ref (F 18))
 f18:Fun K "_law_near" "_law_near" (za 44) (F 18) (FD 18)
 b18:Binds K (FD 18) (zp 18) []
 m20:mg "leads_to"=some (.ref (F 20))
 f20:Fun K "leads_to" "leads_to" (za 22) (F 20) (FD 20)
 b20:Binds K (FD 20) (zp 20) []
 m30:mg "parts_within"=some (.ref (F 30))
 f30:Fun K "parts_within" "parts_within" (za 23) (F 30) (FD 30)
 b30:Binds K (FD 30) (zp 30) []
 m32:mg "_law_parts"=some (.ref (F 32))
 f32:Fun K "_law_parts" "_law_parts" (za 45) (F 32) (FD 32)
 b32:Binds K (FD 32) (zp 32) []
 m61:mg "refuse_big"=some (.ref (F 61))
 f61:Fun K "refuse_big" "refuse_big" (za 27) (F 61) (FD 61)
 b61:Binds K (FD 61) (zp 61) []
 m62:mg "bits_near"=some (.ref (F 62))
 f62:Fun K "bits_near" "bits_near" (za 28) (F 62) (FD 62)
 b62:Binds K (FD 62) (zp 62) []
 m63:mg "one_cell_walks"=some (.ref (F 63))
 f63:Fun K "one_cell_walks" "one_cell_walks" (za 29) (F 63) (FD 63)
 b63:Binds K (FD 63) (zp 63) []
 m64:mg "one_cell_longer"=some (.ref (F 64))
 f64:Fun K "one_cell_longer" "one_cell_longer" (za 30) (F 64) (FD 64)
 b64:Binds K (FD 64) (zp 64) []
 m65:mg "layers_from"=some (.ref (F 65))
 f65:Fun K "layers_from" "layers_from" (za 31) (F 65) (FD 65)
 b65:Binds K (FD 65) (zp 65) []
 m66:mg "walk_between"=some (.ref (F 66))
 f66:Fun K "walk_between" "walk_between" (za 32) (F 66) (FD 66)
 b66:Binds K (FD 66) (zp 66) []
 m67:mg "walk"=some (.ref (F 67))
 f67:Fun K "walk" "walk" (za 33) (F 67) (FD 67)
 b67:Binds K (FD 67) (zp 67) []
 m68:mg "ring_walk"=some (.ref (F 68))
 f68:Fun K "ring_walk" "ring_walk" (za 34) (F 68) (FD 68)
 b68:Binds K (FD 68) (zp 68) []
 m69:mg "leaves_too_many"=some (.ref (F 69))
 f69:Fun K "leaves_too_many" "leaves_too_many" (za 35) (F 69) (FD 69)
 b69:Binds K (FD 69) (zp 69) []
 m70:mg "one_cell_more"=some (.ref (F 70))
 f70:Fun K "one_cell_more" "one_cell_more" (za 36) (F 70) (FD 70)
 b70:Binds K (FD 70) (zp 70) []
 m71:mg "cut_of"=some (.ref (F 71))
 f71:Fun K "cut_of" "cut_of" (za 37) (F 71) (FD 71)
 b71:Binds K (FD 71) (zp 71) []
 m72:mg "_law_cut"=some (.ref (F 72))
 f72:Fun K "_law_cut" "_law_cut" (za 46) (F 72) (FD 72)
 b72:Binds K (FD 72) (zp 72) []
 m73:mg "law"=some (.ref (F 73))
 f73:Fun K "law" "law" (za 47) (F 73) (FD 73)
 b73:Binds K (FD 73) (zp 73) []
 z_isinstance:mg "isinstance"=none
 z_int:mg "int"=none
 z_bool:mg "bool"=none
 z_len:mg "len"=none
 z_tuple:mg "tuple"=none
 z_range:mg "range"=none
 z_all:mg "all"=none
 z_abs:mg "abs"=none
 z_max:mg "max"=none
 z_min:mg "min"=none
 z_sorted:mg "sorted"=none
 z_enumerate:mg "enumerate"=none
 z_sum:mg "sum"=none
 z_reversed:mg "reversed"=none
 z_list:mg "list"=none
 c0:mg "LAST_LINE"=some (.int 7 (TK 0))
 c1:mg "MOST_CELLS"=some (.int 24 (TK 1))
 c2:mg "LONGEST_LEAP"=some (.int 4 (TK 2))
 c3:mg "MOST_TO_WALK"=some (.int 16 (TK 3))
 c4:mg "MOST_TO_CUT"=some (.int 9 (TK 4))
theorem zmU:(("least":Str)==("__debug__":Str))=false:=by decide+kernel
theorem zmV:(("least":Str)==("__classdict__":Str))=false:=by decide+kernel
theorem xY:(("thing":Str)==("__debug__":Str))=false:=by decide+kernel
theorem xZ:(("thing":Str)==("__classdict__":Str))=false:=by decide+kernel
theorem zdw:(("most":Str)==("__debug__":Str))=false:=by decide+kernel
theorem zdx:(("most":Str)==("__classdict__":Str))=false:=by decide+kernel
theorem zmW:(("int":Str)==("__debug__":Str))=false:=by decide+kernel
theorem zmX:("int":Str)≠"__name__":=by decide+kernel
theorem zmY:(("bool":Str)==("__debug__":Str))=false:=by decide+kernel
theorem zmZ:("bool":Str)≠"__name__":=by decide+kernel
theorem xt:(("len":Str)==("__debug__":Str))=false:=by decide+kernel
theorem xu:("len":Str)≠"__name__":=by decide+kernel
theorem qY:(("tuple":Str)==("__debug__":Str))=false:=by decide+kernel
theorem qZ:("tuple":Str)≠"__name__":=by decide+kernel
theorem zdy:(("LAST_LINE":Str)==("__debug__":Str))=false:=by decide+kernel
theorem Vd:(("is_whole":Str)==("__debug__":Str))=false:=by decide+kernel
theorem zdz:(("is_couple":Str)==("__debug__":Str))=false:=by decide+kernel
theorem zm0:(("LONGEST_LEAP":Str)==("__debug__":Str))=false:=by decide+kernel
theorem jN:(("cells":Str)==("__debug__":Str))=false:=by decide+kernel
theorem jO:(("cells":Str)==("__classdict__":Str))=false:=by decide+kernel
theorem wZ:(("place":Str)==("__debug__":Str))=false:=by decide+kernel
theorem vc:(("place":Str)==("__classdict__":Str))=false:=by decide+kernel
theorem zdA:(("all":Str)==("__debug__":Str))=false:=by decide+kernel
theorem zdB:("all":Str)≠"__name__":=by decide+kernel
theorem zm1:(("is_rising":Str)==("__debug__":Str))=false:=by decide+kernel
theorem zm2:(("part":Str)==("__debug__":Str))=false:=by decide+kernel
theorem zm3:(("part":Str)==("__classdict__":Str))=false:=by decide+kernel
theorem zm4:(("is_cell":Str)==("__debug__":Str))=false:=by decide+kernel
theorem zm5:(("MOST_CELLS":Str)==("__debug__":Str))=false:=by decide+kernel
theorem yJ:(("floor":Str)==("__debug__":Str))=false:=by decide+kernel
theorem yK:(("floor":Str)==("__classdict__":Str))=false:=by decide+kernel
theorem zm6:(("is_floor":Str)==("__debug__":Str))=false:=by decide+kernel
theorem wp:(("leap":Str)==("__debug__":Str))=false:=by decide+kernel
theorem wq:(("leap":Str)==("__classdict__":Str))=false:=by decide+kernel
theorem zm7:(("is_leap":Str)==("__debug__":Str))=false:=by decide+kernel
theorem zdC:(("right":Str)==("__debug__":Str))=false:=by decide+kernel
theorem zdD:(("right":Str)==("__classdict__":Str))=false:=by decide+kernel
theorem ZQ:(("abs":Str)==("__debug__":Str))=false:=by decide+kernel
theorem ZR:("abs":Str)≠"__name__":=by decide+kernel
theorem zdE:(("down":Str)==("__debug__":Str))=false:=by decide+kernel
theorem zdF:(("down":Str)==("__classdict__":Str))=false:=by decide+kernel
theorem zdG:(("max":Str)==("__debug__":Str))=false:=by decide+kernel
theorem zdH:("max":Str)≠"__name__":=by decide+kernel
theorem zm8:(("min":Str)==("__debug__":Str))=false:=by decide+kernel
theorem zm9:("min":Str)≠"__name__":=by decide+kernel
theorem jf:(("other":Str)==("__debug__":Str))=false:=by decide+kernel
theorem jg:(("other":Str)==("__classdict__":Str))=false:=by decide+kernel
theorem zdI:(("one":Str)==("__debug__":Str))=false:=by decide+kernel
theorem zdJ:(("one":Str)==("__classdict__":Str))=false:=by decide+kernel
theorem zna:(("folded":Str)==("__debug__":Str))=false:=by decide+kernel
theorem wJ:(("cell":Str)==("__debug__":Str))=false:=by decide+kernel
theorem wK:(("cell":Str)==("__classdict__":Str))=false:=by decide+kernel
theorem zdK:(("are_near":Str)==("__debug__":Str))=false:=by decide+kernel
theorem Ve:(("leads":Str)==("__debug__":Str))=false:=by decide+kernel
theorem Vf:(("leads":Str)==("__classdict__":Str))=false:=by decide+kernel
theorem zdL:(("edge":Str)==("__debug__":Str))=false:=by decide+kernel
theorem zdM:(("edge":Str)==("__classdict__":Str))=false:=by decide+kernel
theorem zdN:(("further":Str)==("__debug__":Str))=false:=by decide+kernel
theorem zdO:(("further":Str)==("__classdict__":Str))=false:=by decide+kernel
theorem znb:(("cells_near":Str)==("__debug__":Str))=false:=by decide+kernel
theorem zdP:(("goal":Str)==("__debug__":Str))=false:=by decide+kernel
theorem zdQ:(("goal":Str)==("__classdict__":Str))=false:=by decide+kernel
theorem JS:(("parts":Str)==("__debug__":Str))=false:=by decide+kernel
theorem JT:(("parts":Str)==("__classdict__":Str))=false:=by decide+kernel
theorem zdR:(("placed":Str)==("__debug__":Str))=false:=by decide+kernel
theorem zdS:(("placed":Str)==("__classdict__":Str))=false:=by decide+kernel
theorem znc:(("leads_to":Str)==("__debug__":Str))=false:=by decide+kernel
theorem znd:(("sum":Str)==("__debug__":Str))=false:=by decide+kernel
theorem zne:("sum":Str)≠"__name__":=by decide+kernel
theorem Vg:(("layer":Str)==("__debug__":Str))=false:=by decide+kernel
theorem Vh:(("layer":Str)==("__classdict__":Str))=false:=by decide+kernel
theorem znf:(("count":Str)==("__debug__":Str))=false:=by decide+kernel
theorem zng:(("count":Str)==("__classdict__":Str))=false:=by decide+kernel
theorem ga:(("starts":Str)==("__debug__":Str))=false:=by decide+kernel
theorem gb:(("starts":Str)==("__classdict__":Str))=false:=by decide+kernel
theorem gc:(("longer":Str)==("__debug__":Str))=false:=by decide+kernel
theorem gd:(("longer":Str)==("__classdict__":Str))=false:=by decide+kernel
theorem vx:(("near":Str)==("__debug__":Str))=false:=by decide+kernel
theorem vy:(("near":Str)==("__classdict__":Str))=false:=by decide+kernel
theorem jP:(("visited":Str)==("__debug__":Str))=false:=by decide+kernel
theorem jQ:(("visited":Str)==("__classdict__":Str))=false:=by decide+kernel
theorem JU:(("bit":Str)==("__debug__":Str))=false:=by decide+kernel
theorem JV:(("bit":Str)==("__classdict__":Str))=false:=by decide+kernel
theorem ZS:(("layers":Str)==("__debug__":Str))=false:=by decide+kernel
theorem ZT:(("layers":Str)==("__classdict__":Str))=false:=by decide+kernel
theorem znh:(("one_cell_longer":Str)==("__debug__":Str))=false:=by decide+kernel
theorem zni:(("one_cell_walks":Str)==("__debug__":Str))=false:=by decide+kernel
theorem zdT:(("ends":Str)==("__debug__":Str))=false:=by decide+kernel
theorem zdU:(("ends":Str)==("__classdict__":Str))=false:=by decide+kernel
theorem znj:(("layers_from":Str)==("__debug__":Str))=false:=by decide+kernel
theorem zdV:(("anywhere":Str)==("__debug__":Str))=false:=by decide+kernel
theorem zdW:(("anywhere":Str)==("__classdict__":Str))=false:=by decide+kernel
theorem zdX:(("walk_between":Str)==("__debug__":Str))=false:=by decide+kernel
theorem zdY:(("bits_near":Str)==("__debug__":Str))=false:=by decide+kernel
theorem zdZ:(("MOST_TO_WALK":Str)==("__debug__":Str))=false:=by decide+kernel
theorem gf:(("refuse_big":Str)==("__debug__":Str))=false:=by decide+kernel
theorem gg:(("checked_leap":Str)==("__debug__":Str))=false:=by decide+kernel
theorem gh:(("checked":Str)==("__debug__":Str))=false:=by decide+kernel
theorem jR:(("cut":Str)==("__debug__":Str))=false:=by decide+kernel
theorem jS:(("cut":Str)==("__classdict__":Str))=false:=by decide+kernel
theorem gk:(("spare":Str)==("__debug__":Str))=false:=by decide+kernel
theorem gp:(("spare":Str)==("__classdict__":Str))=false:=by decide+kernel
theorem znk:(("rest":Str)==("__debug__":Str))=false:=by decide+kernel
theorem znl:(("rest":Str)==("__classdict__":Str))=false:=by decide+kernel
theorem znm:(("parts_within":Str)==("__debug__":Str))=false:=by decide+kernel
theorem zd0:(("wider":Str)==("__debug__":Str))=false:=by decide+kernel
theorem zd1:(("wider":Str)==("__classdict__":Str))=false:=by decide+kernel
theorem JW:(("cuts":Str)==("__debug__":Str))=false:=by decide+kernel
theorem JX:(("cuts":Str)==("__classdict__":Str))=false:=by decide+kernel
theorem znn:(("one_cell_more":Str)==("__debug__":Str))=false:=by decide+kernel
theorem zno:(("leaves_too_many":Str)==("__debug__":Str))=false:=by decide+kernel
theorem znp:(("MOST_TO_CUT":Str)==("__debug__":Str))=false:=by decide+kernel
theorem zd2:(("_law_k":Str)==("__debug__":Str))=false:=by decide+kernel
theorem zd3:(("_law_k":Str)==("__classdict__":Str))=false:=by decide+kernel
theorem vz:(("_law_script":Str)==("__debug__":Str))=false:=by decide+kernel
theorem vA:(("_law_script":Str)==("__classdict__":Str))=false:=by decide+kernel
theorem wL:(("_law_cell_here":Str)==("__debug__":Str))=false:=by decide+kernel
theorem wM:(("_law_cell_here":Str)==("__classdict__":Str))=false:=by decide+kernel
theorem znq:(("_law_prime":Str)==("__debug__":Str))=false:=by decide+kernel
theorem znr:(("_law_prime":Str)==("__classdict__":Str))=false:=by decide+kernel
theorem zd4:(("_law_many":Str)==("__debug__":Str))=false:=by decide+kernel
theorem zd5:(("_law_many":Str)==("__classdict__":Str))=false:=by decide+kernel
theorem vO:(("_law_found":Str)==("__debug__":Str))=false:=by decide+kernel
theorem vP:(("_law_found":Str)==("__classdict__":Str))=false:=by decide+kernel
theorem zns:(("_law_most":Str)==("__debug__":Str))=false:=by decide+kernel
theorem znt:(("_law_most":Str)==("__classdict__":Str))=false:=by decide+kernel
theorem zd6:(("_law_right":Str)==("__debug__":Str))=false:=by decide+kernel
theorem zd7:(("_law_right":Str)==("__classdict__":Str))=false:=by decide+kernel
theorem zd8:(("_law_down":Str)==("__debug__":Str))=false:=by decide+kernel
theorem zd9:(("_law_down":Str)==("__classdict__":Str))=false:=by decide+kernel
theorem JY:(("_law_rows":Str)==("__debug__":Str))=false:=by decide+kernel
theorem JZ:(("_law_rows":Str)==("__classdict__":Str))=false:=by decide+kernel
theorem zea:(("_law_wide":Str)==("__debug__":Str))=false:=by decide+kernel
theorem zeb:(("_law_wide":Str)==("__classdict__":Str))=false:=by decide+kernel
theorem zec:(("_law_way":Str)==("__debug__":Str))=false:=by decide+kernel
theorem zed:(("_law_way":Str)==("__classdict__":Str))=false:=by decide+kernel
theorem znu:(("_law_seed":Str)==("__debug__":Str))=false:=by decide+kernel
theorem znv:(("_law_seed":Str)==("__classdict__":Str))=false:=by decide+kernel
theorem ZU:(("_law_mix":Str)==("__debug__":Str))=false:=by decide+kernel
theorem Qa:(("_law_c":Str)==("__debug__":Str))=false:=by decide+kernel
theorem Qb:(("_law_c":Str)==("__classdict__":Str))=false:=by decide+kernel
theorem Qc:(("_law_r":Str)==("__debug__":Str))=false:=by decide+kernel
theorem Qd:(("_law_r":Str)==("__classdict__":Str))=false:=by decide+kernel
theorem jT:(("_law_at":Str)==("__debug__":Str))=false:=by decide+kernel
theorem jU:(("_law_at":Str)==("__classdict__":Str))=false:=by decide+kernel
theorem jV:(("_law_cell":Str)==("__debug__":Str))=false:=by decide+kernel
theorem znw:(("_law_some":Str)==("__debug__":Str))=false:=by decide+kernel
theorem znx:(("_law_some":Str)==("__classdict__":Str))=false:=by decide+kernel
theorem zee:(("_law_one":Str)==("__debug__":Str))=false:=by decide+kernel
theorem zef:(("_law_one":Str)==("__classdict__":Str))=false:=by decide+kernel
theorem ZV:(("_law_other":Str)==("__debug__":Str))=false:=by decide+kernel
theorem ZW:(("_law_other":Str)==("__classdict__":Str))=false:=by decide+kernel
theorem zeg:(("sorted":Str)==("__debug__":Str))=false:=by decide+kernel
theorem zeh:("sorted":Str)≠"__name__":=by decide+kernel
theorem jh:(("_law_leap_here":Str)==("__debug__":Str))=false:=by decide+kernel
theorem ji:(("_law_leap_here":Str)==("__classdict__":Str))=false:=by decide+kernel
theorem Qf:(("list":Str)==("__debug__":Str))=false:=by decide+kernel
theorem Qg:("list":Str)≠"__name__":=by decide+kernel
theorem vB:(("_law_floor_here":Str)==("__debug__":Str))=false:=by decide+kernel
theorem vC:(("_law_floor_here":Str)==("__classdict__":Str))=false:=by decide+kernel
theorem zny:(("_law_is_near":Str)==("__debug__":Str))=false:=by decide+kernel
theorem Qh:(("_law_left":Str)==("__debug__":Str))=false:=by decide+kernel
theorem Qi:(("_law_left":Str)==("__classdict__":Str))=false:=by decide+kernel
theorem ZX:(("_law_part":Str)==("__debug__":Str))=false:=by decide+kernel
theorem ZY:(("_law_part":Str)==("__classdict__":Str))=false:=by decide+kernel
theorem znz:(("_law_near":Str)==("__debug__":Str))=false:=by decide+kernel
theorem zei:(("_law_more":Str)==("__debug__":Str))=false:=by decide+kernel
theorem zej:(("_law_more":Str)==("__classdict__":Str))=false:=by decide+kernel
theorem Vi:(("_law_cells":Str)==("__debug__":Str))=false:=by decide+kernel
theorem Vj:(("_law_cells":Str)==("__classdict__":Str))=false:=by decide+kernel
theorem znA:(("_law_parts":Str)==("__debug__":Str))=false:=by decide+kernel
theorem Qj:(("_law_spare":Str)==("__debug__":Str))=false:=by decide+kernel
theorem Qk:(("_law_spare":Str)==("__classdict__":Str))=false:=by decide+kernel
theorem znB:(("walk":Str)==("__debug__":Str))=false:=by decide+kernel
theorem znC:(("ring_walk":Str)==("__debug__":Str))=false:=by decide+kernel
theorem znD:(("_law_cut":Str)==("__debug__":Str))=false:=by decide+kernel
theorem znE:(("cut_of":Str)==("__debug__":Str))=false:=by decide+kernel
theorem znF:(("_law_leap":Str)==("__debug__":Str))=false:=by decide+kernel
theorem znG:(("_law_floor":Str)==("__debug__":Str))=false:=by decide+kernel
theorem znH:FnScope ["thing","least","most"] ["thing","least","most"] (zb (za 10)):=⟨rfl,rfl,rfl,by decide+kernel,rfl,by decide+kernel,by decide+kernel⟩
theorem znI:zn (zb (za 10)) "least":=.inl (by decide+kernel)
theorem gr:zn (zb (za 10)) "thing":=.inl (by decide+kernel)
theorem znJ:zn (zb (za 10)) "most":=.inl (by decide+kernel)
theorem zek:(zb (za 10)).names.lookup ("isinstance":Str)=some .globalImplicit:=by decide+kernel
theorem znK:(zb (za 10)).names.lookup ("int":Str)=some .globalImplicit:=by decide+kernel
theorem znL:(zb (za 10)).names.lookup ("bool":Str)=some .globalImplicit:=by decide+kernel
theorem znM:FnScope ["thing"] ["thing"] (zb (za 11)):=⟨rfl,rfl,rfl,by decide+kernel,rfl,by decide+kernel,by decide+kernel⟩
theorem zel:zn (zb (za 11)) "thing":=.inl (by decide+kernel)
theorem znN:(zb (za 11)).names.lookup ("len":Str)=some .globalImplicit:=by decide+kernel
theorem znO:(zb (za 11)).names.lookup ("isinstance":Str)=some .globalImplicit:=by decide+kernel
theorem znP:(zb (za 11)).names.lookup ("tuple":Str)=some .globalImplicit:=by decide+kernel
theorem znQ:FnScope ["thing"] ["thing"] (zb (za 12)):=⟨rfl,rfl,rfl,by decide+kernel,rfl,by decide+kernel,by decide+kernel⟩
theorem gs:zn (zb (za 12)) "thing":=.inl (by decide+kernel)
theorem zem:(zb (za 12)).names.lookup ("LAST_LINE":Str)=some .globalImplicit:=by decide+kernel
theorem zen:(zb (za 12)).names.lookup ("is_whole":Str)=some .globalImplicit:=by decide+kernel
theorem znR:(zb (za 12)).names.lookup ("is_couple":Str)=some .globalImplicit:=by decide+kernel
theorem znS:FnScope ["thing"] ["thing"] (zb (za 13)):=⟨rfl,rfl,rfl,by decide+kernel,rfl,by decide+kernel,by decide+kernel⟩
theorem Ql:zn (zb (za 13)) "thing":=.inl (by decide+kernel)
theorem zeo:(zb (za 13)).names.lookup ("is_whole":Str)=some .globalImplicit:=by decide+kernel
theorem znT:(zb (za 13)).names.lookup ("LONGEST_LEAP":Str)=some .globalImplicit:=by decide+kernel
theorem znU:(zb (za 13)).names.lookup ("is_couple":Str)=some .globalImplicit:=by decide+kernel
theorem znV:FnScope ["cells"] ["cells"] (zb (za 14)):=⟨rfl,rfl,rfl,by decide+kernel,rfl,by decide+kernel,by decide+kernel⟩
theorem znW:zn (zb (za 14)) "cells":=.inr (.inl (by decide+kernel))
theorem znX:(zb (za 14)).names.lookup ("len":Str)=some .globalImplicit:=by decide+kernel
theorem znY:(zb (za 14)).names.lookup ("range":Str)=some .globalImplicit:=by decide+kernel
theorem znZ:(zb (za 14)).names.lookup ("all":Str)=some .globalImplicit:=by decide+kernel
theorem zn0:FnScope ["thing"] ["thing"] (zb (za 15)):=⟨rfl,rfl,rfl,by decide+kernel,rfl,by decide+kernel,by decide+kernel⟩
theorem Qm:zn (zb (za 15)) "thing":=.inl (by decide+kernel)
theorem zn1:(zb (za 15)).names.lookup ("is_rising":Str)=some .globalImplicit:=by decide+kernel
theorem zn2:(zb (za 15)).names.lookup ("all":Str)=some .globalImplicit:=by decide+kernel
theorem zn3:(zb (za 15)).names.lookup ("len":Str)=some .globalImplicit:=by decide+kernel
theorem zn4:(zb (za 15)).names.lookup ("MOST_CELLS":Str)=some .globalImplicit:=by decide+kernel
theorem zn5:(zb (za 15)).names.lookup ("isinstance":Str)=some .globalImplicit:=by decide+kernel
theorem zn6:(zb (za 15)).names.lookup ("tuple":Str)=some .globalImplicit:=by decide+kernel
theorem zn7:FnScope ["floor"] ["floor"] (zb (za 16)):=⟨rfl,rfl,rfl,by decide+kernel,rfl,by decide+kernel,by decide+kernel⟩
theorem zep:zn (zb (za 16)) "floor":=.inl (by decide+kernel)
theorem zn8:(zb (za 16)).names.lookup ("is_floor":Str)=some .globalImplicit:=by decide+kernel
theorem zn9:FnScope ["leap"] ["leap"] (zb (za 17)):=⟨rfl,rfl,rfl,by decide+kernel,rfl,by decide+kernel,by decide+kernel⟩
theorem zeq:zn (zb (za 17)) "leap":=.inl (by decide+kernel)
theorem zoa:(zb (za 17)).names.lookup ("is_leap":Str)=some .globalImplicit:=by decide+kernel
theorem zob:FnScope ["down","right"] ["down","right"] (zb (za 19)):=⟨rfl,rfl,rfl,by decide+kernel,rfl,by decide+kernel,by decide+kernel⟩
theorem zer:zn (zb (za 19)) "right":=.inl (by decide+kernel)
theorem zes:zn (zb (za 19)) "down":=.inl (by decide+kernel)
theorem Qn:(zb (za 19)).names.lookup ("abs":Str)=some .globalImplicit:=by decide+kernel
theorem zoc:(zb (za 19)).names.lookup ("max":Str)=some .globalImplicit:=by decide+kernel
theorem zod:(zb (za 19)).names.lookup ("min":Str)=some .globalImplicit:=by decide+kernel
theorem zoe:FnScope ["leap","one","other"] ["leap","one","other"] (zb (za 20)):=⟨rfl,rfl,rfl,by decide+kernel,rfl,by decide+kernel,by decide+kernel⟩
theorem zet:zn (zb (za 20)) "other":=.inl (by decide+kernel)
theorem zeu:zn (zb (za 20)) "one":=.inl (by decide+kernel)
theorem zof:zn (zb (za 20)) "leap":=.inl (by decide+kernel)
theorem zog:(zb (za 20)).names.lookup ("folded":Str)=some .globalImplicit:=by decide+kernel
theorem zoh:FnScope ["floor","leap","cell"] ["floor","leap","cell"] (zb (za 21)):=⟨rfl,rfl,rfl,by decide+kernel,rfl,by decide+kernel,by decide+kernel⟩
theorem zoi:zn (zb (za 21)) "floor":=.inl (by decide+kernel)
theorem zoj:FnScope ["_law_script","_law_k"] ["_law_script","_law_k"] (zb (za 39)):=⟨rfl,rfl,rfl,by decide+kernel,rfl,by decide+kernel,by decide+kernel⟩
theorem zev:zn (zb (za 39)) "_law_k":=.inl (by decide+kernel)
theorem zew:zn (zb (za 39)) "_law_script":=.inl (by decide+kernel)
theorem zok:(zb (za 39)).names.lookup ("len":Str)=some .globalImplicit:=by decide+kernel
theorem zol:FnScope ["_law_cell_here","_law_prime","_law_many"] ["_law_cell_here","_law_prime","_law_many"] (zb (za 40)):=⟨rfl,rfl,rfl,by decide+kernel,rfl,by decide+kernel,by decide+kernel⟩
theorem zom:zn (zb (za 40)) "_law_cell_here":=.inl (by decide+kernel)
theorem zon:zn (zb (za 40)) "_law_prime":=.inl (by decide+kernel)
theorem zoo:zn (zb (za 40)) "_law_many":=.inl (by decide+kernel)
theorem wN:FnScope ["_law_script","_law_at","_law_most","_law_cell_here","_law_rows","_law_wide","_law_down","_law_right","_law_way","_law_found","_law_r","_law_c","_law_seed"] ["_law_script","_law_at","_law_most"] (zb (za 41)):=⟨rfl,rfl,rfl,by decide+kernel,rfl,by decide+kernel,by decide+kernel⟩
theorem gu:zn (zb (za 41)) "_law_found":=.inl (by decide+kernel)
theorem zop:zn (zb (za 41)) "_law_most":=.inl (by decide+kernel)
theorem zex:zn (zb (za 41)) "_law_right":=.inl (by decide+kernel)
theorem zey:zn (zb (za 41)) "_law_down":=.inl (by decide+kernel)
theorem zez:zn (zb (za 41)) "_law_rows":=.inl (by decide+kernel)
theorem zeA:zn (zb (za 41)) "_law_wide":=.inl (by decide+kernel)
theorem zeB:zn (zb (za 41)) "_law_way":=.inl (by decide+kernel)
theorem zoq:zn (zb (za 41)) "_law_seed":=.inl (by decide+kernel)
theorem Qo:zn (zb (za 41)) "_law_c":=.inl (by decide+kernel)
theorem Qp:zn (zb (za 41)) "_law_r":=.inl (by decide+kernel)
theorem Qq:zn (zb (za 41)) "_law_at":=.inl (by decide+kernel)
theorem Qr:zn (zb (za 41)) "_law_script":=.inl (by decide+kernel)
theorem gv:zn (zb (za 41)) "_law_cell_here":=.inl (by decide+kernel)
theorem zeC:zM (zb (za 41)) "_law_found":=.inl (by decide+kernel)
theorem zor:zM (zb (za 41)) "_law_seed":=.inl (by decide+kernel)
theorem zos:zM (zb (za 41)) "_law_c":=.inl (by decide+kernel)
theorem zot:zM (zb (za 41)) "_law_r":=.inl (by decide+kernel)
theorem zou:zM (zb (za 41)) "_law_way":=.inl (by decide+kernel)
theorem zov:zM (zb (za 41)) "_law_right":=.inl (by decide+kernel)
theorem zow:zM (zb (za 41)) "_law_down":=.inl (by decide+kernel)
theorem zox:zM (zb (za 41)) "_law_wide":=.inl (by decide+kernel)
theorem zoy:zM (zb (za 41)) "_law_rows":=.inl (by decide+kernel)
theorem zoz:zM (zb (za 41)) "_law_cell_here":=.inl (by decide+kernel)
theorem zoA:(zb (za 41)).names.lookup ("tuple":Str)=some .globalImplicit:=by decide+kernel
theorem zeD:(zb (za 41)).names.lookup ("range":Str)=some .globalImplicit:=by decide+kernel
theorem ZZ:(zb (za 41)).names.lookup ("_law_mix":Str)=some .globalImplicit:=by decide+kernel
theorem Qs:(zb (za 41)).names.lookup ("_law_cell":Str)=some .globalImplicit:=by decide+kernel
theorem zeE:FnScope ["_law_cell_here","_law_some"] ["_law_cell_here"] (zb (za 42)):=⟨rfl,rfl,rfl,by decide+kernel,rfl,by decide+kernel,by decide+kernel⟩
theorem zoB:zn (zb (za 42)) "_law_some":=.inl (by decide+kernel)
theorem zoC:zn (zb (za 42)) "_law_cell_here":=.inl (by decide+kernel)
theorem zoD:zM (zb (za 42)) "_law_some":=.inl (by decide+kernel)
theorem zoE:FnScope ["_law_leap_here","_law_one","_law_other"] ["_law_leap_here","_law_one","_law_other"] (zb (za 43)):=⟨rfl,rfl,rfl,by decide+kernel,rfl,by decide+kernel,by decide+kernel⟩
theorem zeF:zn (zb (za 43)) "_law_one":=.inl (by decide+kernel)
theorem zeG:zn (zb (za 43)) "_law_other":=.inl (by decide+kernel)
theorem zoF:zn (zb (za 43)) "_law_leap_here":=.inl (by decide+kernel)
theorem zeH:(zb (za 43)).names.lookup ("abs":Str)=some .globalImplicit:=by decide+kernel
theorem zoG:(zb (za 43)).names.lookup ("sorted":Str)=some .globalImplicit:=by decide+kernel
theorem zoH:(zb (za 43)).names.lookup ("list":Str)=some .globalImplicit:=by decide+kernel
theorem zoI:FnScope ["_law_floor_here","_law_leap_here","_law_cell_here"] ["_law_floor_here","_law_leap_here","_law_cell_here"] (zb (za 44)):=⟨rfl,rfl,rfl,by decide+kernel,rfl,by decide+kernel,by decide+kernel⟩
theorem zoJ:zn (zb (za 44)) "_law_floor_here":=.inl (by decide+kernel)
theorem jW:FnScope ["floor","leap","goal","leads","edge","further","cell","other"] ["floor","leap","goal"] (zb (za 22)):=⟨rfl,rfl,rfl,by decide+kernel,rfl,by decide+kernel,by decide+kernel⟩
theorem gw:zn (zb (za 22)) "leads":=.inl (by decide+kernel)
theorem zeI:zn (zb (za 22)) "edge":=.inl (by decide+kernel)
theorem zeJ:zn (zb (za 22)) "further":=.inl (by decide+kernel)
theorem zeK:zn (zb (za 22)) "cell":=.inl (by decide+kernel)
theorem zoK:zn (zb (za 22)) "leap":=.inl (by decide+kernel)
theorem zoL:zn (zb (za 22)) "floor":=.inl (by decide+kernel)
theorem gx:zn (zb (za 22)) "other":=.inl (by decide+kernel)
theorem zeL:zn (zb (za 22)) "goal":=.inl (by decide+kernel)
theorem zeM:zM (zb (za 22)) "edge":=.inl (by decide+kernel)
theorem zoM:zM (zb (za 22)) "other":=.inl (by decide+kernel)
theorem zoN:zM (zb (za 22)) "cell":=.inl (by decide+kernel)
theorem zoO:zM (zb (za 22)) "further":=.inl (by decide+kernel)
theorem zoP:zM (zb (za 22)) "leads":=.inl (by decide+kernel)
theorem zoQ:(zb (za 22)).names.lookup ("len":Str)=some .globalImplicit:=by decide+kernel
theorem zoR:(zb (za 22)).names.lookup ("cells_near":Str)=some .globalImplicit:=by decide+kernel
theorem Vk:FnScope ["cells","leap","parts","placed","cell","leads"] ["cells","leap"] (zb (za 23)):=⟨rfl,rfl,rfl,by decide+kernel,rfl,by decide+kernel,by decide+kernel⟩
theorem zeN:zn (zb (za 23)) "parts":=.inl (by decide+kernel)
theorem zeO:zn (zb (za 23)) "cell":=.inl (by decide+kernel)
theorem zeP:zn (zb (za 23)) "placed":=.inl (by decide+kernel)
theorem zeQ:zn (zb (za 23)) "leads":=.inl (by decide+kernel)
theorem zoS:zn (zb (za 23)) "leap":=.inl (by decide+kernel)
theorem zeR:zn (zb (za 23)) "cells":=.inl (by decide+kernel)
theorem zoT:zM (zb (za 23)) "leads":=.inl (by decide+kernel)
theorem zoU:zM (zb (za 23)) "cell":=.inl (by decide+kernel)
theorem zoV:zM (zb (za 23)) "placed":=.inl (by decide+kernel)
theorem zoW:zM (zb (za 23)) "parts":=.inl (by decide+kernel)
theorem zoX:(zb (za 23)).names.lookup ("sorted":Str)=some .globalImplicit:=by decide+kernel
theorem zoY:(zb (za 23)).names.lookup ("leads_to":Str)=some .globalImplicit:=by decide+kernel
theorem jj:FnScope ["_law_floor_here","_law_leap_here","_law_found","_law_left","_law_part","_law_at"] ["_law_floor_here","_law_leap_here"] (zb (za 45)):=⟨rfl,rfl,rfl,by decide+kernel,rfl,by decide+kernel,by decide+kernel⟩
theorem zeS:zn (zb (za 45)) "_law_found":=.inl (by decide+kernel)
theorem gy:zn (zb (za 45)) "_law_left":=.inl (by decide+kernel)
theorem Qt:zn (zb (za 45)) "_law_part":=.inr (.inl (by decide+kernel))
theorem gz:zn (zb (za 45)) "_law_at":=.inl (by decide+kernel)
theorem zoZ:zn (zb (za 45)) "_law_leap_here":=.inl (by decide+kernel)
theorem zeT:zn (zb (za 45)) "_law_floor_here":=.inl (by decide+kernel)
theorem zeU:zM (zb (za 45)) "_law_at":=.inl (by decide+kernel)
theorem zeV:zM (zb (za 45)) "_law_part":=.inr (by decide+kernel)
theorem zo0:zM (zb (za 45)) "_law_left":=.inl (by decide+kernel)
theorem zo1:zM (zb (za 45)) "_law_found":=.inl (by decide+kernel)
theorem zo2:(zb (za 45)).names.lookup ("_law_left":Str)=some .local:=by decide+kernel
theorem zo3:(zb (za 45)).names.lookup ("sorted":Str)=some .globalImplicit:=by decide+kernel
theorem zo4:(zb (za 45)).names.lookup ("len":Str)=some .globalImplicit:=by decide+kernel
theorem zo5:(zb (za 45)).names.lookup ("_law_near":Str)=some .globalImplicit:=by decide+kernel
theorem zo6:(zb (za 45)).names.lookup ("list":Str)=some .globalImplicit:=by decide+kernel
theorem zo7:FnScope ["floor","most"] ["floor","most"] (zb (za 27)):=⟨rfl,rfl,rfl,by decide+kernel,rfl,by decide+kernel,by decide+kernel⟩
theorem zo8:zn (zb (za 27)) "floor":=.inl (by decide+kernel)
theorem zo9:zn (zb (za 27)) "most":=.inl (by decide+kernel)
theorem zpa:(zb (za 27)).names.lookup ("len":Str)=some .globalImplicit:=by decide+kernel
theorem zpb:FnScope ["floor","leap","cell"] ["floor","leap","cell"] (zb (za 28)):=⟨rfl,rfl,rfl,by decide+kernel,rfl,by decide+kernel,by decide+kernel⟩
theorem zpc:zn (zb (za 28)) "floor":=.inl (by decide+kernel)
theorem zpd:(zb (za 28)).names.lookup ("enumerate":Str)=some .globalImplicit:=by decide+kernel
theorem zpe:(zb (za 28)).names.lookup ("sum":Str)=some .globalImplicit:=by decide+kernel
theorem gA:FnScope ["count","starts","layer","place"] ["count","starts"] (zb (za 29)):=⟨rfl,rfl,rfl,by decide+kernel,rfl,by decide+kernel,by decide+kernel⟩
theorem zeW:zn (zb (za 29)) "layer":=.inl (by decide+kernel)
theorem zpf:zn (zb (za 29)) "count":=.inl (by decide+kernel)
theorem zpg:zn (zb (za 29)) "starts":=.inl (by decide+kernel)
theorem gB:zn (zb (za 29)) "place":=.inl (by decide+kernel)
theorem zph:zM (zb (za 29)) "place":=.inl (by decide+kernel)
theorem zpi:zM (zb (za 29)) "layer":=.inl (by decide+kernel)
theorem zpj:(zb (za 29)).names.lookup ("range":Str)=some .globalImplicit:=by decide+kernel
theorem Vl:FnScope ["near","layer","longer","visited","place","bit"] ["near","layer"] (zb (za 30)):=⟨rfl,rfl,rfl,by decide+kernel,rfl,by decide+kernel,by decide+kernel⟩
theorem gC:zn (zb (za 30)) "longer":=.inl (by decide+kernel)
theorem zeX:zn (zb (za 30)) "near":=.inl (by decide+kernel)
theorem zeY:zn (zb (za 30)) "layer":=.inl (by decide+kernel)
theorem Qu:zn (zb (za 30)) "visited":=.inl (by decide+kernel)
theorem zeZ:zn (zb (za 30)) "place":=.inl (by decide+kernel)
theorem Qv:zn (zb (za 30)) "bit":=.inl (by decide+kernel)
theorem zpk:zM (zb (za 30)) "bit":=.inl (by decide+kernel)
theorem zpl:zM (zb (za 30)) "place":=.inl (by decide+kernel)
theorem zpm:zM (zb (za 30)) "visited":=.inl (by decide+kernel)
theorem zpn:zM (zb (za 30)) "longer":=.inl (by decide+kernel)
theorem zpo:(zb (za 30)).names.lookup ("len":Str)=some .globalImplicit:=by decide+kernel
theorem zpp:(zb (za 30)).names.lookup ("range":Str)=some .globalImplicit:=by decide+kernel
theorem ze0:FnScope ["near","starts","layers"] ["near","starts"] (zb (za 31)):=⟨rfl,rfl,rfl,by decide+kernel,rfl,by decide+kernel,by decide+kernel⟩
theorem Qw:zn (zb (za 31)) "layers":=.inl (by decide+kernel)
theorem gD:zn (zb (za 31)) "near":=.inl (by decide+kernel)
theorem zpq:zn (zb (za 31)) "starts":=.inl (by decide+kernel)
theorem zpr:zM (zb (za 31)) "layers":=.inl (by decide+kernel)
theorem gE:(zb (za 31)).names.lookup ("len":Str)=some .globalImplicit:=by decide+kernel
theorem zps:(zb (za 31)).names.lookup ("one_cell_longer":Str)=some .globalImplicit:=by decide+kernel
theorem zpt:(zb (za 31)).names.lookup ("one_cell_walks":Str)=some .globalImplicit:=by decide+kernel
theorem jk:FnScope ["floor","near","starts","ends","layers","visited","cells","layer","place"] ["floor","near","starts","ends"] (zb (za 32)):=⟨rfl,rfl,rfl,by decide+kernel,rfl,by decide+kernel,by decide+kernel⟩
theorem ze1:zn (zb (za 32)) "cells":=.inl (by decide+kernel)
theorem ze2:zn (zb (za 32)) "layers":=.inl (by decide+kernel)
theorem ze3:zn (zb (za 32)) "near":=.inl (by decide+kernel)
theorem gF:zn (zb (za 32)) "place":=.inl (by decide+kernel)
theorem gG:zn (zb (za 32)) "visited":=.inl (by decide+kernel)
theorem ze4:zn (zb (za 32)) "floor":=.inl (by decide+kernel)
theorem zpu:zn (zb (za 32)) "layer":=.inl (by decide+kernel)
theorem ze5:zn (zb (za 32)) "ends":=.inl (by decide+kernel)
theorem zpv:zn (zb (za 32)) "starts":=.inl (by decide+kernel)
theorem zpw:zM (zb (za 32)) "ends":=.inl (by decide+kernel)
theorem ze6:zM (zb (za 32)) "visited":=.inl (by decide+kernel)
theorem zpx:zM (zb (za 32)) "place":=.inl (by decide+kernel)
theorem zpy:zM (zb (za 32)) "layer":=.inl (by decide+kernel)
theorem zpz:zM (zb (za 32)) "cells":=.inl (by decide+kernel)
theorem zpA:zM (zb (za 32)) "layers":=.inl (by decide+kernel)
theorem zpB:(zb (za 32)).names.lookup ("reversed":Str)=some .globalImplicit:=by decide+kernel
theorem zpC:(zb (za 32)).names.lookup ("len":Str)=some .globalImplicit:=by decide+kernel
theorem zpD:(zb (za 32)).names.lookup ("layers_from":Str)=some .globalImplicit:=by decide+kernel
theorem gH:FnScope ["floor","leap","near","anywhere"] ["floor","leap"] (zb (za 33)):=⟨rfl,rfl,rfl,by decide+kernel,rfl,by decide+kernel,by decide+kernel⟩
theorem ze7:zn (zb (za 33)) "anywhere":=.inl (by decide+kernel)
theorem zpE:zn (zb (za 33)) "near":=.inl (by decide+kernel)
theorem Vm:zn (zb (za 33)) "floor":=.inr (.inl (by decide+kernel))
theorem zpF:zn (zb (za 33)) "leap":=.inr (.inl (by decide+kernel))
theorem zpG:zM (zb (za 33)) "anywhere":=.inl (by decide+kernel)
theorem zpH:(zb (za 33)).names.lookup ("near":Str)=some .local:=by decide+kernel
theorem zpI:(zb (za 33)).names.lookup ("walk_between":Str)=some .globalImplicit:=by decide+kernel
theorem zpJ:(zb (za 33)).names.lookup ("len":Str)=some .globalImplicit:=by decide+kernel
theorem zpK:(zb (za 33)).names.lookup ("MOST_TO_WALK":Str)=some .globalImplicit:=by decide+kernel
theorem zpL:(zb (za 33)).names.lookup ("refuse_big":Str)=some .globalImplicit:=by decide+kernel
theorem zpM:(zb (za 33)).names.lookup ("checked_leap":Str)=some .globalImplicit:=by decide+kernel
theorem zpN:(zb (za 33)).names.lookup ("checked":Str)=some .globalImplicit:=by decide+kernel
theorem ze8:FnScope ["floor","leap","near"] ["floor","leap"] (zb (za 34)):=⟨rfl,rfl,rfl,by decide+kernel,rfl,by decide+kernel,by decide+kernel⟩
theorem ze9:zn (zb (za 34)) "near":=.inl (by decide+kernel)
theorem Vn:zn (zb (za 34)) "floor":=.inr (.inl (by decide+kernel))
theorem zpO:zn (zb (za 34)) "leap":=.inr (.inl (by decide+kernel))
theorem zpP:(zb (za 34)).names.lookup ("near":Str)=some .local:=by decide+kernel
theorem zpQ:(zb (za 34)).names.lookup ("walk_between":Str)=some .globalImplicit:=by decide+kernel
theorem zpR:(zb (za 34)).names.lookup ("len":Str)=some .globalImplicit:=by decide+kernel
theorem zpS:(zb (za 34)).names.lookup ("MOST_TO_WALK":Str)=some .globalImplicit:=by decide+kernel
theorem zpT:(zb (za 34)).names.lookup ("refuse_big":Str)=some .globalImplicit:=by decide+kernel
theorem zpU:(zb (za 34)).names.lookup ("checked_leap":Str)=some .globalImplicit:=by decide+kernel
theorem zpV:(zb (za 34)).names.lookup ("checked":Str)=some .globalImplicit:=by decide+kernel
theorem gI:FnScope ["floor","leap","spare","cut","rest","parts"] ["floor","leap","spare","cut"] (zb (za 35)):=⟨rfl,rfl,rfl,by decide+kernel,rfl,by decide+kernel,by decide+kernel⟩
theorem zfa:zn (zb (za 35)) "parts":=.inl (by decide+kernel)
theorem zpW:zn (zb (za 35)) "cut":=.inr (.inl (by decide+kernel))
theorem zpX:zn (zb (za 35)) "spare":=.inl (by decide+kernel)
theorem zpY:zn (zb (za 35)) "leap":=.inl (by decide+kernel)
theorem zpZ:zn (zb (za 35)) "rest":=.inl (by decide+kernel)
theorem zp0:zn (zb (za 35)) "floor":=.inl (by decide+kernel)
theorem zp1:zM (zb (za 35)) "parts":=.inl (by decide+kernel)
theorem zp2:(zb (za 35)).names.lookup ("rest":Str)=some .local:=by decide+kernel
theorem zfb:(zb (za 35)).names.lookup ("len":Str)=some .globalImplicit:=by decide+kernel
theorem zp3:(zb (za 35)).names.lookup ("parts_within":Str)=some .globalImplicit:=by decide+kernel
theorem Qx:FnScope ["floor","cuts","wider","cut","cell"] ["floor","cuts"] (zb (za 36)):=⟨rfl,rfl,rfl,by decide+kernel,rfl,by decide+kernel,by decide+kernel⟩
theorem zfc:zn (zb (za 36)) "wider":=.inl (by decide+kernel)
theorem zfd:zn (zb (za 36)) "cell":=.inl (by decide+kernel)
theorem gJ:zn (zb (za 36)) "cut":=.inl (by decide+kernel)
theorem zp4:zn (zb (za 36)) "floor":=.inl (by decide+kernel)
theorem zp5:zn (zb (za 36)) "cuts":=.inl (by decide+kernel)
theorem zp6:zM (zb (za 36)) "cell":=.inl (by decide+kernel)
theorem zp7:zM (zb (za 36)) "cut":=.inl (by decide+kernel)
theorem zp8:zM (zb (za 36)) "wider":=.inl (by decide+kernel)
theorem zp9:(zb (za 36)).names.lookup ("len":Str)=some .globalImplicit:=by decide+kernel
theorem Qy:FnScope ["floor","leap","spare","cuts","cut"] ["floor","leap","spare"] (zb (za 37)):=⟨rfl,rfl,rfl,by decide+kernel,rfl,by decide+kernel,by decide+kernel⟩
theorem gK:zn (zb (za 37)) "cuts":=.inl (by decide+kernel)
theorem Vo:zn (zb (za 37)) "floor":=.inl (by decide+kernel)
theorem zfe:zn (zb (za 37)) "cut":=.inl (by decide+kernel)
theorem zff:zn (zb (za 37)) "spare":=.inl (by decide+kernel)
theorem zfg:zn (zb (za 37)) "leap":=.inl (by decide+kernel)
theorem zfh:zM (zb (za 37)) "cuts":=.inl (by decide+kernel)
theorem zqa:zM (zb (za 37)) "cut":=.inl (by decide+kernel)
theorem zfi:(zb (za 37)).names.lookup ("len":Str)=some .globalImplicit:=by decide+kernel
theorem zqb:(zb (za 37)).names.lookup ("one_cell_more":Str)=some .globalImplicit:=by decide+kernel
theorem zqc:(zb (za 37)).names.lookup ("leaves_too_many":Str)=some .globalImplicit:=by decide+kernel
theorem zqd:(zb (za 37)).names.lookup ("is_whole":Str)=some .globalImplicit:=by decide+kernel
theorem zqe:(zb (za 37)).names.lookup ("MOST_TO_CUT":Str)=some .globalImplicit:=by decide+kernel
theorem zqf:(zb (za 37)).names.lookup ("refuse_big":Str)=some .globalImplicit:=by decide+kernel
theorem zqg:(zb (za 37)).names.lookup ("checked_leap":Str)=some .globalImplicit:=by decide+kernel
theorem zqh:(zb (za 37)).names.lookup ("checked":Str)=some .globalImplicit:=by decide+kernel
theorem vQ:FnScope ["_law_floor_here","_law_leap_here","_law_spare","_law_rows","_law_many","_law_cells","_law_left","_law_more"] ["_law_floor_here","_law_leap_here","_law_spare"] (zb (za 46)):=⟨rfl,rfl,rfl,by decide+kernel,rfl,by decide+kernel,by decide+kernel⟩
theorem gL:zn (zb (za 46)) "_law_floor_here":=.inl (by decide+kernel)
theorem zfj:zn (zb (za 46)) "_law_more":=.inl (by decide+kernel)
theorem zfk:zn (zb (za 46)) "_law_rows":=.inl (by decide+kernel)
theorem zqi:zn (zb (za 46)) "_law_leap_here":=.inl (by decide+kernel)
theorem zqj:zn (zb (za 46)) "_law_left":=.inl (by decide+kernel)
theorem zqk:zn (zb (za 46)) "_law_many":=.inl (by decide+kernel)
theorem zql:zn (zb (za 46)) "_law_spare":=.inl (by decide+kernel)
theorem zqm:zn (zb (za 46)) "_law_cells":=.inr (.inl (by decide+kernel))
theorem zfl:zM (zb (za 46)) "_law_rows":=.inl (by decide+kernel)
theorem zfm:zM (zb (za 46)) "_law_more":=.inl (by decide+kernel)
theorem zfn:zM (zb (za 46)) "_law_cells":=.inr (by decide+kernel)
theorem zqn:zM (zb (za 46)) "_law_many":=.inl (by decide+kernel)
theorem zqo:(zb (za 46)).names.lookup ("_law_left":Str)=some .local:=by decide+kernel
theorem zfo:(zb (za 46)).names.lookup ("len":Str)=some .globalImplicit:=by decide+kernel
theorem zqp:(zb (za 46)).names.lookup ("range":Str)=some .globalImplicit:=by decide+kernel
theorem zqq:(zb (za 46)).names.lookup ("_law_parts":Str)=some .globalImplicit:=by decide+kernel
theorem zqr:(zb (za 46)).names.lookup ("max":Str)=some .globalImplicit:=by decide+kernel
theorem zqs:(zb (za 46)).names.lookup ("list":Str)=some .globalImplicit:=by decide+kernel
theorem Vp:FnScope ["_law_script","_law_floor_here","_law_leap_here","_law_spare","_law_found"] ["_law_script"] (zb (za 47)):=⟨rfl,rfl,rfl,by decide+kernel,rfl,by decide+kernel,by decide+kernel⟩
theorem gM:zn (zb (za 47)) "_law_spare":=.inl (by decide+kernel)
theorem Qz:zn (zb (za 47)) "_law_leap_here":=.inl (by decide+kernel)
theorem QA:zn (zb (za 47)) "_law_floor_here":=.inl (by decide+kernel)
theorem QB:zn (zb (za 47)) "_law_found":=.inl (by decide+kernel)
theorem QC:zn (zb (za 47)) "_law_script":=.inl (by decide+kernel)
theorem zqt:zM (zb (za 47)) "_law_found":=.inl (by decide+kernel)
theorem zqu:zM (zb (za 47)) "_law_spare":=.inl (by decide+kernel)
theorem zqv:zM (zb (za 47)) "_law_leap_here":=.inl (by decide+kernel)
theorem zqw:zM (zb (za 47)) "_law_floor_here":=.inl (by decide+kernel)
theorem zqx:(zb (za 47)).names.lookup ("walk":Str)=some .globalImplicit:=by decide+kernel
theorem zqy:(zb (za 47)).names.lookup ("ring_walk":Str)=some .globalImplicit:=by decide+kernel
theorem zqz:(zb (za 47)).names.lookup ("isinstance":Str)=some .globalImplicit:=by decide+kernel
theorem zqA:(zb (za 47)).names.lookup ("list":Str)=some .globalImplicit:=by decide+kernel
theorem zqB:(zb (za 47)).names.lookup ("_law_cut":Str)=some .globalImplicit:=by decide+kernel
theorem zqC:(zb (za 47)).names.lookup ("cut_of":Str)=some .globalImplicit:=by decide+kernel
theorem gN:(zb (za 47)).names.lookup ("_law_cell":Str)=some .globalImplicit:=by decide+kernel
theorem zqD:(zb (za 47)).names.lookup ("_law_leap":Str)=some .globalImplicit:=by decide+kernel
theorem zqE:(zb (za 47)).names.lookup ("_law_floor":Str)=some .globalImplicit:=by decide+kernel
section
variable {Pg:Program} {w:World} {K:PySem.W.Frag} {mg:Str->Option Value} {base:Heap} {F:Nat->Addr} {FD:Nat->FuncData} {TK:Nat->Tok} {n fuel:Nat}
theorem zqF(T:Txt K mg F FD TK)(hall: ∀i,FnOk Pg w K mg base zD n (F i) (FD i) (zp i) (zZ K (zq U fuel n) i (yo i)))(cdv:Value)(A:Around)(outer:List PySem.Env)(s:Shared)(H:Hp)(E:XK)
  (hr:Room n (A.deeper (envOfC "is_whole" (zb (za 10)) s.heap.objs.size (F 0) cdv))):
  ISs (yf zD Pg w K mg base ["thing","least","most"] "is_whole" (zb (za 10)) (F 0) cdv A outer s H E).nox (zr (zq U fuel n) fuel Xj) (zt (za 10)):=
 (zj (xA (IW.t (Zs (wk (YZ (t:=.bool) zek T.z_isinstance znL T.z_bool PyProof.Rows.boot_bool (ze 0 rfl gr xY xZ) zmZ zmY zf zf (zC zf zu)) (VY _ _) wU) (Zr (vI (wk (YZ (t:=.int) zek T.z_isinstance znK T.z_int PyProof.Rows.boot_int (ze 0 rfl gr xY xZ) zmX zmW zf zf (zC zf zu)) (VY _ _) wU))))) (zj (yA VT)
  zw) zw)
  (zj (yA (zi1 VS VS (ze 1 rfl znI zmU zmV) (ze 0 rfl gr xY xZ) (ze 2 rfl znJ zdw zdx)))
  zw))
theorem zqG(T:Txt K mg F FD TK)(hall: ∀i,FnOk Pg w K mg base zD n (F i) (FD i) (zp i) (zZ K (zq U fuel n) i (yo i)))(cdv:Value)(A:Around)(outer:List PySem.Env)(s:Shared)(H:Hp)(E:XK)
  (hr:Room n (A.deeper (envOfC "is_couple" (zb (za 11)) s.heap.objs.size (F 1) cdv))):
  ISs (yf zD Pg w K mg base ["thing"] "is_couple" (zb (za 11)) (F 1) cdv A outer s H E).nox (zr (zq U fuel n) fuel Xk) (zt (za 11)):=
 (zj (yA (jx (YZ (t:=.tuple) znO T.z_isinstance znP T.z_tuple PyProof.Rows.boot_tuple (ze 0 rfl zel xY xZ) qZ qY zf zf (zC zf zu)) (YR (Zq (vW hr.units) (yk xo znN T.z_len PySem.boot_len (zg (ze 0 rfl zel xY xZ) zk zf) xu xt zf zu) zo (yP _)))))
  zw)
theorem zqH(T:Txt K mg F FD TK)(hall: ∀i,FnOk Pg w K mg base zD n (F i) (FD i) (zp i) (zZ K (zq U fuel n) i (yo i)))(cdv:Value)(A:Around)(outer:List PySem.Env)(s:Shared)(H:Hp)(E:XK)
  (hr:Room n (A.deeper (envOfC "is_cell" (zb (za 12)) s.heap.objs.size (F 2) cdv))):
  ISs (yf zD Pg w K mg base ["thing"] "is_cell" (zb (za 12)) (F 2) cdv A outer s H E).nox (zr (zq U fuel n) fuel Xl) (zt (za 12)):=
 (zj (yA (jx (zR (zQ (hall 1) rfl) hr znR T.m1 T.f1.kp (T.b1) (zg (ze 0 rfl gs xY xZ) zk zf) zdz zf zu) (jx (zR (zQ (hall 0) rfl) hr zen T.m0 T.f0.kp (T.b0) (zg (yv hr.units (ze 0 rfl gs xY xZ) zo (fun _ _=>rfl)) (zg zo (zg (jw zem T.c0 zdy) zk zf) zA) yN) Vd yN (zC zA (zC zf zu))) (YR (zR (zQ (hall 0) rfl) hr zen T.m0 T.f0.kp (T.b0) (zg (yv hr.units (ze 0 rfl gs xY xZ) zo (fun _ _=>rfl)) (zg zo (zg (jw zem T.c0 zdy) zk zf) zA) yN) Vd yN (zC zA (zC zf zu)))))))
  zw)
theorem zqI(T:Txt K mg F FD TK)(hall: ∀i,FnOk Pg w K mg base zD n (F i) (FD i) (zp i) (zZ K (zq U fuel n) i (yo i)))(cdv:Value)(A:Around)(outer:List PySem.Env)(s:Shared)(H:Hp)(E:XK)
  (hr:Room n (A.deeper (envOfC "is_leap" (zb (za 13)) s.heap.objs.size (F 3) cdv))):
  ISs (yf zD Pg w K mg base ["thing"] "is_leap" (zb (za 13)) (F 3) cdv A outer s H E).nox (zr (zq U fuel n) fuel Xm) (zt (za 13)):=
 (zj (yA (jx (zR (zQ (hall 1) rfl) hr znU T.m1 T.f1.kp (T.b1) (zg (ze 0 rfl Ql xY xZ) zk zf) zdz zf zu) (jx (zR (zQ (hall 0) rfl) hr zeo T.m0 T.f0.kp (T.b0) (zg (yv hr.units (ze 0 rfl Ql xY xZ) zo (fun _ _=>rfl)) (zg zo (zg (jw znT T.c2 zm0) zk zf) zA) yN) Vd yN (zC zA (zC zf zu))) (YR (zR (zQ (hall 0) rfl) hr zeo T.m0 T.f0.kp (T.b0) (zg (yv hr.units (ze 0 rfl Ql xY xZ) zo (fun _ _=>rfl)) (zg zo (zg (yv hr.units (ze 0 rfl Ql xY xZ) zo (fun _ _=>rfl)) zk yN) zA) yN) Vd yN (zC zA (zC yN zu)))))))
  zw)
theorem zqJ(T:Txt K mg F FD TK)(hall: ∀i,FnOk Pg w K mg base zD n (F i) (FD i) (zp i) (zZ K (zq U fuel n) i (yo i)))(cdv:Value)(A:Around)(outer:List PySem.Env)(s:Shared)(H:Hp)(E:XK)
  (hr:Room n (A.deeper (envOfC "is_rising" (zb (za 14)) s.heap.objs.size (F 4) cdv))):
  ISs (yf zD Pg w K mg base ["cells"] "is_rising" (zb (za 14)) (F 4) cdv A outer s H E).nox (zr (zq U fuel n) fuel Xn) (zt (za 14)):=
 (zj (yA (yk (zbC rfl) znZ T.z_all (by decide+kernel) (zg (Zw rfl (wF (sc:=zb (za 14)) (N:=["cells"]) rfl rfl (by decide+kernel)) (zja znY T.z_range (zg zo (zg (yk xo znX T.z_len PySem.boot_len (zg (ze 0 rfl znW jN jO) zk zf) xu xt zf zu) zk yj) zA) zA yj) (.inl ⟨rfl,rfl⟩) (fun _ _ _ _=>(Zq (Zn hr.units) (yv hr.units (ze 1 rfl (xD (by decide+kernel)) jN jO) (zO wT (ze 0 rfl (xp (by decide+kernel)) wZ vc) zo) (fun _ _=>rfl)) (yv hr.units (ze 1 rfl (xD (by decide+kernel)) jN jO) (ze 0 rfl (xp (by decide+kernel)) wZ vc) (fun _ _=>rfl)) (yP _)))) zk Zp) zdB zdA Zp zu))
  zw)
theorem zqK(T:Txt K mg F FD TK)(hall: ∀i,FnOk Pg w K mg base zD n (F i) (FD i) (zp i) (zZ K (zq U fuel n) i (yo i)))(cdv:Value)(A:Around)(outer:List PySem.Env)(s:Shared)(H:Hp)(E:XK)
  (hr:Room n (A.deeper (envOfC "is_floor" (zb (za 15)) s.heap.objs.size (F 5) cdv))):
  ISs (yf zD Pg w K mg base ["thing"] "is_floor" (zb (za 15)) (F 5) cdv A outer s H E).nox (zr (zq U fuel n) fuel Xo) (zt (za 15)):=
 (zj (xA (IW.t (Zs (vI (wk (YZ (t:=.tuple) zn5 T.z_isinstance zn6 T.z_tuple PyProof.Rows.boot_tuple (ze 0 rfl Qm xY xZ) qZ qY zf zf (zC zf zu)) (VY _ _) wU)) (Zr (vI (zi2 rfl rfl VS VS zo (yk xo zn3 T.z_len PySem.boot_len (zg (ze 0 rfl Qm xY xZ) zk zf) xu xt zf zu) (jw zn4 T.c1 zm5)))))) (zj (yA VT)
  zw) zw)
  (zj (yA (jx (yk (zbC rfl) zn2 T.z_all (by decide+kernel) (zg (Zw rfl (wF (sc:=zb (za 15)) (N:=["thing"]) rfl rfl (by decide+kernel)) (wW (ze 0 rfl Qm xY xZ)) (.inl ⟨rfl,rfl⟩) (fun _ _ _ _=>(zR (zQ (hall 2) rfl) hr (Zx (by decide+kernel)) T.m2 T.f2.kp (T.b2) (zg (ze 0 rfl (xp (by decide+kernel)) zm2 zm3) zk zf) zm4 zf zu))) zk Zp) zdB zdA Zp zu) (YR (zR (zQ (hall 4) rfl) hr zn1 T.m4 T.f4.kp (T.b4) (zg (ze 0 rfl Qm xY xZ) zk zf) zm1 zf zu))))
  zw))
theorem zqL(T:Txt K mg F FD TK)(hall: ∀i,FnOk Pg w K mg base zD n (F i) (FD i) (zp i) (zZ K (zq U fuel n) i (yo i)))(cdv:Value)(A:Around)(outer:List PySem.Env)(s:Shared)(H:Hp)(E:XK)
  (hr:Room n (A.deeper (envOfC "checked" (zb (za 16)) s.heap.objs.size (F 6) cdv))):
  ISs (yf zD Pg w K mg base ["floor"] "checked" (zb (za 16)) (F 6) cdv A outer s H E).nox (zr (zq U fuel n) fuel Xp) (zt (za 16)):=
 (zj (xA (vI (wk (zR (zQ (hall 5) rfl) hr zn8 T.m5 T.f5.kp (T.b5) (zg (ze 0 rfl zep yJ yK) zk zf) zm6 zf zu) (jy _ _) wU)) (zj Jd
  zw) zw)
  (zj (wV 0 rfl zep yJ yK)
  zw))
theorem zqM(T:Txt K mg F FD TK)(hall: ∀i,FnOk Pg w K mg base zD n (F i) (FD i) (zp i) (zZ K (zq U fuel n) i (yo i)))(cdv:Value)(A:Around)(outer:List PySem.Env)(s:Shared)(H:Hp)(E:XK)
  (hr:Room n (A.deeper (envOfC "checked_leap" (zb (za 17)) s.heap.objs.size (F 7) cdv))):
  ISs (yf zD Pg w K mg base ["leap"] "checked_leap" (zb (za 17)) (F 7) cdv A outer s H E).nox (zr (zq U fuel n) fuel Xq) (zt (za 17)):=
 (zj (xA (vI (wk (zR (zQ (hall 3) rfl) hr zoa T.m3 T.f3.kp (T.b3) (zg (ze 0 rfl zeq wp wq) zk zf) zm7 zf zu) (jy _ _) wU)) (zj Jd
  zw) zw)
  (zj (wV 0 rfl zeq wp wq)
  zw))
theorem zqN(T:Txt K mg F FD TK)(hall: ∀i,FnOk Pg w K mg base zD n (F i) (FD i) (zp i) (zZ K (zq U fuel n) i (yo i)))(cdv:Value)(A:Around)(outer:List PySem.Env)(s:Shared)(H:Hp)(E:XK)
  (hr:Room n (A.deeper (envOfC "folded" (zb (za 19)) s.heap.objs.size (F 9) cdv))):
  ISs (yf zD Pg w K mg base ["down","right"] "folded" (zb (za 19)) (F 9) cdv A outer s H E).nox (zr (zq U fuel n) fuel Xr) (zt (za 19)):=
 (zj (yA (yV (zg (yk (ziY rfl) zod T.z_min PyProof.Rows.boot_min (zg (yk Zo Qn T.z_abs (by decide+kernel) (zg (ze 0 rfl zes zdE zdF) zk zf) ZR ZQ zf zu) (zg (yk Zo Qn T.z_abs (by decide+kernel) (zg (ze 1 rfl zer zdC zdD) zk zf) ZR ZQ zf zu) zk yj) yj) zm9 zm8 yj (zC yj zu)) (zg (yk (za9 rfl) zoc T.z_max PyProof.Rows.boot_max (zg (yk Zo Qn T.z_abs (by decide+kernel) (zg (ze 0 rfl zes zdE zdF) zk zf) ZR ZQ zf zu) (zg (yk Zo Qn T.z_abs (by decide+kernel) (zg (ze 1 rfl zer zdC zdD) zk zf) ZR ZQ zf zu) zk yj) yj) zdH zdG yj (zC yj zu)) zk yj) yj)))
  zw)
theorem zqO(T:Txt K mg F FD TK)(hall: ∀i,FnOk Pg w K mg base zD n (F i) (FD i) (zp i) (zZ K (zq U fuel n) i (yo i)))(cdv:Value)(A:Around)(outer:List PySem.Env)(s:Shared)(H:Hp)(E:XK)
  (hr:Room n (A.deeper (envOfC "are_near" (zb (za 20)) s.heap.objs.size (F 10) cdv))):
  ISs (yf zD Pg w K mg base ["leap","one","other"] "are_near" (zb (za 20)) (F 10) cdv A outer s H E).nox (zr (zq U fuel n) fuel Xs) (zt (za 20)):=
 (zj (yA (Zq (vW hr.units) (zR (zQ (hall 9) rfl) hr zog T.m9 T.f9.kp (T.b9) (zg (zO wT (yv hr.units (ze 2 rfl zet jf jg) zo (fun _ _=>rfl)) (yv hr.units (ze 1 rfl zeu zdI zdJ) zo (fun _ _=>rfl))) (zg (zO wT (yv hr.units (ze 2 rfl zet jf jg) zo (fun _ _=>rfl)) (yv hr.units (ze 1 rfl zeu zdI zdJ) zo (fun _ _=>rfl))) zk yM) yM) zna yM (zC yM zu)) (ze 0 rfl zof wp wq) (yP _)))
  zw)
theorem zqP(T:Txt K mg F FD TK)(hall: ∀i,FnOk Pg w K mg base zD n (F i) (FD i) (zp i) (zZ K (zq U fuel n) i (yo i)))(cdv:Value)(A:Around)(outer:List PySem.Env)(s:Shared)(H:Hp)(E:XK)
  (hr:Room n (A.deeper (envOfC "cells_near" (zb (za 21)) s.heap.objs.size (F 11) cdv))):
  ISs (yf zD Pg w K mg base ["floor","leap","cell"] "cells_near" (zb (za 21)) (F 11) cdv A outer s H E).nox (zr (zq U fuel n) fuel Xt) (zt (za 21)):=
 (zj (yA (Zw rfl (wF (sc:=zb (za 21)) (N:=["floor","leap","cell"]) rfl rfl (by decide+kernel)) (wW (ze 0 rfl zoi yJ yK)) (.inr ⟨_,rfl,fun _ _ _ _=>(wk (zR (zQ (hall 10) rfl) hr (Zx (by decide+kernel)) T.m10 T.f10.kp (T.b10) (zg (ze 2 rfl (xD (by decide+kernel)) wp wq) (zg (ze 3 rfl (xD (by decide+kernel)) wJ wK) (zg (ze 0 rfl (xp (by decide+kernel)) jf jg) zk zf) zf) zf) zdK zf (zC zf (zC zf zu))) (jy _ _) wU)⟩) (fun _ _ _ _=>(ze 0 rfl (xp (by decide+kernel)) jf jg))))
  zw)
theorem zqQ(T:Txt K mg F FD TK)(hall: ∀i,FnOk Pg w K mg base zD n (F i) (FD i) (zp i) (zZ K (zq U fuel n) i (yo i)))(cdv:Value)(A:Around)(outer:List PySem.Env)(s:Shared)(H:Hp)(E:XK)
  (hr:Room n (A.deeper (envOfC "_law_cell" (zb (za 39)) s.heap.objs.size (F 13) cdv))):
  ISs (yf zD Pg w K mg base ["_law_script","_law_k"] "_law_cell" (zb (za 39)) (F 13) cdv A outer s H E).nox (zr (zq U fuel n) fuel Xu) (zt (za 39)):=
 (zj (xA (yS rfl (Zn hr.units) (ze 1 rfl zev zd2 zd3) (yk xo zok T.z_len PySem.boot_len (zg (ze 0 rfl zew vz vA) zk zf) xu xt zf zu) (yP _)) (zj (yA (yv hr.units (ze 0 rfl zew vz vA) (ze 1 rfl zev zd2 zd3) (fun _ _=>rfl)))
  zw) zw)
  (zj (yA zo)
  zw))
theorem zqR(T:Txt K mg F FD TK)(hall: ∀i,FnOk Pg w K mg base zD n (F i) (FD i) (zp i) (zZ K (zq U fuel n) i (yo i)))(cdv:Value)(A:Around)(outer:List PySem.Env)(s:Shared)(H:Hp)(E:XK)
  (hr:Room n (A.deeper (envOfC "_law_mix" (zb (za 40)) s.heap.objs.size (F 14) cdv))):
  ISs (yf zD Pg w K mg base ["_law_cell_here","_law_prime","_law_many"] "_law_mix" (zb (za 40)) (F 14) cdv A outer s H E).nox (zr (zq U fuel n) fuel Xv) (zt (za 40)):=
 (zj (yA (zO Zl (zO Zl (zO jv (ze 0 rfl zom wL wM) zo) (ze 1 rfl zon znq znr)) (ze 2 rfl zoo zd4 zd5)))
  zw)
theorem zqS(T:Txt K mg F FD TK)(hall: ∀i,FnOk Pg w K mg base zD n (F i) (FD i) (zp i) (zZ K (zq U fuel n) i (yo i)))(cdv:Value)(A:Around)(outer:List PySem.Env)(s:Shared)(H:Hp)(E:XK)
  (hr:Room n (A.deeper (envOfC "_law_floor" (zb (za 41)) s.heap.objs.size (F 15) cdv))):
  ISs (yf zD Pg w K mg base ["_law_script","_law_at","_law_most","_law_cell_here","_law_rows","_law_wide","_law_down","_law_right","_law_way","_law_found","_law_r","_law_c","_law_seed"] "_law_floor" (zb (za 41)) (F 15) cdv A outer s H E).nox (zr (zq U fuel n) fuel Xx) (zt (za 41)):=
 (zj (zY 3 wN.nd rfl zoz (zR (zQ (hall 13) rfl) hr Qs T.m13 T.f13.kp (T.b13) (zg (ze 0 rfl Qr vz vA) (zg (ze 1 rfl Qq jT jU) zk zf) zf) jV zf (zC zf zu)))
  (zj (zY 4 wN.nd rfl zoy (zO xC zo (zR (zQ (hall 14) rfl) hr ZZ T.m14 T.f14.kp (T.b14) (zg (ze 3 rfl gv wL wM) (zg zo (zg zo zk zA) zA) zf) ZU zf (zC zA (zC zA zu)))))
  (zj (zY 5 wN.nd rfl zox (zO xC zo (zR (zQ (hall 14) rfl) hr ZZ T.m14 T.f14.kp (T.b14) (zg (ze 3 rfl gv wL wM) (zg zo (zg zo zk zA) zA) zf) ZU zf (zC zA (zC zA zu)))))
  (zj (zY 6 wN.nd rfl zow (zR (zQ (hall 14) rfl) hr ZZ T.m14 T.f14.kp (T.b14) (zg (zR (zQ (hall 13) rfl) hr Qs T.m13 T.f13.kp (T.b13) (zg (ze 0 rfl Qr vz vA) (zg (zO xC (ze 1 rfl Qq jT jU) zo) zk yM) zf) jV zf (zC yM zu)) (zg zo (zg (zO wT zo (ze 4 rfl zez JY JZ)) zk yM) zA) yj) ZU yj (zC zA (zC yM zu))))
  (zj (zY 7 wN.nd rfl zov (zR (zQ (hall 14) rfl) hr ZZ T.m14 T.f14.kp (T.b14) (zg (zR (zQ (hall 13) rfl) hr Qs T.m13 T.f13.kp (T.b13) (zg (ze 0 rfl Qr vz vA) (zg (zO xC (ze 1 rfl Qq jT jU) zo) zk yM) zf) jV zf (zC yM zu)) (zg zo (zg (zO wT zo (ze 5 rfl zeA zea zeb)) zk yM) zA) yj) ZU yj (zC zA (zC yM zu))))
  (zj (zY 8 wN.nd rfl zou (zR (zQ (hall 14) rfl) hr ZZ T.m14 T.f14.kp (T.b14) (zg (zO xC (ze 3 rfl gv wL wM) zo) (zg zo (zg zo zk zA) zA) yM) ZU yM (zC zA (zC zA zu))))
  (zj (zY 9 wN.nd rfl zeC (xz zk))
  (zj (jB 10 PassesOwn.never rfl wN.nd rfl zot (YU zeD T.z_range (zg (ze 4 rfl zez JY JZ) zk zf) zf) (zj (jB 11 PassesOwn.never rfl wN.nd rfl zos (YU zeD T.z_range (zg (ze 5 rfl zeA zea zeb) zk zf) zf) (zj (zY 12 wN.nd rfl zor (zO xC (zO xC (zR (zQ (hall 13) rfl) hr Qs T.m13 T.f13.kp (T.b13) (zg (ze 0 rfl Qr vz vA) (zg (zO xC (zO xC (ze 1 rfl Qq jT jU) zo) (zO Zl (zO xC (ze 10 rfl Qp Qc Qd) (zO jv zo (ze 11 rfl Qo Qa Qb))) zo)) zk yM) zf) jV zf (zC yM zu)) (zO jv (zO jv zo (ze 10 rfl Qp Qc Qd)) (ze 10 rfl Qp Qc Qd))) (zO jv (zO jv zo (ze 11 rfl Qo Qa Qb)) (ze 11 rfl Qo Qa Qb))))
  (zj (xA (IW.t (Zs (yS rfl (vW hr.units) (ze 8 rfl zeB zec zed) zo (yP _)) (Zr (yS rfl (vX hr.units) (zR (zQ (hall 14) rfl) hr ZZ T.m14 T.f14.kp (T.b14) (zg (ze 12 rfl zoq znu znv) (zg zo (zg (yv hr.units (xz (zg zo (zg zo (zg zo zk zA) zA) zA)) (zO wT (ze 8 rfl zeB zec zed) zo) (fun _ _=>rfl)) zk yN) zA) zf) ZU zf (zC zA (zC yN zu))) zo (yP _))))) (zj (jA 9 rfl gu (yV (zg (zO xC (ze 6 rfl zey zd8 zd9) (ze 10 rfl Qp Qc Qd)) (zg (zO xC (ze 7 rfl zex zd6 zd7) (ze 11 rfl Qo Qa Qb)) zk yM) yM)) xh vO vP)
  zw) zw)
  zw)))
  zw))
  (zj (xA (vI (wk (ze 9 rfl gu vO vP) (kz _) kq)) (zj (zY 9 wN.nd rfl zeC (xz (zg (yV (zg (ze 6 rfl zey zd8 zd9) (zg (ze 7 rfl zex zd6 zd7) zk zf) zf)) zk xh)))
  zw) zw)
  (zj (yA (VW ziZ zoA T.z_tuple PyProof.Rows.boot_tuple (zg (zjo (ze 9 rfl gu vO vP) (ze 2 rfl zop zns znt)) zk yN) qZ qY yN zu))
  zw))))))))))
theorem zqT(T:Txt K mg F FD TK)(hall: ∀i,FnOk Pg w K mg base zD n (F i) (FD i) (zp i) (zZ K (zq U fuel n) i (yo i)))(cdv:Value)(A:Around)(outer:List PySem.Env)(s:Shared)(H:Hp)(E:XK)
  (hr:Room n (A.deeper (envOfC "_law_leap" (zb (za 42)) s.heap.objs.size (F 16) cdv))):
  ISs (yf zD Pg w K mg base ["_law_cell_here","_law_some"] "_law_leap" (zb (za 42)) (F 16) cdv A outer s H E).nox (zr (zq U fuel n) fuel Xy) (zt (za 42)):=
 (zj (zY 1 zeE.nd rfl zoD (xz (zg (yV (zg zo (zg zo zk zA) zA)) (zg (yV (zg zo (zg zo zk zA) zA)) (zg (yV (zg zo (zg zo zk zA) zA)) (zg (yV (zg zo (zg zo zk zA) zA)) (zg (yV (zg zo (zg zo zk zA) zA)) (zg (yV (zg zo (zg zo zk zA) zA)) (zg (yV (zg zo (zg zo zk zA) zA)) (zg (yV (zg zo (zg zo zk zA) zA)) (zg (yV (zg zo (zg zo zk zA) zA)) (zg (yV (zg zo (zg zo zk zA) zA)) (zg (yV (zg zo (zg zo zk zA) zA)) (zg (yV (zg zo (zg zo zk zA) zA)) (zg (yV (zg zo (zg zo zk zA) zA)) zk xh) xh) xh) xh) xh) xh) xh) xh) xh) xh) xh) xh) xh)))
  (zj (yA (yv hr.units (zO xC (ze 1 rfl zoB znw znx) (xz (zg (yV (zg zo (zg zo zk zA) zA)) (zg (yV (zg zo (zg zo zk zA) zA)) (zg (yV (zg zo (zg zo zk zA) zA)) (zg (yV (zg zo (zg zo zk zA) zA)) (zg (yV (zg zo (zg zo zk zA) zA)) (zg (yV (zg zo (zg zo zk zA) zA)) zk xh) xh) xh) xh) xh) xh))) (zO Zl (ze 0 rfl zoC wL wM) zo) (fun _ _=>rfl)))
  zw))
theorem zqU(T:Txt K mg F FD TK)(hall: ∀i,FnOk Pg w K mg base zD n (F i) (FD i) (zp i) (zZ K (zq U fuel n) i (yo i)))(cdv:Value)(A:Around)(outer:List PySem.Env)(s:Shared)(H:Hp)(E:XK)
  (hr:Room n (A.deeper (envOfC "_law_is_near" (zb (za 43)) s.heap.objs.size (F 17) cdv))):
  ISs (yf zD Pg w K mg base ["_law_leap_here","_law_one","_law_other"] "_law_is_near" (zb (za 43)) (F 17) cdv A outer s H E).nox (zr (zq U fuel n) fuel Xz) (zt (za 43)):=
 (zj (yA (Zq (vW hr.units) (yk zbV zoG T.z_sorted PyProof.Rows.boot_sorted (zg (xz (zg (yk Zo zeH T.z_abs (by decide+kernel) (zg (zO wT (yv hr.units (ze 1 rfl zeF zee zef) zo (fun _ _=>rfl)) (yv hr.units (ze 2 rfl zeG ZV ZW) zo (fun _ _=>rfl))) zk yM) ZR ZQ yM zu) (zg (yk Zo zeH T.z_abs (by decide+kernel) (zg (zO wT (yv hr.units (ze 1 rfl zeF zee zef) zo (fun _ _=>rfl)) (yv hr.units (ze 2 rfl zeG ZV ZW) zo (fun _ _=>rfl))) zk yM) ZR ZQ yM zu) zk yj) yj)) zk ko) zeh zeg ko zu) (VW kj zoH T.z_list PyProof.Rows.boot_list (zg (ze 0 rfl zoF jh ji) zk zf) Qg Qf zf zu) (yP _)))
  zw)
theorem zqV(T:Txt K mg F FD TK)(hall: ∀i,FnOk Pg w K mg base zD n (F i) (FD i) (zp i) (zZ K (zq U fuel n) i (yo i)))(cdv:Value)(A:Around)(outer:List PySem.Env)(s:Shared)(H:Hp)(E:XK)
  (hr:Room n (A.deeper (envOfC "_law_near" (zb (za 44)) s.heap.objs.size (F 18) cdv))):
  ISs (yf zD Pg w K mg base ["_law_floor_here","_law_leap_here","_law_cell_here"] "_law_near" (zb (za 44)) (F 18) cdv A outer s H E).nox (zr (zq U fuel n) fuel XA) (zt (za 44)):=
 (zj (yA (Zw rfl (wF (sc:=zb (za 44)) (N:=["_law_floor_here","_law_leap_here","_law_cell_here"]) rfl rfl (by decide+kernel)) (wW (ze 0 rfl zoJ vB vC)) (.inr ⟨_,rfl,fun _ _ _ _=>(wk (zR (zQ (hall 17) rfl) hr (Zx (by decide+kernel)) T.m17 T.f17.kp (T.b17) (zg (ze 2 rfl (xD (by decide+kernel)) jh ji) (zg (ze 3 rfl (xD (by decide+kernel)) wL wM) (zg (ze 0 rfl (xp (by decide+kernel)) ZV ZW) zk zf) zf) zf) zny zf (zC zf (zC zf zu))) (jy _ _) wU)⟩) (fun _ _ _ _=>(ze 0 rfl (xp (by decide+kernel)) ZV ZW))))
  zw)
theorem zqW(T:Txt K mg F FD TK)(hall: ∀i,FnOk Pg w K mg base zD n (F i) (FD i) (zp i) (zZ K (zq U fuel n) i (yo i)))(cdv:Value)(A:Around)(outer:List PySem.Env)(s:Shared)(H:Hp)(E:XK)
  (hr:Room n (A.deeper (envOfC "leads_to" (zb (za 22)) s.heap.objs.size (F 20) cdv))):
  ISs (yf zD Pg w K mg base ["floor","leap","goal","leads","edge","further","cell","other"] "leads_to" (zb (za 22)) (F 20) cdv A outer s H E).nox (zr (zq U fuel n) fuel XB) (zt (za 22)):=
 (zj (zY 3 jW.nd rfl zoP (zju hr.units (ze 2 rfl zeL zdP zdQ) YN))
  (zj (zY 4 jW.nd rfl zeM (xz (zg (ze 2 rfl zeL zdP zdQ) zk zf)))
  (zj (YW PassesOwn.never (yS rfl (vX hr.units) (yk xo zoQ T.z_len PySem.boot_len (zg (ze 4 rfl zeI zdL zdM) zk zf) xu xt zf zu) zo (yP _)) (zj (zY 5 jW.nd rfl zoO (xz zk))
  (zj (jC 6 4 PassesOwn.never rfl jW.nd rfl zoN rfl zeI (zj (jB 7 PassesOwn.never rfl jW.nd rfl zoM (wW (zR (zQ (hall 11) rfl) hr zoR T.m11 T.f11.kp (T.b11) (zg (ze 0 rfl zoL yJ yK) (zg (ze 1 rfl zoK wp wq) (zg (ze 6 rfl zeK wJ wK) zk zf) zf) zf) znb zf (zC zf (zC zf zu)))) (zj (xA (yS rfl (Zm hr.units) (ze 7 rfl gx jf jg) (ze 3 rfl gw Ve Vf) (by with_unfolding_all rfl)) (zj (kN 3 hr.units rfl gw (ze 7 rfl gx jf jg) (ze 6 rfl zeK wJ wK) Ve Vf)
  (zj (jA 5 rfl zeJ (ze 7 rfl gx jf jg) zf zdN zdO)
  zw)) zw)
  zw))
  zw) (hd:=zdL) (hcd:=zdM))
  (zj (zbk 4 5 jW.nd rfl zeM rfl zeJ (hd:=zdN) (hcd:=zdO))
  zw))))
  (zj (wV 3 rfl gw Ve Vf)
  zw))))
theorem zqX(T:Txt K mg F FD TK)(hall: ∀i,FnOk Pg w K mg base zD n (F i) (FD i) (zp i) (zZ K (zq U fuel n) i (yo i)))(cdv:Value)(A:Around)(outer:List PySem.Env)(s:Shared)(H:Hp)(E:XK)
  (hr:Room n (A.deeper (envOfC "parts_within" (zb (za 23)) s.heap.objs.size (F 30) cdv))):
  ISs (yf zD Pg w K mg base ["cells","leap","parts","placed","cell","leads"] "parts_within" (zb (za 23)) (F 30) cdv A outer s H E).nox (zr (zq U fuel n) fuel XD) (zt (za 23)):=
 (zj (zY 2 Vk.nd rfl zoW (xz zk))
  (zj (zY 3 Vk.nd rfl zoV (kL true))
  (zj (jC 4 0 PassesOwn.never rfl Vk.nd rfl zoU rfl zeR (zj (xA (yS rfl (Zm hr.units) (ze 4 rfl zeO wJ wK) (ze 3 rfl zeP zdR zdS) (by with_unfolding_all rfl)) (zj (zY 5 Vk.nd rfl zoT (zR (zQ (hall 20) rfl) hr zoY T.m20 T.f20.kp (T.b20) (zg (ze 0 rfl zeR jN jO) (zg (ze 1 rfl zoS wp wq) (zg (ze 4 rfl zeO wJ wK) zk zf) zf) zf) znc zf (zC zf (zC zf zu))))
  (zj (zjV 3 5 hr.units rfl zeP rfl zeQ zf zdR zdS Ve Vf)
  (zj (jA 2 rfl zeN (zjN rfl zoX T.z_sorted (ze 5 rfl zeQ Ve Vf) (hst:=yj)) yj JS JT)
  zw))) zw)
  zw) (hd:=jN) (hcd:=jO))
  (zj (wV 2 rfl zeN JS JT)
  zw))))
theorem zqY(T:Txt K mg F FD TK)(hall: ∀i,FnOk Pg w K mg base zD n (F i) (FD i) (zp i) (zZ K (zq U fuel n) i (yo i)))(cdv:Value)(A:Around)(outer:List PySem.Env)(s:Shared)(H:Hp)(E:XK)
  (hr:Room n (A.deeper (envOfC "_law_parts" (zb (za 45)) s.heap.objs.size (F 32) cdv))):
  ISs (yf zD Pg w K mg base ["_law_floor_here","_law_leap_here","_law_found","_law_left","_law_part","_law_at"] "_law_parts" (zb (za 45)) (F 32) cdv A outer s H E).nox (zr (zq U fuel n) fuel XF) (zt (za 45)):=
 (zj (zY 2 jj.nd rfl zo1 (xz zk))
  (zj (zY 3 jj.nd rfl zo0 (VW kj zo6 T.z_list PyProof.Rows.boot_list (zg (ze 0 rfl zeT vB vC) zk zf) Qg Qf zf zu))
  (zj (YW PassesOwn.never (wk (ze 3 rfl gy Qh Qi) (kz _) kq) (zj (zY 4 jj.nd rfl zeV (xz (zg (yv hr.units (ze 3 rfl gy Qh Qi) zo (fun _ _=>rfl)) zk yN)))
  (zj (zY 5 jj.nd rfl zeU zo)
  (zj (YW PassesOwn.never (yS rfl (Zn hr.units) (ze 5 rfl gz jT jU) (yk xo zo4 T.z_len PySem.boot_len (zg (ze 4 rfl Qt ZX ZY) zk zf) xu xt zf zu) (yP _)) (zj (zY 4 jj.nd rfl zeV (zO xC (ze 4 rfl Qt ZX ZY) (Zw rfl (wF (sc:=zb (za 45)) (N:=["_law_floor_here","_law_leap_here","_law_found","_law_left","_law_part","_law_at"]) rfl rfl (by decide+kernel)) (wW (zR (zQ (hall 18) rfl) hr zo5 T.m18 T.f18.kp (T.b18) (zg (ze 0 rfl zeT vB vC) (zg (ze 1 rfl zoZ jh ji) (zg (yv hr.units (ze 4 rfl Qt ZX ZY) (ze 5 rfl gz jT jU) (fun _ _=>rfl)) zk yN) zf) zf) znz zf (zC zf (zC yN zu)))) (.inr ⟨_,rfl,fun _ _ _ _=>(yS rfl (Zm hr.units) (ze 0 rfl (xp (by decide+kernel)) ZV ZW) (ze 5 rfl (xD (by decide+kernel)) ZX ZY) (by with_unfolding_all rfl))⟩) (fun _ _ _ _=>(ze 0 rfl (xp (by decide+kernel)) ZV ZW)))))
  (zj (zY 5 jj.nd rfl zeU (zO xC (ze 5 rfl gz jT jU) zo))
  zw)))
  (zj (jA 2 rfl zeS (yk zbV zo3 T.z_sorted PyProof.Rows.boot_sorted (zg (ze 4 rfl Qt ZX ZY) zk zf) zeh zeg zf zu) yj vO vP)
  (zj (YX 3 rfl jj.nd rfl zo2 (wF (sc:=zb (za 45)) (N:=["_law_floor_here","_law_leap_here","_law_found","_law_left","_law_part","_law_at"]) rfl rfl (by decide+kernel)) (wW (ze 3 rfl gy Qh Qi)) (.inr ⟨_,rfl,fun _ _ _ _=>(yS rfl (Zm hr.units) (ze 0 rfl (xp (by decide+kernel)) wL wM) (ze 5 rfl (xD (by decide+kernel)) ZX ZY) (by with_unfolding_all rfl))⟩) (fun _ _ _ _=>(ze 0 rfl (xp (by decide+kernel)) wL wM)) (hsw:=(Xa (sc:=zb (za 45)) rfl (by decide+kernel))))
  zw))))))
  (zj (wV 2 rfl zeS vO vP)
  zw))))
theorem zqZ(T:Txt K mg F FD TK)(hall: ∀i,FnOk Pg w K mg base zD n (F i) (FD i) (zp i) (zZ K (zq U fuel n) i (yo i)))(cdv:Value)(A:Around)(outer:List PySem.Env)(s:Shared)(H:Hp)(E:XK)
  (hr:Room n (A.deeper (envOfC "refuse_big" (zb (za 27)) s.heap.objs.size (F 61) cdv))):
  ISs (yf zD Pg w K mg base ["floor","most"] "refuse_big" (zb (za 27)) (F 61) cdv A outer s H E).nox (zr (zq U fuel n) fuel XG) (zt (za 27)):=
 (zj (xA (yS rfl (vX hr.units) (yk xo zpa T.z_len PySem.boot_len (zg (ze 0 rfl zo8 yJ yK) zk zf) xu xt zf zu) (ze 1 rfl zo9 zdw zdx) (yP _)) (zj Jd
  zw) zw)
  zw)
theorem zq0(T:Txt K mg F FD TK)(hall: ∀i,FnOk Pg w K mg base zD n (F i) (FD i) (zp i) (zZ K (zq U fuel n) i (yo i)))(cdv:Value)(A:Around)(outer:List PySem.Env)(s:Shared)(H:Hp)(E:XK)
  (hr:Room n (A.deeper (envOfC "bits_near" (zb (za 28)) s.heap.objs.size (F 62) cdv))):
  ISs (yf zD Pg w K mg base ["floor","leap","cell"] "bits_near" (zb (za 28)) (F 62) cdv A outer s H E).nox (zr (zq U fuel n) fuel XH) (zt (za 28)):=
 (zj (yA (yk (zjE rfl) zpe T.z_sum PyProof.Rows.boot_sum (zg (zkF rfl (zkG (sc:=zb (za 28)) (N:=["floor","leap","cell"]) rfl rfl (by decide+kernel)) zpd T.z_enumerate (ze 0 rfl zpc yJ yK) zf (fun _ _ _ _=>(wk (zR (zQ (hall 10) rfl) hr (Zx (by decide+kernel)) T.m10 T.f10.kp (T.b10) (zg (ze 3 rfl (xD (by decide+kernel)) wp wq) (zg (ze 4 rfl (xD (by decide+kernel)) wJ wK) (zg (ze 1 rfl (xp (by decide+kernel)) jf jg) zk zf) zf) zf) zdK zf (zC zf (zC zf zu))) (jy _ _) wU)) (fun _ _ _ _=>(zO vZ zo (ze 0 rfl (xp (by decide+kernel)) wZ vc)))) zk Zp) zne znd Zp zu))
  zw)
theorem zq1(T:Txt K mg F FD TK)(hall: ∀i,FnOk Pg w K mg base zD n (F i) (FD i) (zp i) (zZ K (zq U fuel n) i (yo i)))(cdv:Value)(A:Around)(outer:List PySem.Env)(s:Shared)(H:Hp)(E:XK)
  (hr:Room n (A.deeper (envOfC "one_cell_walks" (zb (za 29)) s.heap.objs.size (F 63) cdv))):
  ISs (yf zD Pg w K mg base ["count","starts","layer","place"] "one_cell_walks" (zb (za 29)) (F 63) cdv A outer s H E).nox (zr (zq U fuel n) fuel XI) (zt (za 29)):=
 (zj (zY 2 gA.nd rfl zpi (kL false))
  (zj (jB 3 PassesOwn.never rfl gA.nd rfl zph (YU zpj T.z_range (zg (ze 0 rfl zpf znf zng) zk zf) zf) (zj (xA (yS rfl (kh hr.units) (zO Xe (ze 1 rfl zpg ga gb) (zO vZ zo (ze 3 rfl gB wZ vc))) zo (yP _)) (zj (kN 2 hr.units rfl zeW (zO vZ zo (ze 3 rfl gB wZ vc)) (zO vZ zo (ze 3 rfl gB wZ vc)) Vg Vh)
  zw) zw)
  zw))
  (zj (wV 2 rfl zeW Vg Vh)
  zw)))
theorem zq2(T:Txt K mg F FD TK)(hall: ∀i,FnOk Pg w K mg base zD n (F i) (FD i) (zp i) (zZ K (zq U fuel n) i (yo i)))(cdv:Value)(A:Around)(outer:List PySem.Env)(s:Shared)(H:Hp)(E:XK)
  (hr:Room n (A.deeper (envOfC "one_cell_longer" (zb (za 30)) s.heap.objs.size (F 64) cdv))):
  ISs (yf zD Pg w K mg base ["near","layer","longer","visited","place","bit"] "one_cell_longer" (zb (za 30)) (F 64) cdv A outer s H E).nox (zr (zq U fuel n) fuel XJ) (zt (za 30)):=
 (zj (zY 2 Vl.nd rfl zpn (kL false))
  (zj (zkr 3 1 PassesOwn.never rfl Vl.nd rfl zpm rfl zeY (zj (jB 4 PassesOwn.never rfl Vl.nd rfl zpl (YU zpp T.z_range (zg (yk xo zpo T.z_len PySem.boot_len (zg (ze 0 rfl zeX vx vy) zk zf) xu xt zf zu) zk yj) yj) (zj (zY 5 Vl.nd rfl zpk (zO vZ zo (ze 4 rfl zeZ wZ vc)))
  (zj (xA (IW.t (zbc (yS rfl (vW hr.units) (zO Xe (ze 3 rfl Qu jP jQ) (ze 5 rfl Qv JU JV)) zo (yP _)) (zbb (yS rfl (kh hr.units) (zO Xe (yv hr.units (ze 1 rfl zeY Vg Vh) (ze 3 rfl Qu jP jQ) (fun _ _=>rfl)) (yv hr.units (ze 0 rfl zeX vx vy) (ze 4 rfl zeZ wZ vc) (fun _ _=>rfl))) zo (yP _))))) (zj (kN 2 hr.units rfl gC (zO qb (ze 3 rfl Qu jP jQ) (ze 5 rfl Qv JU JV)) (zO qb (zb9 hr.units (ze 2 rfl gC gc gd) (zO qb (ze 3 rfl Qu jP jQ) (ze 5 rfl Qv JU JV)) zo (zce yM zA)) (ze 5 rfl Qv JU JV)) gc gd)
  zw) zw)
  zw)))
  zw) (hd:=Vg) (hcd:=Vh))
  (zj (wV 2 rfl gC gc gd)
  zw)))
theorem zq3(T:Txt K mg F FD TK)(hall: ∀i,FnOk Pg w K mg base zD n (F i) (FD i) (zp i) (zZ K (zq U fuel n) i (yo i)))(cdv:Value)(A:Around)(outer:List PySem.Env)(s:Shared)(H:Hp)(E:XK)
  (hr:Room n (A.deeper (envOfC "layers_from" (zb (za 31)) s.heap.objs.size (F 65) cdv))):
  ISs (yf zD Pg w K mg base ["near","starts","layers"] "layers_from" (zb (za 31)) (F 65) cdv A outer s H E).nox (zr (zq U fuel n) fuel XM) (zt (za 31)):=
 (zj (zY 2 ze0.nd rfl zpr (xz (zg (zR (zQ (hall 63) rfl) hr zpt T.m63 T.f63.kp (T.b63) (zg (yk xo gE T.z_len PySem.boot_len (zg (ze 0 rfl gD vx vy) zk zf) xu xt zf zu) (zg (ze 1 rfl zpq ga gb) zk zf) yj) zni yj (zC zf zu)) zk yj)))
  (zj (YW PassesOwn.never (yS rfl (Zn hr.units) (yk xo gE T.z_len PySem.boot_len (zg (ze 2 rfl Qw ZS ZT) zk zf) xu xt zf zu) (yk xo gE T.z_len PySem.boot_len (zg (ze 0 rfl gD vx vy) zk zf) xu xt zf zu) (yP _)) (zj (jA 2 rfl Qw (zR (zQ (hall 64) rfl) hr zps T.m64 T.f64.kp (T.b64) (zg (ze 0 rfl gD vx vy) (zg (yv hr.units (ze 2 rfl Qw ZS ZT) (VV VQ zo) (fun _ _=>rfl)) zk yN) zf) znh zf (zC yN zu)) yj ZS ZT)
  zw))
  (zj (wV 2 rfl Qw ZS ZT)
  zw)))
theorem zq4(T:Txt K mg F FD TK)(hall: ∀i,FnOk Pg w K mg base zD n (F i) (FD i) (zp i) (zZ K (zq U fuel n) i (yo i)))(cdv:Value)(A:Around)(outer:List PySem.Env)(s:Shared)(H:Hp)(E:XK)
  (hr:Room n (A.deeper (envOfC "walk_between" (zb (za 32)) s.heap.objs.size (F 66) cdv))):
  ISs (yf zD Pg w K mg base ["floor","near","starts","ends","layers","visited","cells","layer","place"] "walk_between" (zb (za 32)) (F 66) cdv A outer s H E).nox (zr (zq U fuel n) fuel ZG) (zt (za 32)):=
 (zj (zY 4 jk.nd rfl zpA (zR (zQ (hall 65) rfl) hr zpD T.m65 T.f65.kp (T.b65) (zg (ze 1 rfl ze3 vx vy) (zg (ze 2 rfl zpv ga gb) zk zf) zf) znj zf (zC zf zu)))
  (zj (zY 5 jk.nd rfl ze6 (zO wT (zO vZ zo (yk xo zpC T.z_len PySem.boot_len (zg (ze 0 rfl ze4 yJ yK) zk zf) xu xt zf zu)) zo))
  (zj (xA (yS rfl (vW hr.units) (zO Xe (zb9 hr.units (yv hr.units (ze 4 rfl ze2 ZS ZT) (VV VQ zo) (fun _ _=>rfl)) (ze 5 rfl gG jP jQ) zo (zce zf zA)) (ze 3 rfl ze5 zdT zdU)) zo (yP _)) (zj (yA YN)
  zw) zw)
  (zj (zY 6 jk.nd rfl zpz (xz zk))
  (zj (kO _ (jB 7 PassesOwn.never rfl jk.nd rfl zpy (zkh zpB T.z_reversed (zg (ze 4 rfl ze2 ZS ZT) zk zf) zf) (zj (zY 8 jk.nd rfl zpx (zO wT (zkc (zO Xe (yv hr.units (ze 7 rfl zpu Vg Vh) (ze 5 rfl gG jP jQ) (fun _ _=>rfl)) (ze 3 rfl ze5 zdT zdU))) zo))
  (zj (jA 6 rfl ze1 (yv hr.units (ze 0 rfl ze4 yJ yK) (ze 8 rfl gF wZ vc) (fun _ _=>rfl)) yN jN jO)
  (zj (zY 5 jk.nd rfl ze6 (zO zka (ze 5 rfl gG jP jQ) (zO vZ zo (ze 8 rfl gF wZ vc))))
  (zj (zY 3 jk.nd rfl zpw (yv hr.units (ze 1 rfl ze3 vx vy) (ze 8 rfl gF wZ vc) (fun _ _=>rfl)))
  zw))))))
  (zj (wV 6 rfl ze1 jN jO)
  zw))))))
theorem zq5(T:Txt K mg F FD TK)(hall: ∀i,FnOk Pg w K mg base zD n (F i) (FD i) (zp i) (zZ K (zq U fuel n) i (yo i)))(cdv:Value)(A:Around)(outer:List PySem.Env)(s:Shared)(H:Hp)(E:XK)
  (hr:Room n (A.deeper (envOfC "walk" (zb (za 33)) s.heap.objs.size (F 67) cdv))):
  ISs (yf zD Pg w K mg base ["floor","leap","near","anywhere"] "walk" (zb (za 33)) (F 67) cdv A outer s H E).nox (zr (zq U fuel n) fuel ZH) (zt (za 33)):=
 (zj (vJ (zR (zQ (hall 6) rfl) hr zpN T.m6 T.f6.kp (T.b6) (zg (ze 0 rfl Vm yJ yK) zk zf) gh zf zu))
  (zj (vJ (zR (zQ (hall 7) rfl) hr zpM T.m7 T.f7.kp (T.b7) (zg (ze 1 rfl zpF wp wq) zk zf) gg zf zu))
  (zj (vJ (zR (zQ (hall 61) rfl) hr zpL T.m61 T.f61.kp (T.b61) (zg (ze 0 rfl Vm yJ yK) (zg (jw zpK T.c3 zdZ) zk zf) zf) gf zf (zC zf zu)))
  (zj (YX 2 rfl gH.nd rfl zpH (wF (sc:=zb (za 33)) (N:=["floor","leap","near","anywhere"]) rfl rfl (by decide+kernel)) (wW (ze 0 rfl Vm yJ yK)) (.inl ⟨rfl,rfl⟩) (fun _ _ _ _=>(zR (zQ (hall 62) rfl) hr (Zx (by decide+kernel)) T.m62 T.f62.kp (T.b62) (zg (ze 1 rfl (xD (by decide+kernel)) yJ yK) (zg (ze 2 rfl (xD (by decide+kernel)) wp wq) (zg (ze 0 rfl (xp (by decide+kernel)) wJ wK) zk zf) zf) zf) zdY zf (zC zf (zC zf zu)))) (hsw:=(Xa (sc:=zb (za 33)) rfl (by decide+kernel))))
  (zj (zY 3 gH.nd rfl zpG (zO wT (zO vZ zo (yk xo zpJ T.z_len PySem.boot_len (zg (ze 0 rfl Vm yJ yK) zk zf) xu xt zf zu)) zo))
  (zj (yA (zR (zQ (hall 66) rfl) hr zpI T.m66 T.f66.kp (T.b66) (zg (ze 0 rfl Vm yJ yK) (zg (ze 2 rfl zpE vx vy) (zg (ze 3 rfl ze7 zdV zdW) (zg (ze 3 rfl ze7 zdV zdW) zk zf) zf) zf) zf) zdX zf (zC zf (zC zf (zC zf zu)))))
  zw))))))
theorem zq6(T:Txt K mg F FD TK)(hall: ∀i,FnOk Pg w K mg base zD n (F i) (FD i) (zp i) (zZ K (zq U fuel n) i (yo i)))(cdv:Value)(A:Around)(outer:List PySem.Env)(s:Shared)(H:Hp)(E:XK)
  (hr:Room n (A.deeper (envOfC "ring_walk" (zb (za 34)) s.heap.objs.size (F 68) cdv))):
  ISs (yf zD Pg w K mg base ["floor","leap","near"] "ring_walk" (zb (za 34)) (F 68) cdv A outer s H E).nox (zr (zq U fuel n) fuel jJ) (zt (za 34)):=
 (zj (vJ (zR (zQ (hall 6) rfl) hr zpV T.m6 T.f6.kp (T.b6) (zg (ze 0 rfl Vn yJ yK) zk zf) gh zf zu))
  (zj (vJ (zR (zQ (hall 7) rfl) hr zpU T.m7 T.f7.kp (T.b7) (zg (ze 1 rfl zpO wp wq) zk zf) gg zf zu))
  (zj (vJ (zR (zQ (hall 61) rfl) hr zpT T.m61 T.f61.kp (T.b61) (zg (ze 0 rfl Vn yJ yK) (zg (jw zpS T.c3 zdZ) zk zf) zf) gf zf (zC zf zu)))
  (zj (xA (yS rfl (Zn hr.units) (yk xo zpR T.z_len PySem.boot_len (zg (ze 0 rfl Vn yJ yK) zk zf) xu xt zf zu) zo (yP _)) (zj (yA YN)
  zw) zw)
  (zj (YX 2 rfl ze8.nd rfl zpP (wF (sc:=zb (za 34)) (N:=["floor","leap","near"]) rfl rfl (by decide+kernel)) (wW (ze 0 rfl Vn yJ yK)) (.inl ⟨rfl,rfl⟩) (fun _ _ _ _=>(zR (zQ (hall 62) rfl) hr (Zx (by decide+kernel)) T.m62 T.f62.kp (T.b62) (zg (ze 1 rfl (xD (by decide+kernel)) yJ yK) (zg (ze 2 rfl (xD (by decide+kernel)) wp wq) (zg (ze 0 rfl (xp (by decide+kernel)) wJ wK) zk zf) zf) zf) zdY zf (zC zf (zC zf zu)))) (hsw:=(Xa (sc:=zb (za 34)) rfl (by decide+kernel))))
  (zj (yA (zR (zQ (hall 66) rfl) hr zpQ T.m66 T.f66.kp (T.b66) (zg (ze 0 rfl Vn yJ yK) (zg (ze 2 rfl ze9 vx vy) (zg zo (zg (yv hr.units (ze 2 rfl ze9 vx vy) zo (fun _ _=>rfl)) zk yN) zA) zf) zf) zdX zf (zC zf (zC zA (zC yN zu)))))
  zw))))))
theorem zq7(T:Txt K mg F FD TK)(hall: ∀i,FnOk Pg w K mg base zD n (F i) (FD i) (zp i) (zZ K (zq U fuel n) i (yo i)))(cdv:Value)(A:Around)(outer:List PySem.Env)(s:Shared)(H:Hp)(E:XK)
  (hr:Room n (A.deeper (envOfC "leaves_too_many" (zb (za 35)) s.heap.objs.size (F 69) cdv))):
  ISs (yf zD Pg w K mg base ["floor","leap","spare","cut","rest","parts"] "leaves_too_many" (zb (za 35)) (F 69) cdv A outer s H E).nox (zr (zq U fuel n) fuel XN) (zt (za 35)):=
 (zj (YX 4 rfl gI.nd rfl zp2 (wF (sc:=zb (za 35)) (N:=["floor","leap","spare","cut","rest","parts"]) rfl rfl (by decide+kernel)) (wW (ze 0 rfl zp0 yJ yK)) (.inr ⟨_,rfl,fun _ _ _ _=>(yS rfl (Zm hr.units) (ze 0 rfl (xp (by decide+kernel)) wJ wK) (ze 4 rfl (xD (by decide+kernel)) jR jS) (by with_unfolding_all rfl))⟩) (fun _ _ _ _=>(ze 0 rfl (xp (by decide+kernel)) wJ wK)) (hsw:=(Xa (sc:=zb (za 35)) rfl (by decide+kernel))))
  (zj (kO _ (zY 5 gI.nd rfl zp1 (yk xo zfb T.z_len PySem.boot_len (zg (zR (zQ (hall 30) rfl) hr zp3 T.m30 T.f30.kp (T.b30) (zg (ze 4 rfl zpZ znk znl) (zg (ze 1 rfl zpY wp wq) zk zf) zf) znm zf (zC zf zu)) zk yj) xu xt yj zu)))
  (zj (yA (jx (Zq (vX hr.units) (ze 5 rfl zfa JS JT) (zO xC (yk xo zfb T.z_len PySem.boot_len (zg (ze 3 rfl zpW jR jS) zk zf) xu xt zf zu) (ze 2 rfl zpX gk gp)) (yP _)) (YR (Zq (vX hr.units) (ze 5 rfl zfa JS JT) zo (yP _)))))
  zw)))
theorem zq8(T:Txt K mg F FD TK)(hall: ∀i,FnOk Pg w K mg base zD n (F i) (FD i) (zp i) (zZ K (zq U fuel n) i (yo i)))(cdv:Value)(A:Around)(outer:List PySem.Env)(s:Shared)(H:Hp)(E:XK)
  (hr:Room n (A.deeper (envOfC "one_cell_more" (zb (za 36)) s.heap.objs.size (F 70) cdv))):
  ISs (yf zD Pg w K mg base ["floor","cuts","wider","cut","cell"] "one_cell_more" (zb (za 36)) (F 70) cdv A outer s H E).nox (zr (zq U fuel n) fuel XQ) (zt (za 36)):=
 (zj (zY 2 Qx.nd rfl zp8 (xz zk))
  (zj (jC 3 1 PassesOwn.never rfl Qx.nd rfl zp7 rfl zp5 (zj (jC 4 0 PassesOwn.never rfl Qx.nd rfl zp6 rfl zp4 (zj (xA (IW.t (Zs (yS rfl (vW hr.units) (yk xo zp9 T.z_len PySem.boot_len (zg (ze 3 rfl gJ jR jS) zk zf) xu xt zf zu) zo (yP _)) (Zr (yS rfl (vX hr.units) (ze 4 rfl zfd wJ wK) (yv hr.units (ze 3 rfl gJ jR jS) (VV VQ zo) (fun _ _=>rfl)) (yP _))))) (zj (jA 2 rfl zfc (zO xC (ze 3 rfl gJ jR jS) (xz (zg (ze 4 rfl zfd wJ wK) zk zf))) yM zd0 zd1)
  zw) zw)
  zw) (hd:=yJ) (hcd:=yK))
  zw) (hd:=JW) (hcd:=JX))
  (zj (wV 2 rfl zfc zd0 zd1)
  zw)))
theorem zq9(T:Txt K mg F FD TK)(hall: ∀i,FnOk Pg w K mg base zD n (F i) (FD i) (zp i) (zZ K (zq U fuel n) i (yo i)))(cdv:Value)(A:Around)(outer:List PySem.Env)(s:Shared)(H:Hp)(E:XK)
  (hr:Room n (A.deeper (envOfC "cut_of" (zb (za 37)) s.heap.objs.size (F 71) cdv))):
  ISs (yf zD Pg w K mg base ["floor","leap","spare","cuts","cut"] "cut_of" (zb (za 37)) (F 71) cdv A outer s H E).nox (zr (zq U fuel n) fuel ZI) (zt (za 37)):=
 (zj (vJ (zR (zQ (hall 6) rfl) hr zqh T.m6 T.f6.kp (T.b6) (zg (ze 0 rfl Vo yJ yK) zk zf) gh zf zu))
  (zj (vJ (zR (zQ (hall 7) rfl) hr zqg T.m7 T.f7.kp (T.b7) (zg (ze 1 rfl zfg wp wq) zk zf) gg zf zu))
  (zj (vJ (zR (zQ (hall 61) rfl) hr zqf T.m61 T.f61.kp (T.b61) (zg (ze 0 rfl Vo yJ yK) (zg (jw zqe T.c4 znp) zk zf) zf) gf zf (zC zf zu)))
  (zj (xA (vI (wk (zR (zQ (hall 0) rfl) hr zqd T.m0 T.f0.kp (T.b0) (zg (ze 2 rfl zff gk gp) (zg zo (zg zo zk zA) zA) zf) Vd zf (zC zA (zC zA zu))) (jy _ _) wU)) (zj Jd
  zw) zw)
  (zj (zY 3 Qy.nd rfl zfh (xz (zg (xz zk) zk ko)))
  (zj (YW PassesOwn.never (yS rfl (Zn hr.units) (zO jv zo (yk xo zfi T.z_len PySem.boot_len (zg (yv hr.units (ze 3 rfl gK JW JX) zo (fun _ _=>rfl)) zk yN) xu xt yN zu)) (yk xo zfi T.z_len PySem.boot_len (zg (ze 0 rfl Vo yJ yK) zk zf) xu xt zf zu) (yP _)) (zj (jC 4 3 PassesOwn.never rfl Qy.nd rfl zqa rfl gK (zj (xA (wk (zR (zQ (hall 69) rfl) hr zqc T.m69 T.f69.kp (T.b69) (zg (ze 0 rfl Vo yJ yK) (zg (ze 1 rfl zfg wp wq) (zg (ze 2 rfl zff gk gp) (zg (ze 4 rfl zfe jR jS) zk zf) zf) zf) zf) zno zf (zC zf (zC zf (zC zf zu)))) (jy _ _) wU) (zj (wV 4 rfl zfe jR jS)
  zw) zw)
  zw) (hd:=JW) (hcd:=JX))
  (zj (zY 3 Qy.nd rfl zfh (zR (zQ (hall 70) rfl) hr zqb T.m70 T.f70.kp (T.b70) (zg (ze 0 rfl Vo yJ yK) (zg (ze 3 rfl gK JW JX) zk zf) zf) znn zf (zC zf zu)))
  zw)))
  (zj (yA YN)
  zw)))))))
theorem zra(T:Txt K mg F FD TK)(hall: ∀i,FnOk Pg w K mg base zD n (F i) (FD i) (zp i) (zZ K (zq U fuel n) i (yo i)))(cdv:Value)(A:Around)(outer:List PySem.Env)(s:Shared)(H:Hp)(E:XK)
  (hr:Room n (A.deeper (envOfC "_law_cut" (zb (za 46)) s.heap.objs.size (F 72) cdv))):
  ISs (yf zD Pg w K mg base ["_law_floor_here","_law_leap_here","_law_spare","_law_rows","_law_many","_law_cells","_law_left","_law_more"] "_law_cut" (zb (za 46)) (F 72) cdv A outer s H E).nox (zr (zq U fuel n) fuel ZJ) (zt (za 46)):=
 (zj (zY 3 vQ.nd rfl zfl (xz (zg (yV zk) zk xh)))
  (zj (jB 4 PassesOwn.never rfl vQ.nd rfl zqn (YU zqp T.z_range (zg (yk xo zfo T.z_len PySem.boot_len (zg (ze 0 rfl gL vB vC) zk zf) xu xt zf zu) zk yj) yj) (zj (jC 5 3 PassesOwn.never rfl vQ.nd rfl zfn rfl zfk (zj (YX 6 rfl vQ.nd rfl zqo (wF (sc:=zb (za 46)) (N:=["_law_floor_here","_law_leap_here","_law_spare","_law_rows","_law_many","_law_cells","_law_left","_law_more"]) rfl rfl (by decide+kernel)) (wW (ze 0 rfl gL vB vC)) (.inr ⟨_,rfl,fun _ _ _ _=>(yS rfl (Zm hr.units) (ze 0 rfl (xp (by decide+kernel)) wL wM) (ze 6 rfl (xD (by decide+kernel)) Vi Vj) (by with_unfolding_all rfl))⟩) (fun _ _ _ _=>(ze 0 rfl (xp (by decide+kernel)) wL wM)) (hsw:=(Xa (sc:=zb (za 46)) rfl (by decide+kernel))))
  (zj (kO _ (xA (yS rfl (vX hr.units) (yk xo zfo T.z_len PySem.boot_len (zg (zR (zQ (hall 32) rfl) hr zqq T.m32 T.f32.kp (T.b32) (zg (ze 6 rfl zqj Qh Qi) (zg (ze 1 rfl zqi jh ji) zk zf) zf) znA zf (zC zf zu)) zk yj) xu xt yj zu) (yk (za9 rfl) zqr T.z_max PyProof.Rows.boot_max (zg (zO xC (ze 4 rfl zqk zd4 zd5) (ze 2 rfl zql Qj Qk)) (zg zo zk zA) yM) zdH zdG yM (zC zA zu)) (yP _)) (zj (yA (VW kj zqs T.z_list PyProof.Rows.boot_list (zg (ze 5 rfl zqm Vi Vj) zk zf) Qg Qf zf zu))
  zw) zw))
  zw)) (hd:=JY) (hcd:=JZ))
  (zj (zY 7 vQ.nd rfl zfm (xz zk))
  (zj (jC 5 3 PassesOwn.never rfl vQ.nd rfl zfn rfl zfk (zj (zY 7 vQ.nd rfl zfm (zO xC (ze 7 rfl zfj zei zej) (Zw rfl (wF (sc:=zb (za 46)) (N:=["_law_floor_here","_law_leap_here","_law_spare","_law_rows","_law_many","_law_cells","_law_left","_law_more"]) rfl rfl (by decide+kernel)) (wW (ze 0 rfl gL vB vC)) (.inr ⟨_,rfl,fun _ _ _ _=>(IW.t (Zs (vI (wk (ze 6 rfl (xD (by decide+kernel)) Vi Vj) (kz _) kq)) (Zr (yS rfl (vX hr.units) (ze 0 rfl (xp (by decide+kernel)) wL wM) (yv hr.units (ze 6 rfl (xD (by decide+kernel)) Vi Vj) (VV VQ zo) (fun _ _=>rfl)) (yP _)))))⟩) (fun _ _ _ _=>(zO zjW (ze 6 rfl (xD (by decide+kernel)) Vi Vj) (yV (zg (ze 0 rfl (xp (by decide+kernel)) wL wM) zk zf)))))))
  zw) (hd:=JY) (hcd:=JZ))
  (zj (zbk 3 7 vQ.nd rfl zfl rfl zfj (hd:=zei) (hcd:=zej))
  zw)))))
  (zj (yA YN)
  zw)))
theorem zrb(T:Txt K mg F FD TK)(hall: ∀i,FnOk Pg w K mg base zD n (F i) (FD i) (zp i) (zZ K (zq U fuel n) i (yo i)))(cdv:Value)(A:Around)(outer:List PySem.Env)(s:Shared)(H:Hp)(E:XK)
  (hr:Room n (A.deeper (envOfC "law" (zb (za 47)) s.heap.objs.size (F 73) cdv))):
  ISs (yf zD Pg w K mg base ["_law_script","_law_floor_here","_law_leap_here","_law_spare","_law_found"] "law" (zb (za 47)) (F 73) cdv A outer s H E).nox (zr (zq U fuel n) fuel XS) (zt (za 47)):=
 (zj (zY 1 Vp.nd rfl zqw (zR (zQ (hall 15) rfl) hr zqE T.m15 T.f15.kp (T.b15) (zg (ze 0 rfl QC vz vA) (zg zo (zg (yv hr.units (xz (zg zo (zg zo zk zA) zA)) (zO Zl (zR (zQ (hall 13) rfl) hr gN T.m13 T.f13.kp (T.b13) (zg (ze 0 rfl QC vz vA) (zg zo zk zA) zf) jV zf (zC zA zu)) zo) (fun _ _=>rfl)) zk yN) zA) zf) znG zf (zC zA (zC yN zu))))
  (zj (zY 2 Vp.nd rfl zqv (zR (zQ (hall 16) rfl) hr zqD T.m16 T.f16.kp (T.b16) (zg (zR (zQ (hall 13) rfl) hr gN T.m13 T.f13.kp (T.b13) (zg (ze 0 rfl QC vz vA) (zg zo zk zA) zf) jV zf (zC zA zu)) zk yj) znF yj zu))
  (zj (zY 3 Vp.nd rfl zqu (zO Zl (zO ziV (zR (zQ (hall 13) rfl) hr gN T.m13 T.f13.kp (T.b13) (zg (ze 0 rfl QC vz vA) (zg zo zk zA) zf) jV zf (zC zA zu)) zo) zo))
  (zj (zY 4 Vp.nd rfl zqt (zR (zQ (hall 71) rfl) hr zqC T.m71 T.f71.kp (T.b71) (zg (ze 1 rfl QA vB vC) (zg (ze 2 rfl Qz jh ji) (zg (ze 3 rfl gM Qj Qk) zk zf) zf) zf) znE zf (zC zf (zC zf zu))))
  (zj (xA (IW.t (Zs (yS rfl (kh hr.units) (ze 4 rfl QB vO vP) (zR (zQ (hall 72) rfl) hr zqB T.m72 T.f72.kp (T.b72) (zg (ze 1 rfl QA vB vC) (zg (ze 2 rfl Qz jh ji) (zg (ze 3 rfl gM Qj Qk) zk zf) zf) zf) znD zf (zC zf (zC zf zu))) (yP _)) (Zr (IW.t (zbc (zjj (ze 4 rfl QB vO vP)) (zbb (vI (wk (YZ (t:=.list) zqz T.z_isinstance zqA T.z_list PyProof.Rows.boot_list (ze 4 rfl QB vO vP) Qg Qf zf zf (zC zf zu)) (VY _ _) wU)))))))) (zj (yA VT)
  zw) zw)
  (zj (xA (zji (ze 4 rfl QB vO vP)) (zj (yA VT)
  zw) zw)
  (zj (yA (zi0 (yS rfl (vW hr.units) (ze 3 rfl gM Qj Qk) zo (yP _)) (zby (zR (zQ (hall 67) rfl) hr zqx T.m67 T.f67.kp (T.b67) (zg (ze 1 rfl QA vB vC) (zg (ze 2 rfl Qz jh ji) zk zf) zf) znB zf (zC zf zu))) (zby (zR (zQ (hall 68) rfl) hr zqy T.m68 T.f68.kp (T.b68) (zg (ze 1 rfl QA vB vC) (zg (ze 2 rfl Qz jh ji) zk zf) zf) znC zf (zC zf zu)))))
  zw)))))))
theorem yp(T:Txt K mg F FD TK): ∀n i,FnOk Pg w K mg base zD n (F i) (FD i) (zp i) (zZ K (zq U fuel n) i (yo i))
 |0,_=>zjp
 |n+1,0=>yq (F0:=⟨3,3,Xj,[],none⟩) T.f0 znH rfl rfl rfl rfl (by decide) rfl (zqF T (yp T n))
 |n+1,1=>yq (F0:=⟨1,1,Xk,[],none⟩) T.f1 znM rfl rfl rfl rfl (by decide) rfl (zqG T (yp T n))
 |n+1,2=>yq (F0:=⟨1,1,Xl,[],none⟩) T.f2 znQ rfl rfl rfl rfl (by decide) rfl (zqH T (yp T n))
 |n+1,3=>yq (F0:=⟨1,1,Xm,[],none⟩) T.f3 znS rfl rfl rfl rfl (by decide) rfl (zqI T (yp T n))
 |n+1,4=>yq (F0:=⟨1,1,Xn,[],none⟩) T.f4 znV rfl rfl rfl rfl (by decide) rfl (zqJ T (yp T n))
 |n+1,5=>yq (F0:=⟨1,1,Xo,[],none⟩) T.f5 zn0 rfl rfl rfl rfl (by decide) rfl (zqK T (yp T n))
 |n+1,6=>yq (F0:=⟨1,1,Xp,[],none⟩) T.f6 zn7 rfl rfl rfl rfl (by decide) rfl (zqL T (yp T n))
 |n+1,7=>yq (F0:=⟨1,1,Xq,[],none⟩) T.f7 zn9 rfl rfl rfl rfl (by decide) rfl (zqM T (yp T n))
 |n+1,8=>yc rfl
 |n+1,9=>yq (F0:=⟨2,2,Xr,[],none⟩) T.f9 zob rfl rfl rfl rfl (by decide) rfl (zqN T (yp T n))
 |n+1,10=>yq (F0:=⟨3,3,Xs,[],none⟩) T.f10 zoe rfl rfl rfl rfl (by decide) rfl (zqO T (yp T n))
 |n+1,11=>yq (F0:=⟨3,3,Xt,[],none⟩) T.f11 zoh rfl rfl rfl rfl (by decide) rfl (zqP T (yp T n))
 |n+1,12=>yc rfl
 |n+1,13=>yq (F0:=⟨2,2,Xu,[],none⟩) T.f13 zoj rfl rfl rfl rfl (by decide) rfl (zqQ T (yp T n))
 |n+1,14=>yq (F0:=⟨3,3,Xv,[],none⟩) T.f14 zol rfl rfl rfl rfl (by decide) rfl (zqR T (yp T n))
 |n+1,15=>yq (F0:=⟨3,13,Xx,[],none⟩) T.f15 wN rfl rfl rfl rfl (by decide) rfl (zqS T (yp T n))
 |n+1,16=>yq (F0:=⟨1,2,Xy,[],none⟩) T.f16 zeE rfl rfl rfl rfl (by decide) rfl (zqT T (yp T n))
 |n+1,17=>yq (F0:=⟨3,3,Xz,[],none⟩) T.f17 zoE rfl rfl rfl rfl (by decide) rfl (zqU T (yp T n))
 |n+1,18=>yq (F0:=⟨3,3,XA,[],none⟩) T.f18 zoI rfl rfl rfl rfl (by decide) rfl (zqV T (yp T n))
 |n+1,19=>yc rfl
 |n+1,20=>yq (F0:=⟨3,8,XB,[],none⟩) T.f20 jW rfl rfl rfl rfl (by decide) rfl (zqW T (yp T n))
 |n+1,21=>yc rfl
 |n+1,22=>yc rfl
 |n+1,23=>yc rfl
 |n+1,24=>yc rfl
 |n+1,25=>yc rfl
 |n+1,26=>yc rfl
 |n+1,27=>yc rfl
 |n+1,28=>yc rfl
 |n+1,29=>yc rfl
 |n+1,30=>yq (F0:=⟨2,6,XD,[],none⟩) T.f30 Vk rfl rfl rfl rfl (by decide) rfl (zqX T (yp T n))
 |n+1,31=>yc rfl
 |n+1,32=>yq (F0:=⟨2,6,XF,[],none⟩) T.f32 jj rfl rfl rfl rfl (by decide) rfl (zqY T (yp T n))
 |n+1,33=>yc rfl
 |n+1,34=>yc rfl
 |n+1,35=>yc rfl
 |n+1,36=>yc rfl
 |n+1,37=>yc rfl
 |n+1,38=>yc rfl
 |n+1,39=>yc rfl
 |n+1,40=>yc rfl
 |n+1,41=>yc rfl
 |n+1,42=>yc rfl
 |n+1,43=>yc rfl
 |n+1,44=>yc rfl
 |n+1,45=>yc rfl
 |n+1,46=>yc rfl
 |n+1,47=>yc rfl
 |n+1,48=>yc rfl
 |n+1,49=>yc rfl
 |n+1,50=>yc rfl
 |n+1,51=>yc rfl
 |n+1,52=>yc rfl
 |n+1,53=>yc rfl
 |n+1,54=>yc rfl
 |n+1,55=>yc rfl
 |n+1,56=>yc rfl
 |n+1,57=>yc rfl
 |n+1,58=>yc rfl
 |n+1,59=>yc rfl
 |n+1,60=>yc rfl
 |n+1,61=>yq (F0:=⟨2,2,XG,[],none⟩) T.f61 zo7 rfl rfl rfl rfl (by decide) rfl (zqZ T (yp T n))
 |n+1,62=>yq (F0:=⟨3,3,XH,[],none⟩) T.f62 zpb rfl rfl rfl rfl (by decide) rfl (zq0 T (yp T n))
 |n+1,63=>yq (F0:=⟨2,4,XI,[],none⟩) T.f63 gA rfl rfl rfl rfl (by decide) rfl (zq1 T (yp T n))
 |n+1,64=>yq (F0:=⟨2,6,XJ,[],none⟩) T.f64 Vl rfl rfl rfl rfl (by decide) rfl (zq2 T (yp T n))
 |n+1,65=>yq (F0:=⟨2,3,XM,[],none⟩) T.f65 ze0 rfl rfl rfl rfl (by decide) rfl (zq3 T (yp T n))
 |n+1,66=>yq (F0:=⟨4,9,ZG,[],none⟩) T.f66 jk rfl rfl rfl rfl (by decide) rfl (zq4 T (yp T n))
 |n+1,67=>yq (F0:=⟨2,4,ZH,[],none⟩) T.f67 gH rfl rfl rfl rfl (by decide) rfl (zq5 T (yp T n))
 |n+1,68=>yq (F0:=⟨2,3,jJ,[],none⟩) T.f68 ze8 rfl rfl rfl rfl (by decide) rfl (zq6 T (yp T n))
 |n+1,69=>yq (F0:=⟨4,6,XN,[],none⟩) T.f69 gI rfl rfl rfl rfl (by decide) rfl (zq7 T (yp T n))
 |n+1,70=>yq (F0:=⟨2,5,XQ,[],none⟩) T.f70 Qx rfl rfl rfl rfl (by decide) rfl (zq8 T (yp T n))
 |n+1,71=>yq (F0:=⟨3,5,ZI,[],none⟩) T.f71 Qy rfl rfl rfl rfl (by decide) rfl (zq9 T (yp T n))
 |n+1,72=>yq (F0:=⟨3,8,ZJ,[],none⟩) T.f72 vQ rfl rfl rfl rfl (by decide) rfl (zra T (yp T n))
 |n+1,73=>yq (F0:=⟨1,5,XS,[],none⟩) T.f73 Vp rfl rfl rfl rfl (by decide) rfl (zrb T (yp T n))
 |n+1,_+74=>yc rfl
theorem zrc {h : Heap} (X : K.In h) (G : h.Ns mainGlobals mg) {f0 f1 f2 f3 f4 f5 f6 f7 f9 f10 f11 f13 f14 f15 f16 f17 f18 f20 f30 f32 f61 f62 f63 f64 f65 f66 f67 f68 f69 f70 f71 f72 f73 : Addr} {od0 od1 od2 od3 od4 od5 od6 od7 od9 od10 od11 od13 od14 od15 od16 od17 od18 od20 od30 od32 od61 od62 od63 od64 od65 od66 od67 od68 od69 od70 od71 od72 od73 an0 an1 an2 an3 an4 an5 an6 an7 an9 an10 an11 an13 an14 an15 an16 an17 an18 an20 an30 an32 an61 an62 an63 an64 an65 an66 an67 an68 an69 an70 an71 an72 an73 : Option Addr} {sl0 sl1 sl2 sl3 sl4 sl5 sl6 sl7 sl9 sl10 sl11 sl13 sl14 sl15 sl16 sl17 sl18 sl20 sl30 sl32 sl61 sl62 sl63 sl64 sl65 sl66 sl67 sl68 sl69 sl70 sl71 sl72 sl73 : Array (Option Value)} {oc0 oc1 oc2 oc3 oc4 oc5 oc6 oc7 oc9 oc10 oc11 oc13 oc14 oc15 oc16 oc17 oc18 oc20 oc30 oc32 oc61 oc62 oc63 oc64 oc65 oc66 oc67 oc68 oc69 oc70 oc71 oc72 oc73 kV0 kV1 kV2 kV3 kV4 kV5 kV6 kV7 kV9 kV10 kV11 kV13 kV14 kV15 kV16 kV17 kV18 kV20 kV30 kV32 kV61 kV62 kV63 kV64 kV65 kV66 kV67 kV68 kV69 kV70 kV71 kV72 kV73 dc0 dc1 dc2 dc3 dc4 dc5 dc6 dc7 dc9 dc10 dc11 dc13 dc14 dc15 dc16 dc17 dc18 dc20 dc30 dc32 dc61 dc62 dc63 dc64 dc65 dc66 dc67 dc68 dc69 dc70 dc71 dc72 dc73 pm0 pm1 pm2 pm3 pm4 pm5 pm6 pm7 pm9 pm10 pm11 pm13 pm14 pm15 pm16 pm17 pm18 pm20 pm30 pm32 pm61 pm62 pm63 pm64 pm65 pm66 pm67 pm68 pm69 pm70 pm71 pm72 pm73 cd0 cd1 cd2 cd3 cd4 cd5 cd6 cd7 cd9 cd10 cd11 cd13 cd14 cd15 cd16 cd17 cd18 cd20 cd30 cd32 cd61 cd62 cd63 cd64 cd65 cd66 cd67 cd68 cd69 cd70 cd71 cd72 cd73 ct0 ct1 ct2 ct3 ct4 ct5 ct6 ct7 ct9 ct10 ct11 ct13 ct14 ct15 ct16 ct17 ct18 ct20 ct30 ct32 ct61 ct62 ct63 ct64 ct65 ct66 ct67 ct68 ct69 ct70 ct71 ct72 ct73 : Value} {t0 t1 t2 t3 t4 : Tok}
    (a0 : PySem.W.nsIn K mainGlobals "is_whole" = some (some (.ref f0))) (l0 : K.lookup f0 = some ⟨oc0, od0, .func (PySem.W.fnOf "is_whole" "is_whole" (zH (za 10)) (zt (za 10)) (zb (za 10)) .none kV0 dc0 pm0 an0 cd0 ct0), sl0⟩) (e0 : PySem.W.codeIn K cd0 "is_whole" = true) (k0 : PySem.W.keepIn K (.ref f0) = true)
    (a1 : PySem.W.nsIn K mainGlobals "is_couple" = some (some (.ref f1))) (l1 : K.lookup f1 = some ⟨oc1, od1, .func (PySem.W.fnOf "is_couple" "is_couple" (zH (za 11)) (zt (za 11)) (zb (za 11)) .none kV1 dc1 pm1 an1 cd1 ct1), sl1⟩) (e1 : PySem.W.codeIn K cd1 "is_couple" = true) (k1 : PySem.W.keepIn K (.ref f1) = true)
    (a2 : PySem.W.nsIn K mainGlobals "is_cell" = some (some (.ref f2))) (l2 : K.lookup f2 = some ⟨oc2, od2, .func (PySem.W.fnOf "is_cell" "is_cell" (zH (za 12)) (zt (za 12)) (zb (za 12)) .none kV2 dc2 pm2 an2 cd2 ct2), sl2⟩) (e2 : PySem.W.codeIn K cd2 "is_cell" = true) (k2 : PySem.W.keepIn K (.ref f2) = true)
    (a3 : PySem.W.nsIn K mainGlobals "is_leap" = some (some (.ref f3))) (l3 : K.lookup f3 = some ⟨oc3, od3, .func (PySem.W.fnOf "is_leap" "is_leap" (zH (za 13)) (zt (za 13)) (zb (za 13)) .none kV3 dc3 pm3 an3 cd3 ct3), sl3⟩) (e3 : PySem.W.codeIn K cd3 "is_leap" = true) (k3 : PySem.W.keepIn K (.ref f3) = true)
    (a4 : PySem.W.nsIn K mainGlobals "is_rising" = some (some (.ref f4))) (l4 : K.lookup f4 = some ⟨oc4, od4, .func (PySem.W.fnOf "is_rising" "is_rising" (zH (za 14)) (zt (za 14)) (zb (za 14)) .none kV4 dc4 pm4 an4 cd4 ct4), sl4⟩) (e4 : PySem.W.codeIn K cd4 "is_rising" = true) (k4 : PySem.W.keepIn K (.ref f4) = true)
    (a5 : PySem.W.nsIn K mainGlobals "is_floor" = some (some (.ref f5))) (l5 : K.lookup f5 = some ⟨oc5, od5, .func (PySem.W.fnOf "is_floor" "is_floor" (zH (za 15)) (zt (za 15)) (zb (za 15)) .none kV5 dc5 pm5 an5 cd5 ct5), sl5⟩) (e5 : PySem.W.codeIn K cd5 "is_floor" = true) (k5 : PySem.W.keepIn K (.ref f5) = true)
    (a6 : PySem.W.nsIn K mainGlobals "checked" = some (some (.ref f6))) (l6 : K.lookup f6 = some ⟨oc6, od6, .func (PySem.W.fnOf "checked" "checked" (zH (za 16)) (zt (za 16)) (zb (za 16)) .none kV6 dc6 pm6 an6 cd6 ct6), sl6⟩) (e6 : PySem.W.codeIn K cd6 "checked" = true) (k6 : PySem.W.keepIn K (.ref f6) = true)
    (a7 : PySem.W.nsIn K mainGlobals "checked_leap" = some (some (.ref f7))) (l7 : K.lookup f7 = some ⟨oc7, od7, .func (PySem.W.fnOf "checked_leap" "checked_leap" (zH (za 17)) (zt (za 17)) (zb (za 17)) .none kV7 dc7 pm7 an7 cd7 ct7), sl7⟩) (e7 : PySem.W.codeIn K cd7 "checked_leap" = true) (k7 : PySem.W.keepIn K (.ref f7) = true)
    (a9 : PySem.W.nsIn K mainGlobals "folded" = some (some (.ref f9))) (l9 : K.lookup f9 = some ⟨oc9, od9, .func (PySem.W.fnOf "folded" "folded" (zH (za 19)) (zt (za 19)) (zb (za 19)) .none kV9 dc9 pm9 an9 cd9 ct9), sl9⟩) (e9 : PySem.W.codeIn K cd9 "folded" = true) (k9 : PySem.W.keepIn K (.ref f9) = true)
    (a10 : PySem.W.nsIn K mainGlobals "are_near" = some (some (.ref f10))) (l10 : K.lookup f10 = some ⟨oc10, od10, .func (PySem.W.fnOf "are_near" "are_near" (zH (za 20)) (zt (za 20)) (zb (za 20)) .none kV10 dc10 pm10 an10 cd10 ct10), sl10⟩) (e10 : PySem.W.codeIn K cd10 "are_near" = true) (k10 : PySem.W.keepIn K (.ref f10) = true)
    (a11 : PySem.W.nsIn K mainGlobals "cells_near" = some (some (.ref f11))) (l11 : K.lookup f11 = some ⟨oc11, od11, .func (PySem.W.fnOf "cells_near" "cells_near" (zH (za 21)) (zt (za 21)) (zb (za 21)) .none kV11 dc11 pm11 an11 cd11 ct11), sl11⟩) (e11 : PySem.W.codeIn K cd11 "cells_near" = true) (k11 : PySem.W.keepIn K (.ref f11) = true)
    (a13 : PySem.W.nsIn K mainGlobals "_law_cell" = some (some (.ref f13))) (l13 : K.lookup f13 = some ⟨oc13, od13, .func (PySem.W.fnOf "_law_cell" "_law_cell" (zH (za 39)) (zt (za 39)) (zb (za 39)) .none kV13 dc13 pm13 an13 cd13 ct13), sl13⟩) (e13 : PySem.W.codeIn K cd13 "_law_cell" = true) (k13 : PySem.W.keepIn K (.ref f13) = true)
    (a14 : PySem.W.nsIn K mainGlobals "_law_mix" = some (some (.ref f14))) (l14 : K.lookup f14 = some ⟨oc14, od14, .func (PySem.W.fnOf "_law_mix" "_law_mix" (zH (za 40)) (zt (za 40)) (zb (za 40)) .none kV14 dc14 pm14 an14 cd14 ct14), sl14⟩) (e14 : PySem.W.codeIn K cd14 "_law_mix" = true) (k14 : PySem.W.keepIn K (.ref f14) = true)
    (a15 : PySem.W.nsIn K mainGlobals "_law_floor" = some (some (.ref f15))) (l15 : K.lookup f15 = some ⟨oc15, od15, .func (PySem.W.fnOf "_law_floor" "_law_floor" (zH (za 41)) (zt (za 41)) (zb (za 41)) .none kV15 dc15 pm15 an15 cd15 ct15), sl15⟩) (e15 : PySem.W.codeIn K cd15 "_law_floor" = true) (k15 : PySem.W.keepIn K (.ref f15) = true)
    (a16 : PySem.W.nsIn K mainGlobals "_law_leap" = some (some (.ref f16))) (l16 : K.lookup f16 = some ⟨oc16, od16, .func (PySem.W.fnOf "_law_leap" "_law_leap" (zH (za 42)) (zt (za 42)) (zb (za 42)) .none kV16 dc16 pm16 an16 cd16 ct16), sl16⟩) (e16 : PySem.W.codeIn K cd16 "_law_leap" = true) (k16 : PySem.W.keepIn K (.ref f16) = true)
    (a17 : PySem.W.nsIn K mainGlobals "_law_is_near" = some (some (.ref f17))) (l17 : K.lookup f17 = some ⟨oc17, od17, .func (PySem.W.fnOf "_law_is_near" "_law_is_near" (zH (za 43)) (zt (za 43)) (zb (za 43)) .none kV17 dc17 pm17 an17 cd17 ct17), sl17⟩) (e17 : PySem.W.codeIn K cd17 "_law_is_near" = true) (k17 : PySem.W.keepIn K (.ref f17) = true)
    (a18 : PySem.W.nsIn K mainGlobals "_law_near" = some (some (.ref f18))) (l18 : K.lookup f18 = some ⟨oc18, od18, .func (PySem.W.fnOf "_law_near" "_law_near" (zH (za 44)) (zt (za 44)) (zb (za 44)) .none kV18 dc18 pm18 an18 cd18 ct18), sl18⟩) (e18 : PySem.W.codeIn K cd18 "_law_near" = true) (k18 : PySem.W.keepIn K (.ref f18) = true)
    (a20 : PySem.W.nsIn K mainGlobals "leads_to" = some (some (.ref f20))) (l20 : K.lookup f20 = some ⟨oc20, od20, .func (PySem.W.fnOf "leads_to" "leads_to" (zH (za 22)) (zt (za 22)) (zb (za 22)) .none kV20 dc20 pm20 an20 cd20 ct20), sl20⟩) (e20 : PySem.W.codeIn K cd20 "leads_to" = true) (k20 : PySem.W.keepIn K (.ref f20) = true)
    (a30 : PySem.W.nsIn K mainGlobals "parts_within" = some (some (.ref f30))) (l30 : K.lookup f30 = some ⟨oc30, od30, .func (PySem.W.fnOf "parts_within" "parts_within" (zH (za 23)) (zt (za 23)) (zb (za 23)) .none kV30 dc30 pm30 an30 cd30 ct30), sl30⟩) (e30 : PySem.W.codeIn K cd30 "parts_within" = true) (k30 : PySem.W.keepIn K (.ref f30) = true)
    (a32 : PySem.W.nsIn K mainGlobals "_law_parts" = some (some (.ref f32))) (l32 : K.lookup f32 = some ⟨oc32, od32, .func (PySem.W.fnOf "_law_parts" "_law_parts" (zH (za 45)) (zt (za 45)) (zb (za 45)) .none kV32 dc32 pm32 an32 cd32 ct32), sl32⟩) (e32 : PySem.W.codeIn K cd32 "_law_parts" = true) (k32 : PySem.W.keepIn K (.ref f32) = true)
    (a61 : PySem.W.nsIn K mainGlobals "refuse_big" = some (some (.ref f61))) (l61 : K.lookup f61 = some ⟨oc61, od61, .func (PySem.W.fnOf "refuse_big" "refuse_big" (zH (za 27)) (zt (za 27)) (zb (za 27)) .none kV61 dc61 pm61 an61 cd61 ct61), sl61⟩) (e61 : PySem.W.codeIn K cd61 "refuse_big" = true) (k61 : PySem.W.keepIn K (.ref f61) = true)
    (a62 : PySem.W.nsIn K mainGlobals "bits_near" = some (some (.ref f62))) (l62 : K.lookup f62 = some ⟨oc62, od62, .func (PySem.W.fnOf "bits_near" "bits_near" (zH (za 28)) (zt (za 28)) (zb (za 28)) .none kV62 dc62 pm62 an62 cd62 ct62), sl62⟩) (e62 : PySem.W.codeIn K cd62 "bits_near" = true) (k62 : PySem.W.keepIn K (.ref f62) = true)
    (a63 : PySem.W.nsIn K mainGlobals "one_cell_walks" = some (some (.ref f63))) (l63 : K.lookup f63 = some ⟨oc63, od63, .func (PySem.W.fnOf "one_cell_walks" "one_cell_walks" (zH (za 29)) (zt (za 29)) (zb (za 29)) .none kV63 dc63 pm63 an63 cd63 ct63), sl63⟩) (e63 : PySem.W.codeIn K cd63 "one_cell_walks" = true) (k63 : PySem.W.keepIn K (.ref f63) = true)
    (a64 : PySem.W.nsIn K mainGlobals "one_cell_longer" = some (some (.ref f64))) (l64 : K.lookup f64 = some ⟨oc64, od64, .func (PySem.W.fnOf "one_cell_longer" "one_cell_longer" (zH (za 30)) (zt (za 30)) (zb (za 30)) .none kV64 dc64 pm64 an64 cd64 ct64), sl64⟩) (e64 : PySem.W.codeIn K cd64 "one_cell_longer" = true) (k64 : PySem.W.keepIn K (.ref f64) = true)
    (a65 : PySem.W.nsIn K mainGlobals "layers_from" = some (some (.ref f65))) (l65 : K.lookup f65 = some ⟨oc65, od65, .func (PySem.W.fnOf "layers_from" "layers_from" (zH (za 31)) (zt (za 31)) (zb (za 31)) .none kV65 dc65 pm65 an65 cd65 ct65), sl65⟩) (e65 : PySem.W.codeIn K cd65 "layers_from" = true) (k65 : PySem.W.keepIn K (.ref f65) = true)
    (a66 : PySem.W.nsIn K mainGlobals "walk_between" = some (some (.ref f66))) (l66 : K.lookup f66 = some ⟨oc66, od66, .func (PySem.W.fnOf "walk_between" "walk_between" (zH (za 32)) (zt (za 32)) (zb (za 32)) .none kV66 dc66 pm66 an66 cd66 ct66), sl66⟩) (e66 : PySem.W.codeIn K cd66 "walk_between" = true) (k66 : PySem.W.keepIn K (.ref f66) = true)
    (a67 : PySem.W.nsIn K mainGlobals "walk" = some (some (.ref f67))) (l67 : K.lookup f67 = some ⟨oc67, od67, .func (PySem.W.fnOf "walk" "walk" (zH (za 33)) (zt (za 33)) (zb (za 33)) .none kV67 dc67 pm67 an67 cd67 ct67), sl67⟩) (e67 : PySem.W.codeIn K cd67 "walk" = true) (k67 : PySem.W.keepIn K (.ref f67) = true)
    (a68 : PySem.W.nsIn K mainGlobals "ring_walk" = some (some (.ref f68))) (l68 : K.lookup f68 = some ⟨oc68, od68, .func (PySem.W.fnOf "ring_walk" "ring_walk" (zH (za 34)) (zt (za 34)) (zb (za 34)) .none kV68 dc68 pm68 an68 cd68 ct68), sl68⟩) (e68 : PySem.W.codeIn K cd68 "ring_walk" = true) (k68 : PySem.W.keepIn K (.ref f68) = true)
    (a69 : PySem.W.nsIn K mainGlobals "leaves_too_many" = some (some (.ref f69))) (l69 : K.lookup f69 = some ⟨oc69, od69, .func (PySem.W.fnOf "leaves_too_many" "leaves_too_many" (zH (za 35)) (zt (za 35)) (zb (za 35)) .none kV69 dc69 pm69 an69 cd69 ct69), sl69⟩) (e69 : PySem.W.codeIn K cd69 "leaves_too_many" = true) (k69 : PySem.W.keepIn K (.ref f69) = true)
    (a70 : PySem.W.nsIn K mainGlobals "one_cell_more" = some (some (.ref f70))) (l70 : K.lookup f70 = some ⟨oc70, od70, .func (PySem.W.fnOf "one_cell_more" "one_cell_more" (zH (za 36)) (zt (za 36)) (zb (za 36)) .none kV70 dc70 pm70 an70 cd70 ct70), sl70⟩) (e70 : PySem.W.codeIn K cd70 "one_cell_more" = true) (k70 : PySem.W.keepIn K (.ref f70) = true)
    (a71 : PySem.W.nsIn K mainGlobals "cut_of" = some (some (.ref f71))) (l71 : K.lookup f71 = some ⟨oc71, od71, .func (PySem.W.fnOf "cut_of" "cut_of" (zH (za 37)) (zt (za 37)) (zb (za 37)) .none kV71 dc71 pm71 an71 cd71 ct71), sl71⟩) (e71 : PySem.W.codeIn K cd71 "cut_of" = true) (k71 : PySem.W.keepIn K (.ref f71) = true)
    (a72 : PySem.W.nsIn K mainGlobals "_law_cut" = some (some (.ref f72))) (l72 : K.lookup f72 = some ⟨oc72, od72, .func (PySem.W.fnOf "_law_cut" "_law_cut" (zH (za 46)) (zt (za 46)) (zb (za 46)) .none kV72 dc72 pm72 an72 cd72 ct72), sl72⟩) (e72 : PySem.W.codeIn K cd72 "_law_cut" = true) (k72 : PySem.W.keepIn K (.ref f72) = true)
    (a73 : PySem.W.nsIn K mainGlobals "law" = some (some (.ref f73))) (l73 : K.lookup f73 = some ⟨oc73, od73, .func (PySem.W.fnOf "law" "law" (zH (za 47)) (zt (za 47)) (zb (za 47)) .none kV73 dc73 pm73 an73 cd73 ct73), sl73⟩) (e73 : PySem.W.codeIn K cd73 "law" = true) (k73 : PySem.W.keepIn K (.ref f73) = true)
    (z_isinstance : PySem.W.nsIn K mainGlobals "isinstance" = some none)
    (z_int : PySem.W.nsIn K mainGlobals "int" = some none)
    (z_bool : PySem.W.nsIn K mainGlobals "bool" = some none)
    (z_len : PySem.W.nsIn K mainGlobals "len" = some none)
    (z_tuple : PySem.W.nsIn K mainGlobals "tuple" = some none)
    (z_range : PySem.W.nsIn K mainGlobals "range" = some none)
    (z_all : PySem.W.nsIn K mainGlobals "all" = some none)
    (z_abs : PySem.W.nsIn K mainGlobals "abs" = some none)
    (z_max : PySem.W.nsIn K mainGlobals "max" = some none)
    (z_min : PySem.W.nsIn K mainGlobals "min" = some none)
    (z_sorted : PySem.W.nsIn K mainGlobals "sorted" = some none)
    (z_enumerate : PySem.W.nsIn K mainGlobals "enumerate" = some none)
    (z_sum : PySem.W.nsIn K mainGlobals "sum" = some none)
    (z_reversed : PySem.W.nsIn K mainGlobals "reversed" = some none)
    (z_list : PySem.W.nsIn K mainGlobals "list" = some none)
    (c0 : PySem.W.nsIn K mainGlobals "LAST_LINE" = some (some (.int 7 t0)))
    (c1 : PySem.W.nsIn K mainGlobals "MOST_CELLS" = some (some (.int 24 t1)))
    (c2 : PySem.W.nsIn K mainGlobals "LONGEST_LEAP" = some (some (.int 4 t2)))
    (c3 : PySem.W.nsIn K mainGlobals "MOST_TO_WALK" = some (some (.int 16 t3)))
    (c4 : PySem.W.nsIn K mainGlobals "MOST_TO_CUT" = some (some (.int 9 t4)))
    : ∃ F FD TK, Txt K mg F FD TK ∧ F 73 = f73 ∧ (∀ (s : Shared) (u : Value), BindsTo s (FD 73) ⟨[u], []⟩ [("_law_script", u)]) :=
  ⟨fun i => match i with
     | 1 => f1
     | 2 => f2
     | 3 => f3
     | 4 => f4
     | 5 => f5
     | 6 => f6
     | 7 => f7
     | 9 => f9
     | 10 => f10
     | 11 => f11
     | 13 => f13
     | 14 => f14
     | 15 => f15
     | 16 => f16
     | 17 => f17
     | 18 => f18
     | 20 => f20
     | 30 => f30
     | 32 => f32
     | 61 => f61
     | 62 => f62
     | 63 => f63
     | 64 => f64
     | 65 => f65
     | 66 => f66
     | 67 => f67
     | 68 => f68
     | 69 => f69
     | 70 => f70
     | 71 => f71
     | 72 => f72
     | 73 => f73
     | _ => f0,
   fun i => match i with
     | 1 => PySem.W.fnOf "is_couple" "is_couple" (zH (za 11)) (zt (za 11)) (zb (za 11)) .none kV1 dc1 pm1 an1 cd1 ct1
     | 2 => PySem.W.fnOf "is_cell" "is_cell" (zH (za 12)) (zt (za 12)) (zb (za 12)) .none kV2 dc2 pm2 an2 cd2 ct2
     | 3 => PySem.W.fnOf "is_leap" "is_leap" (zH (za 13)) (zt (za 13)) (zb (za 13)) .none kV3 dc3 pm3 an3 cd3 ct3
     | 4 => PySem.W.fnOf "is_rising" "is_rising" (zH (za 14)) (zt (za 14)) (zb (za 14)) .none kV4 dc4 pm4 an4 cd4 ct4
     | 5 => PySem.W.fnOf "is_floor" "is_floor" (zH (za 15)) (zt (za 15)) (zb (za 15)) .none kV5 dc5 pm5 an5 cd5 ct5
     | 6 => PySem.W.fnOf "checked" "checked" (zH (za 16)) (zt (za 16)) (zb (za 16)) .none kV6 dc6 pm6 an6 cd6 ct6
     | 7 => PySem.W.fnOf "checked_leap" "checked_leap" (zH (za 17)) (zt (za 17)) (zb (za 17)) .none kV7 dc7 pm7 an7 cd7 ct7
     | 9 => PySem.W.fnOf "folded" "folded" (zH (za 19)) (zt (za 19)) (zb (za 19)) .none kV9 dc9 pm9 an9 cd9 ct9
     | 10 => PySem.W.fnOf "are_near" "are_near" (zH (za 20)) (zt (za 20)) (zb (za 20)) .none kV10 dc10 pm10 an10 cd10 ct10
     | 11 => PySem.W.fnOf "cells_near" "cells_near" (zH (za 21)) (zt (za 21)) (zb (za 21)) .none kV11 dc11 pm11 an11 cd11 ct11
     | 13 => PySem.W.fnOf "_law_cell" "_law_cell" (zH (za 39)) (zt (za 39)) (zb (za 39)) .none kV13 dc13 pm13 an13 cd13 ct13
     | 14 => PySem.W.fnOf "_law_mix" "_law_mix" (zH (za 40)) (zt (za 40)) (zb (za 40)) .none kV14 dc14 pm14 an14 cd14 ct14
     | 15 => PySem.W.fnOf "_law_floor" "_law_floor" (zH (za 41)) (zt (za 41)) (zb (za 41)) .none kV15 dc15 pm15 an15 cd15 ct15
     | 16 => PySem.W.fnOf "_law_leap" "_law_leap" (zH (za 42)) (zt (za 42)) (zb (za 42)) .none kV16 dc16 pm16 an16 cd16 ct16
     | 17 => PySem.W.fnOf "_law_is_near" "_law_is_near" (zH (za 43)) (zt (za 43)) (zb (za 43)) .none kV17 dc17 pm17 an17 cd17 ct17
     | 18 => PySem.W.fnOf "_law_near" "_law_near" (zH (za 44)) (zt (za 44)) (zb (za 44)) .none kV18 dc18 pm18 an18 cd18 ct18
     | 20 => PySem.W.fnOf "leads_to" "leads_to" (zH (za 22)) (zt (za 22)) (zb (za 22)) .none kV20 dc20 pm20 an20 cd20 ct20
     | 30 => PySem.W.fnOf "parts_within" "parts_within" (zH (za 23)) (zt (za 23)) (zb (za 23)) .none kV30 dc30 pm30 an30 cd30 ct30
     | 32 => PySem.W.fnOf "_law_parts" "_law_parts" (zH (za 45)) (zt (za 45)) (zb (za 45)) .none kV32 dc32 pm32 an32 cd32 ct32
     | 61 => PySem.W.fnOf "refuse_big" "refuse_big" (zH (za 27)) (zt (za 27)) (zb (za 27)) .none kV61 dc61 pm61 an61 cd61 ct61
     | 62 => PySem.W.fnOf "bits_near" "bits_near" (zH (za 28)) (zt (za 28)) (zb (za 28)) .none kV62 dc62 pm62 an62 cd62 ct62
     | 63 => PySem.W.fnOf "one_cell_walks" "one_cell_walks" (zH (za 29)) (zt (za 29)) (zb (za 29)) .none kV63 dc63 pm63 an63 cd63 ct63
     | 64 => PySem.W.fnOf "one_cell_longer" "one_cell_longer" (zH (za 30)) (zt (za 30)) (zb (za 30)) .none kV64 dc64 pm64 an64 cd64 ct64
     | 65 => PySem.W.fnOf "layers_from" "layers_from" (zH (za 31)) (zt (za 31)) (zb (za 31)) .none kV65 dc65 pm65 an65 cd65 ct65
     | 66 => PySem.W.fnOf "walk_between" "walk_between" (zH (za 32)) (zt (za 32)) (zb (za 32)) .none kV66 dc66 pm66 an66 cd66 ct66
     | 67 => PySem.W.fnOf "walk" "walk" (zH (za 33)) (zt (za 33)) (zb (za 33)) .none kV67 dc67 pm67 an67 cd67 ct67
     | 68 => PySem.W.fnOf "ring_walk" "ring_walk" (zH (za 34)) (zt (za 34)) (zb (za 34)) .none kV68 dc68 pm68 an68 cd68 ct68
     | 69 => PySem.W.fnOf "leaves_too_many" "leaves_too_many" (zH (za 35)) (zt (za 35)) (zb (za 35)) .none kV69 dc69 pm69 an69 cd69 ct69
     | 70 => PySem.W.fnOf "one_cell_more" "one_cell_more" (zH (za 36)) (zt (za 36)) (zb (za 36)) .none kV70 dc70 pm70 an70 cd70 ct70
     | 71 => PySem.W.fnOf "cut_of" "cut_of" (zH (za 37)) (zt (za 37)) (zb (za 37)) .none kV71 dc71 pm71 an71 cd71 ct71
     | 72 => PySem.W.fnOf "_law_cut" "_law_cut" (zH (za 46)) (zt (za 46)) (zb (za 46)) .none kV72 dc72 pm72 an72 cd72 ct72
     | 73 => PySem.W.fnOf "law" "law" (zH (za 47)) (zt (za 47)) (zb (za 47)) .none kV73 dc73 pm73 an73 cd73 ct73
     | _ => PySem.W.fnOf "is_whole" "is_whole" (zH (za 10)) (zt (za 10)) (zb (za 10)) .none kV0 dc0 pm0 an0 cd0 ct0,
   fun i => [t0, t1, t2, t3, t4].getD i 0,
   {
     m0 := PySem.W.mg_of X G a0
     f0 := zK (st := za 10) l0 e0 k0
     b0 := (zK (st := za 10) l0 e0 k0).binds (ps := zp 0) fun _ _ _ _ _ _ us hl => wS (P := fun us => bindArgs _ ⟨us, []⟩ = pure ((zp 0).zip us)) (fun _ _ _ => rfl) us hl
     m1 := PySem.W.mg_of X G a1
     f1 := zK (st := za 11) l1 e1 k1
     b1 := (zK (st := za 11) l1 e1 k1).binds (ps := zp 1) fun _ _ _ _ _ _ us hl => vH (P := fun us => bindArgs _ ⟨us, []⟩ = pure ((zp 1).zip us)) (fun _ => rfl) us hl
     m2 := PySem.W.mg_of X G a2
     f2 := zK (st := za 12) l2 e2 k2
     b2 := (zK (st := za 12) l2 e2 k2).binds (ps := zp 2) fun _ _ _ _ _ _ us hl => vH (P := fun us => bindArgs _ ⟨us, []⟩ = pure ((zp 2).zip us)) (fun _ => rfl) us hl
     m3 := PySem.W.mg_of X G a3
     f3 := zK (st := za 13) l3 e3 k3
     b3 := (zK (st := za 13) l3 e3 k3).binds (ps := zp 3) fun _ _ _ _ _ _ us hl => vH (P := fun us => bindArgs _ ⟨us, []⟩ = pure ((zp 3).zip us)) (fun _ => rfl) us hl
     m4 := PySem.W.mg_of X G a4
     f4 := zK (st := za 14) l4 e4 k4
     b4 := (zK (st := za 14) l4 e4 k4).binds (ps := zp 4) fun _ _ _ _ _ _ us hl => vH (P := fun us => bindArgs _ ⟨us, []⟩ = pure ((zp 4).zip us)) (fun _ => rfl) us hl
     m5 := PySem.W.mg_of X G a5
     f5 := zK (st := za 15) l5 e5 k5
     b5 := (zK (st := za 15) l5 e5 k5).binds (ps := zp 5) fun _ _ _ _ _ _ us hl => vH (P := fun us => bindArgs _ ⟨us, []⟩ = pure ((zp 5).zip us)) (fun _ => rfl) us hl
     m6 := PySem.W.mg_of X G a6
     f6 := zK (st := za 16) l6 e6 k6
     b6 := (zK (st := za 16) l6 e6 k6).binds (ps := zp 6) fun _ _ _ _ _ _ us hl => vH (P := fun us => bindArgs _ ⟨us, []⟩ = pure ((zp 6).zip us)) (fun _ => rfl) us hl
     m7 := PySem.W.mg_of X G a7
     f7 := zK (st := za 17) l7 e7 k7
     b7 := (zK (st := za 17) l7 e7 k7).binds (ps := zp 7) fun _ _ _ _ _ _ us hl => vH (P := fun us => bindArgs _ ⟨us, []⟩ = pure ((zp 7).zip us)) (fun _ => rfl) us hl
     m9 := PySem.W.mg_of X G a9
     f9 := zK (st := za 19) l9 e9 k9
     b9 := (zK (st := za 19) l9 e9 k9).binds (ps := zp 9) fun _ _ _ _ _ _ us hl => wR (P := fun us => bindArgs _ ⟨us, []⟩ = pure ((zp 9).zip us)) (fun _ _ => rfl) us hl
     m10 := PySem.W.mg_of X G a10
     f10 := zK (st := za 20) l10 e10 k10
     b10 := (zK (st := za 20) l10 e10 k10).binds (ps := zp 10) fun _ _ _ _ _ _ us hl => wS (P := fun us => bindArgs _ ⟨us, []⟩ = pure ((zp 10).zip us)) (fun _ _ _ => rfl) us hl
     m11 := PySem.W.mg_of X G a11
     f11 := zK (st := za 21) l11 e11 k11
     b11 := (zK (st := za 21) l11 e11 k11).binds (ps := zp 11) fun _ _ _ _ _ _ us hl => wS (P := fun us => bindArgs _ ⟨us, []⟩ = pure ((zp 11).zip us)) (fun _ _ _ => rfl) us hl
     m13 := PySem.W.mg_of X G a13
     f13 := zK (st := za 39) l13 e13 k13
     b13 := (zK (st := za 39) l13 e13 k13).binds (ps := zp 13) fun _ _ _ _ _ _ us hl => wR (P := fun us => bindArgs _ ⟨us, []⟩ = pure ((zp 13).zip us)) (fun _ _ => rfl) us hl
     m14 := PySem.W.mg_of X G a14
     f14 := zK (st := za 40) l14 e14 k14
     b14 := (zK (st := za 40) l14 e14 k14).binds (ps := zp 14) fun _ _ _ _ _ _ us hl => wS (P := fun us => bindArgs _ ⟨us, []⟩ = pure ((zp 14).zip us)) (fun _ _ _ => rfl) us hl
     m15 := PySem.W.mg_of X G a15
     f15 := zK (st := za 41) l15 e15 k15
     b15 := (zK (st := za 41) l15 e15 k15).binds (ps := zp 15) fun _ _ _ _ _ _ us hl => wS (P := fun us => bindArgs _ ⟨us, []⟩ = pure ((zp 15).zip us)) (fun _ _ _ => rfl) us hl
     m16 := PySem.W.mg_of X G a16
     f16 := zK (st := za 42) l16 e16 k16
     b16 := (zK (st := za 42) l16 e16 k16).binds (ps := zp 16) fun _ _ _ _ _ _ us hl => vH (P := fun us => bindArgs _ ⟨us, []⟩ = pure ((zp 16).zip us)) (fun _ => rfl) us hl
     m17 := PySem.W.mg_of X G a17
     f17 := zK (st := za 43) l17 e17 k17
     b17 := (zK (st := za 43) l17 e17 k17).binds (ps := zp 17) fun _ _ _ _ _ _ us hl => wS (P := fun us => bindArgs _ ⟨us, []⟩ = pure ((zp 17).zip us)) (fun _ _ _ => rfl) us hl
     m18 := PySem.W.mg_of X G a18
     f18 := zK (st := za 44) l18 e18 k18
     b18 := (zK (st := za 44) l18 e18 k18).binds (ps := zp 18) fun _ _ _ _ _ _ us hl => wS (P := fun us => bindArgs _ ⟨us, []⟩ = pure ((zp 18).zip us)) (fun _ _ _ => rfl) us hl
     m20 := PySem.W.mg_of X G a20
     f20 := zK (st := za 22) l20 e20 k20
     b20 := (zK (st := za 22) l20 e20 k20).binds (ps := zp 20) fun _ _ _ _ _ _ us hl => wS (P := fun us => bindArgs _ ⟨us, []⟩ = pure ((zp 20).zip us)) (fun _ _ _ => rfl) us hl
     m30 := PySem.W.mg_of X G a30
     f30 := zK (st := za 23) l30 e30 k30
     b30 := (zK (st := za 23) l30 e30 k30).binds (ps := zp 30) fun _ _ _ _ _ _ us hl => wR (P := fun us => bindArgs _ ⟨us, []⟩ = pure ((zp 30).zip us)) (fun _ _ => rfl) us hl
     m32 := PySem.W.mg_of X G a32
     f32 := zK (st := za 45) l32 e32 k32
     b32 := (zK (st := za 45) l32 e32 k32).binds (ps := zp 32) fun _ _ _ _ _ _ us hl => wR (P := fun us => bindArgs _ ⟨us, []⟩ = pure ((zp 32).zip us)) (fun _ _ => rfl) us hl
     m61 := PySem.W.mg_of X G a61
     f61 := zK (st := za 27) l61 e61 k61
     b61 := (zK (st := za 27) l61 e61 k61).binds (ps := zp 61) fun _ _ _ _ _ _ us hl => wR (P := fun us => bindArgs _ ⟨us, []⟩ = pure ((zp 61).zip us)) (fun _ _ => rfl) us hl
     m62 := PySem.W.mg_of X G a62
     f62 := zK (st := za 28) l62 e62 k62
     b62 := (zK (st := za 28) l62 e62 k62).binds (ps := zp 62) fun _ _ _ _ _ _ us hl => wS (P := fun us => bindArgs _ ⟨us, []⟩ = pure ((zp 62).zip us)) (fun _ _ _ => rfl) us hl
     m63 := PySem.W.mg_of X G a63
     f63 := zK (st := za 29) l63 e63 k63
     b63 := (zK (st := za 29) l63 e63 k63).binds (ps := zp 63) fun _ _ _ _ _ _ us hl => wR (P := fun us => bindArgs _ ⟨us, []⟩ = pure ((zp 63).zip us)) (fun _ _ => rfl) us hl
     m64 := PySem.W.mg_of X G a64
     f64 := zK (st := za 30) l64 e64 k64
     b64 := (zK (st := za 30) l64 e64 k64).binds (ps := zp 64) fun _ _ _ _ _ _ us hl => wR (P := fun us => bindArgs _ ⟨us, []⟩ = pure ((zp 64).zip us)) (fun _ _ => rfl) us hl
     m65 := PySem.W.mg_of X G a65
     f65 := zK (st := za 31) l65 e65 k65
     b65 := (zK (st := za 31) l65 e65 k65).binds (ps := zp 65) fun _ _ _ _ _ _ us hl => wR (P := fun us => bindArgs _ ⟨us, []⟩ = pure ((zp 65).zip us)) (fun _ _ => rfl) us hl
     m66 := PySem.W.mg_of X G a66
     f66 := zK (st := za 32) l66 e66 k66
     b66 := (zK (st := za 32) l66 e66 k66).binds (ps := zp 66) fun _ _ _ _ _ _ us hl => zaW (P := fun us => bindArgs _ ⟨us, []⟩ = pure ((zp 66).zip us)) (fun _ _ _ _ => rfl) us hl
     m67 := PySem.W.mg_of X G a67
     f67 := zK (st := za 33) l67 e67 k67
     b67 := (zK (st := za 33) l67 e67 k67).binds (ps := zp 67) fun _ _ _ _ _ _ us hl => wR (P := fun us => bindArgs _ ⟨us, []⟩ = pure ((zp 67).zip us)) (fun _ _ => rfl) us hl
     m68 := PySem.W.mg_of X G a68
     f68 := zK (st := za 34) l68 e68 k68
     b68 := (zK (st := za 34) l68 e68 k68).binds (ps := zp 68) fun _ _ _ _ _ _ us hl => wR (P := fun us => bindArgs _ ⟨us, []⟩ = pure ((zp 68).zip us)) (fun _ _ => rfl) us hl
     m69 := PySem.W.mg_of X G a69
     f69 := zK (st := za 35) l69 e69 k69
     b69 := (zK (st := za 35) l69 e69 k69).binds (ps := zp 69) fun _ _ _ _ _ _ us hl => zaW (P := fun us => bindArgs _ ⟨us, []⟩ = pure ((zp 69).zip us)) (fun _ _ _ _ => rfl) us hl
     m70 := PySem.W.mg_of X G a70
     f70 := zK (st := za 36) l70 e70 k70
     b70 := (zK (st := za 36) l70 e70 k70).binds (ps := zp 70) fun _ _ _ _ _ _ us hl => wR (P := fun us => bindArgs _ ⟨us, []⟩ = pure ((zp 70).zip us)) (fun _ _ => rfl) us hl
     m71 := PySem.W.mg_of X G a71
     f71 := zK (st := za 37) l71 e71 k71
     b71 := (zK (st := za 37) l71 e71 k71).binds (ps := zp 71) fun _ _ _ _ _ _ us hl => wS (P := fun us => bindArgs _ ⟨us, []⟩ = pure ((zp 71).zip us)) (fun _ _ _ => rfl) us hl
     m72 := PySem.W.mg_of X G a72
     f72 := zK (st := za 46) l72 e72 k72
     b72 := (zK (st := za 46) l72 e72 k72).binds (ps := zp 72) fun _ _ _ _ _ _ us hl => wS (P := fun us => bindArgs _ ⟨us, []⟩ = pure ((zp 72).zip us)) (fun _ _ _ => rfl) us hl
     m73 := PySem.W.mg_of X G a73
     f73 := zK (st := za 47) l73 e73 k73
     b73 := (zK (st := za 47) l73 e73 k73).binds (ps := zp 73) fun _ _ _ _ _ _ us hl => vH (P := fun us => bindArgs _ ⟨us, []⟩ = pure ((zp 73).zip us)) (fun _ => rfl) us hl
     z_isinstance := PySem.W.mg_none_of X G z_isinstance
     z_int := PySem.W.mg_none_of X G z_int
     z_bool := PySem.W.mg_none_of X G z_bool
     z_len := PySem.W.mg_none_of X G z_len
     z_tuple := PySem.W.mg_none_of X G z_tuple
     z_range := PySem.W.mg_none_of X G z_range
     z_all := PySem.W.mg_none_of X G z_all
     z_abs := PySem.W.mg_none_of X G z_abs
     z_max := PySem.W.mg_none_of X G z_max
     z_min := PySem.W.mg_none_of X G z_min
     z_sorted := PySem.W.mg_none_of X G z_sorted
     z_enumerate := PySem.W.mg_none_of X G z_enumerate
     z_sum := PySem.W.mg_none_of X G z_sum
     z_reversed := PySem.W.mg_none_of X G z_reversed
     z_list := PySem.W.mg_none_of X G z_list
     c0 := PySem.W.mg_of X G c0
     c1 := PySem.W.mg_of X G c1
     c2 := PySem.W.mg_of X G c2
     c3 := PySem.W.mg_of X G c3
     c4 := PySem.W.mg_of X G c4
   }, rfl, fun s u => .of_eq rfl⟩
end
end LK
namespace LK
open PySem PySem.W L2
noncomputable def en(P:Params)(x:Str)(t:Nat)(v:Value):DictEntry:=⟨PyData.keyHash P x,.str x t,v⟩
noncomputable def fo(i:Nat)(x m:Str)(t c:Nat):Obj:=⟨.type "function",none,.func (fnOf x x (zH (za i)) (zt (za i)) (zb (za i)) .none .none .none (.str m t) none (.ref c) .none), #[]⟩
noncomputable def co(x:Str)(t l a r h:Nat):Obj:=⟨.type "code",none,.fields #[.str x t,.str x (t+1),.str "/claim/cut.py" (t+2),.int l 0,.int a 0,.int 0 0,.int 0 0,.int 3 0,.ref r,.bool true,.int 181 0,.ref (r+1),.none,.ref (r+2),.ref (r+3),.ref (r+4),.int h 0,.int l 0,.str "/claim/cut.py" (h+1)], #[]⟩
noncomputable def cn(x:Str)(t l a r h:Nat):Obj:=⟨.type "code",none,.fields #[.str x t,.str x (t+1),.str "/claim/cut.py" (t+2),.int l 0,.int a 0,.int 0 0,.int 0 0,.int 3 0,.ref r,.bool true,.int 181 0,.ref (r+1),.none,.none,.none,.ref (r+2),.int h 0,.int l 0,.str "/claim/cut.py" (h+1)], #[]⟩
noncomputable def HK(P:Params):Frag:=[(3,.mk (.type "dict") none (.dict #[en P "__name__" 165 (.str "law_leaperwalk_k10_cuts" 492),en P "__doc__" 166 .none,en P "__package__" 167 .none,en P "__loader__" 168 (.builtin "__main__.__loader__#opaque"),en P "__spec__" 169 .none,en P "__annotations__" 170 (.ref 6),en P "__builtins__" 171 (.ref 4),en P "__file__" 173 (.str "/claim/cut.py" 172),en P "__cached__" 174 .none,en P "LeapError" 206 (.ref 24),en P "BadFloor" 222 (.ref 37),en P "BadLeap" 238 (.ref 49),en P "BadNumber" 254 (.ref 61),en P "TooBig" 270 (.ref 73),en P "LAST_LINE" 274 (.int 7 273),en P "MOST_CELLS" 276 (.int 24 275),en P "LONGEST_LEAP" 278 (.int 4 277),en P "is_whole" 287 (.ref 82),en P "is_couple" 294 (.ref 89),en P "is_cell" 301 (.ref 96),en P "is_leap" 308 (.ref 103),en P "is_rising" 314 (.ref 108),en P "is_floor" 320 (.ref 113),en P "checked" 327 (.ref 120),en P "checked_leap" 334 (.ref 127),en P "folded" 344 (.ref 134),en P "are_near" 353 (.ref 141),en P "cells_near" 359 (.ref 146),en P "leads_to" 373 (.ref 153),en P "parts_within" 385 (.ref 160),en P "MOST_TO_WALK" 389 (.int 16 388),en P "MOST_TO_CUT" 391 (.int 9 390),en P "refuse_big" 399 (.ref 167),en P "bits_near" 405 (.ref 172),en P "one_cell_walks" 415 (.ref 179),en P "one_cell_longer" 427 (.ref 186),en P "layers_from" 436 (.ref 193),en P "walk_between" 451 (.ref 200),en P "walk" 457 (.ref 205),en P "ring_walk" 463 (.ref 210),en P "leaves_too_many" 469 (.ref 215),en P "one_cell_more" 480 (.ref 222),en P "cut_of" 491 (.ref 229),en P "_law_cell" 501 (.ref 236),en P "_law_mix" 510 (.ref 243),en P "_law_floor" 529 (.ref 250),en P "_law_leap" 537 (.ref 257),en P "_law_is_near" 546 (.ref 264),en P "_law_near" 552 (.ref 269),en P "_law_parts" 558 (.ref 274),en P "_law_cut" 564 (.ref 279),en P "law" 575 (.ref 286)] 52) #[]),
 (81,co "is_whole" 279 16 3 76 285),
 (82,fo 10 "is_whole" "leaperwalk.floors" 271 81),
 (88,co "is_couple" 288 20 1 83 292),
 (89,fo 11 "is_couple" "leaperwalk.floors" 271 88),
 (95,co "is_cell" 295 22 1 90 299),
 (96,fo 12 "is_cell" "leaperwalk.floors" 271 95),
 (102,co "is_leap" 302 24 1 97 306),
 (103,fo 13 "is_leap" "leaperwalk.floors" 271 102),
 (107,cn "is_rising" 309 26 1 104 312),
 (108,fo 14 "is_rising" "leaperwalk.floors" 271 107),
 (112,cn "is_floor" 315 28 1 109 318),
 (113,fo 15 "is_floor" "leaperwalk.floors" 271 112),
 (119,co "checked" 321 32 1 114 325),
 (120,fo 16 "checked" "leaperwalk.floors" 271 119),
 (126,co "checked_leap" 328 36 1 121 332),
 (127,fo 17 "checked_leap" "leaperwalk.floors" 271 126),
 (133,co "folded" 337 41 2 128 342),
 (134,fo 19 "folded" "leaperwalk.leaps" 335 133),
 (140,co "are_near" 345 43 3 135 351),
 (141,fo 20 "are_near" "leaperwalk.leaps" 335 140),
 (145,cn "cells_near" 354 45 3 142 357),
 (146,fo 21 "cells_near" "leaperwalk.leaps" 335 145),
 (152,co "leads_to" 360 47 3 147 371),
 (153,fo 22 "leads_to" "leaperwalk.leaps" 335 152),
 (159,co "parts_within" 374 59 2 154 383),
 (160,fo 23 "parts_within" "leaperwalk.leaps" 335 159),
 (166,co "refuse_big" 392 71 2 161 397),
 (167,fo 27 "refuse_big" "leaperwalk.walks" 386 166),
 (171,cn "bits_near" 400 74 3 168 403),
 (172,fo 28 "bits_near" "leaperwalk.walks" 386 171),
 (178,co "one_cell_walks" 406 76 2 173 413),
 (179,fo 29 "one_cell_walks" "leaperwalk.walks" 386 178),
 (185,co "one_cell_longer" 416 82 2 180 425),
 (186,fo 30 "one_cell_longer" "leaperwalk.walks" 386 185),
 (192,co "layers_from" 428 90 2 187 434),
 (193,fo 31 "layers_from" "leaperwalk.walks" 386 192),
 (199,co "walk_between" 437 95 4 194 449),
 (200,fo 32 "walk_between" "leaperwalk.walks" 386 199),
 (204,cn "walk" 452 107 2 201 455),
 (205,fo 33 "walk" "leaperwalk.walks" 386 204),
 (209,cn "ring_walk" 458 114 2 206 461),
 (210,fo 34 "ring_walk" "leaperwalk.walks" 386 209),
 (214,cn "leaves_too_many" 464 122 4 211 467),
 (215,fo 35 "leaves_too_many" "leaperwalk.walks" 386 214),
 (221,co "one_cell_more" 470 126 2 216 478),
 (222,fo 36 "one_cell_more" "leaperwalk.walks" 386 221),
 (228,co "cut_of" 481 133 3 223 489),
 (229,fo 37 "cut_of" "leaperwalk.walks" 386 228),
 (235,co "_law_cell" 494 147 2 230 499),
 (236,fo 39 "_law_cell" "law_leaperwalk_k10_cuts" 492 235),
 (242,co "_law_mix" 502 151 3 237 508),
 (243,fo 40 "_law_mix" "law_leaperwalk_k10_cuts" 492 242),
 (249,co "_law_floor" 511 153 3 244 527),
 (250,fo 41 "_law_floor" "law_leaperwalk_k10_cuts" 492 249),
 (256,co "_law_leap" 530 169 1 251 535),
 (257,fo 42 "_law_leap" "law_leaperwalk_k10_cuts" 492 256),
 (263,co "_law_is_near" 538 172 3 258 544),
 (264,fo 43 "_law_is_near" "law_leaperwalk_k10_cuts" 492 263),
 (268,cn "_law_near" 547 174 3 265 550),
 (269,fo 44 "_law_near" "law_leaperwalk_k10_cuts" 492 268),
 (273,cn "_law_parts" 553 176 2 270 556),
 (274,fo 45 "_law_parts" "law_leaperwalk_k10_cuts" 492 273),
 (278,cn "_law_cut" 559 188 3 275 562),
 (279,fo 46 "_law_cut" "law_leaperwalk_k10_cuts" 492 278),
 (285,co "law" 565 200 1 280 573),
 (286,fo 47 "law" "law_leaperwalk_k10_cuts" 492 285)]
noncomputable def HA:List Addr:=[3,81,82,88,89,95,96,102,103,107,108,112,113,119,120,126,127,133,134,140,141,145,146,152,153,159,160,166,167,171,172,178,179,185,186,192,193,199,200,204,205,209,210,214,215,221,222,228,229,235,236,242,243,249,250,256,257,263,264,268,269,273,274,278,279,285,286]
noncomputable def HQ:Program:=view PySem.Challenge.pw_leaperwalk_k10_cuts [1,2,3,4,5,7,8,9,10,11,12,13,14,15,16,17,19,20,21,22,23,25,26,27,28,29,30,31,32,33,34,35,36,37,39,40,41,42,43,44,45,46,47]
theorem zrd: ∀P,HA=(HK P).map (·.1):=fun P=>by kernel_rfl
noncomputable def HH:Hook:=kHook HK HA zrd
set_option maxHeartbeats 0 in
theorem zre:LeftO PySem.Challenge.pw_leaperwalk_k10_cuts HQ [] (fun s=>xlAt HQ [] s&&recOk (RowW.records (OpenRow.toRowW (OpenLaw.row PySem.Challenge.rw_leaperwalk_k10_cuts))) s) HH.obs HH.val 4368:=by
 intro w
 kernel_rfl
end LK
open PySem PySem.W PyProof.Rows
set_option maxRecDepth 100000 in
set_option maxHeartbeats 0 in
theorem PySem.Challenge.cw_leaperwalk_k10_cuts_holds : PySem.Challenge.rw_leaperwalk_k10_cuts.Holds := by
 w_on;o_law
 refine PySem.W.holds_open (XP:=XL LK.HQ []) LK.zre (Hook.of LK.HH) (Hook.keeps LK.HH) (fun s e=>xl_of s (Bool.and_eq_true_iff.mp e).1) XL.keeps (by rfl) (by rfl) (by rfl) (fun s e=>recFacts_of (Bool.and_eq_true_iff.mp e).2) (by rfl) (by assumption) (by decide+kernel) ⟨rfl,rfl,rfl,rfl,rfl,by decide+kernel⟩ ?hw ?hc
 case hw=>w_witness2
 refine L2.zhT (K:=LK.HK) (l:=PySem.Challenge.rw_leaperwalk_k10_cuts) (n:=63) (k:=LK.depth) (x:="_law_script") (CX:=L2.zD) (sp:=fun K=>L2.LW.zZ K (L2.LW.zq LK.U LK.zi LK.depth) 73 []) rfl (by decide) rfl ⟨rfl,by decide,by decide⟩ (fun w h Y=>Y) ?F ?S ?C
 case F=>
  intro w mg fa h KX G hmg
  have l0:List.lookup 82 (LK.HK w.params)=some (LK.fo 10 "is_whole" "leaperwalk.floors" 271 81):=by kernel_rfl
  have l1:List.lookup 89 (LK.HK w.params)=some (LK.fo 11 "is_couple" "leaperwalk.floors" 271 88):=by kernel_rfl
  have l2:List.lookup 96 (LK.HK w.params)=some (LK.fo 12 "is_cell" "leaperwalk.floors" 271 95):=by kernel_rfl
  have l3:List.lookup 103 (LK.HK w.params)=some (LK.fo 13 "is_leap" "leaperwalk.floors" 271 102):=by kernel_rfl
  have l4:List.lookup 108 (LK.HK w.params)=some (LK.fo 14 "is_rising" "leaperwalk.floors" 271 107):=by kernel_rfl
  have l5:List.lookup 113 (LK.HK w.params)=some (LK.fo 15 "is_floor" "leaperwalk.floors" 271 112):=by kernel_rfl
  have l6:List.lookup 120 (LK.HK w.params)=some (LK.fo 16 "checked" "leaperwalk.floors" 271 119):=by kernel_rfl
  have l7:List.lookup 127 (LK.HK w.params)=some (LK.fo 17 "checked_leap" "leaperwalk.floors" 271 126):=by kernel_rfl
  have l9:List.lookup 134 (LK.HK w.params)=some (LK.fo 19 "folded" "leaperwalk.leaps" 335 133):=by kernel_rfl
  have l10:List.lookup 141 (LK.HK w.params)=some (LK.fo 20 "are_near" "leaperwalk.leaps" 335 140):=by kernel_rfl
  have l11:List.lookup 146 (LK.HK w.params)=some (LK.fo 21 "cells_near" "leaperwalk.leaps" 335 145):=by kernel_rfl
  have l13:List.lookup 236 (LK.HK w.params)=some (LK.fo 39 "_law_cell" "law_leaperwalk_k10_cuts" 492 235):=by kernel_rfl
  have l14:List.lookup 243 (LK.HK w.params)=some (LK.fo 40 "_law_mix" "law_leaperwalk_k10_cuts" 492 242):=by kernel_rfl
  have l15:List.lookup 250 (LK.HK w.params)=some (LK.fo 41 "_law_floor" "law_leaperwalk_k10_cuts" 492 249):=by kernel_rfl
  have l16:List.lookup 257 (LK.HK w.params)=some (LK.fo 42 "_law_leap" "law_leaperwalk_k10_cuts" 492 256):=by kernel_rfl
  have l17:List.lookup 264 (LK.HK w.params)=some (LK.fo 43 "_law_is_near" "law_leaperwalk_k10_cuts" 492 263):=by kernel_rfl
  have l18:List.lookup 269 (LK.HK w.params)=some (LK.fo 44 "_law_near" "law_leaperwalk_k10_cuts" 492 268):=by kernel_rfl
  have l20:List.lookup 153 (LK.HK w.params)=some (LK.fo 22 "leads_to" "leaperwalk.leaps" 335 152):=by kernel_rfl
  have l30:List.lookup 160 (LK.HK w.params)=some (LK.fo 23 "parts_within" "leaperwalk.leaps" 335 159):=by kernel_rfl
  have l32:List.lookup 274 (LK.HK w.params)=some (LK.fo 45 "_law_parts" "law_leaperwalk_k10_cuts" 492 273):=by kernel_rfl
  have l61:List.lookup 167 (LK.HK w.params)=some (LK.fo 27 "refuse_big" "leaperwalk.walks" 386 166):=by kernel_rfl
  have l62:List.lookup 172 (LK.HK w.params)=some (LK.fo 28 "bits_near" "leaperwalk.walks" 386 171):=by kernel_rfl
  have l63:List.lookup 179 (LK.HK w.params)=some (LK.fo 29 "one_cell_walks" "leaperwalk.walks" 386 178):=by kernel_rfl
  have l64:List.lookup 186 (LK.HK w.params)=some (LK.fo 30 "one_cell_longer" "leaperwalk.walks" 386 185):=by kernel_rfl
  have l65:List.lookup 193 (LK.HK w.params)=some (LK.fo 31 "layers_from" "leaperwalk.walks" 386 192):=by kernel_rfl
  have l66:List.lookup 200 (LK.HK w.params)=some (LK.fo 32 "walk_between" "leaperwalk.walks" 386 199):=by kernel_rfl
  have l67:List.lookup 205 (LK.HK w.params)=some (LK.fo 33 "walk" "leaperwalk.walks" 386 204):=by kernel_rfl
  have l68:List.lookup 210 (LK.HK w.params)=some (LK.fo 34 "ring_walk" "leaperwalk.walks" 386 209):=by kernel_rfl
  have l69:List.lookup 215 (LK.HK w.params)=some (LK.fo 35 "leaves_too_many" "leaperwalk.walks" 386 214):=by kernel_rfl
  have l70:List.lookup 222 (LK.HK w.params)=some (LK.fo 36 "one_cell_more" "leaperwalk.walks" 386 221):=by kernel_rfl
  have l71:List.lookup 229 (LK.HK w.params)=some (LK.fo 37 "cut_of" "leaperwalk.walks" 386 228):=by kernel_rfl
  have l72:List.lookup 279 (LK.HK w.params)=some (LK.fo 46 "_law_cut" "law_leaperwalk_k10_cuts" 492 278):=by kernel_rfl
  have l73:List.lookup 286 (LK.HK w.params)=some (LK.fo 47 "law" "law_leaperwalk_k10_cuts" 492 285):=by kernel_rfl
  obtain⟨F,FD,TK,T,e0,hb⟩:=LK.zrc (t0:=273) (t1:=275) (t2:=277) (t3:=388) (t4:=390) KX G (by kernel_rfl) l0 (by kernel_rfl) (by kernel_rfl) (by kernel_rfl) l1 (by kernel_rfl) (by kernel_rfl) (by kernel_rfl) l2 (by kernel_rfl) (by kernel_rfl) (by kernel_rfl) l3 (by kernel_rfl) (by kernel_rfl) (by kernel_rfl) l4 (by kernel_rfl) (by kernel_rfl) (by kernel_rfl) l5 (by kernel_rfl) (by kernel_rfl) (by kernel_rfl) l6 (by kernel_rfl) (by kernel_rfl) (by kernel_rfl) l7 (by kernel_rfl) (by kernel_rfl) (by kernel_rfl) l9 (by kernel_rfl) (by kernel_rfl) (by kernel_rfl) l10 (by kernel_rfl) (by kernel_rfl) (by kernel_rfl) l11 (by kernel_rfl) (by kernel_rfl) (by kernel_rfl) l13 (by kernel_rfl) (by kernel_rfl) (by kernel_rfl) l14 (by kernel_rfl) (by kernel_rfl) (by kernel_rfl) l15 (by kernel_rfl) (by kernel_rfl) (by kernel_rfl) l16 (by kernel_rfl) (by kernel_rfl) (by kernel_rfl) l17 (by kernel_rfl) (by kernel_rfl) (by kernel_rfl) l18 (by kernel_rfl) (by kernel_rfl) (by kernel_rfl) l20 (by kernel_rfl) (by kernel_rfl) (by kernel_rfl) l30 (by kernel_rfl) (by kernel_rfl) (by kernel_rfl) l32 (by kernel_rfl) (by kernel_rfl) (by kernel_rfl) l61 (by kernel_rfl) (by kernel_rfl) (by kernel_rfl) l62 (by kernel_rfl) (by kernel_rfl) (by kernel_rfl) l63 (by kernel_rfl) (by kernel_rfl) (by kernel_rfl) l64 (by kernel_rfl) (by kernel_rfl) (by kernel_rfl) l65 (by kernel_rfl) (by kernel_rfl) (by kernel_rfl) l66 (by kernel_rfl) (by kernel_rfl) (by kernel_rfl) l67 (by kernel_rfl) (by kernel_rfl) (by kernel_rfl) l68 (by kernel_rfl) (by kernel_rfl) (by kernel_rfl) l69 (by kernel_rfl) (by kernel_rfl) (by kernel_rfl) l70 (by kernel_rfl) (by kernel_rfl) (by kernel_rfl) l71 (by kernel_rfl) (by kernel_rfl) (by kernel_rfl) l72 (by kernel_rfl) (by kernel_rfl) (by kernel_rfl) l73 (by kernel_rfl) (by kernel_rfl) (by kernel_rfl) (by kernel_rfl) (by kernel_rfl) (by kernel_rfl) (by kernel_rfl) (by kernel_rfl) (by kernel_rfl) (by kernel_rfl) (by kernel_rfl) (by kernel_rfl) (by kernel_rfl) (by kernel_rfl) (by kernel_rfl) (by kernel_rfl) (by kernel_rfl) (by kernel_rfl) (by kernel_rfl) (by kernel_rfl) (by kernel_rfl) (by kernel_rfl)
  have e1:=hmg.symm.trans T.m73
  cases e1
  exact⟨_,hb,fun base _ _=>LK.yp T LK.depth 73⟩
 case S=>exact fun K H a ns hl _ hS=>L2.LW.zjq (LK.zmT ns hl) hS
 case C=>exact fun _ _ _ _ z=>z
