import PyProof.Rows.All
import Wide.All
import OpenK.AllK
import Wide.FinOn
import Lean
import PyProof.EqAt
import PyProof.EqKinds
import PyProof.TupleCall
import PyProof.SeqI3
import KE.KTupSum
import KE.LcSums
import KE.KDictSum
import KE.KTryMore
import PyProof.ExcBaseAll.ValueError
import OpenK.KOwn
import KE.RegKTryMore
import KE.RegKIsAll
import PyProof.ListMulRoad
import PyProof.Draws
import PyProof.EnumStmt
import PyProof.EnumMake
import PyProof.StrLawsTight
import PyProof.StrLawsChain
import PyProof.Rows.StrNews
import PyProof.Rows.StrJoin2
import PyProof.Rows.EnumRows
import PyProof.FString
import KE.KRevIter
import PySem.Challenge.RW_leaperwalk_k20_nothing_is_kept
set_option Elab.async false
set_option linter.all false
set_option maxRecDepth 100000
section
open PySem PySem.Spec PySem.W PySem.Calls PyProof.Rows
abbrev Ka:=PySem.W.Frag
abbrev Kb:=@wpAny_bind
abbrev Kc:=@wpAny_pure
abbrev Kd:=@wpAny_mono
abbrev Ke:=@List.mem_cons_self
abbrev Kf:=@List.mem_cons_of_mem
abbrev Kg:=@Nat.le_trans
abbrev Kh:=@Nat.ne_of_lt
abbrev Ki:=@Nat.lt_of_lt_of_le
abbrev Kj:=@Nat.le_succ
abbrev Kk:=@Heap.lt_size
abbrev Kl:=@Heap.get?_push_of_some
abbrev Km:=@Bool.false_ne_true
abbrev Kn:=@Option.some.inj
abbrev Ko:=@List.mem_append_right
abbrev Kp:=@List.mem_append_left
abbrev Ku:=@List.getElem_mem
abbrev Kv:=@List.filter_sublist
abbrev Kw:=@PySem.W.mg_of
abbrev Kx:=@PySem.W.mg_none_of
abbrev Ky:=@PassesOwn.never
abbrev Kz:=@List.mem_of_getElem?
abbrev KB:=@List.length_filter_le
abbrev KC:=@absurd
abbrev KD:=@Nat.lt_succ_of_lt
abbrev KF:=@PySem.boot_len
abbrev KG:=@decide_eq_false
abbrev KJ:=@Nat.pow_le_pow_right
abbrev KL:=@List.take_of_length_le
end
theorem jo1{a b:Type}{x:Option a}{f:a->Option b}{y:b}:x.bind f=some y↔∃z,x=some z/\f z=some y:=Option.bind_eq_some_iff
theorem jo2{a b:Type}{x:Option a}{f:a->b}{y:b}:x.map f=some y↔∃z,x=some z/\f z=y:=Option.map_eq_some_iff
set_option Elab.async false
set_option maxRecDepth 100000
namespace L2
open PySem PySem.Spec PyProof.Rows
noncomputable abbrev zw:=Sum Int Str
noncomputable def ZJ:zw->Value->Bool
 | .inl k,v=>Value.isInt k v
 | .inr x,v=>Value.isStrOf x v
noncomputable def zgu(w:World):zw->Int
 | .inl k=>hashInt k
 | .inr x=>hashStr w x
theorem vp: ∀{k:zw} {v:Value},ZJ k v=true->(∃i t,k=Sum.inl i/\v=Value.int i t)\/(∃x t,k=Sum.inr x/\v=Value.str x t)
 | .inl i,v,h=>by
  obtain⟨t,e⟩:=Value.isInt_shape (k:=i) (v:=v) h;exact .inl ⟨i,t,rfl,e⟩
 | .inr x,v,h=>by
  obtain⟨t,e⟩:=Value.isStrOf_shape (x:=x) (v:=v) h;exact .inr ⟨x,t,rfl,e⟩
theorem zgv(i:Int)(t:Tok):ZJ (.inl i) (.int i t)=true:=by simp[ZJ,Value.isInt]
theorem zgw(x:Str)(t:Tok):ZJ (.inr x) (.str x t)=true:=by simp[ZJ,Value.isStrOf]
theorem zgx(a b:Int):decide ((Sum.inl a:zw)=Sum.inl b)=(a==b):=by
 by_cases e:a=b
 ·subst e;simp
 ·have h: ¬(Sum.inl a:zw)=Sum.inl b:=fun q=>e (Sum.inl.inj q)
  rw[KG h];exact (beq_eq_false_iff_ne.mpr e).symm
theorem zgy(a b:Str):decide ((Sum.inr a:zw)=Sum.inr b)=decide (a=b):=by
 by_cases e:a=b
 ·subst e;simp
 ·have h: ¬(Sum.inr a:zw)=Sum.inr b:=fun q=>e (Sum.inr.inj q)
  rw[KG h,KG e]
theorem zgz(a:Int)(b:Str):decide ((Sum.inl a:zw)=Sum.inr b)=false:=KG (fun q=>nomatch q)
theorem zgA(a:Str)(b:Int):decide ((Sum.inr a:zw)=Sum.inl b)=false:=KG (fun q=>nomatch q)
noncomputable def zY(prog:Program)(w:World):PySem.KeyKind prog w zw where
 is:=ZJ
 hash:=zgu w
 inj:=fun v a b ha hb=>by
  rcases vp ha with ⟨i,t,rfl,rfl⟩|⟨x,t,rfl,rfl⟩
  ·rcases vp hb with ⟨j,u,rfl,e⟩|⟨y,u,rfl,e⟩
   ·injection e with e1 _;rw[e1]
   ·exact nomatch e
  ·rcases vp hb with ⟨j,u,rfl,e⟩|⟨y,u,rfl,e⟩
   ·exact nomatch e
   ·injection e with e1 _;rw[e1]
 byValue:=fun k v h=>by
  rcases vp h with ⟨i,t,rfl,rfl⟩|⟨x,t,rfl,rfl⟩<;>rfl
 pyHash:=fun hv h=>by
  rcases vp hv with ⟨i,t,rfl,rfl⟩|⟨x,t,rfl,rfl⟩
  ·exact wpAny_pyHash_int h
  ·exact wpAny_pyHash_str h
 eqBool:=fun hu hv h=>by
  rcases vp hu with ⟨i,t,rfl,rfl⟩|⟨x,t,rfl,rfl⟩
  ·rcases vp hv with ⟨j,u,rfl,rfl⟩|⟨y,u,rfl,rfl⟩
   ·rw[zgx] at h;exact wpAny_eqBool_int h
   ·rw[zgz] at h;exact SeqAt.EqAt.int_str i t y u _ _ _ _ h
  ·rcases vp hv with ⟨j,u,rfl,rfl⟩|⟨y,u,rfl,rfl⟩
   ·rw[zgA] at h;exact SeqAt.EqAt.str_int x t j u _ _ _ _ h
   ·rw[zgy] at h;exact wpAny_eqBool_str h
 «strs»:=fun k x t v h=>by
  rcases vp h with ⟨i,u,rfl,e⟩|⟨y,u,rfl,e⟩
  ·exact nomatch e
  ·injection e with e1 _
   subst e1;cases v<;>rfl
theorem zgB(prog:Program)(w:World)(i:Int)(t:Tok):(zY prog w).is (.inl i) (.int i t)=true:=zgv i t
theorem zgC(prog:Program)(w:World)(x:Str)(t:Tok):(zY prog w).is (.inr x) (.str x t)=true:=zgw x t
end L2
namespace L2
open PySem PySem.Spec PyProof.Rows
inductive V where
 |non|bl (b:Bool)|int (i:Int)|str (x:Str)|byt (b:Array UInt8)|flt (b:UInt64)|ref (a:Addr)|ty (n:String)
 deriving DecidableEq
noncomputable def RelV:V->Value->Prop
 | .non,u=>u=Value.none
 | .bl b,u=>u=Value.bool b
 | .int i,u=>∃t,u=Value.int i t
 | .str x,u=>∃t,u=Value.str x t
 | .byt b,u=>∃t,u=Value.bytes b t
 | .flt b,u=>∃t,u=Value.float b t
 | .ref a,u=>u=Value.ref a
 | .ty n,u=>u=Value.type n
noncomputable abbrev Vals:List V->List Value->Prop:=Paired RelV
theorem Vals.length{xs:List V}{us:List Value}(r:Vals xs us):xs.length=us.length:=Paired.length r
theorem Vals.get: ∀{xs:List V} {us:List Value} {i:Nat} {x:V},Vals xs us->xs[i]? =some x->∃u,us[i]? =some u/\RelV x u
 |_,_,_,_,.nil,e=>by simp at e
 |_,_,0,_,.cons r _,e=>by simp at e;subst e;exact⟨_,rfl,r⟩
 |_,_,i+1,x,.cons _ t,e=>by
  obtain⟨u,h1,h2⟩:=Vals.get (i:=i) (x:=x) t (by simpa using e);exact⟨u,by simpa using h1,h2⟩
theorem Vals.append: ∀{xs ys:List V} {us ws:List Value},Vals xs us->Vals ys ws->Vals (xs++ys) (us++ws)
 |_,_,_,_,.nil,s=>s
 |_,_,_,_,.cons r t,s=>.cons r (Vals.append t s)
theorem Vals.take: ∀{xs:List V} {us:List Value} (n:Nat),Vals xs us->Vals (xs.take n) (us.take n)
 |_,_,0,_=>.nil
 |_,_,_+1,.nil=>.nil
 |_,_,n+1,.cons r t=>.cons r (Vals.take n t)
theorem Vals.drop: ∀{xs:List V} {us:List Value} (n:Nat),Vals xs us->Vals (xs.drop n) (us.drop n)
 |_,_,0,r=>r
 |_,_,_+1,.nil=>.nil
 |_,_,n+1,.cons _ t=>Vals.drop n t
noncomputable def RelO:Option V->Option Value->Prop
 |some v,some u=>RelV v u
 |none,none=>True
 |_,_=>False
noncomputable def KV{κ:Type}:List (κ×V)->List (κ×Value)->Prop:=Paired fun (p:κ×V) (q:κ×Value)=>p.1=q.1/\RelV p.2 q.2
noncomputable def kV:zw->V
 | .inl i=>.int i
 | .inr x=>.str x
inductive HO where
 |lst (xs:List V)
 |tup (xs:List V)
 |dK (kvs:List (zw×V))|dT (kvs:List (List zw×V))
 |set (S:Int->Bool) (n:Nat)
 |ins (C dx:Addr) (fs:List (Str×V))
 |own (x:Addr)
 |xd (fs:List (Str×V))
 |met (f x:Addr)
 |rng (lo hi:Int)
 |frz (o:Obj) (u:HO)
 |tbl (ps:Array Value)
 |ext (φ:Heap->Prop)
noncomputable abbrev Hp:=Addr->Option HO
noncomputable def zu(H:Hp)(a:Addr)(o:HO):Hp:=fun b=>if b=a then some o else H b
theorem yn{H:Hp}{a:Addr}{o:HO}:zu H a o a=some o:=by unfold zu;rw[if_pos rfl]
theorem zy{H:Hp}{a b:Addr}{o:HO}(h:b≠a):zu H a o b=H b:=by unfold zu;rw[if_neg h]
theorem ZK{H:Hp}{a b:Addr}{o u:HO}(h:H a=some o)(h':H b=some u)(d:o≠u):a≠b:=by
 intro e;subst e;rw[h] at h';exact d (Kn h')
theorem vt{H:Hp}{a b:Addr}{o:HO}(h:H a=some o)(h':H b=none):a≠b:=by
 intro e;subst e;rw[h] at h';cases h'
section
variable (P:Program) (w:World)
noncomputable def ObjOk(H:Hp)(h:Heap)(a:Addr):HO->Prop
 | .lst xs=>xs.length<=sizeLine/\∃(its:List Value) (n:Nat),Vals xs its/\h.get? a=some { cls:=.type "list",data:=.seq its.toArray n }
 | .tup xs=>xs.length<=sizeLine/\∃its:List Value,Vals xs its/\IsTup h a its.toArray
 | .dK kvs=>kvs.length<=sizeLine/\(a==sysModules)=false/\∃vs,KV kvs vs/\h.DictOf (zY P w) a vs
 | .dT kvs=>kvs.length<=sizeLine/\(a==sysModules)=false/\∃xs:List (List zw×Addr×Value),
   Paired (fun (p:List zw×V) (q:List zw×Addr×Value)=>p.1=q.1/\H q.2.1=some (.tup (p.1.map kV))/\RelV p.2 q.2.2) kvs xs/\
   ∃o es ep,h.get? a=some o/\o.ExactDict/\o.data= .dict es ep/\es.toList=xs.map (entryOfKey (tupleKind (zY P w)))/\(xs.map (·.1)).Nodup
 | .set S n=>h.SetOf (intKind P w) a S n
 | .ins C dx fs=>H dx=some (.own a)/\fs.length<=1000/\dx≠a/\h.get? a=some (PySem.W.instObj C dx)/\
   ∃mA,h.Ns1 dx mA/\(∀f,RelO (fs.lookup f) (mA f))/\PySem.Within mA (fs.map (·.1))
 | .own _=>∃o,h.get? a=some o
 | .xd fs=>∃mA,h.Ns1 a mA/\∀f,RelO (fs.lookup f) (mA f)
 | .rng lo hi=>∃t u v,h.get? a=some { cls:=.type "range",data:=.fields #[.int lo t,.int hi u,.int 1 v] }
 | .frz o u=>h.get? a=some o/\ObjOk H h a u
 | .tbl ps=>h.get? a=some { cls:=.none,data:=.fields ps }
 | .met f x=>h.get? a=some (PySem.W.methodObj (.ref f) (.ref x))
 | .ext φ=>φ h/\(∃o,h.get? a=some o)/\∀h1 h2:Heap,φ h1->(∀o,h1.get? a=some o->h2.get? a=some o)->φ h2
noncomputable def HOk(H:Hp)(h:Heap):Prop:=∀a o,H a=some o->ObjOk P w H h a o
end
section
variable {P:Program} {w:World} {H H':Hp} {h h':Heap} {a:Addr} {o:HO}
theorem ObjOk.lt(x:ObjOk P w H h a o):a<h.objs.size:=by
 cases o with
 |lst xs=>obtain⟨_,_,_,_,e⟩:=x;exact Kk e
 |tup xs=>obtain⟨_,_,_,p⟩:=x;exact p.lt
 |dK kvs=>obtain⟨_,_,_,_,o,_,_,e,_⟩:=x;exact Kk e
 |dT kvs=>obtain⟨_,_,_,_,o,_,_,e,_⟩:=x;exact Kk e
 |set S n=>obtain⟨o,_,_,_,e,_⟩:=x;exact Kk e
 |ins C dx fs=>obtain⟨_,_,_,e,_⟩:=x;exact Kk e
 |own y=>obtain⟨_,e⟩:=x;exact Kk e
 |xd fs=>obtain⟨_,⟨_,_,_,e,_⟩,_⟩:=x;exact Kk e
 |rng lo hi=>obtain⟨_,_,_,e⟩:=x;exact Kk e
 |frz ob u=>obtain⟨e,_⟩:=x;exact Kk e
 |tbl ps=>exact Kk (show h.get? a=some _ from x)
 |met f y=>exact Kk (show h.get? a=some _ from x)
 |ext φ=>obtain⟨_,⟨_,e⟩,_⟩:=x;exact Kk e
theorem Paired.mapP{α β:Type}{F G:α->β->Prop}: ∀{l₁:List α} {l₂:List β},Paired F l₁ l₂->(∀a b,F a b->G a b)->Paired G l₁ l₂
 |_,_,.nil,_=>.nil
 |_,_,.cons r t,f=>.cons (f _ _ r) (Paired.mapP t f)
theorem Paired.imp'{α β:Type}{F G:α->β->Prop}(f: ∀a b,F a b->G a b){l₁:List α}{l₂:List β}(r:Paired F l₁ l₂):Paired G l₁ l₂:=Paired.mapP r f
theorem ObjOk.stay(x:ObjOk P w H h a o)(k: ∀b u,(b=a\/H b=some (.own a))->h.get? b=some u->h'.get? b=some u)
  (ho: ∀b,H b=some (.own a)->H' b=some (.own a)) (ht: ∀b xs,H b=some (.tup xs)->H' b=some (.tup xs)):ObjOk P w H' h' a o:=by
 induction o with
 |lst xs=>obtain⟨z,its,n,r,e⟩:=x;exact⟨z,its,n,r,k _ _ (.inl rfl) e⟩
 |tup xs=>obtain⟨z,its,r,ob,e,c⟩:=x;exact⟨z,its,r,ob,k _ _ (.inl rfl) e,c⟩
 |dK kvs=>obtain⟨z,y,vs,r,ob,es,ep,e,c⟩:=x;exact⟨z,y,vs,r,ob,es,ep,k _ _ (.inl rfl) e,c⟩
 |dT kvs=>
  obtain⟨z,y,xs,r,ob,es,ep,e,c⟩:=x;exact⟨z,y,xs,Paired.mapP r fun p q z=>⟨z.1,ht _ _ z.2.1,z.2.2⟩,ob,es,ep,k _ _ (.inl rfl) e,c⟩
 |set S n=>obtain⟨ob,es,ep,t,e,c⟩:=x;exact⟨ob,es,ep,t,k _ _ (.inl rfl) e,c⟩
 |ins C dx fs=>
  obtain⟨d,z,ne,e,mA,⟨od,es,ep,e2,c⟩,r⟩:=x;exact⟨ho _ d,z,ne,k _ _ (.inl rfl) e,mA,⟨od,es,ep,k _ _ (.inr d) e2,c⟩,r⟩
 |own y=>obtain⟨ob,e⟩:=x;exact⟨ob,k _ _ (.inl rfl) e⟩
 |xd fs=>obtain⟨mA,⟨od,es,ep,e,c⟩,r⟩:=x;exact⟨mA,⟨od,es,ep,k _ _ (.inl rfl) e,c⟩,r⟩
 |rng lo hi=>obtain⟨t,u,v,e⟩:=x;exact⟨t,u,v,k _ _ (.inl rfl) e⟩
 |frz ob u ih=>obtain⟨e,q⟩:=x;exact⟨k _ _ (.inl rfl) e,ih q⟩
 |tbl ps=>
  have e:h.get? a=some { cls:=.none,data:=.fields ps }:=x;show h'.get? a=some { cls:=.none,data:=.fields ps };exact k a _ (.inl rfl) e
 |met f y=>
  have e:h.get? a=some (PySem.W.methodObj (.ref f) (.ref y)):=x;show h'.get? a=some (PySem.W.methodObj (.ref f) (.ref y));exact k a _ (.inl rfl) e
 |ext φ=>obtain⟨p,⟨o,e⟩,st⟩:=x;exact⟨st _ _ p fun o q=>k _ _ (.inl rfl) q,⟨o,k _ _ (.inl rfl) e⟩,st⟩
theorem HOk.lt(x:HOk P w H h)(e:H a=some o):a<h.objs.size:=(x a o e).lt
theorem HOk.fresh(x:HOk P w H h)(e:h.objs.size<=a):H a=none:=by
 cases q:H a with
 |none=>rfl
 |some u=>exact KC (Ki (x.lt q) e) (Nat.lt_irrefl _)
theorem HOk.kept(x:HOk P w H h)(k: ∀b u,h.get? b=some u->h'.get? b=some u):HOk P w H h':=fun a o e=>
 (x a o e).stay (fun b u _ q=>k b u q) (fun _ q=>q) fun _ _ q=>q
theorem HOk.laid(x:HOk P w H h)(k: ∀b u,h.get? b=some u->h'.get? b=some u)(hp:h.objs.size<=a)(new:ObjOk P w (zu H a o) h' a o):HOk P w (zu H a o) h':=fun b u e=>by
 have hn:=x.fresh hp;by_cases hb:b=a
 ·subst hb;rw[yn] at e;cases e;exact new
 ·rw[zy hb] at e
  exact (x b u e).stay (fun c v _ q=>k c v q) (fun c q=>by rw[zy (vt q hn)];exact q) fun c xs q=>by rw[zy (vt q hn)];exact q
end
noncomputable def Rd(H:Hp)(a:Addr)(u:HO):Prop:=H a=some u\/∃o,H a=some (.frz o u)
theorem Rd.ok{P:Program}{w:World}{H:Hp}{h:Heap}{a:Addr}{u:HO}(r:Rd H a u)(x:HOk P w H h):ObjOk P w H h a u:=by
 rcases r with r|⟨o,r⟩
 ·exact x a u r
 ·obtain⟨_,q⟩:=x a _ r
  exact q
noncomputable def Xa:Option HO->Prop
 |some (.lst _)=>True
 |some (.dK _)=>True
 |some (.dT _)=>True
 |some (.set _ _)=>True
 |some (.ins _ _ _)=>True
 |some (.ext _)=>True
 |_=>False
section
variable {P:Program} {w:World} {H:Hp} {h h':Heap} {x e:Addr} {o':HO}
theorem HOk.write(ok:HOk P w H h)(mu:Xa (H x))(he:e=x\/H e=some (.own x))(k: ∀b u,b≠e->h.get? b=some u->h'.get? b=some u)(heo: ∃u,h'.get? e=some u)
  (new:ObjOk P w (zu H x o') h' x o'):HOk P w (zu H x o') h':=fun b u q=>by
 have nown: ∀c y,H c=some (.own y)->c≠x:=fun c y r z=>by subst z;rw[r] at mu;exact mu
 have ntup: ∀c xs,H c=some (.tup xs)->c≠x:=fun c xs r z=>by subst z;rw[r] at mu;exact mu
 by_cases hb:b=x
 ·subst hb;rw[yn] at q;cases q;exact new
 ·rw[zy hb] at q
  by_cases hbe:b=e
  ·have q':H b=some (.own x):=by
    rcases he with z|z
    ·exact KC (hbe.trans z) hb
    ·rw[hbe];exact z
   rw[q] at q';cases q';obtain⟨v,hv⟩:=heo;exact⟨v,by rw[hbe];exact hv⟩
  ·refine (ok b u q).stay (fun c v hc r=>k c v ?_ r) (fun c r=>by rw[zy (nown c b r)];exact r) fun c xs r=>by rw[zy (ntup c xs r)];exact r
   rcases hc with rfl|hc
   ·exact hbe
   ·rintro rfl
    rcases he with z|z
    ·exact nown c b hc z
    ·rw[hc] at z;cases z;exact hb rfl
end
structure Un (fs ex:List Addr)(H H':Hp)(h h':Heap):Prop where
 keep: ∀b o,h.get? b=some o->H b=none->b∉fs->b∉ex->h'.get? b=some o
 slot: ∀b o,h.get? b=some o->H b=none->b∈fs->b∉ex->∃sl,h'.get? b=some { o with slots:=sl }
 free: ∀b o,h.get? b=some o->H b=none->b∉ex->H' b=none
 there: ∀b o,h.get? b=some o->b∉ex->∃o',h'.get? b=some o'
 tups: ∀b xs,H b=some (.tup xs)->H' b=some (.tup xs)
 frzs: ∀b o u,H b=some (.frz o u)->H' b=some (.frz o u)
 tbls: ∀b ps,H b=some (.tbl ps)->∃more,H' b=some (.tbl (ps++more))
section
variable {fs fs' ex ex':List Addr} {H H1 H2:Hp} {h h1 h2 h':Heap} {a x e:Addr} {o:HO}
theorem Un.any(u:Un fs ex H H1 h h1){b:Addr}{ob:Obj}(q:h.get? b=some ob)(n:H b=none)(hx:b∉ex): ∃sl,h1.get? b=some { ob with slots:=sl }:=by
 by_cases hb:b∈fs
 ·exact u.slot b ob q n hb hx
 ·exact⟨ob.slots,u.keep b ob q n hb hx⟩
theorem Un.kept(k: ∀b u,h.get? b=some u->h'.get? b=some u):Un fs ex H H h h':=
 ⟨fun b ob q _ _ _=>k b ob q,fun b ob q _ _ _=>⟨ob.slots,k b ob q⟩,fun _ _ _ n _=>n,fun b ob q _=>⟨ob,k b ob q⟩,fun _ _ q=>q,fun _ _ _ q=>q,fun _ ps q=>⟨#[],by rw[q];simp⟩⟩
theorem Un.refl:Un fs ex H H h h:=Un.kept fun _ _ q=>q
theorem Un.laid(k: ∀b u,h.get? b=some u->h'.get? b=some u)(hp:h.objs.size<=a)(hn:H a=none):Un fs ex H (zu H a o) h h' where
 keep:=fun b u q _ _ _=>k b u q
 slot:=fun b u q _ _ _=>⟨u.slots,k b u q⟩
 free:=fun b u q n _=>by rw[zy (Kh (Ki (Kk q) hp))];exact n
 there:=fun b u q _=>⟨u,k b u q⟩
 tups:=fun b xs q=>by rw[zy (vt q hn)];exact q
 frzs:=fun b u xs q=>by rw[zy (vt q hn)];exact q
 tbls:=fun b ps q=>⟨#[],by rw[zy (vt q hn),q];simp⟩
theorem Un.write(mu:Xa (H x))(he:e=x\/H e=some (.own x))(k: ∀b u,b≠e->h.get? b=some u->h'.get? b=some u)(heo: ∃u,h'.get? e=some u):Un fs ex H (zu H x o) h h':=by
 have hx: ∀b,H b=none->b≠x:=fun b n z=>by subst z;rw[n] at mu;exact mu
 have hb: ∀b,H b=none->b≠e:=fun b n z=>by
  subst z;rcases he with r|r
  ·exact hx b n r
  ·rw[n] at r;cases r
 have hm: ∀b u,H b=some u->¬Xa (some u)->b≠x:=fun b u q nm z=>by subst z;rw[q] at mu;exact nm mu
 refine⟨fun b u q n _ _=>k b u (hb b n) q,fun b u q n _ _=>⟨u.slots,k b u (hb b n) q⟩,fun b u q n _=>by rw[zy (hx b n)];exact n,fun b u q _=>?_,
  fun b xs q=>by rw[zy (hm b _ q fun z=>z)];exact q,fun b u xs q=>by rw[zy (hm b _ q fun z=>z)];exact q,fun b ps q=>⟨#[],by rw[zy (hm b _ q fun z=>z),q];simp⟩⟩
 by_cases hbe:b=e
 ·subst hbe;exact heo
 ·exact⟨u,k b u hbe q⟩
end
noncomputable def JL(h:Heap)(H:Hp):List Addr:=(List.range h.objs.size).filter fun a=>(H a).isSome
noncomputable def vW(h:Heap)(H:Hp):Heap:=PySem.W.hideAll h (JL h H)
theorem zgD(h:Heap)(H:Hp):(vW h H).objs.size=h.objs.size:=PySem.W.hideAll_size _ _
theorem zgE{h:Heap}{H:Hp}{b:Addr}{o:Obj}(e:h.get? b=some o)(n:H b=none):(vW h H).get? b=some o:=
 PySem.W.hideAll_get _ e fun hm=>by
  have q:(H b).isSome=true:=(List.mem_filter.mp hm).2;rw[n] at q;simp at q
theorem zgF{h:Heap}{H:Hp}{b:Addr}{o:Obj}(e:(vW h H).get? b=some o):h.get? b=some o/\H b=none:=by
 have e':h.get? b=some o:=PySem.W.of_hideAll (JL h H) e;refine⟨e',?_⟩
 cases q:H b with
 |none=>rfl
 |some x=>
  have hm:b∈JL h H:=List.mem_filter.mpr ⟨List.mem_range.mpr (Kk e'),by simp[q]⟩;have z:(vW h H).get? b=none:=PySem.W.hideAll_none (JL h H) hm;rw[z] at e;cases e
noncomputable def zbO(g h:Heap)(L:Addr):List (Addr×Obj):=(List.range h.objs.size).filterMap fun a=>if a=L\/(g.get? a).isSome=true then none else (h.get? a).map fun o=>(a,o)
theorem zgG{g h:Heap}{L a:Addr}{o:Obj}(h1:a≠L)(h2:g.get? a=none)(h3:h.get? a=some o):(a,o)∈zbO g h L:=
 List.mem_filterMap.mpr ⟨a,List.mem_range.mpr (Kk h3),by simp[h1,h2,h3]⟩
noncomputable def zO(g h:Heap)(L d:Addr):List (Addr×Obj):=(zbO g h L).filter fun p=>decide (p.1≠d)
theorem rest_ne{g h:Heap}{L d:Addr}: ∀p∈zO g h L d,p.1≠d:=fun p hp=>of_decide_eq_true (List.mem_filter.mp hp).2
theorem mem_rest{g h:Heap}{L d a:Addr}{o:Obj}(h1:a≠L)(h2:g.get? a=none)(h3:h.get? a=some o)(h4:a≠d):(a,o)∈zO g h L d:=
 List.mem_filter.mpr ⟨zgG h1 h2 h3,decide_eq_true h4⟩
end L2
namespace L2
open PySem PySem.Spec PyProof.Rows
structure Mod (K:Ka)(mg:Str->Option Value)(base:Heap):Prop where
 kin:K.In base
 glob:base.Ns mainGlobals mg
 blt: ∃mb,base.Ns builtinsNs mb/\∀x:Str,x≠"__name__"->mb x=bootBuiltins x
 nolimit:base.NoLimit
structure Cx where
 prog:Program
 w:World
 K:Ka
 mg:Str->Option Value
 base:Heap
 A:Around
 N:List Str
 s₀:Shared
 H₀:Hp
 env:Env
 outer:List Env
 stack:List Env
 ex:List Addr
 fn:Str->Bool
 calm:Bool
 pn:List (Addr×Obj)
 xe:Value->Shared->Prop
noncomputable def wI(l:List Env):List Addr:=l.filterMap (·.frame)
noncomputable abbrev Cx.fs(X:Cx):List Addr:=wI X.outer
noncomputable def xK(sc:Scope)(x:Str):Prop:=sc.names.lookup x=some .local\/sc.names.lookup x=some .cell\/sc.names.lookup x=some .free
noncomputable def wu(sc:Scope)(x:Str):Prop:=sc.names.lookup x=some .local\/sc.names.lookup x=some .cell
noncomputable def zgH(env:Env)(h:Heap)(m:Str->Option Value)(x:Str)(u:Value):Prop:=
 (env.kindOf x=some .local/\m x=some u)\/((env.kindOf x=some .cell\/env.kindOf x=some .free)/\∃c,env.cells.lookup x=some c/\h.IsCell c (some u))
structure Cx.Ok (X:Cx):Prop where
 mod:Mod X.K X.mg X.base
 kind:X.env.scope.kind= .function
 glob:X.env.globals=mainGlobals
 blt:X.env.builtins=builtinsNs
 above:X.s₀.heap.objs.size<=X.env.locals
 inj: ∀x y c,X.env.cells.lookup x=some c->X.env.cells.lookup y=some c->x=y
 has: ∀x,(X.env.kindOf x=some .cell\/X.env.kindOf x=some .free)->∃c,X.env.cells.lookup x=some c
 cab: ∀x c,X.fn x=true->X.env.cells.lookup x=some c->X.s₀.heap.objs.size<=c
 hd:X.calm=true->X.A.handled=none
 frames:X.A.frames=some X.stack
 stk:X.stack=X.outer\/(X.stack=X.env::X.outer/\X.env.frame=some X.env.locals)
 exf: ∀b∈X.ex,b≠X.env.locals/\∀x c,X.env.cells.lookup x=some c->c≠b
 bs: ∀b o,X.base.get? b=some o->X.s₀.heap.get? b=some o/\X.H₀ b=none
 bsz:X.base.objs.size<=X.s₀.heap.objs.size
 noex: ∀b o,X.base.get? b=some o->b∉X.ex
 exfs: ∀b∈X.ex,b∉X.fs
 funs:X.s₀.heap.FunFrames X.base X.outer
 frf: ∀b∈X.fs,X.H₀ b=none
structure Inv (X:Cx)(pins:List (Addr×Obj))(σ:List (Option V))(H:Hp)(s:Shared):Prop where
 ok:X.Ok
 os:s.os=X.s₀.os
 bare:AllBare s.gens
 base:Un X.fs X.ex X.H₀ H X.s₀.heap s.heap
 loc: ∃m,s.heap.Ns X.env.locals m/\∀(i:Nat) (x:Str) (v:V),X.N[i]? =some x->σ[i]? =some (some v)->xK X.env.scope x->∃u,RelV v u/\zgH X.env s.heap m x u
 cell: ∀x c,X.env.cells.lookup x=some c->∃v,s.heap.IsCell c v
 free:H X.env.locals=none
 freeC: ∀x c,X.env.cells.lookup x=some c->H c=none
 pin: ∀p∈X.pn++pins,s.heap.get? p.1=some p.2/\H p.1=none/\p.1≠X.env.locals/\p.1∉X.fs/\∀v,p.2.data≠ .cell v
 hok:HOk X.prog X.w H s.heap
 len:σ.length=X.N.length
section
variable {X:Cx} {pins:List (Addr×Obj)} {σ:List (Option V)} {H H':Hp} {s:Shared} {h':Heap}
theorem Cx.Ok.nofr(ok:X.Ok){b:Addr}{o:Obj}(e:X.base.get? b=some o):b∉X.fs:=fun hb=>by
 have:=(ok.funs.mem hb).1;rw[e] at this;cases this
theorem Inv.bs(I:Inv X pins σ H s): ∀b o,X.base.get? b=some o->s.heap.get? b=some o/\H b=none:=fun b o e=>
 ⟨I.base.keep b o (I.ok.bs b o e).1 (I.ok.bs b o e).2 (I.ok.nofr e) (I.ok.noex b o e),I.base.free b o (I.ok.bs b o e).1 (I.ok.bs b o e).2 (I.ok.noex b o e)⟩
theorem Inv.bk(I:Inv X pins σ H s): ∀b o,X.base.get? b=some o->s.heap.get? b=some o:=fun b o e=>(I.bs b o e).1
theorem Inv.mod(I:Inv X pins σ H s):Mod X.K X.mg X.base:=I.ok.mod
theorem Inv.kIn(I:Inv X pins σ H s):X.K.In s.heap:=I.ok.mod.kin.keeps I.bk
theorem Inv.lt(I:Inv X pins σ H s):X.env.locals<s.heap.objs.size:=let ⟨_,hn,_⟩:=I.loc;hn.lt
theorem Inv.sz(I:Inv X pins σ H s):X.s₀.heap.objs.size<=s.heap.objs.size:=Kg I.ok.above (Nat.le_of_lt I.lt)
theorem Inv.nofs(I:Inv X pins σ H s){a:Addr}(h:s.heap.objs.size<=a):a∉X.fs:=fun hb=>by
 obtain⟨_,o,ho,_⟩:=I.ok.funs.mem hb;exact KC (Ki (Kk ho) (Kg I.sz h)) (Nat.lt_irrefl _)
theorem Inv.cne(I:Inv X pins σ H s): ∀x c,X.env.cells.lookup x=some c->c≠X.env.locals:=fun x c e z=>by
 obtain⟨v,o,ho,hd⟩:=I.cell x c e;obtain⟨m,⟨o',es,ep,ho',hd',_⟩,_⟩:=I.loc;rw[z,ho'] at ho;cases ho;rw[hd'] at hd;cases hd
theorem Inv.funs(I:Inv X pins σ H s):s.heap.FunFrames X.base X.outer:=by
 have all: ∀(l:List Env),(∀b∈wI l,b∈X.fs)->X.s₀.heap.FunFrames X.base l->s.heap.FunFrames X.base l:=by
  intro l
  induction l with
  |nil=>intro _ _;trivial
  |cons env r ih=>
   intro hs hl;obtain⟨hk,⟨L,o,hf,hn,ho,hd⟩,hr⟩:=hl;have hL:L∈X.fs:=hs L (by unfold wI;rw[List.filterMap_cons,hf];exact Ke);obtain⟨sl,e⟩:=I.base.slot L o ho (I.ok.frf L hL) hL fun z=>I.ok.exfs L z hL
   exact⟨hk,⟨L,_,hf,hn,e,hd⟩,ih (fun b hb=>hs b (by unfold wI;rw[List.filterMap_cons,hf];exact Kf _ hb)) hr⟩
 exact all X.outer (fun _ hb=>hb) I.ok.funs
theorem Inv.stack(I:Inv X pins σ H s):s.heap.FunFrames X.base X.stack:=by
 rcases I.ok.stk with e|⟨e,hf⟩
 ·rw[e];exact I.funs
 ·rw[e]
  obtain⟨m,hn,_⟩:=I.loc;refine .cons (by rw[I.ok.kind];decide) hf hn ?_ I.funs;exact Heap.get?_none_of_le (Kg I.ok.bsz I.ok.above)
theorem Inv.stkSub(I:Inv X pins σ H s): ∀b∈wI X.stack,b∈X.env.locals::X.fs:=fun b hb=>by
 rcases I.ok.stk with e|⟨e,hf⟩
 ·rw[e] at hb;exact Kf _ hb
 ·rw[e] at hb
  unfold wI at hb;rw[List.filterMap_cons,hf] at hb;exact hb
theorem Inv.stkFree(I:Inv X pins σ H s): ∀b∈wI X.stack,H b=none:=fun b hb=>by
 rcases List.mem_cons.mp (I.stkSub b hb) with e|hb
 ·rw[e];exact I.free
 ·obtain⟨_,o,ho,_⟩:=I.ok.funs.mem hb
  exact I.base.free b o ho (I.ok.frf b hb) fun z=>I.ok.exfs b z hb
theorem Inv.step{g':Array GenState}{t':Nat}{d':Drawn}{ch:List Addr}(I:Inv X pins σ H s)
  (hch: ∀b∈ch,(b∈X.ex\/X.s₀.heap.objs.size<=b)/\b≠X.env.locals/\(∀x c,X.env.cells.lookup x=some c->c≠b)/\∀p∈X.pn++pins,p.1≠b)
  (keep: ∀b o,b≠X.env.locals->b∉X.fs->b∉ch->s.heap.get? b=some o->H b=none->h'.get? b=some o)
  (slot: ∀b o,b≠X.env.locals->b∈X.fs->b∉ch->s.heap.get? b=some o->H b=none->∃sl,h'.get? b=some { o with slots:=sl }) (free: ∀b o,b∉ch->s.heap.get? b=some o->H b=none->H' b=none)
  (there: ∀b o,b∉ch->s.heap.get? b=some o->∃o',h'.get? b=some o')
  (tups: ∀b xs,H b=some (.tup xs)->H' b=some (.tup xs)) (frzs: ∀b o u,H b=some (.frz o u)->H' b=some (.frz o u)) (tbls: ∀b ps,H b=some (.tbl ps)->∃more,H' b=some (.tbl (ps++more)))
  (ns: ∀m,s.heap.Ns X.env.locals m->h'.Ns X.env.locals m) (hok:HOk X.prog X.w H' h') (hg:AllBare g'):
  Inv X pins σ H' { s with heap:=h',gens:=g',drawn:=d',toks:=t' }:=by
 have neL: ∀b o,X.s₀.heap.get? b=some o->b≠X.env.locals:=fun b o e=>Kh (Ki (Kk e) I.ok.above)
 have neC: ∀b o,X.s₀.heap.get? b=some o->b∉X.ex->b∉ch:=fun b o e hx hb=>by
  rcases (hch b hb).1 with z|z
  ·exact hx z
  ·exact KC (Ki (Kk e) z) (Nat.lt_irrefl _)
 have cellK: ∀x c,X.env.cells.lookup x=some c->∀v,s.heap.IsCell c v->h'.IsCell c v:=fun x c e v ⟨o,ho,hd⟩=>by
  have nch:c∉ch:=fun z=>(hch c z).2.2.1 x c e rfl
  by_cases hc:c∈X.fs
  ·obtain⟨sl,q⟩:=slot c o (I.cne x c e) hc nch ho (I.freeC x c e)
   exact⟨_,q,hd⟩
  ·exact⟨o,keep c o (I.cne x c e) hc nch ho (I.freeC x c e),hd⟩
 refine⟨I.ok,I.os,hg,⟨fun b o e n hb hx=>?_,fun b o e n hb hx=>?_,fun b o e n hx=>?_,fun b o e hx=>?_,fun b xs e=>tups b xs (I.base.tups b xs e),fun b o xs e=>frzs b o xs (I.base.frzs b o xs e),fun b ps e=>?_⟩,?_,fun x c e=>?_,?_,fun x c e=>?_,fun p hp=>?_,hok,I.len⟩
 ·exact keep b o (neL b o e) hb (neC b o e hx) (I.base.keep b o e n hb hx) (I.base.free b o e n hx)
 ·obtain⟨sl,e1⟩:=I.base.slot b o e n hb hx
  obtain⟨sl',e2⟩:=slot b _ (neL b o e) hb (neC b o e hx) e1 (I.base.free b o e n hx);exact⟨sl',e2⟩
 ·obtain⟨o',e1⟩:=I.base.there b o e hx
  exact free b o' (neC b o e hx) e1 (I.base.free b o e n hx)
 ·obtain⟨o',e1⟩:=I.base.there b o e hx
  exact there b o' (neC b o e hx) e1
 ·obtain⟨m1,e1⟩:=I.base.tbls b ps e
  obtain⟨m2,e2⟩:=tbls b _ e1;exact⟨m1++m2,by rw[e2,Array.append_assoc]⟩
 ·obtain⟨m,hn,hl⟩:=I.loc
  refine⟨m,ns m hn,fun i x v e1 e2 e3=>?_⟩;obtain⟨u,r,l⟩:=hl i x v e1 e2 e3;refine⟨u,r,?_⟩;rcases l with l|⟨k,c,e,z⟩
  ·exact .inl l
  ·exact .inr ⟨k,c,e,cellK x c e _ z⟩
 ·obtain⟨v,z⟩:=I.cell x c e
  exact⟨v,cellK x c e v z⟩
 ·obtain⟨m,⟨o,_,_,ho,_⟩,_⟩:=I.loc
  exact free _ o (fun z=>(hch _ z).2.1 rfl) ho I.free
 ·obtain⟨v,o,ho,hd⟩:=I.cell x c e
  exact free c o (fun z=>(hch c z).2.2.1 x c e rfl) ho (I.freeC x c e)
 ·obtain⟨e,n,ne,nf,d⟩:=I.pin p hp
  have nch:p.1∉ch:=fun z=>(hch p.1 z).2.2.2 p hp rfl
  exact⟨keep p.1 p.2 ne nf nch e n,free p.1 p.2 nch e n,ne,nf,d⟩
theorem Inv.un{t':Nat}(I:Inv X pins σ H s)(u:Un X.fs [] H H' s.heap h')(hok:HOk X.prog X.w H' h'):Inv X pins σ H' { s with heap:=h',toks:=t' }:=by
 obtain⟨m,⟨o,es,ep,ho,r⟩,_⟩:=id I.loc;obtain⟨sl,hL⟩:=u.any ho I.free (by simp)
 exact I.step (g':=s.gens) (d':=s.drawn) (ch:=[]) (fun _ z=>nomatch z) (fun b o _ hb _ e n=>u.keep b o e n hb (by simp)) (fun b o _ hb _ e n=>u.slot b o e n hb (by simp)) (fun b o _ e n=>u.free b o e n (by simp)) (fun b o _ e=>u.there b o e (by simp)) u.tups u.frzs u.tbls (fun m' hm=>by
  obtain⟨o',es',ep',ho',r'⟩:=hm;rw[ho] at ho';cases ho';exact⟨_,es',ep',hL,r'⟩) hok I.bare
theorem Inv.call{g':Array GenState}{t':Nat}{d':Drawn}{ch:List Addr}(I:Inv X pins σ H s)(u:Un (wI X.stack) ch H H' s.heap h')(hok:HOk X.prog X.w H' h')(hg:AllBare g')
  (hch: ∀b∈ch,(b∈X.ex\/X.s₀.heap.objs.size<=b)/\b≠X.env.locals/\(∀x c,X.env.cells.lookup x=some c->c≠b)/\∀p∈X.pn++pins,p.1≠b):
  Inv X pins σ H' { s with heap:=h',gens:=g',drawn:=d',toks:=t' }:=by
 obtain⟨m,⟨o,es,ep,ho,r⟩,_⟩:=id I.loc;obtain⟨sl,hL⟩:=u.any ho I.free fun z=>(hch _ z).2.1 rfl
 exact I.step (ch:=ch) hch (fun b o hL hb hc e n=>u.keep b o e n (fun z=>(List.mem_cons.mp (I.stkSub b z)).elim hL hb) hc) (fun b o _ _ hc e n=>u.any e n hc) (fun b o hc e n=>u.free b o e n hc) (fun b o hc e=>u.there b o e hc) u.tups u.frzs u.tbls (fun m' hm=>by
  obtain⟨o',es',ep',ho',r'⟩:=hm;rw[ho] at ho';cases ho';exact⟨_,es',ep',hL,r'⟩) hok hg
theorem Inv.turned{t':Nat}{it:Addr}(I:Inv X pins σ H s)(k: ∀b o,b≠it->s.heap.get? b=some o->h'.get? b=some o)(hn:H it=none)(hL:it≠X.env.locals)
  (h1:it∈X.ex\/X.s₀.heap.objs.size<=it) (h2: ∀x c,X.env.cells.lookup x=some c->c≠it) (h3: ∀p∈X.pn++pins,p.1≠it):Inv X pins σ H { s with heap:=h',toks:=t' }:=by
 have nit: ∀b u,H b=some u->b≠it:=fun b u e z=>by rw[z,hn] at e;cases e
 refine I.step (g':=s.gens) (d':=s.drawn) (ch:=[it]) (fun b hb=>?_) (fun b o _ _ hc e _=>k b o (fun z=>hc (by simp[z])) e) (fun b o _ _ hc e _=>⟨o.slots,k b o (fun z=>hc (by simp[z])) e⟩) (fun _ _ _ _ n=>n)
  (fun b o hc e=>⟨o,k b o (fun z=>hc (by simp[z])) e⟩) (fun _ _ e=>e) (fun _ _ _ e=>e) (fun b ps e=>⟨#[],by rw[e];simp⟩) (fun m hm=>?_) (fun b u e=>?_) I.bare
 ·have e:b=it:=by simpa using hb
  subst e;exact⟨h1,hL,h2,h3⟩
 ·obtain⟨o,es,ep,ho,r⟩:=hm
  exact⟨o,es,ep,k _ o (Ne.symm hL) ho,r⟩
 ·refine (I.hok b u e).stay (fun c v hc q=>k c v ?_ q) (fun _ q=>q) fun _ _ q=>q
  rcases hc with z|z
  ·rw[z];exact nit b u e
  ·exact nit c _ z
theorem Inv.tok(I:Inv X pins σ H s)(t:Nat):Inv X pins σ H { s with toks:=t }:=I.un (h':=s.heap) (t':=t) Un.refl I.hok
theorem Inv.kept{t':Nat}(I:Inv X pins σ H s)(k: ∀b u,s.heap.get? b=some u->h'.get? b=some u):Inv X pins σ H { s with heap:=h',toks:=t' }:=I.un (Un.kept k) (I.hok.kept k)
theorem Inv.laid{a:Addr}{o:HO}{t':Nat}(I:Inv X pins σ H s)(k: ∀b u,s.heap.get? b=some u->h'.get? b=some u)(hp:s.heap.objs.size<=a)(new:ObjOk X.prog X.w (zu H a o) h' a o):
  Inv X pins σ (zu H a o) { s with heap:=h',toks:=t' }:=I.un (Un.laid k hp (I.hok.fresh hp)) (I.hok.laid k hp new)
theorem Inv.write{x e:Addr}{o:HO}{t':Nat}(I:Inv X pins σ H s)(mu:Xa (H x))(he:e=x\/H e=some (.own x))(k: ∀b u,b≠e->s.heap.get? b=some u->h'.get? b=some u)(heo: ∃u,h'.get? e=some u)
  (new:ObjOk X.prog X.w (zu H x o) h' x o):Inv X pins σ (zu H x o) { s with heap:=h',toks:=t' }:=I.un (Un.write mu he k heo) (I.hok.write mu he k heo new)
theorem Inv.pins_of{pins':List (Addr×Obj)}(I:Inv X pins σ H s)(h: ∀p∈pins',s.heap.get? p.1=some p.2/\H p.1=none/\p.1≠X.env.locals/\p.1∉X.fs/\∀v,p.2.data≠ .cell v):Inv X pins' σ H s:=
 ⟨I.ok,I.os,I.bare,I.base,I.loc,I.cell,I.free,I.freeC,fun p hp=>(List.mem_append.mp hp).elim (fun z=>I.pin p (Kp _ z)) (h p),I.hok,I.len⟩
theorem zbP{N:List Str}(hN:N.Nodup){i j:Nat}{x:Str}(a:N[i]? =some x)(b:N[j]? =some x):i=j:=by
 obtain⟨h1,e1⟩:=List.getElem?_eq_some_iff.mp a;obtain⟨h2,e2⟩:=List.getElem?_eq_some_iff.mp b;exact (List.getElem_inj hN).mp (e1.trans e2.symm)
theorem zbQ{M:Model}{A:Around}{E:Value->Shared->Prop}{i:Nat}{x:Str}{v:V}{u:Value}{Q:Unit->Shared->Prop}(I:Inv X pins σ H s)(hN:X.N.Nodup)(hi:X.N[i]? =some x)(hx:wu X.env.scope x)(r:RelV v u)
  (h: ∀s',Inv X pins (σ.set i (some v)) H s'->(∃a,Heap.SameBut a s.heap s'.heap/\(a=X.env.locals\/X.env.cells.lookup x=some a))->Q () s') (hf:X.fn x=true\/X.env.scope.names.lookup x=some .local:=by first|exact .inl rfl|exact .inr rfl|assumption):wpAny M A (storeName X.env x u) Q E s:=by
 obtain⟨m,hn,hl⟩:=id I.loc;have hcls:(X.env.scope.kind== .class||(X.env.scope.kind== .module&&X.env.locals != X.env.globals))=false:=by rw[I.ok.kind];rfl
 have hiσ:i<σ.length:=by rw[I.len];exact (List.getElem?_eq_some_iff.mp hi).1
 have cne:=I.cne
 have tracked: ∀{a:Addr} {h':Heap},(∃o,s.heap.get? a=some o/\H a=none)->Heap.SameBut a s.heap h'->HOk X.prog X.w H h':=fun {a h'} ha hs b ob e=>by
  obtain⟨_,_,hfree⟩:=ha;refine (I.hok b ob e).stay (fun c w' hc q=>(hs.2 c ?_).trans q) (fun _ q=>q) fun _ _ q=>q
  rintro rfl;rcases hc with rfl|hc
  ·rw[hfree] at e;cases e
  ·rw[hfree] at hc;cases hc
 rcases hx with hk|hk
 ·refine wpAny_storeName_local hk hn (fun h' hn' hs=>?_) hcls
  obtain⟨oL,_,_,hoL,_⟩:=id hn;refine h _ ⟨I.ok,I.os,I.bare,⟨fun b o e n hb hx=>?_,fun b o e n hb hx=>?_,I.base.free,fun b o e hx=>?_,I.base.tups,I.base.frzs,I.base.tbls⟩,⟨_,hn',fun j y v' e1 e2 e3=>?_⟩,fun y c e=>?_,I.free,I.freeC,fun p hp=>?_,tracked ⟨oL,hoL,I.free⟩ hs,by simpa using I.len⟩ ⟨_,hs,.inl rfl⟩
  ·exact (hs.2 b (Kh (Ki (Kk e) I.ok.above))).trans (I.base.keep b o e n hb hx)
  ·obtain⟨sl,e1⟩:=I.base.slot b o e n hb hx
   exact⟨sl,(hs.2 b (Kh (Ki (Kk e) I.ok.above))).trans e1⟩
  ·obtain⟨o',e1⟩:=I.base.there b o e hx
   exact⟨o',(hs.2 b (Kh (Ki (Kk e) I.ok.above))).trans e1⟩
  ·by_cases hj:j=i
   ·subst hj
    rw[hi] at e1;cases e1;rw[List.getElem?_set_self hiσ] at e2;cases e2;exact⟨u,r,.inl ⟨hk,by simp⟩⟩
   ·rw[List.getElem?_set_ne (Ne.symm hj)] at e2
    obtain⟨u',r',q⟩:=hl j y v' e1 e2 e3;refine⟨u',r',?_⟩;rcases q with ⟨k,e⟩|⟨k,c,e,z⟩
    ·refine .inl ⟨k,?_⟩
     have:y≠x:=fun e=>hj (zbP hN e1 (e▸hi))
     simp[this,e]
    ·exact .inr ⟨k,c,e,z.sameBut hs (cne y c e)⟩
  ·obtain⟨w',z⟩:=I.cell y c e
   exact⟨w',z.sameBut hs (cne y c e)⟩
  ·obtain⟨e,n,ne,nf,d⟩:=I.pin p hp
   exact⟨(hs.2 p.1 ne).trans e,n,ne,nf,d⟩
 ·have hfn:X.fn x=true:=by
   rcases hf with z|z
   ·exact z
   ·rw[z] at hk;cases hk
  obtain⟨c,hc⟩:=I.ok.has x (.inl hk);obtain⟨w',z⟩:=I.cell x c hc;refine wpAny_storeName_cell I.ok.kind hk hc z (fun h' hc' hs=>?_);obtain⟨oc,hoc,hocd⟩:=id z;refine h { s with heap:=h' } ⟨I.ok,I.os,I.bare,⟨fun b o e n hb hx=>?_,fun b o e n hb hx=>?_,I.base.free,fun b o e hx=>?_,I.base.tups,I.base.frzs,I.base.tbls⟩,⟨m,hn.sameBut hs (Ne.symm (cne x c hc)),fun j y v' e1 e2 e3=>?_⟩,fun y c' e=>?_,I.free,I.freeC,fun p hp=>?_,tracked ⟨oc,hoc,I.freeC x c hc⟩ hs,by simpa using I.len⟩ ⟨c,hs,.inr hc⟩
  ·exact (hs.2 b (Kh (Ki (Kk e) (I.ok.cab x c hfn hc)))).trans (I.base.keep b o e n hb hx)
  ·obtain⟨sl,e1⟩:=I.base.slot b o e n hb hx
   exact⟨sl,(hs.2 b (Kh (Ki (Kk e) (I.ok.cab x c hfn hc)))).trans e1⟩
  ·obtain⟨o',e1⟩:=I.base.there b o e hx
   exact⟨o',(hs.2 b (Kh (Ki (Kk e) (I.ok.cab x c hfn hc)))).trans e1⟩
  ·by_cases hj:j=i
   ·subst hj
    rw[hi] at e1;cases e1;rw[List.getElem?_set_self hiσ] at e2;cases e2;exact⟨u,r,.inr ⟨.inl hk,c,hc,hc'⟩⟩
   ·rw[List.getElem?_set_ne (Ne.symm hj)] at e2
    obtain⟨u',r',q⟩:=hl j y v' e1 e2 e3;refine⟨u',r',?_⟩;rcases q with q|⟨k,c',e,z'⟩
    ·exact .inl q
    ·refine .inr ⟨k,c',e,z'.sameBut hs ?_⟩
     rintro rfl;exact hj (zbP hN e1 (I.ok.inj _ _ _ e hc▸hi))
  ·by_cases hcc:c'=c
   ·subst hcc;exact⟨_,hc'⟩
   ·obtain⟨w2,z2⟩:=I.cell y c' e
    exact⟨w2,z2.sameBut hs hcc⟩
  ·obtain⟨e,n,ne,nf,d⟩:=I.pin p hp
   refine⟨(hs.2 p.1 ?_).trans e,n,ne,nf,d⟩;intro q;rw[q,hoc] at e;have q':oc=p.2:=Kn e;exact d w' (by rw[<-q'];exact hocd)
theorem zbR{M:Model}{A:Around}{E:Value->Shared->Prop}{i:Nat}{x:Str}{v:V}{u:Value}{Q:Unit->Shared->Prop}(I:Inv X pins σ H s)(hN:X.N.Nodup)(hi:X.N[i]? =some x)(hx:wu X.env.scope x)(r:RelV v u)
  (h: ∀s',Inv X pins (σ.set i (some v)) H s'->Q () s') (hf:X.fn x=true\/X.env.scope.names.lookup x=some .local:=by first|exact .inl rfl|exact .inr rfl|assumption):wpAny M A (storeName X.env x u) Q E s:=
 zbQ I hN hi hx r (fun s' I' _=>h s' I') hf
theorem Inv.call'{s':Shared}{ch:List Addr}(I:Inv X pins σ H s)(ho:s'.os=s.os)(u:Un (wI X.stack) ch H H' s.heap s'.heap)(hok:HOk X.prog X.w H' s'.heap)(hg:AllBare s'.gens)
  (hch: ∀b∈ch,(b∈X.ex\/X.s₀.heap.objs.size<=b)/\b≠X.env.locals/\(∀x c,X.env.cells.lookup x=some c->c≠b)/\∀p∈X.pn++pins,p.1≠b):Inv X pins σ H' s':=by
 obtain⟨h',g',d',t',o'⟩:=s';have e:o'=s.os:=ho;subst e;exact I.call (g':=g') (t':=t') (d':=d') u hok hg hch
end
noncomputable abbrev XK:=Value->Option Addr->Hp->Prop
noncomputable abbrev St:=List (Option V)
noncomputable abbrev VK:=V->Hp->Prop
noncomputable abbrev TE:=St->Hp->VK->Prop
noncomputable abbrev TT:=St->Hp->(Bool->Hp->Prop)->Prop
noncomputable abbrev TA:=St->Hp->(List V->Hp->Prop)->Prop
structure Ends where
 nx:St->Hp->Prop
 rt:VK
 bk:St->Hp->Prop:=fun _ _=>False
 ct:St->Hp->Prop:=fun _ _=>False
noncomputable abbrev TS:=Ends->St->Hp->Prop
noncomputable def EP(X:Cx)(pins:List (Addr×Obj))(σ:St)(Q:VK)(u:Value)(s':Shared):Prop:=∃v H',Inv X pins σ H' s'/\RelV v u/\Q v H'
noncomputable def TP(X:Cx)(pins:List (Addr×Obj))(σ:St)(Q:Bool->Hp->Prop)(b:Bool)(s':Shared):Prop:=∃H',Inv X pins σ H' s'/\Q b H'
noncomputable def AP(X:Cx)(pins:List (Addr×Obj))(σ:St)(Q:List V->Hp->Prop)(us:List Value)(s':Shared):Prop:=∃vs H',Inv X pins σ H' s'/\Vals vs us/\Q vs H'
noncomputable def SP(X:Cx)(pins:List (Addr×Obj))(D:Ends)(f:Flow)(s':Shared):Prop:=
 match f with
 | .next=>∃σ' H',Inv X pins σ' H' s'/\D.nx σ' H'
 | .brk=>∃σ' H',Inv X pins σ' H' s'/\D.bk σ' H'
 | .cont=>∃σ' H',Inv X pins σ' H' s'/\D.ct σ' H'
 | .ret u=>∃v σ' H',Inv X pins σ' H' s'/\RelV v u/\D.rt v H'
noncomputable def PE(X:Cx)(e:Expr)(t:TE):Prop:=
 ∀(pins:List (Addr×Obj)) (s:Shared) (σ:St) (H:Hp) (Q:VK),Inv X pins σ H s->t σ H Q->wpAny (model X.prog X.w) X.A (eval e X.env) (EP X pins σ Q) X.xe s
noncomputable def PT(X:Cx)(e:Expr)(t:TT):Prop:=
 ∀(pins:List (Addr×Obj)) (s:Shared) (σ:St) (H:Hp) (Q:Bool->Hp->Prop),Inv X pins σ H s->t σ H Q->wpAny (model X.prog X.w) X.A (isTrue e X.env (eval e X.env)) (TP X pins σ Q) X.xe s
noncomputable def PW(X:Cx)(e:Expr)(t:TT):Prop:=
 ∀(whole:Sem Value) (pins:List (Addr×Obj)) (s:Shared) (σ:St) (H:Hp) (Q:Bool->Hp->Prop),Inv X pins σ H s->t σ H Q->wpAny (model X.prog X.w) X.A (isTrue e X.env whole) (TP X pins σ Q) X.xe s
theorem PW.pt{X:Cx}{e:Expr}{t:TT}(h:PW X e t):PT X e t:=h _
noncomputable def PA(X:Cx)(es:List Expr)(t:TA):Prop:=
 ∀(pos:Pos) (pins:List (Addr×Obj)) (s:Shared) (σ:St) (H:Hp) (Q:List V->Hp->Prop),Inv X pins σ H s->t σ H Q->wpAny (model X.prog X.w) X.A (spliced (backTo pos (starEach es X.env))) (AP X pins σ Q) X.xe s
noncomputable def PS(X:Cx)(st:Stmt)(t:TS):Prop:=
 ∀(pins:List (Addr×Obj)) (s:Shared) (σ:St) (H:Hp) (D:Ends),Inv X pins σ H s->t D σ H->wpAny (model X.prog X.w) X.A (exec st X.env) (SP X pins D) X.xe s
noncomputable def PSs(X:Cx)(st:List Stmt)(t:TS):Prop:=
 ∀(pins:List (Addr×Obj)) (s:Shared) (σ:St) (H:Hp) (D:Ends),Inv X pins σ H s->t D σ H->wpAny (model X.prog X.w) X.A (execs st X.env) (SP X pins D) X.xe s
theorem zt{α:Type}{t:Sem α}{Q Q':α->Shared->Prop}{M:Model}{A:Around}{E:Value->Shared->Prop}{s:Shared}(h:wpAny M A t Q E s)(hQ: ∀a s,Q a s->Q' a s):wpAny M A t Q' E s:=Kd h hQ fun _ _ x=>x
end L2
namespace L2
open PySem PySem.Spec PyProof.Rows
section
variable {X:Cx}
noncomputable def wJ(i:Nat):TE:=fun σ H Q=>∃v,σ[i]? =some (some v)/\Q v H
noncomputable def tC(v:V):TE:=fun _ H Q=>Q v H
theorem wK{i:Nat}{x:Str}{pos:Pos}(hN:X.N[i]? =some x)(hv:xK X.env.scope x)(hd:(x==("__debug__":Str))=false:=by decide)(hcd:(x==("__classdict__":Str))=false:=by decide):PE X (.Name x pos) (wJ i):=by
 intro pins s σ H Q I h;obtain⟨v,e,h⟩:=h;obtain⟨m,hn,hl⟩:=I.loc;obtain⟨u,r,l⟩:=hl i x v hN e hv;have fin:EP X pins σ Q u s:=⟨v,H,I,r,h⟩;rcases l with ⟨hk,hm⟩|⟨hk,c,hc,vv⟩
 ·exact wpAny_Name (wpAny_loadName_local I.ok.kind hk hn hm fin) hd
 ·rcases hk with hk|hk
  ·exact wpAny_Name (wpAny_loadName_cell I.ok.kind hk hc vv fin) hd
  ·exact wpAny_Name (wpAny_loadName_free I.ok.kind hk hc vv fin hcd) hd
theorem zgI{i j pos}:PE X (.Constant (.int i) j pos) (tC (.int i)):=fun _ _ _ H _ I h=>wpAny_Constant_int ⟨.int i,H,I.tok _,⟨_,rfl⟩,h⟩
theorem zgJ{b j pos}:PE X (.Constant (.bool b) j pos) (tC (.bl b)):=fun _ _ _ H _ I h=>Constant_bool ⟨.bl b,H,I,rfl,h⟩
theorem zgK{j pos}:PE X (.Constant .none j pos) (tC .non):=fun _ _ _ H _ I h=>Constant_none ⟨.non,H,I,rfl,h⟩
theorem zgL{x j pos}:PE X (.Constant (.str x) j pos) (tC (.str x)):=fun _ _ _ H _ I h=>Calls.Constant_str ⟨.str x,H,I.tok _,⟨_,rfl⟩,h⟩
noncomputable def Gl(X:Cx)(x:Str):Prop:=X.env.kindOf x=some .globalImplicit
theorem zbS{E:Value->Shared->Prop}{pins:List (Addr×Obj)}{s:Shared}{σ:St}{H:Hp}{x:Str}{u:Value}{pos:Pos}{Q:Value->Shared->Prop}(I:Inv X pins σ H s)(hg:Gl X x)(hm:X.mg x=some u)(h:Q u s)
  (hd:(x==("__debug__":Str))=false:=by decide):wpAny (model X.prog X.w) X.A (eval (.Name x pos) X.env) Q E s:=
 Calls.Name_function_global I.ok.kind hg (Calls.loadGlobal_global (by rw[I.ok.glob];exact I.mod.glob.keeps I.bk) hm h) hd
theorem Zd{E:Value->Shared->Prop}{pins:List (Addr×Obj)}{s:Shared}{σ:St}{H:Hp}{x:Str}{u:Value}{pos:Pos}{Q:Value->Shared->Prop}(I:Inv X pins σ H s)(hg:Gl X x)(hm:X.mg x=none)(hv:bootBuiltins x=some u)(h:Q u s)
  (hn:x≠"__name__":=by decide) (hd:(x==("__debug__":Str))=false:=by decide):wpAny (model X.prog X.w) X.A (eval (.Name x pos) X.env) Q E s:=by
 obtain⟨mb,h1,h2⟩:=I.mod.blt;exact Calls.Name_function_global I.ok.kind hg (Calls.loadGlobal_builtin (by rw[I.ok.glob];exact I.mod.glob.keeps I.bk) hm (by rw[I.ok.blt];exact h1.keeps I.bk) ((h2 x hn).trans hv) h) hd
theorem zgM{x:Str}{v:V}{u:Value}{pos:Pos}(hg:Gl X x)(hm:X.mg x=some u)(r:RelV v u)(hd:(x==("__debug__":Str))=false:=by decide):PE X (.Name x pos) (tC v):=
 fun _ _ _ H _ I h=>zbS I hg hm ⟨v,H,I,r,h⟩ hd
theorem zgN{x:Str}{v:V}{u:Value}{pos:Pos}(hg:Gl X x)(hm:X.mg x=none)(hv:bootBuiltins x=some u)(r:RelV v u)(hn:x≠"__name__":=by decide)(hd:(x==("__debug__":Str))=false:=by decide):PE X (.Name x pos) (tC v):=
 fun _ _ _ H _ I h=>Zd I hg hm hv ⟨v,H,I,r,h⟩ hn hd
variable {a b:Expr} {ta tb:TE} {pos:Pos}
noncomputable def PC(X:Cx)(op:CmpOp)(a b:Expr)(t:TE):Prop:=
 ∀(pins:List (Addr×Obj)) (s:Shared) (σ:St) (H:Hp) (Q:VK),Inv X pins σ H s->t σ H Q->
  wpAny (model X.prog X.w) X.A (eval a X.env) (fun v s₁=>wpAny (model X.prog X.w) X.A (eval b X.env) (fun u s₂=>wpAny (model X.prog X.w) X.A (compareOp op v u) (EP X pins σ Q) X.xe s₂) X.xe s₁) X.xe s
theorem zgO(b:Expr){op:CmpOp}(h:op≠ .In)(h2:op≠ .NotIn):behindInMarks op b=false:=by
 have e1:(op==CmpOp.In)=false:=by cases op<;>first|rfl|exact KC rfl h
 have e2:(op==CmpOp.NotIn)=false:=by cases op<;>first|rfl|exact KC rfl h2
 cases b<;>simp[behindInMarks,e1,e2]
noncomputable def zgP(ta:TE):TE:=fun σ H Q=>ta σ H fun x H1=>Q (.bl (!decide (x= .non))) H1
theorem RelV.none_iff{x:V}{v:Value}(r:RelV x v):(v==Value.none)=decide (x= .non):=by
 cases x with
 |non=>cases r;rfl
 |bl _=>cases r;rfl
 |int _=>obtain⟨t,rfl⟩:=r;rfl
 |str _=>obtain⟨t,rfl⟩:=r;rfl
 |byt _=>obtain⟨t,rfl⟩:=r;rfl
 |flt _=>obtain⟨t,rfl⟩:=r;rfl
 |ref _=>cases r;rfl
 |ty _=>cases r;rfl
theorem zgQ{j pos'}(ha:PE X a ta):PC X .IsNot a (.Constant .none j pos') (zgP ta):=by
 intro pins s σ H Q I h;refine zt (ha pins s σ H _ I h) fun v s1 ⟨x,H1,I1,r1,q1⟩=>?_
 exact Constant_none (isnot_none_gen ⟨.bl _,H1,I1,by rw[r1.none_iff];rfl,q1⟩)
noncomputable def tB(t:TE):TT:=fun σ H Q=>t σ H fun x H1=>∃c,x= .bl c/\Q c H1
theorem zgR{op:CmpOp}{t:TE}(h:PC X op a b t)(h1:behindInMarks op b=false:=by first|exact zgO _ (by decide) (by decide)|rfl):PT X (.Compare a [op] [b] pos) (tB t):=by
 intro pins s σ H Q I hw;refine wpAny_isTrue_Compare1 (zt (h pins s σ H _ I hw) fun v s1 h1=>zt h1 fun u s2 h2=>zt h2 fun c s3 ⟨x,H1,I1,r1,q1⟩=>?_) h1;obtain⟨d,rfl,q⟩:=q1;cases r1;exact wpAny_truthy_bool ⟨H1,I1,q⟩
variable {tA tB':TT} {zO:List Expr}
noncomputable def zgS(t u:TT):TT:=fun σ H Q=>t σ H fun c H1=>if c=true then u σ H1 Q else Q false H1
noncomputable def zgT(t u:TT):TT:=fun σ H Q=>t σ H fun c H1=>if c=true then Q true H1 else u σ H1 Q
noncomputable def zgU(t:TT):TT:=fun σ H Q=>t σ H fun c H1=>Q (!c) H1
theorem zgV(ha:PT X a tA):PW X (.BoolOp .And [a] pos) tA:=by
 intro wh pins s σ H Q I h;refine isTrue_and (zt (ha pins s σ H Q I h) fun c s1 e=>?_)
 cases c with
 |true=>exact isTrue_and_nil e
 |false=>exact e
theorem zbT(ha:PT X a tA):PW X (.BoolOp .Or [a] pos) tA:=by
 intro wh pins s σ H Q I h;refine isTrue_or (zt (ha pins s σ H Q I h) fun c s1 e=>?_)
 cases c with
 |false=>exact isTrue_or_nil e
 |true=>exact e
theorem zgW(ha:PT X a tA)(hb:PW X (.BoolOp .And (b::zO) pos) tB'):PW X (.BoolOp .And (a::b::zO) pos) (zgS tA tB'):=by
 intro wh pins s σ H Q I h;refine isTrue_and (zt (ha pins s σ H _ I h) fun c s1 ⟨H1,I1,q1⟩=>?_)
 cases c with
 |true=>exact hb wh pins s1 σ H1 Q I1 q1
 |false=>exact⟨H1,I1,q1⟩
theorem zbU(ha:PT X a tA)(hb:PW X (.BoolOp .Or (b::zO) pos) tB'):PW X (.BoolOp .Or (a::b::zO) pos) (zgT tA tB'):=by
 intro wh pins s σ H Q I h;refine isTrue_or (zt (ha pins s σ H _ I h) fun c s1 ⟨H1,I1,q1⟩=>?_)
 cases c with
 |true=>exact⟨H1,I1,q1⟩
 |false=>exact hb wh pins s1 σ H1 Q I1 q1
theorem zgX(ha:PT X a tA):PT X (.UnaryOp .Not a pos) (zgU tA):=by
 intro pins s σ H Q I h;exact isTrue_not (ha pins s σ H (fun c H1=>Q (!c) H1) I h)
noncomputable def zgY(ta tb:TE):TE:=fun σ H Q=>ta σ H fun x H1=>∃c,x= .bl c/\if c=true then tb σ H1 Q else Q (.bl false) H1
theorem zgZ{op}{t:TE}(h:PE X a t):PE X (.BoolOp op [a] pos) t:=fun pins s σ H Q I hw=>BoolOp_one (h pins s σ H Q I hw)
theorem zg0(ha:PE X a ta)(hb:PE X (.BoolOp .And (b::zO) pos) tb):PE X (.BoolOp .And (a::b::zO) pos) (zgY ta tb):=by
 intro pins s σ H Q I h;refine BoolOp_and (zt (ha pins s σ H _ I h) fun v s1 ⟨x,H1,I1,r1,q1⟩=>?_);obtain⟨c,rfl,q1⟩:=q1;cases r1;refine wpAny_truthy_bool ?_
 cases c with
 |true=>exact hb pins s1 σ H1 Q I1 q1
 |false=>exact⟨.bl false,H1,I1,rfl,q1⟩
end
end L2
namespace L2
open PySem PySem.Spec PyProof.Rows
noncomputable def SqL(K:Ka)(H:Hp)(a:Addr)(xs:List V):Prop:=
 Rd H a (.lst xs)\/
  ∃(o:Obj) (its:Array Value) (n:Nat),K.lookup a=some o/\o.cls= .type "list"/\o.dict=none/\o.data= .seq its n/\its.size<=sizeLine/\Vals xs its.toList
noncomputable def SqT(K:Ka)(H:Hp)(a:Addr)(xs:List V):Prop:=
 Rd H a (.tup xs)\/
  ∃(o:Obj) (its:Array Value) (n:Nat),K.lookup a=some o/\o.cls= .type "tuple"/\o.data= .seq its n/\its.size<=sizeLine/\Vals xs its.toList
noncomputable def zg1:Value->Option V
 | .none=>some .non
 | .bool b=>some (.bl b)
 | .int i _=>some (.int i)
 | .str x _=>some (.str x)
 | .bytes b _=>some (.byt b)
 | .float b _=>some (.flt b)
 | .ref a=>some (.ref a)
 | .type n=>some (.ty n)
 |_=>none
theorem RelV.abs{x:V}{u:Value}(r:RelV x u):zg1 u=some x:=by
 cases x with
 |non=>cases r;rfl
 |bl _=>cases r;rfl
 |int _=>obtain⟨t,rfl⟩:=r;rfl
 |str _=>obtain⟨t,rfl⟩:=r;rfl
 |byt _=>obtain⟨t,rfl⟩:=r;rfl
 |flt _=>obtain⟨t,rfl⟩:=r;rfl
 |ref _=>cases r;rfl
 |ty _=>cases r;rfl
theorem RelV.inj{x y:V}{u:Value}(r:RelV x u)(q:RelV y u):x=y:=Kn (r.abs.symm.trans q.abs)
theorem Vals.inj: ∀{xs ys:List V} {us:List Value},Vals xs us->Vals ys us->xs=ys
 |_,_,_,.nil,.nil=>rfl
 |_,_,_,.cons r t,.cons r' t'=>by rw[r.inj r',Vals.inj t t']
section
variable {X:Cx} {pins:List (Addr×Obj)} {σ:St} {H:Hp} {s:Shared} {a:Addr} {xs ys:List V}
theorem SqL.of{K:Ka}(h:H a=some (.lst xs)):SqL K H a xs:=.inl (.inl h)
theorem SqT.of{K:Ka}(h:H a=some (.tup xs)):SqT K H a xs:=.inl (.inl h)
theorem Inv.list(I:Inv X pins σ H s)(h:SqL X.K H a xs): ∃its:List Value,Vals xs its/\PlainL s.heap a its.toArray/\xs.length<=sizeLine:=by
 rcases h with h|⟨o,its,n,hk,hc,hd,hs,hz,r⟩
 ·obtain⟨z,its,n,r,e⟩:=h.ok I.hok
  exact⟨its,r,⟨_,n,e,rfl,rfl,rfl⟩,z⟩
 ·refine⟨its.toList,r,⟨o,n,I.kIn a o hk,hc,hd,by simpa using hs⟩,?_⟩
  have e:=r.length;simp only[Array.length_toList] at e;omega
theorem Inv.tuple(I:Inv X pins σ H s)(h:SqT X.K H a xs): ∃its:List Value,Vals xs its/\IsTup s.heap a its.toArray/\xs.length<=sizeLine:=by
 rcases h with h|⟨o,its,n,hk,hc,hs,hz,r⟩
 ·obtain⟨z,its,r,p⟩:=h.ok I.hok
  exact⟨its,r,p,z⟩
 ·refine⟨its.toList,r,⟨o,I.kIn a o hk,hc,n,by simpa using hs⟩,?_⟩
  have e:=r.length;simp only[Array.length_toList] at e;omega
theorem Inv.list_inj(I:Inv X pins σ H s)(h:SqL X.K H a xs)(h':SqL X.K H a ys):xs=ys:=by
 obtain⟨its,r,⟨o,n,e,_,_,d⟩,_⟩:=I.list h;obtain⟨its',r',⟨o',n',e',_,_,d'⟩,_⟩:=I.list h';rw[e] at e';cases e';rw[d] at d';injection d' with d1 _;have:its=its':=by simpa using congrArg Array.toList d1
 subst this;exact r.inj r'
theorem Inv.tuple_inj(I:Inv X pins σ H s)(h:SqT X.K H a xs)(h':SqT X.K H a ys):xs=ys:=by
 obtain⟨its,r,⟨o,e,_,n,d⟩,_⟩:=I.tuple h;obtain⟨its',r',⟨o',e',_,n',d'⟩,_⟩:=I.tuple h';rw[e] at e';cases e';rw[d] at d';injection d' with d1 _;have:its=its':=by simpa using congrArg Array.toList d1
 subst this;exact r.inj r'
end
noncomputable abbrev Cx.wish(X:Cx)(E:Value->Shared->Prop):Cx:={ X with xe:=E }
noncomputable abbrev Cx.nox(X:Cx):Cx:=X.wish fun _ _=>False
theorem Cx.Ok.wish{X:Cx}(ok:X.Ok)(E:Value->Shared->Prop):(X.wish E).Ok:=
 ⟨ok.mod,ok.kind,ok.glob,ok.blt,ok.above,ok.inj,ok.has,ok.cab,ok.hd,ok.frames,ok.stk,ok.exf,ok.bs,ok.bsz,ok.noex,ok.exfs,ok.funs,ok.frf⟩
theorem Cx.Ok.unwish{X:Cx}{E:Value->Shared->Prop}(ok:(X.wish E).Ok):X.Ok:=
 ⟨ok.mod,ok.kind,ok.glob,ok.blt,ok.above,ok.inj,ok.has,ok.cab,ok.hd,ok.frames,ok.stk,ok.exf,ok.bs,ok.bsz,ok.noex,ok.exfs,ok.funs,ok.frf⟩
section
variable {X:Cx} {pins:List (Addr×Obj)} {σ:St} {H:Hp} {s:Shared} {E:Value->Shared->Prop}
theorem Inv.wish(I:Inv X pins σ H s)(E:Value->Shared->Prop):Inv (X.wish E) pins σ H s:=⟨I.ok.wish E,I.os,I.bare,I.base,I.loc,I.cell,I.free,I.freeC,I.pin,I.hok,I.len⟩
theorem Inv.unwish(I:Inv (X.wish E) pins σ H s):Inv X pins σ H s:=⟨I.ok.unwish,I.os,I.bare,I.base,I.loc,I.cell,I.free,I.freeC,I.pin,I.hok,I.len⟩
theorem SP.unwish{D:Ends}{f:Flow}{s':Shared}(h:SP (X.wish E) pins D f s'):SP X pins D f s':=by
 cases f with
 |next=>obtain⟨σ',H',I,q⟩:=h;exact⟨σ',H',I.unwish,q⟩
 |brk=>obtain⟨σ',H',I,q⟩:=h;exact⟨σ',H',I.unwish,q⟩
 |cont=>obtain⟨σ',H',I,q⟩:=h;exact⟨σ',H',I.unwish,q⟩
 |ret u=>obtain⟨v,σ',H',I,r,q⟩:=h;exact⟨v,σ',H',I.unwish,r,q⟩
theorem PSs.nox{st:List Stmt}{t:TS}(h:PSs X.nox st t):PSs X st t:=fun pins s σ H D I hw=>
 Kd (h pins s σ H D (I.wish _) hw) (fun _ _ q=>q.unwish) fun _ _ z=>False.elim z
end
section
variable {X:Cx} {st:Stmt} {zO:List Stmt} {t u:TS} {e:Expr} {te:TE} {pos:Pos}
noncomputable def qq:TS:=fun D σ H=>D.nx σ H
noncomputable def Xb(t u:TS):TS:=fun D σ H=>t { D with nx:=u D } σ H
theorem qr:PSs X [] qq:=fun _ _ σ H _ I h=>wpAny_execs_nil ⟨σ,H,I,h⟩
theorem ZL(h1:PS X st t)(h2:PSs X zO u):PSs X (st::zO) (Xb t u):=by
 intro pins s σ H D I h;refine wpAny_execs_cons (zt (h1 pins s σ H { D with nx:=u D } I h) fun f s1 q=>?_)
 cases f with
 |next=>
  obtain⟨σ',H',I',q⟩:=q;exact h2 pins s1 σ' H' D I' q
 |ret v=>exact q
 |brk=>exact q
 |cont=>exact q
theorem ZM(h1:PS X st t):PSs X [st] t:=by
 intro pins s σ H D I h;refine wpAny_execs_cons (zt (h1 pins s σ H D I h) fun f s1 q=>?_)
 cases f with
 |next=>exact wpAny_execs_nil q
 |ret v=>exact q
 |brk=>exact q
 |cont=>exact q
theorem Inv.quiet{pins:List (Addr×Obj)}{σ:St}{H:Hp}{s:Shared}(I:Inv X pins σ H s):interactive X.env=false:=by simp[interactive,I.ok.kind]
noncomputable def JM(te:TE):TS:=fun D σ H=>te σ H fun _ H1=>D.nx σ H1
theorem Ze(he:PE X e te)(hs:swapsWith e none pos.line X.env=pure false:=by rfl):PS X (.Expr e pos) (JM te):=by
 intro pins s σ H D I h;exact wpAny_Expr_any (zt (he pins s σ H _ I h) fun v s1 ⟨x,H1,I1,r1,q1⟩=>⟨σ,H1,I1,q1⟩) I.quiet hs
noncomputable def qt(te:TE):TS:=fun D σ H=>te σ H D.rt
theorem JN(he:PE X e te):PS X (.Return (some e) pos) (qt te):=by
 intro pins s σ H D I h;exact wpAny_Return_some (zt (he pins s σ H _ I h) fun v s1 ⟨x,H1,I1,r1,q1⟩=>⟨x,σ,H1,I1,r1,q1⟩)
noncomputable def qu(c:TT)(t u:TS):TS:=fun D σ H=>c σ H fun b H1=>if b=true then t D σ H1 else u D σ H1
theorem JO{c:Expr}{a b:List Stmt}{tc:TT}(hc:PT X c tc)(ha:PSs X a t)(hb:PSs X b u):PS X (.If c a b pos) (qu tc t u):=by
 intro pins s σ H D I h;refine wpAny_If (zt (hc pins s σ H _ I h) fun d s1 ⟨H1,I1,q1⟩=>?_)
 cases d with
 |true=>exact ha pins s1 σ H1 D I1 q1
 |false=>exact hb pins s1 σ H1 D I1 q1
noncomputable def zg2:TS:=fun _ _ _=>False
theorem zg3:PS X st zg2:=fun _ _ _ _ _ _ h=>h.elim
end
noncomputable abbrev TG:=V->St->Hp->(St->Hp->Prop)->Prop
noncomputable abbrev Zf:=List V->St->Hp->(St->Hp->Prop)->Prop
noncomputable def PG(X:Cx)(target:Expr)(t:TG):Prop:=
 ∀(pins:List (Addr×Obj)) (s:Shared) (σ:St) (H:Hp) (v:V) (u:Value) (Q:St->Hp->Prop),Inv X pins σ H s->RelV v u->t v σ H Q->
  wpAny (model X.prog X.w) X.A (assign target X.env u) (fun _ s'=>∃σ' H',Inv X pins σ' H' s'/\Q σ' H') X.xe s
noncomputable def JP(X:Cx)(ts:List Expr)(t:Zf):Prop:=
 ∀(pins:List (Addr×Obj)) (s:Shared) (σ:St) (H:Hp) (vs:List V) (us:List Value) (Q:St->Hp->Prop),Inv X pins σ H s->Vals vs us->t vs σ H Q->
  wpAny (model X.prog X.w) X.A (assignInOrder ((assignEach ts X.env).map (·.2)) us) (fun _ s'=>∃σ' H',Inv X pins σ' H' s'/\Q σ' H') X.xe s
section
variable {X:Cx} {pos:Pos}
noncomputable def vX(i:Nat):TG:=fun v σ H Q=>Q (σ.set i (some v)) H
theorem vY{i:Nat}{x:Str}(hN:X.N.Nodup)(hi:X.N[i]? =some x)(hx:wu X.env.scope x)(hf:X.fn x=true\/X.env.scope.names.lookup x=some .local:=by first|exact .inl rfl|exact .inr rfl|assumption):PG X (.Name x pos) (vX i):=by
 intro pins s σ H v u Q I r h;exact wpAny_assign_Name (zbR I hN hi hx r (fun s' I'=>⟨_,H,I',h⟩) hf)
noncomputable def zbV:Zf:=fun vs σ H Q=>vs=[]/\Q σ H
noncomputable def qv(t:TG)(u:Zf):Zf:=fun vs σ H Q=>∃v r,vs=v::r/\t v σ H fun σ' H'=>u r σ' H' Q
theorem zg4:JP X [] zbV:=by
 intro pins s σ H vs us Q I r h;obtain⟨e,h⟩:=h;subst e;cases r;exact assignInOrder_nil ⟨σ,H,I,h⟩
theorem zbW{e:Expr}{es:List Expr}{t:TG}{u:Zf}(h1:PG X e t)(h2:JP X es u)
  (hs:(assignEach (e::es) X.env).map (·.2)=assign e X.env::(assignEach es X.env).map (·.2):=by rfl):JP X (e::es) (qv t u):=by
 intro pins s σ H vs us Q I r h;obtain⟨v,vr,e1,h⟩:=h;subst e1
 cases r with
 |cons r rr=>
  rw[hs];refine assignInOrder_cons (zt (h1 pins s σ H _ _ _ I r h) fun _ s1 ⟨σ1,H1,I1,q1⟩=>?_);exact h2 pins s1 σ1 H1 _ _ Q I1 rr q1
noncomputable def zbX(K:Ka)(n:Nat)(t:Zf):TG:=fun v σ H Q=>∃a xs,v= .ref a/\SqT K H a xs/\xs.length=n/\t xs σ H Q
theorem zg5{es:List Expr}{k:Nat}{t:Zf}{n:Nat}(hc:X.calm=true)(h:JP X es t)
  (hn:(assignEach es X.env).length=n:=by rfl) (hst:(assignEach es X.env).findIdx? (·.1)=none:=by rfl):PG X (.Tuple es k pos) (zbX X.K n t):=by
 intro pins s σ H v u Q I r hw;obtain⟨a,xs,e1,hq,hl,hw⟩:=hw;subst e1;cases r;obtain⟨its,rv,ht,hz⟩:=I.tuple hq;refine assign_Tuple_tuple (I.ok.hd hc) ht (by simp[hn,<-hl,rv.length]) hst fun h' hx=>?_
 have I1:Inv X pins σ H { s with heap:=h' }:=I.kept (t':=s.toks) fun b o e=>hx b o (Kh (Kk e)) e
 exact h pins _ σ H xs _ Q I1 (by simpa using rv) hw
noncomputable def qw(te:TE)(g:TG):TS:=fun D σ H=>te σ H fun x H1=>g x σ H1 D.nx
theorem JQ{i:Nat}{x:Str}{e:Expr}{te:TE}{pos':Pos}(hN:X.N.Nodup)(hi:X.N[i]? =some x)(hx:wu X.env.scope x)(he:PE X e te)(hs:swapsWith e (some (.Name x pos')) pos.line X.env=pure false:=by rfl)(hf:X.fn x=true\/X.env.scope.names.lookup x=some .local:=by first|exact .inl rfl|exact .inr rfl|assumption):
  PS X (.Assign [.Name x pos'] e pos) (qw te (vX i)):=by
 intro pins s σ H D I h;refine wpAny_Assign_Name (zt (he pins s σ H _ I h) fun v s1 ⟨y,H1,I1,r1,q1⟩=>?_) hs;exact zbR I1 hN hi hx r1 (fun s2 I2=>⟨_,H1,I2,q1⟩) hf
end
section
variable {X:Cx} {pos:Pos}
noncomputable def zg6(c:TT)(tb:TS):TS:=fun D σ H=>∃W:Nat->St->Hp->Prop,(∃m,W m σ H)/\∀m σ H,W m σ H->
 c σ H fun b H1=>if b=true then ∃N:St->Hp->Prop,(∀σ' H',N σ' H'->∃m',m'<m/\W m' σ' H')/\tb { D with nx:=N,ct:=N,bk:=D.nx } σ H1 else D.nx σ H1
theorem zg7{c:Expr}{body:List Stmt}{tc:TT}{tb:TS}(hp:PassesOwn (model X.prog X.w) X.A X.env X.xe)(hc:PT X c tc)(hb:PSs X body tb):PS X (.While c body [] pos) (zg6 tc tb):=by
 intro pins s σ H D I h;obtain⟨W,⟨m0,w0⟩,turn⟩:=h;refine wpAny_While (codeAny_whileLoop (fun n s'=>∃σ' H',Inv X pins σ' H' s'/\W n σ' H') ?_ m0 ⟨σ,H,I,w0⟩);rintro n s1 ⟨σ1,H1,I1,w1⟩;refine wpAny_passesOwn hp (zt (hc pins s1 σ1 H1 _ I1 (turn n σ1 H1 w1)) fun b s2 ⟨H2,I2,q2⟩=>?_)
 cases b with
 |true=>
  obtain⟨N,hN,q2⟩:=q2;rw[if_pos rfl];refine wpAny_passesOwn hp (zt (hb pins s2 σ1 H2 _ I2 q2) fun f s3 q3=>?_)
  cases f with
  |next=>
   obtain⟨σ3,H3,I3,n3⟩:=q3;obtain⟨m',hm,w3⟩:=hN σ3 H3 n3;exact⟨m',hm,σ3,H3,I3,w3⟩
  |cont=>
   obtain⟨σ3,H3,I3,n3⟩:=q3;obtain⟨m',hm,w3⟩:=hN σ3 H3 n3;exact⟨m',hm,σ3,H3,I3,w3⟩
  |brk=>exact q3
  |ret v=>exact q3
 |false=>
  rw[if_neg Km];exact wpAny_execs_nil ⟨σ1,H2,I2,q2⟩
end
structure It where
 go:Nat->Hp->Prop
 yld:Nat->Hp->V->Hp->Prop
 stop:Nat->Hp->Prop
noncomputable def xL(X:Cx)(pins:List (Addr×Obj))(H:Hp)(b:Addr):Prop:=
 H b=none/\b≠X.env.locals/\b∉X.fs/\(b∈X.ex\/X.s₀.heap.objs.size<=b)/\(∀x c,X.env.cells.lookup x=some c->c≠b)/\∀p∈X.pn++pins,p.1≠b
theorem Inv.fpOk{X:Cx}{pins:List (Addr×Obj)}{σ:St}{H H':Hp}{s:Shared}{b:Addr}(I:Inv X pins σ H s)(hb:s.heap.objs.size<=b)(hn:H' b=none):xL X pins H' b:=by
 refine⟨hn,Nat.ne_of_gt (Ki I.lt hb),I.nofs hb,.inr (Kg I.sz hb),fun x c e z=>?_,fun p hp z=>?_⟩
 ·obtain⟨v,q⟩:=I.cell x c e
  exact KC (Ki q.lt (by rw[z];exact hb)) (Nat.lt_irrefl _)
 ·exact KC (Ki (Kk (I.pin p hp).1) (by rw[z];exact hb)) (Nat.lt_irrefl _)
structure Turn (P:Program)(w:World)(K:Ka)(tg:Expr)(J:It)(fp:List Addr)(it:Addr)(tn:Nat->Heap->Prop):Prop where
 mem:it∈fp
 obj: ∀i h,tn i h->∀b∈fp,∃o,h.get? b=some o/\∀v,o.data≠ .cell v
 keep: ∀i h h',tn i h->(∀b∈fp,∀o,h.get? b=some o->h'.get? b=some o)->tn i h'
 item: ∀(X:Cx),X.prog=P->X.w=w->X.K=K->X.calm=true->∀(i:Nat) (pins:List (Addr×Obj)) (s:Shared) (σ:St) (H:Hp) (E:Value->Shared->Prop),Inv X pins σ H s->(∀b∈fp,xL X pins H b)->tn i s.heap->J.go i H->
  wpAny (model P w) X.A (pyNext (.ref it)) (fun r s1=>∃u,r=some u/\
   wpAny (model P w) X.A (letOwnedTupleGo tg (.ref it) u) (fun _ s2=>∃x H',Inv X pins σ H' s2/\RelV x u/\J.yld i H x H'/\tn (i+1) s2.heap/\∀b∈fp,H' b=none) E s1) E s
 done: ∀(X:Cx),X.prog=P->X.w=w->X.K=K->X.calm=true->∀(i:Nat) (pins:List (Addr×Obj)) (s:Shared) (σ:St) (H:Hp) (E:Value->Shared->Prop),Inv X pins σ H s->(∀b∈fp,xL X pins H b)->tn i s.heap->J.stop i H->
  wpAny (model P w) X.A (pyNext (.ref it)) (fun r s1=>r=none/\Inv X pins σ H s1) E s
 self: ∀(A:Around) (i:Nat) (s:Shared) (Q:Value->Shared->Prop) (E:Value->Shared->Prop),tn i s.heap->Q (.ref it) s->wpAny (model P w) A (pyIter (.ref it)) Q E s
noncomputable abbrev TI:=St->Hp->(It->Hp->Prop)->Prop
noncomputable def zbY(X:Cx)(pins:List (Addr×Obj))(σ:St)(tg:Expr)(R:It->Hp->Prop)(itv:Value)(s2:Shared):Prop:=
 ∃(it:Addr) (fp:List Addr) (tn:Nat->Heap->Prop) (J:It) (H':Hp),itv= .ref it/\Inv X pins σ H' s2/\Turn X.prog X.w X.K tg J fp it tn/\tn 0 s2.heap/\(∀b∈fp,xL X pins H' b)/\R J H'
noncomputable def PI(X:Cx)(tg iter:Expr)(wi:TI):Prop:=
 ∀(pins:List (Addr×Obj)) (s:Shared) (σ:St) (H:Hp) (R:It->Hp->Prop),Inv X pins σ H s->wi σ H R->
  wpAny (model X.prog X.w) X.A (eval iter X.env) (fun v s1=>wpAny (model X.prog X.w) X.A (pyIter v) (zbY X pins σ tg R) X.xe s1) X.xe s
theorem Xc {M : Model} {A : Around} {E : Value → Shared → Prop} {s : Shared} {tg : Expr} {it : Addr} {u : Value} {o : Obj} {n : String} {vs : Array Value} {Q : Unit → Shared → Prop} (ho : s.heap.get? it = some o) (hc : o.cls = .type n) (hd : o.data = .fields vs)
    (hn : ["enumerate", "zip", "dict_itemiterator", "dict_reverseitemiterator", "odict_iterator", "itertools.zip_longest", "itertools.pairwise"].contains n = false) (hQ : Q () s) : wpAny M A (letOwnedTupleGo tg (.ref it) u) Q E s := by
  unfold letOwnedTupleGo
  cases tg <;> first
    | exact Kc hQ
    | (cases u <;> first
        | exact Kc hQ
        | (refine Kb (wpAny_load ho ?_)
           rw [hc, hd];show wpAny M A (if (["enumerate", "zip", "dict_itemiterator", "dict_reverseitemiterator", "odict_iterator", "itertools.zip_longest", "itertools.pairwise"].contains n && vs[0]? == some (rawInt _)) = true then _ else _) Q E s;rw [if_neg (by intro h; rw [hn, Bool.false_and] at h; cases h)];exact Kc hQ))
noncomputable def vw(K:Ka)(a:Addr):It:=
 ⟨fun i H=>∃xs x,SqL K H a xs/\xs[i]? =some x,fun i H x H'=>H'=H/\∀xs,SqL K H a xs->xs[i]? =some x,fun i H=>∃xs,SqL K H a xs/\xs.length<=i⟩
noncomputable def Xd(K:Ka)(a:Addr):It:=
 ⟨fun i H=>∃xs x,SqT K H a xs/\xs[i]? =some x,fun i H x H'=>H'=H/\∀xs,SqT K H a xs->xs[i]? =some x,fun i H=>∃xs,SqT K H a xs/\xs.length<=i⟩
noncomputable def Zg(lo:Int)(n:Nat):It:=⟨fun i _=>i<n,fun i H x H'=>H'=H/\x= .int (lo+i),fun i _=>n<=i⟩
theorem zbZ{P:Program}{w:World}{K:Ka}{tg:Expr}(a it:Addr):Turn P w K tg (vw K a) [it] it (fun i h=>h.IsListIter it a i) where
 mem:=by simp
 obj:=fun i h st b hb=>by
  have e:b=it:=by simpa using hb
  subst e;obtain⟨o,e,c,d⟩:=st;exact⟨o,e,fun v z=>by rw[d] at z;cases z⟩
 keep:=fun i h h' st k=>st.at fun o e=>k it (by simp) o e
 item:=by
  intro X hP hw hK hc i pins s σ H E I hf st hg;subst hP hw hK;obtain⟨xs,x,hq,hx⟩:=hg;obtain⟨its,rv,p,hz⟩:=I.list hq;obtain⟨u,hu,ru⟩:=rv.get hx;obtain⟨f0,f1,f2,f3,f4,f5⟩:=hf it (by simp);refine wpAny_pyNext_list_item st p.isList (x:=u) (by simpa using hu) fun h' st' sb=>?_
  have I1:Inv X pins σ H { s with heap:=h' }:=I.turned (t':=s.toks) (fun b o hb e=>(sb.2 b hb).trans e) f0 f1 f3 f4 f5;obtain⟨o,e,c,d⟩:=id st';exact⟨u,rfl,Xc (s:={ s with heap:=h' }) e c d (by decide) ⟨x,H,I1,ru,⟨rfl,fun ys hy=>by rw[I.list_inj hy hq];exact hx⟩,st',fun b hb=>(hf b hb).1⟩⟩
 done:=by
  intro X hP hw hK hc i pins s σ H E I hf st hg;subst hP hw hK;obtain⟨xs,hq,hx⟩:=hg;obtain⟨its,rv,p,hz⟩:=I.list hq;obtain⟨f0,f1,f2,f3,f4,f5⟩:=hf it (by simp);have hl:=rv.length;exact wpAny_pyNext_list_end (I.ok.hd hc) st p.isList (by simp;omega) fun h' eb=>⟨rfl,I.turned (t':=s.toks) (fun b o hb e=>eb b o hb e) f0 f1 f3 f4 f5⟩
 self:=fun _ _ _ _ _ st h=>wpAny_pyIter_listiter st h
theorem zg8{P:Program}{w:World}{K:Ka}{tg:Expr}(a it:Addr):Turn P w K tg (Xd K a) [it] it (fun i h=>h.IsTupleIter it a i) where
 mem:=by simp
 obj:=fun i h st b hb=>by
  have e:b=it:=by simpa using hb
  subst e;obtain⟨o,e,c,d⟩:=st;exact⟨o,e,fun v z=>by rw[d] at z;cases z⟩
 keep:=fun i h h' st k=>st.at fun o e=>k it (by simp) o e
 item:=by
  intro X hP hw hK hc i pins s σ H E I hf st hg;subst hP hw hK;obtain⟨xs,x,hq,hx⟩:=hg;obtain⟨its,rv,p,hz⟩:=I.tuple hq;obtain⟨u,hu,ru⟩:=rv.get hx;obtain⟨f0,f1,f2,f3,f4,f5⟩:=hf it (by simp);refine wpAny_pyNext_tuple_item st (show s.heap.IsTuple a its.toArray from p) (x:=u) (by simpa using hu) fun h' st' sb=>?_
  have I1:Inv X pins σ H { s with heap:=h' }:=I.turned (t':=s.toks) (fun b o hb e=>(sb.2 b hb).trans e) f0 f1 f3 f4 f5;obtain⟨o,e,c,d⟩:=id st';exact⟨u,rfl,Xc (s:={ s with heap:=h' }) e c d (by decide) ⟨x,H,I1,ru,⟨rfl,fun ys hy=>by rw[I.tuple_inj hy hq];exact hx⟩,st',fun b hb=>(hf b hb).1⟩⟩
 done:=by
  intro X hP hw hK hc i pins s σ H E I hf st hg;subst hP hw hK;obtain⟨xs,hq,hx⟩:=hg;obtain⟨its,rv,p,hz⟩:=I.tuple hq;obtain⟨f0,f1,f2,f3,f4,f5⟩:=hf it (by simp);have hl:=rv.length;exact wpAny_pyNext_tuple_end (I.ok.hd hc) st (show s.heap.IsTuple a its.toArray from p) (by simp;omega) fun h' eb=>⟨rfl,I.turned (t':=s.toks) (fun b o hb e=>eb b o hb e) f0 f1 f3 f4 f5⟩
 self:=fun _ _ _ _ _ st h=>wpAny_pyIter_tupleiter st h
theorem zg9{P:Program}{w:World}{K:Ka}{tg:Expr}(it:Addr)(lo:Int)(n:Nat):Turn P w K tg (Zg lo n) [it] it (fun i h=>IsRangeIter h it (lo+(i:Nat)*1) ((n:Int)-(i:Nat)) 1) where
 mem:=by simp
 obj:=fun i h st b hb=>by
  have e:b=it:=by simpa using hb
  subst e
  exact⟨_,st,fun v z=>by
   have z':Data.fields _=Data.cell v:=z;cases z'⟩
 keep:=fun i h h' st k=>k it (by simp) _ st
 item:=by
  intro X hP hw hK hc i pins s σ H E I hf st hg;subst hP hw hK;obtain⟨f0,f1,f2,f3,f4,f5⟩:=hf it (by simp);have W:=Walks.range (prog:=X.prog) (w:=X.w) (I.ok.hd hc) it lo 1 n;refine W.item i s _ _ hg st fun v h' tk hv st' kk=>?_
  obtain⟨t,rfl⟩:=hv;have I1:Inv X pins σ H { s with heap:=h',toks:=tk }:=I.turned (fun b o hb e=>kk b o (by simpa using hb) e) f0 f1 f3 f4 f5;refine⟨_,rfl,Xc (s:={ s with heap:=h',toks:=tk }) (n:="range_iterator") st' rfl rfl (by decide) ⟨.int (lo+i),H,I1,⟨t,?_⟩,⟨rfl,rfl⟩,st',fun b hb=>(hf b hb).1⟩⟩;rw[Int.mul_one]
 done:=by
  intro X hP hw hK hc i pins s σ H E I hf st hg;subst hP hw hK;obtain⟨f0,f1,f2,f3,f4,f5⟩:=hf it (by simp);exact wpAny_pyNext_range_end (I.ok.hd hc) st (by have:n<=i:=hg;omega) fun h' eb=>⟨rfl,I.turned (t':=s.toks) (fun b o hb e=>eb b o hb e) f0 f1 f3 f4 f5⟩
 self:=fun _ _ _ _ _ st h=>wpAny_pyIter_rangeiter st h
end L2
namespace L2
open PySem PySem.Spec PyProof.Rows
section
variable {X:Cx} {tg:Expr}
noncomputable def Xe(K:Ka)(tl:TE):TI:=fun σ H R=>tl σ H fun x H1=>∃a,x= .ref a/\(∃xs,SqL K H1 a xs)/\R (vw K a) H1
theorem qx{l:Expr}{tl:TE}(hl:PE X l tl):PI X tg l (Xe X.K tl):=by
 intro pins s σ H R I h;refine zt (hl pins s σ H _ I h) fun v s1 ⟨x,H1,I1,r1,q1⟩=>?_
 obtain⟨a,e,⟨xs,hq⟩,q⟩:=q1;subst e;cases r1;obtain⟨its,rv,p,hz⟩:=I1.list hq;refine wpAny_pyIter_list p.isList ?_;refine⟨s1.heap.objs.size,[s1.heap.objs.size],_,_,H1,rfl,I1.kept (t':=s1.toks) fun b o e=>Kl _ e,zbZ a _,⟨_,Heap.get?_push_size _ rfl,rfl,rfl⟩,fun b hb=>?_,q⟩;have e:b=s1.heap.objs.size:=by simpa using hb
 subst e;exact I1.fpOk (Nat.le_refl _) (I1.hok.fresh (Nat.le_refl _))
theorem zb0{pins:List (Addr×Obj)}{σ:St}{H:Hp}{s:Shared}{R:It->Hp->Prop}{E:Value->Shared->Prop}{lo hi:Int}{t u v:Tok}{tk:Nat}(I:Inv X pins σ H s)(h1: -(2 ^ 62)<=lo)(h2:lo<2 ^ 62)(h3: -(2 ^ 62)<=hi)(h4:hi<2 ^ 62)
  (q:R (Zg lo (hi-lo).toNat) H):wpAny (model X.prog X.w) X.A (pyIter (.ref s.heap.objs.size)) (zbY X pins σ tg R) E { s with heap:=s.heap.push { cls:=.type "range",data:=.fields #[.int lo t,.int hi u,.int 1 v] },toks:=tk }:=by
 refine wpAny_pyIter_range (IsRange.new ..) (small_one h1 h2 h3 h4) ?_;have I1:Inv X pins σ H { s with heap:=s.heap.push { cls:=.type "range",data:=.fields #[.int lo t,.int hi u,.int 1 v] },toks:=tk }:=I.kept fun b o e=>Kl _ e
 refine⟨(s.heap.push { cls:=.type "range",data:=.fields #[.int lo t,.int hi u,.int 1 v] }).objs.size,[(s.heap.push { cls:=.type "range",data:=.fields #[.int lo t,.int hi u,.int 1 v] }).objs.size],_,_,H,rfl,
  I1.kept (t':=tk) fun b o e=>Kl _ e,zg9 _ lo (hi-lo).toNat,?_,fun b hb=>?_,q⟩
 ·have e1:lo+((0:Nat):Int)*1=lo:=by simp
  have e2:(((hi-lo).toNat:Nat):Int)-((0:Nat):Int)=Builtin.Range.rangeSize lo hi 1:=by rw[rangeSize_one];split<;>omega
  show IsRangeIter _ _ (lo+((0:Nat):Int)*1) ((((hi-lo).toNat:Nat):Int)-((0:Nat):Int)) 1;rw[e1,e2];exact Heap.get?_push_size _ rfl
 ·have e:b=(s.heap.push { cls:=.type "range",data:=.fields #[.int lo t,.int hi u,.int 1 v] }).objs.size:=by simpa using hb
  subst e;exact I1.fpOk (Nat.le_refl _) (I1.hok.fresh (Nat.le_refl _))
noncomputable def zha(ta:TA):TI:=fun σ H R=>ta σ H fun vs H1=>∃j:Int,vs=[.int j]/\ -(2 ^ 62)<=j/\j<2 ^ 62/\R (Zg 0 j.toNat) H1
noncomputable def zhb(ta:TA):TI:=fun σ H R=>ta σ H fun vs H1=>∃i j:Int,vs=[.int i,.int j]/\(-(2 ^ 62)<=i/\i<2 ^ 62/\ -(2 ^ 62)<=j/\j<2 ^ 62)/\R (Zg i (j-i).toNat) H1
theorem zhc{a:Expr}{ta:TA}{p pos:Pos}(hg:Gl X "range")(hm:X.mg "range"=none)(ha:PA X [a] ta)(hs:starEach [a] X.env=[(false,eval a X.env)]:=by rfl):PI X tg (.Call (.Name "range" p) [a] [] pos) (zha ta):=by
 intro pins s σ H R I h;refine Call_ (Zd I hg hm boot_range (PyProof.Rows.callWith_type1 (zt (ha pos pins s σ H _ I h) fun us s1 ⟨vs,H1,I1,r1,q1⟩=>?_) hs rfl));obtain⟨j,e,q1,q2,q⟩:=q1;subst e
 cases r1 with
 |cons r rr=>
  cases rr;obtain⟨t,rfl⟩:=r;exact call_range_1 (zb0 I1 (by omega) (by omega) q1 q2 (by simpa using q))
theorem zhd{a b:Expr}{ta:TA}{p pos:Pos}(hg:Gl X "range")(hm:X.mg "range"=none)(ha:PA X [a,b] ta)(hs:starEach [a,b] X.env=[(false,eval a X.env),(false,eval b X.env)]:=by rfl)(hs2:starEach [b] X.env=[(false,eval b X.env)]:=by rfl):
  PI X tg (.Call (.Name "range" p) [a,b] [] pos) (zhb ta):=by
 intro pins s σ H R I h;refine Call_ (Zd I hg hm boot_range (PyProof.Rows.callWith_type1 (zt (ha pos pins s σ H _ I h) fun us s1 ⟨vs,H1,I1,r1,q1⟩=>?_) (by rw[hs,hs2]) (by rw[hs2];rfl)));obtain⟨i,j,e,⟨q1,q2,q3,q4⟩,q⟩:=q1;subst e
 cases r1 with
 |cons r rr=>
  cases rr with
  |cons r' rr=>
   cases rr;obtain⟨t,rfl⟩:=r;obtain⟨t',rfl⟩:=r';exact call_range_2 (zb0 I1 q1 q2 q3 q4 q)
noncomputable def qy(wi:TI)(g:TG)(tb:TS):TS:=fun D σ H=>wi σ H fun J H1=>∃W:Nat->Nat->St->Hp->Prop,(∃m,W 0 m σ H1)/\∀i m σ H,W i m σ H->
 (J.stop i H/\D.nx σ H)\/(J.go i H/\∃N:St->Hp->Prop,(∀σ' H',N σ' H'->∃m',m'<m/\W (i+1) m' σ' H')/\∀x H',J.yld i H x H'->g x σ H' fun σ2 H2=>tb { D with nx:=N,ct:=N,bk:=D.nx } σ2 H2)
noncomputable def Zh(fp:List Addr)(h:Heap):List (Addr×Obj):=fp.filterMap fun b=>(h.get? b).map fun o=>(b,o)
theorem jx{fp:List Addr}{h:Heap}{b:Addr}{o:Obj}(hb:b∈fp)(e:h.get? b=some o):(b,o)∈Zh fp h:=List.mem_filterMap.mpr ⟨b,hb,by rw[e];rfl⟩
theorem zhe{fp:List Addr}{h:Heap}{p:Addr×Obj}(hp:p∈Zh fp h):p.1∈fp/\h.get? p.1=some p.2:=by
 obtain⟨b,hb,e⟩:=List.mem_filterMap.mp hp
 cases q:h.get? b with
 |none=>rw[q] at e;cases e
 |some o=>
  rw[q] at e;have e':(b,o)=p:=Kn e;subst e';exact⟨hb,q⟩
theorem Inv.pinned{pins:List (Addr×Obj)}{σ:St}{H:Hp}{s:Shared}{fp:List Addr}(I:Inv X pins σ H s)(hf: ∀b∈fp,xL X pins H b)(ho: ∀b∈fp,∃o,s.heap.get? b=some o/\∀v,o.data≠ .cell v):Inv X (pins++Zh fp s.heap) σ H s:=
 I.pins_of fun p hp=>(List.mem_append.mp hp).elim (fun z=>I.pin p (Ko _ z)) fun z=>by
  obtain⟨hb,e⟩:=zhe z;obtain⟨f0,f1,f2,_⟩:=hf p.1 hb;obtain⟨o,e',d⟩:=ho p.1 hb;rw[e] at e';cases e';exact⟨e,f0,f1,f2,d⟩
theorem Inv.unpinned{pins pl:List (Addr×Obj)}{σ:St}{H:Hp}{s:Shared}(I:Inv X (pins++pl) σ H s):Inv X pins σ H s:=I.pins_of fun p hp=>I.pin p (Ko _ (Kp _ hp))
theorem Xf{iter:Expr}{body:List Stmt}{wi:TI}{g:TG}{tb:TS}{pos:Pos}(hp:PassesOwn (model X.prog X.w) X.A X.env X.xe)(hc:X.calm=true)(hi:PI X tg iter wi)(hg:PG X tg g)(hb:PSs X body tb)
  (hs: ∀x,foldedSetIterable iter X.env x=pure x:=by intro _;rfl):PS X (.For tg iter body [] pos) (qy wi g tb):=by
 intro pins s σ H D I h;refine wpAny_For (zt (hi pins s σ H _ I h) fun v s1 h1=>zt h1 fun itv s2 h2=>?_) hs;obtain⟨it,fp,tn,J,H2,e,I2,T,st2,f2,W,⟨m0,w0⟩,turn⟩:=h2;subst e;have stat: ∀{H':Hp},(∀b∈fp,H' b=none)->∀b∈fp,xL X pins H' b:=fun hn b hb=>⟨hn b hb,(f2 b hb).2⟩
 refine codeAny_forLoop_any (fun n s'=>∃i σ' H',Inv X pins σ' H' s'/\tn i s'.heap/\(∀b∈fp,H' b=none)/\W i n σ' H') ?_ m0 ⟨0,σ,H2,I2,st2,fun b hb=>(f2 b hb).1,w0⟩;rintro n s3 ⟨i,σ3,H3,I3,st3,fr3,w3⟩;rcases turn i n σ3 H3 w3 with ⟨stop,qn⟩|⟨go,N,hN,step⟩
 ·refine wpAny_passesOwn hp (zt (T.done X rfl rfl rfl hc i pins s3 σ3 H3 X.xe I3 (stat fr3) st3 stop) fun r s4 ⟨hr,I4⟩=>?_)
  subst hr;exact wpAny_execs_nil ⟨σ3,H3,I4,qn⟩
 ·refine wpAny_passesOwn hp (zt (T.item X rfl rfl rfl hc i pins s3 σ3 H3 X.xe I3 (stat fr3) st3 go) fun r s4 ⟨u,hr,h4⟩=>?_)
  subst hr;refine wpAny_passesOwn hp (zt h4 fun _ s5 ⟨x,H5,I5,r5,y5,st5,fr5⟩=>?_);have I5':=I5.pinned (stat fr5) (T.obj _ _ st5);refine wpAny_passesOwn hp (zt (hg _ s5 σ3 H5 x u _ I5' r5 (step x H5 y5)) fun _ s6 ⟨σ6,H6,I6,q6⟩=>?_);refine wpAny_passesOwn hp (zt (hb _ s6 σ6 H6 _ I6 q6) fun f s7 q7=>?_)
  have again: ∀{σ7:St} {H7:Hp},Inv X (pins++Zh fp s5.heap) σ7 H7 s7->N σ7 H7->∃m,m<n/\∃i σ' H',Inv X pins σ' H' s7/\tn i s7.heap/\(∀b∈fp,H' b=none)/\W i m σ' H':=fun {σ7 H7} I7 n7=>by
   obtain⟨m',hm,w7⟩:=hN σ7 H7 n7;refine⟨m',hm,i+1,σ7,H7,I7.unpinned,T.keep _ _ _ st5 fun b hb o e=>(I7.pin (b,o) (Ko _ (Ko _ (jx hb e)))).1,fun b hb=>?_,w7⟩;obtain⟨o,e,d⟩:=T.obj _ _ st5 b hb;exact (I7.pin (b,o) (Ko _ (Ko _ (jx hb e)))).2.1
  cases f with
  |next=>obtain⟨σ7,H7,I7,n7⟩:=q7;exact again I7 n7
  |cont=>obtain⟨σ7,H7,I7,n7⟩:=q7;exact again I7 n7
  |brk=>obtain⟨σ7,H7,I7,q7⟩:=q7;exact⟨σ7,H7,I7.unpinned,q7⟩
  |ret v=>obtain⟨x7,σ7,H7,I7,r7,q7⟩:=q7;exact⟨x7,σ7,H7,I7.unpinned,r7,q7⟩
end
theorem zb1{K:Ka}{a:Addr}{xs:List V}{g:TG}{tb:TS}{D:Ends}{σ:St}{H:Hp}(Pv:Nat->St->Hp->Prop)(h0:Pv 0 σ H)(hl: ∀i σ H,i<=xs.length->Pv i σ H->SqL K H a xs)
  (hs: ∀i x σ H,xs[i]? =some x->Pv i σ H->g x σ H fun σ2 H2=>tb { D with nx:=Pv (i+1),ct:=Pv (i+1),bk:=D.nx } σ2 H2) (hd: ∀σ H,Pv xs.length σ H->D.nx σ H):
  ∃W:Nat->Nat->St->Hp->Prop,(∃m,W 0 m σ H)/\∀i m σ H,W i m σ H->
   ((vw K a).stop i H/\D.nx σ H)\/((vw K a).go i H/\∃N:St->Hp->Prop,(∀σ' H',N σ' H'->∃m',m'<m/\W (i+1) m' σ' H')/\∀x H',(vw K a).yld i H x H'->g x σ H' fun σ2 H2=>tb { D with nx:=N,ct:=N,bk:=D.nx } σ2 H2):=by
 refine⟨fun i m σ H=>m=xs.length-i/\i<=xs.length/\Pv i σ H,⟨xs.length,by simp,Nat.zero_le _,h0⟩,?_⟩;rintro i m σ H ⟨rfl,hi,p⟩;have q:=hl i σ H hi p;by_cases hlt:i<xs.length
 ·refine .inr ⟨⟨xs,xs[i],q,by simp[hlt]⟩,Pv (i+1),fun σ' H' p'=>⟨xs.length-(i+1),by omega,rfl,hlt,p'⟩,fun x H' y=>?_⟩
  obtain⟨e,y⟩:=y;subst e;exact hs i x σ _ (y xs q) p
 ·have e:i=xs.length:=by omega
  subst e;exact .inl ⟨⟨xs,q,Nat.le_refl _⟩,hd σ H p⟩
end L2
namespace L2
open PySem PySem.Spec PyProof.Rows
noncomputable abbrev R2:=V->V->Hp->VK->Prop
noncomputable def zZ(X:Cx)(f:Value->Value->Sem Value)(r:R2):Prop:=
 ∀(pins:List (Addr×Obj)) (s:Shared) (σ:St) (H:Hp) (x y:V) (v u:Value) (Q:VK),Inv X pins σ H s->RelV x v->RelV y u->r x y H Q->
  wpAny (model X.prog X.w) X.A (f v u) (EP X pins σ Q) X.xe s
noncomputable def Xg(X:Cx)(f:Value->Sem Value)(r:V->Hp->VK->Prop):Prop:=
 ∀(pins:List (Addr×Obj)) (s:Shared) (σ:St) (H:Hp) (x:V) (v:Value) (Q:VK),Inv X pins σ H s->RelV x v->r x H Q->
  wpAny (model X.prog X.w) X.A (f v) (EP X pins σ Q) X.xe s
noncomputable def xk(X:Cx)(f:Value)(r:List V->Hp->VK->Prop):Prop:=
 ∀(pins:List (Addr×Obj)) (s:Shared) (σ:St) (H:Hp) (xs:List V) (us:List Value) (Q:VK),Inv X pins σ H s->Vals xs us->r xs H Q->
  wpAny (model X.prog X.w) X.A (call f us) (EP X pins σ Q) X.xe s
noncomputable def zhf(X:Cx)(r:V->Hp->(Bool->Hp->Prop)->Prop):Prop:=
 ∀(pins:List (Addr×Obj)) (s:Shared) (σ:St) (H:Hp) (x:V) (v:Value) (Q:Bool->Hp->Prop),Inv X pins σ H s->RelV x v->r x H Q->
  wpAny (model X.prog X.w) X.A (truthy v) (TP X pins σ Q) X.xe s
noncomputable def Xh(r:R2)(ta tb:TE):TE:=fun σ H Q=>ta σ H fun x H1=>tb σ H1 fun y H2=>r x y H2 Q
noncomputable def zhg(r:V->Hp->VK->Prop)(ta:TE):TE:=fun σ H Q=>ta σ H fun x H1=>r x H1 Q
noncomputable def rI(C:Int->Int->Prop)(g:Int->Int->V):R2:=fun x y H Q=>∃i j,x= .int i/\y= .int j/\C i j/\Q (g i j) H
noncomputable def vx(g:Int->Int->V):R2:=fun x y H Q=>∃i j,x= .int i/\y= .int j/\Q (g i j) H
noncomputable def rU(g:Int->V):V->Hp->VK->Prop:=fun x H Q=>∃i,x= .int i/\Q (g i) H
section
variable {X:Cx} {a b c:Expr} {ta tb tc:TE} {pos:Pos}
theorem qz(ha:PE X a ta)(hb:PE X b tb){pins:List (Addr×Obj)}{s:Shared}{σ:St}{H:Hp}{R:V->V->Hp->Prop}(I:Inv X pins σ H s)
  (h:ta σ H fun x H1=>tb σ H1 fun y H2=>R x y H2) {Q:Value->Shared->Prop} {f:Value->Value->Sem Value}
  (hf: ∀v u s2 x y H2,Inv X pins σ H2 s2->RelV x v->RelV y u->R x y H2->wpAny (model X.prog X.w) X.A (f v u) Q X.xe s2):
  wpAny (model X.prog X.w) X.A (eval a X.env) (fun v s₁=>wpAny (model X.prog X.w) X.A (eval b X.env) (fun u s₂=>wpAny (model X.prog X.w) X.A (f v u) Q X.xe s₂) X.xe s₁) X.xe s:=by
 refine zt (ha pins s σ H _ I h) fun v s1 ⟨x,H1,I1,r1,q1⟩=>?_
 refine zt (hb pins s1 σ H1 _ I1 q1) fun u s2 ⟨y,H2,I2,r2,q2⟩=>?_
 exact hf v u s2 x y H2 I2 r1 r2 q2
theorem zhh{op:Operator}{r:R2}(ho:zZ X (binaryOp op) r)(ha:PE X a ta)(hb:PE X b tb):PE X (.BinOp a op b pos) (Xh r ta tb):=by
 intro pins s σ H Q I h;exact wpAny_BinOp (qz ha hb I h fun v u s2 x y H2 I2 rx ry q=>ho pins s2 σ H2 x y v u Q I2 rx ry q)
theorem zhi{op:UnaryOp}{r:V->Hp->VK->Prop}(ho:Xg X (unaryOp op) r)(ha:PE X a ta):PE X (.UnaryOp op a pos) (zhg r ta):=by
 intro pins s σ H Q I h;exact UnaryOp_ (zt (ha pins s σ H _ I h) fun v s1 ⟨x,H1,I1,r1,q1⟩=>ho pins s1 σ H1 x v Q I1 r1 q1)
theorem JR{f:Value->Value->Sem Value}{C:Int->Int->Prop}{g:Int->Int->Int}
  (rule: ∀(i j:Int) (t u:Tok) (s:Shared) (Q:Value->Shared->Prop) (E:Value->Shared->Prop),C i j->Q (.int (g i j) s.toks) { s with toks:=s.toks+1 }->wpAny (model X.prog X.w) X.A (f (.int i t) (.int j u)) Q E s):
  zZ X f (rI C fun i j=>.int (g i j)):=by
 intro pins s σ H x y v u Q I rx ry h;obtain⟨i,j,rfl,rfl,hc,q⟩:=h;obtain⟨t,rfl⟩:=rx;obtain⟨t',rfl⟩:=ry;exact rule i j t t' s _ _ hc ⟨.int (g i j),H,I.tok _,⟨_,rfl⟩,q⟩
theorem Xi{f:Value->Value->Sem Value}{g:Int->Int->Int}
  (rule: ∀(i j:Int) (t u:Tok) (s:Shared) (Q:Value->Shared->Prop) (E:Value->Shared->Prop),Q (.int (g i j) s.toks) { s with toks:=s.toks+1 }->wpAny (model X.prog X.w) X.A (f (.int i t) (.int j u)) Q E s):
  zZ X f (vx fun i j=>.int (g i j)):=by
 intro pins s σ H x y v u Q I rx ry h;obtain⟨i,j,rfl,rfl,q⟩:=h;obtain⟨t,rfl⟩:=rx;obtain⟨t',rfl⟩:=ry;exact rule i j t t' s _ _ ⟨.int (g i j),H,I.tok _,⟨_,rfl⟩,q⟩
theorem qA{f:Value->Value->Sem Value}{g:Int->Int->Bool}
  (rule: ∀(i j:Int) (t u:Tok) (s:Shared) (Q:Value->Shared->Prop) (E:Value->Shared->Prop),Q (.bool (g i j)) s->wpAny (model X.prog X.w) X.A (f (.int i t) (.int j u)) Q E s):
  zZ X f (vx fun i j=>.bl (g i j)):=by
 intro pins s σ H x y v u Q I rx ry h;obtain⟨i,j,rfl,rfl,q⟩:=h;obtain⟨t,rfl⟩:=rx;obtain⟨t',rfl⟩:=ry;exact rule i j t t' s _ _ ⟨.bl (g i j),H,I,rfl,q⟩
noncomputable def zhj(i j:Int):Prop:=0<j/\j<1073741824
noncomputable def zhk(i j:Int):Prop:=0<=j/\j<=1000000/\i.natAbs<2 ^ 64
noncomputable def CMul(i j:Int):Prop:=(-(2 ^ 64)<i/\i<2 ^ 64)\/(-(2 ^ 64)<j/\j<2 ^ 64)
theorem CMul.ok{i j:Int}(h:CMul i j):IntMulOk i j:=by
 rcases h with ⟨h1,h2⟩|⟨h1,h2⟩
 ·exact .of_left (intBits_le_64 h1 h2)
 ·exact .of_right (intBits_le_64 h1 h2)
theorem zhl:zZ X (binaryOp .Add) (vx fun i j=>.int (i+j)):=Xi fun _ _ _ _ _ _ _ q=>add_int q
theorem zhm:zZ X (binaryOp .Sub) (vx fun i j=>.int (i-j)):=Xi fun _ _ _ _ _ _ _ q=>sub_int q
theorem zhn:zZ X (binaryOp .Mult) (rI CMul fun i j=>.int (i*j)):=JR fun _ _ _ _ _ _ _ hc q=>mul_int q hc.ok
theorem zho:zZ X (binaryOp .FloorDiv) (rI zhj fun i j=>.int (i/j)):=JR fun i j _ _ _ _ _ hc q=>by
 have h1:(0:Int)<j:=hc.1;have h2:j<1073741824:=hc.2;exact floordiv_int (by omega) (by rw[Int.fdiv_eq_ediv_of_nonneg i (by omega)];exact q) (.inl (PyProof.noPylong_small (by omega)))
theorem zhp:zZ X (binaryOp .Mod) (rI (fun _ j=>0<j) fun i j=>.int (i%j)):=JR fun i j _ _ _ _ _ hc q=>by
 have h1:(0:Int)<j:=hc;exact mod_int' (by omega) (by rw[Int.fmod_eq_emod_of_nonneg i (by omega)];exact q)
theorem zhq:zZ X (binaryOp .LShift) (rI zhk fun i j=>.int (i*2 ^ j.toNat)):=JR fun _ _ _ _ _ _ _ hc q=>lshift_int_small hc.1 hc.2.1 hc.2.2 q
theorem zhr:zZ X (binaryOp .BitAnd) (vx fun i j=>.int (Builtin.bitAnd i j)):=Xi fun _ _ _ _ _ _ _ q=>and_int q
theorem zhs:zZ X (binaryOp .BitOr) (vx fun i j=>.int (Builtin.bitOr i j)):=Xi fun _ _ _ _ _ _ _ q=>or_int q
theorem zht:zZ X (binaryOp .BitXor) (vx fun i j=>.int (Builtin.bitXor i j)):=Xi fun _ _ _ _ _ _ _ q=>xor_int q
theorem zhu{f:Value->Sem Value}{g:Int->Int}
  (rule: ∀(i:Int) (t:Tok) (s:Shared) (Q:Value->Shared->Prop) (E:Value->Shared->Prop),Q (.int (g i) s.toks) { s with toks:=s.toks+1 }->wpAny (model X.prog X.w) X.A (f (.int i t)) Q E s):
  Xg X f (rU fun i=>.int (g i)):=by
 intro pins s σ H x v Q I rx h;obtain⟨i,rfl,q⟩:=h;obtain⟨t,rfl⟩:=rx;exact rule i t s _ _ ⟨.int (g i),H,I.tok _,⟨_,rfl⟩,q⟩
theorem zhv:Xg X (unaryOp .USub) (rU fun i=>.int (-i)):=zhu fun _ _ _ _ _ q=>neg_int q
end
section
variable {X:Cx} {a b c:Expr} {ta tb tc:TE} {pos:Pos}
theorem zhw:zZ X (compareOp .Lt) (vx fun i j=>.bl (decide (i<j))):=qA fun _ _ _ _ _ _ _ q=>lt_int q
theorem zhx:zZ X (compareOp .LtE) (vx fun i j=>.bl (decide (i<=j))):=qA fun _ _ _ _ _ _ _ q=>le_int q
theorem zhy:zZ X (compareOp .Gt) (vx fun i j=>.bl (decide (j<i))):=qA fun _ _ _ _ _ _ _ q=>gt_int q
theorem yv(b:Expr){op:CmpOp}(h:op≠ .In:=by decide)(h2:op≠ .NotIn:=by decide):behindInMarks op b=false:=by
 have e1:(op==CmpOp.In)=false:=by cases op<;>first|rfl|exact KC rfl h
 have e2:(op==CmpOp.NotIn)=false:=by cases op<;>first|rfl|exact KC rfl h2
 cases b<;>simp[behindInMarks,e1,e2]
theorem zhz{op:CmpOp}{r:R2}(ho:zZ X (compareOp op) r)(ha:PE X a ta)(hb:PE X b tb)(hm:behindInMarks op b=false):PE X (.Compare a [op] [b] pos) (Xh r ta tb):=by
 intro pins s σ H Q I h;exact wpAny_Compare1 (qz ha hb I h fun v u s2 x y H2 I2 rx ry q=>ho pins s2 σ H2 x y v u Q I2 rx ry q) hm
noncomputable def zb2(t:TE):TT:=fun σ H Q=>t σ H fun x H'=>∃k,x= .bl k/\Q k H'
theorem zhA{op:CmpOp}{r:R2}(ho:zZ X (compareOp op) r)(ha:PE X a ta)(hb:PE X b tb)(hm:behindInMarks op b=false):PT X (.Compare a [op] [b] pos) (zb2 (Xh r ta tb)):=by
 intro pins s σ H Q I h
 refine wpAny_isTrue_Compare1 (zt (ha pins s σ H _ I h) fun v s1 ⟨x,H1,I1,r1,q1⟩=>zt (hb pins s1 σ H1 _ I1 q1) fun u s2 ⟨y,H2,I2,r2,q2⟩=>
  zt (ho pins s2 σ H2 x y v u _ I2 r1 r2 q2) fun c s3 ⟨z,H3,I3,r3,k,e,q3⟩=>?_) hm
 subst e;cases r3;exact wpAny_truthy_bool ⟨H3,I3,q3⟩
noncomputable def zb3(r r':R2)(ta tb tc:TE):TE:=fun σ H Q=>ta σ H fun x H1=>tb σ H1 fun y H2=>r x y H2 fun z H3=>∃k,z= .bl k/\
 (if k=true then tc σ H3 fun w' H4=>r' y w' H4 Q else Q (.bl false) H3)
theorem zhB{op op':CmpOp}{r r':R2}(ho:zZ X (compareOp op) r)(ho':zZ X (compareOp op') r')(ha:PE X a ta)(hb:PE X b tb)(hc:PE X c tc)
  (hm:lastMarks [op,op'] [b,c]=false:=by with_unfolding_all rfl):PE X (.Compare a [op,op'] [b,c] pos) (zb3 r r' ta tb tc):=by
 intro pins s σ H Q I h
 refine Compare_chain (zt (ha pins s σ H _ I h) fun v s1 ⟨x,H1,I1,r1,q1⟩=>chain_link (zt (hb pins s1 σ H1 _ I1 q1) fun u s2 ⟨y,H2,I2,r2,q2⟩=>
  zt (ho pins s2 σ H2 x y v u _ I2 r1 r2 q2) fun d s3 ⟨z,H3,I3,r3,k,e,q3⟩=>?_)) hm
 subst e;cases r3;refine wpAny_truthy_bool ?_
 cases k with
 |false=>exact ite_ff ⟨.bl false,H3,I3,rfl,q3⟩
 |true=>exact ite_tt (chain_last (zt (hc pins s3 σ H3 _ I3 q3) fun w' s4 ⟨z',H4,I4,r4,q4⟩=>ho' pins s4 σ H4 y z' u w' Q I4 r2 r4 q4))
theorem zhC{op op':CmpOp}{r r':R2}(ho:zZ X (compareOp op) r)(ho':zZ X (compareOp op') r')(ha:PE X a ta)(hb:PE X b tb)(hc:PE X c tc)
  (hm:lastMarks [op,op'] [b,c]=false:=by with_unfolding_all rfl):PT X (.Compare a [op,op'] [b,c] pos) (zb2 (zb3 r r' ta tb tc)):=by
 intro pins s σ H Q I h
 refine isTrue_chain (zt (ha pins s σ H _ I h) fun v s1 ⟨x,H1,I1,r1,q1⟩=>test_link (zt (hb pins s1 σ H1 _ I1 q1) fun u s2 ⟨y,H2,I2,r2,q2⟩=>
  zt (ho pins s2 σ H2 x y v u _ I2 r1 r2 q2) fun d s3 ⟨z,H3,I3,r3,k,e,q3⟩=>?_)) hm
 subst e;cases r3;refine wpAny_truthy_bool ?_
 cases k with
 |false=>
  obtain⟨k',e',q'⟩:=q3;cases e';exact ite_ff ⟨H3,I3,q'⟩
 |true=>
  refine ite_tt (test_last (zt (hc pins s3 σ H3 _ I3 q3) fun w' s4 ⟨z',H4,I4,r4,q4⟩=>zt (ho' pins s4 σ H4 y z' u w' _ I4 r2 r4 q4) fun d' s5 ⟨z2,H5,I5,r5,k2,e2,q5⟩=>?_));subst e2;cases r5;exact wpAny_truthy_bool ⟨H5,I5,q5⟩
noncomputable def qE(K:Ka)(x:V)(H:Hp)(k:Bool):Prop:=
 match x with
 | .non=>k=false
 | .bl b=>k=b
 | .int i=>k=(i != 0)
 | .str y=>y.length<=sizeLine/\k=((y.length:Int) != 0)
 | .byt y=>y.size<=sizeLine/\k=((y.size:Int) != 0)
 | .ref p=>(∃xs,SqL K H p xs/\k= !xs.isEmpty)\/(∃xs,SqT K H p xs/\k= !xs.isEmpty)\/∃kvs,H p=some (.dK kvs)/\k= !kvs.isEmpty
 |_=>False
theorem zhD{κ:Type}{kvs:List (κ×V)}{vs:List (κ×Value)}(r:KV kvs vs):(!vs.isEmpty)= !kvs.isEmpty:=by
 cases r<;>rfl
theorem zb4{xs:List V}{its:List Value}(r:Vals xs its):(!its.toArray.isEmpty)= !xs.isEmpty:=by
 cases r<;>simp
theorem JS:(sizeLine:Nat)<2 ^ 63:=by rw[sizeLine_eq];decide
theorem zhE:zhf X (fun x H Q=>∃k,qE X.K x H k/\Q k H):=by
 intro pins s σ H x v Q I rx h;obtain⟨k,e,q⟩:=h;have hl:=JS;have hs:sizeLine=16777216:=sizeLine_eq
 cases x with
 |non=>
  cases rx;have e':k=false:=e;subst e';exact truthy_none ⟨H,I,q⟩
 |bl b=>
  cases rx;have e':k=b:=e;subst e';exact wpAny_truthy_bool ⟨H,I,q⟩
 |int i=>
  obtain⟨t,rfl⟩:=rx;have e':k=(i != 0):=e;subst e';exact PySem.P.truthy_int ⟨H,I,q⟩
 |str y=>
  obtain⟨t,rfl⟩:=rx;obtain⟨hy,e'⟩:y.length<=sizeLine/\k=((y.length:Int) != 0):=e;subst e';exact PySem.P.truthy_str (by omega) ⟨H,I.tok _,q⟩
 |byt y=>
  obtain⟨t,rfl⟩:=rx;obtain⟨hy,e'⟩:y.size<=sizeLine/\k=((y.size:Int) != 0):=e;subst e';exact PySem.W.truthy_bytes (by omega) ⟨H,I.tok _,q⟩
 |ref p=>
  cases rx;have e':(∃xs,SqL X.K H p xs/\k= !xs.isEmpty)\/(∃xs,SqT X.K H p xs/\k= !xs.isEmpty)\/∃kvs,H p=some (.dK kvs)/\k= !kvs.isEmpty:=e;rcases e' with ⟨xs,hx,e'⟩|⟨xs,hx,e'⟩|⟨kvs,hx,e'⟩
  ·subst e'
   obtain⟨its,r,pl,hz⟩:=I.list hx;have hlen:=r.length;exact wpAny_truthy_list pl.isList (by simp only[List.size_toArray];omega) ⟨H,I.tok _,by rw[zb4 r];exact q⟩
  ·subst e'
   obtain⟨its,r,pl,hz⟩:=I.tuple hx;have hlen:=r.length;exact truthy_tuple pl (by simp only[List.size_toArray];omega) ⟨H,I.tok _,by rw[zb4 r];exact q⟩
  ·subst e'
   obtain⟨hz,hS,vs,r,m⟩:kvs.length<=sizeLine/\(p==sysModules)=false/\∃vs,KV kvs vs/\s.heap.DictOf (zY X.prog X.w) p vs:=I.hok p _ hx;have hlen:kvs.length=vs.length:=Paired.length r;exact wpAny_truthy_dict hS m (by omega) ⟨H,I.tok _,by rw[zhD r];exact q⟩
 |_=>exact (show False from e).elim
theorem zb5(ha:PE X a ta)(he: ∀whole,isTrue a X.env whole=(do let v <-whole;standAt a.pos;holding [v] (truthy v))):
  PT X a (fun σ H Q=>ta σ H fun x H'=>∃k,qE X.K x H' k/\Q k H'):=by
 intro pins s σ H Q I h;exact isTrue_plain (zt (ha pins s σ H _ I h) fun v s1 ⟨x,H1,I1,r1,q1⟩=>zhE pins s1 σ H1 x v Q I1 r1 q1) (he _)
theorem wz{x:V}{us:List Value}(r:Vals [x] us): ∃u,us=[u]/\RelV x u:=by
 cases r with
 |cons r1 r2=>cases r2;exact⟨_,rfl,r1⟩
theorem qF{x y:V}{us:List Value}(r:Vals [x,y] us): ∃u w',us=[u,w']/\RelV x u/\RelV y w':=by
 cases r with
 |cons r1 r2=>
  cases r2 with
  |cons r3 r4=>cases r4;exact⟨_,_,rfl,r1,r3⟩
theorem zhF:xk X (.builtin "abs") (fun xs H Q=>∃i,xs=[.int i]/\Q (.int (if i<0 then -i else i)) H):=by
 intro pins s σ H xs us Q I r h;obtain⟨i,rfl,q⟩:=h;obtain⟨u,rfl,t,rfl⟩:=wz r;exact call_abs_int fun u tk=>⟨.int (if i<0 then -i else i),H,I.tok _,⟨_,rfl⟩,q⟩
theorem zhG(hc:X.calm=true):xk X (.builtin "max") (fun xs H Q=>∃i j,xs=[.int i,.int j]/\Q (.int (if j>i then j else i)) H):=by
 intro pins s σ H xs us Q I r h;obtain⟨i,j,rfl,q⟩:=h;obtain⟨u,w',rfl,⟨t,rfl⟩,⟨t',rfl⟩⟩:=qF r;refine max_two_ints (I.ok.hd hc) fun h' tk k=>⟨_,H,I.kept k,?_,q⟩
 by_cases hj:j>i
 ·rw[if_pos hj,if_pos hj];exact⟨_,rfl⟩
 ·rw[if_neg hj,if_neg hj];exact⟨_,rfl⟩
theorem zhH(hc:X.calm=true):xk X (.builtin "min") (fun xs H Q=>∃i j,xs=[.int i,.int j]/\Q (.int (if j<i then j else i)) H):=by
 intro pins s σ H xs us Q I r h;obtain⟨i,j,rfl,q⟩:=h;obtain⟨u,w',rfl,⟨t,rfl⟩,⟨t',rfl⟩⟩:=qF r;refine min_two_ints (I.ok.hd hc) fun h' tk k=>⟨_,H,I.kept k,?_,q⟩
 by_cases hj:j<i
 ·rw[if_pos hj,if_pos hj];exact⟨_,rfl⟩
 ·rw[if_neg hj,if_neg hj];exact⟨_,rfl⟩
end
end L2
namespace L2
open PySem PySem.Spec PyProof.Rows
theorem RelO.some_of{v:V}{o:Option Value}(r:RelO (some v) o): ∃u,o=some u/\RelV v u:=by
 cases o with
 |none=>exact (show False from r).elim
 |some u=>exact⟨u,rfl,r⟩
end L2
namespace L2
open PySem PySem.Spec PyProof.Rows
structure Room (k:Nat)(A:Around):Prop where
 hd:A.handled=none
 dp:A.depth+3*k+5<recursionLimit
 un:A.units+16*k+200<cLine
theorem Room.deeper{k:Nat}{A:Around}(r:Room (k+1) A)(env:Env):Room k (A.deeper env):=
 ⟨r.hd,by have:=r.dp;show A.depth+1+3*k+5<_;omega,by have:=r.un;show A.units+3+16*k+200<_;omega⟩
theorem Room.depth{k:Nat}{A:Around}(r:Room k A):A.depth<recursionLimit:=by have:=r.dp;omega
theorem Room.units{k:Nat}{A:Around}(r:Room k A):A.units+64<cLine:=by have:=r.un;omega
noncomputable def ZN:TA:=fun _ H Q=>Q [] H
noncomputable def ZO(ta:TE)(tr:TA):TA:=fun σ H Q=>ta σ H fun x H1=>tr σ H1 fun xs H2=>Q (x::xs) H2
section
variable {X:Cx} {e:Expr} {es:List Expr} {te:TE} {t:TA} {pos:Pos}
theorem wL:PA X [] ZN:=fun _ _ _ _ H Q I h=>Calls.spliced_nil ⟨[],H,I,.nil,h⟩
theorem xX(ha:PE X e te)(hr:PA X es t)(hs:starEach (e::es) X.env=(false,eval e X.env)::starEach es X.env:=by rfl):PA X (e::es) (ZO te t):=by
 intro pos pins s σ H Q I h;rw[hs];show wpAny _ _ (spliced ((false,eval e X.env)::backTo pos (starEach es X.env))) _ _ s;refine Calls.spliced_cons (zt (ha pins s σ H _ I h) fun u s1 ⟨x,H1,I1,r1,q1⟩=>?_);exact zt (hr pos pins s1 σ H1 _ I1 q1) fun us s2 ⟨xs,H2,I2,r2,q2⟩=>⟨x::xs,H2,I2,.cons r1 r2,q2⟩
noncomputable def zhI(t:TA):TE:=fun σ H Q=>t σ H fun xs H1=>xs.length<=sizeLine/\∀p,H1 p=none->Q (.ref p) (zu H1 p (.tup xs))
noncomputable def zhJ(t:TA):TE:=fun σ H Q=>t σ H fun xs H1=>xs.length<=sizeLine/\∀p,H1 p=none->Q (.ref p) (zu H1 p (.lst xs))
theorem zhK{x1}(h:PA X es t):PE X (.Tuple es x1 pos) (zhI t):=by
 intro pins s σ H Q I hq;refine wpAny_Tuple_spliced (zt (h pos pins s σ H _ I hq) fun us s1 ⟨xs,H1,I1,r,z,q⟩=>⟨by rw[<-r.length];exact z,?_⟩);have hf:H1 s1.heap.objs.size=none:=I1.hok.fresh (Nat.le_refl _);refine⟨.ref s1.heap.objs.size,zu H1 s1.heap.objs.size (.tup xs),I1.laid (t':=s1.toks) (fun b u e=>Kl _ e) (Nat.le_refl _) ?_,rfl,q _ hf⟩;exact⟨z,us,r,⟨_,Heap.get?_push_size _ rfl,rfl,_,rfl⟩⟩
theorem zhL(h:PA X es t):PE X (.List es pos) (zhJ t):=by
 intro pins s σ H Q I hq;refine wpAny_List_spliced (zt (h pos pins s σ H _ I hq) fun us s1 ⟨xs,H1,I1,r,z,q⟩=>⟨by rw[<-r.length];exact z,?_⟩);have hf:H1 s1.heap.objs.size=none:=I1.hok.fresh (Nat.le_refl _);refine⟨.ref s1.heap.objs.size,zu H1 s1.heap.objs.size (.lst xs),I1.laid (t':=s1.toks) (fun b u e=>Kl _ e) (Nat.le_refl _) ?_,rfl,q _ hf⟩;exact⟨z,us,0,r,Heap.get?_push_size _ rfl⟩
end
noncomputable abbrev Sp:=List V->Hp->VK->XK->Prop
noncomputable abbrev wA:=List Env->Hp->Shared->XK->Value->Shared->Prop
structure Env0 (P:Program)(w:World)(K:Ka)(mg:Str->Option Value)(base:Heap)(A:Around)(outer:List Env)(s:Shared)(H:Hp):Prop where
 frames:A.frames=some outer
 mod:Mod K mg base
 bs: ∀b o,base.get? b=some o->s.heap.get? b=some o/\H b=none
 bsz:base.objs.size<=s.heap.objs.size
 funs:s.heap.FunFrames base outer
 frf: ∀b∈wI outer,H b=none
 hok:HOk P w H s.heap
 bare:AllBare s.gens
noncomputable def CE(outer:List Env)(P:Program)(w:World)(H:Hp)(s:Shared)(Q:VK)(u:Value)(s':Shared):Prop:=
 ∃v H',s'.os=s.os/\AllBare s'.gens/\Un (wI outer) [] H H' s.heap s'.heap/\HOk P w H' s'.heap/\RelV v u/\Q v H'
noncomputable def CR(CX:wA)(outer:List Env)(P:Program)(w:World)(H:Hp)(s:Shared)(Q:VK)(E:XK)(r:Result)(s':Shared):Prop:=
 match r with
 | .ok (.ret u)=>CE outer P w H s Q u s'
 | .ok _=>False
 | .error e=>CX outer H s E e s'
structure FnOk (P:Program)(w:World)(K:Ka)(mg:Str->Option Value)(base:Heap)(CX:wA)(k:Nat)(f:Addr)(fd:FuncData)(ps:List Str)(sp:Sp):Prop where
 len: ∀vs H Q E,sp vs H Q E->vs.length=ps.length
 run: ∀(A:Around) (outer:List Env) (s:Shared) (H:Hp) (args:Args) (us:List Value) (vs:List V) (Q:VK) (E:XK),Room k A->Env0 P w K mg base A outer s H->BindsTo s fd args (ps.zip us)->Vals vs us->sp vs H Q E->
  codeAny (model P w) A (.call (.ref f) args) (CR CX outer P w H s Q E) s
theorem FnOk.imp{P:Program}{w:World}{K:Ka}{mg:Str->Option Value}{base:Heap}{CX:wA}{k:Nat}{f:Addr}{fd:FuncData}{ps:List Str}{sp sp':Sp}(F:FnOk P w K mg base CX k f fd ps sp)
  (h: ∀vs H Q E,sp' vs H Q E->sp vs H Q E):FnOk P w K mg base CX k f fd ps sp':=
 ⟨fun vs H Q E q=>F.len vs H Q E (h _ _ _ _ q),fun A outer s H args us vs Q E hr he hb hv hs=>F.run A outer s H args us vs Q E hr he hb hv (h _ _ _ _ hs)⟩
section
variable {X:Cx} {pins:List (Addr×Obj)} {σ:St} {H:Hp} {s s':Shared}
theorem Inv.env0(I:Inv X pins σ H s):Env0 X.prog X.w X.K X.mg X.base X.A X.stack s H:=
 ⟨I.ok.frames,I.ok.mod,I.bs,Kg I.ok.bsz I.sz,I.stack,I.stkFree,I.hok,I.bare⟩
theorem Inv.after{Q:VK}{u:Value}(I:Inv X pins σ H s)(h:CE X.stack X.prog X.w H s Q u s'):EP X pins σ Q u s':=by
 obtain⟨v,H',os,bare,un,hok,r,q⟩:=h;obtain⟨hh,g,d,t,os'⟩:=s';obtain rfl:os'=s.os:=os;exact⟨v,H',I.call (h':=hh) (g':=g) (d':=d) (t':=t) (ch:=[]) un hok bare (fun b z=>KC z (by simp)),r,q⟩
end
noncomputable def Xj(sp:Sp)(dvs:List V)(E:XK)(t:TA):TE:=fun σ H Q=>t σ H fun vs H1=>sp (vs++dvs) H1 Q E
noncomputable def Binds(K:Ka)(fd:FuncData)(ps:List Str)(ds:List Value):Prop:=
 ∀(s:Shared) (us:List Value),K.In s.heap->(us++ds).length=ps.length->BindsTo s fd ⟨us,[]⟩ (ps.zip (us++ds))
theorem Binds.all{K:Ka}{fd:FuncData}{ps:List Str}(h: ∀us:List Value,us.length=ps.length->bindArgs fd ⟨us,[]⟩=pure (ps.zip us)):Binds K fd ps []:=fun s us _ hl=>by
 rw[List.append_nil] at hl⊢;exact .of_eq (h us hl)
noncomputable def qG(CX:wA)(X:Cx)(E:XK):Prop:=∀(pins:List (Addr×Obj)) (σ:St) (H:Hp) (s:Shared) (e:Value) (s':Shared),Inv X pins σ H s->CX X.stack H s E e s'->X.xe e s'
section
variable {X:Cx} {CX:wA} {k:Nat} {f C:Addr} {fd:FuncData} {ps:List Str} {sp:Sp} {dvs:List V} {ds:List Value} {E:XK} {x m:Str} {p pos apos:Pos} {e o:Expr} {es:List Expr} {ta:TE} {t:TA}
theorem zhM{pins:List (Addr×Obj)}{σ:St}{H:Hp}{s:Shared}{Q:VK}{us:List Value}{vs:List V}(F:FnOk X.prog X.w X.K X.mg X.base CX k f fd ps sp)(hr:Room k X.A)(hb:Binds X.K fd ps ds)(hd:Vals dvs ds)(hx:qG CX X E)
  (I:Inv X pins σ H s) (r:Vals vs us) (h:sp (vs++dvs) H Q E):wpAny (model X.prog X.w) X.A (call (.ref f) us) (EP X pins σ Q) X.xe s:=by
 have r2:Vals (vs++dvs) (us++ds):=r.append hd;have hl:(us++ds).length=ps.length:=by rw[<-r2.length];exact F.len _ _ _ _ h
 refine wpAny_call (codeAny_mono (F.run X.A X.stack s H ⟨us,[]⟩ (us++ds) (vs++dvs) Q E hr I.env0 (hb s us I.kIn hl) r2 h) fun r s' hq=>?_)
 cases r with
 |error e=>exact hx pins σ H s e s' I hq
 |ok fl=>
  cases fl with
  |ret u=>exact I.after hq
  |next=>exact False.elim hq
  |brk=>exact False.elim hq
  |cont=>exact False.elim hq
theorem ZP(F:FnOk X.prog X.w X.K X.mg X.base CX k f fd ps sp)(hr:Room k X.A)(hg:Gl X x)(hm:X.mg x=some (.ref f))(hk:PySem.W.keepIn X.K (.ref f)=true)(hb:Binds X.K fd ps ds)(hd:Vals dvs ds)(hx:qG CX X E)
  (ha:PA X (e::es) t) (hdb:(x==("__debug__":Str))=false:=by decide) (he:starEach (e::es) X.env=(false,eval e X.env)::starEach es X.env:=by rfl) (hpl:(backTo pos (starEach es X.env)).any (·.1)=false:=by rfl):
  PE X (.Call (.Name x p) (e::es) [] pos) (Xj sp dvs E t):=by
 intro pins s σ H Q I h;refine wpAny_Call_Name_kw (zbS I hg hm ?_ hdb);refine PySem.W.callWith_K (h₀:=X.base) I.ok.mod.kin hk (zt (ha pos pins s σ H _ I h) fun us s1 ⟨vs,H1,I1,r,q⟩=>⟨I1.kIn,?_⟩) he hpl;exact zhM F hr hb hd hx I1 r q
end
structure FnScope (N P:List Str)(sc:Scope):Prop where
 kind:sc.kind= .function
 co:sc.isCoroutine=false
 gen:sc.isGenerator=false
 nd:N.Nodup
 pre:N.take P.length=P
 par: ∀x∈P,sc.names.lookup x=some .local\/sc.names.lookup x=some .cell
 nofree: ∀y∈sc.names,y.2≠ .free
theorem zb6{kindOf:Str->Option NameKind}{x:Str}: ∀{binds:List (Str×Value)} {m:Str->Option Value},(∀v,(x,v)∉binds)->bindL kindOf binds m x=m x
 |[],_,_=>rfl
 |(n,v)::r,m,h=>by
  unfold bindL;rw[zb6 fun w hw=>h w (Kf _ hw)];split
  ·have:x≠n:=by rintro rfl;exact h v Ke
   simp[this]
  ·rfl
theorem zb7{kindOf:Str->Option NameKind}{x:Str}: ∀{binds:List (Str×Value)} {m:Str->Option Value},(∀v,(x,v)∉binds)->bindC kindOf binds m x=m x
 |[],_,_=>rfl
 |(n,v)::r,m,h=>by
  unfold bindC;rw[zb7 fun w hw=>h w (Kf _ hw)];split
  ·rfl
  ·have:x≠n:=by rintro rfl;exact h v Ke
   simp[this]
theorem zb8{kindOf:Str->Option NameKind}{x:Str}{v:Value}: ∀{P:List Str} {vs:List Value} {i:Nat} {m:Str->Option Value},P.Nodup->P[i]? =some x->vs[i]? =some v->kindOf x=some .local->
  bindL kindOf (P.zip vs) m x=some v
 |[],_,_,_,_,h,_,_=>by simp at h
 |_::_,[],_,_,_,_,h,_=>by simp at h
 |p::P,w::vs,0,m,nd,h1,h2,hk=>by
  simp at h1 h2;subst h1;subst h2;show bindL kindOf ((p,w)::P.zip vs) m p=_;unfold bindL;rw[zb6 fun v hv=>(List.nodup_cons.mp nd).1 (List.of_mem_zip hv).1,if_pos hk];simp
 |p::P,w::vs,i+1,m,nd,h1,h2,hk=>by
  show bindL kindOf ((p,w)::P.zip vs) m x=_;unfold bindL;exact zb8 (i:=i) (List.nodup_cons.mp nd).2 (by simpa using h1) (by simpa using h2) hk
theorem zb9{kindOf:Str->Option NameKind}{x:Str}{v:Value}: ∀{P:List Str} {vs:List Value} {i:Nat} {m:Str->Option Value},P.Nodup->P[i]? =some x->vs[i]? =some v->kindOf x≠some .local->
  bindC kindOf (P.zip vs) m x=some v
 |[],_,_,_,_,h,_,_=>by simp at h
 |_::_,[],_,_,_,_,h,_=>by simp at h
 |p::P,w::vs,0,m,nd,h1,h2,hk=>by
  simp at h1 h2;subst h1;subst h2;show bindC kindOf ((p,w)::P.zip vs) m p=_;unfold bindC;rw[zb7 fun v hv=>(List.nodup_cons.mp nd).1 (List.of_mem_zip hv).1,if_neg hk];simp
 |p::P,w::vs,i+1,m,nd,h1,h2,hk=>by
  show bindC kindOf ((p,w)::P.zip vs) m x=_;unfold bindC;exact zb9 (i:=i) (List.nodup_cons.mp nd).2 (by simpa using h1) (by simpa using h2) hk
noncomputable def xM(N:List Str)(vs:List V):St:=vs.map some++List.replicate (N.length-vs.length) none
noncomputable def vy(CX:wA)(P:Program)(w:World)(K:Ka)(mg:Str->Option Value)(base:Heap)(N:List Str)(qual:Str)(scope:Scope)(f:Addr)(cd:Value)(A:Around)(outer:List Env)(s:Shared)(H:Hp)(E:XK):Cx where
 prog:=P
 w:=w
 K:=K
 mg:=mg
 base:=base
 A:=A.deeper (envOfC qual scope s.heap.objs.size f cd)
 N:=N
 s₀:=s
 H₀:=H
 env:=envOfC qual scope s.heap.objs.size f cd
 outer:=outer
 stack:=envOfC qual scope s.heap.objs.size f cd::outer
 ex:=[]
 calm:=true
 fn:=fun _=>true
 pn:=[]
 xe:=fun e s'=>wpAny (model P w) (A.deeper (envOfC qual scope s.heap.objs.size f cd)) (leaving (envOfC qual scope s.heap.objs.size f cd) e) (fun _ s''=>CX outer H s E e s'') (fun e' s''=>CX outer H s E e' s'') s'
theorem zca{sc:Scope}{n:Nat}{x:Str}(h:sc.names.lookup x=some .cell): ∃c,(cellsFrom n sc.names []).lookup x=some c:=by
 have q:=PySem.W.cellsFrom_some sc.names n [] (.inl h);exact Option.isSome_iff_exists.mp q
theorem zhN{CX:wA}{P:Program}{w:World}{K:Ka}{mg:Str->Option Value}{base:Heap}{N ps:List Str}{qual:Str}{scope:Scope}{f:Addr}{cd:Value}{A:Around}{outer:List Env}{s s1:Shared}{H:Hp}{E:XK}{us:List Value}{vs:List V}
  (S:FnScope N ps scope) (hd:A.handled=none) (e0:Env0 P w K mg base A outer s H) (hl:vs.length=ps.length) (r:Vals vs us)
  (x:InCallC s s.heap.objs.size (bindL (envOfC qual scope s.heap.objs.size f cd).kindOf (ps.zip us) fun _=>none) (cellsFrom (s.heap.objs.size+1) scope.names []) (bindC (envOfC qual scope s.heap.objs.size f cd).kindOf (ps.zip us) fun _=>none) s1):
  Inv (vy CX P w K mg base N qual scope f cd A outer s H E) [] (xM N vs) H s1:=by
 have hpl:ps.length<=N.length:=by have:=congrArg List.length S.pre;rw[List.length_take] at this;omega
 obtain⟨h1,tk,rfl,hk⟩:=x.done;have noA: ∀b:Addr,b∉(vy CX P w K mg base N qual scope f cd A outer s H E).ex:=fun b z=>KC (show b∈([]:List Addr) from z) (by simp)
 refine⟨⟨e0.mod,S.kind,rfl,rfl,Nat.le_refl _,fun y z c h1 h2=>?_,fun y hy=>?_,fun y c _ h=>?_,fun _=>hd,Around.frames_deeper e0.frames,.inr ⟨rfl,rfl⟩,fun b z=>KC z (noA b),e0.bs,e0.bsz,fun b _ _=>noA b,fun b z=>KC z (noA b),e0.funs,e0.frf⟩,
  rfl,e0.bare,Un.kept hk,⟨_,x.toInCall.ns,fun i y v h1 h2 h3=>?_⟩,fun y c h=>⟨_,x.cell y c h⟩,e0.hok.fresh (Nat.le_refl _),fun y c h=>?_,fun p hp=>KC (show p∈([]:List (Addr×Obj)) from hp) (by simp),e0.hok.kept hk,?_⟩
 ·exact name_of_addr x.apart (PySem.mem_of_lookup h1) (PySem.mem_of_lookup h2)
 ·have hy:scope.names.lookup y=some .cell\/scope.names.lookup y=some .free:=hy
  rcases hy with hy|hy
  ·exact zca hy
  ·exact KC rfl (S.nofree _ (PySem.mem_of_lookup hy))
 ·exact Nat.le_of_lt (x.above y c (PySem.mem_of_lookup h))
 ·have hi:i<vs.length:=by
   unfold xM at h2;by_cases hi:i<vs.length
   ·exact hi
   ·rw[List.getElem?_append_right (by simpa using hi)] at h2
    rw[List.getElem?_replicate] at h2;split at h2<;>cases h2
  have ha:vs[i]? =some v:=by
   unfold xM at h2;rw[List.getElem?_append_left (by simpa using hi),List.getElem?_map] at h2
   cases e:vs[i]? with
   |none=>rw[e] at h2;cases h2
   |some a=>rw[e] at h2;cases h2;rfl
  obtain⟨u,hu,rv⟩:=r.get ha
  have hp:ps[i]? =some y:=by
   rw[<-S.pre,List.getElem?_take_of_lt (by omega)];exact h1
  have ndP:ps.Nodup:=by rw[<-S.pre];exact S.nd.sublist (List.take_sublist _ _)
  refine⟨u,rv,?_⟩;rcases S.par y (Kz hp) with k|k
  ·exact .inl ⟨k,zb8 ndP hp hu k⟩
  ·obtain⟨c,e⟩:=zca (n:=s.heap.objs.size+1) k
   refine .inr ⟨.inl k,c,e,?_⟩;have q:=x.cell y c e;rw[zb9 ndP hp hu (by show scope.names.lookup y≠_;rw[k];decide)] at q;exact q
 ·exact e0.hok.fresh (Nat.le_of_lt (x.above y c (PySem.mem_of_lookup h)))
 ·unfold xM
  show _=N.length;rw[List.length_append,List.length_map,List.length_replicate];omega
theorem zhO{CX:wA}{P:Program}{w:World}{K:Ka}{mg:Str->Option Value}{base:Heap}{k:Nat}{f:Addr}{name qual:Str}{params:Arguments}{body:List Stmt}{scope:Scope}{dV kV doc pm cdv ct oc:Value}{an od:Option Addr}
  {osl:Array (Option Value)} {N ps:List Str} {sp:Sp} (lk:K.lookup f=some ⟨oc,od,.func (PySem.W.fnOf name qual params body scope dV kV doc pm an cdv ct),osl⟩) (hcd:PySem.W.codeIn K cdv qual=true) (S:FnScope N ps scope)
  (len: ∀vs H Q E,sp vs H Q E->vs.length=ps.length)
  (hbody: ∀(A:Around) (outer:List Env) (s:Shared) (H:Hp) (vs:List V) (Q:VK) (E:XK),Room k (A.deeper (envOfC qual scope s.heap.objs.size f cdv))->sp vs H Q E->
   ∃t,PSs (vy CX P w K mg base N qual scope f cdv A outer s H E) body t/\t { nx:=fun _ H'=>Q .non H',rt:=Q } (xM N vs) H):
  FnOk P w K mg base CX (k+1) f (PySem.W.fnOf name qual params body scope dV kV doc pm an cdv ct) ps sp:=by
 refine⟨len,fun A outer s H args us vs Q E hr e0 hb r hsp=>?_⟩;have hl:=len _ _ _ _ hsp;have KX:K.In s.heap:=e0.mod.kin.keeps fun b o e=>(e0.bs b o e).1
 have lim:s.heap.NoLimit:=e0.mod.nolimit.keeps fun b o e=>(e0.bs b o e).1
 have hkind: ∀y∈ps.zip us,scope.names.lookup y.1=some .local\/(scope.names.lookup y.1=some .cell/\((cellsFrom (s.heap.objs.size+1) scope.names []).lookup y.1).isSome=true):=fun ⟨n,v⟩ hy=>by
  rcases S.par n (List.of_mem_zip hy).1 with q|q
  ·exact .inl q
  ·exact .inr ⟨q,PySem.W.cellsFrom_some _ _ _ (.inl q)⟩
 refine codeAny_call_function hr.depth (KX _ _ lk) rfl S.co S.gen rfl (PySem.W.codeRec_of KX hcd) (hb _ _ _ _ ?_);refine wpAny_newFunctionEnv_cells S.kind hkind fun env he s1 x=>?_
 subst he;refine⟨lim.keeps x.toInCall.keep,codeAny_func ?_⟩;obtain⟨t,ht,hq⟩:=hbody A outer s H vs Q E (hr.deeper _) hsp;have I:Inv (vy CX P w K mg base N qual scope f cdv A outer s H E) [] (xM N vs) H s1:=zhN S hr.hd e0 hl r x;refine Kd (ht [] s1 (xM N vs) H _ I hq) (fun fl s' hs=>?_) fun e s' hs=>hs
 have fin: ∀{σ':St} {H':Hp} {v:V} {u:Value},Inv (vy CX P w K mg base N qual scope f cdv A outer s H E) [] σ' H' s'->RelV v u->Q v H'->CE outer P w H s Q u s':=
  fun {σ' H' v u} J rv q=>⟨v,H',J.os,J.bare,J.base,J.hok,rv,q⟩
 cases fl with
 |ret u=>
  obtain⟨v,σ',H',J,rv,q⟩:=hs;exact fin J rv q
 |next=>
  obtain⟨σ',H',J,q⟩:=hs;exact fin (v:=V.non) (u:=Value.none) J rfl q
 |brk=>
  obtain⟨_,_,_,q⟩:=hs;exact False.elim q
 |cont=>
  obtain⟨_,_,_,q⟩:=hs;exact False.elim q
end L2
namespace L2
open PySem PySem.Spec PyProof.Rows
section
variable {X:Cx} {x:Str} {p pos:Pos} {e:Expr} {es:List Expr} {t:TA} {id T:String} {r:List V->Hp->VK->Prop}
noncomputable def JT(r:List V->Hp->VK->Prop)(t:TA):TE:=fun σ H Q=>t σ H fun vs H1=>r vs H1 Q
theorem qH(hc:xk X (.builtin id) r)(hg:Gl X x)(hm:X.mg x=none)(hv:bootBuiltins x=some (.builtin id))(ha:PA X (e::es) t)(hn:x≠"__name__":=by decide)(hdb:(x==("__debug__":Str))=false:=by decide)
  (he:starEach (e::es) X.env=(false,eval e X.env)::starEach es X.env:=by rfl) (hpl:(backTo pos (starEach es X.env)).any (·.1)=false:=by rfl):PE X (.Call (.Name x p) (e::es) [] pos) (JT r t):=by
 intro pins s σ H Q I h;refine wpAny_Call_Name_kw (Zd I hg hm hv ?_ hn hdb);exact PyProof.Rows.callWith_builtin1 (zt (ha pos pins s σ H _ I h) fun us s1 ⟨vs,H1,I1,r1,q1⟩=>hc pins s1 σ H1 vs us Q I1 r1 q1) he hpl
theorem zcb(hc:xk X (.type T) r)(hg:Gl X x)(hm:X.mg x=none)(hv:bootBuiltins x=some (.type T))(ha:PA X (e::es) t)(hn:x≠"__name__":=by decide)(hdb:(x==("__debug__":Str))=false:=by decide)
  (he:starEach (e::es) X.env=(false,eval e X.env)::starEach es X.env:=by rfl) (hpl:(backTo pos (starEach es X.env)).any (·.1)=false:=by rfl):PE X (.Call (.Name x p) (e::es) [] pos) (JT r t):=by
 intro pins s σ H Q I h;refine wpAny_Call_Name_kw (Zd I hg hm hv ?_ hn hdb);exact PyProof.Rows.callWith_type1 (zt (ha pos pins s σ H _ I h) fun us s1 ⟨vs,H1,I1,r1,q1⟩=>hc pins s1 σ H1 vs us Q I1 r1 q1) he hpl
end
end L2
namespace HT
open PySem PyProof.Rows
noncomputable def lexLt:List Int->List Int->Bool
 |[],[]=>false
 |[],_::_=>true
 |_::_,[]=>false
 |x::xs,y::ys=>if x=y then lexLt xs ys else decide (x<y)
theorem lexLt_cons(x y:Int)(xs ys:List Int):lexLt (x::xs) (y::ys)=if x=y then lexLt xs ys else decide (x<y):=rfl
theorem zcc:lexLt [] []=false:=rfl
theorem zcd(y:Int)(ys:List Int):lexLt [] (y::ys)=true:=rfl
theorem zce(x:Int)(xs:List Int):lexLt (x::xs) []=false:=rfl
theorem zcf(A:Around)(s:Shared)(a:Int)(t:Tok)(c:Int)(u:Tok): ∃e,SeqAt.EqAt A s (.int a t) (.int c u) e/\(e=true↔a=c):=
 ⟨(a==c),SeqAt.EqAt.int_int a t c u,by simp⟩
theorem zhP(A:Around)(s:Shared)(a:Int)(t:Tok)(c:Int)(u:Tok)(prog:Program)(w:World)(E:Value->Shared->Prop)(Q:Value->Shared->Prop)(h:Q (.bool (decide (a<c))) s):
  wpAny (model prog w) A (richCompare .Lt (.int a t) (.int c u)) Q E s:=
 (PyProof.Rows.lt_int h:wpAny (model prog w) A (compareOp .Lt (.int a t) (.int c u)) Q E s)
section
open PySem.SeqAt
open PySem.AutoSeq1 (wpAny_loadPart')
open PySem.MeetsSeq PySem.MeetsSeq2 PySem.MeetsSeq3
theorem zhQ(l b:Addr)(items items2:Array Value)(n n2:Nat)(dd dd2:Option Addr)(sl sl2:Array (Option Value))(ns ms:List Int)(hi:IntsAre items.toList ns)(hj:IntsAre items2.toList ms):
  Meets (Builtin.«tuple.__lt__» ⟨[.ref l,.ref b],[]⟩)
   (fun _ R s=>s.heap.get? l=some { cls:=.type "tuple",dict:=dd,data:=.seq items n,slots:=sl }/\s.heap.get? b=some { cls:=.type "tuple",dict:=dd2,data:=.seq items2 n2,slots:=sl2 }/\
    R (.ok (.ret (.bool (lexLt ns ms)))) s):=
 .of_wp fun prog w A R s h=>by
  obtain⟨hp,g,d,tk,os⟩:=s;obtain⟨hl,hb,h⟩:=h;have f2:=AutoSeq1.sub_tuple_tuple;have z1:items.size=ns.length:=by rw[<-hi.length];simp
  have z2:items2.size=ms.length:=by rw[<-hj.length];simp
  wp_walk using wpAny_loadPart' hl,wpAny_loadPart' hb,wpAny_forIn_list _ (fun zO b s'=>b.1=none/\s'=⟨hp,g,d,tk,os⟩/\∃(vs ws:List Value) (ns' ms':List Int),zO=vs.zip ws/\
   IntsAre vs ns'/\IntsAre ws ms'/\ns'.length+items2.size=ms'.length+items.size/\R (.ok (.ret (.bool (lexLt ns' ms')))) ⟨hp,g,d,tk,os⟩) _
  case turn=>
   rintro⟨y,x⟩ zO b s' ⟨hb',rfl,vs,ws,ns',ms',hz,hvi,hwi,hlen,hR⟩
   cases hvi with
   |nil=>rw[List.zip_nil_left] at hz;cases hz
   |cons a t hvi'=>
    cases hwi with
    |nil=>rw[List.zip_nil_right] at hz;cases hz
    |cons c u hwi'=>
     rw[List.zip_cons_cons] at hz;injection hz with hyx hrest;injection hyx with hy hx;subst hy hx;rw[lexLt_cons] at hR;simp only[List.length_cons] at hlen;obtain⟨e,he,hiff⟩:=zcf A.in1 ⟨hp,g,d,tk,os⟩ a t c u;refine Kb (he prog w _ _ ?_)
     cases e with
     |true=>
      rw[if_pos (hiff.mp rfl)] at hR
      wp_walk
      exact⟨rfl,rfl,_,_,_,_,hrest,hvi',hwi',by omega,hR⟩
     |false=>
      rw[if_neg (fun q=>KC (hiff.mpr q) Km)] at hR;have hri:=zhP A.in1 ⟨hp,g,d,tk,os⟩ a t c u prog w
      wp_walk using hri
      exact⟨_,rfl,by simpa using hR⟩
  case fin=>
   rintro⟨b1,b2⟩ s' ⟨hb',rfl,vs,ws,ns',ms',hz,hvi,hwi,hlen,hR⟩;simp only at hb';subst hb'
   have hv:lexLt ns' ms'=decide (items.size<items2.size):=by
    cases hvi with
    |nil=>
     cases hwi with
     |nil=>
      simp only[List.length_nil] at hlen;rw[zcc];exact (KG (by omega)).symm
     |cons c u hw=>
      simp only[List.length_nil,List.length_cons] at hlen;rw[zcd];exact (decide_eq_true (by omega)).symm
    |cons a t hv=>
     cases hwi with
     |nil=>
      simp only[List.length_nil,List.length_cons] at hlen;rw[zce];exact (KG (by omega)).symm
     |cons c u hw=>
      rw[List.zip_cons_cons] at hz;cases hz
   rw[hv] at hR
   wp_walk
   exact⟨_,rfl,by simpa [Builtin.Tuple.tupleCompareSizes] using hR⟩
  case h=>
   exact⟨rfl,rfl,items.toList,items2.toList,ns,ms,rfl,hi,hj,by omega,h⟩
end
section
variable {prog:Program} {w:World} {A:Around} {E:Value->Shared->Prop} {s:Shared}
theorem lt_tupInts{l b:Addr}{items items2:Array Value}{ns ms:List Int}{Q:Value->Shared->Prop}(hl:IsTup s.heap l items)(hb:IsTup s.heap b items2)(hi:IntsAre items.toList ns)(hj:IntsAre items2.toList ms)
  (hu:A.units<cLine) (h:Q (.bool (lexLt ns ms)) s):wpAny (model prog w) A (compareOp .Lt (.ref l) (.ref b)) Q E s:=by
 obtain⟨⟨cls,dd,data,sl⟩,ho,hc,n,hd⟩:=id hl;obtain⟨⟨cls2,dd2,data2,sl2⟩,ho2,hc2,n2,hd2⟩:=id hb;simp only at hc hd hc2 hd2;subst hc hd hc2 hd2
 exact richCompare_meets_room (op:=.Lt) ⟨_,ho,rfl⟩ ⟨_,ho2,rfl⟩ PySem.F.slot_tuple_lt PySem.F.entry_tuple_lt (PySem.F.args_tuple_lt_2 _ _) (zhQ l b items items2 n n2 dd dd2 sl sl2 ns ms hi hj)
  ⟨ho,ho2,show Value.bool (lexLt ns ms)≠Value.notImplemented/\Q (.bool (lexLt ns ms)) s from ⟨(fun x=>nomatch x),h⟩⟩ hu
noncomputable def sIx(n d:Nat):Option Int->Nat
 |none=>d
 |some v=>if v<0 then (v+(n:Int)).toNat else min v.toNat n
theorem sIx_none(n d:Nat):sIx n d none=d:=rfl
theorem sIx_nat(n d k:Nat):sIx n d (some (k:Int))=min k n:=by
 show (if (k:Int)<0 then ((k:Int)+(n:Int)).toNat else min (k:Int).toNat n)=min k n;rw[if_neg (by omega),Int.toNat_natCast]
end
end HT
namespace L2
open PySem PySem.Spec PyProof.Rows
noncomputable abbrev TO:=St->Hp->(Option Int->Hp->Prop)->Prop
noncomputable def PO(X:Cx)(e:Option Expr)(t:TO):Prop:=
 ∀(pins:List (Addr×Obj)) (s:Shared) (σ:St) (H:Hp) (Q:Option Int->Hp->Prop),Inv X pins σ H s->t σ H Q->
  wpAny (model X.prog X.w) X.A (evalPart e X.env) (fun u s'=>∃o H',Inv X pins σ H' s'/\IsPart u o/\Q o H') X.xe s
noncomputable def zhR:TO:=fun _ H Q=>Q none H
noncomputable def zhS(t:TE):TO:=fun σ H Q=>t σ H fun x H1=>∃i,x= .int i/\Q (some i) H1
theorem vZ{ns:List Int}: ∀{us:List Value},Vals (ns.map V.int) us->IntsAre us ns:=by
 induction ns with
 |nil=>intro us r;rw[List.map_nil] at r;cases r;exact .nil
 |cons n ns ih=>
  intro us r;rw[List.map_cons] at r
  cases r with
  |cons r1 r2=>
   obtain⟨t,e⟩:=r1;subst e;exact .cons n t (ih r2)
section
variable {X:Cx} {e:Expr} {te:TE} {lo hi:Option Expr} {tl th:TO} {pos p2:Pos}
theorem zhT:PO X none zhR:=by
 intro pins s σ H Q I h;rw[evalPart_none];exact Kc ⟨none,H,I,.none,h⟩
theorem zhU(h:PE X e te):PO X (some e) (zhS te):=by
 intro pins s σ H Q I hw;rw[evalPart_some];refine zt (h pins s σ H _ I hw) fun u s1 ⟨x,H1,I1,r1,q1⟩=>?_
 obtain⟨i,rfl,q⟩:=q1;obtain⟨t,rfl⟩:=r1;exact⟨some i,H1,I1,.int i t,q⟩
noncomputable def zcg(X:Cx)(r:V->Option Int->Option Int->Hp->VK->Prop):Prop:=
 ∀(pins:List (Addr×Obj)) (s:Shared) (σ:St) (H:Hp) (x:V) (v vl vu:Value) (lo hi:Option Int) (sl:Addr) (Q:VK),Inv X pins σ H s->RelV x v->s.heap.IsSliceOf sl vl vu .none->IsPart vl lo->IsPart vu hi->r x lo hi H Q->
  ∃T id,typeLookup (.type T) "__getitem__"=pure (some (.builtin id))/\s.TypeIs v T/\wpAny (model X.prog X.w) X.A (getItem v (.ref sl)) (EP X pins σ Q) X.xe s
noncomputable def zhV(r:V->Option Int->Option Int->Hp->VK->Prop)(te:TE)(tl th:TO):TE:=fun σ H Q=>te σ H fun x H1=>tl σ H1 fun l H2=>th σ H2 fun u H3=>r x l u H3 Q
theorem zhW{r:V->Option Int->Option Int->Hp->VK->Prop}(hr:zcg X r)(he:PE X e te)(hl:PO X lo tl)(hu:PO X hi th):PE X (.Subscript e (.Slice lo hi none p2) pos) (zhV r te tl th):=by
 intro pins s σ H Q I h;refine Subscript_ (zt (he pins s σ H _ I h) fun v s1 ⟨x,H1,I1,r1,q1⟩=>?_);refine wpAny_Slice (zt (hl pins s1 σ H1 _ I1 q1) fun vl s2 ⟨l,H2,I2,pl,q2⟩=>zt (hu pins s2 σ H2 _ I2 q2) fun vu s3 ⟨u,H3,I3,pu,q3⟩=>?_);rw[evalPart_none];refine Kc ?_;have I4:Inv X pins σ H3 { s3 with heap:=s3.heap.push { cls:=.type "slice",data:=.fields #[vl,vu,.none] } }:=I3.kept (t':=s3.toks) fun b ob q=>Kl _ q
 obtain⟨T,id,hT,ht,hg⟩:=hr pins { s3 with heap:=s3.heap.push { cls:=.type "slice",data:=.fields #[vl,vu,.none] } } σ H3 x v vl vu l u s3.heap.objs.size Q I4 r1 (Heap.IsSliceOf.new ..) pl pu q3;show wpAny (model X.prog X.w) X.A (subscriptTail e (.Slice lo hi none p2) v (.ref s3.heap.objs.size)) (EP X pins σ Q) X.xe { s3 with heap:=s3.heap.push { cls:=.type "slice",data:=.fields #[vl,vu,.none] } };exact tail_any (ops:=[.ref s3.heap.objs.size,v]) ht hT hg (by with_unfolding_all rfl)
noncomputable def ZQ(xs:List V)(lo hi:Option Int):List V:=(xs.drop (HT.sIx xs.length 0 lo)).take (HT.sIx xs.length xs.length hi-HT.sIx xs.length 0 lo)
theorem zhX(xs:List V)(lo hi:Option Int):(ZQ xs lo hi).length<=xs.length:=by
 unfold ZQ;rw[List.length_take,List.length_drop];omega
noncomputable def zhY(K:Ka):R2:=fun x y H Q=>∃a b ns ms,x= .ref a/\y= .ref b/\SqT K H a (ns.map V.int)/\SqT K H b (ms.map V.int)/\Q (.bl (HT.lexLt ns ms)) H
theorem zhZ(hu:X.A.units<cLine):zZ X (compareOp .Lt) (zhY X.K):=by
 intro pins s σ H x y v u Q I rx ry h;obtain⟨a,b,ns,ms,rfl,rfl,ha,hb,q⟩:=h;cases rx;cases ry;obtain⟨its,r1,p1,_⟩:=I.tuple ha;obtain⟨its2,r2,p2,_⟩:=I.tuple hb;have i1:IntsAre its.toArray.toList ns:=vZ r1;have i2:IntsAre its2.toArray.toList ms:=vZ r2;exact HT.lt_tupInts p1 p2 i1 i2 hu ⟨.bl (HT.lexLt ns ms),H,I,rfl,q⟩
end
end L2
namespace L2
open PySem PySem.Spec PyProof.Rows
noncomputable def ixN(n:Nat)(i:Int):Option Nat:=if 0<=i then (if i<n then some i.toNat else none) else if -(n:Int)<=i then some (i+n).toNat else none
noncomputable def atI{α:Type}(xs:List α)(i:Int):Option α:=(ixN xs.length i).bind fun j=>xs[j]?
theorem zh0{n:Nat}{i:Int}{j:Nat}(h:ixN n i=some j):seqIndex? i n=some j/\j<n/\ -(n:Int)<=i/\i<n:=by
 unfold ixN at h;by_cases h0:0<=i
 ·rw[if_pos h0] at h
  by_cases h1:i<n
  ·rw[if_pos h1] at h
   have e:i.toNat=j:=Kn h;exact⟨by rw[seqIndex_of h0 h1,e],by omega,by omega,h1⟩
  ·rw[if_neg h1] at h;cases h
 ·rw[if_neg h0] at h
  by_cases h1: -(n:Int)<=i
  ·rw[if_pos h1] at h
   have e:(i+n).toNat=j:=Kn h;exact⟨by rw[seqIndex_neg (by omega) h1,e],by omega,h1,by omega⟩
  ·rw[if_neg h1] at h;cases h
theorem zch{α:Type}{xs:List α}{i:Int}{v:α}(h:atI xs i=some v): ∃j,seqIndex? i xs.length=some j/\xs[j]? =some v/\j<xs.length/\ -(xs.length:Int)<=i/\i<xs.length:=by
 unfold atI at h
 cases e:ixN xs.length i with
 |none=>rw[e] at h;cases h
 |some j=>
  rw[e] at h;obtain⟨h1,h2,h3,h4⟩:=zh0 e;exact⟨j,h1,h,h2,h3,h4⟩
theorem atI_nat{α:Type}{xs:List α}{j:Nat}{v:α}(h:xs[j]? =some v):atI xs (j:Int)=some v:=by
 have hj:j<xs.length:=(List.getElem?_eq_some_iff.mp h).1
 have e:ixN xs.length (j:Int)=some j:=by
  unfold ixN;rw[if_pos (by omega),if_pos (by omega)];simp
 unfold atI;rw[e];exact h
noncomputable def zci(b:Expr):Prop:=∀o i,subscripted b false o i=operate [o,i] (getItem o i)
noncomputable def JU(X:Cx)(r:R2):Prop:=
 ∀(value slice:Expr) (pins:List (Addr×Obj)) (s:Shared) (σ:St) (H:Hp) (x y:V) (v u:Value) (Q:VK),Inv X pins σ H s->RelV x v->RelV y u->r x y H Q->
  subscripted slice false v u=operate [v,u] (getItem v u)->wpAny (model X.prog X.w) X.A (subscriptTail value slice v u) (EP X pins σ Q) X.xe s
noncomputable def Xk(X:Cx)(id:String)(r:V->List V->Hp->VK->Prop):Prop:=
 ∀(pins:List (Addr×Obj)) (s:Shared) (σ:St) (H:Hp) (x:V) (xs:List V) (v:Value) (us:List Value) (Q:VK),Inv X pins σ H s->RelV x v->Vals xs us->r x xs H Q->
  wpAny (model X.prog X.w) X.A (call (.builtin id) (v::us)) (EP X pins σ Q) X.xe s
section
variable {X:Cx} {a b:Expr} {ta tb:TE} {pos:Pos}
theorem zh1{r:R2}(hr:JU X r)(ha:PE X a ta)(hb:PE X b tb)(hs:zci b):PE X (.Subscript a b pos) (Xh r ta tb):=by
 intro pins s σ H Q I h;exact Subscript_ (qz ha hb I h fun v u s2 x y H2 I2 rx ry q=>hr a b pins s2 σ H2 x y v u Q I2 rx ry q (hs _ _))
noncomputable def zh2(K:Ka):R2:=fun x y H Q=>∃p xs i v,x= .ref p/\y= .int i/\SqL K H p xs/\atI xs i=some v/\Q v H
noncomputable def zh3(K:Ka):R2:=fun x y H Q=>∃p xs i v,x= .ref p/\y= .int i/\SqT K H p xs/\atI xs i=some v/\Q v H
theorem zh4:JU X (zh2 X.K):=by
 intro value slice pins s σ H x y v u Q I rx ry h hs;obtain⟨p,xs,i,z,rfl,rfl,hq,he,q⟩:=h;cases rx;obtain⟨t,rfl⟩:=ry;obtain⟨its,r,pl,hz⟩:=I.list hq;obtain⟨j,h1,h2,h3,h4,h5⟩:=zch he;obtain⟨w,ew,rw'⟩:=r.get h2;have hl:=r.length;have hn:=JS;have fin:EP X pins σ Q w s:=⟨z,H,I,rw',q⟩;by_cases h0:0<=i
 ·have hj:i.toNat=j:=by
   rw[seqIndex_of h0 h5] at h1;exact Kn h1
  exact item_listR pl.isList h0 (by omega) (by rw[hj];simpa using ew) fin hs
 ·have hj:(i+(its.toArray.size:Int)).toNat=j:=by
   rw[seqIndex_neg (by omega) h4] at h1;rw[List.size_toArray,<-hl];exact Kn h1
  exact subscriptTail_builtinR (x:=w) pl.isList.typeIs slot_list_getitem.lookup
   (wpAny_getItem_list_neg (Q:=fun r s'=>r=w/\EP X pins σ Q r s') pl.isList (by omega) (by rw[List.size_toArray]<;>omega) (by omega) (by rw[hj];simpa using ew) ⟨rfl,fin⟩) hs
theorem zh5:JU X (zh3 X.K):=by
 intro value slice pins s σ H x y v u Q I rx ry h hs;obtain⟨p,xs,i,z,rfl,rfl,hq,he,q⟩:=h;cases rx;obtain⟨t,rfl⟩:=ry;obtain⟨its,r,pl,hz⟩:=I.tuple hq;obtain⟨j,h1,h2,h3,h4,h5⟩:=zch he;obtain⟨w,ew,rw'⟩:=r.get h2;have hl:=r.length;have hn:=JS;have fin:EP X pins σ Q w s:=⟨z,H,I,rw',q⟩
 exact subscriptTail_builtinR (x:=w) pl.typeIs slot_tuple_getitem.lookup
  (getItem_tuple (j:=j) (Q:=fun r s'=>r=w/\EP X pins σ Q r s') pl (by omega) (by omega) (by rw[List.size_toArray,<-hl];exact h1) (by simpa using ew) ⟨rfl,fin⟩) hs
theorem zh6(lo hi:Option Int)(n:Nat):(sliceBounds lo hi none n).1=((HT.sIx n 0 lo:Nat):Int)/\(sliceBounds lo hi none n).2.1=((HT.sIx n n hi:Nat):Int)/\(sliceBounds lo hi none n).2.2=1:=by
 refine⟨?_,?_,rfl⟩
 ·cases lo with
  |none=>simp[sliceBounds,HT.sIx]
  |some i=>
   simp only[sliceBounds,HT.sIx,Option.getD_none,show (1:Int)>0 by decide,if_true];by_cases h:i<0
   ·simp only[h,if_true]<;>omega
   ·simp only[h,if_false]<;>omega
 ·cases hi with
  |none=>simp[sliceBounds,HT.sIx]
  |some i=>
   simp only[sliceBounds,HT.sIx,Option.getD_none,show (1:Int)>0 by decide,if_true];by_cases h:i<0
   ·simp only[h,if_true]<;>omega
   ·simp only[h,if_false]<;>omega
theorem zh7(its:List Value)(lo hi:Option Int):slicePick its.toArray lo hi none=((its.drop (HT.sIx its.length 0 lo)).take (HT.sIx its.length its.length hi-HT.sIx its.length 0 lo)).toArray:=by
 obtain⟨h1,h2,h3⟩:=zh6 lo hi its.toArray.size;unfold slicePick;rw[h1,h2,h3];simp only[sliceRange_one,pick_run,List.size_toArray]<;>rfl
noncomputable def zh8(K:Ka):V->Option Int->Option Int->Hp->VK->Prop:=fun x lo hi H Q=>∃a xs,x= .ref a/\SqL K H a xs/\∀p,H p=none->Q (.ref p) (zu H p (.lst (ZQ xs lo hi)))
theorem zh9:zcg X (zh8 X.K):=by
 intro pins s σ H x v vl vu lo hi sl Q I rx hs pl pu h;obtain⟨a,xs,rfl,hx,q⟩:=h;cases rx;obtain⟨its,r,ht,hz⟩:=I.list hx;have hlen:=r.length;refine⟨"list",_,slot_list_getitem.lookup,ht.isList.typeIs,?_⟩;refine wpAny_getItem_list_slice ht.isList hs pl pu .none (by simp) ?_ (by rw[List.size_toArray]<;>omega);rw[zh7,<-hlen];refine⟨.ref s.heap.objs.size,_,I.laid (t':=s.toks) (o:=.lst (ZQ xs lo hi)) (fun b ob q=>Kl _ q) (Nat.le_refl _) ?_,rfl,q _ (I.hok.fresh (Nat.le_refl _))⟩;exact⟨Kg (zhX xs lo hi) hz,_,0,(r.drop (HT.sIx xs.length 0 lo)).take (HT.sIx xs.length xs.length hi-HT.sIx xs.length 0 lo),Heap.get?_push_size _ rfl⟩
theorem zcj:xk X (.builtin "len") (fun xs H Q=>∃p ys,xs=[.ref p]/\(SqL X.K H p ys\/SqT X.K H p ys)/\Q (.int ys.length) H):=by
 intro pins s σ H xs us Q I r h;obtain⟨p,ys,rfl,hq,q⟩:=h;obtain⟨u,rfl,rx⟩:=wz r;cases rx;have hn:=JS;rcases hq with hq|hq
 ·obtain⟨its,r',pl,hz⟩:=I.list hq
  have hlen:=r'.length;exact Calls.call_len_list pl.isList (by simp only[List.size_toArray]<;>omega) ⟨.int ys.length,H,I.tok _,⟨s.toks+1,by rw[List.size_toArray,hlen]⟩,q⟩
 ·obtain⟨its,r',pl,hz⟩:=I.tuple hq
  have hlen:=r'.length;exact len_tuple pl (by simp only[List.size_toArray]<;>omega) ⟨.int ys.length,H,I.tok _,⟨s.toks+1,by rw[List.size_toArray,hlen]⟩,q⟩
theorem zia:xk X (.type "list") (fun xs H Q=>∃p ys,xs=[.ref p]/\(SqL X.K H p ys\/SqT X.K H p ys)/\∀l,H l=none->Q (.ref l) (zu H l (.lst ys))):=by
 intro pins s σ H xs us Q I r h;obtain⟨p,ys,rfl,hq,q⟩:=h;obtain⟨u,rfl,rx⟩:=wz r;cases rx
 have fin: ∀(its:List Value),Vals ys its->ys.length<=sizeLine->∀(h':Heap) (c':Nat),(∀b o',s.heap.get? b=some o'->h'.get? b=some o')->
   h'.get? s.heap.objs.size=some { cls:=.type "list",dict:=none,data:=.seq its.toArray c',slots:= #[] }->EP X pins σ Q (.ref s.heap.objs.size) { s with heap:=h' }:=fun its r' hz h' c' kp e=>
  ⟨.ref s.heap.objs.size,_,I.laid (t':=s.toks) kp (Nat.le_refl _) (show ObjOk X.prog X.w _ h' _ (.lst ys) from ⟨hz,its,c',r',e⟩),rfl,q _ (I.hok.fresh (Nat.le_refl _))⟩
 rcases hq with hq|hq
 ·obtain⟨its,r',pl,hz⟩:=I.list hq
  have hlen:=r'.length;obtain⟨o,ho,hc,n,hd⟩:=pl.isList;exact call_list_seq p (.inl rfl) ho hc hd (fun h' c' kp e=>fin its r' hz h' c' kp e) (by simp only[List.size_toArray]<;>omega)
 ·obtain⟨its,r',pl,hz⟩:=I.tuple hq
  have hlen:=r'.length;obtain⟨o,ho,hc,n,hd⟩:=pl;exact call_list_seq p (.inr rfl) ho hc hd (fun h' c' kp e=>fin its r' hz h' c' kp e) (by simp only[List.size_toArray]<;>omega)
theorem zck:xk X (.type "tuple") (fun xs H Q=>∃p ys,xs=[.ref p]/\((SqL X.K H p ys/\∀l,H l=none->Q (.ref l) (zu H l (.tup ys)))\/(SqT X.K H p ys/\Q (.ref p) H))):=by
 intro pins s σ H xs us Q I r h;obtain⟨p,ys,rfl,h⟩:=h;obtain⟨u,rfl,rx⟩:=wz r;cases rx;rcases h with ⟨hq,q⟩|⟨hq,q⟩
 ·obtain⟨its,r',pl,hz⟩:=I.list hq
  have hlen:=r'.length;refine call_tuple_list pl.isList (fun h' kp=>?_) (by simp only[List.size_toArray]<;>omega);have I1:Inv X pins σ H { s with heap:=h' }:=I.kept (t':=s.toks) kp
  have I2:Inv X pins σ (zu H h'.objs.size (.tup ys)) { s with heap:=h'.push { cls:=.type "tuple",data:=.seq its.toArray } }:=
   I1.laid (t':=s.toks) (fun b o e=>Kl _ e) (Nat.le_refl _) (show ObjOk X.prog X.w _ _ _ (.tup ys) from ⟨hz,its,r',IsTup.new _ _⟩)
  exact⟨.ref h'.objs.size,_,I2,rfl,q _ (I1.hok.fresh (Nat.le_refl _))⟩
 ·obtain⟨its,r',pl,hz⟩:=I.tuple hq
  exact call_tuple_same pl ⟨.ref p,H,I,rfl,q⟩
noncomputable def qI(K:Ka)(T:String)(x:V)(H:Hp):Prop:=match x with
 | .str _=>T="str"
 | .int _=>T="int"
 | .ref p=>(T="list"/\∃xs,SqL K H p xs)\/(T="tuple"/\∃o,K.lookup p=some o/\o.cls= .type "tuple"/\o.dict=none)\/
   (T="dict"/\((∃kvs,H p=some (.dK kvs))\/∃kvs,H p=some (.dT kvs)))\/(T="set"/\∃S n,H p=some (.set S n))
 |_=>False
theorem zcl{pins:List (Addr×Obj)}{σ:St}{H:Hp}{s:Shared}{T:String}{x:V}{v:Value}(I:Inv X pins σ H s)(r:RelV x v)(ty:qI X.K T x H):
  s.TypeIs v T/\∀a,v= .ref a->∃ob,s.heap.get? a=some ob/\ob.dict=none:=by
 cases x with
 |str z=>
  obtain⟨t,rfl⟩:=r;cases (show T="str" from ty);exact⟨typeIs_str s z t,fun _ e=>nomatch e⟩
 |int i=>
  obtain⟨t,rfl⟩:=r;cases (show T="int" from ty);exact⟨typeIs_int s i t,fun _ e=>nomatch e⟩
 |ref p=>
  cases r;rcases ty with ⟨rfl,xs,hq⟩|⟨rfl,o,hk,hc,hd⟩|⟨rfl,hk⟩|⟨rfl,S,n,hk⟩
  ·obtain⟨its,_,pl,_⟩:=I.list hq
   refine⟨pl.isList.typeIs,fun a e=>?_⟩;cases e;obtain⟨o,n,e,c,hd,_⟩:=pl;exact⟨o,e,hd⟩
  ·refine⟨⟨o,I.kIn p o hk,hc⟩,fun a e=>?_⟩
   cases e;exact⟨o,I.kIn _ o hk,hd⟩
  ·have z: ∃o,s.heap.get? p=some o/\o.ExactDict:=by
    rcases hk with ⟨kvs,hk⟩|⟨kvs,hk⟩
    ·obtain⟨_,_,_,_,o,_,_,e,ex,_⟩:=I.hok p _ hk
     exact⟨o,e,ex⟩
    ·obtain⟨_,_,_,_,o,_,_,e,ex,_⟩:=I.hok p _ hk
     exact⟨o,e,ex⟩
   obtain⟨o,e,ex⟩:=z;refine⟨⟨o,e,ex.1⟩,fun a e2=>?_⟩;cases e2;exact⟨o,e,ex.2.1⟩
  ·obtain⟨o,_,_,_,e,ex,_⟩:=I.hok p _ hk
   refine⟨⟨o,e,ex.1⟩,fun a e2=>?_⟩;cases e2;exact⟨o,e,ex.2.1⟩
 |_=>exact False.elim ty
noncomputable def zcm(K:Ka)(T:String)(r:V->List V->Hp->VK->Prop)(to:TE):TE:=fun σ H Q=>to σ H fun x H1=>qI K T x H1/\r x [] H1 Q
noncomputable def zib(K:Ka)(T:String)(r:V->List V->Hp->VK->Prop)(to:TE)(t:TA):TE:=fun σ H Q=>to σ H fun x H1=>qI K T x H1/\t σ H1 fun xs H2=>r x xs H2 Q
variable {o e:Expr} {es:List Expr} {to:TE} {t:TA} {name:Str} {apos cpos:Pos} {T id:String} {r:V->List V->Hp->VK->Prop}
theorem qJ(pa:PlainAttrs T)(slot:Slot T name id)(hty:typeOf (.builtin id)=pure (.type "method_descriptor"))(hm:Xk X id r)(ho:PE X o to)
  (hbase:attributeBase o name X.env (eval o X.env)=eval o X.env:=by rfl) (hline:(apos.endLine==cpos.line)=true:=by rfl):PE X (.Call (.Attribute o name apos) [] [] cpos) (zcm X.K T r to):=by
 intro pins s σ H Q I h;refine wpAny_Call_method0_late hbase hline (zt (ho pins s σ H _ I h) fun v s1 ⟨x,H1,I1,r1,ty,q1⟩=>?_);obtain⟨h1,h2⟩:=zcl I1 r1 ty;exact⟨T,id,pa,slot,hty,h1,h2,Calls.callWith_builtin rfl (PySem.evalArgs_none (hm pins s1 σ H1 x [] v [] Q I1 r1 .nil q1))⟩
theorem zcn(pa:PlainAttrs T)(slot:Slot T name id)(hty:typeOf (.builtin id)=pure (.type "method_descriptor"))(hm:Xk X id r)(ho:PE X o to)(ha:PA X (e::es) t)
  (hbase:attributeBase o name X.env (eval o X.env)=eval o X.env:=by rfl)
  (hfew:((backTo cpos (starEach (e::es) X.env)).all (fun x=> !x.1)&&(backToKw cpos (keywordEach [] X.env)).all (fun x=>x.1.isSome)
   &&decide ((e::es).length+([]:List Keyword).length+(if ([]:List Keyword).isEmpty then 0 else 1)<30))=true:=by rfl)
  (hline:(apos.endLine==cpos.line)=true:=by rfl) (hs:starEach (e::es) X.env=(false,eval e X.env)::starEach es X.env:=by rfl) (hplain:(backTo cpos (starEach es X.env)).any (·.1)=false:=by rfl):
  PE X (.Call (.Attribute o name apos) (e::es) [] cpos) (zib X.K T r to t):=by
 intro pins s σ H Q I h;refine wpAny_Call_method_late hbase hfew hline rfl (zt (ho pins s σ H _ I h) fun v s1 ⟨x,H1,I1,r1,ty,q1⟩=>?_);obtain⟨h1,h2⟩:=zcl I1 r1 ty;refine⟨T,id,pa,slot,hty,h1,h2,?_⟩;have hA:=ha cpos pins s1 σ H1 _ I1 q1;rw[hs] at hA⊢;refine Calls.callWith_builtin (by show (false||(backTo cpos (starEach es X.env)).any (·.1))=false;rw[hplain]<;>rfl) (Calls.evalArgs_plain ?_);exact zt hA fun us s2 ⟨vs,H2,I2,r2,q2⟩=>hm pins s2 σ H2 x vs v us Q I2 r1 r2 q2
end
end L2
namespace L2
open PySem PySem.Spec PyProof.Rows
noncomputable def zco(X:Cx)(id:String)(r:V->List V->Hp->VK->Prop):Prop:=
 ∀(pins:List (Addr×Obj)) (s:Shared) (σ:St) (H:Hp) (x:V) (xs:List V) (v:Value) (us:List Value) (Q:VK),Inv X pins σ H s->RelV x v->Vals xs us->r x xs H Q->
  wpAny (model X.prog X.w) X.A (call (.builtin id) (v::us)) (EP X pins σ Q) X.xe s
theorem Vals.one: ∀{x:V} {us:List Value},Vals [x] us->∃u,us=[u]/\RelV x u
 |_,_,.cons r .nil=>⟨_,rfl,r⟩
theorem Vals.zero: ∀{us:List Value},Vals [] us->us=[]
 |_,.nil=>rfl
theorem Vals.rep{xs:List V}{us:List Value}(h:Vals xs us): ∀k:Nat,Vals (List.replicate k xs).flatten (List.replicate k us).flatten
 |0=>.nil
 |k+1=>by
  rw[List.replicate_succ,List.replicate_succ,List.flatten_cons,List.flatten_cons];exact Vals.append h (Vals.rep h k)
section
variable {X:Cx} {pins:List (Addr×Obj)} {σ:St} {H:Hp} {s:Shared} {l b:Addr} {xs ys zs:List V}
theorem Inv.lset{its its':List Value}{n:Nat}{f:Array Value->Array Value}{t':Nat}(I:Inv X pins σ H s)(hH:H l=some (.lst xs))
  (e:s.heap.get? l=some { cls:=.type "list",data:=.seq its.toArray n }) (hf:f its.toArray=its'.toArray) (hv:Vals ys its') (hz:ys.length<=sizeLine):
  Inv X pins σ (zu H l (.lst ys)) { s with heap:=s.heap.update l (Obj.mapSeq f),toks:=t' }:=by
 have q:=PySem.IsL.update e f;rw[hf] at q;refine I.write (x:=l) (e:=l) (by rw[hH];exact trivial) (.inl rfl) (fun b' u hb hu=>(Heap.get?_update_other s.heap (Obj.mapSeq f) (Ne.symm hb)).trans hu) ⟨_,q⟩ ?_;exact⟨hz,its',_,hv,q⟩
theorem Inv.lnew{its:List Value}{t':Nat}(I:Inv X pins σ H s)(hv:Vals ys its)(hz:ys.length<=sizeLine):
  Inv X pins σ (zu H s.heap.objs.size (.lst ys)) { s with heap:=s.heap.push { cls:=.type "list",data:=.seq its.toArray },toks:=t' }:=
 I.laid (fun _ _ q=>Kl _ q) (Nat.le_refl _) ⟨hz,its,0,hv,Heap.get?_push_size _ rfl⟩
theorem Inv.fresh(I:Inv X pins σ H s):H s.heap.objs.size=none:=I.hok.fresh (Nat.le_refl _)
theorem Inv.lstM(I:Inv X pins σ H s)(hH:H l=some (.lst xs)):xs.length<=sizeLine/\∃(its:List Value) (n:Nat),Vals xs its/\xs.length=its.length/\s.heap.get? l=some { cls:=.type "list",data:=.seq its.toArray n }:=by
 obtain⟨z,its,n,r,e⟩:=I.hok l _ hH;exact⟨z,its,n,r,r.length,e⟩
end
section
variable {X:Cx}
noncomputable def zic:V->List V->Hp->VK->Prop:=fun x vs H Q=>∃l xs y,x= .ref l/\vs=[y]/\H l=some (.lst xs)/\xs.length<sizeLine/\Q .non (zu H l (.lst (xs++[y])))
theorem JV:zco X "list.append" zic:=by
 intro pins s σ H x vs v us Q I rx rv h;obtain⟨l,xs,y,rfl,rfl,hH,hz,q⟩:=h;cases rx;obtain⟨u,rfl,ru⟩:=rv.one;obtain⟨z,its,n,r,hl,e⟩:=I.lstM hH;refine call_meets F.slot_list_append ⟨_,e,rfl⟩ F.entry_list_append (F.args_list_append_2 _ _) (PySem.list_append l its.toArray n u (by rw[List.size_toArray];omega)) ⟨e,?_⟩;refine⟨.non,_,I.lset (its':=its++[u]) hH e (by simp) (r.append (.cons ru .nil)) ?_,rfl,q⟩;rw[List.length_append,List.length_singleton];omega
noncomputable def zcp:V->List V->Hp->VK->Prop:=fun x vs H Q=>∃l xs,x= .ref l/\vs=[]/\H l=some (.lst xs)/\Q .non (zu H l (.lst []))
theorem zid:zco X "list.clear" zcp:=by
 intro pins s σ H x vs v us Q I rx rv h;obtain⟨l,xs,rfl,rfl,hH,q⟩:=h;cases rx;have hus:=rv.zero;subst hus;obtain⟨z,its,n,r,hl,e⟩:=I.lstM hH;refine call_meets F.slot_list_clear ⟨_,e,rfl⟩ F.entry_list_clear (F.args_list_clear_1 _) (AutoSeq1.list_clear_list_0 l its.toArray n (by rw[List.size_toArray];omega)) ⟨e,?_⟩;exact⟨.non,_,I.lset (its':=[]) (ys:=[]) hH e rfl .nil (Nat.zero_le _),rfl,q⟩
end
end L2
namespace L2
open PySem PySem.Spec PyProof.Rows
section
variable {κ:Type} [DecidableEq κ]
noncomputable def xl(kvs:List (κ×V))(k:κ):Option V:=(kvs.find? fun kv=>decide (kv.1=k)).map (·.2)
noncomputable def xA(kvs:List (κ×V))(k:κ)(v:V):List (κ×V):=
 if (kvs.any fun kv=>decide (kv.1=k))=true then kvs.map (fun kv=>if kv.1=k then (kv.1,v) else kv) else kvs++[(k,v)]
theorem Xl{p:κ×V}{r:List (κ×V)}{k:κ}(e:p.1=k):xl (p::r) k=some p.2:=by simp[xl,List.find?_cons,e]
theorem Xm{p:κ×V}{r:List (κ×V)}{k:κ}(e: ¬p.1=k):xl (p::r) k=xl r k:=by simp[xl,List.find?_cons,e]
theorem JW(k:κ): ∀kvs:List (κ×V),(kvs.any fun kv=>decide (kv.1=k))=(xl kvs k).isSome
 |[]=>rfl
 |p::r=>by
  rw[List.any_cons];by_cases e:p.1=k
  ·simp only[Xl e,decide_eq_true e,Bool.true_or,Option.isSome_some]
  ·rw[Xm e,KG e,Bool.false_or];exact JW k r
theorem zcq(kvs:List (κ×V))(k:κ)(v:V):(xA kvs k v).length<=kvs.length+1:=by
 unfold xA;split
 ·rw[List.length_map];omega
 ·rw[List.length_append,List.length_cons,List.length_nil];omega
theorem RelO.isSome_eq{o:Option V}{u:Option Value}(r:RelO o u):o.isSome=u.isSome:=by
 cases o with
 |none=>cases u with
  |none=>rfl
  |some _=>exact (show False from r).elim
 |some _=>cases u with
  |none=>exact (show False from r).elim
  |some _=>rfl
theorem RelO.getD{o:Option V}{u:Option Value}{d:V}{d':Value}(r:RelO o u)(rd:RelV d d'):RelV (o.getD d) (u.getD d'):=by
 cases o with
 |none=>cases u with
  |none=>exact rd
  |some _=>exact (show False from r).elim
 |some _=>cases u with
  |none=>exact (show False from r).elim
  |some _=>exact r
theorem KV.val{kvs:List (κ×V)}{vs:List (κ×Value)}(r:KV kvs vs)(k:κ):RelO (xl kvs k) (valueAt vs k):=by
 unfold KV at r
 induction r with
 |nil=>exact True.intro
 | @cons p q ps qs h t ih=>
  obtain⟨h1,h2⟩:=h;by_cases e:p.1=k
  ·have e':q.1=k:=h1.symm.trans e
   have b:valueAt (q::qs) k=some q.2:=by simp[valueAt,List.find?_cons,e']
   rw[Xl e,b];exact h2
  ·have e': ¬q.1=k:=fun z=>e (h1.trans z)
   have b:valueAt (q::qs) k=valueAt qs k:=by simp[valueAt,List.find?_cons,e']
   rw[Xm e,b];exact ih
theorem KV.any{kvs:List (κ×V)}{vs:List (κ×Value)}(r:KV kvs vs)(k:κ):(kvs.any fun kv=>decide (kv.1=k))=vs.any fun kv=>decide (kv.1=k):=by
 unfold KV at r
 induction r with
 |nil=>rfl
 |cons h t ih=>rw[List.any_cons,List.any_cons,ih,h.1]
theorem KV.repl{kvs:List (κ×V)}{vs:List (κ×Value)}(r:KV kvs vs)(k:κ){y:V}{u:Value}(ry:RelV y u):
  KV (kvs.map fun kv=>if kv.1=k then (kv.1,y) else kv) (vs.map fun kv=>if kv.1=k then (kv.1,u) else kv):=by
 unfold KV at r⊢
 induction r with
 |nil=>exact .nil
 | @cons p q ps qs h t ih=>
  rw[List.map_cons,List.map_cons];refine .cons ?_ ih;obtain⟨h1,h2⟩:=h;by_cases e:p.1=k
  ·rw[if_pos e,if_pos (h1.symm.trans e)];exact⟨h1,ry⟩
  ·rw[if_neg e,if_neg (fun z=>e (h1.trans z))];exact⟨h1,h2⟩
theorem KV.put{kvs:List (κ×V)}{vs:List (κ×Value)}(r:KV kvs vs)(k:κ){y:V}{u:Value}(ry:RelV y u):KV (xA kvs k y) (stored vs k u):=by
 unfold xA stored;rw[r.any k];by_cases e:(vs.any fun kv=>decide (kv.1=k))=true
 ·rw[if_pos e,if_pos e];exact r.repl k ry
 ·rw[if_neg e,if_neg e];exact Paired.snoc r ⟨rfl,ry⟩
theorem KV.length{kvs:List (κ×V)}{vs:List (κ×Value)}(r:KV kvs vs):kvs.length=vs.length:=Paired.length r
end
theorem ZR{P:Program}{w:World}{k:zw}{u:Value}(r:RelV (kV k) u):(zY P w).is k u=true:=by
 cases k with
 |inl i=>obtain⟨t,e⟩:=(show ∃t,u=Value.int i t from r);subst e;exact zgB P w i t
 |inr x=>obtain⟨t,e⟩:=(show ∃t,u=Value.str x t from r);subst e;exact zgC P w x t
theorem zcr{P:Program}{w:World}: ∀{ks:List zw} {us:List Value},Vals (ks.map kV) us->ItemsAre (zY P w) ks us
 |[],_,r=>by rw[List.map_nil] at r;cases r;exact .nil
 |k::ks,_,r=>by
  rw[List.map_cons] at r
  cases r with
  |cons h t=>exact .cons (ZR h) (zcr t)
noncomputable abbrev KT(H:Hp):List (List zw×V)->List (List zw×Addr×Value)->Prop:=Paired fun p q=>p.1=q.1/\H q.2.1=some (.tup (p.1.map kV))/\RelV p.2 q.2.2
theorem KT.val{H:Hp}{kvs:List (List zw×V)}{xs:List (List zw×Addr×Value)}(r:KT H kvs xs)(k:List zw):RelO (xl kvs k) ((atKey xs k).map (·.2)):=by
 induction r with
 |nil=>exact True.intro
 | @cons p q ps qs h t ih=>
  obtain⟨h1,_,h2⟩:=h;by_cases e:p.1=k
  ·have e':q.1=k:=h1.symm.trans e
   have b:atKey (q::qs) k=some q.2:=by simp[atKey,List.find?_cons,e']
   rw[Xl e,b];exact h2
  ·have e': ¬q.1=k:=fun z=>e (h1.trans z)
   have b:atKey (q::qs) k=atKey qs k:=by simp[atKey,List.find?_cons,e']
   rw[Xm e,b];exact ih
theorem KT.repl{H:Hp}{kvs:List (List zw×V)}{xs:List (List zw×Addr×Value)}(r:KT H kvs xs)(k:List zw){y:V}{u:Value}(ry:RelV y u):
  KT H (kvs.map fun kv=>if kv.1=k then (kv.1,y) else kv) (xs.map (putAt k u)):=by
 induction r with
 |nil=>exact .nil
 | @cons p q ps qs h t ih=>
  rw[List.map_cons,List.map_cons];refine .cons ?_ ih;obtain⟨h1,h2,h3⟩:=h;unfold putAt;by_cases e:p.1=k
  ·rw[if_pos e,if_pos (h1.symm.trans e)];exact⟨h1,h2,ry⟩
  ·rw[if_neg e,if_neg (fun z=>e (h1.trans z))];exact⟨h1,h2,h3⟩
theorem KT.put{H:Hp}{kvs:List (List zw×V)}{xs:List (List zw×Addr×Value)}(r:KT H kvs xs)(k:List zw){b:Addr}{y:V}{u:Value}(hb:H b=some (.tup (k.map kV)))(ry:RelV y u):
  KT H (xA kvs k y) (storedH xs k b u):=by
 have e:(kvs.any fun kv=>decide (kv.1=k))=(atKey xs k).isSome:=by
  rw[JW,(r.val k).isSome_eq,Option.isSome_map]
 unfold xA storedH;rw[e];by_cases q:(atKey xs k).isSome=true
 ·rw[if_pos q,if_pos q];exact r.repl k ry
 ·rw[if_neg q,if_neg q];exact Paired.snoc r ⟨rfl,hb,ry⟩
theorem KT.keeps{H H':Hp}{kvs:List (List zw×V)}{xs:List (List zw×Addr×Value)}(r:KT H kvs xs)(ht: ∀b ys,H b=some (.tup ys)->H' b=some (.tup ys)):KT H' kvs xs:=
 Paired.mapP r fun _ _ z=>⟨z.1,ht _ _ z.2.1,z.2.2⟩
section
variable {P:Program} {w:World} {H:Hp} {h:Heap} {a:Addr}
theorem zcs{u:HO}(ok:HOk P w H h)(e:Rd H a u):ObjOk P w H h a u:=e.ok ok
theorem jy{kvs:List (zw×V)}(ok:HOk P w H h)(e:Rd H a (.dK kvs)):kvs.length<=sizeLine/\(a==sysModules)=false/\∃vs,KV kvs vs/\h.DictOf (zY P w) a vs:=
 show ObjOk P w H h a (.dK kvs) from zcs ok e
theorem zie{kvs:List (zw×V)}(ok:HOk P w H h)(e:H a=some (.dK kvs)):kvs.length<=sizeLine/\(a==sysModules)=false/\∃vs,KV kvs vs/\h.DictOf (zY P w) a vs:=jy ok (.inl e)
theorem Zi{ks:List zw}(ok:HOk P w H h)(e:H a=some (.tup (ks.map kV))):(tupleKind (zY P w)).is h ks a:=by
 obtain⟨_,its,r,o,h1,h2,n,h3⟩:=(show ObjOk P w H h a (.tup (ks.map kV)) from ok a _ e);exact⟨o,its.toArray,n,h1,h2,h3,by simpa using zcr r⟩
theorem jz{kvs:List (List zw×V)}(ok:HOk P w H h)(e:Rd H a (.dT kvs)):kvs.length<=sizeLine/\(a==sysModules)=false/\
  ∃xs,KT H kvs xs/\h.DictOfH (tupleKind (zY P w)) a xs:=by
 obtain⟨z,y,xs,r,o,es,ep,h1,h2,h3,h4,h5⟩:=(show ObjOk P w H h a (.dT kvs) from zcs ok e);refine⟨z,y,xs,r,o,es,ep,h1,h2,h3,h4,fun x hx=>?_,h5⟩
 have all: ∀{l:List (List zw×V)} {m:List (List zw×Addr×Value)},KT H l m->∀x∈m,(tupleKind (zY P w)).is h x.1 x.2.1:=by
  intro l m q
  induction q with
  |nil=>intro x hx;exact nomatch hx
  | @cons p q ps qs hq t ih=>
   intro x hx;rcases List.mem_cons.mp hx with e|hx
   ·subst e
    exact Zi ok (by rw[<-hq.1];exact hq.2.1)
   ·exact ih x hx
 exact all r x hx
theorem Xn{kvs:List (List zw×V)}(ok:HOk P w H h)(e:H a=some (.dT kvs)):kvs.length<=sizeLine/\(a==sysModules)=false/\
  ∃xs,KT H kvs xs/\h.DictOfH (tupleKind (zY P w)) a xs:=jz ok (.inl e)
end
noncomputable def DGet(H:Hp)(a:Addr)(y:V)(r:Option V):Prop:=
 (∃kvs k,Rd H a (.dK kvs)/\y=kV k/\r=xl kvs k)\/∃kvs k b,Rd H a (.dT kvs)/\y= .ref b/\H b=some (.tup (k.map kV))/\r=xl kvs k
noncomputable def DPut(H:Hp)(a:Addr)(y v:V)(H':Hp):Prop:=
 (∃kvs k,H a=some (.dK kvs)/\y=kV k/\kvs.length<sizeLine/\H'=zu H a (.dK (xA kvs k v)))\/
 ∃kvs k b,H a=some (.dT kvs)/\y= .ref b/\H b=some (.tup (k.map kV))/\kvs.length<sizeLine/\H'=zu H a (.dT (xA kvs k v))
theorem DGet.t{H:Hp}{a b:Addr}{kvs:List (List zw×V)}{k:List zw}(e:H a=some (.dT kvs))(eb:H b=some (.tup (k.map kV))):DGet H a (.ref b) (xl kvs k):=.inr ⟨kvs,k,b,.inl e,rfl,eb,rfl⟩
theorem DPut.k{H:Hp}{a:Addr}{kvs:List (zw×V)}{k:zw}{v:V}(e:H a=some (.dK kvs))(hl:kvs.length<sizeLine):DPut H a (kV k) v (zu H a (.dK (xA kvs k v))):=.inl ⟨kvs,k,e,rfl,hl,rfl⟩
theorem DPut.t{H:Hp}{a b:Addr}{kvs:List (List zw×V)}{k:List zw}{v:V}(e:H a=some (.dT kvs))(eb:H b=some (.tup (k.map kV)))(hl:kvs.length<sizeLine):
  DPut H a (.ref b) v (zu H a (.dT (xA kvs k v))):=.inr ⟨kvs,k,b,e,rfl,eb,hl,rfl⟩
section
variable {X:Cx} {pins:List (Addr×Obj)} {σ:St} {H:Hp} {s:Shared} {a:Addr} {y v:V} {u r:Value} {o:Option V} {A:Around} {E:Value->Shared->Prop}
theorem Inv.big(I:Inv X pins σ H s):sysModules<s.heap.objs.size:=by
 have h:mainGlobals<s.heap.objs.size:=(I.mod.glob.keeps I.bk).lt;exact Nat.lt_trans (by decide) h
theorem zif{Q:Value->Shared->Prop}(hu:A.units+1<cLine)(I:Inv X pins σ H s)(g:DGet H a y (some v))(ry:RelV y u)(h: ∀w' s',Inv X pins σ H s'->RelV v w'->Q w' s'):
  wpAny (model X.prog X.w) A (getItem (.ref a) u) Q E s:=by
 rcases g with ⟨kvs,k,e,ey,l⟩|⟨kvs,k,b,e,ey,eb,l⟩
 ·subst ey
  obtain⟨z,hd,vs,rel,dd⟩:=jy I.hok e;obtain⟨w',hw,rw'⟩:=RelO.some_of (v:=v) (o:=valueAt vs k) (by rw[l];exact rel.val k);exact wpAny_getItem_of (ZR ry) dd.mapOf hw (h w' _ (I.tok _) rw')
 ·subst ey
  cases (show u=Value.ref b from ry);obtain⟨z,hd,xs,rel,dd⟩:=jz I.hok e;obtain⟨w',hw,rw'⟩:=RelO.some_of (v:=v) (o:=(atKey xs k).map (·.2)) (by rw[l];exact rel.val k);obtain⟨p,hp,hp2⟩:=jo2.mp hw;refine wpAny_getItem_heap (tupleKind_room_in1 hu) (Zi I.hok eb) dd hp ?_;rw[hp2];exact h w' _ (I.tok _) rw'
theorem zct{Q:Value->Shared->Prop}(hu:A.units+1<cLine)(I:Inv X pins σ H s)(g:DGet H a y o)(ry:RelV y u)(h: ∀s',Inv X pins σ H s'->Q (.bool o.isSome) s'):
  wpAny (model X.prog X.w) A (compareOp .In u (.ref a)) Q E s:=by
 rcases g with ⟨kvs,k,e,ey,l⟩|⟨kvs,k,b,e,ey,eb,l⟩
 ·subst ey
  obtain⟨z,hd,vs,rel,dd⟩:=jy I.hok e;refine wpAny_in_of (ZR ry) hd dd.mapOf ?_;rw[<-(rel.val k).isSome_eq,<-l];exact h _ (I.tok _)
 ·subst ey
  cases (show u=Value.ref b from ry);obtain⟨z,hd,xs,rel,dd⟩:=jz I.hok e;refine wpAny_in_heap (tupleKind_room_in1 hu) (Zi I.hok eb) hd dd ?_;have q:=(rel.val k).isSome_eq;rw[Option.isSome_map] at q;rw[<-q,<-l];exact h _ (I.tok _)
theorem zcu{Q:Value->Shared->Prop}(hu:A.units+1<cLine)(I:Inv X pins σ H s)(g:DGet H a y o)(ry:RelV y u)(h: ∀s',Inv X pins σ H s'->Q (.bool (!o.isSome)) s'):
  wpAny (model X.prog X.w) A (compareOp .NotIn u (.ref a)) Q E s:=by
 rcases g with ⟨kvs,k,e,ey,l⟩|⟨kvs,k,b,e,ey,eb,l⟩
 ·subst ey
  obtain⟨z,hd,vs,rel,dd⟩:=jy I.hok e;refine wpAny_notIn_of (ZR ry) hd dd.mapOf ?_;rw[<-(rel.val k).isSome_eq,<-l];exact h _ (I.tok _)
 ·subst ey
  cases (show u=Value.ref b from ry);obtain⟨z,hd,xs,rel,dd⟩:=jz I.hok e;refine wpAny_notIn_heap (tupleKind_room_in1 hu) (Zi I.hok eb) hd dd ?_;have q:=(rel.val k).isSome_eq;rw[Option.isSome_map] at q;rw[<-q,<-l];exact h _ (I.tok _)
theorem JX{h':Heap}{t':Nat}{ob:HO}(I:Inv X pins σ H s)(mu:Xa (H a))(hs:Heap.SameBut a s.heap h')(he: ∃q,h'.get? a=some q)(new:ObjOk X.prog X.w (zu H a ob) h' a ob):
  Inv X pins σ (zu H a ob) { s with heap:=h',toks:=t' }:=
 I.write (x:=a) (e:=a) mu (.inl rfl) (fun b q hb z=>(hs.2 b hb).trans z) he new
theorem zig{P:Program}{w:World}{H':Hp}{h':Heap}{kvs:List (zw×V)}{vs:List (zw×Value)}(z:kvs.length<=sizeLine)(hd:(a==sysModules)=false)(rel:KV kvs vs)(dd:h'.DictOf (zY P w) a vs):
  ObjOk P w H' h' a (.dK kvs):=⟨z,hd,vs,rel,dd⟩
theorem zih{H':Hp}{Q:Unit->Shared->Prop}(hu:A.units+1<cLine)(I:Inv X pins σ H s)(g:DPut H a y v H')(ry:RelV y u)(rv:RelV v r)(h: ∀s',Inv X pins σ H' s'->Q () s'):
  wpAny (model X.prog X.w) A (setItem (.ref a) u r) Q E s:=by
 rcases g with ⟨kvs,k,e,ey,l,eH⟩|⟨kvs,k,b,e,ey,eb,l,eH⟩
 ·subst ey eH
  obtain⟨z,hd,vs,rel,dd⟩:=zie I.hok e;have hz:vs.length<=sizeLine:=by rw[<-rel.length];exact z
  have hl:(xA kvs k v).length<=sizeLine:=by have:=zcq kvs k v;omega
  refine wpAny_setItem_pairs (hsz:=hz) (ZR ry) dd fun h' dd' hs=>h _ ?_
  have he: ∃q,h'.get? a=some q:=let ⟨q,_,_,hq,_⟩:=dd';⟨q,hq⟩;exact JX I (by rw[e];exact True.intro) hs he (zig hl hd (rel.put k rv) dd')
 ·subst ey eH
  cases (show u=Value.ref b from ry);obtain⟨z,hd,xs,rel,dd⟩:=Xn I.hok e;have hz:xs.length<=sizeLine:=by rw[<-Paired.length rel];exact z
  have hl:(xA kvs k v).length<=sizeLine:=by have:=zcq kvs k v;omega
  refine wpAny_setItem_heap (hsz:=hz) (tupleKind_room_in1 hu) (Zi I.hok eb) dd fun h' dd' hs=>h _ ?_
  obtain⟨q,es,ep,hq,h2,h3,h4,_,h5⟩:=dd';refine JX I (by rw[e];exact True.intro) hs ⟨q,hq⟩ ⟨hl,hd,_,(rel.put k eb rv).keeps fun c ys ec=>?_,q,es,ep,hq,h2,h3,h4,h5⟩;rw[zy (ZK ec e (fun z=>nomatch z))];exact ec
end
theorem zii{X:Cx}{pins:List (Addr×Obj)}{σ:St}{H:Hp}{s:Shared}{a:Addr}{y:V}{o:Option V}(I:Inv X pins σ H s)(g:DGet H a y o):s.TypeIs (.ref a) "dict":=by
 rcases g with ⟨kvs,k,e,_,_⟩|⟨kvs,k,b,e,_,_,_⟩
 ·obtain⟨_,_,vs,_,dd⟩:=jy I.hok e
  exact dd.typeIs
 ·obtain⟨_,_,xs,_,dd⟩:=jz I.hok e
  exact dd.typeIs
noncomputable def zij(td ty tv:TE):TS:=fun D σ H=>tv σ H fun v H1=>td σ H1 fun x H2=>ty σ H2 fun y H3=>∃a H4,x= .ref a/\DPut H3 a y v H4/\D.nx σ H4
section
variable {X:Cx} {o i e value:Expr} {pos pos' tpos:Pos} {td ty tv:TE}
theorem zik(hu:X.A.units+1<cLine)(ho:PE X o td)(hi:PE X i ty)(hv:PE X value tv)(hs:swapsWith value (some (.Subscript o i pos')) pos.line X.env=pure false):
  PS X (.Assign [.Subscript o i pos'] value pos) (zij td ty tv):=by
 intro pins s σ H D I h;refine wpAny_Assign_Subscript (zt (hv pins s σ H _ I h) fun r s1 ⟨v,H1,I1,rv,q1⟩=>zt (ho pins s1 σ H1 _ I1 q1) fun u s2 ⟨x,H2,I2,rx,q2⟩=>zt (hi pins s2 σ H2 _ I2 q2) fun iv s3 ⟨y,H3,I3,ry,a,H4,ex,g,q3⟩=>?_) hs;subst ex;obtain rfl:u=Value.ref a:=rx;exact zih hu I3 g ry rv fun s4 I4=>⟨σ,H4,I4,q3⟩
end
theorem zil{P:Program}{w:World}{H:Hp}(h:Heap)(hb:sysModules<h.objs.size):ObjOk P w H (h.push { cls:=.type "dict",data:=.dict #[] }) h.objs.size (.dK []):=
 ⟨Nat.zero_le _,beq_eq_false_iff_ne.mpr (Ne.symm (Kh hb)),[],.nil,Heap.DictOf.new h⟩
theorem zcv{P:Program}{w:World}{H:Hp}(h:Heap)(hb:sysModules<h.objs.size):ObjOk P w H (h.push { cls:=.type "dict",data:=.dict #[] }) h.objs.size (.dT []):=
 ⟨Nat.zero_le _,beq_eq_false_iff_ne.mpr (Ne.symm (Kh hb)),[],.nil,_, #[],0,Heap.get?_push_size _ rfl,⟨rfl,rfl,rfl⟩,rfl,rfl,List.nodup_nil⟩
noncomputable def zim:TE:=fun _ H Q=>∀p,H p=none->Q (.ref p) (zu H p (.dK []))
noncomputable def zin:TE:=fun _ H Q=>∀p,H p=none->Q (.ref p) (zu H p (.dT []))
section
variable {X:Cx} {pos:Pos}
theorem zcw:PE X (.Dict [] [] pos) zim:=fun pins s σ H Q I h=>
 wpAny_Dict_empty ⟨.ref s.heap.objs.size,_,I.laid (a:=s.heap.objs.size) (o:=.dK []) (t':=s.toks) (fun _ _ q=>Kl _ q) (Nat.le_refl _) (zil s.heap I.big),rfl,h _ (I.hok.fresh (Nat.le_refl _))⟩
theorem zcx:PE X (.Dict [] [] pos) zin:=fun pins s σ H Q I h=>
 wpAny_Dict_empty ⟨.ref s.heap.objs.size,_,I.laid (a:=s.heap.objs.size) (o:=.dT []) (t':=s.toks) (fun _ _ q=>Kl _ q) (Nat.le_refl _) (zcv s.heap I.big),rfl,h _ (I.hok.fresh (Nat.le_refl _))⟩
end
structure M2 (X:Cx)(o:Expr)(m:Str)(apos:Pos)(e f:Expr)(cpos:Pos):Prop where
 base:attributeBase o m X.env (eval o X.env)=eval o X.env
 few:((backTo cpos (starEach [e,f] X.env)).all (fun x=> !x.1)&&(backToKw cpos (keywordEach [] X.env)).all (fun x=>x.1.isSome)
  &&decide (([e,f]:List Expr).length+([]:List Keyword).length+(if ([]:List Keyword).isEmpty then 0 else 1)<30))=true
 line:(apos.endLine==cpos.line)=true
 trees:backTo cpos (starEach [e,f] X.env)=[(false,eval e X.env),(false,eval f X.env)]
noncomputable def zcy(H:Hp)(a:Addr):Prop:=(∃kvs,Rd H a (.dK kvs))\/∃kvs,Rd H a (.dT kvs)
theorem zio{X:Cx}{pins:List (Addr×Obj)}{σ:St}{H:Hp}{s:Shared}{a:Addr}(I:Inv X pins σ H s)(d:zcy H a):
  s.TypeIs (.ref a) "dict"/\(∀b,Value.ref a= .ref b->∃ob,s.heap.get? b=some ob/\ob.dict=none)/\(a==sysModules)=false:=by
 rcases d with ⟨kvs,e⟩|⟨kvs,e⟩
 ·obtain⟨_,hd,vs,_,dd⟩:=jy I.hok e
  refine⟨dd.typeIs,fun b q=>?_,hd⟩;cases q;obtain⟨ob,_,_,h1,h2,_⟩:=dd;exact⟨ob,h1,h2.2.1⟩
 ·obtain⟨_,hd,xs,_,dd⟩:=jz I.hok e
  refine⟨dd.typeIs,fun b q=>?_,hd⟩;cases q;obtain⟨ob,_,_,h1,h2,_⟩:=dd;exact⟨ob,h1,h2.2.1⟩
section
variable {X:Cx} {pins:List (Addr×Obj)} {σ:St} {H:Hp} {s:Shared} {a:Addr} {y d:V} {u r:Value} {o:Option V} {A:Around} {E:Value->Shared->Prop}
theorem ziq{Q:Value->Shared->Prop}(hu:A.units+1<cLine)(I:Inv X pins σ H s)(g:DGet H a y o)(ry:RelV y u)(rd:RelV d r)(h: ∀w' s',Inv X pins σ H s'->RelV (o.getD d) w'->Q w' s'):
  wpAny (model X.prog X.w) A (call (.builtin "dict.get") [.ref a,u,r]) Q E s:=by
 rcases g with ⟨kvs,k,e,ey,l⟩|⟨kvs,k,b,e,ey,eb,l⟩
 ·subst ey
  obtain⟨z,hd,vs,rel,dd⟩:=jy I.hok e;refine call_meetsIn PySem.F.slot_dict_get dd.typeIs PySem.F.entry_dict_get (PySem.F.args_dict_get_3 _ _ _) (meets_dict_get_default (zY X.prog X.w) a (ZR ry) hd r) ⟨_,dd.mapOf,h _ _ (I.tok _) ?_⟩;rw[l];exact (rel.val k).getD rd
 ·subst ey
  cases (show u=Value.ref b from ry);obtain⟨z,hd,xs,rel,dd⟩:=jz I.hok e;refine call_meetsIn PySem.F.slot_dict_get dd.typeIs PySem.F.entry_dict_get (PySem.F.args_dict_get_3 _ _ _) (meetsH_dict_get_default (tupleKind (zY X.prog X.w)) a b hd r) ⟨tupleKind_room_in1 hu,k,xs,Zi I.hok eb,dd,h _ _ (I.tok _) ?_⟩;rw[l];exact (rel.val k).getD rd
end
noncomputable def zir(td ty tx:TE):TE:=fun σ H Q=>td σ H fun x H1=>∃a,x= .ref a/\zcy H1 a/\ty σ H1 fun y H2=>tx σ H2 fun z H3=>∃o,DGet H3 a y o/\Q (o.getD z) H3
section
variable {X:Cx} {o e f:Expr} {apos cpos:Pos} {td ty tx:TE}
theorem zis(hu:X.A.units+1<cLine)(ho:PE X o td)(he:PE X e ty)(hf:PE X f tx)(m:M2 X o "get" apos e f cpos):PE X (.Call (.Attribute o "get" apos) [e,f] [] cpos) (zir td ty tx):=by
 intro pins s σ H Q I h;refine wpAny_Call_method m.base m.few m.line PySem.F.plainAttrs_dict PySem.F.slot_dict_get PySem.F.type_dict_get (zt (ho pins s σ H _ I h) fun u s1 ⟨x,H1,I1,rx,a,ex,d,q1⟩=>?_);subst ex;obtain rfl:u=Value.ref a:=rx;obtain⟨t1,t2,_⟩:=zio I1 d;refine⟨t1,t2,?_⟩;rw[m.trees]
 refine Calls.callWith_builtin rfl (Calls.evalArgs_plain (Calls.spliced_cons (zt (he pins s1 σ H1 _ I1 q1) fun iv s2 ⟨y,H2,I2,ry,q2⟩=>
  Calls.spliced_cons (zt (hf pins s2 σ H2 _ I2 q2) fun fv s3 ⟨z,H3,I3,rz,ov,g,q3⟩=>Calls.spliced_nil ?_))))
 exact ziq hu I3 g ry rz fun w' s4 I4 rw'=>⟨_,H3,I4,rw',q3⟩
end
end L2
namespace Att
open PySem PySem.W PySem.Calls PyProof.Rows
theorem zit{P:Params}{h:Heap}: ∀(ns:List Int) (vs:List Value),WellAll P h vs (ns.map WData.int)->IntsAre vs ns:=by
 intro ns
 induction ns with
 |nil=>
  intro vs w;rw[List.map_nil] at w;cases w;exact .nil
 |cons n ns ih=>
  intro vs w;rw[List.map_cons] at w
  cases w with
  |cons a b=>
   cases a;exact .cons _ _ (ih _ b)
theorem ziu{l:OpenLaw}{n:Nat}(hn:l.most=some n){P:Params}{h:Heap}{args:List WData}{vals:List Value}
  (hpre:l.row.toRowW.claim.pre args=true) (hwl:WellAll P h vals args):
  ∃a vs ns,vals=[Value.ref a]/\args=[WData.list (ns.map WData.int)]/\h.get? a=some { cls:=.type "list",data:=.seq vs.toArray }/\IntsAre vs ns/\ns.length<=n:=by
 have hsh:WShape.hasAll [] args [.list .int]=true:=(pre_splitW hpre).1;have hc:l.pre.holds [] { args:=args }=true:=(pre_splitW hpre).2;obtain⟨d,r,rfl,h1,h2⟩:=hasAllW_cons hsh;obtain rfl:=hasAllW_nil h2;obtain⟨xs,rfl,h3⟩:=hasW_list h1;obtain⟨ns,rfl⟩:=items_int h3
 have hlen:ns.length<=n:=by
  unfold OpenLaw.pre at hc
  have h4:(WTm.not (.lt (.lit (.int (n:Int))) (.len (.arg 0)))).holds [] { args:=[.list (ns.map .int)] }=true:=by
   have h4:=(holds_andW hc).1;rw[hn] at h4;exact h4
  have h5:=condW_of h4 (w_not (w_lt w_lit (w_len_list (w_arg rfl))));rw[List.length_map] at h5;refine Nat.le_of_not_lt fun q=>?_
  have q':(n:Int)<((ns.length:Nat):Int):=by omega
  first
   |(rw[decide_eq_true q'] at h5;exact KC h5 (by decide))
   |(simp at h5;omega)
 cases hwl with
 |cons w1 w2=>
  cases w2
  cases w1 with
  |list ho hall=>exact⟨_,_,ns,rfl,rfl,ho,zit ns _ hall,hlen⟩
theorem ziv(l:OpenLaw)(args:List WData):l.row.toRowW.claim.post args (.bool true) args=true:=
 postW_of (r:=l.row.toRowW) (X:=(true==true))
  (show WShape.has [] (.bool true) .bool=true by first|rfl|decide|simp[WShape.has,WShape.arms,WShape.armsAll])
  (show (WTm.eq .res (.lit (.bool true))).value [] { args:=args,res:=some (.bool true),after:=args }=some (.bool (true==true)) from w_eq_bool (w_res rfl) w_lit) rfl
theorem attach_call{l:OpenLaw}{n:Nat}{q:Program}{loose:List Str}{XP:(Str->Option Value)->Heap->Prop}{YP:World->Heap->Prop}{d:DefRec}
  (hn:l.most=some n) (hdf:d.params.defaults=[])
  (call: ∀(w:World) (s₀ s₁:Shared) (mg mb:Str->Option Value) (fa:Addr) (o:Obj) (pm cd doc:Value) (a:Addr) (vs:List Value) (ns:List Int),
   Ground q loose [] XP w s₀ mg mb s₁.heap->YP w s₁.heap->
   s₁.heap.get? fa=some o->o.data= .func (docDef d.name d.params d.body d.scope pm cd doc)->s₁.heap.CodeRec cd d.name->mg d.name=some (.ref fa)->
   s₁.heap.get? a=some { cls:=.type "list",data:=.seq vs.toArray }->IntsAre vs ns->ns.length<=n->s₁.gens= #[]->
   codeAny (model l.prog w) callerA (.call (.ref fa) ⟨[.ref a],[]⟩) (fun r s'=>r= .ok (.ret (.bool true))/\OldK s₁.heap s'.heap/\s'.os=s₁.os/\AllBare s'.gens) s₁):
  WalkO q loose XP YP l.row.toRowW d [] (fun f vs=>PySem.call f vs):=by
 intro w s₀ s₁ mg mb G Y fa o pm cd doc dV kV ho hd hcd hD hmg hg args vals as hpre hlay hrd hwl hlo;obtain rfl:dV= .none:=Dflts.none hD hdf;obtain rfl:kV= .none:=Dflts.noKw hD;obtain⟨a,vs,ns,rfl,rfl,hobj,hints,hlen⟩:=ziu hn hpre hwl;refine enter_call (codeAny_mono (call w s₀ s₁ mg mb fa o pm cd doc a vs ns G Y ho (fd_plain hd) hcd hmg hobj hints hlen hg) fun r s' hq=>?_);obtain⟨rfl,h2,h3,h4⟩:=hq;exact⟨.inl ⟨.bool true,.bool true,[],rfl,fun _=>rfl,.bool true,ziv l _,fun _=>⟨List.Pairwise.nil,fun _ hm=>(nomatch hm)⟩⟩,h2,h3,h4⟩
end Att
namespace L2
open PySem PySem.Spec PyProof.Rows
theorem qK: ∀{vs:List Value} {ns:List Int},IntsAre vs ns->Vals (ns.map V.int) vs
 |_,_,.nil=>.nil
 |_,_,.cons n t h=>.cons ⟨t,rfl⟩ (qK h)
noncomputable def JY(H:Hp):Prop:=∀b,H b=none\/∃o xs,H b=some (.frz o (.lst xs))
theorem ziw{P:Program}{w:World}{K:Ka}{mg mb:Str->Option Value}{CX:wA}{k:Nat}{fa a:Addr}{fd:FuncData}{x:Str}{sp:Sp}{s₁:Shared}{vs:List Value}{ns:List Int}
  (KX:K.In s₁.heap) (hns:s₁.heap.Ns mainGlobals mg) (hb:s₁.heap.Ns builtinsNs mb) (hbb: ∀x:Str,x≠"__name__"->mb x=bootBuiltins x) (hlim:s₁.heap.NoLimit) (hg:s₁.gens= #[])
  (ha:s₁.heap.get? a=some { cls:=.type "list",data:=.seq vs.toArray }) (hi:IntsAre vs ns) (hl:ns.length<=sizeLine) (hr:Room k callerA)
  (F: ∀base:Heap,K.In base->base.Ns mainGlobals mg->FnOk P w K mg base CX k fa fd [x] sp) (hbind: ∀(s:Shared) (u:Value),BindsTo s fd ⟨[u],[]⟩ [(x,u)])
  (hsp: ∀H:Hp,JY H->SqL K H a (ns.map V.int)->sp [.ref a] H (fun v _=>v= .bl true) fun _ _ _=>False)
  (hCX: ∀H e s',CX [] H s₁ (fun _ _ _=>False) e s'->False):
  codeAny (model P w) callerA (.call (.ref fa) ⟨[.ref a],[]⟩) (fun r s'=>r= .ok (.ret (.bool true))/\OldK s₁.heap s'.heap/\s'.os=s₁.os/\AllBare s'.gens) s₁:=by
 have rv:=qK hi;have lenV:=hi.length
 have core: ∀H:Hp,JY H->SqL K H a (ns.map V.int)->HOk P w H s₁.heap->(∀b,H b≠none->b=a)->(H a≠none->K.lookup a=none)->
   codeAny (model P w) callerA (.call (.ref fa) ⟨[.ref a],[]⟩) (fun r s'=>r= .ok (.ret (.bool true))/\OldK s₁.heap s'.heap/\s'.os=s₁.os/\AllBare s'.gens) s₁:=by
  intro H hO hS hok hA hK;have base_of: ∀{b:Addr} {o:Obj},s₁.heap.get? b=some o->H b=none->(vW s₁.heap H).get? b=some o:=fun e n=>zgE e n
  have noA: ∀{b:Addr} {o:Obj} {es:Array DictEntry} {ep:Nat},s₁.heap.get? b=some o->o.data= .dict es ep->H b=none:=fun {b o es ep} e d=>by
   cases q:H b with
   |none=>rfl
   |some u=>
    have e':b=a:=hA b (by rw[q];simp);subst e';rw[ha] at e;cases e;have d':Data.seq vs.toArray _=Data.dict es ep:=d;cases d'
  have nsK: ∀{b:Addr} {m:Str->Option Value},s₁.heap.Ns b m->(vW s₁.heap H).Ns b m:=fun {b m} ⟨o,es,ep,e,d,r⟩=>⟨o,es,ep,base_of e (noA e d),d,r⟩
  have hKb:K.In (vW s₁.heap H):=fun b o e=>base_of (KX b o e) (by
   cases q:H b with
   |none=>rfl
   |some u=>
    have e':b=a:=hA b (by rw[q];simp);subst e';rw[hK (by rw[q];simp)] at e;cases e)
  have hM:Mod K mg (vW s₁.heap H):=⟨hKb,nsK hns,⟨mb,nsK hb,hbb⟩,let ⟨mc,h1,h2⟩:=hlim;⟨mc,nsK h1,h2⟩⟩;have e0:Env0 P w K mg (vW s₁.heap H) callerA [] s₁ H:=⟨rfl,hM,fun b o e=>zgF e,Nat.le_of_eq (zgD _ _),trivial,fun b hb=>KC (show b∈([]:List Addr) from hb) (by simp),hok,.of_eq hg⟩;refine codeAny_mono ((F _ hKb (nsK hns)).run callerA [] s₁ H ⟨[.ref a],[]⟩ [.ref a] [.ref a] _ _ hr e0 (hbind s₁ (.ref a)) (.cons rfl .nil) (hsp H hO hS)) fun r s' h=>?_
  cases r with
  |error e=>exact (hCX H e s' h).elim
  |ok fl=>
   cases fl with
   |next=>exact False.elim h
   |brk=>exact False.elim h
   |cont=>exact False.elim h
   |ret u=>
    obtain⟨v,H',os,bare,un,hok',r',q⟩:=h;have q':v= .bl true:=q;subst q';obtain rfl:u=Value.bool true:=r';refine⟨rfl,OldK.of_keep fun b o e=>?_,os,bare⟩
    cases q:H b with
    |none=>exact un.keep b o e q (by intro z;exact KC (show b∈([]:List Addr) from z) (by simp)) (by simp)
    |some u=>
     rcases hO b with z|⟨ob,xs,z⟩
     ·rw[q] at z;cases z
     ·have z2:=un.frzs b ob _ z
      obtain⟨e1,_⟩:=hok b _ z;obtain⟨e2,_⟩:=hok' b _ z2;rw[e] at e1;cases e1;exact e2
 cases hk:K.lookup a with
 |some o=>
  have e:=KX a o hk;rw[ha] at e;cases e;refine core (fun _=>none) (fun _=>.inl rfl) (.inr ⟨_,vs.toArray,_,hk,rfl,rfl,rfl,by rw[List.size_toArray,lenV];exact hl,by simpa using rv⟩) (fun b u z=>by have z':(none:Option HO)=some u:=z;cases z') (fun b z=>KC rfl z) fun z=>KC rfl z
 |none=>
  refine core (fun b=>if b=a then some (.frz { cls:=.type "list",data:=.seq vs.toArray } (.lst (ns.map V.int))) else none) (fun b=>?_) (.inl (.inr ⟨{ cls:=.type "list",data:=.seq vs.toArray },if_pos rfl⟩)) (fun b u z=>?_) (fun b z=>?_) fun _=>hk
  ·by_cases hb:b=a
   ·exact .inr ⟨_,_,if_pos hb⟩
   ·exact .inl (if_neg hb)
  ·by_cases hb:b=a
   ·have z':=(if_pos hb).symm.trans z
    cases z';subst hb;exact⟨ha,by rw[List.length_map];exact hl,vs,_,rv,ha⟩
   ·have z':=(if_neg hb).symm.trans z
    cases z'
  ·by_cases hb:b=a
   ·exact hb
   ·exact KC (if_neg hb) z
end L2
namespace L2
open PySem PySem.Spec PyProof.Rows
theorem zix{l:PySem.W.OpenLaw}{n k:Nat}{q:Program}{loose:List Str}{XP:(Str->Option Value)->Heap->Prop}{YP:World->Heap->Prop}{d:DefRec}{K:Params->Ka}{CX:World->wA}{sp:World->Sp}{x:Str}
  (hn:l.most=some n) (hn2:n<=sizeLine) (hdf:d.params.defaults=[]) (hr:Room k callerA)
  (hY: ∀(w:World) (h:Heap),YP w h->(K w.params).In h)
  (F: ∀(w:World) (mg:Str->Option Value) (fa:Addr) (h:Heap),(K w.params).In h->h.Ns mainGlobals mg->mg d.name=some (.ref fa)->
   ∃fd:FuncData,(∀(s:Shared) (u:Value),BindsTo s fd ⟨[u],[]⟩ [(x,u)])/\
    ∀base:Heap,(K w.params).In base->base.Ns mainGlobals mg->FnOk l.prog w (K w.params) mg base (CX w) k fa fd [x] (sp w))
  (hsp: ∀(w:World) (H:Hp) (a:Addr) (ns:List Int),ns.length<=n->JY H->SqL (K w.params) H a (ns.map V.int)->sp w [.ref a] H (fun v _=>v= .bl true) fun _ _ _=>False)
  (hCX: ∀(w:World) (H:Hp) (s:Shared) (e:Value) (s':Shared),CX w [] H s (fun _ _ _=>False) e s'->False):
  PySem.W.WalkO q loose XP YP l.row.toRowW d [] (fun f vs=>PySem.call f vs):=by
 refine Att.attach_call hn hdf fun w s₀ s₁ mg mb fa o pm cd doc a vs ns G Y ho hd hcd hmg hobj hints hlen hg=>?_
 have KX:=hY w _ Y;obtain⟨fd,hb,hF⟩:=F w mg fa _ KX G.T.g hmg;exact ziw KX G.T.g G.T.b G.T.builtins G.T.nolimit hg hobj hints (Kg hlen hn2) hr hF hb (fun H hO hS=>hsp w H a ns hlen hO hS) fun H e s'=>hCX w H s₁ e s'
theorem ziy{l:PySem.W.OpenLaw}{n k:Nat}{q:Program}{loose:List Str}{XP:(Str->Option Value)->Heap->Prop}{YP:World->Heap->Prop}{d:DefRec}{K:Params->Ka}{CX:wA}{sp:Ka->Sp}{x:Str}
  (hn:l.most=some n) (hn2:n<=sizeLine) (hdf:d.params.defaults=[]) (hr:Room k callerA)
  (hY: ∀(w:World) (h:Heap),YP w h->(K w.params).In h)
  (F: ∀(w:World) (mg:Str->Option Value) (fa:Addr) (h:Heap),(K w.params).In h->h.Ns mainGlobals mg->mg d.name=some (.ref fa)->
   ∃fd:FuncData,(∀(s:Shared) (u:Value),BindsTo s fd ⟨[u],[]⟩ [(x,u)])/\
    ∀base:Heap,(K w.params).In base->base.Ns mainGlobals mg->FnOk l.prog w (K w.params) mg base CX k fa fd [x] (sp (K w.params)))
  (hsp: ∀(K:Ka) (H:Hp) (a:Addr) (ns:List Int),ns.length<=n->JY H->SqL K H a (ns.map V.int)->sp K [.ref a] H (fun v _=>v= .bl true) fun _ _ _=>False)
  (hCX: ∀(H:Hp) (s:Shared) (e:Value) (s':Shared),CX [] H s (fun _ _ _=>False) e s'->False):
  PySem.W.WalkO q loose XP YP l.row.toRowW d [] (fun f vs=>PySem.call f vs):=
 zix (K:=K) (CX:=fun _=>CX) (sp:=fun w=>sp (K w.params)) hn hn2 hdf hr hY F (fun w H a ns h1 h2 h3=>hsp (K w.params) H a ns h1 h2 h3) fun _ H s e s'=>hCX H s e s'
end L2
namespace L2
open PySem PySem.Spec PyProof.Rows
noncomputable def ZS(s:Stmt):Arguments:=match s with
 | .FunctionDef _ a _ _ _ _ _ _ _ _=>a
 |_=>{ posonlyargs:=[],args:=[],vararg:=none,kwonlyargs:=[],kw_defaults:=[],kwarg:=none,defaults:=[] }
noncomputable def wY(s:Stmt):List Stmt:=match s with
 | .FunctionDef _ _ b _ _ _ _ _ _ _=>b
 |_=>[]
noncomputable def zk(s:Stmt):Scope:=match s with
 | .FunctionDef _ _ _ _ _ _ sc _ _ _=>sc
 |_=>{ kind:=.function,names:=[],isGenerator:=false,isCoroutine:=false }
noncomputable abbrev yE:wA:=fun _ _ _ _ _ _=>False
noncomputable abbrev E0:XK:=fun _ _ _=>False
theorem ZT{X:Cx}:qG yE X E0:=fun _ _ _ _ _ _ _ h=>h.elim
structure Fun (K:Ka)(x qual:Str)(st:Stmt)(f:Addr)(fd:FuncData):Prop where
 ex: ∃(oc:Value) (od:Option Addr) (kV doc pm:Value) (an:Option Addr) (cdv ct:Value) (osl:Array (Option Value)),
  fd=PySem.W.fnOf x qual (ZS st) (wY st) (zk st) .none kV doc pm an cdv ct/\K.lookup f=some ⟨oc,od,.func fd,osl⟩/\PySem.W.codeIn K cdv qual=true
 kp:PySem.W.keepIn K (.ref f)=true
section
variable {P:Program} {w:World} {K:Ka} {mg:Str->Option Value} {base:Heap}
theorem Fun.ok{x qual:Str}{st:Stmt}{f:Addr}{fd:FuncData}{N ps:List Str}{k:Nat}{sp:Sp}(F:Fun K x qual st f fd)(S:FnScope N ps (zk st))(len: ∀vs H Q E,sp vs H Q E->vs.length=ps.length)
  (hbody: ∀(cdv:Value) (A:Around) (outer:List Env) (s:Shared) (H:Hp) (vs:List V) (Q:VK) (E:XK),Room k (A.deeper (envOfC qual (zk st) s.heap.objs.size f cdv))->sp vs H Q E->
   ∃t,PSs (vy yE P w K mg base N qual (zk st) f cdv A outer s H E).nox (wY st) t/\t { nx:=fun _ H'=>Q .non H',rt:=Q } (xM N vs) H):FnOk P w K mg base yE (k+1) f fd ps sp:=by
 obtain⟨oc,od,kV,doc,pm,an,cdv,ct,osl,rfl,lk,hcd⟩:=F.ex;refine zhO lk hcd S len fun A outer s H vs Q E hr hsp=>?_
 obtain⟨t,h,q⟩:=hbody cdv A outer s H vs Q E hr hsp;exact⟨t,h.nox,q⟩
theorem Fun.binds{x qual:Str}{st:Stmt}{f:Addr}{fd:FuncData}{ps:List Str}(F:Fun K x qual st f fd)
  (h: ∀(kV doc pm:Value) (an:Option Addr) (cdv ct:Value) (us:List Value),us.length=ps.length->bindArgs (PySem.W.fnOf x qual (ZS st) (wY st) (zk st) .none kV doc pm an cdv ct) ⟨us,[]⟩=pure (ps.zip us)):Binds K fd ps []:=by
 obtain⟨oc,od,kV,doc,pm,an,cdv,ct,osl,rfl,lk,hcd⟩:=F.ex;exact .all (h kV doc pm an cdv ct)
theorem ziz{x qual:Str}{st:Stmt}{f:Addr}{oc:Value}{od an:Option Addr}{osl:Array (Option Value)}{kV doc pm cdv ct:Value}(l:K.lookup f=some ⟨oc,od,.func (PySem.W.fnOf x qual (ZS st) (wY st) (zk st) .none kV doc pm an cdv ct),osl⟩)
  (c:PySem.W.codeIn K cdv qual=true) (k:PySem.W.keepIn K (.ref f)=true):Fun K x qual st f (PySem.W.fnOf x qual (ZS st) (wY st) (zk st) .none kV doc pm an cdv ct):=⟨⟨oc,od,kV,doc,pm,an,cdv,ct,osl,rfl,l,c⟩,k⟩
end
theorem Xo{n:Nat}(h:n<=1000):n<sizeLine:=Nat.lt_of_le_of_lt h (by decide)
theorem Xp{A B:Prop}(h:B):if false=true then A else B:=by
 rw[if_neg Km];exact h
theorem ZU{A B:Prop}(h:A):if true=true then A else B:=by
 rw[if_pos rfl];exact h
noncomputable def Same(H H':Hp):Prop:=∀b o,H b=some o->H' b=some o
theorem Same.refl(H:Hp):Same H H:=fun _ _ h=>h
theorem Same.trans{H H1 H2:Hp}(a:Same H H1)(b:Same H1 H2):Same H H2:=fun c o h=>b c o (a c o h)
theorem Same.free{H H':Hp}(e:Same H H'){l:Addr}(h:H' l=Option.none):H l=Option.none:=by
 cases q:H l with
 |none=>rfl
 |some o=>
  rw[e l o q] at h;cases h
theorem Same.seq{K:Ka}{H H':Hp}{a:Addr}{xs:List V}(e:Same H H')(h:SqL K H a xs):SqL K H' a xs:=by
 rcases h with (h|⟨o,h⟩)|h
 ·exact .inl (.inl (e _ _ h))
 ·exact .inl (.inr ⟨o,e _ _ h⟩)
 ·exact .inr h
end L2
namespace L2.LW
open PySem
set_option genSizeOf false
inductive D where
 |int (i:Int)|bl (b:Bool)|non|str (x:Str)|tup (l:List D)|lst (l:List D)
 |dct (t:Bool) (ks vs:List D)
mutual
noncomputable def zH:D->D->Bool
 | .int a,.int b=>a==b
 | .bl a,.bl b=>a==b
 | .int a,.bl b=>a==(if b then 1 else 0)
 | .bl a,.int b=>(if a then 1 else 0)==b
 | .non,.non=>true
 | .str a,.str b=>a==b
 | .tup xs,.tup ys=>yW xs ys
 | .lst xs,.lst ys=>yW xs ys
 |_,_=>false
noncomputable def yW:List D->List D->Bool
 |[],[]=>true
 |x::xs,y::ys=>zH x y&&yW xs ys
 |_,_=>false
end
mutual
noncomputable def plain:D->Bool
 | .lst _=>false
 | .dct _ _ _=>false
 | .tup l=>yX l
 |_=>true
noncomputable def yX:List D->Bool
 |[]=>true
 |x::xs=>plain x&&yX xs
end
inductive SV where
 |val (d:D)|obj (o:Bool) (d:D)|io (d:D)
noncomputable abbrev SV.lis(o:Bool)(ds:List D):SV:=.obj o (.lst ds)
noncomputable def toD:SV->Option D
 | .val d=>some d
 | .obj true d=>some d
 |_=>none
noncomputable def zI:SV->D
 | .val d=>d
 | .obj _ d=>d
 | .io d=>d
noncomputable def SV.lent:SV->Bool
 | .val _=>false
 | .obj true _=>false
 |_=>true
noncomputable def wM:D->Bool
 | .lst ds=>yX ds
 | .dct _ _ vs=>yX vs
 |d=>plain d
noncomputable def SV.plain:SV->Bool
 | .val d=>LW.plain d
 | .obj _ d=>wM d
 | .io _=>false
noncomputable abbrev Env:=List (Option SV)
inductive Ty where
 |bool|int|str|list|tuple
 deriving DecidableEq
inductive Prim where
 |add|sub|mul|fdiv|mod|neg|eq|ne|lt|le|gt|notN|inn|nin|idx|len|abs|min2|max2|sorted|skeys|shl|band|bor|bxor|blen|dget|toTup|all|inst (t:Ty)|cutTo|maxL|sumL
set_option genInjectivity false
mutual
inductive E where
 |int (i:Int)|bl (b:Bool)|non|str (x:Str)
 |var (i:Nat)
 |prim (p:Prim) (es:Es)
 |tup (es:Es)|lst (es:Es)
 |and (a b:E)|or (a b:E)|not (a:E)
 |chain (p q:Prim) (a b c:E)
 |ite (c a b:E)
 |call (f:Nat) (es:Es)
 |comp (rng:Bool) (src:Es) (cond elt:E)
 |dnew (t:Bool)|done (t:Bool) (k v:E)
 |compE (src cond elt:E)
inductive Es where
 |nil|cons (e:E) (es:Es)
end
set_option genInjectivity true
noncomputable def wZ:Ty->D->Bool
 | .bool,.bl _=>true
 | .int,.int _=>true
 | .int,.bl _=>true
 | .str,.str _=>true
 | .list,.lst _=>true
 | .tuple,.tup _=>true
 |_,_=>false
noncomputable def ints? :List D->Option (List Int)
 |[]=>some []
 | .int i::r=>(ints? r).map (i:: ·)
 |_=>none
noncomputable def lexLt:List Int->List Int->Bool
 |_,[]=>false
 |[],_::_=>true
 |x::xs,y::ys=>if x=y then lexLt xs ys else decide (x<y)
noncomputable def ixN(n:Nat)(i:Int):Option Nat:=if 0<=i then (if i<n then some i.toNat else none) else if -(n:Int)<=i then some (i+n).toNat else none
noncomputable def atI{α:Type}(xs:List α)(i:Int):Option α:=(ixN xs.length i).bind fun j=>xs[j]?
noncomputable def bools? :List D->Option (List Bool)
 |[]=>some []
 | .bl i::r=>(bools? r).map (i:: ·)
 |_=>none
noncomputable def line:Nat:=16777216
noncomputable def xS:D->Option (List D)
 | .tup l=>some l
 | .lst l=>some l
 |_=>none
noncomputable def tups? :List D->Option (List (List Int))
 |[]=>some []
 | .tup l::r=>(ints? l).bind fun x=>(tups? r).map (x:: ·)
 |_=>none
noncomputable def Zj(x:List Int):List (List Int)->List (List Int)
 |[]=>[x]
 |y::r=>if lexLt x y then x::y::r else y::Zj x r
noncomputable def vz:List (List Int)->List (List Int)
 |[]=>[]
 |x::r=>Zj x (vz r)
noncomputable def ZV(l:List Int):List Int:=l.mergeSort (fun a b=>decide (a<=b))
noncomputable def zx:Nat->D->Bool
 |_,.int _=>true
 |_,.bl _=>true
 |_,.non=>true
 |_,.str _=>false
 |0,_=>false
 |n+1,.tup l=>l.all (zx n)
 |n+1,.lst l=>l.all (zx n)
 |_+1,.dct _ _ _=>false
noncomputable def yC:Bool->D->Bool
 |false,.int _=>true
 |true,.tup l=>(ints? l).isSome
 |_,_=>false
noncomputable def yF(ks:List D)(k:D):Option Nat:=ks.findIdx? fun x=>zH x k
noncomputable def dget(ks vs:List D)(k:D):Option D:=(yF ks k).bind fun i=>vs[i]?
noncomputable def xm(t:Bool)(ks vs:List D)(k v:D):D:=if (yF ks k).isSome then .dct t ks (List.zipWith (fun k' v'=>if zH k' k then v else v') ks vs) else .dct t (ks++[k]) (vs++[v])
noncomputable def yl(r:Int):Option SV:=some (.val (.int r))
noncomputable def yG(r:Bool):Option SV:=some (.val (.bl r))
noncomputable def JZ:List D->Option SV
 |[.int a,.int b]=>yl (a+b)
 |[.lst a,.lst b]=>if a.length+b.length<=line then some (SV.obj true (.lst (a++b))) else none
 |_=>none
noncomputable def qL:List D->Option SV
 |[.int a,.int b]=>yl (a-b)
 |_=>none
noncomputable def Xq:List D->Option SV
 |[.int a,.int b]=>if (-(2 ^ 64)<a/\a<2 ^ 64)\/(-(2 ^ 64)<b/\b<2 ^ 64) then yl (a*b) else none
 |_=>none
noncomputable def Qa:List D->Option SV
 |[.int a,.int b]=>if 0<b/\b<1073741824 then yl (a/b) else none
 |_=>none
noncomputable def Qb:List D->Option SV
 |[.int a,.int b]=>if 0<b then yl (a%b) else none
 |_=>none
noncomputable def qM:List D->Option SV
 |[.int a]=>yl (-a)
 |_=>none
noncomputable def Xr:List D->Option SV
 |[a,b]=>if zx 8 a&&zx 8 b then yG (zH a b) else none
 |_=>none
noncomputable def Xs:List D->Option SV
 |[a,b]=>if zx 8 a&&zx 8 b then yG (!zH a b) else none
 |_=>none
noncomputable def Xu:List D->Option SV
 |[.int a,.int b]=>yG (decide (a<b))
 |[.tup a,.tup b]=>(ints? a).bind fun x=>(ints? b).bind fun y=>yG (lexLt x y)
 |_=>none
noncomputable def Qc:List D->Option SV
 |[.int a,.int b]=>yG (decide (a<=b))
 |_=>none
noncomputable def Qd:List D->Option SV
 |[.int a,.int b]=>yG (decide (b<a))
 |[.tup a,.tup b]=>(ints? a).bind fun x=>(ints? b).bind fun y=>yG (lexLt y x)
 |_=>none
noncomputable def vc:D->Bool
 | .non=>true
 |_=>false
noncomputable def zcz:List D->Option SV
 |[d]=>yG (!vc d)
 |_=>none
noncomputable def ZW:List D->Option SV
 |[x,.dct t ks _]=>if yC t x then yG (yF ks x).isSome else none
 |[x,.tup l]=>if zx 8 x&&l.all (zx 8) then yG (l.any fun y=>zH y x) else none
 |[x,.lst l]=>if zx 8 x&&l.all (zx 8) then yG (l.any fun y=>zH y x) else none
 |_=>none
noncomputable def ja:List D->Option SV
 |[x,.dct t ks _]=>if yC t x then yG (!(yF ks x).isSome) else none
 |[x,.tup l]=>if zx 8 x&&l.all (zx 8) then yG (!l.any fun y=>zH y x) else none
 |[x,.lst l]=>if zx 8 x&&l.all (zx 8) then yG (!l.any fun y=>zH y x) else none
 |_=>none
noncomputable def jb:List D->Option SV
 |[.dct t ks vs,k]=>if yC t k then (dget ks vs k).map .val else none
 |[.tup l,.int i]=>(atI l i).map .val
 |[.lst l,.int i]=>(atI l i).map .val
 |_=>none
noncomputable def qO:List D->Option SV
 |[.tup l]=>yl l.length
 |[.lst l]=>yl l.length
 |_=>none
noncomputable def qP:List D->Option SV
 |[.int i]=>yl (if i<0 then -i else i)
 |_=>none
noncomputable def qQ:List D->Option SV
 |[.int i,.int j]=>yl (if j<i then j else i)
 |_=>none
noncomputable def qR:List D->Option SV
 |[.int i,.int j]=>yl (if j>i then j else i)
 |_=>none
noncomputable def Qf(l:List D):Option SV:=match ints? l with
 |some ns=>if ns.length<64 then some (.obj true (.lst ((ZV ns).map .int))) else none
 |none=>(tups? l).bind fun ks=>if ks.length<64/\ks.Nodup/\ks.all (fun k=> !k.isEmpty)=true then some (.obj true (.lst ((vz ks).map fun k=>.tup (k.map .int)))) else none
noncomputable def qS:List D->Option SV
 |[.lst l]=>Qf l
 |_=>none
noncomputable def Xv(l:List D):Option SV:=(tups? l).bind fun ks=>if ks.length<64/\ks.Nodup/\ks.all (fun k=> !k.isEmpty)=true then some (.obj true (.lst ((vz ks).map fun k=>.tup (k.map .int)))) else none
noncomputable def Xw:List D->Option SV
 |[.dct true ks _]=>Xv ks
 |_=>none
noncomputable def qT:List D->Option SV
 |[.tup l]=>some (.val (.tup l))
 |[.lst l]=>some (.val (.tup l))
 |_=>none
noncomputable def Qg:List D->Option SV
 |[.lst l]=>(bools? l).bind fun bs=>yG (bs.all id)
 |_=>none
noncomputable def zcA(t:Ty):List D->Option SV
 |[d]=>yG (wZ t d)
 |_=>none
noncomputable def Qh:List D->Option SV
 |[.lst l,.int k]=>if 0<=k then some (SV.obj true (.lst (l.take k.toNat))) else none
 |_=>none
noncomputable def Qi:List D->Option SV
 |[.lst l]=>(ints? l).bind fun ns=>match ns with
  |[]=>none
  |n::r=>yl (r.foldl max n)
 |_=>none
noncomputable def Qj:List D->Option SV
 |[.lst l]=>(ints? l).bind fun ns=>yl ns.sum
 |[.tup l]=>(ints? l).bind fun ns=>yl ns.sum
 |_=>none
noncomputable def vd(n:Nat):Nat:=if n=0 then 0 else n.log2+1
noncomputable def Xx:List D->Option SV
 |[.int a,.int n]=>if 0<=a/\a<1048576/\0<=n/\n<64 then yl (a*2 ^ n.toNat) else none
 |_=>none
noncomputable def Xy:List D->Option SV
 |[.int a,.int b]=>if 0<=a/\0<=b then yl ((a.toNat&&& b.toNat:Nat):Int) else none
 |_=>none
noncomputable def Xz:List D->Option SV
 |[.int a,.int b]=>if 0<=a/\0<=b then yl ((a.toNat|||b.toNat:Nat):Int) else none
 |_=>none
noncomputable def XA:List D->Option SV
 |[.int a,.int b]=>if 0<=a/\0<=b then yl ((a.toNat ^^^ b.toNat:Nat):Int) else none
 |_=>none
noncomputable def XB:List D->Option SV
 |[.int a]=>if 0<=a then yl (vd a.toNat:Nat) else none
 |_=>none
noncomputable def XC:List D->Option SV
 |[.dct false ks vs,.int k,.int i]=>match dget ks vs (.int k) with
  |some (.int v)=>yl v
  |none=>yl i
  |_=>none
 |_=>none
noncomputable def zg:Prim->List D->Option SV
 | .add=>JZ| .sub=>qL| .mul=>Xq| .fdiv=>Qa| .mod=>Qb| .neg=>qM| .eq=>Xr| .ne=>Xs| .lt=>Xu| .le=>Qc| .gt=>Qd
 | .notN=>zcz| .inn=>ZW| .nin=>ja| .idx=>jb| .len=>qO| .abs=>qP| .min2=>qQ| .max2=>qR
 | .sorted=>qS| .skeys=>Xw| .shl=>Xx| .band=>Xy| .bor=>Xz| .bxor=>XA| .blen=>XB| .dget=>XC| .toTup=>qT| .all=>Qg| .inst t=>zcA t| .cutTo=>Qh| .maxL=>Qi| .sumL=>Qj
noncomputable def yH:SV->Option Bool
 | .val (.bl b)=>some b
 | .val (.int i)=>some (i != 0)
 | .val .non=>some false
 | .val (.tup l)=>some (!l.isEmpty)
 | .val (.lst l)=>some (!l.isEmpty)
 | .obj _ (.lst l)=>some (!l.isEmpty)
 |_=>none
noncomputable def look(ρ:Env)(i:Nat):Option SV:=match ρ[i]? with
 |some (some (.val d))=>some (.val d)
 |some (some (.obj _ d))=>some (.obj false d)
 |some (some (.io d))=>some (.obj false d)
 |_=>none
noncomputable def free(ρ:Env)(i:Nat):Bool:=match ρ[i]? with
 |some (some (.io _))=>false
 |_=>true
noncomputable def SV.cell:SV->Option D
 | .obj true d=>some d
 | .io d=>some d
 |_=>none
noncomputable def SV.put:SV->D->SV
 | .io _,d=>.io d
 |_,d=>.obj true d
noncomputable def vA(j:Int):Prop:= -(2 ^ 62)<=j/\j<2 ^ 62
noncomputable instance (j:Int):Decidable (vA j):=by unfold vA;exact inferInstance
noncomputable def yy:Bool->List SV->Option (List D)
 |false,[r]=>xS (zI r)
 |false,[.val (.lst l),.val .non]=>some l.reverse
 |true,[.val (.int n)]=>if vA n then some ((List.range n.toNat).map fun (k:Nat)=>D.int (0+(k:Int))) else none
 |true,[.val (.int a),.val (.int b)]=>if vA a/\vA b then some ((List.range (b-a).toNat).map fun (k:Nat)=>D.int (a+(k:Int))) else none
 |_,_=>none
noncomputable def yY(test:D->Option Bool)(elt:D->Option SV):List D->Option (List D)
 |[]=>some []
 |d::r=>(test d).bind fun b=>match b with
  |true=>(elt d).bind fun x=>(toD x).bind fun y=>(yY test elt r).map (y:: ·)
  |false=>yY test elt r
noncomputable def vC{α:Type}(p:D)(f:D->D->Option α):Option α:=match p with
 | .tup [a,b]=>f a b
 |_=>none
noncomputable def XD:SV->Option (List D)
 | .val (.tup l)=>some l
 |_=>none
noncomputable def xB:Nat->List D->List D
 |_,[]=>[]
 |k,d::r=>.tup [.int k,d]::xB (k+1) r
noncomputable def wB(rs:List SV)(r:Option SV):Option SV:=r.bind fun x=>if rs.any SV.lent&& !x.plain then none else some x
noncomputable def xT:List SV->Option (List D)
 |[]=>some []
 |r::rs=>(toD r).bind fun d=>(xT rs).map (d:: ·)
mutual
noncomputable def zo(fn:Nat->List D->Option SV):E->Env->Option SV
 | .int i,_=>some (.val (.int i))
 | .bl b,_=>some (.val (.bl b))
 | .non,_=>some (.val .non)
 | .str x,_=>some (.val (.str x))
 | .var i,ρ=>look ρ i
 | .prim p es,ρ=>(yj fn es ρ).bind fun rs=>zg p (rs.map zI)
 | .tup es,ρ=>(yj fn es ρ).bind fun rs=>(xT rs).map fun ds=>.val (.tup ds)
 | .lst es,ρ=>(yj fn es ρ).bind fun rs=>(xT rs).map fun ds=>SV.obj true (.lst ds)
 | .and a b,ρ=>(zo fn a ρ).bind fun r=>match r with
  | .val (.bl true)=>zo fn b ρ
  | .val (.bl false)=>some (.val (.bl false))
  |_=>none
 | .or a b,ρ=>(zo fn a ρ).bind fun r=>match r with
  | .val (.bl true)=>some (.val (.bl true))
  | .val (.bl false)=>zo fn b ρ
  |_=>none
 | .not a,ρ=>(zo fn a ρ).bind fun r=>match r with
  | .val (.bl b)=>some (.val (.bl (!b)))
  |_=>none
 | .chain p q a b c,ρ=>(zo fn a ρ).bind fun x=>(zo fn b ρ).bind fun y=>(zg p [zI x,zI y]).bind fun z=>match z with
  | .val (.bl true)=>(zo fn c ρ).bind fun w=>zg q [zI y,zI w]
  | .val (.bl false)=>some (.val (.bl false))
  |_=>none
 | .ite c a b,ρ=>(zA fn c ρ).bind fun k=>if k then zo fn a ρ else zo fn b ρ
 | .call f es,ρ=>(yj fn es ρ).bind fun rs=>wB rs (fn f (rs.map zI))
 | .dnew t,_=>some (.obj true (.dct t [] []))
 | .done t k v,ρ=>(zo fn k ρ).bind fun x=>(zo fn v ρ).bind fun y=>(toD x).bind fun a=>(toD y).bind fun b=>if yC t a then some (.obj true (.dct t [a] [b])) else none
 | .comp rng src cond elt,ρ=>(yj fn src ρ).bind fun rs=>(yy rng rs).bind fun ds=>
  if ds.length<=line then (yY (fun d=>zA fn cond (some (.val d)::ρ)) (fun d=>zo fn elt (some (.val d)::ρ)) ds).map fun l=>SV.obj true (.lst l) else none
 | .compE src cond elt,ρ=>(zo fn src ρ).bind fun r=>(XD r).bind fun ds=>
  if ds.length<=line then (yY (fun p=>vC p fun a b=>zA fn cond (some (.val a)::some (.val b)::ρ)) (fun p=>vC p fun a b=>zo fn elt (some (.val a)::some (.val b)::ρ)) (xB 0 ds)).map fun l=>SV.obj true (.lst l) else none
noncomputable def yj(fn:Nat->List D->Option SV):Es->Env->Option (List SV)
 | .nil,_=>some []
 | .cons e es,ρ=>(zo fn e ρ).bind fun r=>(yj fn es ρ).map (r:: ·)
noncomputable def zA(fn:Nat->List D->Option SV):E->Env->Option Bool
 | .and a b,ρ=>(zA fn a ρ).bind fun k=>if k then zA fn b ρ else some false
 | .or a b,ρ=>(zA fn a ρ).bind fun k=>if k then some true else zA fn b ρ
 | .not a,ρ=>(zA fn a ρ).map (!·)
 | .int i,_=>some (i != 0)
 | .bl b,_=>some b
 | .non,_=>some false
 | .str _,_=>none
 | .var i,ρ=>(look ρ i).bind yH
 | .prim p es,ρ=>(yj fn es ρ).bind fun rs=>(zg p (rs.map zI)).bind yH
 | .tup _,_=>none
 | .lst _,_=>none
 | .chain p q a b c,ρ=>(zo fn a ρ).bind fun x=>(zo fn b ρ).bind fun y=>(zg p [zI x,zI y]).bind fun z=>match z with
  | .val (.bl true)=>(zo fn c ρ).bind fun w=>(zg q [zI y,zI w]).bind yH
  | .val (.bl false)=>some false
  |_=>none
 | .ite _ _ _,_=>none
 | .call f es,ρ=>(yj fn es ρ).bind fun rs=>(wB rs (fn f (rs.map zI))).bind yH
 | .comp rng src cond elt,ρ=>(yj fn src ρ).bind fun rs=>(yy rng rs).bind fun ds=>
  if ds.length<=line then (yY (fun d=>zA fn cond (some (.val d)::ρ)) (fun d=>zo fn elt (some (.val d)::ρ)) ds).map fun l=> !l.isEmpty else none
 | .dnew _,_=>none
 | .done _ _ _,_=>none
 | .compE _ _ _,_=>none
end
inductive Ans where
 |ok (r:SV) (outs:List D)
 |ex (c:Nat)
noncomputable def zE(fa:Nat->List D->Option Ans)(f:Nat)(ds:List D):Option SV:=match fa f ds with
 |some (.ok r [])=>some r
 |_=>none
set_option genInjectivity false
inductive MA where
 |nil|e (c:E) (r:MA)|s (i:Nat) (r:MA)|n (t:Bool) (r:MA)
inductive AV where
 |e (d:D)|l (ds:List D)|s (i:Nat) (d:D)|n (t:Bool)
inductive M where
 |call (f:Nat) (ma:MA)
 |op (p:Prim) (a:E) (m:M)
set_option genInjectivity true
noncomputable def vD:D->Bool
 | .dct _ _ vs=>yX vs
 |_=>false
noncomputable def SV.fine:SV->Bool
 | .val d=>LW.plain d
 | .obj true d=>wM d
 |_=>false
noncomputable def jA:SV->Option AV
 | .val (.lst ds)=>if yX ds then some (.l ds) else none
 | .val d=>if plain d then some (.e d) else none
 | .obj _ (.lst ds)=>if yX ds then some (.l ds) else none
 |_=>none
noncomputable def jB(ρ:Env)(i:Nat):Option D:=match ρ[i]? with
 |some (some x)=>x.cell
 |_=>none
noncomputable def yZ(fn:Nat->List D->Option SV):MA->Env->Option (List AV)
 | .nil,_=>some []
 | .e c r,ρ=>(zo fn c ρ).bind fun x=>(jA x).bind fun a=>(yZ fn r ρ).map (a:: ·)
 | .s i r,ρ=>(jB ρ i).bind fun d=>if vD d then (yZ fn r ρ).map (.s i d:: ·) else none
 | .n t r,ρ=>(yZ fn r ρ).map (.n t:: ·)
noncomputable def Zk:AV->D
 | .e d=>d
 | .l ds=>.lst ds
 | .s _ d=>d
 | .n t=>.dct t [] []
noncomputable def ZX(ρ:Env)(i:Nat)(d:D):Env:=match ρ[i]? with
 |some (some x)=>ρ.set i (some (x.put d))
 |_=>ρ
noncomputable def xn(ρ:Env):List AV->List D->Option Env
 |[],[]=>some ρ
 | .s i _::r,d::ds=>xn (ZX ρ i d) r ds
 | .n _::r,_::ds=>xn ρ r ds
 | .e _::r,ds=>xn ρ r ds
 | .l _::r,ds=>xn ρ r ds
 |_,_=>none
noncomputable def ve(fa:Nat->List D->Option Ans):M->Env->Option (SV×Env)
 | .call f ma,ρ=>(yZ (zE fa) ma ρ).bind fun xs=>(fa f (xs.map Zk)).bind fun a=>match a with
  | .ok r outs=>if r.fine&&outs.all wM then (xn ρ xs outs).map fun ρ'=>(r,ρ') else none
  | .ex _=>none
 | .op p a m,ρ=>(zo (zE fa) a ρ).bind fun x=>match x with
  | .val d=>if plain d then (ve fa m ρ).bind fun y=>(zg p [d,zI y.1]).map fun z=>(z,y.2) else none
  |_=>none
set_option genInjectivity false
mutual
inductive S where
 |expr (e:E)|asg (i:Nat) (e:E)|mov (i j:Nat)|app (i:Nat) (e:E)|dset (i:Nat) (k v:E)|dupd (i j:Nat)|exprM (m:M)|ifO (c:E) (m:M) (a b:Ss)|ret (e:E)|retV (i:Nat)|ifs (c:E) (a b:Ss)|for_ (i:Nat) (rng:Bool) (src:Es) (body:Ss)|forV (i j:Nat) (body:Ss)|forK (i j:Nat) (body:Ss)|while_ (c:E) (body:Ss)|frz (js:List Nat) (s:S)|stop|wipe (f:Nat)
inductive Ss where
 |nil|cons (s:S) (ss:Ss)
end
set_option genInjectivity true
inductive Fl where
 |nx|br|ct|rt (r:SV)
noncomputable def yq(i:Nat)(body:Env->Option (Fl×Env)):List D->Env->Option (Fl×Env)
 |[],ρ=>some (.nx,ρ)
 |d::r,ρ=>(body (ρ.set i (some (.val d)))).bind fun x=>match x.1 with
  | .nx=>yq i body r x.2
  | .ct=>yq i body r x.2
  | .br=>some (.nx,x.2)
  | .rt v=>some (.rt v,x.2)
noncomputable def XE:D->Bool
 | .tup [.int a,.int b]=>decide (0<=a/\a<=7/\0<=b/\b<=7)
 |_=>false
noncomputable def vf(ks vs:List D):List D->List D->List D×List D
 |k::ks2,v::vs2=>match xm true ks vs k v with
  | .dct _ a b=>vf a b ks2 vs2
  |_=>(ks,vs)
 |_,_=>(ks,vs)
noncomputable def Qk(ρ:Env)(i:Nat)(x:SV):Option D->Option D->Option (Fl×Env)
 |some (.dct true ks vs),some (.dct true ks2 vs2)=>if ks2.all XE&&decide (ks.length+ks2.length<line) then some (.nx,ρ.set i (some (x.put (.dct true (vf ks vs ks2 vs2).1 (vf ks vs ks2 vs2).2)))) else none
 |_,_=>none
noncomputable def XF(ρ:Env)(i j:Nat):Option (Fl×Env):=if i=j then none else match ρ[i]? with
 |some (some x)=>Qk ρ i x x.cell (jB ρ j)
 |_=>none
noncomputable def xE(test:Env->Option Bool)(body:Env->Option (Fl×Env)):Nat->Env->Option (Fl×Env)
 |0,_=>none
 |n+1,ρ=>(test ρ).bind fun b=>if b then (body ρ).bind fun x=>(match x.1 with
  | .nx=>xE test body n x.2
  | .ct=>xE test body n x.2
  | .br=>some (.nx,x.2)
  | .rt v=>some (.rt v,x.2)) else some (.nx,ρ)
noncomputable def ZY(ρ:Env)(j:Nat):Option (List D×Env):=match ρ[j]? with
 |some (some (.val d))=>(xS d).map fun l=>(l,ρ)
 |some (some (.obj _ (.lst ds)))=>some (ds,ρ.set j (some (.val (.lst ds))))
 |_=>none
noncomputable def XG(ρ:Env)(j:Nat):Option (List D):=match ρ[j]? with
 |some (some (.val (.dct false ks _)))=>some ks
 |_=>none
noncomputable def Ql:Fl×Env->Option (Fl×Env)
 |(.nx,ρ)=>some (.nx,ρ)
 |_=>none
noncomputable def jC(ρ:Env)(j:Nat):Env:=match ρ[j]? with
 |some (some (.obj true d))=>ρ.set j (some (.val d))
 |_=>ρ
noncomputable def zV:Nat->D->Bool
 |0,_=>false
 |n+1,.lst l=>l.all (zV n)
 |_+1,d=>plain d
noncomputable def XH(g:List D->Option SV):Env->Option (Fl×Env)
 |[some (.val s),some (.val fl),some (.val lp),none,none,none]=>if plain fl&&plain lp then (match g [fl,lp] with
  |some (.obj true (.lst ds))=>if ds.all (zV 4) then some (.nx,[none,some (.val fl),some (.val lp),none,some (.val (.lst ds)),none]) else none
  |_=>none) else none
 |_=>none
mutual
noncomputable def zF(fa:Nat->List D->Option Ans)(fuel:Nat):S->Env->Option (Fl×Env)
 | .expr e,ρ=>(zo (zE fa) e ρ).map fun _=>(.nx,ρ)
 | .asg i e,ρ=>(zo (zE fa) e ρ).bind fun r=>if r.lent|| !free ρ i then none else some (.nx,ρ.set i (some r))
 | .mov i j,ρ=>if free ρ i then (match ρ[j]? with
  |some (some (.val d))=>some (.nx,ρ.set i (some (.val d)))
  |some (some (.obj _ d))=>some (.nx,(ρ.set j (some (.val d))).set i (some (.val d)))
  |_=>none) else none
 | .app i e,ρ=>match ρ[i]? with
  |some (some x)=>(match x.cell with
   |some (.lst ds)=>(zo (zE fa) e ρ).bind fun r=>(toD r).bind fun d=>if ds.length<line then some (.nx,ρ.set i (some (x.put (.lst (ds++[d]))))) else none
   |_=>none)
  |_=>none
 | .dupd i j,ρ=>XF ρ i j
 | .dset i k v,ρ=>match ρ[i]? with
  |some (some x)=>(match x.cell with
   |some (.dct t ks vs)=>(zo (zE fa) v ρ).bind fun r=>(toD r).bind fun d=>(zo (zE fa) k ρ).bind fun r=>(toD r).bind fun a=>if yC t a&&decide (ks.length<line) then some (.nx,ρ.set i (some (x.put (xm t ks vs a d)))) else none
   |_=>none)
  |_=>none
 | .exprM m,ρ=>(ve fa m ρ).map fun x=>(.nx,x.2)
 | .ifO c m a b,ρ=>(zA (zE fa) c ρ).bind fun k=>if k then zr fa fuel a ρ else (ve fa m ρ).bind fun x=>(yH x.1).bind fun k=>if k then zr fa fuel a x.2 else zr fa fuel b x.2
 | .ret e,ρ=>(zo (zE fa) e ρ).bind fun r=>if r.lent then none else some (.rt r,ρ)
 | .retV i,ρ=>match ρ[i]? with
  |some (some (.val d))=>some (.rt (.val d),ρ)
  |some (some (.obj _ d))=>some (.rt (.obj true d),ρ.set i none)
  |_=>none
 | .ifs c a b,ρ=>(zA (zE fa) c ρ).bind fun k=>if k then zr fa fuel a ρ else zr fa fuel b ρ
 | .for_ i rng src body,ρ=>(yj (zE fa) src ρ).bind fun rs=>if rs.any SV.lent|| !free ρ i then none else (yy rng rs).bind fun ds=>yq i (zr fa fuel body) ds ρ
 | .forV i j body,ρ=>if free ρ i then (ZY ρ j).bind fun x=>yq i (zr fa fuel body) x.1 x.2 else none
 | .forK i j body,ρ=>if free ρ i then (XG ρ j).bind fun ks=>(yq i (zr fa fuel body) ks ρ).bind Ql else none
 | .while_ c body,ρ=>xE (zA (zE fa) c) (zr fa fuel body) fuel ρ
 | .frz js s,ρ=>zF fa fuel s (js.foldl jC ρ)
 | .stop,_=>none
 | .wipe f,ρ=>XH (zE fa f) ρ
noncomputable def zr(fa:Nat->List D->Option Ans)(fuel:Nat):Ss->Env->Option (Fl×Env)
 | .nil,ρ=>some (.nx,ρ)
 | .cons s ss,ρ=>(zF fa fuel s ρ).bind fun x=>match x.1 with
  | .nx=>zr fa fuel ss x.2
  |_=>some x
end
abbrev Ts:=Empty
inductive FlX where
 |fl (f:Fl)|ex (c:Nat)
def ziA(fa:Nat->List D->Option Ans)(fuel:Nat)(t:Ts)(_:Env):Option (FlX×Env):=nomatch t
structure Fn where
 np:Nat
 nl:Nat
 body:Ss
 io:List Nat:=[]
 xb:Option Ts:=none
noncomputable def ziB:Option (FlX×Env)->Option Ans
 |some (.fl (.rt r),_)=>some (.ok r [])
 |some (.fl .nx,_)=>some (.ok (.val .non) [])
 |some (.ex c,_)=>some (.ex c)
 |_=>none
noncomputable def wN(ρ:Env):List Nat->Option (List D)
 |[]=>some []
 |i::r=>match ρ[i]? with
  |some (some (.io d))=>(wN ρ r).map (d:: ·)
  |_=>none
noncomputable def jc(io:List Nat):Option (Fl×Env)->Option Ans
 |some (.rt r,ρ)=>(wN ρ io).map (Ans.ok r)
 |some (.nx,ρ)=>(wN ρ io).map (Ans.ok (.val .non))
 |_=>none
noncomputable def wn(io:List Nat):Nat->List D->Env
 |_,[]=>[]
 |k,d::r=>some (if io.contains k then .io d else .val d)::wn io (k+1) r
noncomputable def zC(P:Nat->Option Fn)(fuel:Nat):Nat->Nat->List D->Option Ans
 |0,_,_=>none
 |n+1,f,ds=>(P f).bind fun F=>if ds.length=F.np then (match F.xb with
  |none=>jc F.io (zr (zC P fuel n) fuel F.body (wn F.io 0 ds++List.replicate (F.nl-F.np) none))
  |some t=>ziB (ziA (zC P fuel n) fuel t (wn [] 0 ds++List.replicate (F.nl-F.np) none))) else none
noncomputable def zv(P:Nat->Option Fn)(fuel n:Nat):Nat->List D->Option SV:=zE (zC P fuel n)
theorem zcB{fn i ρ}:zo fn (E.int i) ρ=(some (.val (.int i))):=id rfl
theorem ziC{fn b ρ}:zo fn (E.bl b) ρ=(some (.val (.bl b))):=id rfl
theorem ziD{fn ρ}:zo fn (E.non) ρ=(some (.val .non)):=id rfl
theorem ziE{fn x ρ}:zo fn (E.str x) ρ=(some (.val (.str x))):=id rfl
theorem ziF{fn i ρ}:zo fn (E.var i) ρ=(look ρ i):=id rfl
theorem vg{fn p es ρ}:zo fn (E.prim p es) ρ=((yj fn es ρ).bind fun rs=>zg p (rs.map zI)):=id rfl
theorem ziG{fn es ρ}:zo fn (E.tup es) ρ=((yj fn es ρ).bind fun rs=>(xT rs).map fun ds=>.val (.tup ds)):=id rfl
theorem ziH{fn es ρ}:zo fn (E.lst es) ρ=((yj fn es ρ).bind fun rs=>(xT rs).map fun ds=>SV.obj true (.lst ds)):=id rfl
theorem ziI{fn a b ρ}:zo fn (E.and a b) ρ=((zo fn a ρ).bind fun r=>match r with
  | .val (.bl true)=>zo fn b ρ
  | .val (.bl false)=>some (.val (.bl false))
  |_=>none):=id rfl
theorem ziJ{fn p q a b c ρ}:zo fn (E.chain p q a b c) ρ=((zo fn a ρ).bind fun x=>(zo fn b ρ).bind fun y=>(zg p [zI x,zI y]).bind fun z=>match z with
  | .val (.bl true)=>(zo fn c ρ).bind fun w=>zg q [zI y,zI w]
  | .val (.bl false)=>some (.val (.bl false))
  |_=>none):=id rfl
theorem qU{fn f es ρ}:zo fn (E.call f es) ρ=((yj fn es ρ).bind fun rs=>wB rs (fn f (rs.map zI))):=id rfl
theorem zcC{fn t ρ}:zo fn (E.dnew t) ρ=(some (.obj true (.dct t [] []))):=id rfl
theorem ziK{fn t k v ρ}:zo fn (E.done t k v) ρ=((zo fn k ρ).bind fun x=>(zo fn v ρ).bind fun y=>(toD x).bind fun a=>(toD y).bind fun b=>if yC t a then some (.obj true (.dct t [a] [b])) else none):=id rfl
theorem ziL{fn src cond elt ρ}:zo fn (E.compE src cond elt) ρ=((zo fn src ρ).bind fun r=>(XD r).bind fun ds=>
  if ds.length<=line then (yY (fun p=>vC p fun a b=>zA fn cond (some (.val a)::some (.val b)::ρ)) (fun p=>vC p fun a b=>zo fn elt (some (.val a)::some (.val b)::ρ)) (xB 0 ds)).map fun l=>SV.obj true (.lst l) else none):=id rfl
theorem zcD{fn rng src cond elt ρ}:zo fn (E.comp rng src cond elt) ρ=((yj fn src ρ).bind fun rs=>(yy rng rs).bind fun ds=>
  if ds.length<=line then (yY (fun d=>zA fn cond (some (.val d)::ρ)) (fun d=>zo fn elt (some (.val d)::ρ)) ds).map fun l=>SV.obj true (.lst l) else none):=id rfl
theorem xY{fn ρ}:yj fn (Es.nil) ρ=(some []):=id rfl
theorem xZ{fn e es ρ}:yj fn (Es.cons e es) ρ=((zo fn e ρ).bind fun r=>(yj fn es ρ).map (r:: ·)):=id rfl
theorem ziM{fn a b ρ}:zA fn (E.and a b) ρ=((zA fn a ρ).bind fun k=>if k then zA fn b ρ else some false):=id rfl
theorem ziN{fn a b ρ}:zA fn (E.or a b) ρ=((zA fn a ρ).bind fun k=>if k then some true else zA fn b ρ):=id rfl
theorem ziO{fn a ρ}:zA fn (E.not a) ρ=((zA fn a ρ).map (!·)):=id rfl
theorem ziP{fn b ρ}:zA fn (E.bl b) ρ=(some b):=id rfl
theorem qV{fn p es ρ}:zA fn (E.prim p es) ρ=((yj fn es ρ).bind fun rs=>(zg p (rs.map zI)).bind yH):=id rfl
theorem ziQ{fn p q a b c ρ}:zA fn (E.chain p q a b c) ρ=((zo fn a ρ).bind fun x=>(zo fn b ρ).bind fun y=>(zg p [zI x,zI y]).bind fun z=>match z with
  | .val (.bl true)=>(zo fn c ρ).bind fun w=>(zg q [zI y,zI w]).bind yH
  | .val (.bl false)=>some false
  |_=>none):=id rfl
theorem ziR{fn f es ρ}:zA fn (E.call f es) ρ=((yj fn es ρ).bind fun rs=>(wB rs (fn f (rs.map zI))).bind yH):=id rfl
theorem zcE{fn ρ}:yZ fn (MA.nil) ρ=(some []):=id rfl
theorem zcF{fn c r ρ}:yZ fn (MA.e c r) ρ=((zo fn c ρ).bind fun x=>(jA x).bind fun a=>(yZ fn r ρ).map (a:: ·)):=id rfl
theorem zcG{fn i r ρ}:yZ fn (MA.s i r) ρ=((jB ρ i).bind fun d=>if vD d then (yZ fn r ρ).map (.s i d:: ·) else none):=id rfl
theorem qW{fn t r ρ}:yZ fn (MA.n t r) ρ=((yZ fn r ρ).map (.n t:: ·)):=id rfl
theorem ziS{fa f ma ρ}:ve fa (M.call f ma) ρ=((yZ (zE fa) ma ρ).bind fun xs=>(fa f (xs.map Zk)).bind fun a=>match a with
  | .ok r outs=>if r.fine&&outs.all wM then (xn ρ xs outs).map fun ρ'=>(r,ρ') else none
  | .ex _=>none):=id rfl
theorem ziT{fa fuel e ρ}:zF fa fuel (S.expr e) ρ=((zo (zE fa) e ρ).map fun _=>(.nx,ρ)):=id rfl
theorem zcH{fa fuel i e ρ}:zF fa fuel (S.asg i e) ρ=((zo (zE fa) e ρ).bind fun r=>if r.lent|| !free ρ i then none else some (.nx,ρ.set i (some r))):=id rfl
theorem zcI{fa fuel i j ρ}:zF fa fuel (S.mov i j) ρ=(if free ρ i then (match ρ[j]? with
  |some (some (.val d))=>some (.nx,ρ.set i (some (.val d)))
  |some (some (.obj _ d))=>some (.nx,(ρ.set j (some (.val d))).set i (some (.val d)))
  |_=>none) else none):=id rfl
theorem zcJ{fa fuel i e ρ}:zF fa fuel (S.app i e) ρ=(match ρ[i]? with
  |some (some x)=>(match x.cell with
   |some (.lst ds)=>(zo (zE fa) e ρ).bind fun r=>(toD r).bind fun d=>if ds.length<line then some (.nx,ρ.set i (some (x.put (.lst (ds++[d]))))) else none
   |_=>none)
  |_=>none):=id rfl
theorem ziU{fa fuel i j ρ}:zF fa fuel (S.dupd i j) ρ=(XF ρ i j):=id rfl
theorem zcK{fa fuel i k v ρ}:zF fa fuel (S.dset i k v) ρ=(match ρ[i]? with
  |some (some x)=>(match x.cell with
   |some (.dct t ks vs)=>(zo (zE fa) v ρ).bind fun r=>(toD r).bind fun d=>(zo (zE fa) k ρ).bind fun r=>(toD r).bind fun a=>if yC t a&&decide (ks.length<line) then some (.nx,ρ.set i (some (x.put (xm t ks vs a d)))) else none
   |_=>none)
  |_=>none):=id rfl
theorem ziV{fa fuel m ρ}:zF fa fuel (S.exprM m) ρ=((ve fa m ρ).map fun x=>(.nx,x.2)):=id rfl
theorem ziW{fa fuel c m a b ρ}:zF fa fuel (S.ifO c m a b) ρ=((zA (zE fa) c ρ).bind fun k=>if k then zr fa fuel a ρ else (ve fa m ρ).bind fun x=>(yH x.1).bind fun k=>if k then zr fa fuel a x.2 else zr fa fuel b x.2):=id rfl
theorem ziX{fa fuel e ρ}:zF fa fuel (S.ret e) ρ=((zo (zE fa) e ρ).bind fun r=>if r.lent then none else some (.rt r,ρ)):=id rfl
theorem zcL{fa fuel i ρ}:zF fa fuel (S.retV i) ρ=(match ρ[i]? with
  |some (some (.val d))=>some (.rt (.val d),ρ)
  |some (some (.obj _ d))=>some (.rt (.obj true d),ρ.set i none)
  |_=>none):=id rfl
theorem ziY{fa fuel c a b ρ}:zF fa fuel (S.ifs c a b) ρ=((zA (zE fa) c ρ).bind fun k=>if k then zr fa fuel a ρ else zr fa fuel b ρ):=id rfl
theorem ziZ{fa fuel i rng src body ρ}:zF fa fuel (S.for_ i rng src body) ρ=((yj (zE fa) src ρ).bind fun rs=>if rs.any SV.lent|| !free ρ i then none else (yy rng rs).bind fun ds=>yq i (zr fa fuel body) ds ρ):=id rfl
theorem zi0{fa fuel i j body ρ}:zF fa fuel (S.forK i j body) ρ=(if free ρ i then (XG ρ j).bind fun ks=>(yq i (zr fa fuel body) ks ρ).bind Ql else none):=id rfl
theorem zi1{fa fuel i j body ρ}:zF fa fuel (S.forV i j body) ρ=(if free ρ i then (ZY ρ j).bind fun x=>yq i (zr fa fuel body) x.1 x.2 else none):=id rfl
theorem zi2{fa fuel c body ρ}:zF fa fuel (S.while_ c body) ρ=(xE (zA (zE fa) c) (zr fa fuel body) fuel ρ):=id rfl
theorem zi3{fa fuel js s ρ}:zF fa fuel (S.frz js s) ρ=(zF fa fuel s (js.foldl jC ρ)):=id rfl
theorem zcM{fa fuel ρ}:zF fa fuel (S.stop) ρ=(none):=id rfl
theorem zi4{fa fuel f ρ}:zF fa fuel (S.wipe f) ρ=(XH (zE fa f) ρ):=id rfl
theorem zi5{fa fuel ρ}:zr fa fuel (Ss.nil) ρ=(some (.nx,ρ)):=id rfl
theorem qX{fa fuel s ss ρ}:zr fa fuel (Ss.cons s ss) ρ=((zF fa fuel s ρ).bind fun x=>match x.1 with
  | .nx=>zr fa fuel ss x.2
  |_=>some x):=id rfl
theorem wC{α:Type}{P:List α->Prop}(h: ∀a0,P [a0])(us:List α)(hl:us.length=1):P us:=by
 cases us with
 |nil=>cases hl
 |cons a0 r0=>
  cases r0 with
  |nil=>exact h a0
  |cons _ _=>simp at hl
theorem xo{α:Type}{P:List α->Prop}(h: ∀a0 a1,P [a0,a1])(us:List α)(hl:us.length=2):P us:=by
 cases us with
 |nil=>cases hl
 |cons a0 r0=>
  cases r0 with
  |nil=>cases hl
  |cons a1 r1=>
   cases r1 with
   |nil=>exact h a0 a1
   |cons _ _=>simp at hl
theorem vh{α:Type}{P:List α->Prop}(h: ∀a0 a1 a2,P [a0,a1,a2])(us:List α)(hl:us.length=3):P us:=by
 cases us with
 |nil=>cases hl
 |cons a0 r0=>
  cases r0 with
  |nil=>cases hl
  |cons a1 r1=>
   cases r1 with
   |nil=>cases hl
   |cons a2 r2=>
    cases r2 with
    |nil=>exact h a0 a1 a2
    |cons _ _=>simp at hl
theorem XI{α:Type}{P:List α->Prop}(h: ∀a0 a1 a2 a3,P [a0,a1,a2,a3])(us:List α)(hl:us.length=4):P us:=by
 cases us with
 |nil=>cases hl
 |cons a0 r0=>
  cases r0 with
  |nil=>cases hl
  |cons a1 r1=>
   cases r1 with
   |nil=>cases hl
   |cons a2 r2=>
    cases r2 with
    |nil=>cases hl
    |cons a3 r3=>
     cases r3 with
     |nil=>exact h a0 a1 a2 a3
     |cons _ _=>simp at hl
theorem zi6{α:Type}{P:List α->Prop}(h: ∀a0 a1 a2 a3 a4,P [a0,a1,a2,a3,a4])(us:List α)(hl:us.length=5):P us:=by
 cases us with
 |nil=>cases hl
 |cons a0 r0=>
  cases r0 with
  |nil=>cases hl
  |cons a1 r1=>
   cases r1 with
   |nil=>cases hl
   |cons a2 r2=>
    cases r2 with
    |nil=>cases hl
    |cons a3 r3=>
     cases r3 with
     |nil=>cases hl
     |cons a4 r4=>
      cases r4 with
      |nil=>exact h a0 a1 a2 a3 a4
      |cons _ _=>simp at hl
end L2.LW
set_option maxHeartbeats 4000000
namespace L2.LW
open PySem PySem.Spec PyProof.Rows
noncomputable def vE(K:Ka)(a:Addr)(xs:List V):Prop:=
 ∃(o:Obj) (its:Array Value) (n:Nat),K.lookup a=some o/\o.cls= .type "list"/\o.dict=Option.none/\o.data= .seq its n/\its.size<=sizeLine/\Vals xs its.toList
noncomputable def yw(ns:List Int)(ys:List V):List (zw×V):=(ns.map Sum.inl).zip ys
noncomputable def yz(ns:List (List Int))(ys:List V):List (List zw×V):=(ns.map fun l=>l.map Sum.inl).zip ys
noncomputable def kT(l:List Int):D:=.tup (l.map D.int)
mutual
inductive Rep (K:Ka)(W:Addr->Prop)(H:Hp):D->V->Prop where
 |int (i:Int):Rep K W H (.int i) (.int i)
 |bl (b:Bool):Rep K W H (.bl b) (.bl b)
 |non:Rep K W H .non .non
 |str (x:Str):Rep K W H (.str x) (.str x)
 |tup {a:Addr} {xs:List V} {ds:List D} (h:H a=some (.tup xs)) (r:Reps K W H ds xs):Rep K W H (.tup ds) (.ref a)
 |lst {a:Addr} {xs:List V} {ds:List D} (h:(¬W a/\Rd H a (.lst xs))\/vE K a xs) (r:Reps K W H ds xs):Rep K W H (.lst ds) (.ref a)
 |dK {a:Addr} {ns:List Int} {ys:List V} {vs:List D} (n: ¬W a) (h:Rd H a (.dK (yw ns ys))) (l:ns.length=ys.length) (r:Reps K W H vs ys):Rep K W H (.dct false (ns.map D.int) vs) (.ref a)
 |dT {a:Addr} {ns:List (List Int)} {ys:List V} {vs:List D} (n: ¬W a) (h:H a=some (.dT (yz ns ys))) (l:ns.length=ys.length) (r:Reps K W H vs ys):Rep K W H (.dct true (ns.map kT) vs) (.ref a)
inductive Reps (K:Ka)(W:Addr->Prop)(H:Hp):List D->List V->Prop where
 |nil:Reps K W H [] []
 |cons {d:D} {v:V} {ds:List D} {vs:List V} (h:Rep K W H d v) (t:Reps K W H ds vs):Reps K W H (d::ds) (v::vs)
end
inductive ORep (K:Ka)(W:Addr->Prop)(H:Hp):D->HO->Prop where
 |lst {xs:List V} {ds:List D} (r:Reps K W H ds xs):ORep K W H (.lst ds) (.lst xs)
 |dK {ns:List Int} {ys:List V} {vs:List D} (l:ns.length=ys.length) (r:Reps K W H vs ys):ORep K W H (.dct false (ns.map D.int) vs) (.dK (yw ns ys))
 |dT {ns:List (List Int)} {ys:List V} {vs:List D} (l:ns.length=ys.length) (r:Reps K W H vs ys):ORep K W H (.dct true (ns.map kT) vs) (.dT (yz ns ys))
structure Ext (W:Addr->Prop)(H:Hp)(W':Addr->Prop)(H':Hp):Prop where
 keep: ∀a o,H a=some o->¬W a->H' a=some o
 tup: ∀a xs,H a=some (.tup xs)->H' a=some (.tup xs)
 frz: ∀a o u,H a=some (.frz o u)->H' a=some (.frz o u)
 win: ∀a,W' a->W a\/H a=Option.none
theorem Ext.refl(W:Addr->Prop)(H:Hp):Ext W H W H:=⟨fun _ _ h _=>h,fun _ _ h=>h,fun _ _ _ h=>h,fun _ h=>.inl h⟩
theorem Ext.out{W W':Addr->Prop}{H H':Hp}(x:Ext W H W' H'){a:Addr}{o:HO}(h:H a=some o)(n: ¬W a): ¬W' a:=fun w=>by
 rcases x.win a w with q|q
 ·exact n q
 ·rw[h] at q;cases q
theorem zi7{W W':Addr->Prop}{H H':Hp}(x:Ext W H W' H'){a:Addr}{u:HO}(h:Rd H a u)(n: ¬W a):Rd H' a u:=by
 rcases h with h|⟨o,h⟩
 ·exact .inl (x.keep _ _ h n)
 ·exact .inr ⟨o,x.keep _ _ h n⟩
theorem zi8{W W':Addr->Prop}{H H':Hp}(x:Ext W H W' H'){a:Addr}{u:HO}(h:Rd H a u)(n: ¬W a): ¬W' a:=by
 rcases h with h|⟨o,h⟩
 ·exact x.out h n
 ·exact x.out h n
theorem Ext.same{W:Addr->Prop}{H H':Hp}(s:Same H H'):Ext W H W H':=⟨fun a o h _=>s a o h,fun a xs h=>s a _ h,fun a o u h=>s a _ h,fun _ w=>.inl w⟩
section
variable {K:Ka} {W W':Addr->Prop} {H H':Hp}
mutual
theorem Rep.ext(x:Ext W H W' H'): ∀{d:D} {v:V},Rep K W H d v->Rep K W' H' d v
 |_,_,.int i=>.int i
 |_,_,.bl b=>.bl b
 |_,_,.non=>.non
 |_,_,.str s=>.str s
 |_,_,.dK n h l r=>.dK (zi8 x h n) (zi7 x h n) l (Reps.ext x r)
 |_,_,.dT n h l r=>.dT (x.out h n) (x.keep _ _ h n) l (Reps.ext x r)
 |_,_,.tup h r=>.tup (x.tup _ _ h) (Reps.ext x r)
 |_,_,.lst h r=>.lst (by
   rcases h with ⟨n,h|⟨o,h⟩⟩|h
   ·exact .inl ⟨x.out h n,.inl (x.keep _ _ h n)⟩
   ·exact .inl ⟨x.out h n,.inr ⟨o,x.keep _ _ h n⟩⟩
   ·exact .inr h) (Reps.ext x r)
theorem Reps.ext(x:Ext W H W' H'): ∀{ds:List D} {vs:List V},Reps K W H ds vs->Reps K W' H' ds vs
 |_,_,.nil=>.nil
 |_,_,.cons h t=>.cons (Rep.ext x h) (Reps.ext x t)
end
mutual
theorem Rep.less(x: ∀a,W' a->W a): ∀{d:D} {v:V},Rep K W H d v->Rep K W' H d v
 |_,_,.int i=>.int i
 |_,_,.bl b=>.bl b
 |_,_,.non=>.non
 |_,_,.str s=>.str s
 |_,_,.dK n h l r=>.dK (fun w=>n (x _ w)) h l (Reps.less x r)
 |_,_,.dT n h l r=>.dT (fun w=>n (x _ w)) h l (Reps.less x r)
 |_,_,.tup h r=>.tup h (Reps.less x r)
 |_,_,.lst h r=>.lst (by
   rcases h with ⟨n,h⟩|h
   ·exact .inl ⟨fun w=>n (x _ w),h⟩
   ·exact .inr h) (Reps.less x r)
theorem Reps.less(x: ∀a,W' a->W a): ∀{ds:List D} {vs:List V},Reps K W H ds vs->Reps K W' H ds vs
 |_,_,.nil=>.nil
 |_,_,.cons h t=>.cons (Rep.less x h) (Reps.less x t)
end
mutual
theorem Rep.plain: ∀{d:D} {v:V},Rep K W H d v->LW.plain d=true->Rep K W' H d v
 |_,_,.int i,_=>.int i
 |_,_,.bl b,_=>.bl b
 |_,_,.non,_=>.non
 |_,_,.str s,_=>.str s
 |_,_,.tup h r,p=>.tup h (Reps.plain r (by simpa [LW.plain] using p))
 |_,_,.lst h r,p=>by simp[LW.plain] at p
 |_,_,.dK _ _ _ _,p=>by simp[LW.plain] at p
 |_,_,.dT _ _ _ _,p=>by simp[LW.plain] at p
theorem Reps.plain: ∀{ds:List D} {vs:List V},Reps K W H ds vs->yX ds=true->Reps K W' H ds vs
 |_,_,.nil,_=>.nil
 |_,_,.cons h t,p=>by
  simp only[yX,Bool.and_eq_true] at p;exact .cons (Rep.plain h p.1) (Reps.plain t p.2)
end
theorem Reps.length: ∀{ds:List D} {vs:List V},Reps K W H ds vs->ds.length=vs.length
 |_,_,.nil=>rfl
 |_,_,.cons _ t=>by simp[Reps.length t]
theorem Reps.get: ∀{ds:List D} {vs:List V} {i:Nat} {d:D},Reps K W H ds vs->ds[i]? =some d->∃v,vs[i]? =some v/\Rep K W H d v
 |_,_,_,_,.nil,e=>by simp at e
 |_,_,0,_,.cons h _,e=>by simp at e;subst e;exact⟨_,rfl,h⟩
 |_,_,i+1,d,.cons _ t,e=>by
  obtain⟨v,h1,h2⟩:=Reps.get (i:=i) (d:=d) t (by simpa using e);exact⟨v,by simpa using h1,h2⟩
theorem Reps.append: ∀{ds es:List D} {vs us:List V},Reps K W H ds vs->Reps K W H es us->Reps K W H (ds++es) (vs++us)
 |_,_,_,_,.nil,s=>s
 |_,_,_,_,.cons h t,s=>.cons h (Reps.append t s)
theorem Reps.take: ∀{ds:List D} {vs:List V} (n:Nat),Reps K W H ds vs->Reps K W H (ds.take n) (vs.take n)
 |_,_,0,_=>.nil
 |_,_,_+1,.nil=>.nil
 |_,_,n+1,.cons h t=>.cons h (Reps.take n t)
theorem Reps.ints: ∀(ns:List Int),Reps K W H (ns.map D.int) (ns.map V.int)
 |[]=>.nil
 |i::r=>.cons (.int i) (Reps.ints r)
theorem Reps.ofInts: ∀{ds:List D} {vs:List V} {ns:List Int},Reps K W H ds vs->ints? ds=some ns->vs=ns.map V.int
 |_,_,ns,.nil,e=>by simp[ints?] at e;subst e;rfl
 |_,_,ns,.cons (d:=d) h t,e=>by
  cases h with
  |int i=>
   simp only[ints?,jo2] at e;obtain⟨ms,e1,rfl⟩:=e;rw[Reps.ofInts t e1];rfl
  |_=>simp[ints?] at e
theorem ORep.ext{d:D}{o:HO}(h:ORep K W H d o)(x:Ext W H W' H'):ORep K W' H' d o:=by
 cases h with
 |lst r=>exact .lst (r.ext x)
 |dK l r=>exact .dK l (r.ext x)
 |dT l r=>exact .dT l (r.ext x)
theorem ORep.less{d:D}{o:HO}(h:ORep K W H d o)(x: ∀a,W' a->W a):ORep K W' H d o:=by
 cases h with
 |lst r=>exact .lst (r.less x)
 |dK l r=>exact .dK l (r.less x)
 |dT l r=>exact .dT l (r.less x)
theorem ORep.plain{d:D}{o:HO}(h:ORep K W H d o)(p:wM d=true):ORep K W' H d o:=by
 cases h with
 |lst r=>exact .lst (r.plain p)
 |dK l r=>exact .dK l (r.plain p)
 |dT l r=>exact .dT l (r.plain p)
theorem ORep.rep{d:D}{o:HO}{a:Addr}(h:ORep K W H d o)(n: ¬W a)(e:H a=some o):Rep K W H d (.ref a):=by
 cases h with
 |lst r=>exact .lst (.inl ⟨n,.inl e⟩) r
 |dK l r=>exact .dK n (.inl e) l r
 |dT l r=>exact .dT n e l r
theorem ORep.kind{d:D}{o:HO}(h:ORep K W H d o):(∀xs,o≠ .tup xs)/\(∀b u,o≠ .frz b u):=by
 cases h<;>exact⟨fun _ z=>(nomatch z),fun _ _ z=>(nomatch z)⟩
noncomputable def add(W:Addr->Prop)(a:Addr):Addr->Prop:=fun b=>W b\/b=a
inductive Frz (K:Ka)(W:Addr->Prop)(H:Hp):SV->V->Prop where
 |val {d:D} {v:V} (h:Rep K W H d v):Frz K W H (.val d) v
 |lis {d:D} {a:Addr} {o:HO} (h: ¬W a) (e:H a=some o) (r:ORep K W H d o):Frz K W H (.obj true d) (.ref a)
 |see {d:D} {a:Addr} {o:HO} (h:W a) (e:H a=some o) (r:ORep K W H d o):Frz K W H (.obj false d) (.ref a)
inductive Res (K:Ka)(W:Addr->Prop)(H H':Hp):SV->V->Prop where
 |val {d:D} {v:V} (h:Rep K W H' d v):Res K W H H' (.val d) v
 |new {d:D} {a:Addr} {o:HO} (h:H a=Option.none) (e:H' a=some o) (r:ORep K (add W a) H' d o):Res K W H H' (.obj true d) (.ref a)
 |see {d:D} {a:Addr} {o:HO} (h:W a) (e:H' a=some o) (r:ORep K W H' d o):Res K W H H' (.obj false d) (.ref a)
noncomputable def Wf(W:Addr->Prop)(H:Hp):Prop:=∀a,W a->H a≠Option.none
theorem Res.frz{r:SV}{v:V}(h:Res K W H H' r v)(wf:Wf W H):Frz K W H' r v:=by
 cases h with
 |val h=>exact .val h
 |new h e r=>exact .lis (fun w=>wf _ w h) e (r.less fun b w=>.inl w)
 |see h e r=>exact .see h e r
theorem Frz.same{r:SV}{v:V}(h:Frz K W H r v)(s:Same H H'):Frz K W H' r v:=by
 cases h with
 |val h=>exact .val (h.ext (.same s))
 |lis h e r=>exact .lis h (s _ _ e) (r.ext (.same s))
 |see h e r=>exact .see h (s _ _ e) (r.ext (.same s))
noncomputable def Sees(K:Ka)(W:Addr->Prop)(H:Hp)(d:D)(v:V):Prop:=
 Rep K W H d v\/∃a o,v= .ref a/\H a=some o/\ORep K W H d o
theorem Frz.sees{r:SV}{v:V}(h:Frz K W H r v):Sees K W H (zI r) v:=by
 cases h with
 |val h=>exact .inl h
 |lis h e r=>exact .inr ⟨_,_,rfl,e,r⟩
 |see h e r=>exact .inr ⟨_,_,rfl,e,r⟩
theorem Sees.lst{ds:List D}{v:V}(h:Sees K W H (.lst ds) v): ∃a xs,v= .ref a/\SqL K H a xs/\Reps K W H ds xs:=by
 rcases h with h|⟨a,o,rfl,e,r⟩
 ·cases h with
  |lst h r=>
   rcases h with ⟨_,h⟩|h
   ·exact⟨_,_,rfl,.inl h,r⟩
   ·exact⟨_,_,rfl,.inr h,r⟩
 ·cases r with
  |lst r=>exact⟨_,_,rfl,.of e,r⟩
theorem Sees.tupH{ds:List D}{v:V}(h:Sees K W H (.tup ds) v): ∃a xs,v= .ref a/\H a=some (.tup xs)/\Reps K W H ds xs:=by
 rcases h with h|⟨a,o,rfl,e,r⟩
 ·cases h with
  |tup h r=>exact⟨_,_,rfl,h,r⟩
 ·cases r
theorem Sees.tup{ds:List D}{v:V}(h:Sees K W H (.tup ds) v): ∃a xs,v= .ref a/\SqT K H a xs/\Reps K W H ds xs:=by
 obtain⟨a,xs,e,h,r⟩:=h.tupH;exact⟨a,xs,e,.of h,r⟩
theorem Sees.dK{ks vs:List D}{v:V}(h:Sees K W H (.dct false ks vs) v): ∃a ns ys,v= .ref a/\ks=ns.map D.int/\Rd H a (.dK (yw ns ys))/\ns.length=ys.length/\Reps K W H vs ys:=by
 rcases h with h|⟨a,o,rfl,e,r⟩
 ·cases h with
  |dK n h l r=>exact⟨_,_,_,rfl,rfl,h,l,r⟩
 ·cases r with
  |dK l r=>exact⟨_,_,_,rfl,rfl,.inl e,l,r⟩
theorem Sees.dT{ks vs:List D}{v:V}(h:Sees K W H (.dct true ks vs) v): ∃a ns ys,v= .ref a/\ks=ns.map kT/\H a=some (.dT (yz ns ys))/\ns.length=ys.length/\Reps K W H vs ys:=by
 rcases h with h|⟨a,o,rfl,e,r⟩
 ·cases h with
  |dT n h l r=>exact⟨_,_,_,rfl,rfl,h,l,r⟩
 ·cases r with
  |dT l r=>exact⟨_,_,_,rfl,rfl,e,l,r⟩
theorem Sees.int{i:Int}{v:V}(h:Sees K W H (.int i) v):v= .int i:=by
 rcases h with h|⟨a,o,rfl,e,r⟩
 ·cases h;rfl
 ·cases r
theorem Sees.bl{i:Bool}{v:V}(h:Sees K W H (.bl i) v):v= .bl i:=by
 rcases h with h|⟨a,o,rfl,e,r⟩
 ·cases h;rfl
 ·cases r
theorem Sees.str{i:Str}{v:V}(h:Sees K W H (.str i) v):v= .str i:=by
 rcases h with h|⟨a,o,rfl,e,r⟩
 ·cases h;rfl
 ·cases r
theorem Sees.non{v:V}(h:Sees K W H .non v):v= .non:=by
 rcases h with h|⟨a,o,rfl,e,r⟩
 ·cases h;rfl
 ·cases r
theorem Frz.toD{r:SV}{v:V}{d:D}(h:Frz K W H r v)(e:LW.toD r=some d):Rep K W H d v:=by
 cases h with
 |val h=>simp[LW.toD] at e;subst e;exact h
 |lis h e' r=>simp[LW.toD] at e;subst e;exact r.rep h e'
 |see h e' r=>simp[LW.toD] at e
noncomputable def xO(ρ:LW.Env)(σ:St)(a:Addr):Prop:=∃(i:Nat) (x:SV) (d:D),ρ[i]? =some (some x)/\x.cell=some d/\σ[i]? =some (some (.ref a))
structure R (K:Ka)(W:Addr->Prop)(ρ:LW.Env)(σ:St)(H:Hp):Prop where
 val: ∀(i:Nat) (d:D),ρ[i]? =some (some (.val d))->∃v,σ[i]? =some (some v)/\Rep K W H d v
 nol: ∀(i:Nat) (d:D),ρ[i]? ≠some (some (.obj false d))
 own: ∀(i:Nat) (x:SV) (d:D),ρ[i]? =some (some x)->x.cell=some d->∃a o,σ[i]? =some (some (.ref a))/\W a/\H a=some o/\ORep K W H d o
 inj: ∀(i j:Nat) (x y:SV) (d e:D) (a:Addr),ρ[i]? =some (some x)->ρ[j]? =some (some y)->x.cell=some d->y.cell=some e->σ[i]? =some (some (.ref a))->σ[j]? =some (some (.ref a))->i=j
 wf:Wf W H
 len:ρ.length=σ.length
theorem R.ownW{ρ:LW.Env}{σ:St}(r:R K W ρ σ H){a:Addr}(o:xO ρ σ a):W a/\∃o d,H a=some o/\ORep K W H d o:=by
 obtain⟨i,x,d,h1,h2,h3⟩:=o;obtain⟨b,o,e,w,q,z⟩:=r.own i x d h1 h2;rw[h3] at e;cases e;exact⟨w,o,d,q,z⟩
theorem R.same{ρ:LW.Env}{σ:St}(r:R K W ρ σ H)(s:Same H H'):R K W ρ σ H':=by
 refine⟨fun i d h=>?_,r.nol,fun i x d h h'=>?_,r.inj,fun a w=>?_,r.len⟩
 ·obtain⟨v,h1,h2⟩:=r.val i d h
  exact⟨v,h1,h2.ext (.same s)⟩
 ·obtain⟨a,o,h1,h2,h3,h4⟩:=r.own i x d h h'
  exact⟨a,o,h1,h2,s _ _ h3,h4.ext (.same s)⟩
 ·cases e:H a with
  |none=>exact KC e (r.wf a w)
  |some o=>rw[s a o e];exact fun z=>nomatch z
theorem R.look{ρ:LW.Env}{σ:St}(r:R K W ρ σ H){i:Nat}{x:SV}(h:look ρ i=some x): ∃v,σ[i]? =some (some v)/\Frz K W H x v/\Res K W H H x v:=by
 unfold LW.look at h;split at h
 ·rename_i d e
  cases h;obtain⟨v,h1,h2⟩:=r.val i d e;exact⟨v,h1,.val h2,.val h2⟩
 ·rename_i o d e
  cases h
  cases o with
  |false=>exact KC e (r.nol i d)
  |true=>
   obtain⟨a,o,h1,h2,h3,h4⟩:=r.own i _ d e rfl;exact⟨_,h1,.see h2 h3 h4,.see h2 h3 h4⟩
 ·rename_i d e
  cases h;obtain⟨a,o,h1,h2,h3,h4⟩:=r.own i _ d e rfl;exact⟨_,h1,.see h2 h3 h4,.see h2 h3 h4⟩
 ·cases h
noncomputable def xF(ρ:LW.Env)(i:Nat):Prop:=∃d,ρ[i]? =some (some (.io d))
theorem jD{ρ:LW.Env}{i:Nat}(h:LW.free ρ i=true): ¬xF ρ i:=fun zz0=>by
 obtain⟨d,e⟩:=zz0;unfold LW.free at h;rw[e] at h;cases h
structure SPost (K:Ka)(W:Addr->Prop)(ρ:LW.Env)(σ:St)(H:Hp)(W':Addr->Prop)(ρ':LW.Env)(σ':St)(H':Hp):Prop where
 r:R K W' ρ' σ' H'
 keep: ∀a o,H a=some o->¬xO ρ σ a->H' a=some o
 win: ∀a,W' a->W a\/H a=Option.none
 wout: ∀a,W a->¬xO ρ σ a->W' a/\¬xO ρ' σ' a
 io: ∀i,(xF ρ' i↔xF ρ i)/\(xF ρ i->σ'[i]? =σ[i]?)
theorem SPost.trans{W1 W2:Addr->Prop}{ρ ρ1 ρ2:LW.Env}{σ σ1 σ2:St}{H1 H2:Hp}(x:SPost K W ρ σ H W1 ρ1 σ1 H1)(y:SPost K W1 ρ1 σ1 H1 W2 ρ2 σ2 H2)(r0:R K W ρ σ H):SPost K W ρ σ H W2 ρ2 σ2 H2:=by
 have no1: ∀a o,H a=some o->¬xO ρ σ a->¬xO ρ1 σ1 a:=fun a o h n z=>by
  rcases x.win a (x.r.ownW z).1 with w|w
  ·exact (x.wout a w n).2 z
  ·rw[h] at w;cases w
 refine⟨y.r,fun a o h n=>y.keep a o (x.keep a o h n) (no1 a o h n),fun a w=>?_,fun a w n=>?_,fun i=>⟨(y.io i).1.trans (x.io i).1,fun z=>((y.io i).2 ((x.io i).1.mpr z)).trans ((x.io i).2 z)⟩⟩
 ·rcases y.win a w with q|q
  ·exact x.win a q
  ·cases e:H a with
   |none=>exact .inr rfl
   |some o=>
    by_cases n:xO ρ σ a
    ·exact .inl (r0.ownW n).1
    ·rw[x.keep a o e n] at q;cases q
 ·obtain⟨w1,n1⟩:=x.wout a w n
  exact y.wout a w1 n1
theorem SPost.ext{W1:Addr->Prop}{ρ ρ1:LW.Env}{σ σ1:St}{H1:Hp}(x:SPost K W ρ σ H W1 ρ1 σ1 H1)(r0:R K W ρ σ H):Ext W H W1 H1:=by
 refine⟨fun a o h n=>x.keep a o h fun z=>n (r0.ownW z).1,fun a xs h=>x.keep a _ h fun z=>?_,fun a o u h=>x.keep a _ h fun z=>?_,x.win⟩
 ·obtain⟨_,o,d,e,q⟩:=r0.ownW z
  rw[h] at e;cases e;exact q.kind.1 xs rfl
 ·obtain⟨_,o,d,e,q⟩:=r0.ownW z
  rw[h] at e;cases e;exact q.kind.2 _ _ rfl
theorem SPost.same{ρ:LW.Env}{σ:St}(r0:R K W ρ σ H)(s:Same H H'):SPost K W ρ σ H W ρ σ H':=
 ⟨r0.same s,fun a o h _=>s a o h,fun a w=>.inl w,fun a w n=>⟨w,n⟩,fun _=>⟨.rfl,fun _=>rfl⟩⟩
end
noncomputable def zi9(ρ:LW.Env)(σ:St)(a:Addr):Prop:=∃i,xF ρ i/\σ[i]? =some (some (.ref a))
inductive Ret (K:Ka)(W:Addr->Prop)(ρ:LW.Env)(σ:St)(W':Addr->Prop)(H':Hp):SV->V->Prop where
 |val {d:D} {v:V} (h:Rep K W' H' d v):Ret K W ρ σ W' H' (.val d) v
 |new {d:D} {a:Addr} {o:HO} (h:W' a) (n: ¬(W a/\¬xO ρ σ a)) (n': ¬zi9 ρ σ a) (e:H' a=some o) (r:ORep K W' H' d o):Ret K W ρ σ W' H' (.obj true d) (.ref a)
noncomputable def tE(K:Ka)(fn:Nat->List D->Option SV)(c:E):TE:=fun σ H Q=>∃W ρ r,R K W ρ σ H/\zo fn c ρ=some r/\∀v H',Same H H'->Res K W H H' r v->Q v H'
noncomputable def tV(K:Ka)(fn:Nat->List D->Option SV)(c:E):TE:=fun σ H Q=>∃W ρ r,R K W ρ σ H/\zo fn c ρ=some r/\∀v H',Same H H'->Frz K W H' r v->Q v H'
noncomputable def zcN(K:Ka)(fn:Nat->List D->Option SV)(cs:Es):TA:=fun σ H Q=>∃W ρ rs,R K W ρ σ H/\yj fn cs ρ=some rs/\∀vs H',Same H H'->Paired (Frz K W H') rs vs->Q vs H'
noncomputable def tT(K:Ka)(fn:Nat->List D->Option SV)(c:E):TT:=fun σ H Q=>∃W ρ b,R K W ρ σ H/\zA fn c ρ=some b/\∀H',Same H H'->Q b H'
noncomputable def FlOk(K:Ka)(W:Addr->Prop)(ρ:LW.Env)(σ:St)(W':Addr->Prop)(ρ':LW.Env)(σ':St)(H':Hp)(D:Ends):Fl->Prop
 | .nx=>D.nx σ' H'
 | .br=>D.bk σ' H'
 | .ct=>D.ct σ' H'
 | .rt r=>∀v,Ret K W ρ σ W' H' r v->D.rt v H'
noncomputable def XJ(K:Ka)(ex:LW.Env->Option (Fl×LW.Env)):TS:=fun D σ H=>∃W ρ x,R K W ρ σ H/\ex ρ=some x/\∀W' σ' H',SPost K W ρ σ H W' x.2 σ' H'->FlOk K W ρ σ W' x.2 σ' H' D x.1
theorem _root_.L2.PE.imp{X:Cx}{e:Expr}{t t':TE}(h:PE X e t)(i: ∀σ H Q,t' σ H Q->t σ H Q):PE X e t':=fun pins s σ H Q I q=>h pins s σ H Q I (i σ H Q q)
theorem _root_.L2.PT.imp{X:Cx}{e:Expr}{t t':TT}(h:PT X e t)(i: ∀σ H Q,t' σ H Q->t σ H Q):PT X e t':=fun pins s σ H Q I q=>h pins s σ H Q I (i σ H Q q)
theorem _root_.L2.PW.imp{X:Cx}{e:Expr}{t t':TT}(h:PW X e t)(i: ∀σ H Q,t' σ H Q->t σ H Q):PW X e t':=fun wh pins s σ H Q I q=>h wh pins s σ H Q I (i σ H Q q)
theorem _root_.L2.PA.imp{X:Cx}{e:List Expr}{t t':TA}(h:PA X e t)(i: ∀σ H Q,t' σ H Q->t σ H Q):PA X e t':=fun pos pins s σ H Q I q=>h pos pins s σ H Q I (i σ H Q q)
theorem _root_.L2.PS.imp{X:Cx}{e:Stmt}{t t':TS}(h:PS X e t)(i: ∀D σ H,t' D σ H->t D σ H):PS X e t':=fun pins s σ H D I q=>h pins s σ H D I (i D σ H q)
theorem _root_.L2.PSs.imp{X:Cx}{e:List Stmt}{t t':TS}(h:PSs X e t)(i: ∀D σ H,t' D σ H->t D σ H):PSs X e t':=fun pins s σ H D I q=>h pins s σ H D I (i D σ H q)
end L2.LW
set_option maxHeartbeats 4000000
namespace HT
open PySem PyProof.Rows
theorem zja:Slot "tuple" (cmpInfo .Gt).2.1 "tuple.__gt__":=
 .of (owner:="tuple") (n:="__gt__") (by rw[typeLookup_type,builtinLookup_eq_fast];kernel_rfl) (by decide+kernel) (by decide+kernel) (by decide+kernel)
  (by first|exact .inl (by decide+kernel)|exact .inr (by decide+kernel)) (by rw[isSubtype_type];kernel_rfl)
theorem zjb:entryFor table "tuple.__gt__"=some Builtin.«tuple.__gt__»:=entryFor_of_tree (by kernel_rfl)
theorem zjc(a b:Value):argsOk "tuple.__gt__" ⟨[a,b],[]⟩:=by
 unfold argsOk;rw[signature?_of (id:="tuple.__gt__") (n:=['_','_','t','g','_','_']) (o:=['e','l','p','u','t']) (by kernel_rfl) PySem.F.owner_tuple];kernel_rfl
theorem zjd(A:Around)(s:Shared)(a:Int)(t:Tok)(c:Int)(u:Tok)(prog:Program)(w:World)(E:Value->Shared->Prop)(Q:Value->Shared->Prop)(h:Q (.bool (decide (c<a))) s):
  wpAny (model prog w) A (richCompare .Gt (.int a t) (.int c u)) Q E s:=
 (PyProof.Rows.gt_int h:wpAny (model prog w) A (compareOp .Gt (.int a t) (.int c u)) Q E s)
section
open PySem.SeqAt
open PySem.AutoSeq1 (wpAny_loadPart')
open PySem.MeetsSeq PySem.MeetsSeq2 PySem.MeetsSeq3
theorem zje(l b:Addr)(items items2:Array Value)(n n2:Nat)(dd dd2:Option Addr)(sl sl2:Array (Option Value))(ns ms:List Int)(hi:IntsAre items.toList ns)(hj:IntsAre items2.toList ms):
  Meets (Builtin.«tuple.__gt__» ⟨[.ref l,.ref b],[]⟩)
   (fun _ R s=>s.heap.get? l=some { cls:=.type "tuple",dict:=dd,data:=.seq items n,slots:=sl }/\s.heap.get? b=some { cls:=.type "tuple",dict:=dd2,data:=.seq items2 n2,slots:=sl2 }/\
    R (.ok (.ret (.bool (lexLt ms ns)))) s):=
 .of_wp fun prog w A R s h=>by
  obtain⟨hp,g,d,tk,os⟩:=s;obtain⟨hl,hb,h⟩:=h;have f2:=AutoSeq1.sub_tuple_tuple;have z1:items.size=ns.length:=by rw[<-hi.length];simp
  have z2:items2.size=ms.length:=by rw[<-hj.length];simp
  wp_walk using wpAny_loadPart' hl,wpAny_loadPart' hb,wpAny_forIn_list _ (fun zO b s'=>b.1=none/\s'=⟨hp,g,d,tk,os⟩/\∃(vs ws:List Value) (ns' ms':List Int),zO=vs.zip ws/\
   IntsAre vs ns'/\IntsAre ws ms'/\ns'.length+items2.size=ms'.length+items.size/\R (.ok (.ret (.bool (lexLt ms' ns')))) ⟨hp,g,d,tk,os⟩) _
  case turn=>
   rintro⟨y,x⟩ zO b s' ⟨hb',rfl,vs,ws,ns',ms',hz,hvi,hwi,hlen,hR⟩
   cases hvi with
   |nil=>rw[List.zip_nil_left] at hz;cases hz
   |cons a t hvi'=>
    cases hwi with
    |nil=>rw[List.zip_nil_right] at hz;cases hz
    |cons c u hwi'=>
     rw[List.zip_cons_cons] at hz;injection hz with hyx hrest;injection hyx with hy hx;subst hy hx;rw[lexLt_cons] at hR;simp only[List.length_cons] at hlen;obtain⟨e,he,hiff⟩:=zcf A.in1 ⟨hp,g,d,tk,os⟩ a t c u;refine Kb (he prog w _ _ ?_)
     cases e with
     |true=>
      rw[if_pos (hiff.mp rfl).symm] at hR
      wp_walk
      exact⟨rfl,rfl,_,_,_,_,hrest,hvi',hwi',by omega,hR⟩
     |false=>
      rw[if_neg (fun q=>KC (hiff.mpr q.symm) Km)] at hR;have hri:=zjd A.in1 ⟨hp,g,d,tk,os⟩ a t c u prog w
      wp_walk using hri
      exact⟨_,rfl,by simpa using hR⟩
  case fin=>
   rintro⟨b1,b2⟩ s' ⟨hb',rfl,vs,ws,ns',ms',hz,hvi,hwi,hlen,hR⟩;simp only at hb';subst hb'
   have hv:(lexLt ms' ns')=decide (items.size>items2.size):=by
    cases hvi with
    |nil=>
     cases hwi with
     |nil=>
      simp only[List.length_nil] at hlen;rw[zcc];exact (KG (by omega)).symm
     |cons c u hw=>
      simp only[List.length_nil,List.length_cons] at hlen;rw[zce];exact (KG (by omega)).symm
    |cons a t hv=>
     cases hwi with
     |nil=>
      simp only[List.length_nil,List.length_cons] at hlen;rw[zcd];exact (decide_eq_true (by omega)).symm
     |cons c u hw=>
      rw[List.zip_cons_cons] at hz;cases hz
   rw[hv] at hR
   wp_walk
   exact⟨_,rfl,by simpa [Builtin.Tuple.tupleCompareSizes] using hR⟩
  case h=>
   exact⟨rfl,rfl,items.toList,items2.toList,ns,ms,rfl,hi,hj,by omega,h⟩
end
section
variable {prog:Program} {w:World} {A:Around} {E:Value->Shared->Prop} {s:Shared}
theorem gt_tupInts{l b:Addr}{items items2:Array Value}{ns ms:List Int}{Q:Value->Shared->Prop}(hl:IsTup s.heap l items)(hb:IsTup s.heap b items2)(hi:IntsAre items.toList ns)(hj:IntsAre items2.toList ms)
  (hu:A.units<cLine) (h:Q (.bool (lexLt ms ns)) s):wpAny (model prog w) A (compareOp .Gt (.ref l) (.ref b)) Q E s:=by
 obtain⟨⟨cls,dd,data,sl⟩,ho,hc,n,hd⟩:=id hl;obtain⟨⟨cls2,dd2,data2,sl2⟩,ho2,hc2,n2,hd2⟩:=id hb;simp only at hc hd hc2 hd2;subst hc hd hc2 hd2
 exact richCompare_meets_room (op:=.Gt) ⟨_,ho,rfl⟩ ⟨_,ho2,rfl⟩ zja zjb (zjc _ _) (zje l b items items2 n n2 dd dd2 sl sl2 ns ms hi hj)
  ⟨ho,ho2,show Value.bool (lexLt ms ns)≠Value.notImplemented/\Q (.bool (lexLt ms ns)) s from ⟨(fun x=>nomatch x),h⟩⟩ hu
end
end HT
set_option maxHeartbeats 4000000
namespace L2.LW
open PySem PySem.Spec PyProof.Rows
noncomputable def VR(K:Ka)(f:List D->Option SV)(vs:List V)(H:Hp)(Q:VK):Prop:=
 ∃W ds r,Wf W H/\Paired (Sees K W H) ds vs/\f ds=some r/\∀v H',Same H H'->Res K W H H' r v->Q v H'
noncomputable def yM(K:Ka)(f:List D->Option SV):R2:=fun x y H Q=>VR K f [x,y] H Q
noncomputable def zcO(K:Ka)(f:List D->Option SV):V->Hp->VK->Prop:=fun x H Q=>VR K f [x] H Q
theorem XM{α β:Type}{F:α->β->Prop}{ds:List α}{x:β}(h:Paired F ds [x]): ∃d,ds=[d]/\F d x:=by
 cases h with
 |cons h t=>cases t;exact⟨_,rfl,h⟩
theorem xU{α β:Type}{F:α->β->Prop}{ds:List α}{x y:β}(h:Paired F ds [x,y]): ∃d e,ds=[d,e]/\F d x/\F e y:=by
 cases h with
 |cons h t=>
  obtain⟨e,rfl,h2⟩:=XM t;exact⟨_,e,rfl,h,h2⟩
mutual
noncomputable def yf:D->PyData
 | .int i=>.int i
 | .bl b=>.bool b
 | .non=>.none
 | .str x=>.str x
 | .tup l=>.tuple (xt l)
 | .lst l=>.list (xt l)
 | .dct _ _ _=>.dict []
noncomputable def xt:List D->List PyData
 |[]=>[]
 |x::xs=>yf x::xt xs
end
mutual
theorem Qm: ∀d e:D,PyData.eqv (yf d) (yf e)=zH d e
 | .int a,e=>by cases e<;>simp[yf,PyData.eqv,zH]
 | .bl a,e=>by cases e<;>simp[yf,PyData.eqv,zH]
 | .non,e=>by cases e<;>simp[yf,PyData.eqv,zH]
 | .str a,e=>by cases e<;>simp[yf,PyData.eqv,zH]
 | .tup l,e=>by
  cases e with
  |tup m=>simp only[yf,PyData.eqv,zH];exact qY l m
  |_=>simp[yf,PyData.eqv,zH]
 | .lst l,e=>by
  cases e with
  |lst m=>simp only[yf,PyData.eqv,zH];exact qY l m
  |_=>simp[yf,PyData.eqv,zH]
 | .dct t a b,e=>by cases e<;>simp[yf,PyData.eqv,zH]
theorem qY: ∀ds es:List D,PyData.eqvAll (xt ds) (xt es)=yW ds es
 |[],[]=>by simp[xt,PyData.eqvAll,yW]
 |[],_::_=>by simp[xt,PyData.eqvAll,yW]
 |_::_,[]=>by simp[xt,PyData.eqvAll,yW]
 |x::xs,y::ys=>by simp only[xt,PyData.eqvAll,yW];rw[Qm x y,qY xs ys]
end
theorem Zl{n:Nat}(ih: ∀d,zx n d=true->(yf d).canLay0=true/\(yf d).depth<=n): ∀l:List D,l.all (zx n)=true->PyData.canLayAll0 (xt l)=true/\PyData.depthAll (xt l)<=n
 |[],_=>by simp[xt,PyData.canLayAll0,PyData.depthAll]
 |x::xs,h=>by
  simp only[List.all_cons,Bool.and_eq_true] at h;obtain⟨h1,h2⟩:=ih x h.1;obtain⟨h3,h4⟩:=Zl ih xs h.2;refine⟨by simp[xt,PyData.canLayAll0,h1,h3],?_⟩;simp only[xt,PyData.depthAll];omega
theorem wc: ∀(n:Nat) (d:D),zx n d=true->(yf d).canLay0=true/\(yf d).depth<=n
 |_,.int _,_=>by simp[yf,PyData.canLay0,PyData.depth]
 |_,.bl _,_=>by simp[yf,PyData.canLay0,PyData.depth]
 |_,.non,_=>by simp[yf,PyData.canLay0,PyData.depth]
 |_,.str _,h=>by simp[zx] at h
 |0,.dct _ _ _,h=>by simp[zx] at h
 |_+1,.dct _ _ _,h=>by simp[zx] at h
 |0,.tup _,h=>by simp[zx] at h
 |0,.lst _,h=>by simp[zx] at h
 |n+1,.tup l,h=>by
  obtain⟨h1,h2⟩:=Zl (wc n) l (by simpa [zx] using h);exact⟨by simpa [yf,PyData.canLay0] using h1,by simp only[yf,PyData.depth];omega⟩
 |n+1,.lst l,h=>by
  obtain⟨h1,h2⟩:=Zl (wc n) l (by simpa [zx] using h);exact⟨by simpa [yf,PyData.canLay0] using h1,by simp only[yf,PyData.depth];omega⟩
theorem XN(d:D): ∀l:List D,((xt l).any fun y=>PyData.eqv y (yf d))=l.any fun y=>zH y d
 |[]=>by simp[xt]
 |x::xs=>by simp only[xt,List.any_cons];rw[Qm x d,XN d xs]
section
variable {X:Cx} {pins:List (Addr×Obj)} {σ:St} {H:Hp} {s:Shared} {W:Addr->Prop}
mutual
theorem Rep.reads(I:Inv X pins σ H s): ∀{n:Nat} {d:D} {x:V} {v:Value},zx n d=true->Rep X.K W H d x->RelV x v->∃as,Reads s.heap v (yf d) as
 |_,_,_,_,_,.int i,r=>by obtain⟨t,rfl⟩:=r;exact⟨_,.int _ _⟩
 |_,_,_,_,_,.bl b,r=>by cases r;exact⟨_,.bool _⟩
 |_,_,_,_,_,.non,r=>by cases r;exact⟨_,.none⟩
 |_,_,_,_,_,.str x,r=>by obtain⟨t,rfl⟩:=r;exact⟨_,.str _ _⟩
 |0,_,_,_,n,.tup h rs,r=>by simp[zx] at n
 |0,_,_,_,n,.lst h rs,r=>by simp[zx] at n
 |_+1,_,_,_,n,.tup h rs,r=>by
  cases r;obtain⟨its,rv,⟨o,ho,hc,m,hd⟩,hz⟩:=I.tuple (.of h);obtain⟨as,q⟩:=Reps.reads I (by simpa [zx] using n) rs rv;exact⟨as,by simp only[yf];exact .tuple ho hc hd (by simpa using q)⟩
 |_+1,_,_,_,n,.lst h rs,r=>by
  cases r;obtain⟨its,rv,⟨o,m,ho,hc,_,hd⟩,hz⟩:=I.list (show SqL X.K H _ _ from h.elim (fun z=>.inl z.2) fun z=>.inr z);obtain⟨as,q⟩:=Reps.reads I (by simpa [zx] using n) rs rv;exact⟨_,by simp only[yf];exact .list ho hc hd (by simpa using q)⟩
 |0,_,_,_,n,.dK _ _ _ _,r=>by simp[zx] at n
 |0,_,_,_,n,.dT _ _ _ _,r=>by simp[zx] at n
 |_+1,_,_,_,n,.dK _ _ _ _,r=>by simp[zx] at n
 |_+1,_,_,_,n,.dT _ _ _ _,r=>by simp[zx] at n
theorem Reps.reads(I:Inv X pins σ H s): ∀{n:Nat} {ds:List D} {xs:List V} {vs:List Value},ds.all (zx n)=true->Reps X.K W H ds xs->Vals xs vs->∃as,ReadsAll s.heap vs (xt ds) as
 |_,_,_,_,_,.nil,r=>by cases r;exact⟨_,by simp only[xt];exact .nil⟩
 |_,_,_,_,n,.cons h t,r=>by
  cases r with
  |cons r1 r2=>
   simp only[List.all_cons,Bool.and_eq_true] at n;obtain⟨as,q1⟩:=Rep.reads I n.1 h r1;obtain⟨bs,q2⟩:=Reps.reads I n.2 t r2;exact⟨_,by simp only[xt];exact .cons q1 q2⟩
end
theorem Sees.reads(I:Inv X pins σ H s){n:Nat}{d:D}{x:V}{v:Value}(hn:zx n d=true)(h:Sees X.K W H d x)(r:RelV x v): ∃as,Reads s.heap v (yf d) as:=by
 rcases h with h|⟨a,o,rfl,e,rs⟩
 ·exact h.reads I hn r
 ·cases r
  cases rs with
  |lst rs=>
   obtain⟨its,rv,⟨o,m,ho,hc,_,hd⟩,hz⟩:=I.list (show SqL X.K H _ _ from .of e)
   cases n with
   |zero=>simp[zx] at hn
   |succ n=>
    obtain⟨as,q⟩:=rs.reads I (n:=n) (by simpa [zx] using hn) rv;exact⟨_,by simp only[yf];exact .list ho hc hd (by simpa using q)⟩
  |dK l r=>cases n<;>simp[zx] at hn
  |dT l r=>cases n<;>simp[zx] at hn
theorem Sees.readsL(I:Inv X pins σ H s){n:Nat}{l:List D}{x:V}{v:Value}(hn:l.all (zx n)=true)(h:Sees X.K W H (.lst l) x)(r:RelV x v): ∃as,Reads s.heap v (yf (.lst l)) as:=
 h.reads I (n:=n+1) (by simpa [zx] using hn) r
theorem Sees.readsT(I:Inv X pins σ H s){n:Nat}{l:List D}{x:V}{v:Value}(hn:l.all (zx n)=true)(h:Sees X.K W H (.tup l) x)(r:RelV x v): ∃as,Reads s.heap v (yf (.tup l)) as:=
 h.reads I (n:=n+1) (by simpa [zx] using hn) r
end
theorem yP{H:Hp}{p:Addr}(h:H p=Option.none)(o:HO):Same H (zu H p o):=fun b u q=>by rw[zy (vt q h)];exact q
theorem ZZ{K:Ka}{W:Addr->Prop}{H:Hp}{p:Addr}{ds:List D}{xs:List V}(hp:H p=Option.none)(r:Reps K W H ds xs):Res K W H (zu H p (.lst xs)) (.lis true ds) (.ref p):=by
 refine .new hp yn (.lst (r.ext ⟨fun a o h _=>yP hp _ a o h,fun a xs h=>yP hp _ a _ h,fun a o u h=>yP hp _ a _ h,fun a w=>?_⟩));rcases w with w|rfl
 ·exact .inl w
 ·exact .inr hp
theorem zcP{K:Ka}{W:Addr->Prop}{H:Hp}{p:Addr}{ds:List D}{xs:List V}(hp:H p=Option.none)(r:Reps K W H ds xs):Res K W H (zu H p (.tup xs)) (.val (.tup ds)) (.ref p):=
 .val (.tup yn (r.ext (.same (yP hp _))))
section
variable {X:Cx}
theorem Yb:line=sizeLine:=by rw[sizeLine_eq];rfl
theorem Zm: ∀{l:List D} {ns:List Int},ints? l=some ns->l=ns.map D.int
 |[],ns,e=>by simp[ints?] at e;subst e;rfl
 |d::r,ns,e=>by
  cases d with
  |int i=>
   simp only[ints?,jo2] at e;obtain⟨ms,e1,rfl⟩:=e;rw[Zm e1];rfl
  |_=>simp[ints?] at e
theorem Yc(ns:List Int):(ns.map Sum.inl).map kV=ns.map V.int:=by
 rw[List.map_map];rfl
theorem Qn: ∀(a b:List Int),yW (a.map D.int) (b.map D.int)=decide (a=b)
 |[],[]=>by simp[yW]
 |[],_::_=>by simp[yW]
 |_::_,[]=>by simp[yW]
 |x::xs,y::ys=>by
  rw[Bool.eq_iff_iff];simp[yW,zH,Qn xs ys]
theorem zcQ{a b:List Int}(h:(a.map Sum.inl:List zw)=b.map Sum.inl):a=b:=(List.map_inj_right (fun _ _ z=>Sum.inl.inj z)).mp h
theorem zcR(k d:D)(ks:List D):yF (d::ks) k=if zH d k then some 0 else (yF ks k).map (· +1):=by
 unfold yF;rw[List.findIdx?_cons]
theorem Qo: ∀{ns:List Int} {ys:List V},ns.length=ys.length->∀i:Int,xl (yw ns ys) (.inl i)=(yF (ns.map D.int) (.int i)).bind fun j=>ys[j]?
 |[],[],_,i=>rfl
 |n::ns,y::ys,h,i=>by
  have ih:=Qo (ns:=ns) (ys:=ys) (by simpa using h) i;show xl ((Sum.inl n,y)::yw ns ys) (.inl i)=_;rw[List.map_cons,zcR];by_cases e:n=i
  ·rw[Xl (by simp[e])];simp[zH,e]
  ·rw[Xm (by simp[e]),ih]
   have:zH (.int n) (.int i)=false:=by simp[zH,e]
   rw[this];cases yF (ns.map D.int) (.int i)<;>simp
theorem qZ: ∀{ns:List (List Int)} {ys:List V},ns.length=ys.length->∀i:List Int,xl (yz ns ys) (i.map Sum.inl)=(yF (ns.map kT) (kT i)).bind fun j=>ys[j]?
 |[],[],_,i=>rfl
 |n::ns,y::ys,h,i=>by
  have ih:=qZ (ns:=ns) (ys:=ys) (by simpa using h) i;show xl ((n.map Sum.inl,y)::yz ns ys) (i.map Sum.inl)=_;rw[List.map_cons,zcR];by_cases e:n=i
  ·rw[Xl (by simp[e])]
   have:zH (kT n) (kT i)=true:=by simp[kT,zH,Qn,e]
   rw[this];rfl
  ·rw[Xm (fun z=>e (zcQ z)),ih]
   have:zH (kT n) (kT i)=false:=by simp[kT,zH,Qn,e]
   rw[this];cases yF (ns.map kT) (kT i)<;>simp
theorem zcS{ks:List D}{k:D}{j:Nat}(h:yF ks k=some j):j<ks.length:=by
 unfold yF at h;obtain⟨h1,_⟩:=List.findIdx?_eq_some_iff_getElem.mp h;exact h1
theorem ga{ns:List Int}{ys:List V}(h:ns.length=ys.length){i:Int}:(xl (yw ns ys) (.inl i)).isSome=(yF (ns.map D.int) (.int i)).isSome:=by
 rw[Qo h]
 cases e:yF (ns.map D.int) (.int i) with
 |none=>rfl
 |some j=>have:=zcS e;simp at this;simp;omega
theorem gb{ns:List (List Int)}{ys:List V}(h:ns.length=ys.length){i:List Int}:(xl (yz ns ys) (i.map Sum.inl)).isSome=(yF (ns.map kT) (kT i)).isSome:=by
 rw[qZ h]
 cases e:yF (ns.map kT) (kT i) with
 |none=>rfl
 |some j=>have:=zcS e;simp at this;simp;omega
theorem zcT{K:Ka}{W:Addr->Prop}{H:Hp}{ns:List Int}{ys:List V}{vs:List D}{i:Int}{d:D}(h:ns.length=ys.length)(r:Reps K W H vs ys)(e:dget (ns.map D.int) vs (.int i)=some d): ∃y,xl (yw ns ys) (.inl i)=some y/\Rep K W H d y:=by
 unfold dget at e;rw[jo1] at e;obtain⟨j,e1,e2⟩:=e;obtain⟨y,e3,e4⟩:=r.get e2;exact⟨y,by rw[Qo h,e1];exact e3,e4⟩
theorem zjf{K:Ka}{W:Addr->Prop}{H:Hp}{ns:List (List Int)}{ys:List V}{vs:List D}{i:List Int}{d:D}(h:ns.length=ys.length)(r:Reps K W H vs ys)(e:dget (ns.map kT) vs (kT i)=some d): ∃y,xl (yz ns ys) (i.map Sum.inl)=some y/\Rep K W H d y:=by
 unfold dget at e;rw[jo1] at e;obtain⟨j,e1,e2⟩:=e;obtain⟨y,e3,e4⟩:=r.get e2;exact⟨y,by rw[qZ h,e1];exact e3,e4⟩
theorem xa:zZ X (binaryOp .Add) (yM X.K (zg .add)):=by
 rintro pins s σ H x y v u Q I rx ry ⟨W,ds,r,wf,hs,hf,q⟩;obtain⟨d,e,rfl,h1,h2⟩:=xU hs;replace hf:JZ [d,e]=some r:=hf;unfold JZ at hf;split at hf
 ·rename_i a b z;cases z;cases hf
  cases h1.int;cases h2.int;exact zhl pins s σ H _ _ v u Q I rx ry ⟨_,_,rfl,rfl,q _ H (.refl H) (.val (.int _))⟩
 ·rename_i a b z;cases z
  split at hf
  ·rename_i hl
   cases hf;obtain⟨p,xs,rfl,hp,rp⟩:=h1.lst;obtain⟨p2,xs2,rfl,hp2,rp2⟩:=h2.lst;cases rx;cases ry;obtain⟨its,rv,⟨⟨c1,d1,da1,sl1⟩,n,ho,hc,hdd,hd⟩,hz⟩:=I.list hp;obtain⟨its2,rv2,⟨⟨c2,d2,da2,sl2⟩,n2,ho2,hc2,hdd2,hd2⟩,hz2⟩:=I.list hp2;simp only at hc hd hdd hc2 hd2 hdd2;subst hc hd hdd hc2 hd2 hdd2;have l1:=rv.length;have l2:=rv2.length;have l3:=rp.length;have l4:=rp2.length;have le:=Yb;refine concat_meets ⟨_,ho,rfl⟩ ⟨_,ho2,rfl⟩ noFill_list_add seq_list_add PySem.F.slot_list_add PySem.F.entry_list_add (PySem.F.args_list_add_2 _ _) (list_addW p p2 its.toArray its2.toArray n n2 Option.none Option.none sl1 sl2 (by simp;omega)) ⟨ho,ho2,?_⟩;have e:its.toArray++its2.toArray=(its++its2).toArray:=by simp
   rw[e];exact⟨.ref _,_,I.lnew (t':=s.toks) (rv.append rv2) (by rw[List.length_append];omega),rfl,q _ _ (yP I.fresh _) (ZZ I.fresh (rp.append rp2))⟩
  ·cases hf
 ·cases hf
theorem jd:zZ X (binaryOp .Sub) (yM X.K (zg .sub)):=by
 rintro pins s σ H x y v u Q I rx ry ⟨W,ds,r,wf,hs,hf,q⟩;obtain⟨d,e,rfl,h1,h2⟩:=xU hs;replace hf:qL [d,e]=some r:=hf;unfold qL at hf;split at hf
 ·rename_i a b z;cases z;cases hf
  cases h1.int;cases h2.int;exact zhm pins s σ H _ _ v u Q I rx ry ⟨_,_,rfl,rfl,q _ H (.refl H) (.val (.int _))⟩
 ·cases hf
theorem Zn:zZ X (binaryOp .Mult) (yM X.K (zg .mul)):=by
 rintro pins s σ H x y v u Q I rx ry ⟨W,ds,r,wf,hs,hf,q⟩;obtain⟨d,e,rfl,h1,h2⟩:=xU hs;replace hf:Xq [d,e]=some r:=hf;unfold Xq at hf;split at hf
 ·rename_i a b z;cases z
  split at hf
  ·rename_i hc
   cases hf;cases h1.int;cases h2.int;exact zhn pins s σ H _ _ v u Q I rx ry ⟨_,_,rfl,rfl,hc,q _ H (.refl H) (.val (.int _))⟩
  ·cases hf
 ·cases hf
theorem Qp:zZ X (binaryOp .FloorDiv) (yM X.K (zg .fdiv)):=by
 rintro pins s σ H x y v u Q I rx ry ⟨W,ds,r,wf,hs,hf,q⟩;obtain⟨d,e,rfl,h1,h2⟩:=xU hs;replace hf:Qa [d,e]=some r:=hf;unfold Qa at hf;split at hf
 ·rename_i a b z;cases z
  split at hf
  ·rename_i hc
   cases hf;cases h1.int;cases h2.int;exact zho pins s σ H _ _ v u Q I rx ry ⟨_,_,rfl,rfl,hc,q _ H (.refl H) (.val (.int _))⟩
  ·cases hf
 ·cases hf
theorem je:zZ X (binaryOp .Mod) (yM X.K (zg .mod)):=by
 rintro pins s σ H x y v u Q I rx ry ⟨W,ds,r,wf,hs,hf,q⟩;obtain⟨d,e,rfl,h1,h2⟩:=xU hs;replace hf:Qb [d,e]=some r:=hf;unfold Qb at hf;split at hf
 ·rename_i a b z;cases z
  split at hf
  ·rename_i hc
   cases hf;cases h1.int;cases h2.int;exact zhp pins s σ H _ _ v u Q I rx ry ⟨_,_,rfl,rfl,hc,q _ H (.refl H) (.val (.int _))⟩
  ·cases hf
 ·cases hf
theorem XO:Xg X (unaryOp .USub) (zcO X.K (zg .neg)):=by
 rintro pins s σ H x v Q I rx ⟨W,ds,r,wf,hs,hf,q⟩;obtain⟨d,rfl,h1⟩:=XM hs;replace hf:qM [d]=some r:=hf;unfold qM at hf;split at hf
 ·rename_i a z;cases z;cases hf
  cases h1.int;exact zhv pins s σ H _ v Q I rx ⟨_,rfl,q _ H (.refl H) (.val (.int _))⟩
 ·cases hf
theorem zcU{A:Around}(hu:A.units+64<cLine){d e:D}(h:zx 8 d=true):A.units+min (yf d).depth (yf e).depth<cLine:=by
 have h1:=(wc 8 d h).2;have h2:min (yf d).depth (yf e).depth<=(yf d).depth:=Nat.min_le_left _ _;omega
theorem wd(hu:X.A.units+64<cLine):zZ X (compareOp .Eq) (yM X.K (zg .eq)):=by
 rintro pins s σ H x y v u Q I rx ry ⟨W,ds,r,wf,hs,hf,q⟩;obtain⟨d,e,rfl,h1,h2⟩:=xU hs;replace hf:Xr [d,e]=some r:=hf;simp only[Xr] at hf;split at hf
 ·rename_i hc
  rw[Bool.and_eq_true] at hc;cases hf;obtain⟨as,ra⟩:=h1.reads I hc.1 rx;obtain⟨bs,rb⟩:=h2.reads I hc.2 ry;refine SeqAt.compareEq_reads ra rb (wc 8 d hc.1).1 (wc 8 e hc.2).1 (zcU hu hc.1) ?_;rw[Qm];exact⟨.bl _,H,I,rfl,q _ H (.refl H) (.val (.bl _))⟩
 ·cases hf
theorem zcV(hu:X.A.units+64<cLine):zZ X (compareOp .NotEq) (yM X.K (zg .ne)):=by
 rintro pins s σ H x y v u Q I rx ry ⟨W,ds,r,wf,hs,hf,q⟩;obtain⟨d,e,rfl,h1,h2⟩:=xU hs;replace hf:Xs [d,e]=some r:=hf;simp only[Xs] at hf;split at hf
 ·rename_i hc
  rw[Bool.and_eq_true] at hc;cases hf;obtain⟨as,ra⟩:=h1.reads I hc.1 rx;obtain⟨bs,rb⟩:=h2.reads I hc.2 ry;refine SeqAt.compareNe_reads ra rb (wc 8 d hc.1).1 (wc 8 e hc.2).1 (zcU hu hc.1) ?_;rw[Qm];exact⟨.bl _,H,I,rfl,q _ H (.refl H) (.val (.bl _))⟩
 ·cases hf
theorem Qq{A:Around}(hu:A.units+64<cLine){d:D}{l:List PyData}(h:zx 8 d=true):A.units+1+min (PyData.depthAll l) (yf d).depth<cLine:=by
 have h1:=(wc 8 d h).2;have h2:min (PyData.depthAll l) (yf d).depth<=(yf d).depth:=Nat.min_le_right _ _;omega
theorem zcW(hu:X.A.units+64<cLine):zZ X (compareOp .In) (yM X.K (zg .inn)):=by
 rintro pins s σ H x y v u Q I rx ry ⟨W,ds,r,wf,hs,hf,q⟩;obtain⟨d,e,rfl,h1,h2⟩:=xU hs;replace hf:ZW [d,e]=some r:=hf;unfold ZW at hf;split at hf
 ·rename_i x t ks vs z;cases z
  split at hf
  ·rename_i hk
   cases hf
   cases t with
   |false=>
    cases d with
    |int i=>
     cases h1.int;obtain⟨a,ns,ys,rfl,rfl,hH,hl,_⟩:=h2.dK;cases ry;exact zct (by omega) I (.inl ⟨_,.inl i,hH,rfl,rfl⟩) rx fun s' I'=>⟨.bl _,H,I',rfl,q _ H (.refl H) (.val (by rw[ga hl];exact .bl _))⟩
    |_=>simp[yC] at hk
   |true=>
    cases d with
    |tup l=>
     obtain⟨ms,hms⟩: ∃ms,ints? l=some ms:=by simp only[yC,Option.isSome_iff_exists] at hk;exact hk
     obtain⟨b,xs,rfl,hb,rp⟩:=h1.tupH;obtain⟨a,ns,ys,rfl,rfl,hH,hl,_⟩:=h2.dT;cases ry;have e1:=rp.ofInts hms;have e2:=Zm hms;subst e1 e2;exact zct (by omega) I (DGet.t (k:=ms.map Sum.inl) hH (by rw[hb,Yc])) rx fun s' I'=>⟨.bl _,H,I',rfl,q _ H (.refl H) (.val (by rw[gb hl];exact .bl _))⟩
    |_=>simp[yC] at hk
  ·cases hf
 ·rename_i d l z;cases z
  split at hf
  ·rename_i hc
   rw[Bool.and_eq_true] at hc;cases hf;obtain⟨as,ra⟩:=h1.reads I hc.1 rx;obtain⟨bs,rb⟩:=h2.readsT I hc.2 ry;simp only[yf] at rb;refine SeqAt.in_tuple_reads rb ra (Zl (wc 8) l hc.2).1 (wc 8 d hc.1).1 (Qq hu hc.1) ?_;rw[XN];exact⟨.bl _,H,I,rfl,q _ H (.refl H) (.val (.bl _))⟩
  ·cases hf
 ·rename_i d l z;cases z
  split at hf
  ·rename_i hc
   rw[Bool.and_eq_true] at hc;cases hf;obtain⟨as,ra⟩:=h1.reads I hc.1 rx;obtain⟨bs,rb⟩:=h2.readsL I hc.2 ry;simp only[yf] at rb;refine SeqAt.in_list_reads rb ra (Zl (wc 8) l hc.2).1 (wc 8 d hc.1).1 (Qq hu hc.1) ?_;rw[XN];exact⟨.bl _,H,I,rfl,q _ H (.refl H) (.val (.bl _))⟩
  ·cases hf
 ·cases hf
theorem vi(hu:X.A.units+64<cLine):zZ X (compareOp .NotIn) (yM X.K (zg .nin)):=by
 rintro pins s σ H x y v u Q I rx ry ⟨W,ds,r,wf,hs,hf,q⟩;obtain⟨d,e,rfl,h1,h2⟩:=xU hs;replace hf:ja [d,e]=some r:=hf;unfold ja at hf;split at hf
 ·rename_i x t ks vs z;cases z
  split at hf
  ·rename_i hk
   cases hf
   cases t with
   |false=>
    cases d with
    |int i=>
     cases h1.int;obtain⟨a,ns,ys,rfl,rfl,hH,hl,_⟩:=h2.dK;cases ry;exact zcu (by omega) I (.inl ⟨_,.inl i,hH,rfl,rfl⟩) rx fun s' I'=>⟨.bl _,H,I',rfl,q _ H (.refl H) (.val (by rw[ga hl];exact .bl _))⟩
    |_=>simp[yC] at hk
   |true=>
    cases d with
    |tup l=>
     obtain⟨ms,hms⟩: ∃ms,ints? l=some ms:=by simp only[yC,Option.isSome_iff_exists] at hk;exact hk
     obtain⟨b,xs,rfl,hb,rp⟩:=h1.tupH;obtain⟨a,ns,ys,rfl,rfl,hH,hl,_⟩:=h2.dT;cases ry;have e1:=rp.ofInts hms;have e2:=Zm hms;subst e1 e2;exact zcu (by omega) I (DGet.t (k:=ms.map Sum.inl) hH (by rw[hb,Yc])) rx fun s' I'=>⟨.bl _,H,I',rfl,q _ H (.refl H) (.val (by rw[gb hl];exact .bl _))⟩
    |_=>simp[yC] at hk
  ·cases hf
 ·rename_i d l z;cases z
  split at hf
  ·rename_i hc
   rw[Bool.and_eq_true] at hc;cases hf;obtain⟨as,ra⟩:=h1.reads I hc.1 rx;obtain⟨bs,rb⟩:=h2.readsT I hc.2 ry;simp only[yf] at rb;refine SeqAt.notIn_tuple_reads rb ra (Zl (wc 8) l hc.2).1 (wc 8 d hc.1).1 (Qq hu hc.1) ?_;rw[XN];exact⟨.bl _,H,I,rfl,q _ H (.refl H) (.val (.bl _))⟩
  ·cases hf
 ·rename_i d l z;cases z
  split at hf
  ·rename_i hc
   rw[Bool.and_eq_true] at hc;cases hf;obtain⟨as,ra⟩:=h1.reads I hc.1 rx;obtain⟨bs,rb⟩:=h2.readsL I hc.2 ry;simp only[yf] at rb;refine SeqAt.notIn_list_reads rb ra (Zl (wc 8) l hc.2).1 (wc 8 d hc.1).1 (Qq hu hc.1) ?_;rw[XN];exact⟨.bl _,H,I,rfl,q _ H (.refl H) (.val (.bl _))⟩
  ·cases hf
 ·cases hf
theorem gc: ∀x y:List Int,LW.lexLt x y=HT.lexLt x y
 |[],[]=>rfl
 |[],_::_=>rfl
 |_::_,[]=>rfl
 |a::x,b::y=>by rw[HT.lexLt_cons,LW.lexLt,gc x y]
theorem Yd(hu:X.A.units+64<cLine):zZ X (compareOp .Lt) (yM X.K (zg .lt)):=by
 rintro pins s σ H x y v u Q I rx ry ⟨W,ds,r,wf,hs,hf,q⟩;obtain⟨d,e,rfl,h1,h2⟩:=xU hs;replace hf:Xu [d,e]=some r:=hf;unfold Xu at hf;split at hf
 ·rename_i a b z;cases z;cases hf
  cases h1.int;cases h2.int;exact zhw pins s σ H _ _ v u Q I rx ry ⟨_,_,rfl,rfl,q _ H (.refl H) (.val (.bl _))⟩
 ·rename_i a b z;cases z
  simp only[jo1] at hf;obtain⟨ns,e1,ms,e2,hf⟩:=hf;cases hf;obtain⟨p,xs,rfl,hp,rp⟩:=h1.tup;obtain⟨p2,xs2,rfl,hp2,rp2⟩:=h2.tup;rw[rp.ofInts e1] at hp;rw[rp2.ofInts e2] at hp2;refine zhZ (by omega) pins s σ H _ _ v u Q I rx ry ⟨_,_,ns,ms,rfl,rfl,hp,hp2,?_⟩;rw[<-gc];exact q _ H (.refl H) (.val (.bl _))
 ·cases hf
theorem Qr:zZ X (compareOp .LtE) (yM X.K (zg .le)):=by
 rintro pins s σ H x y v u Q I rx ry ⟨W,ds,r,wf,hs,hf,q⟩;obtain⟨d,e,rfl,h1,h2⟩:=xU hs;replace hf:Qc [d,e]=some r:=hf;unfold Qc at hf;split at hf
 ·rename_i a b z;cases z;cases hf
  cases h1.int;cases h2.int;exact zhx pins s σ H _ _ v u Q I rx ry ⟨_,_,rfl,rfl,q _ H (.refl H) (.val (.bl _))⟩
 ·cases hf
theorem zjg(hu:X.A.units<cLine){pins:List (Addr×Obj)}{s:Shared}{σ:St}{H:Hp}{a b:Addr}{ns ms:List Int}{Q:VK}(I:Inv X pins σ H s)(ha:SqT X.K H a (ns.map V.int))(hb:SqT X.K H b (ms.map V.int))(q:Q (.bl (HT.lexLt ms ns)) H):
  wpAny (model X.prog X.w) X.A (compareOp .Gt (.ref a) (.ref b)) (EP X pins σ Q) X.xe s:=by
 obtain⟨its,r1,p1,_⟩:=I.tuple ha;obtain⟨its2,r2,p2,_⟩:=I.tuple hb;have i1:IntsAre its.toArray.toList ns:=vZ r1;have i2:IntsAre its2.toArray.toList ms:=vZ r2;exact HT.gt_tupInts p1 p2 i1 i2 hu ⟨.bl (HT.lexLt ms ns),H,I,rfl,q⟩
theorem Zo(hu:X.A.units+64<cLine):zZ X (compareOp .Gt) (yM X.K (zg .gt)):=by
 rintro pins s σ H x y v u Q I rx ry ⟨W,ds,r,wf,hs,hf,q⟩;obtain⟨d,e,rfl,h1,h2⟩:=xU hs;replace hf:Qd [d,e]=some r:=hf;unfold Qd at hf;split at hf
 ·rename_i a b z;cases z;cases hf
  cases h1.int;cases h2.int;exact zhy pins s σ H _ _ v u Q I rx ry ⟨_,_,rfl,rfl,q _ H (.refl H) (.val (.bl _))⟩
 ·rename_i a b z;cases z
  simp only[jo1] at hf;obtain⟨ns,e1,ms,e2,hf⟩:=hf;cases hf;obtain⟨p,xs,rfl,hp,rp⟩:=h1.tup;obtain⟨p2,xs2,rfl,hp2,rp2⟩:=h2.tup;rw[rp.ofInts e1] at hp;rw[rp2.ofInts e2] at hp2;cases rx;cases ry;refine zjg (by omega) I hp hp2 ?_;rw[<-gc];exact q _ H (.refl H) (.val (.bl _))
 ·cases hf
theorem zcX{K:Ka}{W:Addr->Prop}{H:Hp}{ds:List D}{xs:List V}{i:Int}{d:D}(r:Reps K W H ds xs)(h:LW.atI ds i=some d): ∃x,L2.atI xs i=some x/\Rep K W H d x:=by
 unfold LW.atI at h;unfold L2.atI;rw[jo1] at h;obtain⟨j,h1,h2⟩:=h;obtain⟨x,e,q⟩:=r.get h2;refine⟨x,?_,q⟩;rw[<-r.length];rw[jo1];exact⟨j,h1,e⟩
theorem zcY{value slice:Expr}{pins:List (Addr×Obj)}{s:Shared}{σ:St}{H:Hp}{a:Addr}{y v:V}{u:Value}{Q:VK}(hu:X.A.units+64<cLine)(I:Inv X pins σ H s)(g:DGet H a y (some v))(ry:RelV y u)(q:Q v H)
  (hs:subscripted slice false (.ref a) u=operate [.ref a,u] (getItem (.ref a) u)):wpAny (model X.prog X.w) X.A (subscriptTail value slice (.ref a) u) (EP X pins σ Q) X.xe s:=by
 have hT:=zii I g;unfold subscriptTail;refine Kb ?_;rw[getitemInPython_of_ne hT.not_modules];refine Kb (wpAny_specialOf hT PySem.F.slot_dict_getitem.lookup ?_)
 have fin:wpAny (model X.prog X.w) X.A (subscripted slice false (.ref a) u) (fun r s₃=>wpAny (model X.prog X.w) X.A (letTemporaryGo value (.ref a) r >>= fun _=>pure r) (EP X pins σ Q) X.xe s₃) X.xe s:=by
  rw[hs];refine wpAny_operating (Kd (zif (Q:=EP X pins σ Q) (by omega) I g ry fun w' s' I' rv=>⟨v,H,I',rv,q⟩) (fun r s₃ h₃=>Kb (wpAny_letTemporaryGo (Kc h₃))) fun _ _ x=>x)
 first
  |exact Kc (Kb fin)
  |exact Kb (Kc (Kb fin))
  |exact Kc (Kb (Kc (Kb fin)))
  |exact Kb (Kb (Kc fin))
theorem zjh(hu:X.A.units+64<cLine):JU X (yM X.K (zg .idx)):=by
 rintro value slice pins s σ H x y v u Q I rx ry ⟨W,ds,r,wf,hs,hf,q⟩ hsub;obtain⟨d,e,rfl,h1,h2⟩:=xU hs;replace hf:jb [d,e]=some r:=hf;unfold jb at hf;split at hf
 ·rename_i t ks vs k z;cases z
  split at hf
  ·rename_i hk
   rw[jo2] at hf;obtain⟨d',e1,rfl⟩:=hf
   cases t with
   |false=>
    cases e with
    |int i=>
     cases h2.int;obtain⟨a,ns,ys,rfl,rfl,hH,hl,rp⟩:=h1.dK;cases rx;obtain⟨y,e2,ry'⟩:=zcT hl rp e1;exact zcY hu I (by rw[<-e2];exact .inl ⟨_,.inl i,hH,rfl,rfl⟩) ry (q _ H (.refl H) (.val ry')) hsub
    |_=>simp[yC] at hk
   |true=>
    cases e with
    |tup l=>
     obtain⟨ms,hms⟩: ∃ms,ints? l=some ms:=by simp only[yC,Option.isSome_iff_exists] at hk;exact hk
     obtain⟨b,xs,rfl,hb,rpb⟩:=h2.tupH;obtain⟨a,ns,ys,rfl,rfl,hH,hl,rp⟩:=h1.dT;cases rx;have z1:=rpb.ofInts hms;have z2:=Zm hms;subst z1 z2;obtain⟨y,e2,ry'⟩:=zjf hl rp e1;exact zcY hu I (by rw[<-e2];exact DGet.t (k:=ms.map Sum.inl) hH (by rw[hb,Yc])) ry (q _ H (.refl H) (.val ry')) hsub
    |_=>simp[yC] at hk
  ·cases hf
 ·rename_i l i z;cases z
  rw[jo2] at hf;obtain⟨d,e1,rfl⟩:=hf;obtain⟨p,xs,rfl,hp,rp⟩:=h1.tup;cases h2.int;obtain⟨z,e2,rz⟩:=zcX rp e1;exact zh5 value slice pins s σ H _ _ v u Q I rx ry ⟨p,xs,i,z,rfl,rfl,hp,e2,q _ H (.refl H) (.val rz)⟩ hsub
 ·rename_i l i z;cases z
  rw[jo2] at hf;obtain⟨d,e1,rfl⟩:=hf;obtain⟨p,xs,rfl,hp,rp⟩:=h1.lst;cases h2.int;obtain⟨z,e2,rz⟩:=zcX rp e1;exact zh4 value slice pins s σ H _ _ v u Q I rx ry ⟨p,xs,i,z,rfl,rfl,hp,e2,q _ H (.refl H) (.val rz)⟩ hsub
 ·cases hf
theorem yT:xk X (.builtin "len") (VR X.K (zg .len)):=by
 rintro pins s σ H xs us Q I rv ⟨W,ds,r,wf,hs,hf,q⟩;replace hf:qO ds=some r:=hf;unfold qO at hf;split at hf
 ·cases hf
  cases hs with
  |cons h1 t=>
   cases t;obtain⟨p,ys,rfl,hp,rp⟩:=h1.tup;refine zcj pins s σ H _ us Q I rv ⟨p,ys,rfl,.inr hp,?_⟩;rw[<-rp.length];exact q _ H (.refl H) (.val (.int _))
 ·cases hf
  cases hs with
  |cons h1 t=>
   cases t;obtain⟨p,ys,rfl,hp,rp⟩:=h1.lst;refine zcj pins s σ H _ us Q I rv ⟨p,ys,rfl,.inl hp,?_⟩;rw[<-rp.length];exact q _ H (.refl H) (.val (.int _))
 ·cases hf
theorem Qs:xk X (.builtin "abs") (VR X.K (zg .abs)):=by
 rintro pins s σ H xs us Q I rv ⟨W,ds,r,wf,hs,hf,q⟩;replace hf:qP ds=some r:=hf;unfold qP at hf;split at hf
 ·cases hf
  cases hs with
  |cons h1 t=>
   cases t;cases h1.int;exact zhF pins s σ H _ us Q I rv ⟨_,rfl,q _ H (.refl H) (.val (.int _))⟩
 ·cases hf
theorem zji(hc:X.calm=true):xk X (.builtin "min") (VR X.K (zg .min2)):=by
 rintro pins s σ H xs us Q I rv ⟨W,ds,r,wf,hs,hf,q⟩;replace hf:qQ ds=some r:=hf;unfold qQ at hf;split at hf
 ·cases hf
  cases hs with
  |cons h1 t=>
   cases t with
   |cons h2 t=>
    cases t;cases h1.int;cases h2.int;exact zhH hc pins s σ H _ us Q I rv ⟨_,_,rfl,q _ H (.refl H) (.val (.int _))⟩
 ·cases hf
theorem zjj(hc:X.calm=true):xk X (.builtin "max") (VR X.K (zg .max2)):=by
 rintro pins s σ H xs us Q I rv ⟨W,ds,r,wf,hs,hf,q⟩;replace hf:qR ds=some r:=hf;unfold qR at hf;split at hf
 ·cases hf
  cases hs with
  |cons h1 t=>
   cases t with
   |cons h2 t=>
    cases t;cases h1.int;cases h2.int;exact zhG hc pins s σ H _ us Q I rv ⟨_,_,rfl,q _ H (.refl H) (.val (.int _))⟩
 ·cases hf
theorem zjk:xk X (.type "tuple") (VR X.K (zg .toTup)):=by
 rintro pins s σ H xs us Q I rv ⟨W,ds,r,wf,hs,hf,q⟩;replace hf:qT ds=some r:=hf;unfold qT at hf;split at hf
 ·cases hf
  cases hs with
  |cons h1 t=>
   cases t;obtain⟨p,ys,rfl,hp,rp⟩:=h1.tupH;exact zck pins s σ H _ us Q I rv ⟨p,ys,rfl,.inr ⟨.of hp,q _ H (.refl H) (.val (.tup hp rp))⟩⟩
 ·cases hf
  cases hs with
  |cons h1 t=>
   cases t;obtain⟨p,ys,rfl,hp,rp⟩:=h1.lst;exact zck pins s σ H _ us Q I rv ⟨p,ys,rfl,.inl ⟨hp,fun l hl=>q _ _ (yP hl _) (zcP hl rp)⟩⟩
 ·cases hf
end
end L2.LW
set_option maxHeartbeats 4000000
namespace L2.LW
open PySem PySem.Spec PyProof.Rows
structure IE (X:Cx)(fn:Nat->List D->Option SV)(e:Expr)(c:E):Prop where
 h:PE X e (tE X.K fn c)
structure IA (X:Cx)(fn:Nat->List D->Option SV)(es:List Expr)(cs:Es):Prop where
 h:PA X es (zcN X.K fn cs)
structure IT (X:Cx)(fn:Nat->List D->Option SV)(e:Expr)(c:E):Prop where
 h:PT X e (tT X.K fn c)
structure IW (X:Cx)(fn:Nat->List D->Option SV)(e:Expr)(c:E):Prop where
 h:PW X e (tT X.K fn c)
theorem Res.back{K:Ka}{W:Addr->Prop}{H H1 H2:Hp}{r:SV}{v:V}(h:Res K W H1 H2 r v)(s:Same H H1):Res K W H H2 r v:=by
 cases h with
 |val h=>exact .val h
 |new h e r=>exact .new (s.free h) e r
 |see h e r=>exact .see h e r
theorem R.wf'{K:Ka}{W:Addr->Prop}{ρ:LW.Env}{σ:St}{H H':Hp}(r:R K W ρ σ H)(s:Same H H'):Wf W H':=(r.same s).wf
theorem gf{K:Ka}{W:Addr->Prop}{H:Hp}: ∀{rs:List SV} {vs:List V},Paired (Frz K W H) rs vs->Paired (Sees K W H) (rs.map zI) vs
 |_,_,.nil=>.nil
 |_,_,.cons h t=>.cons h.sees (gf t)
theorem gg{K:Ka}{W:Addr->Prop}{H:Hp}: ∀{rs:List SV} {vs:List V} {ds:List D},Paired (Frz K W H) rs vs->xT rs=some ds->Reps K W H ds vs
 |_,_,_,.nil,e=>by simp[xT] at e;subst e;exact .nil
 |_,_,_,.cons h t,e=>by
  simp only[xT,jo1,jo2] at e;obtain⟨d,e1,ds,e2,rfl⟩:=e;exact .cons (h.toD e1) (gg t e2)
section
variable {es:List Expr} {env:PySem.Env}
theorem za{a b}:starEach (.Name a b::es) env=(false,eval (.Name a b) env)::starEach es env:=rfl
theorem zq{a b c}:starEach (.Constant a b c::es) env=(false,eval (.Constant a b c) env)::starEach es env:=rfl
theorem xc{a b c d}:starEach (.BinOp a b c d::es) env=(false,eval (.BinOp a b c d) env)::starEach es env:=rfl
theorem zW{a b c d}:starEach (.Call a b c d::es) env=(false,eval (.Call a b c d) env)::starEach es env:=rfl
theorem yc{a b c}:starEach (.Subscript a b c::es) env=(false,eval (.Subscript a b c) env)::starEach es env:=rfl
theorem xp{a b c}:starEach (.Tuple a b c::es) env=(false,eval (.Tuple a b c) env)::starEach es env:=rfl
theorem zjl{a b c}:starEach (.Dict a b c::es) env=(false,eval (.Dict a b c) env)::starEach es env:=rfl
theorem zjm{a b}:starEach (.List a b::es) env=(false,eval (.List a b) env)::starEach es env:=rfl
theorem jE{a b c d}:starEach (.ListComp a b c d::es) env=(false,eval (.ListComp a b c d) env)::starEach es env:=rfl
theorem zi{pos:Pos}:(backTo pos (starEach [] env)).any (·.1)=false:=rfl
theorem zn{pos:Pos}{e:Expr}(h:starEach (e::es) env=(false,eval e env)::starEach es env)(t:(backTo pos (starEach es env)).any (·.1)=false):(backTo pos (starEach (e::es) env)).any (·.1)=false:=by
 rw[h];simpa [backTo] using t
theorem zjn{a b}: ∀whole,isTrue (.Name a b) env whole=(do let v <-whole;standAt (Expr.Name a b).pos;holding [v] (truthy v)):=fun _=>rfl
theorem wv{a b c d}: ∀whole,isTrue (.Call a b c d) env whole=(do let v <-whole;standAt (Expr.Call a b c d).pos;holding [v] (truthy v)):=fun _=>rfl
end
section
variable {X:Cx} {fn:Nat->List D->Option SV} {a b c e:Expr} {ca cb cc ce:E} {es:List Expr} {cs:Es} {pos p:Pos} {x:Str}
theorem IE.v(h:IE X fn e ce):PE X e (tV X.K fn ce):=h.h.imp fun σ H Q ⟨W,ρ,r,hR,he,q⟩=>⟨W,ρ,r,hR,he,fun v H' s x=>q v H' s (x.frz hR.wf)⟩
theorem zj{i:Int}{j:Nat}:IE X fn (.Constant (.int i) j pos) (.int i):=.mk <| zgI.imp fun σ H Q zz3=>by
 obtain⟨W,ρ,r,hR,he,q⟩:=zz3;simp only[zcB] at he;cases he;exact q _ H (.refl H) (.val (.int i))
theorem Zp{i:Bool}{j:Nat}:IE X fn (.Constant (.bool i) j pos) (.bl i):=.mk <| zgJ.imp fun σ H Q zz3=>by
 obtain⟨W,ρ,r,hR,he,q⟩:=zz3;simp only[ziC] at he;cases he;exact q _ H (.refl H) (.val (.bl i))
theorem XQ{j:Nat}:IE X fn (.Constant .none j pos) .non:=.mk <| zgK.imp fun σ H Q zz3=>by
 obtain⟨W,ρ,r,hR,he,q⟩:=zz3;simp only[ziD] at he;cases he;exact q _ H (.refl H) (.val .non)
theorem zcZ{i:Str}{j:Nat}:IE X fn (.Constant (.str i) j pos) (.str i):=.mk <| zgL.imp fun σ H Q zz3=>by
 obtain⟨W,ρ,r,hR,he,q⟩:=zz3;simp only[ziE] at he;cases he;exact q _ H (.refl H) (.val (.str i))
theorem zL(i:Nat)(hN:X.N[i]? =some x)(hv:xK X.env.scope x)(hd:(x==("__debug__":Str))=false:=by decide)(hcd:(x==("__classdict__":Str))=false:=by decide):IE X fn (.Name x pos) (.var i):=
 .mk <| (wK hN hv hd hcd).imp fun σ H Q zz3=>by
  obtain⟨W,ρ,r,hR,he,q⟩:=zz3;simp only[ziF] at he;obtain⟨v,h1,_,h3⟩:=hR.look he;exact⟨v,h1,q v H (.refl H) h3⟩
theorem Zq{i:Int}{t:Tok}(hg:Gl X x)(hm:X.mg x=some (.int i t))(hd:(x==("__debug__":Str))=false:=by decide):IE X fn (.Name x pos) (.int i):=
 .mk <| (zgM hg hm (v:=.int i) ⟨t,rfl⟩ hd).imp fun σ H Q zz3=>by
  obtain⟨W,ρ,r,hR,he,q⟩:=zz3;simp only[zcB] at he;cases he;exact q _ H (.refl H) (.val (.int i))
theorem zf:IA X fn [] .nil:=.mk <| wL.imp fun σ H Q zz3=>by
 obtain⟨W,ρ,rs,hR,he,q⟩:=zz3;simp only[xY] at he;cases he;exact q _ H (.refl H) .nil
theorem zc(ha:IE X fn e ce)(hr:IA X fn es cs)(hs:starEach (e::es) X.env=(false,eval e X.env)::starEach es X.env:=by rfl):IA X fn (e::es) (.cons ce cs):=
 .mk <| (xX ha.v hr.h hs).imp fun σ H Q zz3=>by
  obtain⟨W,ρ,rs,hR,he,q⟩:=zz3;simp only[xZ,jo1,jo2] at he;obtain⟨r,e1,rs',e2,rfl⟩:=he;exact⟨W,ρ,r,hR,e1,fun v H1 s1 f1=>⟨W,ρ,rs',hR.same s1,e2,fun vs H2 s2 f2=>q _ H2 (s1.trans s2) (.cons (f1.same s2) f2)⟩⟩
theorem XR{K:Ka}{p:Prim}{W:Addr->Prop}{ρ:LW.Env}{σ:St}{H H1:Hp}{Q:VK}{rs:List SV}{vs:List V}{r:SV}(hR:R K W ρ σ H)(s1:Same H H1)(f:Paired (Frz K W H1) rs vs)
  (e:zg p (rs.map zI)=some r) (q: ∀v H',Same H H'->Res K W H H' r v->Q v H'):VR K (zg p) vs H1 Q:=
 ⟨W,rs.map zI,r,hR.wf' s1,gf f,e,fun v H' s2 h=>q v H' (s1.trans s2) (h.back s1)⟩
theorem Qt{K:Ka}{p:Prim}{ρ:LW.Env}{σ:St}{H:Hp}{Q:VK}{W:Addr->Prop}{r:SV}(hR:R K W ρ σ H)(he:zo fn (.prim p (.cons ca (.cons cb .nil))) ρ=some r)(q: ∀v H',Same H H'->Res K W H H' r v->Q v H'):
  Xh (yM K (zg p)) (tV K fn ca) (tV K fn cb) σ H Q:=by
 simp only[vg,xY,xZ,jo1,jo2] at he;obtain⟨rs,⟨r1,e1,rs',⟨r2,e2,rs'',e3,rfl⟩,rfl⟩,e4⟩:=he;cases e3;exact⟨W,ρ,r1,hR,e1,fun v1 H1 s1 f1=>⟨W,ρ,r2,hR.same s1,e2,fun v2 H2 s2 f2=>XR hR (s1.trans s2) (.cons (f1.same s2) (.cons f2 .nil)) e4 q⟩⟩
theorem zD{op:Operator}{pr:Prim}(ho:zZ X (binaryOp op) (yM X.K (zg pr)))(ha:IE X fn a ca)(hb:IE X fn b cb):IE X fn (.BinOp a op b pos) (.prim pr (.cons ca (.cons cb .nil))):=
 .mk <| (zhh ho ha.v hb.v).imp fun σ H Q ⟨W,ρ,r,hR,he,q⟩=>Qt hR he q
theorem XS{op:UnaryOp}{pr:Prim}(ho:Xg X (unaryOp op) (zcO X.K (zg pr)))(ha:IE X fn a ca):IE X fn (.UnaryOp op a pos) (.prim pr (.cons ca .nil)):=
 .mk <| (zhi ho ha.v).imp fun σ H Q zz3=>by
  obtain⟨W,ρ,r,hR,he,q⟩:=zz3;simp only[vg,xY,xZ,jo1,jo2] at he;obtain⟨rs,⟨r1,e1,rs',e3,rfl⟩,e4⟩:=he;cases e3;exact⟨W,ρ,r1,hR,e1,fun v1 H1 s1 f1=>XR hR s1 (.cons f1 .nil) e4 q⟩
theorem vj{op:CmpOp}{pr:Prim}(ho:zZ X (compareOp op) (yM X.K (zg pr)))(ha:IE X fn a ca)(hb:IE X fn b cb)(hm:behindInMarks op b=false):IE X fn (.Compare a [op] [b] pos) (.prim pr (.cons ca (.cons cb .nil))):=
 .mk <| (zhz ho ha.v hb.v hm).imp fun σ H Q ⟨W,ρ,r,hR,he,q⟩=>Qt hR he q
theorem zP(hu:X.A.units+64<cLine)(ha:IE X fn a ca)(hb:IE X fn b cb)(hs:zci b):IE X fn (.Subscript a b pos) (.prim .idx (.cons ca (.cons cb .nil))):=
 .mk <| (zh1 (zjh hu) ha.v hb.v hs).imp fun σ H Q ⟨W,ρ,r,hR,he,q⟩=>Qt hR he q
theorem zc0{K:Ka}{pr:Prim}{ρ:LW.Env}{σ:St}{H:Hp}{Q:VK}{W:Addr->Prop}{r:SV}(hR:R K W ρ σ H)(he:zo fn (.prim pr cs) ρ=some r)(q: ∀v H',Same H H'->Res K W H H' r v->Q v H'):
  JT (VR K (zg pr)) (zcN K fn cs) σ H Q:=by
 simp only[vg,jo1] at he;obtain⟨rs,e1,e2⟩:=he;exact⟨W,ρ,rs,hR,e1,fun vs H1 s1 f=>XR hR s1 f e2 q⟩
theorem yo{id:String}{pr:Prim}(hc:xk X (.builtin id) (VR X.K (zg pr)))(hg:Gl X x)(hm:X.mg x=none)(hv:bootBuiltins x=some (.builtin id))(ha:IA X fn (e::es) cs)(hn:x≠"__name__":=by decide)(hdb:(x==("__debug__":Str))=false:=by decide)
  (he:starEach (e::es) X.env=(false,eval e X.env)::starEach es X.env:=by rfl) (hpl:(backTo pos (starEach es X.env)).any (·.1)=false:=by rfl):IE X fn (.Call (.Name x p) (e::es) [] pos) (.prim pr cs):=
 .mk <| (qH hc hg hm hv ha.h hn hdb he hpl).imp fun σ H Q ⟨W,ρ,r,hR,h,q⟩=>zc0 hR h q
theorem zjo{T:String}{pr:Prim}(hc:xk X (.type T) (VR X.K (zg pr)))(hg:Gl X x)(hm:X.mg x=none)(hv:bootBuiltins x=some (.type T))(ha:IA X fn (e::es) cs)(hn:x≠"__name__":=by decide)(hdb:(x==("__debug__":Str))=false:=by decide)
  (he:starEach (e::es) X.env=(false,eval e X.env)::starEach es X.env:=by rfl) (hpl:(backTo pos (starEach es X.env)).any (·.1)=false:=by rfl):IE X fn (.Call (.Name x p) (e::es) [] pos) (.prim pr cs):=
 .mk <| (zcb hc hg hm hv ha.h hn hdb he hpl).imp fun σ H Q ⟨W,ρ,r,hR,h,q⟩=>zc0 hR h q
theorem gh{K:Ka}{W:Addr->Prop}{H:Hp}: ∀{rs:List SV} {ds:List D},xT rs=some ds->ds.length=rs.length
 |[],_,e=>by simp[xT] at e;subst e;rfl
 |r::rs,_,e=>by
  simp only[xT,jo1,jo2] at e;obtain⟨d,e1,ds,e2,rfl⟩:=e;simp[gh (K:=K) (W:=W) (H:=H) e2]
noncomputable def XT:Es->Nat
 | .nil=>0
 | .cons _ r=>XT r+1
theorem gk: ∀{cs:Es} {ρ:LW.Env} {rs:List SV},yj fn cs ρ=some rs->rs.length=XT cs
 | .nil,_,_,e=>by simp only[xY] at e;cases e;rfl
 | .cons c cs,_,_,e=>by
  simp only[xZ,jo1,jo2] at e;obtain⟨r,e1,rs',e2,rfl⟩:=e;simp[XT,gk e2]
theorem yI{k:Nat}(h:IA X fn es cs)(hl:XT cs<=1000:=by decide):IE X fn (.Tuple es k pos) (.tup cs):=
 .mk <| (zhK h.h).imp fun σ H Q zz3=>by
  obtain⟨W,ρ,r,hR,he,q⟩:=zz3;simp only[ziG,jo1,jo2] at he;obtain⟨rs,e1,ds,e2,rfl⟩:=he;refine⟨W,ρ,rs,hR,e1,fun vs H1 s1 f=>?_⟩;have r1:=gg f e2;have l1:=r1.length;have l2:=gh (K:=X.K) (W:=W) (H:=H) e2;have l3:=gk e1;exact⟨Nat.le_of_lt (Xo (by omega)),fun p hp=>q _ _ (s1.trans (yP hp _)) ((zcP hp r1).back s1)⟩
theorem xf(h:IA X fn es cs)(hl:XT cs<=1000:=by decide):IE X fn (.List es pos) (.lst cs):=
 .mk <| (zhL h.h).imp fun σ H Q zz3=>by
  obtain⟨W,ρ,r,hR,he,q⟩:=zz3;simp only[ziH,jo1,jo2] at he;obtain⟨rs,e1,ds,e2,rfl⟩:=he;refine⟨W,ρ,rs,hR,e1,fun vs H1 s1 f=>?_⟩;have r1:=gg f e2;have l1:=r1.length;have l2:=gh (K:=X.K) (W:=W) (H:=H) e2;have l3:=gk e1;exact⟨Nat.le_of_lt (Xo (by omega)),fun p hp=>q _ _ (s1.trans (yP hp _)) ((ZZ hp r1).back s1)⟩
theorem Ye{op:BoolOp}(h:IE X fn a ca):IE X fn (.BoolOp op [a] pos) ca:=.mk (zgZ h.h)
theorem jf{zO:List Expr}(ha:IE X fn a ca)(hb:IE X fn (.BoolOp .And (b::zO) pos) cb):IE X fn (.BoolOp .And (a::b::zO) pos) (.and ca cb):=
 .mk <| (zg0 ha.h hb.h).imp fun σ H Q zz3=>by
  obtain⟨W,ρ,r,hR,he,q⟩:=zz3;simp only[ziI,jo1] at he;obtain⟨r1,e1,e2⟩:=he;refine⟨W,ρ,r1,hR,e1,fun v H1 s1 f=>?_⟩;split at e2
  ·cases f with
   |val h=>
    cases h;exact⟨true,rfl,by rw[if_pos rfl];exact⟨W,ρ,r,hR.same s1,e2,fun v H2 s2 h=>q v H2 (s1.trans s2) (h.back s1)⟩⟩
  ·cases f with
   |val h=>
    cases h;cases e2;exact⟨false,rfl,by rw[if_neg Km];exact q _ H1 s1 (.val (.bl false))⟩
  ·cases e2
theorem zjp{op op':CmpOp}{p q:Prim}(ho:zZ X (compareOp op) (yM X.K (zg p)))(ho':zZ X (compareOp op') (yM X.K (zg q)))(ha:IE X fn a ca)(hb:IE X fn b cb)(hc:IE X fn c cc)
  (hm:lastMarks [op,op'] [b,c]=false:=by with_unfolding_all rfl):IE X fn (.Compare a [op,op'] [b,c] pos) (.chain p q ca cb cc):=
 .mk <| (zhB ho ho' ha.v hb.v hc.v hm).imp fun σ H Q zz3=>by
  obtain⟨W,ρ,r,hR,he,hq⟩:=zz3;simp only[ziJ,jo1] at he;obtain⟨r1,e1,r2,e2,z,e3,e4⟩:=he;refine⟨W,ρ,r1,hR,e1,fun v1 H1 s1 f1=>⟨W,ρ,r2,hR.same s1,e2,fun v2 H2 s2 f2=>?_⟩⟩;refine⟨W,_,z,hR.wf' (s1.trans s2),.cons (f1.same s2).sees (.cons f2.sees .nil),e3,fun v H3 s3 h3=>?_⟩;split at e4
  ·cases h3 with
   |val h3=>
    cases h3;simp only[jo1] at e4;obtain⟨r3,e5,e6⟩:=e4;refine⟨true,rfl,?_⟩;rw[if_pos rfl];have s13:=(s1.trans s2).trans s3;refine⟨W,ρ,r3,hR.same s13,e5,fun v4 H4 s4 f4=>?_⟩;exact⟨W,_,r,hR.wf' (s13.trans s4),.cons ((f2.same s3).same s4).sees (.cons f4.sees .nil),e6,fun v5 H5 s5 h5=>hq v5 H5 (s13.trans (s4.trans s5)) (h5.back (s13.trans s4))⟩
  ·cases h3 with
   |val h3=>
    cases h3;cases e4;exact⟨false,rfl,by rw[if_neg Km];exact hq _ H3 ((s1.trans s2).trans s3) (.val (.bl false))⟩
  ·cases e4
theorem IW.t(h:IW X fn e ce):IT X fn e ce:=.mk (PW.pt h.h)
theorem gl(h:IT X fn a ca):IW X fn (.BoolOp .And [a] pos) ca:=.mk (zgV h.h)
theorem XU(h:IT X fn a ca):IW X fn (.BoolOp .Or [a] pos) ca:=.mk (zbT h.h)
theorem gn{zO:List Expr}(ha:IT X fn a ca)(hb:IW X fn (.BoolOp .And (b::zO) pos) cb):IW X fn (.BoolOp .And (a::b::zO) pos) (.and ca cb):=
 .mk <| (zgW ha.h hb.h).imp fun σ H Q zz3=>by
  obtain⟨W,ρ,k,hR,he,q⟩:=zz3;simp only[ziM,jo1] at he;obtain⟨k1,e1,e2⟩:=he;refine⟨W,ρ,k1,hR,e1,fun H1 s1=>?_⟩
  cases k1 with
  |true=>rw[if_pos rfl] at e2⊢;exact⟨W,ρ,k,hR.same s1,e2,fun H2 s2=>q H2 (s1.trans s2)⟩
  |false=>rw[if_neg Km] at e2⊢;cases e2;exact q H1 s1
theorem XV{zO:List Expr}(ha:IT X fn a ca)(hb:IW X fn (.BoolOp .Or (b::zO) pos) cb):IW X fn (.BoolOp .Or (a::b::zO) pos) (.or ca cb):=
 .mk <| (zbU ha.h hb.h).imp fun σ H Q zz3=>by
  obtain⟨W,ρ,k,hR,he,q⟩:=zz3;simp only[ziN,jo1] at he;obtain⟨k1,e1,e2⟩:=he;refine⟨W,ρ,k1,hR,e1,fun H1 s1=>?_⟩
  cases k1 with
  |true=>rw[if_pos rfl] at e2⊢;cases e2;exact q H1 s1
  |false=>rw[if_neg Km] at e2⊢;exact⟨W,ρ,k,hR.same s1,e2,fun H2 s2=>q H2 (s1.trans s2)⟩
theorem jg(ha:IT X fn a ca):IT X fn (.UnaryOp .Not a pos) (.not ca):=
 .mk <| (zgX ha.h).imp fun σ H Q zz3=>by
  obtain⟨W,ρ,k,hR,he,q⟩:=zz3;simp only[ziO,jo2] at he;obtain⟨k1,e1,rfl⟩:=he;exact⟨W,ρ,k1,hR,e1,fun H1 s1=>q H1 s1⟩
noncomputable def Qu:Prim->Bool
 | .eq=>true| .ne=>true| .lt=>true| .le=>true| .gt=>true| .inn=>true| .nin=>true| .notN=>true
 |_=>false
theorem gq{b:Bool}{r:SV}(h:yG b=some r):r= .val (.bl b):=by cases h;rfl
theorem zc1{p:Prim}(hp:Qu p=true){ds:List D}{r:SV}(h:zg p ds=some r): ∃b,r= .val (.bl b):=by
 cases p<;>first|cases hp|skip
 all_goals
  simp only[zg] at h
  first|unfold Xr at h|unfold Xs at h|unfold Xu at h|unfold Qc at h|unfold Qd at h|unfold ZW at h|unfold ja at h|unfold zcz at h
  split at h
  all_goals first
   |exact⟨_,gq h⟩
   |cases h
   |(split at h<;>first|exact⟨_,gq h⟩|cases h)
   |(simp only[jo1] at h;obtain⟨_,_,_,_,h⟩:=h;exact⟨_,gq h⟩)
theorem yr{op:CmpOp}{pr:Prim}(hp:Qu pr=true)(ho:zZ X (compareOp op) (yM X.K (zg pr)))(ha:IE X fn a ca)(hb:IE X fn b cb)(hm:behindInMarks op b=false):IT X fn (.Compare a [op] [b] pos) (.prim pr (.cons ca (.cons cb .nil))):=
 .mk <| (zhA ho ha.v hb.v hm).imp fun σ H Q zz3=>by
  obtain⟨W,ρ,k,hR,he,q⟩:=zz3
  have he':(zo fn (.prim pr (.cons ca (.cons cb .nil))) ρ).bind yH=some k:=by
   rw[qV] at he;rw[vg];simp only[jo1] at he⊢;obtain⟨rs,e1,r,e2,e3⟩:=he;exact⟨r,⟨rs,e1,e2⟩,e3⟩
  rw[jo1] at he';obtain⟨r,e1,e2⟩:=he';have e1':=e1;rw[vg] at e1';simp only[jo1] at e1';obtain⟨rs,_,e3⟩:=e1';obtain⟨b,rfl⟩:=zc1 hp e3;simp only[yH] at e2;cases e2
  exact Qt hR e1 fun v H' s h=>by
   cases h with
   |val h=>cases h;exact⟨_,rfl,q H' s⟩
theorem zjq{op op':CmpOp}{p q:Prim}(hp:Qu p=true)(hq':Qu q=true)(ho:zZ X (compareOp op) (yM X.K (zg p)))(ho':zZ X (compareOp op') (yM X.K (zg q)))(ha:IE X fn a ca)(hb:IE X fn b cb)(hc:IE X fn c cc)
  (hm:lastMarks [op,op'] [b,c]=false:=by with_unfolding_all rfl):IT X fn (.Compare a [op,op'] [b,c] pos) (.chain p q ca cb cc):=
 .mk <| (zhC ho ho' ha.v hb.v hc.v hm).imp fun σ H Q zz3=>by
  obtain⟨W,ρ,k,hR,he,hq⟩:=zz3;simp only[ziQ,jo1] at he;obtain⟨r1,e1,r2,e2,z,e3,e4⟩:=he;refine⟨W,ρ,r1,hR,e1,fun v1 H1 s1 f1=>⟨W,ρ,r2,hR.same s1,e2,fun v2 H2 s2 f2=>?_⟩⟩;refine⟨W,_,z,hR.wf' (s1.trans s2),.cons (f1.same s2).sees (.cons f2.sees .nil),e3,fun v H3 s3 h3=>?_⟩;split at e4
  ·cases h3 with
   |val h3=>
    cases h3;simp only[jo1] at e4;obtain⟨r3,e5,r4,e6,e7⟩:=e4;refine⟨true,rfl,?_⟩;rw[if_pos rfl];have s13:=(s1.trans s2).trans s3;refine⟨W,ρ,r3,hR.same s13,e5,fun v4 H4 s4 f4=>?_⟩;refine⟨W,_,r4,hR.wf' (s13.trans s4),.cons ((f2.same s3).same s4).sees (.cons f4.sees .nil),e6,fun v5 H5 s5 h5=>?_⟩;obtain⟨b5,rfl⟩:=zc1 hq' e6;simp only[yH] at e7;cases e7
    cases h5 with
    |val h5=>cases h5;exact⟨_,rfl,hq H5 (s13.trans (s4.trans s5))⟩
  ·cases h3 with
   |val h3=>
    cases h3;cases e4;exact⟨false,rfl,by rw[if_neg Km];exact⟨false,rfl,hq H3 ((s1.trans s2).trans s3)⟩⟩
  ·cases e4
theorem zc2{K:Ka}{W:Addr->Prop}{H:Hp}{r:SV}{v:V}{k:Bool}(f:Frz K W H r v)(h:yH r=some k):qE K v H k:=by
 unfold yH at h;split at h
 ·cases h;cases f with|val f=>cases f;rfl
 ·cases h;cases f with|val f=>cases f;rfl
 ·cases h;cases f with|val f=>cases f;rfl
 ·rename_i l
  cases h;obtain⟨a,xs,rfl,hq,rp⟩:=Frz.sees f |>.tup;refine .inr (.inl ⟨xs,hq,?_⟩);cases rp<;>rfl
 ·cases h
  obtain⟨a,xs,rfl,hq,rp⟩:=Frz.sees f |>.lst;refine .inl ⟨xs,hq,?_⟩;cases rp<;>rfl
 ·cases h
  obtain⟨a,xs,rfl,hq,rp⟩:=Frz.sees f |>.lst;refine .inl ⟨xs,hq,?_⟩;cases rp<;>rfl
 ·cases h
theorem ww(hE:IE X fn e ce)(hev: ∀ρ,zA fn ce ρ=(zo fn ce ρ).bind yH)(he: ∀whole,isTrue e X.env whole=(do let v <-whole;standAt e.pos;holding [v] (truthy v)):=by intro _;rfl):IT X fn e ce:=
 .mk <| (zb5 hE.v he).imp fun σ H Q zz3=>by
  obtain⟨W,ρ,k,hR,ht,q⟩:=zz3;rw[hev,jo1] at ht;obtain⟨r,e1,e2⟩:=ht;exact⟨W,ρ,r,hR,e1,fun v H1 s1 f=>⟨k,zc2 f e2,q H1 s1⟩⟩
theorem zjr(i:Nat): ∀ρ,zA fn (.var i) ρ=(zo fn (.var i) ρ).bind yH:=fun ρ=>id rfl
theorem XW(p:Prim)(cs:Es): ∀ρ,zA fn (.prim p cs) ρ=(zo fn (.prim p cs) ρ).bind yH:=fun ρ=>by rw[qV,vg,Option.bind_assoc]
theorem jF(f:Nat)(cs:Es): ∀ρ,zA fn (.call f cs) ρ=(zo fn (.call f cs) ρ).bind yH:=fun ρ=>by rw[ziR,qU,Option.bind_assoc]
end
end L2.LW
set_option maxHeartbeats 4000000
namespace L2.LW
open PySem PySem.Spec PyProof.Rows
noncomputable def gr(K:Ka)(fn:Nat->List D->Option SV)(i:Nat):Sp:=fun vs H Q _=>∃W ds r,Wf W H/\Reps K W H ds vs/\fn i ds=some r/\∀v H',Same H H'->Res K W H H' r v->Q v H'
structure ARep (K:Ka)(W:Addr->Prop)(H:Hp)(io:List Nat)(ds:List D)(vs:List V):Prop where
 len:ds.length=vs.length
 val: ∀(k:Nat) (d:D),ds[k]? =some d->k∉io->∃v,vs[k]? =some v/\Rep K W H d v
 obj: ∀(k:Nat) (d:D),ds[k]? =some d->k∈io->∃a o,vs[k]? =some (.ref a)/\W a/\H a=some o/\ORep K W H d o
 inj: ∀(j k:Nat) (a:Addr),j∈io->k∈io->vs[j]? =some (.ref a)->vs[k]? =some (.ref a)->j=k
noncomputable def XX(io:List Nat)(vs:List V)(a:Addr):Prop:=∃k∈io,vs[k]? =some (.ref a)
noncomputable def Qv(K:Ka)(W:Addr->Prop)(H:Hp)(io:List Nat)(vs:List V)(outs:List D):Prop:=
 Paired (fun k d=>∃a o,vs[k]? =some (.ref a)/\H a=some o/\ORep K W H d o) io outs
noncomputable def wx(K:Ka)(fa:Nat->List D->Option Ans)(i:Nat)(io:List Nat):Sp:=fun vs H Q _=>∃W ds r outs,Wf W H/\ARep K W H io ds vs/\fa i ds=some (.ok r outs)/\
 ∀v H',(∀a o,H a=some o->¬XX io vs a->H' a=some o)->Qv K W H' io vs outs->Res K W H H' r v->Q v H'
theorem Reps.get'{K:Ka}{W:Addr->Prop}{H:Hp}{ds:List D}{vs:List V}(r:Reps K W H ds vs):ARep K W H [] ds vs:=
 ⟨r.length,fun k d h _=>r.get h,fun k d _ h=>(by cases h),fun j k a h=>(by cases h)⟩
theorem zc3{fa:Nat->List D->Option Ans}{i:Nat}{ds:List D}{r:SV}(h:zE fa i ds=some r):fa i ds=some (.ok r []):=by
 unfold zE at h;split at h
 ·rename_i r' e;cases h;exact e
 ·cases h
theorem zjs{Pg:Program}{w:World}{K:Ka}{mg:Str->Option Value}{base:Heap}{k:Nat}{f:Addr}{fd:FuncData}{ps:List Str}{fa:Nat->List D->Option Ans}{i:Nat}{io:List Nat}
  (F:FnOk Pg w K mg base yE k f fd ps (wx K fa i io)) (h:io=[]):FnOk Pg w K mg base yE k f fd ps (gr K (zE fa) i):=by
 subst h;exact F.imp fun vs H Q E ⟨W,ds,r,wf,rp,e,q⟩=>⟨W,ds,r,[],wf,rp.get',zc3 e,fun v H' k _ res=>q v H' (fun a o h=>k a o h fun ⟨_,z,_⟩=>by cases z) res⟩
theorem zc4{K:Ka}{W:Addr->Prop}{H:Hp}: ∀{rs:List SV} {vs:List V},Paired (Frz K W H) rs vs->rs.any SV.lent=false->Reps K W H (rs.map zI) vs
 |_,_,.nil,_=>.nil
 |_,_,.cons h t,e=>by
  simp only[List.any_cons,Bool.or_eq_false_iff] at e;refine .cons ?_ (zc4 t e.2)
  cases h with
  |val h=>exact h
  |lis h e' r=>exact r.rep h e'
  |see h e' r=>simp[SV.lent] at e
theorem zc5{K:Ka}{W:Addr->Prop}{H:Hp}: ∀{rs:List SV} {vs:List V},Paired (Frz K W H) rs vs->Reps K (fun _=>False) H (rs.map zI) vs
 |_,_,.nil=>.nil
 |_,_,.cons h t=>by
  refine .cons ?_ (zc5 t)
  cases h with
  |val h=>exact h.less fun _ z=>z.elim
  |lis h e' r=>exact (r.less fun _ z=>z.elim).rep (fun z=>z) e'
  |see h e' r=>exact (r.less fun _ z=>z.elim).rep (fun z=>z) e'
theorem Res.plain{K:Ka}{W W':Addr->Prop}{H H':Hp}{r:SV}{v:V}(h:Res K W' H H' r v)(wf: ∀a,W' a->W a)(p:r.plain=true):Res K W H H' r v:=by
 cases h with
 |val h=>exact .val (h.plain p)
 |new h e r=>exact .new h e (r.plain p)
 |see h e r=>exact .see (wf _ h) e (r.plain p)
section
variable {X:Cx} {fn:Nat->List D->Option SV} {fuel:Nat} {a b c e:Expr} {ca cb cc ce:E} {es:List Expr} {cs:Es} {pos p:Pos} {x:Str}
theorem zjt{k:Nat}{f:Addr}{fd:FuncData}{ps:List Str}{i:Nat}(F:FnOk X.prog X.w X.K X.mg X.base yE k f fd ps (gr X.K fn i))(hr:Room k X.A)(hg:Gl X x)(hm:X.mg x=some (.ref f))(hk:PySem.W.keepIn X.K (.ref f)=true)
  (hb:Binds X.K fd ps []) (ha:IA X fn (e::es) cs) (hdb:(x==("__debug__":Str))=false:=by decide) (he:starEach (e::es) X.env=(false,eval e X.env)::starEach es X.env:=by rfl)
  (hpl:(backTo pos (starEach es X.env)).any (·.1)=false:=by rfl):IE X fn (.Call (.Name x p) (e::es) [] pos) (.call i cs):=
 .mk <| (ZP F hr hg hm hk hb .nil ZT ha.h hdb he hpl).imp fun σ H Q zz3=>by
  obtain⟨W,ρ,r,hR,h,q⟩:=zz3;simp only[qU,jo1,wB] at h;obtain⟨rs,e1,r',e2,e3⟩:=h;split at e3
  ·cases e3
  ·rename_i hc
   cases e3;refine⟨W,ρ,rs,hR,e1,fun vs H1 s1 f=>?_⟩;show gr X.K fn i (vs++[]) H1 Q E0;rw[List.append_nil]
   cases hl:rs.any SV.lent with
   |false=>exact⟨W,_,r,hR.wf' s1,zc4 f hl,e2,fun v H' s2 h=>q v H' (s1.trans s2) (h.back s1)⟩
   |true=>
    have hp:r.plain=true:=by
     cases hp:r.plain with
     |true=>rfl
     |false=>exact KC (by rw[hl,hp];rfl) hc
    exact⟨fun _=>False,_,r,fun _ z=>z.elim,zc5 f,e2,fun v H' s2 h=>q v H' (s1.trans s2) ((h.plain (fun _ z=>z.elim) hp).back s1)⟩
section
variable {K:Ka} {W:Addr->Prop} {ρ:LW.Env} {σ:St} {H H':Hp} {i j:Nat} {d:D} {v:V}
theorem yN{α:Type}{l:List α}{i j:Nat}{x y:α}(h:(l.set i x)[j]? =some y):(i=j/\y=x/\j<l.length)\/(i≠j/\l[j]? =some y):=by
 rw[List.getElem?_set] at h;split at h
 ·rename_i e
  subst e;split at h
  ·cases h;exact .inl ⟨rfl,rfl,by assumption⟩
  ·cases h
 ·exact .inr ⟨by assumption,h⟩
theorem jG{α:Type}{l:List α}{i:Nat}{x:α}(h:i<l.length):(l.set i x)[i]? =some x:=by simp[h]
theorem xu{α:Type}{l:List α}{i j:Nat}{x:α}(h:i≠j):(l.set i x)[j]? =l[j]? :=List.getElem?_set_ne h
theorem R.set_val(r:R K W ρ σ H)(h:Rep K W H d v):R K W (ρ.set i (some (.val d))) (σ.set i (some v)) H:=by
 refine⟨fun j e hj=>?_,fun j e hj=>?_,fun j x e hj hc=>?_,fun j k x y e1 e2 a h1 h2 c1 c2 h3 h4=>?_,r.wf,by simpa using r.len⟩
 ·rcases yN hj with ⟨rfl,z,hl⟩|⟨n,z⟩
  ·cases z
   exact⟨v,jG (by rw[<-r.len];exact hl),h⟩
  ·obtain⟨u,h1,h2⟩:=r.val j e z
   exact⟨u,by rw[xu n];exact h1,h2⟩
 ·rcases yN hj with ⟨rfl,z,hl⟩|⟨n,z⟩
  ·cases z
  ·exact r.nol j e z
 ·rcases yN hj with ⟨rfl,z,hl⟩|⟨n,z⟩
  ·cases z;cases hc
  ·obtain⟨a,o,h1,h2⟩:=r.own j x e z hc
   exact⟨a,o,by rw[xu n];exact h1,h2⟩
 ·rcases yN h1 with ⟨rfl,z,hl⟩|⟨n,z⟩
  ·cases z;cases c1
  ·rcases yN h2 with ⟨rfl,z',hl⟩|⟨n',z'⟩
   ·cases z';cases c2
   ·rw[xu n] at h3
    rw[xu n'] at h4;exact r.inj j k x y e1 e2 a z z' c1 c2 h3 h4
theorem zju{a:Addr}(h:xO (ρ.set i (some (.val d))) (σ.set i (some v)) a):xO ρ σ a:=by
 obtain⟨j,x,e,h1,hc,h2⟩:=h;rcases yN h1 with ⟨rfl,z,hl⟩|⟨n,z⟩
 ·cases z;cases hc
 ·rw[xu n] at h2
  exact⟨j,x,e,z,hc,h2⟩
theorem XY{x:SV}(hx: ∀d,x≠ .io d)(hf: ¬xF ρ i)(j:Nat):(xF (ρ.set i (some x)) j↔xF ρ j)/\(xF ρ j->i≠j):=by
 refine⟨⟨fun ⟨d,h⟩=>?_,fun ⟨d,h⟩=>?_⟩,fun h e=>hf (by rw[e];exact h)⟩
 ·rcases yN h with ⟨rfl,z,hl⟩|⟨n,z⟩
  ·cases z;exact KC rfl (hx d)
  ·exact⟨d,z⟩
 ·exact⟨d,by rw[xu (fun e=>hf (by rw[e];exact⟨d,h⟩))];exact h⟩
theorem Qw(r:R K W ρ σ H)(s:Same H H')(h:Rep K W H' d v)(hf: ¬xF ρ i):SPost K W ρ σ H W (ρ.set i (some (.val d))) (σ.set i (some v)) H':=
 ⟨(r.same s).set_val h,fun a o q _=>s a o q,fun a w=>.inl w,fun a w n=>⟨w,fun z=>n (zju z)⟩,fun j=>⟨(XY (x:=.val d) (fun _ z=>(nomatch z)) hf j).1,fun z=>xu ((XY (x:=.val d) (fun _ z=>(nomatch z)) hf j).2 z)⟩⟩
theorem zjv{a:Addr}(wf:Wf W H)(s:Same H H'){o:HO}(e:H' a=some o):Wf (add W a) H':=fun b w=>by
 rcases w with w|rfl
 ·cases q:H b with
  |none=>exact KC q (wf b w)
  |some u=>rw[s b u q];exact fun z=>nomatch z
 ·rw[e];exact fun z=>nomatch z
theorem Qx{a:Addr}(s:Same H H')(h:H a=Option.none):Ext W H (add W a) H':=
 ⟨fun b o q _=>s b o q,fun b xs q=>s b _ q,fun b o u q=>s b _ q,fun b w=>by
  rcases w with w|rfl
  ·exact .inl w
  ·exact .inr h⟩
theorem R.add{a:Addr}{o:HO}(r:R K W ρ σ H)(s:Same H H')(h:H a=Option.none)(e:H' a=some o):R K (LW.add W a) ρ σ H':=by
 refine⟨fun j d hj=>?_,r.nol,fun j x d hj hc=>?_,r.inj,zjv r.wf s e,r.len⟩
 ·obtain⟨u,h1,h2⟩:=r.val j d hj
  exact⟨u,h1,h2.ext (Qx s h)⟩
 ·obtain⟨b,o,h1,h2,h3,h4⟩:=r.own j x d hj hc
  exact⟨b,o,h1,.inl h2,s _ _ h3,h4.ext (Qx s h)⟩
theorem R.noOwn{a:Addr}(r:R K W ρ σ H)(h:H a=Option.none): ¬xO ρ σ a:=fun z=>by
 obtain⟨_,o,d,e,_⟩:=r.ownW z;rw[h] at e;cases e
theorem zc6{a:Addr}{o:HO}(r:R K W ρ σ H)(s:Same H H')(h:H a=Option.none)(e:H' a=some o)(rp:ORep K (LW.add W a) H' d o)(hf: ¬xF ρ i):
  SPost K W ρ σ H (LW.add W a) (ρ.set i (some (.obj true d))) (σ.set i (some (.ref a))) H':=by
 have ra:=r.add s h e
 refine⟨⟨fun j d hj=>?_,fun j d hj=>?_,fun j x es hj hc=>?_,fun j k x y e1 e2 b h1 h2 c1 c2 h3 h4=>?_,ra.wf,by simpa using r.len⟩,fun b o q _=>s b o q,(Qx (W:=W) s h).win,fun b w n=>⟨.inl w,fun z=>?_⟩,
  fun j=>⟨(XY (x:=.obj true d) (fun _ z=>(nomatch z)) hf j).1,fun z=>xu ((XY (x:=.obj true d) (fun _ z=>(nomatch z)) hf j).2 z)⟩⟩
 ·rcases yN hj with ⟨rfl,z,hl⟩|⟨n,z⟩
  ·cases z
  ·obtain⟨u,h1,h2⟩:=ra.val j d z
   exact⟨u,by rw[xu n];exact h1,h2⟩
 ·rcases yN hj with ⟨rfl,z,hl⟩|⟨n,z⟩
  ·cases z
  ·exact r.nol j d z
 ·rcases yN hj with ⟨rfl,z,hl⟩|⟨n,z⟩
  ·cases z;cases hc
   exact⟨a,o,jG (by rw[<-r.len];exact hl),.inr rfl,e,rp⟩
  ·obtain⟨b,ys,h1,h2⟩:=ra.own j x es z hc
   exact⟨b,ys,by rw[xu n];exact h1,h2⟩
 ·have other: ∀{k:Nat} {x:SV} {e:D},ρ[k]? =some (some x)->x.cell=some e->σ[k]? =some (some (.ref a))->False:=fun {k x e} q1 q3 q2=>r.noOwn h ⟨k,x,e,q1,q3,q2⟩
  rcases yN h1 with ⟨rfl,z,hl⟩|⟨n,z⟩
  ·rcases yN h2 with ⟨rfl,_,_⟩|⟨n',z'⟩
   ·rfl
   ·rw[jG (by rw[<-r.len];exact hl)] at h3
    cases h3;rw[xu n'] at h4;exact (other z' c2 h4).elim
  ·rcases yN h2 with ⟨rfl,z',hl⟩|⟨n',z'⟩
   ·rw[jG (by rw[<-r.len];exact hl)] at h4
    cases h4;rw[xu n] at h3;exact (other z c1 h3).elim
   ·rw[xu n] at h3
    rw[xu n'] at h4;exact r.inj j k x y e1 e2 b z z' c1 c2 h3 h4
 ·obtain⟨j,x,es,h1,hc,h2⟩:=z
  rcases yN h1 with ⟨rfl,_,hl⟩|⟨n',z'⟩
  ·rw[jG (by rw[<-r.len];exact hl)] at h2
   cases h2;exact r.wf _ w h
  ·rw[xu n'] at h2
   exact n ⟨j,x,es,z',hc,h2⟩
noncomputable def Qy(W:Addr->Prop)(a:Addr):Addr->Prop:=fun b=>W b/\b≠a
theorem gu{a:Addr}: ∀b,Qy W a b->W b:=fun _ h=>h.1
theorem gv{a:Addr}{o:Bool}(r:R K W ρ σ H)(h:ρ[j]? =some (some (.obj o d)))(h':σ[j]? =some (some (.ref a))):
  SPost K W ρ σ H (Qy W a) (ρ.set j (some (.val d))) σ H/\Rep K (Qy W a) H d (.ref a):=by
 cases o with
 |false=>exact KC h (r.nol j d)
 |true=>
 obtain⟨a',o,e1,e2,e3,e4⟩:=r.own j _ d h rfl;rw[h'] at e1;cases e1;have rp:Rep K (Qy W a) H d (.ref a):=(e4.less gu).rep (fun z=>z.2 rfl) e3;have nio: ¬xF ρ j:=fun ⟨d',z⟩=>by rw[h] at z;cases z
 refine⟨⟨⟨fun k d' hk=>?_,fun k d' hk=>?_,fun k x es hk hc=>?_,fun k l x y e1 e2 b h1 h2 c1 c2 h3 h4=>?_,fun b w=>r.wf b w.1,by simpa using r.len⟩,fun b o q _=>q,fun b w=>.inl w.1,fun b w n=>⟨⟨w,fun z=>?_⟩,fun z=>?_⟩,
  fun k=>⟨(XY (x:=.val d) (fun _ z=>(nomatch z)) nio k).1,fun _=>rfl⟩⟩,rp⟩
 ·rcases yN hk with ⟨rfl,z,hl⟩|⟨n,z⟩
  ·cases z;exact⟨_,h',rp⟩
  ·obtain⟨u,h1,h2⟩:=r.val k d' z
   exact⟨u,h1,h2.less gu⟩
 ·rcases yN hk with ⟨rfl,z,hl⟩|⟨n,z⟩
  ·cases z
  ·exact r.nol k d' z
 ·rcases yN hk with ⟨rfl,z,hl⟩|⟨n,z⟩
  ·cases z;cases hc
  ·obtain⟨b,ys,h1,h2,h3,h4⟩:=r.own k x es z hc
   refine⟨b,ys,h1,⟨h2,fun z'=>?_⟩,h3,h4.less gu⟩;subst z';exact n (r.inj j k _ x d es b h z rfl hc h' h1)
 ·rcases yN h1 with ⟨rfl,z,hl⟩|⟨n,z⟩
  ·cases z;cases c1
  ·rcases yN h2 with ⟨rfl,z',hl⟩|⟨n',z'⟩
   ·cases z';cases c2
   ·exact r.inj k l x y e1 e2 b z z' c1 c2 h3 h4
 ·subst z
  exact n ⟨j,_,d,h,rfl,h'⟩
 ·obtain⟨k,x,es,h1,hc,h2⟩:=z
  rcases yN h1 with ⟨rfl,z,hl⟩|⟨n',z⟩
  ·cases z;cases hc
  ·exact n ⟨k,x,es,z,hc,h2⟩
theorem zc7(x:SV)(d:D):(x.put d).cell=some d:=by cases x<;>rfl
theorem zc8(x:SV)(d d':D):x.put d≠ .val d':=by cases x<;>exact fun z=>nomatch z
theorem zc9(x:SV)(d d':D):x.put d≠ .obj false d':=by
 cases x<;>intro z<;>first|cases z|(simp[SV.put] at z)
theorem Qz{x:SV}{d:D}:(∃d',x.put d= .io d')↔∃d',x= .io d':=by
 cases x with
 |io y=>exact⟨fun _=>⟨_,rfl⟩,fun _=>⟨_,rfl⟩⟩
 |_=>exact⟨fun ⟨_,z⟩=>(nomatch z),fun ⟨_,z⟩=>(nomatch z)⟩
theorem QA{a:Addr}{x:SV}{d0 d':D}{o o':HO}(r:R K W ρ σ H)(h:ρ[i]? =some (some x))(hc:x.cell=some d0)(h':σ[i]? =some (some (.ref a)))(s:Same H H')(e:H' a=some o)(hk:(∀xs,o≠ .tup xs)/\(∀b u,o≠ .frz b u))
  (rp:ORep K W H' d' o'):SPost K W ρ σ H W (ρ.set i (some (x.put d'))) σ (zu H' a o'):=by
 have r':=r.same s;have hO:xO ρ σ a:=⟨i,x,d0,h,hc,h'⟩;have hW:W a:=(r.ownW hO).1
 have ext:Ext W H' W (zu H' a o'):=by
  refine⟨fun b o q n=>?_,fun b ys q=>?_,fun b o u q=>?_,fun b w=>.inl w⟩
  ·rw[zy (fun z=>n (by rw[z];exact hW))];exact q
  ·rw[zy (fun z=>by rw[z,e] at q;cases q;exact hk.1 _ rfl)];exact q
  ·rw[zy (fun z=>by rw[z,e] at q;cases q;exact hk.2 _ _ rfl)];exact q
 have old: ∀{k:Nat} {y:SV} {es:D},(ρ.set i (some (x.put d')))[k]? =some (some y)->y.cell=some es->∃y' es',ρ[k]? =some (some y')/\y'.cell=some es':=fun {k y es} q c=>by
  rcases yN q with ⟨rfl,_,_⟩|⟨_,z⟩
  ·exact⟨_,_,h,hc⟩
  ·exact⟨_,_,z,c⟩
 refine⟨⟨fun k d' hk=>?_,fun k d' hk=>?_,fun k y es hk hc'=>?_,fun k l x y e1 e2 b h1 h2 c1 c2 h3 h4=>?_,fun b w=>?_,by simpa using r.len⟩,fun b o q n=>?_,fun b w=>.inl w,fun b w n=>⟨w,fun z=>?_⟩,fun j=>⟨?_,fun _=>rfl⟩⟩
 ·rcases yN hk with ⟨rfl,z,hl⟩|⟨n,z⟩
  ·exact KC (Kn z).symm (zc8 _ _ _)
  ·obtain⟨u,h1,h2⟩:=r'.val k d' z
   exact⟨u,h1,h2.ext ext⟩
 ·rcases yN hk with ⟨rfl,z,hl⟩|⟨n,z⟩
  ·exact KC (Kn z).symm (zc9 _ _ _)
  ·exact r.nol k d' z
 ·rcases yN hk with ⟨rfl,z,hl⟩|⟨n,z⟩
  ·cases z
   rw[zc7] at hc';cases hc';exact⟨a,_,h',hW,yn,rp.ext ext⟩
  ·obtain⟨b,ys,h1,h2,h3,h4⟩:=r'.own k y es z hc'
   refine⟨b,ys,h1,h2,?_,h4.ext ext⟩;rw[zy (fun z'=>by subst z';exact n (r.inj i k x y d0 es b h z hc hc' h' h1))];exact h3
 ·obtain⟨_,_,z1,w1⟩:=old h1 c1
  obtain⟨_,_,z2,w2⟩:=old h2 c2;exact r.inj k l _ _ _ _ b z1 z2 w1 w2 h3 h4
 ·by_cases z:b=a
  ·subst z;rw[yn];exact fun z=>nomatch z
  ·rw[zy z];exact r'.wf b w
 ·rw[zy (fun z=>n (by rw[z];exact hO))]
  exact s b o q
 ·obtain⟨k,y,es,h1,hc',h2⟩:=z
  obtain⟨_,_,z,w⟩:=old h1 hc';exact n ⟨k,_,_,z,w,h2⟩
 ·by_cases e:i=j
  ·subst e
   have hl:i<ρ.length:=by
    obtain⟨z,_⟩:=List.getElem?_eq_some_iff.mp h;exact z
   constructor
   ·rintro⟨d',z⟩
    rw[jG hl] at z;have z:=Kn (Kn z);obtain⟨d2,w⟩:=Qz.mp ⟨d',z⟩;exact⟨d2,by rw[h,w]⟩
   ·rintro⟨d2,z⟩
    rw[h] at z;obtain⟨d3,w⟩:=Qz (d:=d').mpr ⟨d2,Kn (Kn z)⟩;exact⟨d3,by rw[jG hl,w]⟩
  ·unfold xF;rw[xu e]
end
theorem Ret.back{K:Ka}{W W1 W2:Addr->Prop}{ρ ρ1:LW.Env}{σ σ1:St}{H H1 H2:Hp}{r:SV}{v:V}(p:SPost K W ρ σ H W1 ρ1 σ1 H1)(h:Ret K W1 ρ1 σ1 W2 H2 r v):Ret K W ρ σ W2 H2 r v:=by
 cases h with
 |val h=>exact .val h
 |new h n n' e r=>exact .new h (fun ⟨w,z⟩=>n (p.wout _ w z)) (fun ⟨i,z1,z2⟩=>n' ⟨i,(p.io i).1.mpr z1,by rw[(p.io i).2 z1];exact z2⟩) e r
theorem FlOk.back{K:Ka}{W W1 W2:Addr->Prop}{ρ ρ1 ρ2:LW.Env}{σ σ1 σ2:St}{H H1 H2:Hp}{D:Ends}{fl:Fl}(p:SPost K W ρ σ H W1 ρ1 σ1 H1)(h:FlOk K W ρ σ W2 ρ2 σ2 H2 D fl):FlOk K W1 ρ1 σ1 W2 ρ2 σ2 H2 D fl:=by
 cases fl with
 |rt r=>exact fun v q=>h v (q.back p)
 |_=>exact h
structure IS (X:Cx)(ex:LW.Env->Option (Fl×LW.Env))(st:Stmt):Prop where
 h:PS X st (XJ X.K ex)
structure ISs (X:Cx)(ex:LW.Env->Option (Fl×LW.Env))(st:List Stmt):Prop where
 h:PSs X st (XJ X.K ex)
variable {fa:Nat->List D->Option Ans} {st:Stmt} {sts:List Stmt} {s:S} {ss s1 s2:Ss}
theorem zp:ISs X (zr fa fuel .nil) []:=.mk <| qr.imp fun D σ H zz3=>by
 obtain⟨W,ρ,x,hR,hx,q⟩:=zz3;simp only[zi5] at hx;cases hx;exact q W σ H (.same hR (.refl H))
theorem ze(h1:IS X (zF fa fuel s) st)(h2:ISs X (zr fa fuel ss) sts):ISs X (zr fa fuel (.cons s ss)) (st::sts):=
 .mk <| (ZL h1.h h2.h).imp fun D σ H zz3=>by
  obtain⟨W,ρ,x,hR,hx,q⟩:=zz3;simp only[qX,jo1] at hx;obtain⟨⟨fl,ρ1⟩,e1,e2⟩:=hx;refine⟨W,ρ,(fl,ρ1),hR,e1,fun W1 σ1 H1 p1=>?_⟩
  cases fl with
  |nx=>exact⟨W1,ρ1,x,p1.r,e2,fun W2 σ2 H2 p2=>FlOk.back p1 (q W2 σ2 H2 (p1.trans p2 hR))⟩
  |br=>cases e2;exact q W1 σ1 H1 p1
  |ct=>cases e2;exact q W1 σ1 H1 p1
  |rt r=>cases e2;exact q W1 σ1 H1 p1
theorem yJ(he:IE X (zE fa) e ce)(hs:swapsWith e Option.none pos.line X.env=pure false:=by rfl):IS X (zF fa fuel (.expr ce)) (.Expr e pos):=
 .mk <| (Ze he.h hs).imp fun D σ H zz3=>by
  obtain⟨W,ρ,x,hR,hx,q⟩:=zz3;simp only[ziT,jo2] at hx;obtain⟨r,e1,rfl⟩:=hx;exact⟨W,ρ,r,hR,e1,fun v H1 s1 _=>q W σ H1 (.same hR s1)⟩
theorem zU(i:Nat){pos':Pos}(hN:X.N.Nodup)(hi:X.N[i]? =some x)(hx:wu X.env.scope x)(he:IE X (zE fa) e ce)(hs:swapsWith e (some (.Name x pos')) pos.line X.env=pure false:=by rfl)
  (hf:X.fn x=true\/X.env.scope.names.lookup x=some .local:=by first|exact .inl rfl|exact .inr rfl|assumption):IS X (zF fa fuel (.asg i ce)) (.Assign [.Name x pos'] e pos):=
 .mk <| (JQ hN hi hx he.h hs hf).imp fun D σ H zz3=>by
  obtain⟨W,ρ,y,hR,hy,q⟩:=zz3;simp only[zcH,jo1] at hy;obtain⟨r,e1,e2⟩:=hy;split at e2
  ·cases e2
  ·rename_i hl
   cases e2;simp only[Bool.not_eq_true,Bool.or_eq_false_iff,Bool.not_eq_false'] at hl;refine⟨W,ρ,r,hR,e1,fun v H1 s1 h=>?_⟩
   cases h with
   |val h=>exact q W _ H1 (Qw hR s1 h (jD hl.2))
   |new h e r=>exact q _ _ H1 (zc6 hR s1 h e r (jD hl.2))
   |see h e r=>simp[SV.lent] at hl
theorem gw(i j:Nat){y:Str}{pos':Pos}(hN:X.N.Nodup)(hi:X.N[i]? =some x)(hx:wu X.env.scope x)(hj:X.N[j]? =some y)(hv:xK X.env.scope y)(hs:swapsWith (.Name y p) (some (.Name x pos')) pos.line X.env=pure false:=by rfl)
  (hf:X.fn x=true\/X.env.scope.names.lookup x=some .local:=by first|exact .inl rfl|exact .inr rfl|assumption) (hd:(y==("__debug__":Str))=false:=by decide) (hcd:(y==("__classdict__":Str))=false:=by decide):
  IS X (zF fa fuel (.mov i j)) (.Assign [.Name x pos'] (.Name y p) pos):=
 .mk <| (JQ hN hi hx (wK hj hv hd hcd) hs hf).imp fun D σ H zz3=>by
  obtain⟨W,ρ,z,hR,hz,q⟩:=zz3;simp only[zcI] at hz;split at hz
  ·rename_i hfr
   split at hz
   ·rename_i d h
    cases hz;obtain⟨v,h1,h2⟩:=hR.val j d h;exact⟨v,h1,q W _ H (Qw hR (.refl H) h2 (jD hfr))⟩
   ·rename_i o ds h
    cases hz
    cases o with
    |false=>exact KC h (hR.nol j ds)
    |true=>
    obtain⟨a,xs,h1,_⟩:=hR.own j _ ds h rfl;obtain⟨p1,rp⟩:=gv hR h h1;exact⟨_,h1,q _ _ H (p1.trans (Qw p1.r (.refl H) rp fun z=>jD hfr ((p1.io _).1.mp z)) hR)⟩
   ·cases hz
  ·cases hz
theorem yd(he:IE X (zE fa) e ce):IS X (zF fa fuel (.ret ce)) (.Return (some e) pos):=
 .mk <| (JN he.h).imp fun D σ H zz3=>by
  obtain⟨W,ρ,y,hR,hy,q⟩:=zz3;simp only[ziX,jo1] at hy;obtain⟨r,e1,e2⟩:=hy;split at e2
  ·cases e2
  ·rename_i hl
   cases e2;refine⟨W,ρ,r,hR,e1,fun v H1 s1 h=>?_⟩
   cases h with
   |val h=>exact q W σ H1 (.same hR s1) v (.val h)
   |new h e r=>
    refine q _ σ H1 ⟨hR.add s1 h e,fun b o q _=>s1 b o q,(Qx (W:=W) s1 h).win,fun b w n=>⟨.inl w,n⟩,fun _=>⟨.rfl,fun _=>rfl⟩⟩ _ (.new (.inr rfl) (fun z=>hR.wf _ z.1 h) (fun ⟨i,⟨d,z1⟩,z2⟩=>hR.noOwn h ⟨i,_,d,z1,rfl,z2⟩) e r)
   |see h e r=>simp[SV.lent] at hl
theorem wD(i:Nat)(hN:X.N[i]? =some x)(hv:xK X.env.scope x)(hd:(x==("__debug__":Str))=false:=by decide)(hcd:(x==("__classdict__":Str))=false:=by decide):IS X (zF fa fuel (.retV i)) (.Return (some (.Name x p)) pos):=
 .mk <| (JN (wK hN hv hd hcd)).imp fun D σ H zz3=>by
  obtain⟨W,ρ,y,hR,hy,q⟩:=zz3;simp only[zcL] at hy;split at hy
  ·rename_i d h
   cases hy;obtain⟨v,h1,h2⟩:=hR.val i d h;exact⟨v,h1,q W σ H (.same hR (.refl H)) v (.val h2)⟩
  ·rename_i o ds h
   cases hy
   cases o with
   |false=>exact KC h (hR.nol i ds)
   |true=>
   obtain⟨a,xs,h1,h2,h3,h4⟩:=hR.own i _ ds h rfl
   refine⟨_,h1,q W σ H ?_ _ (.new h2 (fun z=>z.2 ⟨i,_,ds,h,rfl,h1⟩) (fun zz0=>by
    obtain⟨j,⟨d',z1⟩,z2⟩:=zz0;have:=hR.inj i j _ _ ds d' a h z1 rfl rfl h1 z2;subst this;rw[h] at z1;cases z1) h3 h4)⟩
   have old: ∀{k:Nat} {z:SV},(ρ.set i Option.none)[k]? =some (some z)->ρ[k]? =some (some z):=fun {k z} q=>by
    rcases yN q with ⟨_,w,_⟩|⟨_,w⟩
    ·cases w
    ·exact w
   exact⟨⟨fun k d hk=>hR.val k d (old hk),fun k d hk=>hR.nol k d (old hk),fun k o es hk=>hR.own k o es (old hk),fun k l x y e1 e2 b z1 z2=>hR.inj k l x y e1 e2 b (old z1) (old z2),hR.wf,by simpa using hR.len⟩,fun b o q _=>q,fun b w=>.inl w,fun b w n=>⟨w,fun ⟨k,x,es,z1,c,z2⟩=>n ⟨k,x,es,old z1,c,z2⟩⟩,
    fun k=>⟨⟨fun ⟨d',z⟩=>⟨d',old z⟩,fun ⟨d',z⟩=>⟨d',by rw[xu (fun e=>by subst e;rw[h] at z;cases z)];exact z⟩⟩,fun _=>rfl⟩⟩
  ·cases hy
theorem XZ:IS X (zF fa fuel .stop) st:=.mk <| zg3.imp fun D σ H zz3=>by
 obtain⟨W,ρ,y,hR,hy,q⟩:=zz3;simp only[zcM] at hy;cases hy
theorem yQ(hc:IT X (zE fa) c cc)(h1:ISs X (zr fa fuel s1) sts)(h2:ISs X (zr fa fuel s2) sts'):IS X (zF fa fuel (.ifs cc s1 s2)) (.If c sts sts' pos):=
 .mk <| (JO hc.h h1.h h2.h).imp fun D σ H zz3=>by
  obtain⟨W,ρ,y,hR,hy,q⟩:=zz3;simp only[ziY,jo1] at hy;obtain⟨k,e1,e2⟩:=hy;refine⟨W,ρ,k,hR,e1,fun H1 w1=>?_⟩;have p1:=SPost.same hR w1;show if k=true then XJ X.K (zr fa fuel s1) D σ H1 else XJ X.K (zr fa fuel s2) D σ H1
  cases k with
  |true=>rw[if_pos rfl] at e2⊢;exact⟨W,ρ,y,p1.r,e2,fun W2 σ2 H2 p2=>FlOk.back p1 (q W2 σ2 H2 (p1.trans p2 hR))⟩
  |false=>rw[if_neg Km] at e2⊢;exact⟨W,ρ,y,p1.r,e2,fun W2 σ2 H2 p2=>FlOk.back p1 (q W2 σ2 H2 (p1.trans p2 hR))⟩
theorem vG(i:Nat){apos cpos:Pos}(hN:X.N[i]? =some x)(hv:xK X.env.scope x)(he:IE X (zE fa) e ce)(hst:starEach [e] X.env=(false,eval e X.env)::starEach [] X.env)(hd:(x==("__debug__":Str))=false)(hcd:(x==("__classdict__":Str))=false)
  (hs:swapsWith (.Call (.Attribute (.Name x p) "append" apos) [e] [] cpos) Option.none pos.line X.env=pure false:=by rfl)
  (hbase:attributeBase (.Name x p) "append" X.env (eval (.Name x p) X.env)=eval (.Name x p) X.env:=by rfl)
  (hline:(apos.endLine==cpos.line)=true:=by rfl):
  IS X (zF fa fuel (.app i ce)) (.Expr (.Call (.Attribute (.Name x p) "append" apos) [e] [] cpos) pos):=
 .mk <| (Ze (zcn PySem.F.plainAttrs_list PySem.F.slot_list_append PySem.F.type_list_append JV (wK hN hv hd hcd) (xX he.v wL hst) hbase (by rw[hst];rfl) hline hst zi) hs).imp fun D σ H zz3=>by
  obtain⟨W,ρ,y,hR,hy,q⟩:=zz3;simp only[zcJ] at hy;split at hy
  ·rename_i x h
   split at hy
   ·rename_i ds hc
    simp only[jo1] at hy;obtain⟨r,e1,d,e2,e3⟩:=hy;split at e3
    ·rename_i hl
     cases e3;obtain⟨a,o,h1,h2,h3,h4⟩:=hR.own i _ _ h hc
     cases h4 with
     |lst h4=>
     rename_i xs;refine⟨_,h1,.inl ⟨rfl,xs,.of h3⟩,?_⟩;refine⟨W,ρ,r,hR,e1,fun v H1 w1 f=>?_⟩;refine⟨a,xs,v,rfl,rfl,w1 _ _ h3,?_,?_⟩
     ·rw[<-h4.length,<-Yb];exact hl
     ·exact q W σ _ (QA hR h hc h1 w1 (w1 _ _ h3) ⟨fun _ z=>(nomatch z),fun _ _ z=>(nomatch z)⟩ (.lst ((h4.ext (.same w1)).append (.cons (f.toD e2) .nil))))
    ·cases e3
   ·cases hy
  ·cases hy
end
end L2.LW
set_option maxHeartbeats 4000000
namespace L2.LW
open PySem PySem.Spec PyProof.Rows
noncomputable def Yl(K:Ka)(J:It)(W:Addr->Prop)(H:Hp)(ds:List D):Prop:=
 ∀W' H',Ext W H W' H'->∀k:Nat,(k=ds.length->J.stop k H')/\∀d,ds[k]? =some d->J.go k H'/\∀x H'',J.yld k H' x H''->H''=H'/\Rep K W' H' d x
noncomputable def Ys(K:Ka)(J:It)(W:Addr->Prop)(H:Hp)(ds:List D):Prop:=
 ∀W' H',Same H H'->(∀a,W' a->W a\/H a=Option.none)->∀k:Nat,(k=ds.length->J.stop k H')/\∀d,ds[k]? =some d->J.go k H'/\∀x H'',J.yld k H' x H''->H''=H'/\Rep K W' H' d x
theorem Ext.sameW{W W':Addr->Prop}{H H':Hp}(s:Same H H')(w: ∀a,W' a->W a\/H a=Option.none):Ext W H W' H':=⟨fun a o h _=>s a o h,fun a xs h=>s a _ h,fun a o u h=>s a _ h,w⟩
section
variable {K:Ka} {W:Addr->Prop} {H:Hp} {a:Addr} {xs:List V} {ds:List D}
theorem Va{H':Hp}{W':Addr->Prop}(hq:SqL K H' a xs)(rp:Reps K W' H' ds xs)(k:Nat):
  (k=ds.length->(vw K a).stop k H')/\∀d,ds[k]? =some d->(vw K a).go k H'/\∀x H'',(vw K a).yld k H' x H''->H''=H'/\Rep K W' H' d x:=by
 refine⟨fun e=>⟨xs,hq,by rw[<-rp.length,e];exact Nat.le_refl _⟩,fun d e=>?_⟩;obtain⟨v,e1,e2⟩:=rp.get e;refine⟨⟨xs,v,hq,e1⟩,fun x H'' ⟨z,y⟩=>⟨z,?_⟩⟩;have:=y xs hq;rw[e1] at this;cases this;exact e2
theorem gx{H':Hp}{W':Addr->Prop}(hq:SqT K H' a xs)(rp:Reps K W' H' ds xs)(k:Nat):
  (k=ds.length->(Xd K a).stop k H')/\∀d,ds[k]? =some d->(Xd K a).go k H'/\∀x H'',(Xd K a).yld k H' x H''->H''=H'/\Rep K W' H' d x:=by
 refine⟨fun e=>⟨xs,hq,by rw[<-rp.length,e];exact Nat.le_refl _⟩,fun d e=>?_⟩;obtain⟨v,e1,e2⟩:=rp.get e;refine⟨⟨xs,v,hq,e1⟩,fun x H'' ⟨z,y⟩=>⟨z,?_⟩⟩;have:=y xs hq;rw[e1] at this;cases this;exact e2
theorem QB{H':Hp}{W':Addr->Prop}{lo:Int}{n:Nat}(k:Nat):
  (k=((List.range n).map fun (k:Nat)=>D.int (lo+(k:Int))).length->(Zg lo n).stop k H')/\
   ∀d,((List.range n).map fun (k:Nat)=>D.int (lo+(k:Int)))[k]? =some d->(Zg lo n).go k H'/\∀x H'',(Zg lo n).yld k H' x H''->H''=H'/\Rep K W' H' d x:=by
 refine⟨fun e=>?_,fun d e=>?_⟩
 ·rw[List.length_map,List.length_range] at e
  exact Nat.le_of_eq e.symm
 ·rw[List.getElem?_map,jo2] at e
  obtain⟨j,e1,rfl⟩:=e;obtain⟨h1,h2⟩:=List.getElem?_eq_some_iff.mp e1;rw[List.length_range] at h1;rw[List.getElem_range] at h2;subst h2;exact⟨h1,fun x H'' ⟨z,y⟩=>⟨z,by rw[y];exact .int _⟩⟩
theorem Yg{W':Addr->Prop}{H':Hp}(h:(¬W a/\Rd H a (.lst xs))\/vE K a xs)(x:Ext W H W' H'):SqL K H' a xs:=by
 rcases h with ⟨n,h|⟨o,h⟩⟩|h
 ·exact .inl (.inl (x.keep _ _ h n))
 ·exact .inl (.inr ⟨o,x.keep _ _ h n⟩)
 ·exact .inr h
end
noncomputable def zjw(K:Ka)(tl:TE):TI:=fun σ H R=>tl σ H fun x H1=>∃a,x= .ref a/\(((∃xs,SqL K H1 a xs)/\R (vw K a) H1)\/((∃xs,SqT K H1 a xs)/\R (Xd K a) H1))
section
variable {X:Cx} {tg l:Expr}
theorem zda{tl:TE}(hl:PE X l tl):PI X tg l (zjw X.K tl):=by
 intro pins s σ H R I h;refine zt (hl pins s σ H _ I h) fun v s1 ⟨x,H1,I1,r1,q1⟩=>?_
 obtain⟨a,e,q⟩:=q1;subst e;cases r1;rcases q with ⟨⟨xs,hq⟩,q⟩|⟨⟨xs,hq⟩,q⟩
 ·obtain⟨its,rv,p,hz⟩:=I1.list hq
  refine wpAny_pyIter_list p.isList ?_;refine⟨s1.heap.objs.size,[s1.heap.objs.size],_,_,H1,rfl,I1.kept (t':=s1.toks) fun b o e=>Kl _ e,zbZ a _,⟨_,Heap.get?_push_size _ rfl,rfl,rfl⟩,fun b hb=>?_,q⟩;have e:b=s1.heap.objs.size:=by simpa using hb
  subst e;exact I1.fpOk (Nat.le_refl _) (I1.hok.fresh (Nat.le_refl _))
 ·obtain⟨its,rv,p,hz⟩:=I1.tuple hq
  refine wpAny_pyIter_tuple (show s1.heap.IsTuple a its.toArray from p) ?_;refine⟨s1.heap.objs.size,[s1.heap.objs.size],_,_,H1,rfl,I1.kept (t':=s1.toks) fun b o e=>Kl _ e,zg8 a _,⟨_,Heap.get?_push_size _ rfl,rfl,rfl⟩,fun b hb=>?_,q⟩;have e:b=s1.heap.objs.size:=by simpa using hb
  subst e;exact I1.fpOk (Nat.le_refl _) (I1.hok.fresh (Nat.le_refl _))
end
noncomputable def tI(K:Ka)(fn:Nat->List D->Option SV)(rng:Bool)(src:Es):TI:=fun σ H R0=>∃W ρ rs ds,R K W ρ σ H/\yj fn src ρ=some rs/\yy rng rs=some ds/\
 ∀J H',Same H H'->Ys K J W H' ds->(rs.any SV.lent=false->Yl K J W H' ds)->R0 J H'
structure Src (X:Cx)(fn:Nat->List D->Option SV)(tg e:Expr)(rng:Bool)(src:Es):Prop where
 h:PI X tg e (tI X.K fn rng src)
theorem _root_.L2.PI.imp{X:Cx}{tg l:Expr}{t t':TI}(h:PI X tg l t)(i: ∀σ H Q,t' σ H Q->t σ H Q):PI X tg l t':=fun pins s σ H Q I q=>h pins s σ H Q I (i σ H Q q)
section
variable {X:Cx} {fn:Nat->List D->Option SV} {fuel:Nat} {a b c e tg:Expr} {ca cb cc ce:E} {es:List Expr} {cs:Es} {pos p:Pos} {x:Str}
theorem wp(he:IE X fn e ce):Src X fn tg e false (.cons ce .nil):=
 .mk <| (zda he.v).imp fun σ H R0 zz3=>by
  obtain⟨W,ρ,rs,ds,hR,h1,h2,q⟩:=zz3;simp only[xY,xZ,jo1,jo2] at h1;obtain⟨r,e1,rs',e3,rfl⟩:=h1;cases e3;simp only[yy] at h2;refine⟨W,ρ,r,hR,e1,fun v H1 s1 f=>?_⟩;unfold xS at h2;split at h2
  ·rename_i l hd
   cases h2;have hs:=f.sees;rw[hd] at hs;obtain⟨a,xs,rfl,hq,rp⟩:=hs.tupH;refine⟨a,rfl,.inr ⟨⟨xs,.of hq⟩,q _ H1 s1 (fun W' H' s w k=>gx (.of (s _ _ hq)) (rp.ext (.sameW s w)) k) fun _ W' H' x k=>gx (.of (x.tup _ _ hq)) (rp.ext x) k⟩⟩
  ·rename_i l hd
   cases h2;have hs:=f.sees;rw[hd] at hs;obtain⟨a,xs,rfl,hq,rp⟩:=hs.lst;refine⟨a,rfl,.inl ⟨⟨xs,hq⟩,q _ H1 s1 (fun W' H' s w k=>Va (s.seq hq) (rp.ext (.sameW s w)) k) fun hl W' H' x k=>?_⟩⟩;have hl':r.lent=false:=by simpa using hl
   cases f with
   |val h=>
    change _=D.lst _ at hd;subst hd
    cases h with
    |lst h r'=>exact Va (Yg h x) (r'.ext x) k
   |lis h e r'=>
    change _=D.lst _ at hd;subst hd
    cases r' with
    |lst r'=>exact Va (.of (x.keep _ _ e h)) (r'.ext x) k
   |see h e r'=>simp[SV.lent] at hl'
  ·cases h2
theorem QC(hg:Gl X "range")(hm:X.mg "range"=Option.none)(ha:IA X fn [a] (.cons ca .nil))(hs:starEach [a] X.env=(false,eval a X.env)::starEach [] X.env):Src X fn tg (.Call (.Name "range" p) [a] [] pos) true (.cons ca .nil):=
 .mk <| (zhc hg hm ha.h hs).imp fun σ H R0 zz3=>by
  obtain⟨W,ρ,rs,ds,hR,h1,h2,q⟩:=zz3;refine⟨W,ρ,rs,hR,h1,fun vs H1 s1 f=>?_⟩;simp only[xY,xZ,jo1,jo2] at h1;obtain⟨r,e1,rs',e3,rfl⟩:=h1;cases e3
  obtain⟨v,rfl,g⟩: ∃v,vs=[v]/\Frz X.K W H1 r v:=by
   cases f with
   |cons f t=>cases t;exact⟨_,rfl,f⟩
  clear f
  cases g with
  |val g=>
   cases g with
   |int n=>
    simp only[yy] at h2;split at h2
    ·rename_i hn
     cases h2;exact⟨n,rfl,hn.1,hn.2,q _ H1 s1 (fun W' H' s w k=>QB k) fun _ W' H' x k=>QB k⟩
    ·cases h2
   |_=>simp[yy] at h2
  |_=>simp[yy] at h2
theorem zdb(hg:Gl X "range")(hm:X.mg "range"=Option.none)(ha:IA X fn [a,b] (.cons ca (.cons cb .nil)))(hs:starEach [a,b] X.env=(false,eval a X.env)::starEach [b] X.env)(hs2:starEach [b] X.env=(false,eval b X.env)::starEach [] X.env):
  Src X fn tg (.Call (.Name "range" p) [a,b] [] pos) true (.cons ca (.cons cb .nil)):=
 .mk <| (zhd hg hm ha.h (by rw[hs,hs2];rfl) hs2).imp fun σ H R0 zz3=>by
  obtain⟨W,ρ,rs,ds,hR,h1,h2,q⟩:=zz3;refine⟨W,ρ,rs,hR,h1,fun vs H1 s1 f=>?_⟩;simp only[xY,xZ,jo1,jo2] at h1;obtain⟨r,e1,rs',⟨r2,e2,rs'',e3,rfl⟩,rfl⟩:=h1;cases e3
  obtain⟨v,v2,rfl,g,f2⟩: ∃v v2,vs=[v,v2]/\Frz X.K W H1 r v/\Frz X.K W H1 r2 v2:=by
   cases f with
   |cons f t=>cases t with
    |cons f' t=>cases t;exact⟨_,_,rfl,f,f'⟩
  clear f
  cases g with
  |val g=>
   cases f2 with
   |val f2=>
    cases g with
    |int n=>
     cases f2 with
     |int m=>
      simp only[yy] at h2;split at h2
      ·rename_i hn
       cases h2;exact⟨n,m,rfl,⟨hn.1.1,hn.1.2,hn.2.1,hn.2.2⟩,q _ H1 s1 (fun W' H' s w k=>QB k) fun _ W' H' x k=>QB k⟩
      ·cases h2
     |_=>simp[yy] at h2
    |_=>simp[yy] at h2
   |_=>simp[yy] at h2
  |_=>simp[yy] at h2
theorem gy{α:Type}{l:List α}{k:Nat}{d:α}(h:l[k]? =some d):l.drop k=d::l.drop (k+1):=by
 obtain⟨h1,h2⟩:=List.getElem?_eq_some_iff.mp h;rw[List.drop_eq_getElem_cons h1,h2]
theorem Vb{K:Ka}{J:It}{ds:List D}{i:Nat}{ex:LW.Env->Option (Fl×LW.Env)}{W:Addr->Prop}{ρ:LW.Env}{σ:St}{H:Hp}{x:Fl×LW.Env}{D0:Ends}(hR:R K W ρ σ H)(hfr: ¬xF ρ i)(hy:Yl K J W H ds)
  (hx:yq i ex ds ρ=some x) (q: ∀W' σ' H',SPost K W ρ σ H W' x.2 σ' H'->FlOk K W ρ σ W' x.2 σ' H' D0 x.1):
  ∃Wv:Nat->Nat->St->Hp->Prop,(∃m,Wv 0 m σ H)/\∀k m σ' H',Wv k m σ' H'->
   (J.stop k H'/\D0.nx σ' H')\/(J.go k H'/\∃N:St->Hp->Prop,(∀σ2 H2,N σ2 H2->∃m',m'<m/\Wv (k+1) m' σ2 H2)/\∀v H2,J.yld k H' v H2->vX i v σ' H2 fun σ2 H2=>XJ K ex { D0 with nx:=N,ct:=N,bk:=D0.nx } σ2 H2):=by
 refine⟨fun k m σ' H'=>m=ds.length-k/\k<=ds.length/\∃W' ρ',SPost K W ρ σ H W' ρ' σ' H'/\yq i ex (ds.drop k) ρ'=some x,⟨_,rfl,Nat.zero_le _,W,ρ,.same hR (.refl H),hx⟩,?_⟩;rintro k m σ' H' ⟨rfl,hk,W',ρ',p,hf⟩;obtain⟨hstop,hgo⟩:=hy W' H' (p.ext hR) k;by_cases hlt:k<ds.length
 ·have hd:ds[k]? =some ds[k]:=by simp[hlt]
  obtain⟨g1,g2⟩:=hgo _ hd;rw[gy hd,yq,jo1] at hf;obtain⟨⟨fl,ρ2⟩,e1,e2⟩:=hf;refine .inr ⟨g1,fun σ2 H2=>(ds.length-(k+1))=ds.length-(k+1)/\k+1<=ds.length/\∃W' ρ',SPost K W ρ σ H W' ρ' σ2 H2/\yq i ex (ds.drop (k+1)) ρ'=some x,fun σ2 H2 h=>⟨_,by omega,h⟩,fun v H2 y=>?_⟩;obtain⟨rfl,rv⟩:=g2 v H2 y;have p1:=Qw (i:=i) p.r (.refl H2) rv fun z=>hfr ((p.io i).1.mp z)
  have p01:=p.trans p1 hR;refine⟨W',_,(fl,ρ2),p1.r,e1,fun W3 σ3 H3 p3=>?_⟩;have p03:=p01.trans p3 hR
  cases fl with
  |nx=>exact⟨rfl,hlt,W3,ρ2,p03,e2⟩
  |ct=>exact⟨rfl,hlt,W3,ρ2,p03,e2⟩
  |br=>cases e2;exact q W3 σ3 H3 p03
  |rt r=>cases e2;exact fun v hv=>q W3 σ3 H3 p03 v (hv.back p01)
 ·have e:k=ds.length:=by omega
  rw[List.drop_of_length_le (by omega),yq] at hf;cases hf;exact .inl ⟨hstop e,q W' σ' H' p⟩
variable {fa:Nat->List D->Option Ans} {sts:List Stmt} {ss:Ss}
theorem jh(i:Nat){rng:Bool}{src:Es}{px:Pos}(hp:PassesOwn (model X.prog X.w) X.A X.env X.xe)(hc:X.calm=true)(hN:X.N.Nodup)(hi:X.N[i]? =some x)(hx:wu X.env.scope x)(hs:Src X (zE fa) (.Name x px) e rng src)(hb:ISs X (zr fa fuel ss) sts)
  (hf:X.fn x=true\/X.env.scope.names.lookup x=some .local:=by first|exact .inl rfl|exact .inr rfl|assumption) (hfo: ∀x,foldedSetIterable e X.env x=pure x:=by intro _;rfl):IS X (zF fa fuel (.for_ i rng src ss)) (.For (.Name x px) e sts [] pos):=
 .mk <| (Xf hp hc hs.h (vY hN hi hx hf) hb.h hfo).imp fun D0 σ H zz3=>by
  obtain⟨W,ρ,y,hR,hy,q⟩:=zz3;simp only[ziZ,jo1] at hy;obtain⟨rs,e1,e2⟩:=hy;split at e2
  ·cases e2
  ·rename_i hl
   simp only[Bool.not_eq_true,Bool.or_eq_false_iff,Bool.not_eq_false'] at hl;rw[jo1] at e2;obtain⟨ds,e3,e4⟩:=e2;refine⟨W,ρ,rs,ds,hR,e1,e3,fun J H1 s1 _ hyl=>?_⟩;have p1:=SPost.same hR s1;exact Vb p1.r (jD hl.2) (hyl hl.1) e4 fun W' σ' H' p=>FlOk.back p1 (q W' σ' H' (p1.trans p hR))
theorem Yh(i j:Nat){y:Str}{px:Pos}(hp:PassesOwn (model X.prog X.w) X.A X.env X.xe)(hc:X.calm=true)(hN:X.N.Nodup)(hi:X.N[i]? =some x)(hx:wu X.env.scope x)(hj:X.N[j]? =some y)(hv:xK X.env.scope y)(hb:ISs X (zr fa fuel ss) sts)
  (hf:X.fn x=true\/X.env.scope.names.lookup x=some .local:=by first|exact .inl rfl|exact .inr rfl|assumption) (hd:(y==("__debug__":Str))=false:=by decide) (hcd:(y==("__classdict__":Str))=false:=by decide)
  (hfo: ∀x,foldedSetIterable (.Name y p) X.env x=pure x:=by intro _;rfl):IS X (zF fa fuel (.forV i j ss)) (.For (.Name x px) (.Name y p) sts [] pos):=
 .mk <| (Xf hp hc (zda (wK hj hv hd hcd)) (vY hN hi hx hf) hb.h hfo).imp fun D0 σ H zz3=>by
  obtain⟨W,ρ,z,hR,hz,q⟩:=zz3;simp only[zi1] at hz;split at hz
  case isFalse=>cases hz
  rename_i hfr;have hfr:=jD hfr;simp only[jo1,ZY] at hz;obtain⟨⟨ds,ρ1⟩,e1,e2⟩:=hz;split at e1
  ·rename_i d h
   rw[jo2] at e1;obtain⟨l,e3,e4⟩:=e1;cases e4;obtain⟨v,h1,h2⟩:=hR.val j d h;refine⟨v,h1,?_⟩;unfold xS at e3;split at e3
   ·cases e3
    cases h2 with
    |tup hq rp=>exact⟨_,rfl,.inr ⟨⟨_,.of hq⟩,Vb hR hfr (fun W' H' x k=>gx (.of (x.tup _ _ hq)) (rp.ext x) k) e2 q⟩⟩
   ·cases e3
    cases h2 with
    |lst hq rp=>exact⟨_,rfl,.inl ⟨⟨_,hq.elim (fun z=>.inl z.2) fun z=>.inr z⟩,Vb hR hfr (fun W' H' x k=>Va (Yg hq x) (rp.ext x) k) e2 q⟩⟩
   ·cases e3
  ·rename_i o es h
   cases e1
   cases o with
   |false=>exact KC h (hR.nol j _)
   |true=>
   obtain⟨a,xs,h1,h2,h3,h4⟩:=hR.own j _ _ h rfl
   cases h4 with
   |lst h4=>
   obtain⟨p1,rp⟩:=gv hR h h1;refine⟨_,h1,a,rfl,.inl ⟨⟨_,.of h3⟩,?_⟩⟩;refine Vb p1.r (fun z=>hfr ((p1.io i).1.mp z)) (fun W' H' x k=>?_) e2 fun W' σ' H' p=>FlOk.back p1 (q W' σ' H' (p1.trans p hR))
   cases rp with
   |lst hq rp=>exact Va (Yg hq x) (rp.ext x) k
  ·cases e1
theorem Vc(hp:PassesOwn (model X.prog X.w) X.A X.env X.xe)(hc:IT X (zE fa) c cc)(hb:ISs X (zr fa fuel ss) sts):IS X (zF fa fuel (.while_ cc ss)) (.While c sts [] pos):=
 .mk <| (zg7 hp hc.h hb.h).imp fun D0 σ H zz3=>by
  obtain⟨W,ρ,y,hR,hy,q⟩:=zz3;simp only[zi2] at hy;refine⟨fun m σ' H'=>∃W' ρ',SPost X.K W ρ σ H W' ρ' σ' H'/\xE (zA (zE fa) cc) (zr fa fuel ss) m ρ'=some y,⟨fuel,W,ρ,.same hR (.refl H),hy⟩,?_⟩;rintro m σ' H' ⟨W',ρ',p,hw⟩
  cases m with
  |zero=>simp[xE] at hw
  |succ m=>
   rw[xE,jo1] at hw;obtain⟨k,e1,e2⟩:=hw;refine⟨W',ρ',k,p.r,e1,fun H1 s1=>?_⟩;have p1:=SPost.same p.r s1;have p01:=p.trans p1 hR
   cases k with
   |false=>
    rw[if_neg Km] at e2;cases e2;exact Xp (q W' σ' H1 p01)
   |true=>
    rw[if_pos rfl] at e2;rw[jo1] at e2;obtain⟨⟨fl,ρ2⟩,e3,e4⟩:=e2;refine ZU ⟨fun σ2 H2=>∃W' ρ',SPost X.K W ρ σ H W' ρ' σ2 H2/\xE (zA (zE fa) cc) (zr fa fuel ss) m ρ'=some y,fun σ2 H2 h=>⟨m,Nat.lt_succ_self m,h⟩,?_⟩;refine⟨W',ρ',(fl,ρ2),p1.r,e3,fun W3 σ3 H3 p3=>?_⟩;have p03:=p01.trans p3 hR
    cases fl with
    |nx=>exact⟨W3,ρ2,p03,e4⟩
    |ct=>exact⟨W3,ρ2,p03,e4⟩
    |br=>cases e4;exact q W3 σ3 H3 p03
    |rt r=>cases e4;exact fun v hv=>q W3 σ3 H3 p03 v (hv.back p01)
end
theorem zdc(io:List Nat): ∀(ds:List D) (k i:Nat),(wn io k ds)[i]? =(ds[i]?).map fun d=>some (if io.contains (k+i) then SV.io d else .val d)
 |[],k,i=>by simp[wn]
 |d::r,k,0=>by simp[wn]
 |d::r,k,i+1=>by
  rw[wn,List.getElem?_cons_succ,zdc io r (k+1) i,List.getElem?_cons_succ];have:k+1+i=k+(i+1):=by omega
  rw[this]
theorem QD(io:List Nat): ∀(ds:List D) (k:Nat),(wn io k ds).length=ds.length
 |[],k=>rfl
 |d::r,k=>by simp[wn,QD io r (k+1)]
theorem zjx{io:List Nat}{ds:List D}{n:Nat}{i:Nat}{x:SV}(h:(wn io 0 ds++List.replicate n Option.none)[i]? =some (some x)):
  ∃d,ds[i]? =some d/\x=if io.contains i then SV.io d else .val d:=by
 by_cases hi:i<ds.length
 ·rw[List.getElem?_append_left (by rw[QD];exact hi),zdc,jo2] at h
  obtain⟨d,e1,e2⟩:=h;rw[Nat.zero_add] at e2;exact⟨d,e1,(Kn e2).symm⟩
 ·rw[List.getElem?_append_right (by rw[QD];omega)] at h
  rw[List.getElem?_replicate] at h;split at h<;>cases h
theorem Yi{N:List Str}{vs:List V}{i:Nat}{v:V}(h:vs[i]? =some v):(xM N vs)[i]? =some (some v):=by
 have hi:i<vs.length:=(List.getElem?_eq_some_iff.mp h).1;unfold xM;rw[List.getElem?_append_left (by simpa using hi),List.getElem?_map,h];rfl
theorem gz{K:Ka}{W W':Addr->Prop}{H':Hp}{ρ':LW.Env}{σ':St}{vs:List V}(hR:R K W' ρ' σ' H')(sub: ∀b,W b->W' b): ∀{io:List Nat} {outs:List D},wN ρ' io=some outs->(∀k∈io,xF ρ' k->∃a,σ'[k]? =some (some (.ref a))/\vs[k]? =some (.ref a))->Qv K W H' io vs outs
 |[],outs,e,_=>by simp only[wN] at e;cases e;exact .nil
 |k::r,outs,e,hs=>by
  simp only[wN] at e;split at e
  ·rename_i d h
   rw[jo2] at e;obtain⟨l,e1,rfl⟩:=e;obtain⟨a,h1,h2⟩:=hs k Ke ⟨d,h⟩;obtain⟨a',o,h3,_,h5,h6⟩:=hR.own k _ d h rfl;rw[h1] at h3;cases h3;exact .cons ⟨a,o,h2,h5,h6.less sub⟩ (gz hR sub e1 fun j hj=>hs j (Kf _ hj))
  ·cases e
theorem zQ{Pg:Program}{w:World}{K:Ka}{mg:Str->Option Value}{base:Heap}{x qual:Str}{st:Stmt}{f:Addr}{fd:FuncData}{N ps:List Str}{k n i:Nat}{P:Nat->Option Fn}{fuel:Nat}{F0:Fn}{io:List Nat}
  (F:Fun K x qual st f fd) (S:FnScope N ps (zk st)) (hP:P i=some F0) (hnp:F0.np=ps.length) (hnl:F0.nl=N.length) (hio:F0.io=io) (hiop:io.all (fun k=>decide (k<F0.np))=true) (hxb:F0.xb=Option.none)
  (hbody: ∀(cdv:Value) (A:Around) (outer:List PySem.Env) (s:Shared) (H:Hp) (E:XK),Room k (A.deeper (envOfC qual (zk st) s.heap.objs.size f cdv))->
   ISs (vy yE Pg w K mg base N qual (zk st) f cdv A outer s H E).nox (zr (zC P fuel n) fuel F0.body) (wY st)):
  FnOk Pg w K mg base yE (k+1) f fd ps (wx K (zC P fuel (n+1)) i io):=by
 subst hio
 have dec: ∀{ds:List D} {r:Ans},zC P fuel (n+1) i ds=some r->ds.length=F0.np/\jc F0.io (zr (zC P fuel n) fuel F0.body (wn F0.io 0 ds++List.replicate (F0.nl-F0.np) Option.none))=some r:=fun {ds r} h=>by
  rw[zC,hP] at h;simp only[Option.bind_some,hxb] at h;split at h
  ·exact⟨by assumption,h⟩
  ·cases h
 refine F.ok S (fun vs H Q E h=>?_) (fun cdv A outer s H vs Q E hr h=>⟨_,(hbody cdv A outer s H E hr).h,?_⟩)
 ·obtain⟨W,ds,r,outs,wf,rp,e,_⟩:=h
  rw[<-rp.len,(dec e).1,hnp]
 ·obtain⟨W,ds,r,outs,wf,rp,e,q⟩:=h
  obtain⟨hl,he⟩:=dec e;have hlv:=rp.len;have hplN:ps.length<=N.length:=by have:=congrArg List.length S.pre;rw[List.length_take] at this;omega
  generalize hρ:wn F0.io 0 ds++List.replicate (F0.nl-F0.np) Option.none=ρ at he;have at_: ∀{j:Nat} {x:SV},ρ[j]? =some (some x)->∃d,ds[j]? =some d/\x=if F0.io.contains j then SV.io d else .val d:=fun {j x} h=>by rw[<-hρ] at h;exact zjx h
  have own_io: ∀a,xO ρ (xM N vs) a->XX F0.io vs a:=fun a zz1=>by
   obtain⟨j,x,d,h1,hc,h2⟩:=zz1;obtain⟨d',e1,e2⟩:=at_ h1;split at e2
   ·rename_i hj
    have hj:j∈F0.io:=by simpa using hj
    obtain⟨b,o,h3,_⟩:=rp.obj j d' e1 hj;rw[Yi h3] at h2;cases h2;exact⟨j,hj,h3⟩
   ·subst e2;cases hc
  have hR:R K W ρ (xM N vs) H:=by
   refine⟨fun j d h=>?_,fun j d h=>?_,fun j x d h hc=>?_,fun j k x y d e a h1 h2 c1 c2 h3 h4=>?_,wf,?_⟩
   ·obtain⟨d',e1,e2⟩:=at_ h
    split at e2
    ·cases e2
    ·rename_i hj
     cases e2;obtain⟨v,h1,h2⟩:=rp.val j d e1 (by simpa using hj);exact⟨v,Yi h1,h2⟩
   ·obtain⟨d',e1,e2⟩:=at_ h
    split at e2<;>cases e2
   ·obtain⟨d',e1,e2⟩:=at_ h
    split at e2
    ·rename_i hj
     subst e2;cases hc;obtain⟨b,o,h3,h4,h5,h6⟩:=rp.obj j d e1 (by simpa using hj);exact⟨b,o,Yi h3,h4,h5,h6⟩
    ·subst e2;cases hc
   ·obtain⟨d1,e1,e2⟩:=at_ h1
    obtain⟨d2,e3,e4⟩:=at_ h2;split at e2
    ·rename_i hj
     split at e4
     ·rename_i hk
      have hj:j∈F0.io:=by simpa using hj
      have hk:k∈F0.io:=by simpa using hk
      obtain⟨b,o,z1,_⟩:=rp.obj j d1 e1 hj;obtain⟨b',o',z2,_⟩:=rp.obj k d2 e3 hk;rw[Yi z1] at h3;cases h3;rw[Yi z2] at h4;cases h4;exact rp.inj j k _ hj hk z1 z2
     ·subst e4;cases c2
    ·subst e2;cases c1
   ·rw[<-hρ]
    unfold xM;rw[List.length_append,List.length_append,QD,List.length_map,List.length_replicate,List.length_replicate];omega
  cases hx:zr (zC P fuel n) fuel F0.body ρ with
  |none=>rw[hx] at he;cases he
  |some y=>
   rw[hx] at he;obtain⟨fl,ρ'⟩:=y;refine⟨W,ρ,(fl,ρ'),hR,hx,fun W' σ' H' p=>?_⟩;have kp: ∀a o,H a=some o->¬XX F0.io vs a->H' a=some o:=fun b o h n=>p.keep b o h fun z=>n (own_io b z)
   have io_at: ∀k∈F0.io,xF ρ' k->∃a,σ'[k]? =some (some (.ref a))/\vs[k]? =some (.ref a):=fun j hj z=>by
    have z0:=(p.io j).1.mp z;obtain⟨d0,z1⟩:=z0;obtain⟨d',e1,e2⟩:=at_ z1;obtain⟨b,o,h3,_⟩:=rp.obj j d' e1 hj;exact⟨b,by rw[(p.io j).2 ⟨d0,z1⟩,Yi h3],h3⟩
   have sub: ∀b,W b->W' b:=fun b w=>by
    by_cases hb:xO ρ (xM N vs) b
    ·obtain⟨j,x,d,h1,hc,h2⟩:=hb
     obtain⟨d',e1,e2⟩:=at_ h1;split at e2
     ·subst e2
      obtain⟨d2,z⟩:=(p.io j).1.mpr ⟨d',h1⟩;obtain⟨a',o,h3,h4,_⟩:=p.r.own j _ d2 z rfl;rw[(p.io j).2 ⟨d',h1⟩,h2] at h3;cases h3;exact h4
     ·subst e2;cases hc
    ·exact (p.wout b w hb).1
   cases fl with
   |br=>cases he
   |ct=>cases he
   |nx=>
    simp only[jc,jo2] at he;obtain⟨l,e1,e2⟩:=he;cases e2;exact q _ H' kp (gz p.r sub e1 io_at) (.val .non)
   |rt r'=>
    simp only[jc,jo2] at he;obtain⟨l,e1,e2⟩:=he;cases e2;intro v hv;have ho:=gz p.r sub e1 io_at
    cases hv with
    |val h=>exact q v H' kp ho (.val (h.less sub))
    |new h nn n' eL rr=>
     have ha:=(p.win _ h).resolve_left fun w=>nn ⟨w,fun zz0=>by
      obtain⟨j,x,d,h1,hc,h2⟩:=zz0;obtain⟨d',e1,e2⟩:=at_ h1;split at e2
      ·subst e2;exact n' ⟨j,⟨d',h1⟩,h2⟩
      ·subst e2;cases hc⟩
     refine q _ H' kp ho (.new ha eL (rr.less fun b w=>?_));rcases w with w|rfl
     ·exact sub b w
     ·exact h
end L2.LW
set_option maxHeartbeats 4000000
namespace L2.LW
open PySem PySem.Spec PyProof.Rows
noncomputable def we(env:PySem.Env):List (Str×NameKind)->List (Str×Addr)->List (Str×Addr)
 |[],acc=>acc
 |(n,k)::r,acc=>if k== .free then we env r ((n,(env.cells.lookup n).getD 0)::acc) else we env r acc
theorem zdd(env:PySem.Env): ∀(names:List (Str×NameKind)) (acc:List (Str×Addr)),(∀y∈names,y.2= .free->(env.cells.lookup y.1).isSome=true)->
  (forIn names acc fun (x:Str×NameKind) (cs:List (Str×Addr))=>(if (x.2==NameKind.free)=true then (do let c <-cellOf env x.1;pure (ForInStep.yield ((x.1,c)::cs)):Sem (ForInStep (List (Str×Addr)))) else pure (ForInStep.yield cs)))=(pure (we env names acc):Sem (List (Str×Addr)))
 |[],acc,_=>rfl
 |(n,k)::r,acc,h=>by
  have ih:=fun acc=>zdd env r acc fun y hy=>h y (Kf _ hy)
  rw[List.forIn_cons];by_cases hk:(k==NameKind.free)=true
  ·have hs:=h (n,k) Ke (by simpa using hk)
   obtain⟨c,hc⟩:=Option.isSome_iff_exists.mp hs;have hc:env.cells.lookup n=some c:=hc;simp only[hk,if_true,cellOf,hc,we,Option.getD_some];show (forIn r ((n,c)::acc) _:Sem _)=_;exact ih _
  ·simp only[hk,if_false,we]
   show (forIn r acc _:Sem _)=_;exact ih _
theorem gA{scope:Scope}{env:PySem.Env}(h: ∀y∈scope.names,y.2= .free->(env.cells.lookup y.1).isSome=true):closureFor scope env=pure (we env scope.names []):=by
 have key:closureFor scope env=((forIn scope.names ([]:List (Str×Addr)) fun (x:Str×NameKind) (cs:List (Str×Addr))=>
  (if (x.2==NameKind.free)=true then (do let c <-cellOf env x.1;pure (ForInStep.yield ((x.1,c)::cs)):Sem (ForInStep (List (Str×Addr)))) else pure (ForInStep.yield cs))) >>= fun cs=>pure cs):=rfl
 rw[key,zdd env scope.names [] h];rfl
theorem QE{env:PySem.Env}{y:Str}{c:Addr}: ∀{names:List (Str×NameKind)} {acc:List (Str×Addr)},(∀z∈names,z.2= .free->(env.cells.lookup z.1).isSome=true)->(we env names acc).lookup y=some c->
  acc.lookup y=some c\/env.cells.lookup y=some c
 |[],_,_,e=>.inl e
 |(n,k)::r,acc,h,e=>by
  unfold we at e;split at e
  ·rename_i hk
   rcases QE (fun z hz=>h z (Kf _ hz)) e with q|q
   ·rw[List.lookup_cons] at q
    split at q
    ·rename_i hy
     have hy:y=n:=by simpa using hy
     subst hy;obtain⟨c',hc⟩:=Option.isSome_iff_exists.mp (h (y,k) Ke (by simpa using hk));have hc:env.cells.lookup y=some c':=hc;rw[hc] at q;cases q;exact .inr hc
    ·exact .inl q
   ·exact .inr q
  ·exact QE (fun z hz=>h z (Kf _ hz)) e
theorem gB{env:PySem.Env}{y:Str}: ∀{names:List (Str×NameKind)} {acc:List (Str×Addr)},((acc.lookup y).isSome=true\/(y,NameKind.free)∈names)->((we env names acc).lookup y).isSome=true
 |[],acc,h=>by
  rcases h with h|h
  ·exact h
  ·cases h
 |(n,k)::r,acc,h=>by
  unfold we;split
  ·rename_i hk
   refine gB ?_;by_cases e:y=n
   ·subst e;exact .inl (by simp)
   ·have hb:(y==n)=false:=by simpa using e
    rcases h with h|h
    ·exact .inl (by rw[List.lookup_cons,hb];exact h)
    ·rcases List.mem_cons.mp h with z|z
     ·cases z;exact KC rfl e
     ·exact .inr z
  ·rename_i hk
   refine gB ?_;rcases h with h|h
   ·exact .inl h
   ·rcases List.mem_cons.mp h with z|z
    ·cases z;exact KC rfl hk
    ·exact .inr z
noncomputable def Zr(x:Str):Str:=x++(" ":Str)
noncomputable def wy(x:Str)(N:List Str):List Str:=N.map fun y=>if y=x then Zr x else y
noncomputable def vH(scope:Scope)(x:Str)(c:Addr)(cl:List (Str×Addr)):List (Str×Addr):=if scope.names.lookup x=some .cell then (x,c)::cl else cl
noncomputable def yg(X:Cx)(scope:Scope)(x:Str)(s₃:Shared)(H₃:Hp)(fp:List Addr)(pins:List (Addr×Obj)):Cx:=
 { X with N:=x::wy x X.N,s₀:=s₃,H₀:=H₃,env:=compEnvC scope (vH scope x (s₃.heap.objs.size+1) (we X.env scope.names [])) s₃.heap.objs.size X.env,outer:=X.stack,stack:=X.stack,ex:=fp,fn:=fun y=>decide (y=x)&&decide (scope.names.lookup x=some .cell),pn:=X.pn++pins,xe:=fun _ _=>False }
structure CompSc (X:Cx)(scope:Scope)(x:Str):Prop where
 kind:scope.kind= .function
 loc:scope.names.lookup x=some .local\/scope.names.lookup x=some .cell
 names: ∀y∈scope.names,y.2= .local->scope.names.lookup y.1=some .local
 cell1:scope.names.filter (fun y=>y.2== .cell)=if scope.names.lookup x=some .cell then [(x,.cell)] else []
 free: ∀y∈scope.names,y.2= .free->X.env.scope.names.lookup y.1=some .cell\/X.env.scope.names.lookup y.1=some .free
 own: ∀y∈X.N,scope.names.lookup y=some .local->y=x
 none:scope.names.lookup (Zr x)=Option.none
 nd:(x::wy x X.N).Nodup
theorem QF{y:Str}{k:NameKind}: ∀{l:List (Str×NameKind)},l.lookup y=some k->(y,k)∈l
 |[],h=>by cases h
 |(n,j)::r,h=>by
  rw[List.lookup_cons] at h;split at h
  ·rename_i e
   have e:y=n:=by simpa using e
   cases h;subst e;exact Ke
  ·exact Kf _ (QF h)
theorem Yj{env:PySem.Env}{y:Str}{k:NameKind}: ∀{names:List (Str×NameKind)},
  (names.map fun (z:Str×NameKind)=>match z with|(n,k)=>if (k==NameKind.free&&env.scope.kind== .function&&env.kindOf n==some .cell)=true then (n,NameKind.cell) else (n,k)).lookup y=some k->
  names.lookup y=some k\/(k= .cell/\names.lookup y=some .free)
 |[],h=>by cases h
 |(n,j)::r,h=>by
  rw[List.map_cons,List.lookup_cons] at h;rw[List.lookup_cons];by_cases hc:(j==NameKind.free&&env.scope.kind== .function&&env.kindOf n==some .cell)=true
  ·simp only[hc,if_true] at h
   cases e:y==n with
   |true=>
    rw[e] at h;cases h
    have hj:j= .free:=by
     simp only[Bool.and_eq_true] at hc;simpa using hc.1.1
    exact .inr ⟨rfl,by rw[hj]⟩
   |false=>rw[e] at h;exact Yj h
  ·simp only[hc,Bool.false_eq_true,if_false] at h
   cases e:y==n with
   |true=>rw[e] at h;exact .inl h
   |false=>rw[e] at h;exact Yj h
section
variable {X:Cx} {scope:Scope} {x:Str} {s₃:Shared} {H₃:Hp} {fp:List Addr} {pins:List (Addr×Obj)} {σ:St}
theorem CompSc.onlyC(S:CompSc X scope x){y:Str}(h:scope.names.lookup y=some .cell):y=x/\scope.names.lookup x=some .cell:=by
 have hm:(y,NameKind.cell)∈scope.names.filter (fun y=>y.2== .cell):=List.mem_filter.mpr ⟨QF h,rfl⟩;rw[S.cell1] at hm;split at hm
 ·simp at hm;subst hm;exact⟨rfl,h⟩
 ·cases hm
theorem zde{x:Str}: ∀(names:List (Str×NameKind)) (a:Nat) (acc:List (Str×Addr)) (h:Heap),names.filter (fun y=>y.2== .cell)=[(x,.cell)]->cellsFrom a names acc=(x,a)::acc/\pushCells h names=h.push { cls:=.type "cell",data:=.cell Option.none }
 |[],_,_,_,e=>by cases e
 |(n,k)::r,a,acc,h,e=>by
  have none_: ∀(names:List (Str×NameKind)) (a:Nat) (acc:List (Str×Addr)) (h:Heap),names.filter (fun y=>y.2== .cell)=[]->cellsFrom a names acc=acc/\pushCells h names=h:=by
   intro names
   induction names with
   |nil=>intro a acc h _;exact⟨rfl,rfl⟩
   |cons y r ih=>
    intro a acc h e;obtain⟨n,k⟩:=y;rw[List.filter_cons] at e;split at e
    ·cases e
    ·rename_i hk
     have hk:(k==NameKind.cell)=false:=by simpa using hk
     unfold cellsFrom pushCells;rw[hk];exact ih a acc h e
  rw[List.filter_cons] at e;split at e
  ·rename_i hk
   injection e with e1 e2;cases e1;unfold cellsFrom pushCells;simp only[beq_self_eq_true,if_true];exact none_ r _ _ _ e2
  ·rename_i hk
   have hk:(k==NameKind.cell)=false:=by simpa using hk
   unfold cellsFrom pushCells;rw[hk];exact zde r a acc h e
theorem zdf: ∀(names:List (Str×NameKind)) (a:Nat) (acc:List (Str×Addr)) (h:Heap),names.filter (fun y=>y.2== .cell)=[]->cellsFrom a names acc=acc/\pushCells h names=h
 |[],_,_,_,_=>⟨rfl,rfl⟩
 |(n,k)::r,a,acc,h,e=>by
  rw[List.filter_cons] at e;split at e
  ·cases e
  ·rename_i hk
   have hk:(k==NameKind.cell)=false:=by simpa using hk
   unfold cellsFrom pushCells;rw[hk];exact zdf r a acc h e
theorem gC{M:Model}{A:Around}{E:Value->Shared->Prop}{s:Shared}{globals:Addr}{cl:List (Str×Addr)}{qual:Str}{env:PySem.Env}{Q:PySem.Env->Shared->Prop}(S:CompSc X scope x)
  (h: ∀h₁,h₁.Ns s.heap.objs.size (fun _=>Option.none)->(∀b o,s.heap.get? b=some o->h₁.get? b=some o)->(scope.names.lookup x=some .cell->h₁.IsCell (s.heap.objs.size+1) Option.none)->
   Q (newEnv scope s.heap.objs.size globals (vH scope x (s.heap.objs.size+1) cl) qual Option.none .none (some env) builtinsNs) { s with heap:=h₁ }):
  wpAny M A (newFunctionEnv scope globals cl [] qual Option.none .none (some env)) Q E s:=by
 simp only[newFunctionEnv,Option.isSome_some,if_true];refine Kb (wpAny_alloc ?_);refine Kb (wpAny_layCells _ (fun name kind cells=>by cases hkc:kind==NameKind.cell<;>simp[hkc]) _ _ _ _ ?_);rw[List.forIn_nil];refine Kb (Kc (Kc ?_));rw[show ({ s with heap:=s.heap.push { cls:=.type "dict",data:=.dict #[] } }:Shared).heap.objs.size=s.heap.objs.size+1 from Heap.size_push ..];have hc:=S.cell1;by_cases hx:scope.names.lookup x=some .cell
 ·rw[if_pos hx] at hc
  obtain⟨e1,e2⟩:=zde (x:=x) scope.names (s.heap.objs.size+1) cl (s.heap.push { cls:=.type "dict",data:=.dict #[] }) hc
  have h':=h (pushCells (s.heap.push { cls:=.type "dict",data:=.dict #[] }) scope.names) ((Heap.Ns.new s.heap (.type "dict")).keeps (pushCells_keeps _ _)) (fun b o e=>pushCells_keeps _ _ b o (Kl _ e)) (fun _=>by
   rw[e2];have:(s.heap.push { cls:=.type "dict",data:=.dict #[] }).objs.size=s.heap.objs.size+1:=Heap.size_push ..;rw[<-this];exact⟨_,Heap.get?_push_size _ rfl,rfl⟩)
  rw[e1];unfold vH at h';rw[if_pos hx] at h';exact h'
 ·rw[if_neg hx] at hc
  obtain⟨e1,e2⟩:=zdf scope.names (s.heap.objs.size+1) cl (s.heap.push { cls:=.type "dict",data:=.dict #[] }) hc;have h':=h (pushCells (s.heap.push { cls:=.type "dict",data:=.dict #[] }) scope.names) ((Heap.Ns.new s.heap (.type "dict")).keeps (pushCells_keeps _ _)) (fun b o e=>pushCells_keeps _ _ b o (Kl _ e)) (fun z=>KC z hx);rw[e1];unfold vH at h';rw[if_neg hx] at h';exact h'
theorem CompSc.cells(S:CompSc X scope x)(ok:X.Ok): ∀y∈scope.names,y.2= .free->(X.env.cells.lookup y.1).isSome=true:=fun y hy hk=>by
 obtain⟨c,hc⟩:=ok.has y.1 (S.free y hy hk);rw[hc];rfl
theorem CompSc.look(S:CompSc X scope x)(ok:X.Ok){y:Str}{c:Addr}(h:(yg X scope x s₃ H₃ fp pins).env.cells.lookup y=some c):
  (y=x/\scope.names.lookup x=some .cell/\c=s₃.heap.objs.size+1)\/((y≠x\/scope.names.lookup x≠some .cell)/\X.env.cells.lookup y=some c):=by
 have h:(vH scope x (s₃.heap.objs.size+1) (we X.env scope.names [])).lookup y=some c:=h
 have old:(we X.env scope.names []).lookup y=some c->X.env.cells.lookup y=some c:=fun h=>by
  rcases QE (S.cells ok) h with q|q
  ·cases q
  ·exact q
 unfold vH at h;split at h
 ·rename_i hc
  rw[List.lookup_cons] at h;split at h
  ·rename_i e
   cases h;exact .inl ⟨by simpa using e,hc,rfl⟩
  ·rename_i e
   exact .inr ⟨.inl (by simpa using e),old h⟩
 ·rename_i hc
  exact .inr ⟨.inr hc,old h⟩
theorem CompSc.kindOf(S:CompSc X scope x){y:Str}(h:(yg X scope x s₃ H₃ fp pins).env.kindOf y=some .cell\/(yg X scope x s₃ H₃ fp pins).env.kindOf y=some .free):scope.names.lookup y=some .free\/(y=x/\scope.names.lookup x=some .cell):=by
 rcases h with h|h
 ·rcases Yj (show _=_ from h) with q|⟨_,q⟩
  ·exact .inr (S.onlyC q)
  ·exact .inl q
 ·rcases Yj (show _=_ from h) with q|⟨z,q⟩
  ·exact .inl q
  ·cases z
theorem CompSc.has(S:CompSc X scope x){y:Str}(h:scope.names.lookup y=some .free): ∃c,(yg X scope x s₃ H₃ fp pins).env.cells.lookup y=some c/\(we X.env scope.names []).lookup y=some c:=by
 obtain⟨c,hc⟩:=Option.isSome_iff_exists.mp (gB (env:=X.env) (names:=scope.names) (acc:=[]) (y:=y) (.inr (QF h)));refine⟨c,?_,hc⟩;show (vH scope x (s₃.heap.objs.size+1) (we X.env scope.names [])).lookup y=some c;unfold vH;split
 ·rename_i hx
  have:(y==x)=false:=by
   cases e:y==x with
   |false=>rfl
   |true=>
    have e:y=x:=by simpa using e
    subst e;rw[h] at hx;cases hx
  rw[List.lookup_cons,this];exact hc
 ·exact hc
theorem gE{env:PySem.Env}{y:Str}: ∀{names:List (Str×NameKind)},names.lookup y=some .cell->
  (names.map fun (z:Str×NameKind)=>match z with|(n,k)=>if (k==NameKind.free&&env.scope.kind== .function&&env.kindOf n==some .cell)=true then (n,NameKind.cell) else (n,k)).lookup y=some .cell
 |[],h=>by cases h
 |(n,j)::r,h=>by
  rw[List.lookup_cons] at h;rw[List.map_cons,List.lookup_cons];by_cases hc:(j==NameKind.free&&env.scope.kind== .function&&env.kindOf n==some .cell)=true
  ·simp only[hc,if_true]
   cases e:y==n with
   |true=>rfl
   |false=>rw[e] at h;exact gE h
  ·simp only[hc,Bool.false_eq_true,if_false]
   cases e:y==n with
   |true=>rw[e] at h;exact h
   |false=>rw[e] at h;exact gE h
theorem CompSc.locX(S:CompSc X scope x):wu (yg X scope x s₃ H₃ fp pins).env.scope x:=by
 rcases S.loc with h|h
 ·exact .inl (lookup_relabel_local h)
 ·exact .inr (gE h)
theorem CompSc.fnX(S:CompSc X scope x):(yg X scope x s₃ H₃ fp pins).fn x=true\/(yg X scope x s₃ H₃ fp pins).env.scope.names.lookup x=some .local:=by
 rcases S.loc with h|h
 ·exact .inr (lookup_relabel_local h)
 ·left
  show (decide (x=x)&&decide (scope.names.lookup x=some .cell))=true;simp[h]
theorem zdg(S:CompSc X scope x)(I:Inv X pins σ H₃ s₃)(hf: ∀b∈fp,xL X pins H₃ b)(hlt: ∀b∈fp,b<s₃.heap.objs.size):(yg X scope x s₃ H₃ fp pins).Ok where
 mod:=I.ok.mod
 kind:=S.kind
 glob:=I.ok.glob
 blt:=I.ok.blt
 above:=Nat.le_refl _
 inj:=fun y z c h1 h2=>by
  have old: ∀{y:Str} {c:Addr},X.env.cells.lookup y=some c->c<s₃.heap.objs.size:=fun {y c} h=>by
   obtain⟨v,o,ho,_⟩:=I.cell y c h;exact Kk ho
  rcases S.look I.ok h1 with ⟨e1,_,e2⟩|⟨_,q1⟩
  ·rcases S.look I.ok h2 with ⟨e3,_,e4⟩|⟨_,q2⟩
   ·rw[e1,e3]
   ·have:=old q2;rw[e2] at this;exact KC this (Nat.not_lt.mpr (Kj _))
  ·rcases S.look I.ok h2 with ⟨e3,_,e4⟩|⟨_,q2⟩
   ·have:=old q1;rw[e4] at this;exact KC this (Nat.not_lt.mpr (Kj _))
   ·exact I.ok.inj y z c q1 q2
 has:=fun y h=>by
  rcases S.kindOf h with q|⟨q1,q2⟩
  ·obtain⟨c,hc,_⟩:=S.has (s₃:=s₃) (H₃:=H₃) (fp:=fp) (pins:=pins) q
   exact⟨c,hc⟩
  ·refine⟨s₃.heap.objs.size+1,?_⟩
   show (vH scope x (s₃.heap.objs.size+1) (we X.env scope.names [])).lookup y=_;unfold vH;rw[if_pos q2,q1,List.lookup_cons,beq_self_eq_true]
 cab:=fun y c h hc=>by
  have h:(decide (y=x)&&decide (scope.names.lookup x=some .cell))=true:=h;rw[Bool.and_eq_true,decide_eq_true_iff,decide_eq_true_iff] at h;rcases S.look I.ok hc with ⟨_,_,e⟩|⟨q,_⟩
  ·rw[e];exact Kj _
  ·exact KC h (fun z=>q.elim (fun w=>w z.1) fun w=>w z.2)
 hd:=I.ok.hd
 frames:=I.ok.frames
 stk:=.inl rfl
 exf:=fun b hb=>⟨Kh (hlt b hb),fun y c h=>by
  rcases S.look I.ok h with ⟨_,_,e⟩|⟨_,q⟩
  ·rw[e];exact fun z=>KC (z▸hlt b hb) (Nat.not_lt.mpr (Kj _))
  ·exact (hf b hb).2.2.2.2.1 y c q⟩
 bs:=I.bs
 bsz:=Kg I.ok.bsz I.sz
 noex:=fun b o e hb=>by
  obtain⟨_,_,_,h,_⟩:=hf b hb;rcases h with h|h
  ·exact I.ok.noex b o e h
  ·exact KC (Ki (Kk e) (Kg I.ok.bsz h)) (Nat.lt_irrefl _)
 exfs:=fun b hb hz=>by
  obtain⟨_,h1,h2,_⟩:=hf b hb;rcases List.mem_cons.mp (I.stkSub b hz) with e|e
  ·exact h1 e
  ·exact h2 e
 funs:=I.stack
 frf:=I.stkFree
theorem zjy{N:List Str}{i:Nat}{y:Str}(h:(wy x N)[i]? =some y): ∃z,N[i]? =some z/\((z=x/\y=Zr x)\/(z≠x/\y=z)):=by
 unfold wy at h;rw[List.getElem?_map,jo2] at h;obtain⟨z,e1,e2⟩:=h;refine⟨z,e1,?_⟩;split at e2
 ·exact .inl ⟨by assumption,e2.symm⟩
 ·exact .inr ⟨by assumption,e2.symm⟩
theorem gF{h₁:Heap}{tk:Nat}(S:CompSc X scope x)(I:Inv X pins σ H₃ s₃)(hf: ∀b∈fp,xL X pins H₃ b)(hlt: ∀b∈fp,b<s₃.heap.objs.size)(hns:h₁.Ns s₃.heap.objs.size fun _=>Option.none)
  (hk: ∀b o,s₃.heap.get? b=some o->h₁.get? b=some o) (vv:scope.names.lookup x=some .cell->h₁.IsCell (s₃.heap.objs.size+1) Option.none):Inv (yg X scope x s₃ H₃ fp pins) [] (Option.none::σ) H₃ { s₃ with heap:=h₁,toks:=tk }:=by
 refine⟨zdg S I hf hlt,rfl,I.bare,Un.kept hk,⟨_,hns,fun i y v h1 h2 h3=>?_⟩,fun y c h=>?_,I.hok.fresh (Nat.le_refl _),fun y c h=>?_,fun p hp=>?_,I.hok.kept hk,?_⟩
 ·cases i with
  |zero=>cases h2
  |succ i=>
   have h1:(wy x X.N)[i]? =some y:=h1;have h2:σ[i]? =some (some v):=h2;obtain⟨z,e1,e2⟩:=zjy h1
   have vis:scope.names.lookup y=some .local\/scope.names.lookup y=some .free:=by
    rcases h3 with q|q
    ·rcases Yj (show _=_ from q) with q|⟨z,q⟩
     ·exact .inl q
     ·cases z
    ·rcases S.kindOf q with q|⟨q,_⟩
     ·exact .inr q
     ·exfalso
      rcases e2 with ⟨_,z⟩|⟨ne,z⟩
      ·have hx:x=Zr x:=q.symm.trans z
       have hn:=S.none;rw[<-hx] at hn;rcases S.loc with w|w<;>rw[hn] at w<;>cases w
      ·exact ne (z.symm.trans q)
   rcases e2 with ⟨rfl,rfl⟩|⟨ne,rfl⟩
   ·rw[S.none] at vis
    rcases vis with q|q<;>cases q
   ·rcases vis with q|q
    ·exact KC (S.own y (Kz e1) q) ne
    ·have kx:=S.free _ (QF q) rfl
     obtain⟨m,_,hl⟩:=I.loc;obtain⟨u,ru,l⟩:=hl i y v e1 h2 (.inr kx);refine⟨u,ru,.inr ⟨?_,?_⟩⟩
     ·rcases h3 with q'|q'
      ·rcases Yj (show _=_ from q') with q'|⟨z,_⟩
       ·rw[q] at q';cases q'
       ·cases z
      ·exact q'
     ·rcases l with ⟨k,_⟩|⟨_,c,hc,hcell'⟩
      ·have k:X.env.scope.names.lookup y=some .local:=k
       rcases kx with z|z
       ·have z:X.env.scope.names.lookup y=some .cell:=z
        rw[z] at k;cases k
       ·have z:X.env.scope.names.lookup y=some .free:=z
        rw[z] at k;cases k
      ·obtain⟨c',hc',hc2⟩:=S.has (s₃:=s₃) (H₃:=H₃) (fp:=fp) (pins:=pins) q
       have e:X.env.cells.lookup y=some c':=by
        rcases QE (S.cells I.ok) hc2 with q|q
        ·cases q
        ·exact q
       rw[hc] at e;cases e;obtain⟨o,ho,hd⟩:=hcell';exact⟨c,hc',o,hk _ _ ho,hd⟩
 ·rcases S.look I.ok h with ⟨_,q,e⟩|⟨_,q⟩
  ·rw[e];exact⟨Option.none,vv q⟩
  ·obtain⟨v,o,ho,hd⟩:=I.cell y c q
   exact⟨v,o,hk _ _ ho,hd⟩
 ·rcases S.look I.ok h with ⟨_,q,e⟩|⟨_,q⟩
  ·rw[e];exact I.hok.fresh (Kj _)
  ·exact I.freeC y c q
 ·have hp:p∈X.pn++pins:=by simpa [yg] using hp
  obtain⟨e,n,ne,nf,d⟩:=I.pin p hp;refine⟨hk _ _ e,n,Kh (Kk e),fun z=>?_,d⟩;rcases List.mem_cons.mp (I.stkSub _ z) with q|q
  ·exact ne q
  ·exact nf q
 ·show σ.length+1=(x::wy x X.N).length
  unfold wy;rw[List.length_cons,List.length_map,I.len]
theorem gG{s':Shared}{h':Heap}{H':Hp}{σ':St}{ps:List (Addr×Obj)}(I:Inv X pins σ H₃ s₃)(hf: ∀b∈fp,xL X pins H₃ b)(J:Inv (yg X scope x s₃ H₃ fp pins) ps σ' H' s')(hs:Heap.SameBut s₃.heap.objs.size s'.heap h'):
  Inv X pins σ H' { s' with heap:=h' }:=by
 have ne: ∀b o,s₃.heap.get? b=some o->b≠s₃.heap.objs.size:=fun b o e=>Kh (Kk e)
 have fr:H' s₃.heap.objs.size=Option.none:=J.free;have same: ∀b,b≠s₃.heap.objs.size->h'.get? b=s'.heap.get? b:=fun b hb=>hs.2 b hb
 refine I.call' (s':={ s' with heap:=h' }) (ch:=fp) J.os ⟨fun b o e n hb hx=>?_,fun b o e n hb hx=>?_,fun b o e n hx=>J.base.free b o e n hx,fun b o e hx=>?_,J.base.tups,J.base.frzs,J.base.tbls⟩ (fun b o e=>?_) J.bare fun b hb=>?_
 ·exact (same b (ne b o e)).trans (J.base.keep b o e n hb hx)
 ·obtain⟨sl,q⟩:=J.base.slot b o e n hb hx
  exact⟨sl,(same b (ne b o e)).trans q⟩
 ·obtain⟨o',q⟩:=J.base.there b o e hx
  exact⟨o',(same b (ne b o e)).trans q⟩
 ·refine (J.hok b o e).stay (fun c v hc q=>(same c ?_).trans q) (fun _ q=>q) fun _ _ q=>q
  intro z;rcases hc with w|w
  ·rw[<-w,z,fr] at e;cases e
  ·rw[z,fr] at w;cases w
 ·obtain⟨_,h1,_,h3,h4,h5⟩:=hf b hb
  exact⟨h3,h1,h4,h5⟩
end
theorem gH{prog:Program}{w:World}{A:Around}{E:Result->Shared->Prop}{s:Shared}{elt target iter:Expr}{ifs:List Expr}{scope:Scope}{pos:Pos}{it acc:Value}{env:PySem.Env}(J:Nat->Shared->Prop)
  (turn: ∀n s,J n s->wpAny (model prog w) A (pyNext it) (fun r s1=>match r with
   |Option.none=>E (.ok .next) s1
   |some v=>wpAny (model prog w) A (letOwnedTupleGo target it v) (fun _ s2=>wpAny (model prog w) A (assign target env v) (fun _ s3=>
     wpAny (model prog w) A (forIn ifs true fun c r=>if r=true then do let ok <-isTrue c env (eval c env);pure (ForInStep.yield ok) else pure (ForInStep.yield r)) (fun ok s4=>
      if ok=true then wpAny (model prog w) A (eval elt env) (fun y s5=>wpAny (model prog w) A (call (.builtin "list.append") [acc,y]) (fun _ s6=>∃m,m<n/\J m s6) (fun _ _=>False) s5) (fun _ _=>False) s4
      else ∃m,m<n/\J m s4) (fun _ _=>False) s3) (fun _ _=>False) s2) (fun _ _=>False) s1) (fun _ _=>False) s)
  (n:Nat) (h:J n s):codeAny (model prog w) A (.compLoop (.ListComp elt [⟨target,iter,ifs,0⟩] scope pos) 0 it acc env) E s:=by
 refine codeAny_loop rfl J (fun n s hJ=>?_) n h;show wpAny _ _ ((compTurn (.ListComp elt [⟨target,iter,ifs,0⟩] scope pos) 0 it acc env).onRaise _) _ _ s;refine wpAny_noted ?_;rw[compTurn_list];have no: ∀(e:Value) (s':Shared),False->notedBy (model prog w) A env (fun e s'=>E (.error e) s') e s':=fun _ _ z=>z.elim
 refine Kb (wpAny_standAt (Kb (Kd (turn n s hJ) (fun r s1 h1=>?_) no)))
 cases r with
 |none=>exact Kc h1
 |some v=>
  refine Kb (Kd h1 (fun _ s2 h2=>?_) no);refine Kb (Kd h2 (fun _ s3 h3=>Kb (Kd h3 (fun ok s4 h4=>?_) no)) no)
  cases ok with
  |false=>exact Kc ⟨rfl,h4⟩
  |true=>exact Kb (Kb (Kd h4 (fun y s5 h5=>Kb (Kd h5 (fun _ s6 h6=>Kc (Kc ⟨rfl,h6⟩)) no)) no))
theorem R.cons{K:Ka}{W:Addr->Prop}{ρ:LW.Env}{σ:St}{H:Hp}{d:D}{v:V}(r:R K W ρ σ H)(h:Rep K W H d v):R K W (some (.val d)::ρ) (some v::σ) H:=by
 refine⟨fun i e hi=>?_,fun i e hi=>?_,fun i x e hi hc=>?_,fun i j x y d e a h1 h2 c1 c2 h3 h4=>?_,r.wf,by simpa using r.len⟩
 ·cases i with
  |zero=>cases hi;exact⟨v,rfl,h⟩
  |succ i=>exact r.val i e hi
 ·cases i with
  |zero=>cases hi
  |succ i=>exact r.nol i e hi
 ·cases i with
  |zero=>cases hi;cases hc
  |succ i=>exact r.own i x e hi hc
 ·cases i with
  |zero=>cases h1;cases c1
  |succ i=>
   cases j with
   |zero=>cases h2;cases c2
   |succ j=>rw[r.inj i j x y d e a h1 h2 c1 c2 h3 h4]
noncomputable def QG(X:Cx)(fn:Nat->List D->Option SV)(scope:Scope)(x:Str)(ifs:List Expr)(cond:E):Prop:=
 (ifs=[]/\cond= .bl true)\/∃c,ifs=[c]/\∀s₃ H₃ fp pins,IT (yg X scope x s₃ H₃ fp pins) fn c cond
section
variable {X:Cx} {fn:Nat->List D->Option SV}
theorem zjz{scope:Scope}{x:Str}{ifs:List Expr}{cond:E}{s₃:Shared}{H₃:Hp}{fp:List Addr}{pins ps:List (Addr×Obj)}{σ:St}{H:Hp}{s:Shared}{W:Addr->Prop}{ρ:LW.Env}{k:Bool}{Q:Bool->Hp->Prop}
  (hc:QG X fn scope x ifs cond) (I:Inv (yg X scope x s₃ H₃ fp pins) ps σ H s) (hR:R X.K W ρ σ H) (he:zA fn cond ρ=some k) (q: ∀H',Same H H'->Q k H'):
  wpAny (model X.prog X.w) X.A (forIn ifs true fun c r=>if r=true then do let ok <-isTrue c (yg X scope x s₃ H₃ fp pins).env (eval c (yg X scope x s₃ H₃ fp pins).env);pure (ForInStep.yield ok) else pure (ForInStep.yield r))
   (TP (yg X scope x s₃ H₃ fp pins) ps σ Q) (fun _ _=>False) s:=by
 rcases hc with ⟨rfl,rfl⟩|⟨c,rfl,hc⟩
 ·simp only[ziP] at he
  cases he;exact wpAny_tests_nil ⟨H,I,q H (.refl H)⟩
 ·exact wpAny_tests_one ((hc s₃ H₃ fp pins).h ps s σ H Q I ⟨W,ρ,k,hR,he,q⟩)
theorem QH{test:D->Option Bool}{elt:D->Option SV}: ∀{ds out:List D},yY test elt ds=some out->out.length<=ds.length
 |[],_,h=>by simp only[yY] at h;cases h;exact Nat.le_refl _
 |d::r,out,h=>by
  simp only[yY,jo1] at h;obtain⟨b,e1,e2⟩:=h
  cases b with
  |true=>
   simp only[jo1,jo2] at e2;obtain⟨_,_,_,_,l,e3,rfl⟩:=e2;have:=QH e3;simp;omega
  |false=>have:=QH e2;simp;omega
theorem gI{scope:Scope}{x:Str}{s₃:Shared}{H₃ H':Hp}{fp:List Addr}{pins:List (Addr×Obj)}{σ:St}(S:CompSc X scope x)(I:Inv X pins σ H₃ s₃)(hf: ∀b∈fp,xL X pins H₃ b)(hlt: ∀b∈fp,b<s₃.heap.objs.size)
  (hn: ∀b∈fp,H' b=Option.none): ∀b∈fp,xL (yg X scope x s₃ H₃ fp pins) [] H' b:=fun b hb=>by
 have ok:=zdg S I hf hlt;refine⟨hn b hb,(ok.exf b hb).1,ok.exfs b hb,.inl hb,(ok.exf b hb).2,fun p hp=>?_⟩;have hp:p∈X.pn++pins:=by simpa [yg] using hp
 exact (hf b hb).2.2.2.2.2 p hp
structure CSt (X:Cx)(scope:Scope)(x:Str)(s₃:Shared)(H₃:Hp)(fp:List Addr)(pins:List (Addr×Obj))(σ:St)(tn:Nat->Heap->Prop)(H2:Hp)(W:Addr->Prop)(L:Addr)(test:D->Option Bool)(elt:D->Option SV)(ds out:List D)
  (n k:Nat) (y:Option V) (H':Hp) (ys:List V) (out1 zO:List D) (s':Shared):Prop where
 inv:Inv (yg X scope x s₃ H₃ fp pins) [] (y::σ) H' s'
 htn:tn k s'.heap
 hfp: ∀b∈fp,H' b=Option.none
 hn:n=ds.length+1-k
 hk:k<=ds.length
 same:Same H2 H'
 lst:H' L=some (.lst ys)
 reps:Reps X.K (add W L) H' out1 ys
 hrest:yY test elt (ds.drop k)=some zO
 hout:out=out1++zO
theorem zdh{iter elt:Expr}{x:Str}{px pos pos2:Pos}{ifs:List Expr}{scope:Scope}{rng:Bool}{src:Es}{cond ce:E}{pins:List (Addr×Obj)}{s:Shared}{σ:St}{H:Hp}{W:Addr->Prop}{ρ:LW.Env}{rs:List SV}{ds out:List D}{use:Option (Value->Sem Unit)}{Qe:Value->Shared->Prop}
  (hcalm:X.calm=true) (S:CompSc X scope x) (hsrc:Src X fn (.Name x px) iter rng src)
  (hcond:QG X fn scope x ifs cond) (helt: ∀s₃ H₃ fp pins,IE (yg X scope x s₃ H₃ fp pins) fn elt ce) (hfo: ∀y,foldedSetIterable iter X.env y=pure y) (I:Inv X pins σ H s) (hR:R X.K W ρ σ H)
  (e1:yj fn src ρ=some rs) (e2:yy rng rs=some ds) (hline:ds.length<=line) (e3:yY (fun d=>zA fn cond (some (.val d)::ρ)) (fun d=>zo fn ce (some (.val d)::ρ)) ds=some out)
  (fin: ∀(s4:Shared) (fl:Flow) (m:Str->Option Value) (C L:Addr) (H':Hp),s4.heap.Ns C m->(∀h',Heap.SameBut C s4.heap h'->Inv X pins σ H' { s4 with heap:=h' })->(X.s₀.heap.objs.size<=C/\C≠X.env.locals/\(∀y c,X.env.cells.lookup y=some c->c≠C)/\(∀p∈X.pn++pins,p.1≠C)/\H' C=Option.none)->Same H H'->
   Res X.K W H H' (.obj true (.lst out)) (.ref L)->compPost (model X.prog X.w) X.A X.xe use Qe (.ref L) C (.ok fl) s4):
  wpAny (model X.prog X.w) X.A (comprehension (.ListComp elt [⟨.Name x px,iter,ifs,0⟩] scope pos) scope X.env pos2 (newList []) false (eval iter X.env) use) Qe X.xe s:=by
 have hclos:=gA (scope:=scope) (env:=X.env) (S.cells I.ok);refine wpAny_comprehension_free (use:=use) rfl hfo hclos S.kind S.names ?_;refine zt (hsrc.h pins s σ H (fun J H2=>Same H H2/\Ys X.K J W H2 ds) I ⟨W,ρ,rs,ds,hR,e1,e2,fun J H' s1 y _=>⟨s1,y⟩⟩) fun v s1 h1=>zt h1 fun itv s2 h2=>?_
 obtain⟨it,fp,tn,J,H2,rfl,I2,T,st2,f2,sm,hy⟩:=h2;refine wpAny_newObj_type (gC S fun h₁ hns₁ hk₁ hc₁=>?_);have I3:=I2.lnew (t':=s2.toks) (ys:=[]) (its:=[]) .nil (Nat.zero_le _);have hD:H2 s2.heap.objs.size=Option.none:=I2.fresh;generalize hL:s2.heap.objs.size=L at hD;generalize hs3:({ s2 with heap:=s2.heap.push { cls:=.type "list",data:=.seq ([]:List Value).toArray },toks:=s2.toks }:Shared)=s₃ at I3;have hs3h:s₃.heap=s2.heap.push { cls:=.type "list",data:=.seq ([]:List Value).toArray }:=by rw[<-hs3]
 rw[hL] at I3;generalize hH3:zu H2 L (.lst [])=H₃ at I3
 have blt: ∀b∈fp,b<s2.heap.objs.size:=fun b hb=>by
  obtain⟨o,e,_⟩:=T.obj _ _ st2 b hb;exact Kk e
 have hlt: ∀b∈fp,b<s₃.heap.objs.size:=fun b hb=>by rw[hs3h,Heap.size_push];exact KD (blt b hb)
 have hf: ∀b∈fp,xL X pins H₃ b:=fun b hb=>by
  refine⟨?_,(f2 b hb).2⟩;rw[<-hH3,zy (by rw[<-hL];exact Kh (blt b hb))];exact (f2 b hb).1
 have keep1: ∀b o,s₃.heap.get? b=some o->h₁.get? b=some o:=fun b o e=>by
  rw[hs3h] at e;exact hk₁ b o e
 have ns1:h₁.Ns s₃.heap.objs.size fun _=>Option.none:=by rw[hs3h];exact hns₁
 have Ic:=gF (tk:=s2.toks) S I3 hf hlt ns1 keep1 (by rw[hs3h];exact hc₁);have fpc:=fun {H':Hp} hn=>gI (H':=H') S I3 hf hlt hn
 have win: ∀b,add W L b->W b\/H2 b=Option.none:=fun b w=>by
  rcases w with w|rfl
  ·exact .inl w
  ·exact .inr hD
 have hRL: ∀{H':Hp} {ys:List V},Same H2 H'->H' L=some (.lst ys)->R X.K (add W L) ρ σ H':=fun {H' ys} sm' e=>(hR.same sm).add sm' hD e
 have lenO:out.length<=ds.length:=QH e3
 have loop: ∀s':Shared,s'={ s₃ with heap:=h₁,toks:=s2.toks }->codeAny (model X.prog X.w) X.A (.compLoop (.ListComp elt [⟨.Name x px,iter,ifs,0⟩] scope pos) 0 (.ref it) (.ref L) (yg X scope x s₃ H₃ fp pins).env)
   (compPost (model X.prog X.w) X.A X.xe use Qe (.ref L) s₃.heap.objs.size) s':=by
  rintro s' rfl
  refine gH (fun n s'=>∃k y H' ys out1 zO,CSt X scope x s₃ H₃ fp pins σ tn H2 W L (fun d=>zA fn cond (some (.val d)::ρ)) (fun d=>zo fn ce (some (.val d)::ρ)) ds out n k y H' ys out1 zO s') ?_ (ds.length+1)
   ⟨0,Option.none,H₃,[],[],out,Ic,T.keep _ _ _ st2 (fun b hb o e=>keep1 b o (by rw[hs3h];exact Kl _ e)),fun b hb=>(hf b hb).1,rfl,Nat.zero_le _,by rw[<-hH3];exact yP hD _,by rw[<-hH3];exact yn,.nil,e3,rfl⟩
  rintro n s' ⟨k,y,H',ys,out1,zO,c⟩;obtain⟨hstop,hgo⟩:=hy (add W L) H' c.same win k;by_cases hk:k<ds.length
  ·have hd:ds[k]? =some ds[k]:=by simp[hk]
   obtain⟨g1,g2⟩:=hgo _ hd;have crest:=c.hrest;rw[gy hd] at crest;simp only[yY,jo1] at crest;obtain⟨b,t1,t2⟩:=crest;refine zt (T.item (yg X scope x s₃ H₃ fp pins) rfl rfl rfl hcalm k [] s' (y::σ) H' _ c.inv (fpc c.hfp) c.htn g1) fun r s4 ⟨u,hr,h4⟩=>?_
   subst hr;refine zt h4 fun _ s5 ⟨xv,H5,I5,r5,y5,st5,fr5⟩=>?_
   obtain⟨rfl,rv⟩:=g2 xv H5 y5;have I5':=I5.pinned (fpc fr5) (T.obj _ _ st5);refine zt (vY (X:=yg X scope x s₃ H₃ fp pins) (i:=0) S.nd rfl S.locX S.fnX _ s5 (y::σ) H5 xv u (fun σ' H'=>σ'=some xv::σ/\H'=H5) I5' r5 ⟨rfl,rfl⟩) fun _ s6 ⟨σ6,H6,I6,q6,q7⟩=>?_
   subst q6 q7;have hRc:=(hRL c.same c.lst).cons rv;refine zt (zjz (Q:=fun b' H7=>b'=b/\Same H6 H7) hcond I6 hRc t1 fun H7 s7=>⟨rfl,s7⟩) fun ok s7 ⟨H7,I7,q7,m7⟩=>?_
   subst q7
   have back: ∀{s':Shared} {H':Hp},Inv (yg X scope x s₃ H₃ fp pins) ([]++Zh fp s5.heap) (some xv::σ) H' s'->tn (k+1) s'.heap/\∀b∈fp,H' b=Option.none:=fun {s' H'} J=>by
    refine⟨T.keep _ _ _ st5 fun b hb o e=>(J.pin (b,o) (Ko _ (Ko _ (jx hb e)))).1,fun b hb=>?_⟩;obtain⟨o,e,d⟩:=T.obj _ _ st5 b hb;exact (J.pin (b,o) (Ko _ (Ko _ (jx hb e)))).2.1
   cases ok with
   |false=>
    rw[if_neg Km];have bk:=back I7;exact⟨_,by have:=c.hn;omega,k+1,some xv,H7,ys,out1,zO,I7.unpinned,bk.1,bk.2,rfl,hk,c.same.trans m7,m7 _ _ c.lst,c.reps.ext (.same m7),t2,c.hout⟩
   |true=>
    rw[if_pos rfl];simp only[jo1,jo2] at t2;obtain⟨r8,t3,d8,t4,rest',t5,rfl⟩:=t2;have hR7:=hRc.same m7;refine zt ((helt s₃ H₃ fp pins).h _ s7 _ H7 (fun v H8=>Same H7 H8/\Rep X.K (add W L) H8 d8 v) I7 ⟨add W L,_,r8,hR7,t3,fun v8 H8 m8 res=>⟨m8,(res.frz hR7.wf).toD t4⟩⟩) fun u8 s8 ⟨v8,H8,I8,rl8,m8,rp8⟩=>?_
    have lst8:=m8 _ _ (m7 _ _ c.lst);have lenY:=c.reps.length;have lenT:=congrArg List.length c.hout;rw[List.length_append,List.length_cons] at lenT;have le:=Yb;refine zt (JV (X:=yg X scope x s₃ H₃ fp pins) _ s8 _ H8 (.ref L) [v8] (.ref L) [u8] (fun _ H9=>H9=zu H8 L (.lst (ys++[v8]))) I8 rfl (.cons rl8 .nil) ⟨L,ys,v8,rfl,rfl,lst8,by omega,rfl⟩) fun _ s9 ⟨_,H9,I9,_,q9⟩=>?_
    subst q9;have bk:=back I9
    have ext:Ext (add W L) H8 (add W L) (zu H8 L (.lst (ys++[v8]))):=by
     refine⟨fun b o q n=>?_,fun b zs q=>?_,fun b o u q=>?_,fun b w=>.inl w⟩
     ·rw[zy (fun z=>n (.inr z))];exact q
     ·rw[zy (fun z=>by rw[z,lst8] at q;cases q)];exact q
     ·rw[zy (fun z=>by rw[z,lst8] at q;cases q)];exact q
    have smL:Same H2 (zu H8 L (.lst (ys++[v8]))):=fun b o q=>by
     rw[zy (fun z=>by rw[z,hD] at q;cases q)];exact m8 _ _ (m7 _ _ (c.same _ _ q))
    exact⟨_,by have:=c.hn;omega,k+1,some xv,_,ys++[v8],out1++[d8],rest',I9.unpinned,bk.1,bk.2,rfl,hk,smL,yn,((c.reps.ext (.same (m7.trans m8))).ext ext).append (.cons (rp8.ext ext) .nil),t5,by rw[c.hout];simp⟩
  ·have ek:k=ds.length:=by have:=c.hk;omega
   refine zt (T.done (yg X scope x s₃ H₃ fp pins) rfl rfl rfl hcalm k [] s' (y::σ) H' _ c.inv (fpc c.hfp) c.htn (hstop ek)) fun r s4 ⟨hr,I4⟩=>?_
   subst hr;obtain⟨m,hn,_⟩:=I4.loc;have er:=c.hrest;rw[List.drop_of_length_le (by omega),yY] at er;cases er;have eo:=c.hout;rw[List.append_nil] at eo;refine fin s4 _ m _ L H' hn (fun h' hs=>gG I3 hf I4 hs) ⟨I3.sz,(Kh I3.lt).symm,fun y cc hc=>?_,fun p hp=>?_,I4.free⟩ (sm.trans c.same) (by rw[eo];exact .new (sm.free hD) c.lst (.lst c.reps))
   ·obtain⟨v,o,ho,_⟩:=I3.cell y cc hc
    exact Kh (Kk ho)
   ·exact Kh (Kk (I3.pin p hp).1)
 have st0:tn 0 h₁:=T.keep _ _ _ st2 (fun b hb o e=>keep1 b o (by rw[hs3h];exact Kl _ e));subst hs3 hL;exact codeAny_compStart_list (loop _ rfl) (T.self X.A 0 _ _ _ st0 (loop _ rfl))
theorem jH{iter elt:Expr}{x:Str}{px pos:Pos}{ifs:List Expr}{scope:Scope}{rng:Bool}{src:Es}{cond ce:E}(hcalm:X.calm=true)(S:CompSc X scope x)(hsrc:Src X fn (.Name x px) iter rng src)
  (hcond:QG X fn scope x ifs cond) (helt: ∀s₃ H₃ fp pins,IE (yg X scope x s₃ H₃ fp pins) fn elt ce) (hfo: ∀y,foldedSetIterable iter X.env y=pure y:=by intro _;rfl):
  IE X fn (.ListComp elt [⟨.Name x px,iter,ifs,0⟩] scope pos) (.comp rng src cond ce):=by
 refine .mk ?_;rintro pins s σ H Q I ⟨W,ρ,r,hR,he,q⟩;simp only[zcD,jo1] at he;obtain⟨rs,e1,ds,e2,e3⟩:=he;split at e3
 case isFalse=>cases e3
 rename_i hline;rw[jo2] at e3;obtain⟨out,e3,rfl⟩:=e3;rw[eval_ListComp];refine zdh (use:=Option.none) hcalm S hsrc hcond helt hfo I hR e1 e2 hline e3 fun s4 fl m C L H' hn back _ sm res=>?_
 exact⟨m,hn,fun h' hs=>⟨.ref L,H',back h' hs,rfl,q _ H' sm res⟩⟩
theorem Vd(i:Nat){fa:Nat->List D->Option Ans}{fuel:Nat}{iter elt:Expr}{x y:Str}{px py pos spos:Pos}{ifs:List Expr}{scope:Scope}{rng:Bool}{src:Es}{cond ce:E}(hcalm:X.calm=true)(hN:X.N.Nodup)(hi:X.N[i]? =some y)(hy:X.env.scope.names.lookup y=some .local)(S:CompSc X scope x)(hsrc:Src X (zE fa) (.Name x px) iter rng src)
  (hcond:QG X (zE fa) scope x ifs cond) (helt: ∀s₃ H₃ fp pins,IE (yg X scope x s₃ H₃ fp pins) (zE fa) elt ce)
  (hsw:swapsWith (.ListComp elt [⟨.Name x px,iter,ifs,0⟩] scope pos) (some (.Name y py)) spos.line X.env=pure true:=by rfl) (hfo: ∀y,foldedSetIterable iter X.env y=pure y:=by intro _;rfl):
  IS X (zF fa fuel (.asg i (.comp rng src cond ce))) (.Assign [.Name y py] (.ListComp elt [⟨.Name x px,iter,ifs,0⟩] scope pos) spos):=by
 refine .mk ?_;rintro pins s σ H D0 I ⟨W,ρ,z,hR,hz,q⟩;simp only[zcH,jo1] at hz;obtain⟨r,he,hz⟩:=hz;split at hz
 case isTrue=>cases hz
 rename_i hl;cases hz;simp only[Bool.not_eq_true,Bool.or_eq_false_iff,Bool.not_eq_false'] at hl;simp only[zcD,jo1] at he;obtain⟨rs,e1,ds,e2,e3⟩:=he;split at e3
 case isFalse=>cases e3
 rename_i hline;rw[jo2] at e3;obtain⟨out,e3,rfl⟩:=e3;rw[exec_Assign_Name_used _ _ _ _ hsw];refine Kb (wpAny_standAt (Kb ?_));show wpAny _ X.A (do let _ <-comprehension (.ListComp elt [⟨.Name x px,iter,ifs,0⟩] scope pos) scope X.env _ (newList []) false (eval iter X.env) (some (assign (.Name y py) X.env))) _ _ s;refine Kb (Kd (zdh (use:=some (assign (.Name y py) X.env)) (Qe:=fun _ s'=>SP X pins D0 .next s') hcalm S hsrc hcond helt hfo I hR e1 e2 hline e3 fun s4 fl m C L H' hn back cf sm res=>?_) (fun _ s' hq=>Kc (Kc hq)) fun _ _ e=>e);have I4:Inv X pins σ H' s4:=back s4.heap ⟨rfl,fun _ _=>rfl⟩;refine wpAny_assign_Name (zbQ I4 hN hi (.inl hy) (v:=.ref L) rfl (fun s5 I5 ⟨a,hs5,ha⟩=>?_) (.inr hy))
 have haC:a≠C:=by
  rcases ha with rfl|ha
  ·exact fun z=>cf.2.1 z.symm
  ·exact cf.2.2.1 _ _ ha
 have hnC:s5.heap.Ns C m:=by
  obtain⟨o,es,ep,ho,hrest⟩:=hn;exact⟨o,es,ep,(hs5.2 C (Ne.symm haC)).trans ho,hrest⟩
 refine⟨m,hnC,fun h' hs=>?_⟩
 have I6:Inv X pins (σ.set i (some (.ref L))) H' { s5 with heap:=h' }:=by
  refine I5.call' (s':={ s5 with heap:=h' }) (ch:=[C]) rfl ⟨fun b o e n hb hx=>?_,fun b o e n hb hx=>?_,fun b o e n hx=>n,fun b o e hx=>?_,fun _ _ q=>q,fun _ _ _ q=>q,fun _ ps q=>⟨#[],by simpa using q⟩⟩ ?_ I5.bare fun b hb=>?_
  ·exact (hs.2 b (by simpa using hx)).trans e
  ·exact⟨o.slots,(hs.2 b (by simpa using hx)).trans e⟩
  ·exact⟨o,(hs.2 b (by simpa using hx)).trans e⟩
  ·intro b o e
   refine (I5.hok b o e).stay (fun c v hc q=>(hs.2 c ?_).trans q) (fun _ q=>q) fun _ _ q=>q
   intro z;rcases hc with w|w
   ·rw[<-w,z,cf.2.2.2.2] at e;cases e
   ·rw[z,cf.2.2.2.2] at w;cases w
  ·have e:b=C:=by simpa using hb
   subst e;exact⟨.inr cf.1,cf.2.1,cf.2.2.1,cf.2.2.2.1⟩
 cases res with
 |new h e r=>exact⟨_,H',I6,q _ _ H' (zc6 hR sm h e r (jD hl.2))⟩
end
end L2.LW
set_option maxHeartbeats 4000000
namespace L2.LW
open PySem PySem.Spec PyProof.Rows
noncomputable def Ve:Ty->String
 | .bool=>"bool"| .int=>"int"| .str=>"str"| .list=>"list"| .tuple=>"tuple"
noncomputable def zjA:D->String
 | .int _=>"int"| .bl _=>"bool"| .non=>"NoneType"| .str _=>"str"| .tup _=>"tuple"| .lst _=>"list"| .dct _ _ _=>"dict"
theorem zjB(K:Ka)(d:D)(t:Ty):PySem.W.kitOne K (.type (zjA d)) (.type (Ve t))=some (wZ t d):=by
 cases d<;>cases t<;>rfl
section
variable {X:Cx} {fn:Nat->List D->Option SV}
theorem zjC{pins:List (Addr×Obj)}{σ:St}{H:Hp}{s:Shared}{W:Addr->Prop}{A:Around}{E Q:Value->Shared->Prop}{d:D}{x:V}{u:Value}{t:Ty}(I:Inv X pins σ H s)(h:Sees X.K W H d x)(r:RelV x u)
  (q: ∀tk,Q (.bool (wZ t d)) { s with toks:=tk }):wpAny (model X.prog X.w) A (call (.builtin "isinstance") [u,.type (Ve t)]) Q E s:=by
 have e:=zjB X.K d t
 cases d with
 |int i=>cases h.int;obtain⟨tk,rfl⟩:=r;exact PySem.W.kia_one PySem.W.kitx_int I.kIn True.intro e (fun z=>nomatch z) q
 |bl b=>cases h.bl;cases r;exact PySem.W.kia_one PySem.W.kitx_bool I.kIn True.intro e (fun z=>nomatch z) q
 |non=>cases h.non;cases r;exact PySem.W.kia_one PySem.W.kitx_none I.kIn True.intro e (fun z=>nomatch z) q
 |str y=>cases h.str;obtain⟨tk,rfl⟩:=r;exact PySem.W.kia_one PySem.W.kitx_str I.kIn True.intro e (fun z=>nomatch z) q
 |tup l=>
  obtain⟨a,xs,rfl,hq,_⟩:=h.tup;cases r;obtain⟨its,rv,⟨o,ho,hc,n,hd⟩,hz⟩:=I.tuple hq;exact PySem.W.kia_one PySem.W.kitx_tuple I.kIn ⟨o,ho,hc⟩ e (fun z=>nomatch z) q
 |lst l=>
  obtain⟨a,xs,rfl,hq,_⟩:=h.lst;cases r;obtain⟨its,rv,⟨o,n,ho,hc,_,hd⟩,hz⟩:=I.list hq;exact PySem.W.kia_one PySem.W.kitx_list I.kIn ⟨o,ho,hc⟩ e (fun z=>nomatch z) q
 |dct b ks vs=>
  cases b with
  |false=>
   obtain⟨a,ns,ys,rfl,_,hH,_⟩:=h.dK;cases r;obtain⟨_,_,vs,_,ob,_,_,h1,h2,_⟩:=jy I.hok hH;exact PySem.W.kia_one PySem.W.kitx_dict I.kIn ⟨ob,h1,h2.1⟩ e (fun z=>nomatch z) q
  |true=>
   obtain⟨a,ns,ys,rfl,_,hH,_⟩:=h.dT;cases r;obtain⟨_,_,xs,_,ob,_,_,h1,h2,_⟩:=jz I.hok (.inl hH);exact PySem.W.kia_one PySem.W.kitx_dict I.kIn ⟨ob,h1,h2.1⟩ e (fun z=>nomatch z) q
theorem zjD(t:Ty):xk X (.builtin "isinstance") (fun xs H Q=>∃x,xs=[x,.ty (Ve t)]/\VR X.K (zg (.inst t)) [x] H Q):=by
 rintro pins s σ H xs us Q I rv ⟨x,rfl,W,ds,r,wf,hs,hf,q⟩;obtain⟨d,rfl,h1⟩:=XM hs;replace hf:zcA t [d]=some r:=hf;cases hf;obtain⟨u,w',rfl,r1,r2⟩:=qF rv;cases r2;exact zjC I h1 r1 fun tk=>⟨.bl _,H,I.tok tk,rfl,q _ H (.refl H) (.val (.bl _))⟩
theorem Yk{a:Expr}{ca:E}{t:Ty}{y:Str}{p p2 pos:Pos}(hg:Gl X "isinstance")(hm:X.mg "isinstance"=Option.none)(hg2:Gl X y)(hm2:X.mg y=Option.none)(hv:bootBuiltins y=some (.type (Ve t)))(ha:IE X fn a ca)
  (hn:y≠"__name__":=by decide) (hdb:(y==("__debug__":Str))=false:=by decide)
  (h1:starEach [a,.Name y p2] X.env=(false,eval a X.env)::starEach [.Name y p2] X.env:=by rfl) (h2:starEach [.Name y p2] X.env=(false,eval (.Name y p2) X.env)::starEach [] X.env:=by rfl)
  (hpl:(backTo pos (starEach [.Name y p2] X.env)).any (·.1)=false:=by rfl):
  IE X fn (.Call (.Name "isinstance" p) [a,.Name y p2] [] pos) (.prim (.inst t) (.cons ca .nil)):=
 .mk <| (qH (zjD t) hg hm PyProof.Rows.boot_isinstance (xX ha.v (xX (zgN hg2 hm2 hv (v:=.ty (Ve t)) rfl hn hdb) wL h2) h1) (by decide) (by decide) h1 hpl).imp fun σ H Q zz3=>by
  obtain⟨W,ρ,r,hR,he,q⟩:=zz3;simp only[vg,xY,xZ,jo1,jo2] at he;obtain⟨rs,⟨r1,e1,rs',e3,rfl⟩,e4⟩:=he;cases e3;exact⟨W,ρ,r1,hR,e1,fun v1 H1 s1 f1=>⟨v1,rfl,XR hR s1 (.cons f1 .nil) e4 q⟩⟩
theorem zjE{K:Ka}{W:Addr->Prop}{H:Hp}{d:D}{v:V}(h:Sees K W H d v):decide (v= .non)=vc d:=by
 cases d with
 |int i=>cases h.int;rfl
 |bl i=>cases h.bl;rfl
 |str i=>cases h.str;rfl
 |non=>cases h.non;rfl
 |tup l=>obtain⟨a,xs,rfl,_⟩:=h.tup;rfl
 |lst l=>obtain⟨a,xs,rfl,_⟩:=h.lst;rfl
 |dct b ks vs=>
  cases b with
  |false=>obtain⟨a,ns,ys,rfl,_⟩:=h.dK;rfl
  |true=>obtain⟨a,ns,ys,rfl,_⟩:=h.dT;rfl
theorem zdi{a:Expr}{ca:E}{j:Nat}{p pos:Pos}(ha:IE X fn a ca):IT X fn (.Compare a [.IsNot] [.Constant .none j p] pos) (.prim .notN (.cons ca .nil)):=
 .mk <| (zgR (zgQ ha.v)).imp fun σ H Q zz3=>by
  obtain⟨W,ρ,k,hR,he,q⟩:=zz3;simp only[qV,xY,xZ,jo1,jo2] at he;obtain⟨rs,⟨r1,e1,rs',e3,rfl⟩,r2,e4,e5⟩:=he;cases e3;cases e4;cases e5;refine⟨W,ρ,r1,hR,e1,fun v1 H1 s1 f1=>⟨_,rfl,?_⟩⟩;rw[zjE f1.sees];exact q H1 s1
theorem zdj(l:List Int):(ZV l).Perm l:=List.mergeSort_perm _ _
theorem zjF(l:List Int):(ZV l).Pairwise (· <= ·):=by
 have h:=List.pairwise_mergeSort (le:=fun (a b:Int)=>decide (a<=b)) (fun a b c h1 h2=>by simp at*;omega) (fun a b=>by simp;omega) l;exact h.imp fun h=>by simpa using h
theorem zjG{ds:List D}{ns:List Int}{pins:List (Addr×Obj)}{s:Shared}{σ:St}{H:Hp}{xs:List V}{us:List Value}{Q:VK}(I:Inv X pins σ H s)(rv:Vals xs us)
  {W:Addr->Prop} {l:List D} (hs:Paired (Sees X.K W H) [.lst l] xs) (e1:ints? l=some ns) (h64:ns.length<64) (q: ∀v H',Same H H'->Res X.K W H H' (.obj true (.lst ((ZV ns).map .int))) v->Q v H'):
  wpAny (model X.prog X.w) X.A (call (.builtin "sorted") us) (EP X pins σ Q) X.xe s:=by
 cases hs with
 |cons h1 t=>
  cases t;obtain⟨p,ys,rfl,hp,rp⟩:=h1.lst;have ey:=rp.ofInts e1;subst ey;obtain⟨u,rfl,ru⟩:=wz rv;cases ru;obtain⟨its,rv',pl,hz⟩:=I.list hp;have hi:=vZ rv';have hlen:=rv'.length;rw[List.length_map] at hlen;refine sorted_ints pl.isList hi (by omega) fun out ns' a1 a2 a3=>?_
  have en:ns'=ZV ns:=PySem.W.ksm_same (a2.trans (zdj ns).symm) a3 (zjF ns);subst en;obtain⟨e,he⟩:=sortedAll_at s.heap its out;have hl2:=(zdj ns).length_eq;have fr:H (s.heap.objs.size+1)=Option.none:=I.hok.fresh (Kj _);refine⟨.ref (s.heap.objs.size+1),zu H (s.heap.objs.size+1) (.lst ((ZV ns).map V.int)),I.laid (t':=s.toks) (fun _ _=>sortedAll_old) (Kj _) ⟨?_,out.toList,e,qK a1,?_⟩,rfl,q _ _ (yP fr _) (ZZ fr (.ints _))⟩
  ·rw[List.length_map];exact Nat.le_of_lt (Xo (by omega))
  ·simpa [seqObj] using he
theorem zdk{K:Ka}{W:Addr->Prop}{H:Hp}: ∀{ds:List D} {xs:List V} {bs:List Bool},Reps K W H ds xs->bools? ds=some bs->xs=bs.map V.bl
 |_,_,bs,.nil,e=>by simp[bools?] at e;subst e;rfl
 |_,_,bs,.cons h t,e=>by
  cases h with
  |bl i=>
   simp only[bools?,jo2] at e;obtain⟨ms,e1,rfl⟩:=e;rw[zdk t e1];rfl
  |_=>simp[bools?] at e
theorem zdl: ∀{bs:List Bool} {us:List Value},Vals (bs.map V.bl) us->us=bs.map Value.bool
 |[],us,r=>by cases r;rfl
 |b::bs,us,r=>by
  cases r with
  |cons h t=>cases h;rw[zdl t];rfl
theorem zjH(bs:List Bool):((List.range bs.length).all fun i=>bs.getD i true)=bs.all id:=by
 induction bs with
 |nil=>rfl
 |cons b r ih=>
  rw[List.length_cons,List.range_succ_eq_map,List.all_cons,List.all_map,List.all_cons];simp only[Function.comp_def,List.getD_cons_succ,List.getD_cons_zero];rw[ih];rfl
theorem zdm(hc:X.calm=true):xk X (.builtin "all") (VR X.K (zg .all)):=by
 rintro pins s σ H xs us Q I rv ⟨W,ds,r,wf,hs,hf,q⟩;replace hf:Qg ds=some r:=hf;unfold Qg at hf;split at hf
 ·rename_i l
  rw[jo1] at hf;obtain⟨bs,e1,hf⟩:=hf;cases hf
  cases hs with
  |cons h1 t=>
   cases t;obtain⟨p,ys,rfl,hp,rp⟩:=h1.lst;have ey:=zdk rp e1;subst ey;obtain⟨u,rfl,ru⟩:=wz rv;cases ru;obtain⟨its,rv',pl,hz⟩:=I.list hp;have ei:=zdl rv';subst ei;obtain⟨o,n,ho,hcl,hdi,hda⟩:=id pl;have hne:p≠s.heap.objs.size:=Kh (Kk ho);refine call_all_walk (wpAny_pyIter_list pl.isList ?_);refine⟨s.heap.objs.size,_,_,_,_,_,fun i=>bs.getD i true,rfl,Walks.list (A:=X.A.in1) (I.ok.hd hc) s.heap.objs.size p hne (bs.map Value.bool).toArray,⟨⟨_,Heap.get?_push_size _ rfl,rfl,rfl⟩,⟨o,Kl _ ho,hcl,n,hda⟩⟩,?_,fun h' tk hk=>?_⟩
   ·intro i v s' Q' E' hv hQ
    have hv:(bs.map Value.bool).toArray[i]? =some v:=hv;rw[List.getElem?_toArray,List.getElem?_map,jo2] at hv;obtain⟨b,e2,rfl⟩:=hv;have e3:bs.getD i true=b:=by rw[List.getD_eq_getElem?_getD,e2];rfl
    have hQ:Q' (bs.getD i true) s':=hQ;rw[e3] at hQ;exact wpAny_truthy_bool hQ
   ·rw[List.size_toArray,List.length_map,zjH]
    refine⟨.bl _,H,I.kept (t':=tk) (fun b o' e=>?_),rfl,q _ H (.refl H) (.val (.bl _))⟩;exact hk b o' (by simpa using Kh (Kk e)) (Kl _ e)
 ·cases hf
theorem zjI(xs:List V)(k:Int)(hk:0<=k):ZQ xs Option.none (some k)=xs.take k.toNat:=by
 obtain⟨n,rfl⟩:=Int.eq_ofNat_of_zero_le hk;unfold ZQ;rw[HT.sIx_none,HT.sIx_nat,List.drop_zero,Nat.sub_zero,Int.toNat_natCast];rcases Nat.le_total n xs.length with h|h
 ·rw[Nat.min_eq_left h]
 ·rw[Nat.min_eq_right h,KL (Nat.le_refl _),KL h]
theorem zjJ{a b:Expr}{ca cb:E}{p pos:Pos}(ha:IE X fn a ca)(hb:IE X fn b cb):IE X fn (.Subscript a (.Slice Option.none (some b) Option.none p) pos) (.prim .cutTo (.cons ca (.cons cb .nil))):=
 .mk <| (zhW zh9 ha.v zhT (zhU hb.v)).imp fun σ H Q zz3=>by
  obtain⟨W,ρ,r,hR,he,q⟩:=zz3;simp only[vg,xY,xZ,jo1,jo2] at he;obtain⟨rs,⟨r1,e1,rs',⟨r2,e2,rs'',e3,rfl⟩,rfl⟩,e4⟩:=he;cases e3;refine⟨W,ρ,r1,hR,e1,fun v1 H1 s1 f1=>⟨W,ρ,r2,hR.same s1,e2,fun v2 H2 s2 f2=>?_⟩⟩;replace e4:Qh [zI r1,zI r2]=some r:=e4;unfold Qh at e4;split at e4
  ·rename_i l k z
   have h1:=(f1.same s2).sees;have h2:=f2.sees;injection z with z1 z2;injection z2 with z2 _;rw[z1] at h1;rw[z2] at h2;split at e4
   ·rename_i hk
    cases e4;obtain⟨p,xs,rfl,hp,rp⟩:=h1.lst;cases h2.int;refine⟨k,rfl,p,xs,rfl,hp,fun p' hp'=>?_⟩;rw[zjI xs k hk];have s12:=s1.trans s2;exact q _ _ (s12.trans (yP hp' _)) ((ZZ hp' (rp.take _)).back s12)
   ·cases e4
  ·cases e4
theorem zjK{scope:Scope}{env:PySem.Env}{y:Str}(h:scope.names.lookup y=some .free):xK (relabel scope env) y:=by
 unfold xK relabel
 have key: ∀(names:List (Str×NameKind)),names.lookup y=some .free->
   (names.map fun (z:Str×NameKind)=>match z with|(n,k)=>if (k==NameKind.free&&env.scope.kind== .function&&env.kindOf n==some .cell)=true then (n,NameKind.cell) else (n,k)).lookup y=some .cell\/
   (names.map fun (z:Str×NameKind)=>match z with|(n,k)=>if (k==NameKind.free&&env.scope.kind== .function&&env.kindOf n==some .cell)=true then (n,NameKind.cell) else (n,k)).lookup y=some .free:=by
  intro names
  induction names with
  |nil=>intro h;cases h
  |cons z r ih=>
   obtain⟨n,j⟩:=z;intro h;rw[List.lookup_cons] at h;rw[List.map_cons,List.lookup_cons];by_cases hc:(j==NameKind.free&&env.scope.kind== .function&&env.kindOf n==some .cell)=true
   ·simp only[hc,if_true]
    cases e:y==n with
    |true=>exact .inl rfl
    |false=>rw[e] at h;exact ih h
   ·simp only[hc,Bool.false_eq_true,if_false]
    cases e:y==n with
    |true=>rw[e] at h;exact .inr h
    |false=>rw[e] at h;exact ih h
 exact .inr (key scope.names h)
theorem zjL{scope:Scope}{env:PySem.Env}{y:Str}(h:scope.names.lookup y=some .local):xK (relabel scope env) y:=.inl (lookup_relabel_local h)
theorem jI{scope:Scope}{env:PySem.Env}{y:Str}(h:scope.names.lookup y=some .globalImplicit):(relabel scope env).names.lookup y=some .globalImplicit:=by
 unfold relabel
 have key: ∀(names:List (Str×NameKind)),names.lookup y=some .globalImplicit->
   (names.map fun (z:Str×NameKind)=>match z with|(n,k)=>if (k==NameKind.free&&env.scope.kind== .function&&env.kindOf n==some .cell)=true then (n,NameKind.cell) else (n,k)).lookup y=some .globalImplicit:=by
  intro names
  induction names with
  |nil=>intro h;cases h
  |cons z r ih=>
   obtain⟨n,j⟩:=z;intro h;rw[List.lookup_cons] at h;rw[List.map_cons,List.lookup_cons];by_cases hc:(j==NameKind.free&&env.scope.kind== .function&&env.kindOf n==some .cell)=true
   ·simp only[hc,if_true]
    cases e:y==n with
    |true=>
     rw[e] at h;have h:j= .globalImplicit:=Kn h;rw[h] at hc;simp at hc
    |false=>rw[e] at h;exact ih h
   ·simp only[hc,Bool.false_eq_true,if_false]
    cases e:y==n with
    |true=>rw[e] at h;exact h
    |false=>rw[e] at h;exact ih h
 exact key scope.names h
noncomputable def gJ(sc:Scope)(N:List Str)(scope:Scope)(x:Str):Bool:=
 decide (scope.kind= .function)&&(decide (scope.names.lookup x=some .local)||decide (scope.names.lookup x=some .cell))&&scope.names.all (fun y=> !decide (y.2= .local)||decide (scope.names.lookup y.1=some .local))&&
 decide (scope.names.filter (fun y=>y.2== .cell)=if scope.names.lookup x=some .cell then [(x,.cell)] else [])&&
 scope.names.all (fun y=> !decide (y.2= .free)||(decide (sc.names.lookup y.1=some .cell)||decide (sc.names.lookup y.1=some .free)))&&N.all (fun y=> !decide (scope.names.lookup y=some .local)||decide (y=x))&&
 decide (scope.names.lookup (Zr x)=Option.none)&&decide ((x::wy x N).Nodup)
theorem wq{scope sc:Scope}{N:List Str}{x:Str}(hs:X.env.scope=sc)(hN:X.N=N)(h:gJ sc N scope x=true):CompSc X scope x:=by
 subst hs hN;simp only[gJ,Bool.and_eq_true,decide_eq_true_eq,List.all_eq_true,Bool.or_eq_true,Bool.not_eq_true',decide_eq_false_iff_not] at h;obtain⟨⟨⟨⟨⟨⟨⟨h1,h2⟩,h3⟩,h4⟩,h5⟩,h6⟩,h7⟩,h8⟩:=h;exact⟨h1,h2,fun y hy e=>(h3 y hy).resolve_left fun z=>z e,h4,fun y hy e=>(h5 y hy).resolve_left fun z=>z e,fun y hy e=>(h6 y hy).resolve_left fun z=>z e,h7,h8⟩
end
end L2.LW
set_option maxHeartbeats 4000000
namespace L2.LW
open PySem PySem.Spec PyProof.Rows
section
variable {Pg:Program} {w:World} {K:Ka} {mg:Str->Option Value} {base:Heap} {f:Addr} {fd:FuncData} {ps:List Str} {P:Nat->Option Fn} {fuel i n k:Nat}
theorem zdn{io:List Nat}(h: ∀ds,zC P fuel n i ds=Option.none):FnOk Pg w K mg base yE k f fd ps (wx K (zC P fuel n) i io):=by
 have no: ∀vs H Q E,¬wx K (zC P fuel n) i io vs H Q E:=fun vs H Q E zz4=>by
  obtain⟨W,ds,r,outs,_,_,e,_⟩:=zz4;rw[h ds] at e;cases e
 exact⟨fun vs H Q E z=>KC z (no vs H Q E),fun A outer s H args us vs Q E _ _ _ _ z=>KC z (no vs H Q E)⟩
theorem zjM{io:List Nat}:FnOk Pg w K mg base yE k f fd ps (wx K (zC P fuel 0) i io):=zdn fun _=>rfl
theorem yt{io:List Nat}(h:P i=Option.none):FnOk Pg w K mg base yE k f fd ps (wx K (zC P fuel (n+1)) i io):=zdn fun ds=>by rw[zC,h];rfl
theorem zjN{H:Hp}{a:Addr}{ns:List Int}{E:XK}(h:zv P fuel n i [.lst (ns.map D.int)]=some (.val (.bl true)))(hS:SqL K H a (ns.map V.int)):wx K (zC P fuel n) i [] [.ref a] H (fun v _=>v= .bl true) E:=by
 refine⟨fun _=>False,[.lst (ns.map D.int)],.val (.bl true),[],fun _ z=>z.elim,(Reps.cons (.lst ?_ (.ints ns)) .nil).get',zc3 h,fun v H' _ _ r=>?_⟩
 ·rcases hS with hS|hS
  ·exact .inl ⟨fun z=>z,hS⟩
  ·exact .inr hS
 ·cases r with
  |val r=>cases r;rfl
end
end L2.LW
set_option maxHeartbeats 4000000
namespace L2.LW
open PySem PySem.Spec PyProof.Rows
noncomputable def zjO(tk tv:TE):TE:=fun σ H Q=>∀p,H p=Option.none->tk σ (zu H p (.dT [])) fun x H1=>tv σ H1 fun y H2=>H2 p=some (.dT [])/\∃b ks,x= .ref b/\H2 b=some (.tup (ks.map kV))/\Q (.ref p) (zu H2 p (.dT [(ks,y)]))
theorem zjP{X:Cx}{pos:Pos}{k v:Expr}{tk tv:TE}(hu:X.A.units+64<cLine)(hk:PE X k tk)(hv:PE X v tv):PE X (.Dict [some k] [v] pos) (zjO tk tv):=by
 intro pins s σ H Q I q;have hn:=I.hok.fresh (Nat.le_refl s.heap.objs.size);have I1:=I.laid (a:=s.heap.objs.size) (o:=.dT []) (h':=s.heap.push { cls:=.type "dict",data:=.dict #[] }) (t':=s.toks) (fun _ _ q=>Kl _ q) (Nat.le_refl _) (zcv s.heap I.big);refine wpAny_Dict_any rfl rfl (by simp) (by simp) (pairTrees_cons_walk (zt (hk pins _ σ _ _ I1 (q _ hn)) fun u s1 ⟨x,H1,I2,rx,q1⟩=>zt (hv pins s1 σ H1 _ I2 q1) fun w2 s2 ⟨y,H2,I3,ry,e,b,ks,ex,eb,q2⟩=>pairTrees_nil_walk ?_));subst ex;cases rx;unfold storeAll;rw[List.forIn_cons];obtain⟨z,hd,xs,rel,dd⟩:=Xn I3.hok e;cases rel;refine Kb (Kb (wpAny_dictSet_heap (hsz:=by simp) (knd:=tupleKind (zY X.prog X.w)) (show X.A.units<cLine by omega) (Zi I3.hok eb) dd fun h' dd' hs=>Kc ?_));refine Kc ⟨.ref s.heap.objs.size,_,?_,rfl,q2⟩;obtain⟨q,es,ep,hq,h2,h3,h4,_,h5⟩:=dd';refine JX I3 (by rw[e];exact True.intro) hs ⟨q,hq⟩ ⟨by simp[sizeLine_eq],hd,_,((KT.put (H:=H2) (kvs:=[]) (xs:=[]) .nil ks eb ry)).keeps fun c ys ec=>?_,q,es,ep,hq,h2,h3,h4,h5⟩;rw[zy (ZK ec e (fun z=>nomatch z))];exact ec
section
variable {X:Cx} {fn:Nat->List D->Option SV} {fa:Nat->List D->Option Ans} {fuel:Nat} {a b c e:Expr} {ca cb cc ce:E} {es:List Expr} {cs:Es} {pos p:Pos} {x:Str} {st:Stmt} {sts:List Stmt} {s:S} {ss s1 s2:Ss}
theorem QI(t:Bool):IE X fn (.Dict [] [] pos) (.dnew t):=by
 cases t with
 |false=>
  refine .mk (zcw.imp fun σ H Q ⟨W,ρ,r,hR,he,q⟩=>?_);simp only[zcC] at he;cases he;exact fun p hp=>q _ _ (yP hp _) (.new hp yn (.dK (ns:=[]) (ys:=[]) rfl .nil))
 |true=>
  refine .mk (zcx.imp fun σ H Q ⟨W,ρ,r,hR,he,q⟩=>?_);simp only[zcC] at he;cases he;exact fun p hp=>q _ _ (yP hp _) (.new hp yn (.dT (ns:=[]) (ys:=[]) rfl .nil))
theorem zjQ{H H1:Hp}{p:Addr}{o o':HO}(hp:H p=Option.none)(s:Same (zu H p o) H1):Same H (zu H1 p o'):=fun b u q=>by
 rw[zy (vt q hp)];exact s b u (by rw[zy (vt q hp)];exact q)
theorem zjR(hu:X.A.units+64<cLine)(ha:IE X fn a ca)(hb:IE X fn b cb):IE X fn (.Dict [some a] [b] pos) (.done true ca cb):=
 .mk <| (zjP hu ha.v hb.v).imp fun σ H Q zz3=>by
  obtain⟨W,ρ,r,hR,he,q⟩:=zz3;simp only[ziK,jo1] at he;obtain⟨x,e1,y,e2,da,e3,db,e4,e5⟩:=he;split at e5
  ·rename_i hk
   cases e5;intro p hp;have s0:=yP hp (.dT []);have hR0:=hR.add s0 hp yn;refine⟨_,ρ,x,hR0,e1,fun v1 H1 s1 f1=>⟨_,ρ,y,hR0.same s1,e2,fun v2 H2 s2 f2=>⟨s2 _ _ (s1 _ _ yn),?_⟩⟩⟩;have r1:=(f1.same s2).toD e3;have r2:=f2.toD e4
   cases da with
   |tup l=>
    obtain⟨ms,hms⟩: ∃ms,ints? l=some ms:=by simp only[yC,Option.isSome_iff_exists] at hk;exact hk
    cases r1 with
    |tup h1 rp=>
     have z1:=rp.ofInts hms;have z2:=Zm hms;subst z1 z2;refine⟨_,ms.map Sum.inl,rfl,by rw[Yc];exact h1,q _ _ (zjQ hp (s1.trans s2)) (.new hp yn (.dT (ns:=[ms]) (ys:=[v2]) rfl (.cons ?_ .nil)))⟩;have e2p:=s2 _ _ (s1 _ _ (yn (H:=H) (a:=p) (o:=.dT [])));refine r2.ext ⟨fun b o q n=>?_,fun b ys q=>?_,fun b o u q=>?_,fun b w=>.inl w⟩
     ·rw[zy (fun z=>n (.inr z))];exact q
     ·rw[zy (fun z=>by rw[z,e2p] at q;cases q)];exact q
     ·rw[zy (fun z=>by rw[z,e2p] at q;cases q)];exact q
   |_=>simp[yC] at hk
  ·cases e5
theorem zdo(i:Int)(v:V): ∀{ns:List Int} {ys:List V},ns.length=ys.length->(yw ns ys).map (fun kv=>if kv.1=Sum.inl i then (kv.1,v) else kv)=yw ns (List.zipWith (fun n y=>if n=i then v else y) ns ys)
 |[],[],_=>rfl
 |n::ns,y::ys,h=>by
  have ih:=zdo i v (ns:=ns) (ys:=ys) (by simpa using h);show (if (Sum.inl n:zw)=Sum.inl i then ((Sum.inl n:zw),v) else (Sum.inl n,y))::(yw ns ys).map _=(Sum.inl n,if n=i then v else y)::yw ns _;rw[ih];by_cases e:n=i<;>simp[e]
theorem zdp(i:List Int)(v:V): ∀{ns:List (List Int)} {ys:List V},ns.length=ys.length->(yz ns ys).map (fun kv=>if kv.1=i.map Sum.inl then (kv.1,v) else kv)=yz ns (List.zipWith (fun n y=>if n=i then v else y) ns ys)
 |[],[],_=>rfl
 |n::ns,y::ys,h=>by
  have ih:=zdp i v (ns:=ns) (ys:=ys) (by simpa using h);show (if (n.map Sum.inl:List zw)=i.map Sum.inl then ((n.map Sum.inl:List zw),v) else (n.map Sum.inl,y))::(yz ns ys).map _=(n.map Sum.inl,if n=i then v else y)::yz ns _;rw[ih];by_cases e:n=i
  ·simp[e]
  ·have: ¬((n.map Sum.inl:List zw)=i.map Sum.inl):=fun z=>e (zcQ z)
   simp[e,this]
theorem zdq{K:Ka}{W:Addr->Prop}{H:Hp}{d:D}{v:V}(rv:Rep K W H d v)(i:Int): ∀{ns:List Int} {vs:List D} {ys:List V},Reps K W H vs ys->Reps K W H (List.zipWith (fun k' v'=>if zH k' (.int i) then d else v') (ns.map D.int) vs) (List.zipWith (fun n y=>if n=i then v else y) ns ys)
 |[],_,_,_=>by simp;exact .nil
 |n::ns,_,_,.nil=>by simp;exact .nil
 |n::ns,_,_,.cons h t=>by
  have ih:=zdq rv i (ns:=ns) t;simp only[List.map_cons,List.zipWith_cons_cons];refine .cons ?_ ih;by_cases e:n=i
  ·simp[e,zH];exact rv
  ·simp[e,zH];exact h
theorem zdr{K:Ka}{W:Addr->Prop}{H:Hp}{d:D}{v:V}(rv:Rep K W H d v)(i:List Int): ∀{ns:List (List Int)} {vs:List D} {ys:List V},Reps K W H vs ys->Reps K W H (List.zipWith (fun k' v'=>if zH k' (kT i) then d else v') (ns.map kT) vs) (List.zipWith (fun n y=>if n=i then v else y) ns ys)
 |[],_,_,_=>by simp;exact .nil
 |n::ns,_,_,.nil=>by simp;exact .nil
 |n::ns,_,_,.cons h t=>by
  have ih:=zdr rv i (ns:=ns) t;simp only[List.map_cons,List.zipWith_cons_cons];refine .cons ?_ ih;have:zH (kT n) (kT i)=decide (n=i):=by simp[kT,zH,Qn]
  rw[this];by_cases e:n=i
  ·simp[e];exact rv
  ·simp[e];exact h
theorem zjS{K:Ka}{W:Addr->Prop}{H:Hp}{ns:List Int}{ys:List V}{vs:List D}{d:D}{v:V}(h:ns.length=ys.length)(r:Reps K W H vs ys)(i:Int)(rv:Rep K W H d v):
  ORep K W H (xm false (ns.map D.int) vs (.int i) d) (.dK (xA (yw ns ys) (.inl i) v)):=by
 unfold xA xm;rw[JW,ga h];split
 ·rw[zdo i v h]
  exact .dK (by simp[h]) (zdq rv i r)
 ·have e:yw ns ys++[(Sum.inl i,v)]=yw (ns++[i]) (ys++[v]):=by
   unfold yw;rw[List.map_append,List.zip_append (by simpa using h)];rfl
  rw[e];have:=ORep.dK (K:=K) (W:=W) (H:=H) (ns:=ns++[i]) (ys:=ys++[v]) (by simp[h]) (r.append (.cons rv .nil));rw[List.map_append] at this;exact this
theorem zds{K:Ka}{W:Addr->Prop}{H:Hp}{ns:List (List Int)}{ys:List V}{vs:List D}{d:D}{v:V}(h:ns.length=ys.length)(r:Reps K W H vs ys)(i:List Int)(rv:Rep K W H d v):
  ORep K W H (xm true (ns.map kT) vs (kT i) d) (.dT (xA (yz ns ys) (i.map Sum.inl) v)):=by
 unfold xA xm;rw[JW,gb h];split
 ·rw[zdp i v h]
  exact .dT (by simp[h]) (zdr rv i r)
 ·have e:yz ns ys++[(i.map Sum.inl,v)]=yz (ns++[i]) (ys++[v]):=by
   unfold yz;rw[List.map_append,List.zip_append (by simpa using h)];rfl
  rw[e];have:=ORep.dT (K:=K) (W:=W) (H:=H) (ns:=ns++[i]) (ys:=ys++[v]) (by simp[h]) (r.append (.cons rv .nil));rw[List.map_append] at this;exact this
theorem zdt{ns:List Int}{ys:List V}(h:ns.length=ys.length):(yw ns ys).length=ns.length:=by simp[yw,h]
theorem gK{ns:List (List Int)}{ys:List V}(h:ns.length=ys.length):(yz ns ys).length=ns.length:=by simp[yz,h]
theorem Ym(i:Nat){pos':Pos}(hu:X.A.units+64<cLine)(hN:X.N[i]? =some x)(hv:xK X.env.scope x)(ha:IE X (zE fa) a ca)(hb:IE X (zE fa) b cb)(hd:(x==("__debug__":Str))=false)(hcd:(x==("__classdict__":Str))=false)
  (hs:swapsWith b (some (.Subscript (.Name x p) a pos')) pos.line X.env=pure false:=by rfl):IS X (zF fa fuel (.dset i ca cb)) (.Assign [.Subscript (.Name x p) a pos'] b pos):=
 .mk <| (zik (by omega) (wK hN hv hd hcd) ha.v hb.v hs).imp fun D0 σ H zz3=>by
  obtain⟨W,ρ,y,hR,hy,q⟩:=zz3;simp only[zcK] at hy;split at hy
  ·rename_i x h
   split at hy
   ·rename_i t ks vs hc
    simp only[jo1] at hy;obtain⟨r,e1,d,e2,r',e3,d',e4,e5⟩:=hy;split at e5
    ·rename_i hk
     cases e5;rw[Bool.and_eq_true,decide_eq_true_iff] at hk;refine⟨W,ρ,r,hR,e1,fun v H1 s1 f1=>?_⟩;have hR1:=hR.same s1;obtain⟨a,o,h1,h2,h3,h4⟩:=hR1.own i _ _ h hc;refine⟨_,h1,W,ρ,r',hR1,e3,fun v2 H2 s2 f2=>?_⟩;have rv:=(f1.same s2).toD e2;have rk:=f2.toD e4;have le:=Yb
     cases h4 with
     |dK l rp=>
      rename_i ns ys
      cases d' with
      |int n=>
       cases rk;refine⟨a,_,rfl,DPut.k (k:=.inl n) (s2 _ _ h3) (by rw[zdt l];simp at hk;omega),q W σ _ (QA hR h hc h1 (s1.trans s2) (s2 _ _ h3) ⟨fun _ z=>(nomatch z),fun _ _ z=>(nomatch z)⟩ (zjS l (rp.ext (.same s2)) n rv))⟩
      |_=>simp[yC] at hk
     |dT l rp=>
      rename_i ns ys
      cases d' with
      |tup kl=>
       obtain⟨ms,hms⟩: ∃ms,ints? kl=some ms:=by have:=hk.1;simp only[yC,Option.isSome_iff_exists] at this;exact this
       cases rk with
       |tup hb rpb=>
       have z1:=rpb.ofInts hms;have z2:=Zm hms;subst z1 z2;refine⟨a,_,rfl,DPut.t (k:=ms.map Sum.inl) (s2 _ _ h3) (by rw[hb,Yc]) (by rw[gK l];simp at hk;omega),q W σ _ (QA hR h hc h1 (s1.trans s2) (s2 _ _ h3) ⟨fun _ z=>(nomatch z),fun _ _ z=>(nomatch z)⟩ (zds l (rp.ext (.same s2)) ms rv))⟩
      |_=>simp[yC] at hk
    ·cases e5
   ·cases hy
  ·cases hy
end
end L2.LW
set_option maxHeartbeats 4000000
namespace L2.LW
open PySem PySem.Spec PyProof.Rows
inductive ArgOk (K:Ka)(ρ:LW.Env)(σ:St)(H H':Hp):AV->V->Prop where
 |e {d:D} {v:V} (h: ∀W,Rep K W H' d v):ArgOk K ρ σ H H' (.e d) v
 |l {ds:List D} {a:Addr} {xs:List V} (e:SqL K H' a xs/\Rd H' a (.lst xs)\/vE K a xs) (r: ∀W,Reps K W H' ds xs):ArgOk K ρ σ H H' (.l ds) (.ref a)
 |s {i:Nat} {x:SV} {d:D} {a:Addr} (h:ρ[i]? =some (some x)) (c:x.cell=some d) (k:vD d=true) (e:σ[i]? =some (some (.ref a))):ArgOk K ρ σ H H' (.s i d) (.ref a)
 |n {t:Bool} {a:Addr} {o:HO} (h:H a=Option.none) (e:H' a=some o) (r: ∀W,ORep K W H' (.dct t [] []) o):ArgOk K ρ σ H H' (.n t) (.ref a)
noncomputable def zjT(K:Ka)(fn:Nat->List D->Option SV)(ma:MA):TA:=fun σ H Q=>∃W ρ xs,R K W ρ σ H/\yZ fn ma ρ=some xs/\∀vs H',Same H H'->Paired (ArgOk K ρ σ H H') xs vs->Q vs H'
structure IMA (X:Cx)(fn:Nat->List D->Option SV)(es:List Expr)(ma:MA):Prop where
 h:PA X es (zjT X.K fn ma)
noncomputable def tM(K:Ka)(fa:Nat->List D->Option Ans)(m:M):TE:=fun σ H Q=>∃W ρ r ρ',R K W ρ σ H/\ve fa m ρ=some (r,ρ')/\∀v H',SPost K W ρ σ H W ρ' σ H'->Res K W H H' r v->Q v H'
structure IM (X:Cx)(fa:Nat->List D->Option Ans)(e:Expr)(m:M):Prop where
 h:PE X e (tM X.K fa m)
theorem ArgOk.back{K:Ka}{ρ:LW.Env}{σ:St}{H H' H'':Hp}{x:AV}{v:V}(h:ArgOk K ρ σ H' H'' x v)(s:Same H H'):ArgOk K ρ σ H H'' x v:=by
 cases h with
 |e h=>exact .e h
 |l e r=>exact .l e r
 |s h c k e=>exact .s h c k e
 |n h e r=>exact .n (s.free h) e r
theorem QJ{K:Ka}{ρ:LW.Env}{σ:St}{H H' H'':Hp}: ∀{xs:List AV} {vs:List V},Paired (ArgOk K ρ σ H' H'') xs vs->Same H H'->Paired (ArgOk K ρ σ H H'') xs vs
 |_,_,.nil,_=>.nil
 |_,_,.cons h t,s=>.cons (h.back s) (QJ t s)
section
variable {X:Cx} {fn:Nat->List D->Option SV} {fa:Nat->List D->Option Ans} {fuel:Nat} {a b c e:Expr} {ca cb cc ce:E} {es:List Expr} {cs:Es} {ma:MA} {m:M} {pos p:Pos} {x:Str} {st:Stmt} {sts sts':List Stmt} {s:S} {ss s1 s2:Ss}
theorem zdu:IMA X fn [] .nil:=.mk <| wL.imp fun σ H Q zz3=>by
 obtain⟨W,ρ,rs,hR,he,q⟩:=zz3;simp only[zcE] at he;cases he;exact q _ H (.refl H) .nil
theorem Yn(he:IE X fn e ce)(h:IMA X fn es ma)(hs:starEach (e::es) X.env=(false,eval e X.env)::starEach es X.env:=by rfl):IMA X fn (e::es) (.e ce ma):=
 .mk <| (xX he.v h.h hs).imp fun σ H Q zz3=>by
  obtain⟨W,ρ,rs,hR,hx,q⟩:=zz3;simp only[zcF,jo1,jo2] at hx;obtain⟨r,e1,av,e2,xs,e3,rfl⟩:=hx;refine⟨W,ρ,r,hR,e1,fun v H1 s1 f=>⟨W,ρ,xs,hR.same s1,e3,fun vs H2 s2 fs=>q _ H2 (s1.trans s2) (.cons ?_ (QJ fs s1))⟩⟩;unfold jA at e2;split at e2
  ·rename_i ds
   split at e2
   ·rename_i hp
    cases e2
    cases f with
    |val f=>
     cases f with
     |lst h r=>
      refine .l ?_ fun W'=>(r.plain hp).ext (.same s2)
      rcases h with ⟨_,h⟩|h
      ·refine .inl ⟨s2.seq (.inl h),?_⟩
       rcases h with h|⟨o,h⟩
       ·exact .inl (s2 _ _ h)
       ·exact .inr ⟨o,s2 _ _ h⟩
      ·exact .inr h
   ·cases e2
  ·rename_i d _
   split at e2
   ·rename_i hp
    cases e2
    cases f with
    |val f=>exact .e fun W'=>(f.plain hp).ext (.same s2)
   ·cases e2
  ·rename_i o ds
   split at e2
   ·rename_i hp
    cases e2
    cases f with
    |lis h e r=>
     cases r with
     |lst r=>exact .l (.inl ⟨.of (s2 _ _ e),.inl (s2 _ _ e)⟩) fun W'=>(r.plain hp).ext (.same s2)
    |see h e r=>
     cases r with
     |lst r=>exact .l (.inl ⟨.of (s2 _ _ e),.inl (s2 _ _ e)⟩) fun W'=>(r.plain hp).ext (.same s2)
   ·cases e2
  ·cases e2
theorem gL(i:Nat)(hN:X.N[i]? =some x)(hv:xK X.env.scope x)(h:IMA X fn es ma)(hd:(x==("__debug__":Str))=false)(hcd:(x==("__classdict__":Str))=false):IMA X fn (.Name x p::es) (.s i ma):=
 .mk <| (xX (wK hN hv hd hcd) h.h rfl).imp fun σ H Q zz3=>by
  obtain⟨W,ρ,rs,hR,hx,q⟩:=zz3;simp only[zcG,jo1] at hx;obtain⟨d,e1,e2⟩:=hx;split at e2
  ·rename_i hk
   rw[jo2] at e2;obtain⟨xs,e3,rfl⟩:=e2;unfold jB at e1;split at e1
   ·rename_i y h1
    obtain⟨a,o,h2,_⟩:=hR.own i y d h1 e1;exact⟨_,h2,W,ρ,xs,hR,e3,fun vs H2 s2 fs=>q _ H2 s2 (.cons (.s h1 e1 hk h2) fs)⟩
   ·cases e1
  ·cases e2
theorem zjU(t:Bool)(h:IMA X fn es ma):IMA X fn (.Dict [] [] p::es) (.n t ma):=by
 refine .mk ?_
 cases t with
 |false=>
  refine (xX zcw h.h rfl).imp fun σ H Q ⟨W,ρ,rs,hR,hx,q⟩=>?_
  simp only[qW,jo2] at hx;obtain⟨xs,e3,rfl⟩:=hx;intro p hp;have s1:=yP hp (.dK []);exact⟨W,ρ,xs,hR.same s1,e3,fun vs H2 s2 fs=>q _ H2 (s1.trans s2) (.cons (.n hp (s2 _ _ yn) fun W=>.dK (ns:=[]) (ys:=[]) rfl .nil) (QJ fs s1))⟩
 |true=>
  refine (xX zcx h.h rfl).imp fun σ H Q ⟨W,ρ,rs,hR,hx,q⟩=>?_
  simp only[qW,jo2] at hx;obtain⟨xs,e3,rfl⟩:=hx;intro p hp;have s1:=yP hp (.dT []);exact⟨W,ρ,xs,hR.same s1,e3,fun vs H2 s2 fs=>q _ H2 (s1.trans s2) (.cons (.n hp (s2 _ _ yn) fun W=>.dT (ns:=[]) (ys:=[]) rfl .nil) (QJ fs s1))⟩
end
noncomputable def Zs:MA->Nat->List Nat
 | .nil,_=>[]
 | .e _ r,k=>Zs r (k+1)
 | .s _ r,k=>k::Zs r (k+1)
 | .n _ r,k=>k::Zs r (k+1)
noncomputable def Yo:MA->List Nat
 | .nil=>[]
 | .e _ r=>Yo r
 | .s i r=>i::Yo r
 | .n _ r=>Yo r
noncomputable def Yp:MA->Nat
 | .nil=>0
 | .e _ r=>Yp r
 | .s _ r=>Yp r
 | .n _ r=>Yp r+1
noncomputable def yR:List AV->Nat->List Nat
 |[],_=>[]
 | .e _::r,k=>yR r (k+1)
 | .l _::r,k=>yR r (k+1)
 | .s _ _::r,k=>k::yR r (k+1)
 | .n _::r,k=>k::yR r (k+1)
noncomputable def yK:List AV->List Nat
 |[]=>[]
 | .s i _::r=>i::yK r
 |_::r=>yK r
noncomputable def wO:List AV->Nat
 |[]=>0
 | .n _::r=>wO r+1
 |_::r=>wO r
theorem QK{fn:Nat->List D->Option SV}{ρ:LW.Env}: ∀{ma:MA} {xs:List AV},yZ fn ma ρ=some xs->(∀k,yR xs k=Zs ma k)/\yK xs=Yo ma/\wO xs=Yp ma
 | .nil,xs,h=>by simp only[zcE] at h;cases h;exact⟨fun _=>rfl,rfl,rfl⟩
 | .e c r,xs,h=>by
  simp only[zcF,jo1,jo2] at h;obtain⟨x,_,av,e2,ys,e3,rfl⟩:=h;obtain⟨h1,h2,h3⟩:=QK e3;unfold jA at e2;split at e2
  ·split at e2
   ·cases e2;exact⟨fun k=>h1 (k+1),h2,h3⟩
   ·cases e2
  ·split at e2
   ·cases e2;exact⟨fun k=>h1 (k+1),h2,h3⟩
   ·cases e2
  ·split at e2
   ·cases e2;exact⟨fun k=>h1 (k+1),h2,h3⟩
   ·cases e2
  ·cases e2
 | .s i r,xs,h=>by
  simp only[zcG,jo1] at h;obtain⟨d,_,e2⟩:=h;split at e2
  ·rw[jo2] at e2
   obtain⟨ys,e3,rfl⟩:=e2;obtain⟨h1,h2,h3⟩:=QK e3;exact⟨fun k=>by simp only[yR,Zs,h1],by simp only[yK,Yo,h2],h3⟩
  ·cases e2
 | .n t r,xs,h=>by
  simp only[qW,jo2] at h;obtain⟨ys,e3,rfl⟩:=h;obtain⟨h1,h2,h3⟩:=QK e3;exact⟨fun k=>by simp only[yR,Zs,h1],h2,by simp only[wO,Yp,h3]⟩
noncomputable def Yq:AV->Bool
 | .s _ _=>true
 | .n _=>true
 |_=>false
theorem Vf: ∀{xs:List AV} {j k:Nat},k∈yR xs j↔j<=k/\∃x,xs[k-j]? =some x/\Yq x=true
 |[],j,k=>by simp[yR]
 |x::r,j,k=>by
  have ih:=Vf (xs:=r) (j:=j+1) (k:=k)
  have key:k∈yR r (j+1)↔j<=k/\k≠j/\∃y,(x::r)[k-j]? =some y/\Yq y=true:=by
   rw[ih];constructor
   ·rintro⟨h1,y,h2,h3⟩
    refine⟨by omega,by omega,y,?_,h3⟩;have e:k-j=(k-(j+1))+1:=by omega
    rw[e,List.getElem?_cons_succ];exact h2
   ·rintro⟨h1,h0,y,h2,h3⟩
    have e:k-j=(k-(j+1))+1:=by omega
    rw[e,List.getElem?_cons_succ] at h2;exact⟨by omega,y,h2,h3⟩
  have no:Yq x=false->(k∈yR r (j+1)↔j<=k/\∃y,(x::r)[k-j]? =some y/\Yq y=true):=fun hx=>by
   rw[key];constructor
   ·rintro⟨h1,_,h2⟩;exact⟨h1,h2⟩
   ·rintro⟨h1,y,h2,h3⟩
    refine⟨h1,fun e=>?_,y,h2,h3⟩;subst e;rw[Nat.sub_self] at h2;cases h2;rw[hx] at h3;cases h3
  have yes:Yq x=true->(k=j\/k∈yR r (j+1)↔j<=k/\∃y,(x::r)[k-j]? =some y/\Yq y=true):=fun hx=>by
   rw[key];constructor
   ·rintro (rfl|⟨h1,_,h2⟩)
    ·exact⟨Nat.le_refl _,x,by rw[Nat.sub_self];rfl,hx⟩
    ·exact⟨h1,h2⟩
   ·rintro⟨h1,h2⟩
    by_cases e:k=j
    ·exact .inl e
    ·exact .inr ⟨h1,e,h2⟩
  cases x with
  |e d=>exact no rfl
  |l d=>exact no rfl
  |s i d=>rw[yR,List.mem_cons];exact yes rfl
  |n t=>rw[yR,List.mem_cons];exact yes rfl
theorem QL{α β:Type}{F:α->β->Prop}: ∀{xs:List α} {vs:List β} {k:Nat} {x:α},Paired F xs vs->xs[k]? =some x->∃v,vs[k]? =some v/\F x v
 |_,_,_,_,.nil,e=>by simp at e
 |_,_,0,_,.cons h _,e=>by simp at e;subst e;exact⟨_,rfl,h⟩
 |_,_,k+1,x,.cons _ t,e=>by
  obtain⟨v,h1,h2⟩:=QL (k:=k) (x:=x) t (by simpa using e);exact⟨v,by simpa using h1,h2⟩
theorem QM: ∀{xs:List AV} {i:Nat},i∈yK xs↔∃(k:Nat) (d:D),xs[k]? =some (AV.s i d)
 |[],i=>by simp[yK]
 |x::r,i=>by
  have ih:=QM (xs:=r) (i:=i);have up:(∃(k:Nat) (d:D),r[k]? =some (AV.s i d))->∃(k:Nat) (d:D),(x::r)[k]? =some (AV.s i d):=fun ⟨k,d,h⟩=>⟨k+1,d,by simpa using h⟩
  have dn:(∀d,x≠ .s i d)->(∃(k:Nat) (d:D),(x::r)[k]? =some (AV.s i d))->∃(k:Nat) (d:D),r[k]? =some (AV.s i d):=fun hx zz1=>by
   obtain⟨k,d,h⟩:=zz1
   cases k with
   |zero=>cases h;exact KC rfl (hx d)
   |succ k=>exact⟨k,d,by simpa using h⟩
  cases x with
  |s j d0=>
   rw[yK,List.mem_cons,ih];constructor
   ·rintro (rfl|h)
    ·exact⟨0,d0,rfl⟩
    ·exact up h
   ·intro h
    by_cases e:i=j
    ·exact .inl e
    ·exact .inr (dn (fun d z=>by cases z;exact e rfl) h)
  |e d=>show i∈yK r↔_;rw[ih];exact⟨up,dn fun _ z=>nomatch z⟩
  |l d=>show i∈yK r↔_;rw[ih];exact⟨up,dn fun _ z=>nomatch z⟩
  |n d=>show i∈yK r↔_;rw[ih];exact⟨up,dn fun _ z=>nomatch z⟩
theorem zdv: ∀{xs:List AV} {j k i:Nat} {d e:D},(yK xs).Nodup->xs[j]? =some (.s i d)->xs[k]? =some (.s i e)->j=k
 |[],_,_,_,_,_,_,h,_=>by simp at h
 |x::r,j,k,i,d,e,hn,h1,h2=>by
  have hr:(yK r).Nodup:=by
   cases x with
   |s i d=>rw[yK,List.nodup_cons] at hn;exact hn.2
   |_=>exact hn
  cases j with
  |zero=>
   cases k with
   |zero=>rfl
   |succ k=>
    cases h1;rw[yK,List.nodup_cons] at hn;exact KC (QM.mpr ⟨k,e,by simpa using h2⟩) hn.1
  |succ j=>
   cases k with
   |zero=>
    cases h2;rw[yK,List.nodup_cons] at hn;exact KC (QM.mpr ⟨j,d,by simpa using h1⟩) hn.1
   |succ k=>rw[zdv (j:=j) (k:=k) hr (by simpa using h1) (by simpa using h2)]
theorem zdw: ∀{xs:List AV} {j k:Nat} {t u:Bool},wO xs<=1->xs[j]? =some (.n t)->xs[k]? =some (.n u)->j=k
 |[],_,_,_,_,_,h,_=>by simp at h
 |x::r,j,k,t,u,hn,h1,h2=>by
  have pos: ∀{r:List AV} {k:Nat} {u:Bool},r[k]? =some (AV.n u)->0<wO r:=by
   intro r
   induction r with
   |nil=>intro k u h;simp at h
   |cons y r ih=>
    intro k u h
    cases k with
    |zero=>cases h;simp[wO]
    |succ k=>
     have:=ih (k:=k) (u:=u) (by simpa using h);cases y<;>simp[wO]<;>omega
  cases j with
  |zero=>
   cases k with
   |zero=>rfl
   |succ k=>
    cases h1;have:=pos (k:=k) (u:=u) (r:=r) (by simpa using h2);simp[wO] at hn;omega
  |succ j=>
   cases k with
   |zero=>
    cases h2;have:=pos (k:=j) (u:=t) (r:=r) (by simpa using h1);simp[wO] at hn;omega
   |succ k=>
    have hr:wO r<=1:=by cases x<;>simp[wO] at hn<;>omega
    rw[zdw (j:=j) (k:=k) hr (by simpa using h1) (by simpa using h2)]
inductive OutsX (K:Ka)(W:Addr->Prop)(H:Hp):List AV->List V->List D->Prop where
 |nil:OutsX K W H [] [] []
 |e {d:D} {v:V} {xs:List AV} {vs:List V} {os:List D} (t:OutsX K W H xs vs os):OutsX K W H (.e d::xs) (v::vs) os
 |l {d:List D} {v:V} {xs:List AV} {vs:List V} {os:List D} (t:OutsX K W H xs vs os):OutsX K W H (.l d::xs) (v::vs) os
 |s {i:Nat} {d:D} {a:Addr} {o:HO} {d':D} {xs:List AV} {vs:List V} {os:List D} (e:H a=some o) (r:ORep K W H d' o) (t:OutsX K W H xs vs os):OutsX K W H (.s i d::xs) (.ref a::vs) (d'::os)
 |n {b:Bool} {v:V} {d':D} {xs:List AV} {vs:List V} {os:List D} (t:OutsX K W H xs vs os):OutsX K W H (.n b::xs) (v::vs) (d'::os)
theorem zdx{K:Ka}{W:Addr->Prop}{H:Hp}{F:AV->V->Prop}: ∀{xs:List AV} {vs pre:List V} {os:List D},Paired F xs vs->Qv K W H (yR xs pre.length) (pre++vs) os->OutsX K W H xs vs os
 |_,_,pre,os,.nil,h=>by
  simp only[yR] at h;cases h;exact .nil
 |_,_,pre,os,.cons (a:=x) (b:=v) (l₁:=xs) (l₂:=vs) _ t,h=>by
  have step: ∀{os:List D},Qv K W H (yR xs (pre.length+1)) (pre++v::vs) os->OutsX K W H xs vs os:=fun {os} h=>
   zdx (pre:=pre++[v]) t (by simpa using h)
  cases x with
  |e d=>exact .e (step h)
  |l d=>exact .l (step h)
  |s i d=>
   simp only[yR] at h
   cases h with
   |cons h r=>
    obtain⟨a,o,e1,e2,e3⟩:=h;simp at e1;subst e1;exact .s e2 e3 (step r)
  |n b=>
   simp only[yR] at h
   cases h with
   |cons h r=>exact .n (step r)
structure Upd (K:Ka)(W:Addr->Prop)(ρ:LW.Env)(σ:St)(H:Hp)(ρ':LW.Env)(sl:List Nat):Prop where
 len:ρ'.length=ρ.length
 other: ∀i,i∉sl->ρ'[i]? =ρ[i]?
 at_: ∀i∈sl,∃x d a o,ρ[i]? =some (some x)/\x.cell.isSome=true/\ρ'[i]? =some (some (x.put d))/\σ[i]? =some (some (.ref a))/\H a=some o/\ORep K W H d o
theorem Vg{K:Ka}{W:Addr->Prop}{ρ0:LW.Env}{σ:St}{H0 H1 H':Hp}: ∀{xs:List AV} {vs:List V} {os:List D} {ρ ρ':LW.Env},Paired (ArgOk K ρ0 σ H0 H1) xs vs->(yK xs).Nodup->(∀i∈yK xs,ρ[i]? =ρ0[i]?)->OutsX K W H' xs vs os->xn ρ xs os=some ρ'->Upd K W ρ σ H' ρ' (yK xs)
 |_,_,_,ρ,ρ',.nil,_,_,h,e=>by
  cases h;simp only[xn] at e;cases e;exact⟨rfl,fun _ _=>rfl,fun i h=>(by cases h)⟩
 |_,_,_,ρ,ρ',.cons (a:=x) (b:=v) (l₁:=xs) (l₂:=vs) hx t,hn,hs,h,e=>by
  cases h with
  |e h=>simp only[xn] at e;show Upd K W ρ σ H' ρ' (yK xs);exact Vg (xs:=xs) t hn hs h e
  |l h=>simp only[xn] at e;show Upd K W ρ σ H' ρ' (yK xs);exact Vg (xs:=xs) t hn hs h e
  |n h=>simp only[xn] at e;show Upd K W ρ σ H' ρ' (yK xs);exact Vg (xs:=xs) t hn hs h e
  |s e1 r h=>
   rename_i i d a o d' os;simp only[xn] at e;rw[yK,List.nodup_cons] at hn
   cases hx with
   |s h1 c k e2=>
    rename_i y;have h1':ρ[i]? =some (some y):=by rw[hs i (by simp[yK])];exact h1
    have ep:ZX ρ i d'=ρ.set i (some (y.put d')):=by unfold ZX;rw[h1']
    rw[ep] at e;have hl:i<ρ.length:=(List.getElem?_eq_some_iff.mp h1').1
    obtain⟨l,ot,at_⟩:=Vg t hn.2 (fun j hj=>by
     rw[xu (fun z=>hn.1 (by rw[z];exact hj))];exact hs j (by rw[yK];exact Kf _ hj)) h e
    refine⟨by simpa using l,fun j hj=>?_,fun j hj=>?_⟩
    ·rw[yK,List.mem_cons] at hj
     rw[ot j (fun z=>hj (.inr z)),xu (fun z=>hj (.inl z.symm))]
    ·rw[yK,List.mem_cons] at hj
     by_cases ej:j=i
     ·subst ej
      refine⟨y,d',a,o,h1',by rw[c];rfl,?_,e2,e1,r⟩;rw[ot j hn.1,jG hl]
     ·obtain⟨x,d,a,o,z1,z2⟩:=at_ j (hj.resolve_left ej)
      rw[xu (fun z=>ej z.symm)] at z1;exact⟨x,d,a,o,z1,z2⟩
theorem zjV{K:Ka}{W:Addr->Prop}{ρ ρ':LW.Env}{σ:St}{H H':Hp}{sl:List Nat}(r:R K W ρ σ H)(u:Upd K W ρ σ H' ρ' sl)(keep: ∀a o,H a=some o->(∀i∈sl,σ[i]? ≠some (some (.ref a)))->H' a=some o):SPost K W ρ σ H W ρ' σ H':=by
 have cellOf: ∀{x:SV},x.cell.isSome=true->∃d,x.cell=some d:=fun {x} h=>Option.isSome_iff_exists.mp h
 have ownSl: ∀{i:Nat} {a:Addr},i∈sl->σ[i]? =some (some (.ref a))->xO ρ σ a:=fun {i a} hi e=>by
  obtain⟨x,d,a',o,h1,h2,_⟩:=u.at_ i hi;obtain⟨d0,hc⟩:=cellOf h2;exact⟨i,x,d0,h1,hc,e⟩
 have kp: ∀a o,H a=some o->¬xO ρ σ a->H' a=some o:=fun a o h n=>keep a o h fun i hi e=>n (ownSl hi e)
 have ext:Ext W H W H':=by
  refine⟨fun a o h n=>kp a o h fun z=>n (r.ownW z).1,fun a xs h=>kp a _ h fun z=>?_,fun a o w h=>kp a _ h fun z=>?_,fun a w=>.inl w⟩
  ·obtain⟨_,o,d,e,q⟩:=r.ownW z
   rw[h] at e;cases e;exact q.kind.1 xs rfl
  ·obtain⟨_,o,d,e,q⟩:=r.ownW z
   rw[h] at e;cases e;exact q.kind.2 _ _ rfl
 have old: ∀{k:Nat} {y:SV} {es:D},ρ'[k]? =some (some y)->y.cell=some es->∃y' es',ρ[k]? =some (some y')/\y'.cell=some es':=fun {k y es} q c=>by
  by_cases hk:k∈sl
  ·obtain⟨x,d,a',o,h1,h2,_⟩:=u.at_ k hk
   obtain⟨d0,hc⟩:=cellOf h2;exact⟨x,d0,h1,hc⟩
  ·rw[u.other k hk] at q;exact⟨y,es,q,c⟩
 refine⟨⟨fun k d hk=>?_,fun k d hk=>?_,fun k y es hk hc=>?_,fun k l x y e1 e2 b h1 h2 c1 c2 h3 h4=>?_,fun b w=>?_,by rw[u.len];exact r.len⟩,kp,fun b w=>.inl w,fun b w n=>⟨w,fun ⟨k,y,es,z1,c,z2⟩=>?_⟩,fun j=>⟨?_,fun _=>rfl⟩⟩
 ·by_cases hs:k∈sl
  ·obtain⟨x,d',a',o,h1,h2,h3,_⟩:=u.at_ k hs
   rw[h3] at hk;exact KC (Kn (Kn hk)) (zc8 _ _ _)
  ·rw[u.other k hs] at hk
   obtain⟨v,h1,h2⟩:=r.val k d hk;exact⟨v,h1,h2.ext ext⟩
 ·by_cases hs:k∈sl
  ·obtain⟨x,d',a',o,h1,h2,h3,_⟩:=u.at_ k hs
   rw[h3] at hk;exact KC (Kn (Kn hk)) (zc9 _ _ _)
  ·rw[u.other k hs] at hk
   exact r.nol k d hk
 ·by_cases hs:k∈sl
  ·obtain⟨x,d',a',o,h1,h2,h3,h4,h5,h6⟩:=u.at_ k hs
   rw[h3] at hk;cases hk;rw[zc7] at hc;cases hc;obtain⟨d0,hc0⟩:=cellOf h2;exact⟨a',o,h4,(r.ownW ⟨k,x,d0,h1,hc0,h4⟩).1,h5,h6⟩
  ·rw[u.other k hs] at hk
   obtain⟨b,ys,h1,h2,h3,h4⟩:=r.own k y es hk hc;refine⟨b,ys,h1,h2,keep b ys h3 fun i hi e=>hs ?_,h4.ext ext⟩;obtain⟨x,d',a',o,g1,g2,_⟩:=u.at_ i hi;obtain⟨d0,hc0⟩:=cellOf g2;rw[r.inj k i y x es d0 b hk g1 hc hc0 h1 e];exact hi
 ·obtain⟨_,_,z1,w1⟩:=old h1 c1
  obtain⟨_,_,z2,w2⟩:=old h2 c2;exact r.inj k l _ _ _ _ b z1 z2 w1 w2 h3 h4
 ·cases e:H b with
  |none=>exact KC e (r.wf b w)
  |some o=>
   by_cases hz: ∃i∈sl,σ[i]? =some (some (.ref b))
   ·obtain⟨i,hi,e'⟩:=hz
    obtain⟨x,d',a',o,g1,g2,g3,g4,g5,_⟩:=u.at_ i hi;rw[e'] at g4;cases g4;rw[g5];exact fun z=>nomatch z
   ·rw[keep b o e fun i hi e'=>hz ⟨i,hi,e'⟩];exact fun z=>nomatch z
 ·obtain⟨_,_,z,w'⟩:=old z1 c
  exact n ⟨k,_,_,z,w',z2⟩
 ·by_cases hs:j∈sl
  ·obtain⟨x,d',a',o,h1,h2,h3,_⟩:=u.at_ j hs
   unfold xF;rw[h1,h3];constructor
   ·rintro⟨d2,z⟩
    obtain⟨d3,w⟩:=Qz.mp ⟨d2,Kn (Kn z)⟩;exact⟨d3,by rw[w]⟩
   ·rintro⟨d2,z⟩
    obtain⟨d3,w⟩:=Qz (d:=d') |>.mpr ⟨d2,Kn (Kn z)⟩;exact⟨d3,by rw[w]⟩
  ·unfold xF;rw[u.other j hs]
section
variable {X:Cx} {fn:Nat->List D->Option SV} {fa:Nat->List D->Option Ans} {fuel:Nat} {a b c e:Expr} {ca cb cc ce:E} {es:List Expr} {cs:Es} {ma:MA} {m:M} {pos p:Pos} {x:Str} {st:Stmt} {sts sts':List Stmt} {s:S} {ss s1 s2:Ss}
theorem zdy{K:Ka}{W:Addr->Prop}{H:Hp}{d:D}{o:HO}(h:ORep K W H d o)(k:vD d=true): ∀xs,o≠ .lst xs:=by
 cases h with
 |lst r=>cases k
 |dK l r=>exact fun _ z=>nomatch z
 |dT l r=>exact fun _ z=>nomatch z
theorem zjW{d:D}(k:vD d=true):wM d=true:=by
 cases d with
 |dct t ks vs=>exact k
 |_=>cases k
theorem OutsX.plain{K:Ka}{W W':Addr->Prop}{H:Hp}{xs:List AV}{vs:List V}{os:List D}(h:OutsX K W H xs vs os)(p:os.all wM=true):OutsX K W' H xs vs os:=by
 induction h with
 |nil=>exact .nil
 |e _ ih=>exact .e (ih p)
 |l _ ih=>exact .l (ih p)
 |s e r _ ih=>
  simp only[List.all_cons,Bool.and_eq_true] at p;exact .s e (r.plain p.1) (ih p.2)
 |n _ ih=>
  simp only[List.all_cons,Bool.and_eq_true] at p;exact .n (ih p.2)
theorem Res.fine{K:Ka}{W W':Addr->Prop}{H H':Hp}{r:SV}{v:V}(h:Res K W' H H' r v)(p:r.fine=true):Res K W H H' r v:=by
 cases h with
 |val h=>exact .val (h.plain p)
 |new h e r=>exact .new h e (r.plain p)
 |see h e r=>cases p
theorem zdz{k:Nat}{f:Addr}{fd:FuncData}{ps:List Str}{i:Nat}{io:List Nat}(F:FnOk X.prog X.w X.K X.mg X.base yE k f fd ps (wx X.K fa i io))(hio:io=Zs ma 0)(hnd:(Yo ma).Nodup)(hnw:Yp ma<=1)
  (hr:Room k X.A) (hg:Gl X x) (hm:X.mg x=some (.ref f)) (hk:PySem.W.keepIn X.K (.ref f)=true)
  (hb:Binds X.K fd ps []) (ha:IMA X (zE fa) (e::es) ma) (hdb:(x==("__debug__":Str))=false:=by decide) (he:starEach (e::es) X.env=(false,eval e X.env)::starEach es X.env:=by rfl)
  (hpl:(backTo pos (starEach es X.env)).any (·.1)=false:=by rfl):IM X fa (.Call (.Name x p) (e::es) [] pos) (.call i ma):=
 .mk <| (ZP F hr hg hm hk hb .nil ZT ha.h hdb he hpl).imp fun σ H Q zz3=>by
  obtain⟨W,ρ,r,ρ',hR,h,q⟩:=zz3;simp only[ziS,jo1] at h;obtain⟨xs,e1,an,e2,e3⟩:=h
  obtain⟨r',outs,rfl⟩: ∃r' outs,an=Ans.ok r' outs:=by
   cases an with
   |ok r o=>exact⟨r,o,rfl⟩
   |ex c=>cases e3
  simp only at e3;split at e3
  case isFalse=>cases e3
  rename_i hp;rw[Bool.and_eq_true] at hp;rw[jo2] at e3;obtain⟨ρ2,e3,e4⟩:=e3;cases e4;refine⟨W,ρ,xs,hR,e1,fun vs H1 s1 f=>?_⟩;show wx X.K fa i io (vs++[]) H1 Q E0;rw[List.append_nil];obtain⟨t1,t2,t3⟩:=QK e1;have hio':io=yR xs 0:=by rw[hio,t1]
  subst hio';rw[<-t2] at hnd;rw[<-t3] at hnw
  have at_: ∀{k:Nat} {a:Addr},k∈yR xs 0->vs[k]? =some (.ref a)->(∃i d y,xs[k]? =some (.s i d)/\ρ[i]? =some (some y)/\y.cell=some d/\vD d=true/\σ[i]? =some (some (.ref a)))\/(∃t,xs[k]? =some (.n t)/\H a=Option.none/\∃o,H1 a=some o/\∀W,ORep X.K W H1 (.dct t [] []) o):=fun {k a} hk hv=>by
   obtain⟨_,x,hx,hi⟩:=Vf.mp hk;rw[Nat.sub_zero] at hx;obtain⟨v,h1,h2⟩:=QL f hx;rw[hv] at h1;cases h1
   cases h2 with
   |e _=>cases hi
   |l _ _=>cases hi
   |s g1 g2 g3 g4=>exact .inl ⟨_,_,_,hx,g1,g2,g3,g4⟩
   |n g1 g2 g3=>exact .inr ⟨_,hx,g1,_,g2,g3⟩
  have hR1:=hR.same s1
  have ioD: ∀a,XX (yR xs 0) vs a->∃o,H1 a=some o/\∀zs,o≠ .lst zs:=fun a zz1=>by
   obtain⟨k,hk,hv⟩:=zz1;rcases at_ hk hv with ⟨i,d,y,_,g1,g2,g3,g4⟩|⟨t,_,_,o,g2,g3⟩
   ·obtain⟨b,o,z1,z2,z3,z4⟩:=hR1.own i y d g1 g2
    rw[g4] at z1;cases z1;exact⟨o,z3,zdy z4 g3⟩
   ·exact⟨o,g2,zdy (g3 W) rfl⟩
  have ar:ARep X.K (XX (yR xs 0) vs) H1 (yR xs 0) (xs.map Zk) vs:=by
   refine⟨by rw[List.length_map];exact Paired.length f,fun k d hd hk=>?_,fun k d hd hk=>?_,fun j k a hj hk h1 h2=>?_⟩
   ·rw[List.getElem?_map,jo2] at hd
    obtain⟨x,hx,rfl⟩:=hd;obtain⟨v,h1,h2⟩:=QL f hx;refine⟨v,h1,?_⟩
    cases h2 with
    |e g=>exact g _
    |l g1 g2=>
     refine .lst ?_ (g2 _);rcases g1 with ⟨_,g1⟩|g1
     ·refine .inl ⟨fun z=>?_,g1⟩
      obtain⟨o,z1,z2⟩:=ioD _ z;rcases g1 with g1|⟨ob,g1⟩
      ·rw[g1] at z1;cases z1;exact z2 _ rfl
      ·rw[g1] at z1;cases z1
       obtain⟨k',hk',hv'⟩:=z;rcases at_ hk' hv' with ⟨i,d,y,_,c1,c2,c3,c4⟩|⟨t,_,_,o,c2,c3⟩
       ·obtain⟨b,o,y1,y2,y3,y4⟩:=hR1.own i y d c1 c2
        rw[c4] at y1;cases y1;rw[g1] at y3;cases y3;exact y4.kind.2 _ _ rfl
       ·rw[g1] at c2;cases c2
        exact (c3 W).kind.2 _ _ rfl
     ·exact .inr g1
    |s _ _ _ _=>exact KC (Vf.mpr ⟨Nat.zero_le _,_,by rw[Nat.sub_zero];exact hx,rfl⟩) hk
    |n _ _ _=>exact KC (Vf.mpr ⟨Nat.zero_le _,_,by rw[Nat.sub_zero];exact hx,rfl⟩) hk
   ·rw[List.getElem?_map,jo2] at hd
    obtain⟨x,hx,rfl⟩:=hd;obtain⟨v,h1,h2⟩:=QL f hx;have hio:=Vf.mp hk;obtain⟨_,x',hx',hi'⟩:=hio;rw[Nat.sub_zero,hx] at hx';cases hx'
    cases h2 with
    |e _=>cases hi'
    |l _ _=>cases hi'
    |s g1 g2 g3 g4=>
     obtain⟨b,o,z1,z2,z3,z4⟩:=hR1.own _ _ _ g1 g2;rw[g4] at z1;cases z1;exact⟨_,o,h1,⟨k,hk,h1⟩,z3,z4.plain (zjW g3)⟩
    |n g1 g2 g3=>exact⟨_,_,h1,⟨k,hk,h1⟩,g2,g3 _⟩
   ·rcases at_ hj h1 with ⟨i,d,y,w0,c1,c2,c3,c4⟩|⟨t,w0,c1,_⟩
    ·rcases at_ hk h2 with ⟨i',d',y',w0',c1',c2',c3',c4'⟩|⟨t',w0',c1',_⟩
     ·have:=hR.inj i i' y y' d d' a c1 c1' c2 c2' c4 c4'
      subst this;exact zdv hnd w0 w0'
     ·exact KC c1' (hR.wf _ (hR.ownW ⟨i,y,d,c1,c2,c4⟩).1)
    ·rcases at_ hk h2 with ⟨i',d',y',w0',c1',c2',c3',c4'⟩|⟨t',w0',c1',_⟩
     ·exact KC c1 (hR.wf _ (hR.ownW ⟨i',y',d',c1',c2',c4'⟩).1)
     ·exact zdw hnw w0 w0'
  refine⟨_,_,r,outs,fun a ha=>?_,ar,e2,fun v H' kp ho res=>?_⟩
  ·obtain⟨o,z,_⟩:=ioD a ha
   rw[z];exact fun z=>nomatch z
  ·refine q v H' (zjV hR (Vg f hnd (fun _ _=>rfl) ((zdx (pre:=[]) f ho).plain hp.2) e3) fun a o h n=>kp a o (s1 _ _ h) fun ⟨k,hk,hv⟩=>?_) ((res.fine hp.1).back s1)
   rcases at_ hk hv with ⟨i,d,y,w0,c1,c2,c3,c4⟩|⟨t,w0,c1,_⟩
   ·exact n i (QM.mpr ⟨k,d,w0⟩) c4
   ·rw[h] at c1;cases c1
theorem zjX(he:IM X fa e m)(hs:swapsWith e Option.none pos.line X.env=pure false:=by rfl):IS X (zF fa fuel (.exprM m)) (.Expr e pos):=
 .mk <| (Ze he.h hs).imp fun D σ H zz3=>by
  obtain⟨W,ρ,x,hR,hx,q⟩:=zz3;simp only[ziV,jo2] at hx;obtain⟨⟨r,ρ'⟩,e1,rfl⟩:=hx;exact⟨W,ρ,r,ρ',hR,e1,fun v H1 p1 _=>q W σ H1 p1⟩
theorem zjY(hE:IM X fa e m)(he: ∀whole,isTrue e X.env whole=(do let v <-whole;standAt e.pos;holding [v] (truthy v))):PT X e fun σ H Q=>∃W ρ r ρ' k,R X.K W ρ σ H/\ve fa m ρ=some (r,ρ')/\yH r=some k/\∀H',SPost X.K W ρ σ H W ρ' σ H'->Q k H':=
 (zb5 hE.h he).imp fun σ H Q ⟨W,ρ,r,ρ',k,hR,e1,e2,q⟩=>⟨W,ρ,r,ρ',hR,e1,fun v H1 p1 f=>⟨k,zc2 (f.frz hR.wf) e2,q H1 p1⟩⟩
theorem zjZ(hc:IT X (zE fa) c cc)(hm:IM X fa b m)(hb: ∀whole,isTrue b X.env whole=(do let v <-whole;standAt b.pos;holding [v] (truthy v)))(h1:ISs X (zr fa fuel s1) sts)(h2:ISs X (zr fa fuel s2) sts'):
  IS X (zF fa fuel (.ifO cc m s1 s2)) (.If (.BoolOp .Or [c,b] p) sts sts' pos):=
 .mk <| (JO (PW.pt (zbU hc.h (zbT (zjY hm hb)))) h1.h h2.h).imp fun D σ H zz3=>by
  obtain⟨W,ρ,y,hR,hy,q⟩:=zz3;simp only[ziW,jo1] at hy;obtain⟨k,e1,e2⟩:=hy;refine⟨W,ρ,k,hR,e1,fun H1 w1=>?_⟩;have p1:=SPost.same hR w1
  cases k with
  |true=>
   rw[if_pos rfl] at e2;exact ZU (ZU ⟨W,ρ,y,p1.r,e2,fun W2 σ2 H2 p2=>FlOk.back p1 (q W2 σ2 H2 (p1.trans p2 hR))⟩)
  |false=>
   rw[if_neg Km] at e2;rw[jo1] at e2;obtain⟨⟨r,ρ'⟩,e3,e4⟩:=e2;rw[jo1] at e4;obtain⟨k,e5,e6⟩:=e4;refine Xp ⟨W,ρ,r,ρ',k,p1.r,e3,e5,fun H2 p2=>?_⟩;have p02:=p1.trans p2 hR
   cases k with
   |true=>rw[if_pos rfl] at e6;exact ZU ⟨W,ρ',y,p02.r,e6,fun W3 σ3 H3 p3=>FlOk.back p02 (q W3 σ3 H3 (p02.trans p3 hR))⟩
   |false=>rw[if_neg Km] at e6;exact Xp ⟨W,ρ',y,p02.r,e6,fun W3 σ3 H3 p3=>FlOk.back p02 (q W3 σ3 H3 (p02.trans p3 hR))⟩
end
end L2.LW
set_option maxHeartbeats 4000000
namespace L2.LW
open PySem PySem.Spec PyProof.Rows
noncomputable def zj0(sc scope:Scope)(y:Str)(l1 l2:Nat):Bool:=(if sc.kind.isAnnotationScope then ScopeKind.function else sc.kind)== .function&&sc.names.lookup y==some .local&&l1==l2&& !(scope.names.any fun (n,k)=>n==y&&(k== .local||k== .cell))
theorem Vh{env:PySem.Env}{sc scope:Scope}{elt:Expr}{gens:List Comprehension}{y:Str}{py pos:Pos}{l:Nat}{b:Bool}(hs:env.scope=sc)(h:zj0 sc scope y py.line pos.line=b):
  swapsWith (.ListComp elt gens scope pos) (some (.Name y py)) l env=pure b:=by
 subst hs;subst h;rfl
theorem zj1{K:Ka}{W:Addr->Prop}{ρ:LW.Env}{σ:St}{H:Hp}(r:R K W ρ σ H)(j:Nat): ∃W',SPost K W ρ σ H W' (jC ρ j) σ H:=by
 unfold jC;split
 ·rename_i d h
  obtain⟨a,o,h1,_⟩:=r.own j _ d h rfl;exact⟨_,(gv r h h1).1⟩
 ·exact⟨W,.same r (.refl H)⟩
theorem zdA{K:Ka}{σ:St}{H:Hp}: ∀(js:List Nat) {W:Addr->Prop} {ρ:LW.Env},R K W ρ σ H->∃W',SPost K W ρ σ H W' (js.foldl jC ρ) σ H
 |[],W,ρ,r=>⟨W,.same r (.refl H)⟩
 |j::js,W,ρ,r=>by
  obtain⟨W1,p1⟩:=zj1 r j;obtain⟨W2,p2⟩:=zdA js p1.r;exact⟨W2,p1.trans p2 r⟩
section
variable {X:Cx} {fn:Nat->List D->Option SV} {fa:Nat->List D->Option Ans} {fuel:Nat} {st:Stmt} {s:S}
theorem QN(js:List Nat)(h:IS X (zF fa fuel s) st):IS X (zF fa fuel (.frz js s)) st:=
 .mk <| h.h.imp fun D σ H zz3=>by
  obtain⟨W,ρ,x,hR,hx,q⟩:=zz3;simp only[zi3] at hx;obtain⟨W1,p1⟩:=zdA js hR;exact⟨W1,_,x,p1.r,hx,fun W2 σ2 H2 p2=>FlOk.back p1 (q W2 σ2 H2 (p1.trans p2 hR))⟩
theorem zdB: ∀(r:List Int) (n:Int),(∀x∈n::r,x<=r.foldl max n)/\r.foldl max n∈n::r
 |[],n=>by simp
 |x::r,n=>by
  obtain⟨h1,h2⟩:=zdB r (max n x);rw[List.foldl_cons];refine⟨fun y hy=>?_,?_⟩
  ·have h0:=h1 (max n x) Ke
   rcases List.mem_cons.mp hy with rfl|hy
   ·omega
   ·rcases List.mem_cons.mp hy with rfl|hy
    ·omega
    ·exact h1 y (Kf _ hy)
  ·rcases List.mem_cons.mp h2 with e|e
   ·rw[e]
    rcases Int.le_total n x with q|q
    ·rw[Int.max_eq_right q];simp
    ·rw[Int.max_eq_left q];simp
   ·exact Kf _ (Kf _ e)
theorem zj2{its:List Value}{ns:List Int}(hi:IntsAre its ns): ∃ps:List (Int×Tok),its=ps.map (fun p=>Value.int p.1 p.2)/\ns=ps.map (·.1):=by
 induction hi with
 |nil=>exact⟨[],rfl,rfl⟩
 |cons n t h ih=>
  obtain⟨ps,e1,e2⟩:=ih;exact⟨(n,t)::ps,by rw[e1];rfl,by rw[e2];rfl⟩
theorem gM{its:List Value}{ns:List Int}(hi:IntsAre its ns): ∃xs:Array (Int×Tok),its.toArray=intItems xs/\xs.size=ns.length/\∀i,(h:i<ns.length)->numAt xs i=ns[i]:=by
 obtain⟨ps,rfl,rfl⟩:=zj2 hi;refine⟨ps.toArray,by simp[intItems],by simp,fun i h=>?_⟩;have h':i<ps.length:=by simpa using h
 simp[numAt,h']
theorem zj3(hc:X.calm=true):xk X (.builtin "max") (VR X.K (zg .maxL)):=by
 rintro pins s σ H xs us Q I rv ⟨W,ds,r,wf,hs,hf,q⟩;replace hf:Qi ds=some r:=hf;unfold Qi at hf;split at hf
 ·rename_i l
  rw[jo1] at hf;obtain⟨ns,e1,hf⟩:=hf
  cases ns with
  |nil=>cases hf
  |cons n ns=>
   cases hf
   cases hs with
   |cons h1 t=>
    cases t;obtain⟨p,ys,rfl,hp,rp⟩:=h1.lst;have ey:=rp.ofInts e1;subst ey;obtain⟨u,rfl,ru⟩:=wz rv;cases ru;obtain⟨its,rv',pl,hz⟩:=I.list hp;obtain⟨xs,x1,x2,x3⟩:=gM (vZ rv');have hpl:=pl.isList;rw[x1] at hpl;refine max_intList (I.ok.hd hc) hpl (by rw[x2];simp) fun v h' tk hv hk=>?_
    obtain⟨t,rfl⟩:=intItems_at hv;obtain⟨g1,g2⟩:=argBest_gt (numAt xs) (xs.size-1);have hlen:xs.size-1=ns.length:=by rw[x2];simp
    rw[hlen] at g1 g2⊢;generalize argBest (fun i j=>decide (numAt xs i>numAt xs j)) ns.length=b at g1 g2⊢
    have eb:numAt xs b=ns.foldl max n:=by
     obtain⟨m1,m2⟩:=zdB ns n;have hb:b<(n::ns).length:=by simp;omega
     obtain⟨j,hj,ej⟩:=List.getElem_of_mem m2;have q1:=m1 _ (Ku hb);have q2:=g2 j (by simp at hj;omega);rw[x3 j hj,ej] at q2;rw[x3 b hb] at q2⊢;omega
    rw[eb];exact⟨.int _,H,I.kept (t':=tk) hk,⟨_,rfl⟩,q _ H (.refl H) (.val (.int _))⟩
 ·cases hf
end
end L2.LW
set_option maxHeartbeats 4000000
namespace L2.LW
open PySem PySem.W PyProof.Rows
section
variable {n:Nat} {r:Nat->Int} {cmp:Nat->Nat->(Bool->Shared->Prop)->Shared->Prop} {I:Shared->Prop}
noncomputable def kk(r:Nat->Int)(p:Array Nat)(i:Nat):Int:=r (p.getD i 0)
structure Pm (n:Nat)(r:Nat->Int)(p:Array Nat):Prop where
 perm:p.Perm (List.range n).toArray
 size:p.size=n
 lt: ∀i,i<n->p.getD i 0<n
 inj: ∀i j,i<n->j<n->i≠j->kk r p i≠kk r p j
theorem Pm.of{p:Array Nat}(hr: ∀i j,i<n->j<n->i≠j->r i≠r j)(h:p.Perm (List.range n).toArray):Pm n r p:=by
 have hs:p.size=n:=by have:=h.size_eq;simpa using this
 have hl:p.toList.Perm (List.range n):=Array.perm_iff_toList_perm.mp h
 have hlt: ∀i,i<n->p.getD i 0<n:=fun i hi=>by
  have hi':i<p.size:=by omega
  have:p[i]∈p.toList:=by simp
  have:=hl.mem_iff.mp this;rw[List.mem_range] at this;simpa [Array.getD,hi'] using this
 have hnd:p.toList.Nodup:=hl.nodup_iff.mpr List.nodup_range;refine⟨h,hs,hlt,fun i j hi hj ne=>hr _ _ (hlt i hi) (hlt j hj) fun e=>ne ?_⟩;have hi':i<p.size:=by omega
 have hj':j<p.size:=by omega
 simp only[Array.getD,hi',hj',dif_pos] at e;have e':p.toList[i]'(by simpa using hi')=p.toList[j]'(by simpa using hj'):=by simpa using e
 exact (List.getElem_inj hnd).mp e'
noncomputable def Up(r:Nat->Int)(p:Array Nat)(k:Nat):Prop:=∀i j,i<j->j<k->kk r p i<kk r p j
noncomputable def Dn(r:Nat->Int)(p:Array Nat)(k:Nat):Prop:=∀i j,i<j->j<k->kk r p j<kk r p i
theorem Up.one{p:Array Nat}{k:Nat}(h:k<=1):Up r p k:=fun i j h1 h2=>by omega
theorem Dn.one{p:Array Nat}{k:Nat}(h:k<=1):Dn r p k:=fun i j h1 h2=>by omega
theorem Up.next{p:Array Nat}{k:Nat}(h:Up r p k)(hk:1<=k)(e:kk r p (k-1)<kk r p k):Up r p (k+1):=fun i j h1 h2=>by
 by_cases hj:j=k
 ·subst hj
  by_cases hi:i=j-1
  ·rw[hi];exact e
  ·exact Int.lt_trans (h i (j-1) (by omega) (by omega)) e
 ·exact h i j h1 (by omega)
theorem Dn.next{p:Array Nat}{k:Nat}(h:Dn r p k)(hk:1<=k)(e:kk r p k<kk r p (k-1)):Dn r p (k+1):=fun i j h1 h2=>by
 by_cases hj:j=k
 ·subst hj
  by_cases hi:i=j-1
  ·rw[hi];exact e
  ·exact Int.lt_trans e (h i (j-1) (by omega) (by omega))
 ·exact h i j h1 (by omega)
theorem Pm.lt'{p:Array Nat}(P:Pm n r p){i j:Nat}(hi:i<n)(hj:j<n)(ne:i≠j)(h: ¬kk r p i<kk r p j):kk r p j<kk r p i:=by
 have:=P.inj i j hi hj ne;omega
variable (hc: ∀i j C s,i<n->j<n->I s->(∀s',I s'->C (decide (r i<r j)) s')->cmp i j C s)
include hc
theorem gN{p:Array Nat}(P:Pm n r p){Q:Nat->Shared->Prop}: ∀(f m:Nat) (s:Shared),1<=m->m+f=n->I s->Up r p m->(∀k s',I s'->m<=k->k<=n->Up r p k->(k=n\/kk r p k<kk r p (k-1))->(k=m\/kk r p m>kk r p (m-1))->Q k s')->(kas_asc p f m).kasWp cmp Q s
 |0,m,s,h1,h2,hI,hu,q=>q m s hI (Nat.le_refl _) (by omega) hu (.inl (by omega)) (.inl rfl)
 |f+1,m,s,h1,h2,hI,hu,q=>by
  refine hc _ _ _ s (P.lt m (by omega)) (P.lt (m-1) (by omega)) hI fun s' hI'=>?_
  by_cases h:kk r p m<kk r p (m-1)
  ·have e:decide (r (p.getD m 0)<r (p.getD (m-1) 0))=true:=decide_eq_true h
   simp only[e,if_true];exact q m s' hI' (Nat.le_refl _) (by omega) hu (.inr h) (.inl rfl)
  ·have e:decide (r (p.getD m 0)<r (p.getD (m-1) 0))=false:=KG h
   simp only[e,Bool.false_eq_true,if_false];have hlt:=P.lt' (by omega) (by omega) (by omega) h;exact gN P f (m+1) s' (by omega) (by omega) hI' (hu.next h1 hlt) fun k s'' hs h3 h4 h5 h6 _=>q k s'' hs (by omega) h4 h5 h6 (.inr hlt)
theorem zdC{p:Array Nat}(P:Pm n r p){Q:Array Nat×Nat×Nat->Shared->Prop}: ∀(f m:Nat) (s:Shared),1<=m->m+f=n->I s->Dn r p m->(∀k s',I s'->m<=k->k<=n->Dn r p k->Q (p,k,0) s')->(kas_desc f p m 0).kasWp cmp Q s
 |0,m,s,h1,h2,hI,hu,q=>q m s hI (Nat.le_refl _) (by omega) hu
 |f+1,m,s,h1,h2,hI,hu,q=>by
  refine hc _ _ _ s (P.lt m (by omega)) (P.lt (m-1) (by omega)) hI fun s' hI'=>?_
  by_cases h:kk r p m<kk r p (m-1)
  ·have e:decide (r (p.getD m 0)<r (p.getD (m-1) 0))=true:=decide_eq_true h
   simp only[e,if_true,Nat.lt_irrefl,if_false,gt_iff_lt];exact zdC P f (m+1) s' (by omega) (by omega) hI' (hu.next h1 h) fun k s'' hs h3 h4 h5=>q k s'' hs (by omega) h4 h5
  ·have e:decide (r (p.getD m 0)<r (p.getD (m-1) 0))=false:=KG h
   simp only[e,Bool.false_eq_true,if_false];have hlt:=P.lt' (by omega) (by omega) (by omega) h;refine hc _ _ _ s' (P.lt (m-1) (by omega)) (P.lt m (by omega)) hI' fun s'' hI''=>?_
   have e2:decide (r (p.getD (m-1) 0)<r (p.getD m 0))=true:=decide_eq_true hlt;simp only[e2,if_true];exact q m s'' hI'' (Nat.le_refl _) (by omega) hu
omit hc in
theorem Pm.rev{p:Array Nat}(hr: ∀i j,i<n->j<n->i≠j->r i≠r j)(P:Pm n r p)(i j:Nat):Pm n r (kas_rev p i j):=Pm.of hr ((mirror_perm p i j _).trans P.perm)
omit hc in
theorem zdD{p:Array Nat}{m k:Nat}(hm:m<=p.size):kk r (kas_rev p 0 m) k=if k<m then kk r p (m-1-k) else kk r p k:=by
 have e:=getElem?_mirror_all (i:=0) hm k;simp only[Nat.zero_le,true_and,Nat.zero_add] at e;by_cases h:k<m
 ·rw[if_pos h] at e⊢
  simp only[kk,kas_rev,Array.getD_eq_getD_getElem?,e]
 ·rw[if_neg h] at e⊢
  simp only[kk,kas_rev,Array.getD_eq_getD_getElem?,e]
omit hc in
theorem Dn.rev{p:Array Nat}{m:Nat}(hm:m<=p.size)(h:Dn r p m):Up r (kas_rev p 0 m) m:=fun i j h1 h2=>by
 rw[zdD hm,zdD hm,if_pos (by omega),if_pos h2];exact h _ _ (by omega) (by omega)
theorem zj4(hr: ∀i j,i<n->j<n->i≠j->r i≠r j){p:Array Nat}(P:Pm n r p){m:Nat}{s:Shared}{Q:Nat×Array Nat->Shared->Prop}(h1:1<=m)(h2:m<=n)(hI:I s)(hd:Dn r p m)
  (q: ∀k p' s',I s'->k<=n->1<=k->Pm n r p'->Up r p' k->Q (k,p') s'):(kas_tail3 m n p).kasWp cmp Q s:=by
 unfold kas_tail3;rw[KasT.kasWp_bind];have P':=P.rev hr 0 m;refine gN hc P' (n-m) m s h1 (by omega) hI (hd.rev (by rw[P.size];exact h2)) fun k s' hs h3 h4 h5 _ _=>?_
 exact q k _ s' hs h4 (by omega) P' h5
theorem zj5(hr: ∀i j,i<n->j<n->i≠j->r i≠r j){p:Array Nat}(P:Pm n r p){s:Shared}{Q:Nat×Array Nat->Shared->Prop}(h2:2<=n)(hI:I s)(hd:kk r p 1<kk r p 0)
  (q: ∀k p' s',I s'->k<=n->1<=k->Pm n r p'->Up r p' k->Q (k,p') s'):(kas_descPart 1 n p).kasWp cmp Q s:=by
 unfold kas_descPart;rw[KasT.kasWp_bind];refine zdC hc P (n-2) 2 s (by omega) (by omega) hI ((Dn.one (k:=1) (Nat.le_refl _)).next (Nat.le_refl _) hd) fun k s' hs h3 h4 h5=>?_
 simp only[Nat.lt_irrefl,if_false,gt_iff_lt];exact zj4 hc hr P (by omega) h4 hs h5 q
theorem zj6(hr: ∀i j,i<n->j<n->i≠j->r i≠r j){p:Array Nat}(P:Pm n r p){s:Shared}{Q:Nat×Array Nat->Shared->Prop}(h2:2<=n)(hI:I s)
  (q: ∀k p' s',I s'->k<=n->1<=k->Pm n r p'->Up r p' k->Q (k,p') s'):(kas_count n p).kasWp cmp Q s:=by
 unfold kas_count;rw[KasT.kasWp_bind];refine gN hc P (n-1) 1 s (Nat.le_refl _) (by omega) hI (Up.one (Nat.le_refl _)) fun k s' hs h3 h4 h5 h6 h7=>?_
 by_cases hk:k=n
 ·subst hk
  simp only[beq_self_eq_true,if_true];exact q _ p s' hs (Nat.le_refl _) h3 P h5
 ·have e:(k==n)=false:=by simpa using hk
  simp only[e,Bool.false_eq_true,if_false];by_cases h1:k>1
  ·simp only[h1,if_true]
   refine hc _ _ _ s' (P.lt 0 (by omega)) (P.lt (k-1) (by omega)) hs fun s'' hs'=>?_
   have e2:decide (r (p.getD 0 0)<r (p.getD (k-1) 0))=true:=decide_eq_true (h5 0 (k-1) (by omega) (by omega));simp only[e2,if_true];exact q _ p s'' hs' h4 h3 P h5
  ·have ek:k=1:=by omega
   subst ek;simp only[Nat.lt_irrefl,if_false,gt_iff_lt];exact zj5 hc hr P h2 hs (h6.resolve_left hk) q
theorem gO{p:Array Nat}(P:Pm n r p){k:Nat}(hk:k<n){Q:Nat->Shared->Prop}: ∀(f l h:Nat) (s:Shared),h-l<=f->l<=h->h<=k->I s->(∀i,i<l->kk r p i<kk r p k)->(∀i,h<=i->i<k->kk r p k<kk r p i)->Up r p k->
  (∀l s',I s'->l<=k->(∀i,i<l->kk r p i<kk r p k)->(∀i,l<=i->i<k->kk r p k<kk r p i)->Q l s')->(kas_place p k f l h).kasWp cmp Q s
 |0,l,h,s,hf,h1,h2,hI,hl,hh,hu,q=>q l s hI (by omega) hl fun i h3 h4=>hh i (by omega) h4
 |f+1,l,h,s,hf,h1,h2,hI,hl,hh,hu,q=>by
  unfold kas_place;by_cases hge:l>=h
  ·rw[if_pos hge]
   exact q l s hI (by omega) hl fun i h3 h4=>hh i (by omega) h4
  ·rw[if_neg hge]
   refine hc _ _ _ s (P.lt k hk) (P.lt _ (by omega)) hI fun s' hI'=>?_
   by_cases hm:kk r p k<kk r p ((l+h)/2)
   ·have e:decide (r (p.getD k 0)<r (p.getD ((l+h)/2) 0))=true:=decide_eq_true hm
    simp only[e,if_true];refine gO P hk f l ((l+h)/2) s' (by omega) (by omega) (by omega) hI' hl (fun i h3 h4=>?_) hu q;by_cases hi:i=(l+h)/2
    ·rw[hi];exact hm
    ·exact Int.lt_trans hm (hu _ _ (by omega) h4)
   ·have e:decide (r (p.getD k 0)<r (p.getD ((l+h)/2) 0))=false:=KG hm
    simp only[e,Bool.false_eq_true,if_false];have hlt:=P.lt' hk (by omega) (by omega) hm;refine gO P hk f ((l+h)/2+1) h s' (by omega) (by omega) h2 hI' (fun i h3=>?_) hh hu q;by_cases hi:i=(l+h)/2
    ·rw[hi];exact hlt
    ·exact Int.lt_trans (hu i ((l+h)/2) (by omega) (by omega)) hlt
omit hc in
theorem zdE{p:Array Nat}{k d:Nat}(hk:k<p.size)(hd:d<=k)(i:Nat):kk r (bubble p k d) i=if i=k-d then kk r p k else if k-d<i/\i<=k then kk r p (i-1) else kk r p i:=by
 have e:=getElem?_bubble hk d hd i;by_cases h:i=k-d
 ·rw[if_pos h] at e⊢
  simp only[kk,Array.getD_eq_getD_getElem?,e]
 ·rw[if_neg h] at e⊢
  by_cases h':k-d<i/\i<=k
  ·rw[if_pos h'] at e⊢
   simp only[kk,Array.getD_eq_getD_getElem?,e]
  ·rw[if_neg h'] at e⊢
   simp only[kk,Array.getD_eq_getD_getElem?,e]
theorem zdF(hr: ∀i j,i<n->j<n->i≠j->r i≠r j){Q:Array Nat->Shared->Prop}: ∀(f:Nat) (p:Array Nat) (k:Nat) (s:Shared),1<=k->k+f=n->Pm n r p->I s->Up r p k->(∀p' s',I s'->Pm n r p'->Up r p' n->Q p' s')->(kas_bin f p k).kasWp cmp Q s
 |0,p,k,s,h1,h2,P,hI,hu,q=>q p s hI P (by rw[<-h2];exact hu)
 |f+1,p,k,s,h1,h2,P,hI,hu,q=>by
  unfold kas_bin;rw[KasT.kasWp_bind];have hk:k<n:=by omega
  refine gO hc P hk k 0 k s (by omega) (Nat.zero_le _) (Nat.le_refl _) hI (fun i h=>by omega) (fun i h3 h4=>by omega) hu fun l s' hI' hl h3 h4=>?_
  have hks:k<p.size:=by rw[P.size];exact hk
  have P':Pm n r (bubble p k (k-l)):=Pm.of hr ((bubble_perm p k _).trans P.perm);refine zdF hr f _ (k+1) s' (by omega) (by omega) P' hI' (fun i j hij hj=>?_) q;rw[zdE hks (by omega),zdE hks (by omega)];have ekl:k-(k-l)=l:=by omega
  rw[ekl];by_cases hi:i=l
  ·rw[if_pos hi,if_neg (by omega)]
   rw[if_pos (by omega)];exact h4 _ (by omega) (by omega)
  ·rw[if_neg hi]
   by_cases hjl:j=l
   ·rw[if_pos hjl,if_neg (by omega)]
    exact h3 i (by omega)
   ·rw[if_neg hjl]
    by_cases hi2:l<i/\i<=k
    ·rw[if_pos hi2,if_pos (by omega)]
     exact hu _ _ (by omega) (by omega)
    ·rw[if_neg hi2]
     by_cases hj2:l<j/\j<=k
     ·rw[if_pos hj2]
      by_cases he:i=j-1
      ·omega
      ·exact hu _ _ (by omega) (by omega)
     ·rw[if_neg hj2]
      exact hu _ _ (by omega) (by omega)
theorem zj7(hr: ∀i j,i<n->j<n->i≠j->r i≠r j){s:Shared}{Q:Array Nat->Shared->Prop}(h2:2<=n)(hI:I s)(q: ∀p s',I s'->Pm n r p->Up r p n->Q p s'):(kas_sort n).kasWp cmp Q s:=by
 unfold kas_sort;rw[KasT.kasWp_bind];have P0:Pm n r (List.toArray (List.range n)):=Pm.of hr (Array.Perm.refl _);refine zj6 hc hr P0 h2 hI fun k p s' hI' hk h1 P hu=>?_
 by_cases hlt:k<n
 ·simp only[hlt,if_true]
  have e:max k 1=k:=by omega
  rw[e];exact zdF hc hr (n-k) p k s' h1 (by omega) P hI' hu q
 ·simp only[hlt,if_false]
  have e:k=n:=by omega
  exact q p s' hI' P (by rw[<-e];exact hu)
end
end L2.LW
set_option maxHeartbeats 4000000
namespace L2.LW
open PySem PySem.Spec PySem.W PyProof.Rows
section
variable {prog:Program} {w:World} {A:Around} {E:Value->Shared->Prop} {s:Shared}
theorem zdG{a:Addr}{vs:List Value}{n:Nat}{P:PySem.Fin->Shared->Prop}{κ:SortKind}(ho:s.heap.get? a=some (seqObj "list" vs.toArray n))(h64:vs.length<64){r:Nat->Int}(hr: ∀i j,i<vs.length->j<vs.length->i≠j->r i≠r j)
  (hk:2<=vs.length->∀h' tk,(∀b o,b≠a->s.heap.get? b=some o->h'.get? b=some o)->wpAny (model prog w) A (keyKind' vs.toArray) (fun κ' s'=>κ'=κ/\∃tk',s'={ s with heap:=h',toks:=tk' }) (fun _ _=>False) { s with heap:=h',toks:=tk })
  (hc: ∀i j h' tk (C:Bool->Shared->Prop),i<vs.length->j<vs.length->(∀b o,b≠a->s.heap.get? b=some o->h'.get? b=some o)->(∀tk',C (decide (r i<r j)) { s with heap:=h',toks:=tk' })->
   wpAny (model prog w) A (keyLt' κ (vs.getD i Value.none) (vs.getD j Value.none)) C (fun _ _=>False) { s with heap:=h',toks:=tk })
  (h: ∀p tk,Pm vs.length r p->Up r p vs.length->P (.done (.ret .none)) { s with heap:=sortedHeap s.heap a vs (p.toList.map fun i=>vs.getD i Value.none).toArray,toks:=tk }):
  wpAny (model prog w) A (Builtin.«list.sort» ⟨[.ref a],[]⟩) P E s:=by
 rw[list_sort_plain];have ha:a<s.heap.objs.size:=Kk ho;refine Kb (listItems_at ho rfl ?_);refine Kb (listUpdate_at ho rfl ?_ (by rw[List.size_toArray,sizeLine_eq];omega) (Nat.zero_le _));obtain⟨e1,ho1⟩: ∃e1,(s.heap.update a (Obj.mapSeq fun _=> #[])).get? a=some (seqObj "list" #[] e1):=⟨_,get?_update_seq ho (fun _=> #[])⟩;refine Kb (seqEpoch_at ho1 rfl ?_);refine Kb (wpAny_newTuple ?_ (by show vs.length<=_;rw[sizeLine_eq];omega));refine Kb (wpAny_newList ?_ (Nat.zero_le _));refine wpAny_holding ?_
 have ho6:(((s.heap.update a (Obj.mapSeq fun _=> #[])).push (seqObj "tuple" vs.toArray 0)).push (seqObj "list" #[] 0)).get? a=some (seqObj "list" #[] e1):=by
  rw[Heap.get?_push_ne _ _ _ (by rw[size_push',Heap.size_update];exact Kh (KD ha)),Heap.get?_push_ne _ _ _ (by rw[Heap.size_update];exact Kh ha)];exact ho1
 have keep: ∀b o,b≠a->s.heap.get? b=some o->(((s.heap.update a (Obj.mapSeq fun _=> #[])).push (seqObj "tuple" vs.toArray 0)).push (seqObj "list" #[] 0)).get? b=some o:=fun b o hb e=>
  Kl _ (Kl _ (by rw[Heap.get?_update_ne _ _ _ _ hb];exact e))
 show wpAny (model prog w) A _ P E { s with heap:=((s.heap.update a (Obj.mapSeq fun _=> #[])).push (seqObj "tuple" vs.toArray 0)).push (seqObj "list" #[] 0) };dsimp only;have hsz:vs.toArray.size=vs.length:=by simp
 have Zr:Pm vs.length r (List.range vs.length).toArray:=Pm.of hr (Array.Perm.refl _);by_cases h2:vs.toArray.size<2
 ·rw[if_pos h2,if_pos h2]
  refine Kb (Kc ?_);rw[StateT.run_pure];refine Kb (Kc ?_);dsimp only;refine Kb (seqEpoch_at ho6 rfl ?_);refine Kb (listUpdate_at ho6 rfl ?_ (Nat.zero_le _) (by rw[Array.size_map];show (pairsOf vs).size<=_;rw[pairsOf_size,sizeLine_eq];omega));simp only[bne_self_eq_false,Bool.false_eq_true,if_false];have hh:=h (List.range vs.length).toArray s.toks Zr (Up.one (by omega))
  have e:((List.range vs.length).toArray.toList.map fun i=>vs.getD i Value.none).toArray=(arrOf (SortSt.mk' general' (vs.toArray.zip vs.toArray) #[] 7 none)).map (·.2):=by
   show _=(vs.toArray.zip vs.toArray).map (·.2);apply Array.toList_inj.mp;simp;apply List.ext_getElem
   ·simp
   ·intro i h1 h2;simp at h1;simp[h1]
  rw[e] at hh;exact Kc hh
 ·rw[if_neg h2,if_neg h2]
  rw[hsz] at h2;have h2':2<=vs.length:=by omega
  refine Kb (Kd (hk h2' _ s.toks keep) (fun κ' s0 ⟨hκ,tk0,hs0⟩=>?_) fun _ _ x=>x.elim);subst hκ hs0
  refine Kb (Kd (kat_run (ks:=vs) (Q:=fun st' s'=>∃(p:Array Nat) (tk:Nat),Pm vs.length r p/\Up r p vs.length/\arrOf st'=p.map (kas_item (vs.toArray.zip vs.toArray))/\failedOf st'=Option.none/\
    s'={ s with heap:=((s.heap.update a (Obj.mapSeq fun _=> #[])).push (seqObj "tuple" vs.toArray 0)).push (seqObj "list" #[] 0),toks:=tk })
   (G:=fun p s'=>∃tk,Pm vs.length r p/\Up r p vs.length/\s'={ s with heap:=((s.heap.update a (Obj.mapSeq fun _=> #[])).push (seqObj "tuple" vs.toArray 0)).push (seqObj "list" #[] 0),toks:=tk })
   rfl h2' h64 (fun p st' s' a1 a2 a3 ⟨tk,a4,a5,a6⟩=>⟨p,tk,a4,a5,a2,a3,a6⟩) ?_) ?_ fun _ _ e=>e)
  ·exact zj7 (I:=fun s'=>∃tk,s'={ s with heap:=((s.heap.update a (Obj.mapSeq fun _=> #[])).push (seqObj "tuple" vs.toArray 0)).push (seqObj "list" #[] 0),toks:=tk })
    (fun i j C s' hi hj zz6 q=>by
     obtain⟨tk,hs'⟩:=zz6;subst hs';exact hc i j _ tk C hi hj keep fun tk'=>q _ ⟨tk',rfl⟩) hr h2' ⟨tk0,rfl⟩ fun p s' ⟨tk,hs'⟩ hp hu=>⟨tk,hp,hu,hs'⟩
  ·rintro⟨⟨⟩,st'⟩ s' ⟨p,tk,hp,hu,har,hf,rfl⟩
   dsimp only;have hout:=kat_snds (ks:=vs) (vs:=vs) rfl har;rw[hout];refine Kb (seqEpoch_at ho6 rfl ?_);refine Kb (listUpdate_at ho6 rfl ?_ (Nat.zero_le _) (by rw[List.size_toArray,List.length_map,Array.length_toList,hp.size,sizeLine_eq];omega));rw[hf];simp only[bne_self_eq_false,Bool.false_eq_true,if_false];exact Kc (h p tk hp hu)
theorem zj8{l:Addr}{vs:List Value}{Q:Value->Shared->Prop}{κ:SortKind}(hl:s.heap.IsList l vs.toArray)(h64:vs.length<64){r:Nat->Int}(hr: ∀i j,i<vs.length->j<vs.length->i≠j->r i≠r j)
  (hk:2<=vs.length->∀h' tk,(∀b o,s.heap.get? b=some o->h'.get? b=some o)->wpAny (model prog w) A.in1.in1 (keyKind' vs.toArray) (fun κ' s'=>κ'=κ/\∃tk',s'={ s with heap:=h',toks:=tk' }) (fun _ _=>False) { s with heap:=h',toks:=tk })
  (hc: ∀i j h' tk (C:Bool->Shared->Prop),i<vs.length->j<vs.length->(∀b o,s.heap.get? b=some o->h'.get? b=some o)->(∀tk',C (decide (r i<r j)) { s with heap:=h',toks:=tk' })->
   wpAny (model prog w) A.in1.in1 (keyLt' κ (vs.getD i Value.none) (vs.getD j Value.none)) C (fun _ _=>False) { s with heap:=h',toks:=tk })
  (h: ∀p tk,Pm vs.length r p->Up r p vs.length->Q (.ref (s.heap.objs.size+1)) { s with heap:=sortedAll s.heap vs (p.toList.map fun i=>vs.getD i Value.none).toArray,toks:=tk }):
  wpAny (model prog w) A (call (.builtin "sorted") [.ref l]) Q E s:=by
 refine Calls.call_function_entry kind_sorted plain_sorted entry_sorted (args_sorted1 _) ?_;unfold Builtin.«sorted»;refine Kb (m:=checkCount "sorted" 1 1 _) (Kc ?_);refine Kb (collect_list hl ?_ (by rw[sizeLine_eq];omega));refine Kb (wpAny_newList ?_ (by rw[sizeLine_eq];omega))
 have hsz:((s.heap.push (seqObj "list" #[] 0)).update s.heap.objs.size (Obj.mapSeq (· ++vs.toArray))).objs.size=s.heap.objs.size+1:=by
  rw[Heap.size_update,size_push']
 have hoL:(((s.heap.push (seqObj "list" #[] 0)).update s.heap.objs.size (Obj.mapSeq (· ++vs.toArray))).push (seqObj "list" vs.toArray 0)).get? (s.heap.objs.size+1)=some (seqObj "list" vs.toArray 0):=by
  rw[<-hsz];exact Heap.get?_push_size _ rfl
 have keep: ∀b o,s.heap.get? b=some o->(((s.heap.push (seqObj "list" #[] 0)).update s.heap.objs.size (Obj.mapSeq (· ++vs.toArray))).push (seqObj "list" vs.toArray 0)).get? b=some o:=fun b o q=>by
  have hlt:b<s.heap.objs.size:=Kk q;rw[Heap.get?_push_ne _ _ _ (by rw[hsz];exact Kh (KD hlt)),Heap.get?_update_ne _ _ _ _ (Kh hlt),Heap.get?_push_ne _ _ _ (Kh hlt)];exact q
 have nea: ∀b o,s.heap.get? b=some o->b≠s.heap.objs.size+1:=fun b o e=>Kh (KD (Kk e))
 show wpAny _ _ _ _ _ { s with heap:=((s.heap.push (seqObj "list" #[] 0)).update s.heap.objs.size (Obj.mapSeq (· ++vs.toArray))).push (seqObj "list" vs.toArray 0) };rw[hsz];refine Kb (wpAny_holding (wpAny_call_entry slot_list_sort ⟨_,hoL,rfl⟩ entry_list_sort (zdG (κ:=κ) (r:=r) hoL h64 hr (fun h2 h' tk hk'=>?_) (fun i j h' tk C hi hj hk' q=>?_) fun p tk hp hu=>⟨_,rfl,?_⟩) (args_list_sort _)))
 ·exact hk h2 h' tk fun b o e=>hk' b o (nea b o e) (keep b o e)
 ·exact hc i j h' tk C hi hj (fun b o e=>hk' b o (nea b o e) (keep b o e)) q
 ·exact Kc ⟨_,rfl,h p tk hp hu⟩
end
theorem jJ: ∀x:List Int,LW.lexLt x x=false
 |[]=>rfl
 |a::x=>by rw[LW.lexLt,if_pos rfl];exact jJ x
theorem Yr: ∀{x y z:List Int},LW.lexLt x y=true->LW.lexLt y z=true->LW.lexLt x z=true
 |x,[],_,h,_=>by cases x<;>simp[LW.lexLt] at h
 |_,_::_,[],_,h=>by cases h
 |[],_::_,_::_,_,_=>rfl
 |a::x,b::y,c::z,h1,h2=>by
  rw[LW.lexLt] at h1 h2⊢;by_cases e1:a=b
  ·by_cases e2:b=c
   ·rw[if_pos e1] at h1
    rw[if_pos e2] at h2;rw[if_pos (e1.trans e2)];exact Yr h1 h2
   ·rw[if_neg e2,decide_eq_true_iff] at h2
    rw[if_neg (by omega),decide_eq_true_iff];omega
  ·rw[if_neg e1,decide_eq_true_iff] at h1
   by_cases e2:b=c
   ·rw[if_neg (by omega),decide_eq_true_iff];omega
   ·rw[if_neg e2,decide_eq_true_iff] at h2
    rw[if_neg (by omega),decide_eq_true_iff];omega
theorem Vi: ∀{x y:List Int},x≠y->LW.lexLt x y=true\/LW.lexLt y x=true
 |[],[],h=>KC rfl h
 |[],_::_,_=>.inl rfl
 |_::_,[],_=>.inr rfl
 |a::x,b::y,h=>by
  rw[LW.lexLt,LW.lexLt];by_cases e:a=b
  ·rw[if_pos e,if_pos e.symm]
   exact Vi fun z=>h (by rw[e,z])
  ·rw[if_neg e,if_neg (fun z=>e z.symm),decide_eq_true_iff,decide_eq_true_iff]
   omega
noncomputable abbrev wP(x y:List Int):Prop:=LW.lexLt x y=true
theorem gP(x:List Int): ∀l,(Zj x l).Perm (x::l)
 |[]=>.refl _
 |y::r=>by
  unfold Zj;split
  ·exact .refl _
  ·exact ((gP x r).cons y).trans (.swap x y r)
theorem Vj: ∀l,(vz l).Perm l
 |[]=>.refl _
 |x::r=>(gP x _).trans ((Vj r).cons x)
theorem zdH{x:List Int}: ∀{l:List (List Int)},l.Pairwise wP->(∀y∈l,x≠y)->(Zj x l).Pairwise wP
 |[],_,_=>by simp[Zj]
 |y::r,h,hn=>by
  rw[List.pairwise_cons] at h;unfold Zj;split
  ·rename_i hx
   rw[List.pairwise_cons,List.pairwise_cons];refine⟨fun z hz=>?_,h⟩;rcases List.mem_cons.mp hz with rfl|hz
   ·exact hx
   ·exact Yr hx (h.1 z hz)
  ·rename_i hx
   have hyx:wP y x:=(Vi (hn y Ke)).resolve_left hx;rw[List.pairwise_cons];refine⟨fun z hz=>?_,zdH h.2 fun z hz=>hn z (Kf _ hz)⟩;rcases List.mem_cons.mp ((gP x r).mem_iff.mp hz) with rfl|hz
   ·exact hyx
   ·exact h.1 z hz
theorem QO: ∀{l:List (List Int)},l.Nodup->(vz l).Pairwise wP
 |[],_=>List.Pairwise.nil
 |x::r,h=>by
  rw[List.nodup_cons] at h;exact zdH (QO h.2) fun y hy e=>h.1 ((Vj r).mem_iff.mp (e▸hy))
theorem gQ: ∀{l m:List (List Int)},l.Perm m->l.Pairwise wP->m.Pairwise wP->l=m
 |[],m,h,_,_=>(List.Perm.nil_eq h)
 |x::l,[],h,_,_=>by have:=h.length_eq;simp at this
 |x::l,y::m,h,h1,h2=>by
  rw[List.pairwise_cons] at h1 h2
  have e:x=y:=by
   rcases List.mem_cons.mp (h.mem_iff.mp Ke) with e|hx
   ·exact e
   ·rcases List.mem_cons.mp (h.mem_iff.mpr Ke) with e|hy
    ·exact e.symm
    ·have q1:=h2.1 x hx
     have q2:=h1.1 y hy;have:=Yr q1 q2;rw[jJ] at this;cases this
  subst e;rw[gQ (List.Perm.cons_inv h) h1.2 h2.2]
noncomputable def xH(ks:List (List Int))(x:List Int):Int:=((ks.filter fun y=>LW.lexLt y x).length:Nat)
theorem Yt{ks:List (List Int)}{x y:List Int}(hx:x∈ks)(h:wP x y):xH ks x<xH ks y:=by
 unfold xH
 have key: ∀l:List (List Int),(l.filter fun z=>LW.lexLt z x).length<=(l.filter fun z=>LW.lexLt z y).length/\(x∈l->(l.filter fun z=>LW.lexLt z x).length<(l.filter fun z=>LW.lexLt z y).length):=by
  intro l
  induction l with
  |nil=>exact⟨Nat.le_refl _,fun z=>by cases z⟩
  |cons z l ih=>
   rw[List.filter_cons,List.filter_cons];by_cases h1:LW.lexLt z x=true
   ·have h2:=Yr h1 h
    rw[if_pos h1,if_pos h2];simp only[List.length_cons];refine⟨by omega,fun hz=>?_⟩;rcases List.mem_cons.mp hz with rfl|hz
    ·rw[jJ] at h1;cases h1
    ·have:=ih.2 hz;omega
   ·rw[if_neg h1]
    by_cases h2:LW.lexLt z y=true
    ·rw[if_pos h2]
     simp only[List.length_cons];exact⟨by omega,fun _=>by omega⟩
    ·rw[if_neg h2]
     refine⟨ih.1,fun hz=>?_⟩;rcases List.mem_cons.mp hz with rfl|hz
     ·exact KC h h2
     ·exact ih.2 hz
 have:=(key ks).2 hx;omega
theorem QP{ks:List (List Int)}{x y:List Int}(hx:x∈ks)(hy:y∈ks)(hne:x≠y):decide (xH ks x<xH ks y)=LW.lexLt x y:=by
 rcases Vi hne with h|h
 ·have:=Yt hx h
  rw[h,decide_eq_true_iff];exact this
 ·have h1:=Yt hy h
  have h2:LW.lexLt x y=false:=by
   cases e:LW.lexLt x y with
   |false=>rfl
   |true=>have:=Yr e h;rw[jJ] at this;cases this
  rw[h2,decide_eq_false_iff_not];omega
section
variable {X:Cx} {pins:List (Addr×Obj)} {σ:St} {H:Hp} {s:Shared} {W:Addr->Prop}
noncomputable def Zt(h:Heap)(v:Value)(k:List Int):Prop:=∃a o its n,v= .ref a/\h.get? a=some o/\o.cls= .type "tuple"/\o.data= .seq its n/\IntsAre its.toList k
theorem gR(I:Inv X pins σ H s): ∀{ds:List D} {xs:List V} {us:List Value} {ks:List (List Int)},Reps X.K W H ds xs->Vals xs us->tups? ds=some ks->Paired (Zt s.heap) us ks
 |_,_,_,ks,.nil,r,e=>by cases r;simp[tups?] at e;subst e;exact .nil
 |_,_,_,ks,.cons h t,r,e=>by
  cases r with
  |cons r1 r2=>
   cases h with
   |tup hH rp=>
    simp only[tups?,jo1,jo2] at e;obtain⟨k,e1,ks',e2,rfl⟩:=e;refine .cons ?_ (gR I t r2 e2);cases r1;obtain⟨its,rv,⟨o,ho,hc,n,hd⟩,_⟩:=I.tuple (.of hH);rw[rp.ofInts e1] at rv;exact⟨_,o,its.toArray,n,rfl,ho,hc,hd,by simpa using vZ rv⟩
   |_=>simp[tups?] at e
theorem Vk{α β:Type}{F:α->β->Prop}: ∀{xs:List α} {ys:List β} {i:Nat},Paired F xs ys->i<xs.length->∃x y,xs[i]? =some x/\ys[i]? =some y/\F x y
 |_,_,_,.nil,h=>by simp at h
 |_,_,0,.cons h _,_=>⟨_,_,rfl,rfl,h⟩
 |_,_,i+1,.cons _ t,h=>by
  obtain⟨x,y,h1,h2,h3⟩:=Vk (i:=i) t (by simpa using h);exact⟨x,y,by simpa using h1,by simpa using h2,h3⟩
theorem gS{h:Heap}: ∀{us:List Value} {ks:List (List Int)},Paired (Zt h) us ks->(∀k∈ks,k≠[])->∃fs,KatTups h us fs/\fs.length=us.length/\∀v∈fs,∃i t,v=Value.int i t
 |_,_,.nil,_=>⟨[],.nil,rfl,fun _ z=>by cases z⟩
 |_,_,.cons hx t,hn=>by
  obtain⟨fs,h1,h2,h3⟩:=gS t fun k hk=>hn k (Kf _ hk)
  obtain⟨a,o,its,n,rfl,ho,hc,hd,hi⟩:=hx;have hne:=hn _ Ke
  cases hi':its.toList with
  |nil=>rw[hi'] at hi;cases hi;exact KC rfl hne
  |cons v r=>
   rw[hi'] at hi
   cases hi with
   |cons i t' hr=>
    refine⟨.int i t'::fs,.cons ho hc hd (by rw[<-Array.getElem?_toList,hi'];rfl) h1,by simp[h2],fun v hv=>?_⟩;rcases List.mem_cons.mp hv with rfl|hv
    ·exact⟨_,_,rfl⟩
    ·exact h3 v hv
theorem gT{prog:Program}{w:World}{A:Around}{Q:Bool->Shared->Prop}{s:Shared}{fin:Bool}: ∀{us vs:List Value} {x y:List Int} (i:Nat),IntsAre us x->IntsAre vs y->(fin=decide (us.length<vs.length))->Q (LW.lexLt x y) s->KatLex prog w A true fin Q (us.zip vs) i s
 |_,_,_,_,i,.nil,hv,hf,q=>by
  cases hv with
  |nil=>subst hf;exact kat_nil q
  |cons j t hv=>subst hf;exact kat_nil q
 |_,_,_,_,i,.cons a t hu,hv,hf,q=>by
  cases hv with
  |nil=>subst hf;exact kat_nil q
  |cons b t' hv=>
   refine kat_cons (wpAny_eqBool_int ?_);by_cases e:a=b
   ·subst e
    have:(a==a)=true:=by simp
    rw[this];refine kat_yes (gT (i+1) hu hv (by rw[hf];simp) ?_);rw[LW.lexLt,if_pos rfl] at q;exact q
   ·have:(a==b)=false:=by simpa using e
    rw[this];refine kat_no ?_;rw[LW.lexLt,if_neg e] at q
    cases i with
    |zero=>exact oneLt_int q
    |succ i=>
     have e2:(true&&(i+1==0))=false:=rfl;rw[e2];exact kat_one _ _ (lt_int q)
theorem yL{α:Type}{l:List α}{i:Nat}{x d:α}(h:l[i]? =some x):l.getD i d=x:=by
 rw[List.getD_eq_getElem?_getD,h];rfl
theorem zdI{xs:List V}{us:List Value}(r:Vals xs us)(p:List Nat)(hp: ∀i∈p,i<us.length):Vals (p.map fun i=>xs.getD i .non) (p.map fun i=>us.getD i Value.none):=by
 induction p with
 |nil=>exact .nil
 |cons i p ih=>
  refine .cons ?_ (ih fun j hj=>hp j (Kf _ hj));have hi:=hp i Ke;have hl:=r.length;obtain⟨u,h1,h2⟩:=r.get (i:=i) (x:=xs[i]'(by omega)) (by simp);show RelV (xs.getD i .non) (us.getD i Value.none);rw[yL h1,yL (x:=xs[i]'(by omega)) (by simp)];exact h2
theorem zdJ{ds:List D}{xs:List V}(r:Reps X.K W H ds xs)(p:List Nat)(hp: ∀i∈p,i<ds.length):Reps X.K W H (p.map fun i=>ds.getD i .non) (p.map fun i=>xs.getD i .non):=by
 induction p with
 |nil=>exact .nil
 |cons i p ih=>
  refine .cons ?_ (ih fun j hj=>hp j (Kf _ hj));have hi:=hp i Ke;obtain⟨x,h1,h2⟩:=r.get (i:=i) (d:=ds[i]) (by simp);show Rep X.K W H (ds.getD i .non) (xs.getD i .non);rw[yL h1,yL (x:=ds[i]) (by simp)];exact h2
theorem zdK: ∀{ds:List D} {ks:List (List Int)},tups? ds=some ks->ds=ks.map kT
 |[],ks,e=>by simp[tups?] at e;subst e;rfl
 |d::r,ks,e=>by
  cases d with
  |tup l=>
   simp only[tups?,jo1,jo2] at e;obtain⟨k,e1,ks',e2,rfl⟩:=e;rw[zdK e2,Zm e1];rfl
  |_=>simp[tups?] at e
theorem zj9:xk X (.builtin "sorted") (VR X.K (zg .sorted)):=by
 rintro pins s σ H xs us Q I rv ⟨W,ds,r,wf,hs,hf,q⟩;replace hf:qS ds=some r:=hf;unfold qS at hf;split at hf
 case h_2=>cases hf
 rename_i l;unfold Qf at hf;split at hf
 ·rename_i ns e1
  split at hf
  ·rename_i h64
   cases hf;exact zjG (ds:=[.lst l]) I rv hs e1 h64 q
  ·cases hf
 ·rw[jo1] at hf
  obtain⟨ks,e1,hf⟩:=hf;split at hf
  case isFalse=>cases hf
  rename_i hcond;cases hf;obtain⟨h64,hnd,hne⟩:=hcond
  have hne': ∀k∈ks,k≠[]:=fun k hk e=>by
   have:=List.all_eq_true.mp hne k hk;rw[e] at this;cases this
  cases hs with
  |cons h1 t=>
   cases t;obtain⟨p,ys,rfl,hp,rp⟩:=h1.lst;obtain⟨u,rfl,ru⟩:=wz rv;cases ru;obtain⟨its,rv',pl,hz⟩:=I.list hp;have hT:=gR I rp rv' e1;have hlen:its.length=ks.length:=Paired.length hT;have hl2:=rp.length;have hl3:=rv'.length
   let r:Nat->Int:=fun i=>xH ks (ks.getD i [])
   have memk: ∀i,i<its.length->ks.getD i []∈ks:=fun i hi=>by
    rw[yL (x:=ks[i]'(by omega)) (by simp)];exact Ku _
   have injk: ∀i j,i<its.length->j<its.length->i≠j->ks.getD i []≠ks.getD j []:=fun i j hi hj ne e=>by
    rw[yL (x:=ks[i]'(by omega)) (by simp),yL (x:=ks[j]'(by omega)) (by simp)] at e;exact ne ((List.getElem_inj hnd).mp e)
   have Zu: ∀{h':Heap},(∀b o,s.heap.get? b=some o->h'.get? b=some o)->∀{v:Value} {k:List Int},Zt s.heap v k->Zt h' v k:=by
    intro h' hk v k ⟨a,o,i,n,h1,h2,h3⟩;exact⟨a,o,i,n,h1,hk _ _ h2,h3⟩
   refine zj8 (κ:=tuples' (Value.type "int" != Value.type "tuple")) (r:=r) pl.isList (by omega) (fun i j hi hj ne e=>?_) (fun h2 h' tk hk=>?_) (fun i j h' tk C hi hj hk qC=>?_) fun pm tk hpm hup=>?_
   ·rcases Vi (injk i j hi hj ne) with z|z
    ·have:=Yt (memk i hi) z
     have e:xH ks (ks.getD i [])=xH ks (ks.getD j []):=e;omega
    ·have:=Yt (memk j hj) z
     have e:xH ks (ks.getD i [])=xH ks (ks.getD j []):=e;omega
   ·obtain⟨fs,f1,f2,f3⟩:=gS (Paired.imp' (fun v k z=>Zu hk z) hT) hne'
    exact kat_kind (s:={ s with heap:=h',toks:=tk }) f1 (by omega) (fun v hv=>by obtain⟨i,t,rfl⟩:=f3 v hv;exact Looks.of_pure rfl) (by simp) ⟨rfl,tk,rfl⟩
   ·obtain⟨x1,k1,a1,a2,a3⟩:=Vk hT hi
    obtain⟨x2,k2,b1,b2,b3⟩:=Vk hT hj;rw[yL a1,yL b1];obtain⟨a,o,i1,n,rfl,c1,c2,c3,c4⟩:=Zu hk a3;obtain⟨b,o',i2,n',rfl,d1,d2,d3,d4⟩:=Zu hk b3
    have er:decide (r i<r j)=LW.lexLt k1 k2:=by
     show decide (xH ks (ks.getD i [])<xH ks (ks.getD j []))=_;by_cases e:i=j
     ·subst e
      rw[a2] at b2;cases b2;rw[jJ];simp
     ·have:=QP (memk i hi) (memk j hj) (injk i j hi hj e)
      rw[yL a2,yL b2] at this;rw[yL a2,yL b2];exact this
    rw[er] at qC;refine kat_lt (s:={ s with heap:=h',toks:=tk }) c1 c3 d1 d3 ?_;exact gT 0 c4 d4 (by simp) (qC tk)
   ·obtain⟨e,he⟩:=sortedAll_at s.heap its (pm.toList.map fun i=>its.getD i Value.none).toArray
    have hlt: ∀i∈pm.toList,i<its.length:=fun i hi=>by
     have:=(Array.perm_iff_toList_perm.mp hpm.perm).mem_iff.mp hi;simpa using this
    have fr:H (s.heap.objs.size+1)=Option.none:=I.hok.fresh (Kj _)
    have hperm:(pm.toList.map fun i=>ks.getD i []).Perm ks:=by
     have h1:=(Array.perm_iff_toList_perm.mp hpm.perm).map fun i=>ks.getD i []
     refine h1.trans (List.Perm.of_eq ?_);apply List.ext_getElem
     ·simp[hlen]
     ·intro i h1 h2;simp at h1;simp[h1,h2]
    have hupk:(pm.toList.map fun i=>ks.getD i []).Pairwise wP:=by
     rw[List.pairwise_iff_getElem];intro i j hi hj hij;rw[List.length_map,Array.length_toList,hpm.size] at hi hj;have h1:=hup i j hij (by omega);have li:=hpm.lt i hi;have lj:=hpm.lt j hj;simp only[List.getElem_map,Array.getElem_toList];have gi:pm.getD i 0=pm[i]'(by rw[hpm.size];exact hi):=by simp[Array.getD,hpm.size,hi]
     have gj:pm.getD j 0=pm[j]'(by rw[hpm.size];exact hj):=by simp[Array.getD,hpm.size,hj]
     unfold kk at h1;rw[gi] at h1 li;rw[gj] at h1 lj;have hne:pm[i]'(by rw[hpm.size];exact hi)≠pm[j]'(by rw[hpm.size];exact hj):=fun z=>by rw[z] at h1;omega
     have:=QP (memk _ li) (memk _ lj) (injk _ _ li lj hne);show LW.lexLt _ _=true;rw[<-this,decide_eq_true_iff];exact h1
    have heq:(pm.toList.map fun i=>ks.getD i [])=vz ks:=gQ (hperm.trans (Vj ks).symm) hupk (QO hnd)
    have hds:(pm.toList.map fun i=>l.getD i .non)=(vz ks).map kT:=by
     rw[<-heq,List.map_map];apply List.map_congr_left;intro i hi;have hi':=hlt i hi;rw[zdK e1];show (ks.map kT).getD i .non=kT (ks.getD i []);rw[yL (x:=kT (ks[i]'(by omega))) (by simp[show i<ks.length by omega]),yL (x:=ks[i]'(by omega)) (by simp)]
    have hrep:=zdJ rp pm.toList fun i hi=>by have:=hlt i hi;omega
    rw[hds] at hrep;have hvals:=zdI rv' pm.toList fun i hi=>hlt i hi
    refine⟨.ref (s.heap.objs.size+1),zu H (s.heap.objs.size+1) (.lst (pm.toList.map fun i=>ys.getD i .non)),I.laid (t':=tk) (fun _ _=>sortedAll_old) (Kj _) ⟨?_,_,e,hvals,?_⟩,rfl,q _ _ (yP fr _) (ZZ fr hrep)⟩
    ·rw[List.length_map,Array.length_toList,hpm.size];exact Nat.le_of_lt (Xo (by omega))
    ·simpa [seqObj] using he
end
end L2.LW
set_option maxHeartbeats 4000000
namespace L2.LW
open PySem PySem.Spec PySem.W PyProof.Rows
section
variable {X:Cx} {fn:Nat->List D->Option SV} {fa:Nat->List D->Option Ans} {fuel:Nat} {e:Expr} {pos:Pos} {sts:List Stmt} {ss:Ss}
theorem zdL{xs:Array (Int×Tok)}{ns:List Int}(h1:xs.size=ns.length)(h2: ∀i,(h:i<ns.length)->numAt xs i=ns[i]):preSum (numAt xs) xs.size=ns.sum:=by
 rw[h1]
 have key: ∀k,k<=ns.length->preSum (numAt xs) k=(ns.take k).sum:=by
  intro k
  induction k with
  |zero=>intro _;rfl
  |succ k ih=>
   intro hk;show preSum (numAt xs) k+numAt xs k=_;rw[ih (by omega),h2 k (by omega),List.take_succ_eq_append_getElem (by omega),List.sum_append];simp only[List.sum_cons,List.sum_nil];omega
 have:=key ns.length (Nat.le_refl _)
 rwa [List.take_length] at this
theorem zka(hc:X.calm=true):xk X (.builtin "sum") (VR X.K (zg .sumL)):=by
 rintro pins s σ H xs us Q I rv ⟨W,ds,r,wf,hs,hf,q⟩;replace hf:Qj ds=some r:=hf;unfold Qj at hf;split at hf
 ·rw[jo1] at hf
  obtain⟨ns,e1,hf⟩:=hf;cases hf
  cases hs with
  |cons h1 t=>
   cases t;obtain⟨p,ys,rfl,hp,rp⟩:=h1.lst;have ey:=rp.ofInts e1;subst ey;obtain⟨u,rfl,ru⟩:=wz rv;cases ru;obtain⟨its,rv',pl,hz⟩:=I.list hp;obtain⟨xs,x1,x2,x3⟩:=gM (vZ rv');have hpl:=pl.isList;rw[x1] at hpl;refine sum_intListG (I.ok.hd hc) hpl fun h' tk t' hk=>?_
   rw[zdL x2 x3];exact⟨.int _,H,I.kept (t':=tk) hk,⟨_,rfl⟩,q _ H (.refl H) (.val (.int _))⟩
 ·rw[jo1] at hf
  obtain⟨ns,e1,hf⟩:=hf;cases hf
  cases hs with
  |cons h1 t=>
   cases t;obtain⟨p,ys,rfl,hp,rp⟩:=h1.tup;have ey:=rp.ofInts e1;subst ey;obtain⟨u,rfl,ru⟩:=wz rv;cases ru;obtain⟨its,rv',pl,hz⟩:=I.tuple hp;obtain⟨xs,x1,x2,x3⟩:=gM (vZ rv');rw[x1] at pl;refine ktm_sumG (I.ok.hd hc) pl fun h' tk t' hk=>?_
   rw[zdL x2 x3];exact⟨.int _,H,I.kept (t':=tk) hk,⟨_,rfl⟩,q _ H (.refl H) (.val (.int _))⟩
 ·cases hf
end
end L2.LW
set_option maxHeartbeats 4000000
namespace L2.LW
open PySem PySem.Spec PySem.W PySem.Calls PyProof.Rows
noncomputable def RawD(h:Heap)(d:Addr)(tb:Array DictEntry)(ep:Nat):Prop:=∃o,h.get? d=some o/\o.ExactDict/\o.data= .dict tb ep
section
variable {prog:Program} {w:World} {A:Around} {E:Value->Shared->Prop} {s:Shared} {it d:Addr} {k ep:Nat} {tb:Array DictEntry} {Q:Option Value->Shared->Prop}
theorem zkb(hi:s.heap.IsKeyIter it d k tb.size ep)(hr:RawD s.heap d tb ep)(lt:k<tb.size)
  (q: ∀h2,h2.IsKeyIter it d (k+1) tb.size ep->Heap.SameBut it s.heap h2->Q (some tb[k].key) { s with heap:=h2 }):wpAny (model prog w) A (pyNext (.ref it)) Q E s:=by
 obtain⟨oi,ei,ci,di⟩:=id hi;obtain⟨ot,et,ct,dt⟩:=id hr;unfold pyNext;refine Kb (wpAny_attempt (wpAny_callSpecial?_slot (name:=Str.ofString "__next__") hi.typeIs PySem.F.slot_dict_keyiterator_next (wpAny_call_entry PySem.F.slot_dict_keyiterator_next hi.typeIs PySem.F.entry_dict_keyiterator_next ?_ (PySem.F.args_dict_keyiterator_next_1 _))));refine Kb (Kc (Kb (Kb ?_)))
 first|refine Kb (wpAny_typeNameOfWhole_keyiter hi.typeIs (Kc (Kb (wpAny_fieldsOf ei di ?_))))|refine Kb (wpAny_typeNameOf_keyiter hi.typeIs (Kc (Kb (wpAny_fieldsOf ei di ?_))))
 have own:Builtin.Dict_items.ownsTuple "dict_keyiterator"=false:=rfl;simp only[own,Bool.false_eq_true,if_false];show wpAny _ _ (if (Value.ref d==Value.none)=true then _ else _) _ _ s;rw[if_neg (by intro z;cases z)];refine Kb (Kc (Kb (wpAny_dictEntries et dt ?_)));rw[if_neg (by simp)];refine Kb (Kc (Kb (wpAny_dictEpoch et dt ?_)));rw[if_neg (by simp)];have nn: ¬((k:Int)<0):=by omega
 refine Kc ?_;simp only[nn,if_false,Int.toNat_natCast,Array.getElem?_eq_getElem lt];refine Kb ?_
 first|refine Kb (wpAny_typeNameOfWhole_keyiter hi.typeIs (Kc (Kb (wpAny_isOneOf_keyiter hi.typeIs ?_))))|refine Kb (wpAny_typeNameOf_keyiter hi.typeIs (Kc (Kb (wpAny_isOneOf_keyiter hi.typeIs ?_))))
 show wpAny _ _ (setField (.ref it) 1 (rawInt ((k:Int)+1)) >>= _) _ _ s
 have hi2:(s.heap.update it (Obj.mapFields fun fs=>fs.setIfInBounds 1 (rawInt ((k:Int)+1)))).IsKeyIter it d (k+1) tb.size ep:=
  ⟨_,Heap.get?_update_self _ ei (Obj.isFreed_of_fields (Obj.data_mapFields di _)),(Obj.cls_mapFields ..).trans ci,by rw[Obj.data_mapFields di];simp[rawInt]⟩
 refine Kb (wpAny_setField ei di (by simp) (Kb (wpAny_holding (Kb (wpAny_isOneOf_keyiter (s:={ s with heap:=s.heap.update it (Obj.mapFields fun fs=>fs.setIfInBounds 1 (rawInt ((k:Int)+1))) }) hi2.typeIs ?_)))));show wpAny _ _ (pure tb[k].key) _ _ _;exact Kc (Kc ⟨_,rfl,Kc (q _ hi2 (Heap.SameBut.update ..))⟩)
theorem zkc(hh:A.handled=none)(hi:s.heap.IsKeyIter it d tb.size tb.size ep)(hr:RawD s.heap d tb ep)(q: ∀h2,Heap.ExtBut it s.heap h2->Q none { s with heap:=h2 }):wpAny (model prog w) A (pyNext (.ref it)) Q E s:=by
 obtain⟨oi,ei,ci,di⟩:=id hi;obtain⟨ot,et,ct,dt⟩:=id hr;unfold pyNext;refine Kb (wpAny_attempt (wpAny_callSpecial?_slot (name:=Str.ofString "__next__") hi.typeIs PySem.F.slot_dict_keyiterator_next (wpAny_call_entry PySem.F.slot_dict_keyiterator_next hi.typeIs PySem.F.entry_dict_keyiterator_next ?_ (PySem.F.args_dict_keyiterator_next_1 _))));refine Kb (Kc (Kb (Kb ?_)))
 first|refine Kb (wpAny_typeNameOfWhole_keyiter hi.typeIs (Kc (Kb (wpAny_fieldsOf ei di ?_))))|refine Kb (wpAny_typeNameOf_keyiter hi.typeIs (Kc (Kb (wpAny_fieldsOf ei di ?_))))
 have own:Builtin.Dict_items.ownsTuple "dict_keyiterator"=false:=rfl;simp only[own,Bool.false_eq_true,if_false];show wpAny _ _ (if (Value.ref d==Value.none)=true then _ else _) _ _ s;rw[if_neg (by intro z;cases z)];refine Kb (Kc (Kb (wpAny_dictEntries et dt ?_)));rw[if_neg (by simp)];refine Kb (Kc (Kb (wpAny_dictEpoch et dt ?_)));rw[if_neg (by simp)];have nn: ¬((tb.size:Int)<0):=by omega
 refine Kc ?_;simp only[nn,if_false,Int.toNat_natCast,Array.getElem?_eq_none (Nat.le_refl tb.size)];refine Kb ?_
 first|refine Kb (wpAny_typeNameOfWhole_keyiter hi.typeIs (Kc ?_))|refine Kb (wpAny_typeNameOf_keyiter hi.typeIs (Kc ?_))
 show wpAny _ _ (setField (.ref it) 0 .none >>= _) _ _ s;refine Kb (wpAny_setField ei di (by simp) ?_);show wpAny _ _ (newExc (.type "StopIteration") [] >>= _) _ _ _;simp only[newExc,newTuple];refine Kb (Kb (wpAny_newObj_type (Kb (m:=firstArgMember _ _) (wpAny_of_eq (a:=Value.none) (by first|rfl|(simp only[firstArgMember];rfl)) (wpAny_newObj_type ?_ (by size_fits)))) (by size_fits)));simp only[raiseNew];refine Kb (wpAny_handled ?_);rw[show A.in1.handled=none from hh];refine Kb (Kc (wpAny_throw ?_));refine Kb (wpAny_isInstance (b:=true) (T:="StopIteration") ⟨_,Heap.get?_push_size _ rfl,rfl⟩ isSubtype_stop ?_);exact Kc (q _ (((Heap.SameBut.update ..).extBut.push _).push _))
end
theorem RawD.at{h h2:Heap}{d:Addr}{tb:Array DictEntry}{ep:Nat}(x:RawD h d tb ep)(e: ∀o,h.get? d=some o->h2.get? d=some o):RawD h2 d tb ep:=let ⟨o,ho,r⟩:=x;⟨o,e _ ho,r⟩
theorem RawD.lt{h:Heap}{d:Addr}{tb:Array DictEntry}{ep:Nat}(x:RawD h d tb ep):d<h.objs.size:=let ⟨_,ho,_⟩:=x;Kk ho
section
variable {prog:Program} {w:World}
theorem zkd{A:Around}(hh:A.handled=none)(I d:Addr)(hne:d≠I)(tb:Array DictEntry)(ep:Nat):
  Walks prog w A I [I,d] [I] tb.size (fun i v=>∃e,tb[i]? =some e/\v=e.key) (fun i h=>h.IsKeyIter I d i tb.size ep/\RawD h d tb ep) where
 sub:=fun b hb=>by rw[List.mem_singleton] at hb;rw[hb];exact Ke
 frame:=fun _ _ _ st hk=>⟨st.1.at fun o e=>hk I Ke o e,st.2.at fun o e=>hk d (Kf _ Ke) o e⟩
 item:=fun i s Q E lt st q=>zkb st.1 st.2 lt fun h2 hi2 sb=>
  q _ h2 s.toks ⟨tb[i],Array.getElem?_eq_getElem lt,rfl⟩ ⟨hi2,st.2.at fun o e=>sb.extBut d o hne e⟩ fun b o hb e=>sb.extBut b o (fun z=>hb (by rw[z];exact Ke)) e
 done:=fun s Q E st q=>zkc hh st.1 st.2 fun h2 eb=>q h2 s.toks fun b o hb e=>eb b o (fun z=>hb (by rw[z];exact Ke)) e
 self:=fun _ _ _ _ st q=>wpAny_pyIter_keyiter st.1 q
theorem zke{A:Around}{E:Value->Shared->Prop}{s:Shared}{v d:Addr}{tb:Array DictEntry}{ep:Nat}{Q:Value->Shared->Prop}(hv:KdlKeysView s.heap v d)(hr:RawD s.heap d tb ep)
  (q:Q (.ref s.heap.objs.size) { s with heap:=s.heap.push { cls:=.type "dict_keyiterator",data:=.fields #[.ref d,.int 0 0,.int tb.size 0,.int ep 0] } }):wpAny (model prog w) A (pyIter (.ref v)) Q E s:=by
 obtain⟨ov,e1,c1,d1⟩:=id hv;obtain⟨ot,et,ct,dt⟩:=id hr;refine wpAny_pyIter_slot hv.typeIs kdl_slot_keys_iter (wpAny_call_entry kdl_slot_keys_iter hv.typeIs kdl_entry_keys_iter ?_ (kdl_args_keys_iter _));unfold Builtin.«dict_keys.__iter__»;refine Kb (Kc (Kb ?_));unfold Builtin.Dict_items.dictOf;refine Kb (wpAny_field e1 d1 (x:=.ref d) rfl (Kc (Kb ?_)));unfold Builtin.Dict_items.newIterator;refine Kb (wpAny_dictEntries et dt (Kb (wpAny_dictEpoch et dt ?_)));have own:Builtin.Dict_items.ownsTuple "dict_keyiterator"=false:=rfl;simp only[own,Bool.false_eq_true,if_false];exact wpAny_newObj_type (Kc ⟨_,rfl,"dict_keyiterator",_,⟨_,Heap.get?_push_size _ rfl,rfl⟩,PySem.F.slot_dict_keyiterator_next.lookup,q⟩)
theorem zkf{r d:Addr}{tb:Array DictEntry}{ep:Nat}:KdlSrc prog w "dict_keys" r d tb.size (fun i v=>∃e,tb[i]? =some e/\v=e.key) (fun h=>KdlKeysView h r d/\RawD h d tb ep) where
 type:=fun _ x=>x.1.typeIs
 there:=fun _ x=>⟨let ⟨_,ho,_⟩:=x.1;Kk ho,x.2.lt⟩
 keep:=fun _ _ x hk=>⟨let ⟨o,ho,y⟩:=x.1;⟨o,hk r (.inl rfl) o ho,y⟩,x.2.at fun o e=>hk d (.inr rfl) o e⟩
 notList:=rfl
 notTuple:=rfl
 hint:=fun _ _ _ _ x q=>kdl_hint_keys x.1.typeIs q
 iter:=fun _ _ hh x=>⟨_,_,fun _ _ q=>zke x.1 x.2 q,zkd hh _ d (Kh x.2.lt) tb ep,⟨_,Heap.get?_push_size _ rfl,rfl,rfl⟩,x.2.at fun o e=>Kl _ e⟩
end
end L2.LW
set_option maxHeartbeats 4000000
namespace L2.LW
open PySem PySem.Spec PySem.W PySem.Calls PyProof.Rows
theorem Zu{h h':Heap}(hk: ∀b o,h.get? b=some o->h'.get? b=some o){v:Value}{k:List Int}:Zt h v k->Zt h' v k:=fun ⟨a,o,i,n,h1,h2,h3⟩=>⟨a,o,i,n,h1,hk _ _ h2,h3⟩
theorem zkg{prog:Program}{w:World}{A:Around}{s:Shared}{its:List Value}{ks:List (List Int)}(hT:Paired (Zt s.heap) its ks)(hnd:ks.Nodup)(hne': ∀k∈ks,k≠[]):
  ∃r:Nat->Int,(∀i j,i<its.length->j<its.length->i≠j->r i≠r j)/\
   (2<=its.length->∀h' tk,(∀b o,s.heap.get? b=some o->h'.get? b=some o)->wpAny (model prog w) A (keyKind' its.toArray) (fun κ' s'=>κ'=tuples' (Value.type "int" != Value.type "tuple")/\∃tk',s'={ s with heap:=h',toks:=tk' }) (fun _ _=>False) { s with heap:=h',toks:=tk })/\
   (∀i j h' tk (C:Bool->Shared->Prop),i<its.length->j<its.length->(∀b o,s.heap.get? b=some o->h'.get? b=some o)->(∀tk',C (decide (r i<r j)) { s with heap:=h',toks:=tk' })->
    wpAny (model prog w) A (keyLt' (tuples' (Value.type "int" != Value.type "tuple")) (its.getD i Value.none) (its.getD j Value.none)) C (fun _ _=>False) { s with heap:=h',toks:=tk })/\
   ∀pm,Pm its.length r pm->Up r pm its.length->(pm.toList.map fun i=>ks.getD i [])=vz ks/\∀i∈pm.toList,i<its.length:=by
 have hlen:its.length=ks.length:=Paired.length hT
 let r:Nat->Int:=fun i=>xH ks (ks.getD i [])
 have memk: ∀i,i<its.length->ks.getD i []∈ks:=fun i hi=>by
  rw[yL (x:=ks[i]'(by omega)) (by simp)];exact Ku _
 have injk: ∀i j,i<its.length->j<its.length->i≠j->ks.getD i []≠ks.getD j []:=fun i j hi hj ne e=>by
  rw[yL (x:=ks[i]'(by omega)) (by simp),yL (x:=ks[j]'(by omega)) (by simp)] at e;exact ne ((List.getElem_inj hnd).mp e)
 refine⟨r,fun i j hi hj ne e=>?_,fun h2 h' tk hk=>?_,fun i j h' tk C hi hj hk qC=>?_,fun pm hpm hup=>?_⟩
 ·rcases Vi (injk i j hi hj ne) with z|z
  ·have:=Yt (memk i hi) z
   have e:xH ks (ks.getD i [])=xH ks (ks.getD j []):=e;omega
  ·have:=Yt (memk j hj) z
   have e:xH ks (ks.getD i [])=xH ks (ks.getD j []):=e;omega
 ·obtain⟨fs,f1,f2,f3⟩:=gS (Paired.imp' (fun v k z=>Zu hk z) hT) hne'
  exact kat_kind (s:={ s with heap:=h',toks:=tk }) f1 (by omega) (fun v hv=>by obtain⟨i,t,rfl⟩:=f3 v hv;exact Looks.of_pure rfl) (by simp) ⟨rfl,tk,rfl⟩
 ·obtain⟨x1,k1,a1,a2,a3⟩:=Vk hT hi
  obtain⟨x2,k2,b1,b2,b3⟩:=Vk hT hj;rw[yL a1,yL b1];obtain⟨a,o,i1,n,rfl,c1,c2,c3,c4⟩:=Zu hk a3;obtain⟨b,o',i2,n',rfl,d1,d2,d3,d4⟩:=Zu hk b3
  have er:decide (r i<r j)=LW.lexLt k1 k2:=by
   show decide (xH ks (ks.getD i [])<xH ks (ks.getD j []))=_;by_cases e:i=j
   ·subst e
    rw[a2] at b2;cases b2;rw[jJ];simp
   ·have:=QP (memk i hi) (memk j hj) (injk i j hi hj e)
    rw[yL a2,yL b2] at this;rw[yL a2,yL b2];exact this
  rw[er] at qC;refine kat_lt (s:={ s with heap:=h',toks:=tk }) c1 c3 d1 d3 ?_;exact gT 0 c4 d4 (by simp) (qC tk)
 ·have hlt: ∀i∈pm.toList,i<its.length:=fun i hi=>by
   have:=(Array.perm_iff_toList_perm.mp hpm.perm).mem_iff.mp hi;simpa using this
  have hperm:(pm.toList.map fun i=>ks.getD i []).Perm ks:=by
   have h1:=(Array.perm_iff_toList_perm.mp hpm.perm).map fun i=>ks.getD i []
   refine h1.trans (List.Perm.of_eq ?_);apply List.ext_getElem
   ·simp[hlen]
   ·intro i h1 h2;simp at h1;simp[h1,h2]
  have hupk:(pm.toList.map fun i=>ks.getD i []).Pairwise wP:=by
   rw[List.pairwise_iff_getElem];intro i j hi hj hij;rw[List.length_map,Array.length_toList,hpm.size] at hi hj;have h1:=hup i j hij (by omega);have li:=hpm.lt i hi;have lj:=hpm.lt j hj;simp only[List.getElem_map,Array.getElem_toList];have gi:pm.getD i 0=pm[i]'(by rw[hpm.size];exact hi):=by simp[Array.getD,hpm.size,hi]
   have gj:pm.getD j 0=pm[j]'(by rw[hpm.size];exact hj):=by simp[Array.getD,hpm.size,hj]
   unfold kk at h1;rw[gi] at h1 li;rw[gj] at h1 lj;have hne:pm[i]'(by rw[hpm.size];exact hi)≠pm[j]'(by rw[hpm.size];exact hj):=fun z=>by rw[z] at h1;omega
   have:=QP (memk _ li) (memk _ lj) (injk _ _ li lj hne);show LW.lexLt _ _=true;rw[<-this,decide_eq_true_iff];exact h1
  exact⟨gQ (hperm.trans (Vj ks).symm) hupk (QO hnd),hlt⟩
noncomputable def QQ(p d:Addr):HO:=.ext fun h=>KdlKeysView h p d
section
variable {X:Cx}
theorem zkh:Xk X "dict.keys" (fun x xs H Q=>∃a kvs,x= .ref a/\xs=[]/\H a=some (.dT kvs)/\∀p,H p=Option.none->Q (.ref p) (zu H p (QQ p a))):=by
 rintro pins s σ H x xs v us Q I rx rs ⟨a,kvs,rfl,rfl,e,q⟩;cases rx;cases rs;obtain⟨_,hd,zs,_,dd⟩:=Xn I.hok e;refine wpAny_call_entry PySem.F.slot_dict_keys dd.typeIs PySem.F.entry_dict_keys ?_ (PySem.F.args_dict_keys_1 _);unfold Builtin.«dict.keys»;refine Kb ?_;unfold Builtin.Dict.noArgs;refine Kb (wpAny_notOrdered_dict dd.typeIs ?_);show wpAny _ _ (pure a) _ _ s;refine Kc ?_;show wpAny _ _ (Builtin.Dict.showsAll a >>= _) _ _ s;unfold Builtin.Dict.showsAll;rw[if_neg (by rw[hd];exact Km)];refine Kb (Kc (Kb (wpAny_newObj_type (Kc ⟨_,rfl,?_⟩))));have hv:KdlKeysView (s.heap.push { cls:=.type "dict_keys",data:=.fields #[.ref a] }) s.heap.objs.size a:=⟨_,Heap.get?_push_size _ rfl,rfl,rfl⟩
 exact⟨.ref s.heap.objs.size,_,I.laid (a:=s.heap.objs.size) (o:=QQ s.heap.objs.size a) (t':=s.toks) (fun _ _ q=>Kl _ q) (Nat.le_refl _)
  ⟨hv,⟨_,Heap.get?_push_size _ rfl⟩,fun h1 h2 ⟨o,z1,z2⟩ k=>⟨o,k o z1,z2⟩⟩,rfl,q _ (I.hok.fresh (Nat.le_refl _))⟩
theorem zdM{K:Ka}{W:Addr->Prop}{H:Hp}: ∀l:List Int,Reps K W H (l.map D.int) (l.map V.int)
 |[]=>.nil
 |i::r=>.cons (.int i) (zdM r)
theorem zdN{K:Ka}{W:Addr->Prop}{H:Hp}: ∀{ns:List (List Int)} {ys:List V} {zs:List (List zw×Addr×Value)},ns.length=ys.length->
  Paired (fun (p:List zw×V) (q:List zw×Addr×Value)=>p.1=q.1/\H q.2.1=some (.tup (p.1.map kV))/\RelV p.2 q.2.2) (yz ns ys) zs->
  Reps K W H (ns.map kT) (zs.map fun x=>V.ref x.2.1)/\Vals (zs.map fun x=>V.ref x.2.1) (zs.map fun x=>Value.ref x.2.1)/\zs.length=ns.length
 |[],[],_,_,.nil=>⟨.nil,.nil,rfl⟩
 |n::ns,y::ys,_,hl,.cons h t=>by
  obtain⟨h1,h2,h3⟩:=zdN (ns:=ns) (ys:=ys) (by simpa using hl) t;refine⟨.cons (.tup (xs:=n.map V.int) ?_ (zdM n)) h1,.cons rfl h2,by simp[h3]⟩;have:=h.2.1;rw[Yc] at this;exact this
theorem zki(hc:X.calm=true):xk X (.builtin "sorted") (fun xs H Q=>∃p a,xs=[.ref p]/\H p=some (QQ p a)/\VR X.K (zg .skeys) [.ref a] H Q):=by
 rintro pins s σ H xs us Q I rv ⟨p,a,rfl,hp,W,ds,r,wf,hs,hf,q⟩;obtain⟨d,rfl,h1⟩:=XM hs;replace hf:Xw [d]=some r:=hf;unfold Xw at hf;split at hf
 case h_2=>cases hf
 rename_i ks vs z;cases z;obtain⟨a',ns,ys,e,rfl,hH,hl,_⟩:=h1.dT;cases e;obtain⟨u,rfl,ru⟩:=wz rv;cases ru
 have hks:tups? (ns.map kT)=some ns:=by
  clear hf hs h1 hl hH
  induction ns with
  |nil=>rfl
  |cons n r ih=>
   have: ∀l:List Int,ints? (l.map D.int)=some l:=fun l=>by induction l with
    |nil=>rfl
    |cons x l ih=>simp[ints?,ih]
   simp[tups?,kT,this,ih]
 unfold Xv at hf;rw[hks] at hf;simp only[Option.bind_some] at hf;split at hf
 case isFalse=>cases hf
 rename_i hcond;cases hf;obtain⟨h64,hnd,hne⟩:=hcond
 have hne': ∀k∈ns,k≠[]:=fun k hk e=>by
  have:=List.all_eq_true.mp hne k hk;rw[e] at this;cases this
 obtain⟨_,hd,zs,rel,o,es,ep,g1,g2,g3,g4,g5⟩:=(show ObjOk X.prog X.w H s.heap a (.dT (yz ns ys)) from I.hok a _ hH);have hview:KdlKeysView s.heap p a:=(show ObjOk X.prog X.w H s.heap p (QQ p a) from I.hok p _ hp).1;obtain⟨rp,rv',zl⟩:=zdN (K:=X.K) (W:=W) hl rel;have hT:=gR I rp rv' hks;obtain⟨r,f1,f2,f3,f4⟩:=zkg (prog:=X.prog) (w:=X.w) (A:=X.A.in1.in1) hT hnd hne';have il:(zs.map fun x=>Value.ref x.2.1).length=ns.length:=by rw[List.length_map,zl]
 have esz:es.size=ns.length:=by rw[<-Array.length_toList,g4,List.length_map,zl]
 refine Calls.call_function_entry kind_sorted plain_sorted entry_sorted (args_sorted1 _) ?_;unfold Builtin.«sorted»;refine Kb (m:=checkCount "sorted" 1 1 _) (Kc ?_);refine Kb (kdu_collect (A:=X.A.in1) zkf (I.ok.hd hc) ⟨hview,o,g1,g2,g3⟩ (by rw[sizeLine_eq];omega) fun h2 tk acc hk hacc=>?_)
 have ea:acc.toList=zs.map fun x=>Value.ref x.2.1:=by
  apply List.ext_getElem?;intro j;have sz:acc.size=es.size:=hacc.1;by_cases hj:j<acc.size
  ·have h3:acc.toList[j]? =some acc[j]:=by simp[hj]
   obtain⟨e,e1,e2⟩:=hacc.2 j acc[j] (by simp[hj]);rw[h3,e2];rw[<-Array.getElem?_toList,g4,List.getElem?_map,jo2] at e1;obtain⟨x,e3,e4⟩:=e1;rw[List.getElem?_map,e3,<-e4];rfl
  ·rw[List.getElem?_eq_none (by simpa using hj),List.getElem?_eq_none (by rw[il];omega)]
 rw[ea];refine Kb (wpAny_newList ?_ (by rw[il,sizeLine_eq];omega));generalize hits:(zs.map fun x=>Value.ref x.2.1)=its at*;have hoL:(h2.push (seqObj "list" its.toArray 0)).get? h2.objs.size=some (seqObj "list" its.toArray 0):=Heap.get?_push_size _ rfl;have keep: ∀b q,s.heap.get? b=some q->(h2.push (seqObj "list" its.toArray 0)).get? b=some q:=fun b q e=>Kl _ (hk b q e)
 have nea: ∀b q,s.heap.get? b=some q->b≠h2.objs.size:=fun b q e=>Kh (Kk (hk b q e))
 have I2:=I.kept (t':=tk) hk;show wpAny _ _ _ _ _ { s with heap:=h2.push (seqObj "list" its.toArray 0),toks:=tk };refine Kb (wpAny_holding (wpAny_call_entry slot_list_sort ⟨_,hoL,rfl⟩ entry_list_sort (zdG (s:={ s with heap:=h2.push (seqObj "list" its.toArray 0),toks:=tk }) (κ:=tuples' (Value.type "int" != Value.type "tuple")) (r:=r) hoL (by omega) f1 (fun z2 h' tk hk'=>?_) (fun i j h' tk C hi hj hk' q=>?_) fun pm tk hp hu=>⟨_,rfl,?_⟩) (args_list_sort _)))
 ·exact f2 z2 h' tk fun b o e=>hk' b o (nea b o e) (keep b o e)
 ·exact f3 i j h' tk C hi hj (fun b o e=>hk' b o (nea b o e) (keep b o e)) q
 ·obtain⟨heq,hlt⟩:=f4 pm hp hu
  refine Kc ⟨_,rfl,?_⟩;obtain⟨e,he⟩:=sortedHeap_at (out:=(pm.toList.map fun i=>its.getD i Value.none).toArray) hoL;have fr:H h2.objs.size=Option.none:=I2.hok.fresh (Nat.le_refl _)
  have hds:(pm.toList.map fun i=>(ns.map kT).getD i .non)=(vz ns).map kT:=by
   rw[<-heq,List.map_map];apply List.map_congr_left;intro i hi;have hi':=hlt i hi;show (ns.map kT).getD i .non=kT (ns.getD i []);rw[yL (x:=kT (ns[i]'(by omega))) (by simp[show i<ns.length by omega]),yL (x:=ns[i]'(by omega)) (by simp)]
  have hrep:=zdJ rp pm.toList fun i hi=>by have:=hlt i hi;simp;omega
  rw[hds] at hrep;have hvals:=zdI rv' pm.toList fun i hi=>hlt i hi
  have rn:=ZZ fr hrep;refine⟨.ref h2.objs.size,_,I2.laid (a:=h2.objs.size) (h':=sortedHeap (h2.push (seqObj "list" its.toArray 0)) h2.objs.size its (pm.toList.map fun i=>its.getD i Value.none).toArray) (o:=.lst (pm.toList.map fun i=>(zs.map fun x=>V.ref x.2.1).getD i .non)) (t':=tk) (fun b o q=>?_) (Nat.le_refl _) ⟨?_,_,e,hvals,?_⟩,rfl,q _ _ (yP fr _) rn⟩
  ·have lt:b<h2.objs.size:=Kk q
   have q':=Kl (seqObj "list" its.toArray 0) q;rw[sortedHeap_old (Kh lt) (Kk q')];exact q'
  ·rw[List.length_map,Array.length_toList,hp.size];exact Nat.le_of_lt (Xo (by omega))
  ·simpa [seqObj] using he
end
end L2.LW
set_option maxHeartbeats 4000000
namespace L2.LW
open PySem PySem.Spec PySem.W PySem.Calls PyProof.Rows
section
variable {X:Cx} {fn:Nat->List D->Option SV} {fa:Nat->List D->Option Ans} {fuel:Nat} {a b c e:Expr} {ca cb cc ce:E} {pos p:Pos} {x:Str}
theorem zkj{apos cpos:Pos}(hc:X.calm=true)(hg:Gl X "sorted")(hm:X.mg "sorted"=Option.none)(ha:IE X fn a ca)
  (hst:starEach [Expr.Call (.Attribute a "keys" apos) [] [] cpos] X.env=(false,eval (Expr.Call (.Attribute a "keys" apos) [] [] cpos) X.env)::starEach [] X.env:=by rfl)
  (hbase:attributeBase a "keys" X.env (eval a X.env)=eval a X.env:=by rfl) (hline:(apos.endLine==cpos.line)=true:=by rfl):
  IE X fn (.Call (.Name "sorted" p) [.Call (.Attribute a "keys" apos) [] [] cpos] [] pos) (.prim .skeys (.cons ca .nil)):=
 .mk <| (qH (zki hc) hg hm PyProof.Rows.boot_sorted (xX (qJ PySem.F.plainAttrs_dict PySem.F.slot_dict_keys PySem.F.type_dict_keys zkh ha.v hbase hline) wL hst) (by decide) (by decide) hst zi).imp fun σ H Q zz3=>by
  obtain⟨W,ρ,r,hR,he,q⟩:=zz3;simp only[vg,xY,xZ,jo1,jo2] at he;obtain⟨rs,⟨r1,e1,rs',e3,rfl⟩,e4⟩:=he;cases e3;refine⟨W,ρ,r1,hR,e1,fun v1 H1 s1 f1=>?_⟩;have hsee:=gf (.cons f1 .nil);have e5:Xw [zI r1]=some r:=e4;unfold Xw at e5;split at e5
  case h_2=>cases e5
  rename_i ks vs z;have z1:zI r1= .dct true ks vs:=by simpa using z
  obtain⟨d0,ed,hs⟩:=XM hsee;simp at ed;subst ed;rw[z1] at hs;obtain⟨a0,ns,ys,rfl,rfl,hH,hl,_⟩:=hs.dT;refine⟨.inr (.inr (.inl ⟨rfl,.inr ⟨_,hH⟩⟩)),a0,_,rfl,rfl,hH,fun p0 hp0=>?_⟩;exact⟨p0,a0,rfl,yn,XR hR (s1.trans (yP hp0 _)) (.cons (f1.same (yP hp0 _)) .nil) e4 q⟩
end
end L2.LW
set_option maxHeartbeats 4000000
namespace L2.LW
open PySem PySem.Spec PySem.W PySem.Calls PyProof.Rows
noncomputable def vv(i:Nat):Int:=reduceHash (Builtin.Tuple.tupleHashOf [hashInt ((i/8:Nat):Int),hashInt ((i%8:Nat):Int)])
theorem zkk:((List.range 64).map vv).Nodup:=by decide+kernel
theorem zdO{P:Program}{w:World}{a b:Int}(h:0<=a/\a<=7/\0<=b/\b<=7):(a*8+b).toNat<64/\tupleKeyHash (zY P w) [Sum.inl a,Sum.inl b]=vv (a*8+b).toNat:=by
 refine⟨by omega,?_⟩;unfold vv;rw[show (((a*8+b).toNat/8:Nat):Int)=a by omega,show (((a*8+b).toNat%8:Nat):Int)=b by omega];rfl
noncomputable def Zv(k:List zw):Prop:=∃a b:Int,k=[Sum.inl a,Sum.inl b]/\0<=a/\a<=7/\0<=b/\b<=7
theorem zkl{P:Program}{w:World}{k k':List zw}(h:Zv k)(h':Zv k')(e:tupleKeyHash (zY P w) k=tupleKeyHash (zY P w) k'):k=k':=by
 obtain⟨a,b,rfl,r⟩:=h;obtain⟨c,d,rfl,r'⟩:=h';obtain⟨l1,e1⟩:=zdO (P:=P) (w:=w) r;obtain⟨l2,e2⟩:=zdO (P:=P) (w:=w) r';rw[e1,e2] at e;have e3:((List.range 64).map vv)[(a*8+b).toNat]'(by rw[List.length_map,List.length_range];exact l1)=((List.range 64).map vv)[(c*8+d).toNat]'(by rw[List.length_map,List.length_range];exact l2):=by simpa using e
 have:=(List.getElem_inj zkk).mp e3;have ea:a=c:=by omega
 have eb:b=d:=by omega
 rw[ea,eb]
section
variable {prog:Program} {w:World} {K:Type} [DecidableEq K] {knd:HeapKind prog w K} {A:Around} {E:Value->Shared->Prop} {s:Shared}
theorem zdP{d a:Addr}{xs:List (K×Addr×Value)}{k:K}{v:Value}{Q:Unit->Shared->Prop}(hu:knd.room A)(hkey:knd.is s.heap k a)(hm:s.heap.DictOfH knd d xs)(hsz:xs.length<=sizeLine)
  (q: ∀h2,h2.DictOfH knd d (storedH xs k a v)->Heap.SameBut d s.heap h2->Q () { s with heap:=h2 }):wpAny (model prog w) A (dictSetHashed d (.ref a) (knd.hash k) v) Q E s:=by
 obtain⟨ob,tb,ep,e1,ex,e2,e3,al,nd⟩:=hm;have lz:=size_of_entries e3;unfold dictSetHashed
 try with_reducible refine wpAny_holding ?_
 refine Kb (wpAny_dictFind_heap hu hkey e1 e2 e3 al nd (fun no=>?_) fun j p hj=>?_)
 ·have ak:=atKey_none_of_get no
  have nm:=not_mem_keys_of_get no;refine Kb (wpAny_rule (wpAny_updateDictKeys (hz:=by omega) e1 e2 (q _ ?_ (Heap.SameBut.update ..))));rw[storedH_new ak];refine⟨_,_,ep+1,Heap.get?_update_self _ e1 (Obj.isFreed_of_dict (Obj.data_mapDictKeys e2 _)),ex.mapDictKeys _,Obj.data_mapDictKeys e2 _,by simp[e3,entryOfKey],fun z hz=>?_,?_⟩
  ·rcases List.mem_append.mp hz with hz|hz
   ·exact knd.keeps (al z hz) e1 e2 (Heap.SameBut.update ..)
   ·rw[List.mem_singleton] at hz
    rw[hz];exact knd.keeps hkey e1 e2 (Heap.SameBut.update ..)
  ·rw[List.map_append,List.nodup_append]
   exact⟨nd,by simp,fun y hy z hz e=>nm (by simp at hz;rw[<-hz,<-e];exact hy)⟩
 ·have ak:=atKey_of_get nd hj
  refine Kb (wpAny_rule (Kb (wpAny_updateDict e1 e2 (wpAny_point (q _ ?_ (Heap.SameBut.update ..))))));rw[storedH_old ak];refine⟨_,_,ep,Heap.get?_update_self _ e1 (Obj.isFreed_of_dict (Obj.data_mapDict e2 _)),ex.mapDict _,Obj.data_mapDict e2 _,?_,fun z hz=>?_,?_⟩
  ·have mm:=modify_map_putAt (entryOfKey knd) (fun t:DictEntry=>{ t with val:=v }) k v (fun _ _=>rfl) nd hj
   rw[<-e3] at mm;obtain⟨l⟩:=tb;simpa using mm
  ·obtain⟨y,hy,rfl⟩:=List.mem_map.mp hz
   unfold putAt;split<;>exact knd.keeps (al y hy) e1 e2 (Heap.SameBut.update ..)
  ·rw[keys_map_putAt];exact nd
noncomputable def wg(xs zs:List (K×Addr×Value)):List (K×Addr×Value):=zs.foldl (fun acc z=>storedH acc z.1 z.2.1 z.2.2) xs
theorem zkm(xs:List (K×Addr×Value))(k:K)(a:Addr)(v:Value):(storedH xs k a v).length<=xs.length+1:=by
 unfold storedH;split<;>simp
theorem gU(xs:List (K×Addr×Value)): ∀zs:List (K×Addr×Value),(wg xs zs).length<=xs.length+zs.length:=fun zs=>by
 induction zs generalizing xs with
 |nil=>simp[wg]
 |cons z r ih=>
  have h1:=ih (storedH xs z.1 z.2.1 z.2.2);have h2:=zkm xs z.1 z.2.1 z.2.2;show (wg (storedH xs z.1 z.2.1 z.2.2) r).length<=_;simp;omega
theorem zdQ: ∀(zs xs:List (K×Addr×Value)),((xs++zs).map (·.1)).Nodup->wg xs zs=xs++zs
 |[],xs,_=>by simp[wg]
 |z::r,xs,h=>by
  have ak:atKey xs z.1=none:=atKey_none_of_get fun j p hj=>by
   rw[List.map_append,List.map_cons,List.nodup_append] at h;exact h.2.2 z.1 (List.mem_map.mpr ⟨(z.1,p),Kz hj,rfl⟩) z.1 Ke rfl
  show wg (storedH xs z.1 z.2.1 z.2.2) r=_;rw[storedH_new ak,zdQ r _ (by simpa using h)];simp
theorem zdR(xs zs:List (K×Addr×Value))(i:Nat)(z:K×Addr×Value)(h:zs[i]? =some z):wg xs (zs.take (i+1))=storedH (wg xs (zs.take i)) z.1 z.2.1 z.2.2:=by
 simp[wg,List.take_add_one,h,List.foldl_append]
end
section
variable {P:Program} {w:World} {A:Around} {E:Value->Shared->Prop} {s:Shared}
theorem zkn{id:String}{d:Addr}{ob:Obj}{tb:Array DictEntry}{ep:Nat}{zs:List (List zw×Addr×Value)}{Q:Array DictEntry->Shared->Prop}(e1:s.heap.get? d=some ob)(e2:ob.data= .dict tb ep)(e3:tb.toList=zs.map (entryOfKey (tupleKind (zY P w))))
  (al: ∀z∈zs,(tupleKind (zY P w)).is s.heap z.1 z.2.1) (nd:(zs.map (·.1)).Nodup) (sm: ∀z∈zs,Zv z.1) (q:Q tb s):wpAny (model P w) A (Builtin.Dict.entriesForEmpty id d) Q E s:=by
 unfold Builtin.Dict.entriesForEmpty;refine Kb (wpAny_dictEntries e1 e2 (Kb ?_));rw[<-Array.forIn_toList];refine wpAny_forIn_list _ (fun zO _ s'=>s'=s/\∀t∈zO,t∈tb.toList) _ (fun t zO b s' ⟨hs,hall⟩=>?_) (fun b s' ⟨hs,_⟩=>?_) _ _ ⟨rfl,fun t ht=>ht⟩
 ·subst hs
  have ht:=hall t Ke;have ht2:=ht;rw[e3] at ht2;obtain⟨z,hz,rfl⟩:=List.mem_map.mp ht2;have tq:=al z hz;have nxt:(s'=s'/\∀t∈zO,t∈tb.toList):=⟨rfl,fun y hy=>hall y (Kf _ hy)⟩;refine Kb ?_;show wpAny _ _ (Builtin.Dict.quietEq (.ref z.2.1)) _ _ _;unfold Builtin.Dict.quietEq;refine Kb (wpAny_specialOf (IsTupleKey.typeIs tq) PySem.F.slot_tuple_eq.lookup (Kc ?_))
  have one: ¬(tb.filter fun y=>y.hash==(entryOfKey (tupleKind (zY P w)) z).hash).size>1:=by
   intro big
   have:(tb.toList.filter fun y=>y.hash==(entryOfKey (tupleKind (zY P w)) z).hash).length>1:=by
    have:=big;rw[<-Array.length_toList,Array.toList_filter] at this;exact this
   rw[e3,List.filter_map,List.length_map] at this;have nd2:zs.Nodup:=(List.pairwise_map.mp nd).imp fun h e=>h (by rw[e])
   have le:(zs.filter ((fun y=>y.hash==(entryOfKey (tupleKind (zY P w)) z).hash)∘entryOfKey (tupleKind (zY P w)))).length<=[z].length:=by
    have key: ∀y∈zs.filter ((fun y=>y.hash==(entryOfKey (tupleKind (zY P w)) z).hash)∘entryOfKey (tupleKind (zY P w))),y=z:=fun y hy=>by
     rw[List.mem_filter] at hy;obtain⟨hy1,hy2⟩:=hy;have eh:tupleKeyHash (zY P w) y.1=tupleKeyHash (zY P w) z.1:=by simpa [entryOfKey,tupleKind] using hy2
     have ek:=zkl (sm y hy1) (sm z hz) eh;obtain⟨i,hi,rfl⟩:=List.getElem_of_mem hy1;obtain⟨j,hj,rfl⟩:=List.getElem_of_mem hz;have:i=j:=(List.getElem_inj nd (h₀:=by simpa using hi) (h₁:=by simpa using hj)).mp (by simpa using ek);subst this;rfl
    have nf:=nd2.filter ((fun y=>y.hash==(entryOfKey (tupleKind (zY P w)) z).hash)∘entryOfKey (tupleKind (zY P w)));generalize zs.filter ((fun y=>y.hash==(entryOfKey (tupleKind (zY P w)) z).hash)∘entryOfKey (tupleKind (zY P w)))=L at key nf
    match L,nf,key with
    |[],_,_=>simp
    |[_],_,_=>simp
    |x::y::r,nf,key=>
     have h1:=key x (by simp);have h2:=key y (by simp);rw[h1,h2] at nf;simp at nf
   simp at le;omega
  have ne:((some (Value.builtin "tuple.__eq__")==some (Value.builtin "object.__eq__"))=false):=by decide
  rw[ne];simp only[Bool.not_false,if_true];rw[if_neg one];exact Kc nxt
 ·subst hs
  exact Kc q
theorem zko{nm:String}{d o:Addr}{xs zs:List (List zw×Addr×Value)}{Q:Unit->Shared->Prop}(hu:A.units<cLine)(ne:d≠o)(hoS:(o==sysModules)=false)
  (hd:s.heap.DictOfH (tupleKind (zY P w)) d xs) (ho:s.heap.DictOfH (tupleKind (zY P w)) o zs) (sm: ∀z∈zs,Zv z.1) (hsz:xs.length+zs.length<sizeLine)
  (q: ∀h2,h2.DictOfH (tupleKind (zY P w)) d (wg xs zs)->Heap.SameBut d s.heap h2->Q () { s with heap:=h2 }):wpAny (model P w) A (Builtin.Dict.mergeDict nm d o) Q E s:=by
 obtain⟨od,td,pd,d1,d2,d3,d4,d5,d6⟩:=id hd;obtain⟨oo,to,po,o1,o2,o3,o4,o5,o6⟩:=id ho;have lz:=size_of_entries o4;have lx:=size_of_entries d4;unfold Builtin.Dict.mergeDict;rw[if_neg (by simpa using ne)];unfold Builtin.Dict.showsAll;rw[if_neg (by rw[hoS];exact Km)];refine Kb (Kc (Kb (wpAny_dictEntries o1 o3 ?_)));dsimp only;split
 ·refine Kb (wpAny_dictEntries d1 d3 ?_)
  split
  ·rename_i em
   have x0:xs=[]:=List.length_eq_zero_iff.mp (by rw[<-lx,Array.isEmpty_iff.mp em];rfl);subst x0;refine Kb (zkn o1 o3 o4 o5 o6 sm ?_);split
   ·refine Kb (wpAny_updateDictKeysTo d1 d3 (Kc (q _ ?_ (Heap.SameBut.update ..))) (by omega))
    rw[zdQ zs [] (by simpa using o6)];exact⟨_,_,pd+1,Heap.get?_update_self _ d1 (Obj.isFreed_of_dict (Obj.data_mapDictKeys d3 _)),d2.mapDictKeys _,Obj.data_mapDictKeys d3 _,o4,fun z hz'=>(tupleKind (zY P w)).keeps (o5 z hz') d1 d3 (Heap.SameBut.update ..),o6⟩
   ·rename_i h0
    have e0:to.size=0:=by
     have:to.isEmpty=true:=by simpa using h0
     rw[Array.isEmpty_iff.mp this];rfl
    have z0:zs=[]:=List.length_eq_zero_iff.mp (by omega);subst z0;exact Kc (q _ (by simpa [wg] using hd) (Heap.SameBut.refl _ _))
  ·refine Kb (wpAny_dictEpoch o1 o3 (Kb (wpAny_dictEntries o1 o3 (Kb ?_))))
   rw[Std.Legacy.Range.forIn_eq_forIn_range'];simp only[Nat.div_one,Nat.add_sub_cancel,Nat.sub_zero,Std.Legacy.Range.size]
   refine wpAny_forIn_list _ (fun zO _ s'=>∃h2 i,s'={ s with heap:=h2 }/\zO=List.range' i (to.size-i)/\i<=to.size/\h2.DictOfH (tupleKind (zY P w)) d (wg xs (zs.take i))/\h2.get? o=some oo/\Heap.SameBut d s.heap h2)
    _ (fun x zO b s'=>?_) (fun b s'=>?_) _ _ ⟨s.heap,0,rfl,by simp,Nat.zero_le _,by simpa [wg] using hd,o1,Heap.SameBut.refl _ _⟩
   ·rintro⟨h2,i,rfl,er,hi,hd2,oh,sb⟩
    have lt:i<to.size:=by
     by_cases z:i<to.size
     ·exact z
     ·rw[show to.size-i=0 by omega] at er;simp at er
    rw[show to.size-i=(to.size-(i+1))+1 by omega,List.range'_succ] at er;injection er with ex erest;subst ex;refine Kb (wpAny_dictEntries oh o3 ?_);obtain⟨z,ez⟩: ∃z,zs[x]? =some z:=⟨zs[x]'(by omega),List.getElem?_eq_getElem _⟩;have et:to[x]? =some (entryOfKey (tupleKind (zY P w)) z):=by rw[entry_at o4 x,ez];rfl
    rw[et];show wpAny _ _ (holding [Value.ref z.2.1,z.2.2] (dictSetHashed d (.ref z.2.1) ((tupleKind (zY P w)).hash z.1) z.2.2) >>= _) _ _ _;have hz:=Kz ez;have ml:=gU xs (zs.take x);have tl:(zs.take x).length<=zs.length:=by rw[List.length_take];omega
    refine Kb (wpAny_holding (zdP (s:={ s with heap:=h2 }) hu ((tupleKind (zY P w)).keeps (o5 z hz) d1 d3 sb) hd2 (by omega) fun h3 hd3 sb3=>?_));have oh3:h3.get? o=some oo:=(sb3.2 o (Ne.symm ne)).trans oh;refine Kb (wpAny_dictEpoch (s:={ s with heap:=h3 }) oh3 o3 ?_);rw[if_neg (by simp)];exact Kc ⟨h3,x+1,rfl,erest,lt,by rw[zdR xs zs x z ez];exact hd3,oh3,sb.trans sb3⟩
   ·rintro⟨h2,i,rfl,er,hi,hd2,oh,sb⟩
    have:i=to.size:=by
     by_cases z:i<to.size
     ·rw[show to.size-i=(to.size-(i+1))+1 by omega,List.range'_succ] at er;cases er
     ·omega
    rw[this,lz,List.take_length] at hd2;exact Kc (q h2 hd2 sb)
 ·refine Kb (wpAny_dictEpoch o1 o3 (Kb (wpAny_dictEntries o1 o3 (Kb ?_))))
  rw[Std.Legacy.Range.forIn_eq_forIn_range'];simp only[Nat.div_one,Nat.add_sub_cancel,Nat.sub_zero,Std.Legacy.Range.size]
  refine wpAny_forIn_list _ (fun zO _ s'=>∃h2 i,s'={ s with heap:=h2 }/\zO=List.range' i (to.size-i)/\i<=to.size/\h2.DictOfH (tupleKind (zY P w)) d (wg xs (zs.take i))/\h2.get? o=some oo/\Heap.SameBut d s.heap h2)
   _ (fun x zO b s'=>?_) (fun b s'=>?_) _ _ ⟨s.heap,0,rfl,by simp,Nat.zero_le _,by simpa [wg] using hd,o1,Heap.SameBut.refl _ _⟩
  ·rintro⟨h2,i,rfl,er,hi,hd2,oh,sb⟩
   have lt:i<to.size:=by
    by_cases z:i<to.size
    ·exact z
    ·rw[show to.size-i=0 by omega] at er;simp at er
   rw[show to.size-i=(to.size-(i+1))+1 by omega,List.range'_succ] at er;injection er with ex erest;subst ex;refine Kb (wpAny_dictEntries oh o3 ?_);obtain⟨z,ez⟩: ∃z,zs[x]? =some z:=⟨zs[x]'(by omega),List.getElem?_eq_getElem _⟩;have et:to[x]? =some (entryOfKey (tupleKind (zY P w)) z):=by rw[entry_at o4 x,ez];rfl
   rw[et];show wpAny _ _ (holding [Value.ref z.2.1,z.2.2] (dictSetHashed d (.ref z.2.1) ((tupleKind (zY P w)).hash z.1) z.2.2) >>= _) _ _ _;have hz:=Kz ez;have ml:=gU xs (zs.take x);have tl:(zs.take x).length<=zs.length:=by rw[List.length_take];omega
   refine Kb (wpAny_holding (zdP (s:={ s with heap:=h2 }) hu ((tupleKind (zY P w)).keeps (o5 z hz) d1 d3 sb) hd2 (by omega) fun h3 hd3 sb3=>?_));have oh3:h3.get? o=some oo:=(sb3.2 o (Ne.symm ne)).trans oh;refine Kb (wpAny_dictEpoch (s:={ s with heap:=h3 }) oh3 o3 ?_);rw[if_neg (by simp)];exact Kc ⟨h3,x+1,rfl,erest,lt,by rw[zdR xs zs x z ez];exact hd3,oh3,sb.trans sb3⟩
  ·rintro⟨h2,i,rfl,er,hi,hd2,oh,sb⟩
   have:i=to.size:=by
    by_cases z:i<to.size
    ·rw[show to.size-i=(to.size-(i+1))+1 by omega,List.range'_succ] at er;cases er
    ·omega
   rw[this,lz,List.take_length] at hd2;exact Kc (q h2 hd2 sb)
end
end L2.LW
set_option maxHeartbeats 4000000
namespace L2.LW
open PySem PySem.Spec PySem.W PySem.Calls PyProof.Rows
noncomputable def Yu(kvs kvs2:List (List zw×V)):List (List zw×V):=kvs2.foldl (fun acc p=>xA acc p.1 p.2) kvs
theorem KT.merge{H:Hp}: ∀{kvs2:List (List zw×V)} {zs:List (List zw×Addr×Value)},KT H kvs2 zs->∀{kvs:List (List zw×V)} {xs:List (List zw×Addr×Value)},KT H kvs xs->KT H (Yu kvs kvs2) (wg xs zs)
 |_,_,.nil,_,_,r=>r
 |_,_,.cons (a:=p) (b:=z) h t,kvs,xs,r=>by
  have r1:KT H (xA kvs p.1 p.2) (storedH xs z.1 z.2.1 z.2.2):=by
   have e:p.1=z.1:=h.1;rw[e];exact KT.put r z.1 (by rw[<-e];exact h.2.1) h.2.2
  exact KT.merge t r1
section
variable {X:Cx}
theorem zkp(hu:X.A.units+64<cLine):Xk X "dict.update" (fun x xs H Q=>∃a b kvs kvs2,x= .ref a/\xs=[.ref b]/\a≠b/\H a=some (.dT kvs)/\H b=some (.dT kvs2)/\(∀p∈kvs2,Zv p.1)/\kvs.length+kvs2.length<sizeLine/\Q .non (zu H a (.dT (Yu kvs kvs2)))):=by
 rintro pins s σ H x xs v us Q I rx rs ⟨a,b,kvs,kvs2,rfl,rfl,ne,ea,eb,sm,hsz,q⟩;cases rx;obtain⟨u,rfl,ru⟩:=wz rs;cases ru;obtain⟨_,hd,zs,rel,dd⟩:=Xn I.hok ea;obtain⟨-,hd2,zs2,rel2,dd2⟩:=Xn I.hok eb;have l1:zs.length=kvs.length:=(Paired.length rel).symm;have l2:zs2.length=kvs2.length:=(Paired.length rel2).symm
 have sm2: ∀z∈zs2,Zv z.1:=by
  clear q hsz l2 dd2 eb
  induction rel2 with
  |nil=>intro z hz;cases hz
  |cons h t ih=>
   intro z hz;rcases List.mem_cons.mp hz with rfl|hz
   ·rw[<-h.1];exact sm _ Ke
   ·exact ih (fun p hp=>sm p (Kf _ hp)) z hz
 refine wpAny_call_entry PySem.F.slot_dict_update dd.typeIs PySem.F.entry_dict_update ?_ (PySem.F.args_dict_update_2 _ _);unfold Builtin.«dict.update»;refine Kb ?_;unfold Builtin.Dict.selfAndRest;refine Kb (wpAny_notOrdered_dict dd.typeIs ?_);show wpAny _ _ (pure (a,[Value.ref b])) _ _ s;refine Kc ?_;show wpAny _ _ (Builtin.Dict.updateFrom "dict.update" a (.ref b) [] .none) _ _ s;unfold Builtin.Dict.updateFrom;refine Kb (wpAny_typeOf dd2.typeIs ?_);rw[if_neg (by decide)];refine Kb ?_;unfold Builtin.Dict.merge;refine Kb ?_;unfold Builtin.Dict.readDirectly;refine Kb (wpAny_isInstance dd2.typeIs isSubtype_dict_dict ?_);simp only[Bool.not_true,Bool.false_eq_true,if_false];refine Kb (wpAny_specialOf dd2.typeIs PySem.F.slot_dict_iter.lookup (Kc ?_));simp only[if_true,beq_self_eq_true];refine Kb (Kc (zko (show X.A.in1.units<cLine from Nat.lt_of_le_of_lt (Nat.le_refl _) (by show X.A.units+1<cLine;omega)) ne hd2 dd dd2 sm2 (by omega) fun h2 dd3 sb=>?_));show wpAny _ _ (Builtin.Dict.addKeywords a [] >>= _) _ _ _;refine Kb (Kc (Kc ⟨.none,rfl,.non,_,?_,rfl,q⟩));obtain⟨ob,es,ep,q1,q2,q3,q4,_,q5⟩:=dd3;have ml:=gU zs zs2;refine JX (t':=s.toks) I (by rw[ea];exact True.intro) sb ⟨ob,q1⟩ ⟨?_,hd,_,(KT.merge rel2 rel).keeps fun c ys ec=>?_,ob,es,ep,q1,q2,q3,q4,q5⟩
 ·have:=Paired.length (KT.merge rel2 rel)
  omega
 ·rw[zy (ZK ec ea (fun z=>nomatch z))]
  exact ec
end
theorem zdS{K:Ka}{W:Addr->Prop}{H:Hp}: ∀{ns2:List (List Int)} {ys2:List V} {vs2:List D},ns2.length=ys2.length->Reps K W H vs2 ys2->∀{ns:List (List Int)} {ys:List V} {vs:List D},ns.length=ys.length->Reps K W H vs ys->
  ORep K W H (.dct true (vf (ns.map kT) vs (ns2.map kT) vs2).1 (vf (ns.map kT) vs (ns2.map kT) vs2).2) (.dT (Yu (yz ns ys) (yz ns2 ys2)))
 |[],[],_,_,.nil,ns,ys,vs,l,r=>.dT l r
 |n::ns2,y::ys2,_,l2,.cons (d:=d) (ds:=dt) h t,ns,ys,vs,l,r=>by
  have o1:=zds l r n h
  have st: ∀{D0:D} {P0:List (List zw×V)},ORep K W H D0 (.dT P0)->∃ns' ys' vs',D0= .dct true (ns'.map kT) vs'/\P0=yz ns' ys'/\ns'.length=ys'.length/\Reps K W H vs' ys':=by
   intro D0 P0 o
   cases o with
   |dT l r=>exact⟨_,_,_,rfl,rfl,l,r⟩
  obtain⟨ns',ys',vs',e1,e2,l',r'⟩:=st o1;have ih:=zdS (ns2:=ns2) (ys2:=ys2) (by simpa using l2) t l' r'
  have e3:vf (ns.map kT) vs ((n::ns2).map kT) (d::dt)=vf (ns'.map kT) vs' (ns2.map kT) dt:=by
   rw[List.map_cons,vf,e1]
  have e4:Yu (yz ns ys) (yz (n::ns2) (y::ys2))=Yu (yz ns' ys') (yz ns2 ys2):=by
   show Yu (xA (yz ns ys) (n.map Sum.inl) y) (yz ns2 ys2)=_;rw[e2]
  rw[e3,e4];exact ih
theorem zkq{ns:List (List Int)}{ys:List V}(h:(ns.map kT).all XE=true): ∀p∈yz ns ys,Zv p.1:=by
 intro p hp;have h1:=(List.of_mem_zip (show (p.1,p.2)∈_ from hp)).1;rw[List.mem_map] at h1;obtain⟨n,hn,e⟩:=h1;have h2:=List.all_eq_true.mp h (kT n) (List.mem_map.mpr ⟨n,hn,rfl⟩);rw[<-e];unfold kT XE at h2
 match n,h2 with
 |[],h2=>simp at h2
 |[_],h2=>simp at h2
 |[a,b],h2=>exact⟨a,b,rfl,by simpa using h2⟩
 |_::_::_::_,h2=>simp at h2
section
variable {X:Cx} {fn:Nat->List D->Option SV} {fa:Nat->List D->Option Ans} {fuel:Nat} {pos p p2:Pos} {x y:Str}
theorem zkr(i j:Nat){apos cpos:Pos}(hu:X.A.units+64<cLine)(hN:X.N[i]? =some x)(hv:xK X.env.scope x)(hN2:X.N[j]? =some y)(hv2:xK X.env.scope y)(hst:starEach [Expr.Name y p2] X.env=(false,eval (.Name y p2) X.env)::starEach [] X.env)
  (hd:(x==("__debug__":Str))=false) (hcd:(x==("__classdict__":Str))=false) (hd2:(y==("__debug__":Str))=false) (hcd2:(y==("__classdict__":Str))=false)
  (hs:swapsWith (.Call (.Attribute (.Name x p) "update" apos) [.Name y p2] [] cpos) Option.none pos.line X.env=pure false:=by rfl)
  (hbase:attributeBase (.Name x p) "update" X.env (eval (.Name x p) X.env)=eval (.Name x p) X.env:=by rfl)
  (hline:(apos.endLine==cpos.line)=true:=by rfl):
  IS X (zF fa fuel (.dupd i j)) (.Expr (.Call (.Attribute (.Name x p) "update" apos) [.Name y p2] [] cpos) pos):=
 .mk <| (Ze (zcn PySem.F.plainAttrs_dict PySem.F.slot_dict_update PySem.F.type_dict_update (zkp hu) (wK hN hv hd hcd) (xX (wK hN2 hv2 hd2 hcd2) wL hst) hbase (by rw[hst];rfl) hline hst zi) hs).imp fun D σ H zz3=>by
  obtain⟨W,ρ,y,hR,hy,q⟩:=zz3;simp only[ziU] at hy;unfold XF at hy;split at hy
  ·cases hy
  rename_i nij;split at hy
  case h_2=>cases hy
  rename_i x0 h;unfold Qk at hy;split at hy
  case h_2=>cases hy
  rename_i ks vs ks2 vs2 hc hc2;split at hy
  case isFalse=>cases hy
  rename_i hcond;cases hy;rw[Bool.and_eq_true,decide_eq_true_iff] at hcond;unfold jB at hc2;split at hc2
  case h_2=>cases hc2
  rename_i y0 h0;obtain⟨a,o,h1,h2,h3,h4⟩:=hR.own i _ _ h hc;obtain⟨b,o2,g1,g2,g3,g4⟩:=hR.own j _ _ h0 hc2;have ne:a≠b:=fun z=>nij (hR.inj i j _ _ _ _ a h h0 hc hc2 h1 (by rw[z];exact g1))
  cases h4 with
  |dT l rp=>
  cases g4 with
  |dT l2 rp2=>
  have le:=Yb;refine⟨_,h1,.inr (.inr (.inl ⟨rfl,.inr ⟨_,h3⟩⟩)),_,g1,a,b,_,_,rfl,rfl,ne,h3,g3,zkq hcond.1,?_,?_⟩
  ·rw[gK l,gK l2,<-le]
   simpa using hcond.2
  ·exact q W σ _ (QA hR h hc h1 (.refl H) h3 ⟨fun _ z=>(nomatch z),fun _ _ z=>(nomatch z)⟩ (zdS l2 rp2 l rp))
end
end L2.LW
set_option maxHeartbeats 4000000
set_option maxHeartbeats 4000000
set_option maxHeartbeats 4000000
set_option maxHeartbeats 4000000
set_option maxHeartbeats 4000000
set_option maxHeartbeats 4000000
set_option maxHeartbeats 4000000
set_option maxHeartbeats 4000000
namespace L2.LW
open PySem PySem.Spec PySem.W PySem.Calls PyProof.Rows
theorem all_cons{P:Nat->Prop}{a:Nat}{l:List Nat}(h:P a)(t: ∀c∈l,P c): ∀c∈a::l,P c:=fun c hc=>by
 rcases List.mem_cons.mp hc with rfl|hc
 ·exact h
 ·exact t c hc
end L2.LW
set_option maxHeartbeats 4000000
set_option maxRecDepth 100000
set_option maxHeartbeats 4000000
namespace L2.LW
open PySem PySem.Spec PySem.W PySem.Calls PyProof.Rows
noncomputable def zdT(n:Nat)(itm:Nat->Option V)(ok:Hp->Prop):It:=
 ⟨fun i H=>i<n/\ok H,fun i H v H'=>∃p x,H p=Option.none/\v= .ref p/\H'=zu H p (.tup [.int i,x])/\itm i=some x,fun i H=>i=n/\ok H⟩
section
variable {X:Cx} {pins:List (Addr×Obj)} {σ:St} {H:Hp} {s:Shared}
theorem zks{e it:Addr}{h':Heap}{i:Int}{tk:Tok}{k:Nat}{x:V}{u:Value}(I:Inv X pins σ H s)(fe:xL X pins H e)(fi:xL X pins H it)
  (kp: ∀b o,b≠e->b≠it->s.heap.get? b=some o->h'.get? b=some o) (ht:h'.get? s.heap.objs.size=some { cls:=.type "tuple",data:=.seq #[.int i tk,u] }) (rx:RelV x u):
  Inv X pins σ (zu H s.heap.objs.size (.tup [.int i,x])) { s with heap:=h',toks:=k }:=by
 have low: ∀b o,s.heap.get? b=some o->b≠s.heap.objs.size:=fun b o z=>Kh (Kk z)
 have lowH: ∀b o,H b=some o->b≠s.heap.objs.size:=fun b o z=>Kh (I.hok.lt z)
 have un:Un (wI X.stack) [e,it] H (zu H s.heap.objs.size (.tup [.int i,x])) s.heap h':=
  ⟨fun b o z _ _ hx=>kp b o (fun y=>hx (by simp[y])) (fun y=>hx (by simp[y])) z,fun b o z _ _ hx=>⟨o.slots,kp b o (fun y=>hx (by simp[y])) (fun y=>hx (by simp[y])) z⟩,
   fun b o z n _=>by rw[zy (low b o z)];exact n,fun b o z hx=>⟨o,kp b o (fun y=>hx (by simp[y])) (fun y=>hx (by simp[y])) z⟩,
   fun b xs z=>by rw[zy (lowH b _ z)];exact z,fun b o u z=>by rw[zy (lowH b _ z)];exact z,fun b ps z=>⟨#[],by rw[zy (lowH b _ z)];simpa using z⟩⟩
 have ok:HOk X.prog X.w (zu H s.heap.objs.size (.tup [.int i,x])) h':=fun a o z=>by
  by_cases ha:a=s.heap.objs.size
  ·subst ha
   rw[yn] at z;cases z;exact⟨by show 2<=sizeLine;decide,[.int i tk,u],.cons ⟨tk,rfl⟩ (.cons rx .nil),_,ht,rfl,_,rfl⟩
  ·rw[zy ha] at z
   have nt: ∀b,(b=a\/H b=some (.own a))->b≠e/\b≠it:=fun b hb=>by
    have hb':H b≠Option.none:=by
     rcases hb with rfl|hb
     ·rw[z];exact fun z=>nomatch z
     ·rw[hb];exact fun z=>nomatch z
    exact⟨fun y=>hb' (by rw[y];exact fe.1),fun y=>hb' (by rw[y];exact fi.1)⟩
   exact (I.hok a o z).stay (fun b u hb q=>kp b u (nt b hb).1 (nt b hb).2 q) (fun b q=>by rw[zy (lowH b _ q)];exact q) fun b xs q=>by rw[zy (lowH b _ q)];exact q
 refine I.call' (s':={ s with heap:=h',toks:=k }) rfl un ok I.bare fun b hb=>?_
 rcases List.mem_cons.mp hb with rfl|hb
 ·exact⟨fe.2.2.2.1,fe.2.1,fe.2.2.2.2.1,fe.2.2.2.2.2⟩
 ·obtain rfl:=List.mem_singleton.mp hb
  exact⟨fi.2.2.2.1,fi.2.1,fi.2.2.2.2.1,fi.2.2.2.2.2⟩
theorem zkt{e it:Addr}{h':Heap}(I:Inv X pins σ H s)(fi:xL X pins H it)(kp: ∀b o,b≠it->s.heap.get? b=some o->h'.get? b=some o):Inv X pins σ H { s with heap:=h' }:=
 I.turned (t':=s.toks) (fun b o hb z=>kp b o hb z) fi.1 fi.2.1 fi.2.2.2.1 fi.2.2.2.2.1 fi.2.2.2.2.2
end
theorem zku{P:Program}{w:World}{A:Around}{E:Value->Shared->Prop}{s:Shared}{elts:List Expr}{kt:Nat}{pt:Pos}{e it a:Addr}{i:Int}{item:Value}{Q:Unit->Shared->Prop}(he:IsEnumOut s.heap e it i item a)
  (hQ: ∀h',IsEnum h' e it i item->Heap.SameBut e s.heap h'->Q () { s with heap:=h' }):wpAny (model P w) A (letOwnedTupleGo (.Tuple elts kt pt) (.ref e) (.ref a)) Q E s:=wpAny_letOwnedTupleGo_enum he hQ
end L2.LW
set_option maxHeartbeats 4000000
set_option maxHeartbeats 4000000
namespace L2.LW
open PySem PySem.Spec PySem.W PySem.Calls PyProof.Rows
theorem gW: ∀{k n:Nat} {l:List D} {d:D},(xB n l)[k]? =some d->∃x,l[k]? =some x/\d= .tup [.int ((n+k:Nat):Int),x]
 |_,_,[],_,h=>by simp[xB] at h
 |0,n,x::l,d,h=>by
  simp only[xB,List.getElem?_cons_zero,Option.some.injEq] at h;exact⟨x,rfl,h.symm⟩
 |k+1,n,x::l,d,h=>by
  simp only[xB,List.getElem?_cons_succ] at h;obtain⟨y,h1,h2⟩:=gW h;refine⟨y,by simpa using h1,?_⟩;rw[h2]
  congr 3
  omega
theorem gX: ∀(n:Nat) (l:List D),(xB n l).length=l.length
 |_,[]=>rfl
 |n,_::l=>by simp[xB,gX (n+1) l]
noncomputable def YE(K:Ka)(J:It)(W:Addr->Prop)(H:Hp)(ds:List D):Prop:=
 ∀W' H',Ext W H W' H'->∀k:Nat,(k=ds.length->J.stop k H')/\∀d,ds[k]? =some d->J.go k H'/\∀x H'',J.yld k H' x H''->Same H' H''/\Rep K W' H'' d x
section
variable {X:Cx} {fn:Nat->List D->Option SV} {fa:Nat->List D->Option Ans} {fuel:Nat} {e:Expr} {ce:E} {pos p:Pos} {sts:List Stmt} {ss:Ss} {elts:List Expr} {kt:Nat} {pt pos':Pos}
theorem zkv{K:Ka}{W:Addr->Prop}{H:Hp}{xs:List V}{l:List D}{itm:Nat->Option V}{ok:Hp->Prop}{n:Nat}(hn:n=l.length)(hi: ∀i:Nat,itm i=xs[i]?)(hok: ∀W' H',Ext W H W' H'->ok H')(hr: ∀W' H',Ext W H W' H'->Reps K W' H' l xs):YE K (zdT n itm ok) W H (xB 0 l):=by
 intro W' H' x k;rw[gX];refine⟨fun z=>⟨by omega,hok W' H' x⟩,fun d hd=>?_⟩;obtain⟨y,h1,rfl⟩:=gW hd;have lt:k<l.length:=(List.getElem?_eq_some_iff.mp h1).1;refine⟨⟨by omega,hok W' H' x⟩,?_⟩;rintro v H'' ⟨q,w,hq,rfl,rfl,hw⟩;have sm:Same H' (zu H' q (.tup [.int k,w])):=yP hq _;refine⟨sm,?_⟩;obtain⟨w',g1,g2⟩:=(hr W' H' x).get h1;rw[hi,g1] at hw;cases hw;rw[Nat.zero_add];exact .tup yn (.cons (.int _) (.cons (g2.ext (.same sm)) .nil))
end
end L2.LW
set_option maxHeartbeats 4000000
set_option maxHeartbeats 4000000
namespace L2.LW
open PySem PySem.Spec PySem.W PySem.Calls PyProof.Rows
noncomputable def zkw(K:Ka)(D:Addr):Bool:=findIn K (.ref D) "__getattribute__"==some (some (.builtin "BaseException.__getattribute__"))&&findIn K (.ref D) "__getattr__"==some Option.none&&(clsIn K D).isSome&&findIn K (.ref D) "__class__"==some (some (.builtin "object.__class__"))&&specialIn K (.builtin "object.__class__") "__get__"==some (some (.builtin "getset_descriptor.__get__"))&&
 takesIn K (.builtin "object.__class__")==some true&&mroIn K D (.type "object")==some true&&mroIn K D (.type "BaseException")==some true
noncomputable def apart(K:Ka)(CL:Nat->Addr)(cs:List Nat):Bool:=cs.all fun c=>zkw K (CL c)&&cs.all fun d=>c==d||kin_not K (CL c) (CL d)
end L2.LW
set_option maxHeartbeats 4000000
namespace L2.LW
open PySem PySem.Spec PySem.W PySem.Calls PyProof.Rows
theorem zkx(a:Nat): ∀b:Nat,(a ^^^ b)+(a&&& b)=a|||b:=by
 induction a using Nat.strongRecOn with
 |ind a ih=>
  intro b;by_cases h:a=0
  ·subst h;simp
  ·have h1:=ih (a/2) (by omega) (b/2)
   have d1:=Nat.xor_div_two (a:=a) (b:=b);have d2:=Nat.and_div_two (a:=a) (b:=b);have d3:=Nat.or_div_two (a:=a) (b:=b);have m1:=Nat.xor_mod_two_eq_one (a:=a) (b:=b);have m2:(a&&& b)%2=1↔a%2=1/\b%2=1:=Nat.and_mod_two_eq_one;have m3:(a|||b)%2=1↔a%2=1\/b%2=1:=Nat.or_mod_two_eq_one;rw[<-d1,<-d2,<-d3] at h1;omega
theorem zdU{a b:Int}(ha:0<=a)(hb:0<=b):Builtin.bitAnd a b=((a.toNat&&& b.toNat:Nat):Int):=by
 unfold Builtin.bitAnd;rw[decide_eq_true ha,decide_eq_true hb]
theorem zdV{a b:Int}(ha:0<=a)(hb:0<=b):Builtin.bitOr a b=((a.toNat|||b.toNat:Nat):Int):=by
 unfold Builtin.bitOr Builtin.bitAnd;have e1: ¬(0<=Builtin.bitNot a):=by unfold Builtin.bitNot;omega
 have e2: ¬(0<=Builtin.bitNot b):=by unfold Builtin.bitNot;omega
 rw[KG e1,KG e2];have n1:Builtin.bitNot (Builtin.bitNot a)=a:=by unfold Builtin.bitNot;omega
 have n2:Builtin.bitNot (Builtin.bitNot b)=b:=by unfold Builtin.bitNot;omega
 show Builtin.bitNot (Builtin.bitNot (((Builtin.bitNot (Builtin.bitNot a)).toNat|||(Builtin.bitNot (Builtin.bitNot b)).toNat:Nat):Int))=_;rw[n1,n2];unfold Builtin.bitNot;omega
theorem zky{a b:Int}(ha:0<=a)(hb:0<=b):Builtin.bitXor a b=((a.toNat ^^^ b.toNat:Nat):Int):=by
 unfold Builtin.bitXor;rw[zdV ha hb,zdU ha hb,<-zkx a.toNat b.toNat];omega
section
variable {X:Cx}
theorem Vl:zZ X (binaryOp .BitAnd) (yM X.K (zg .band)):=by
 rintro pins s σ H x y v u Q I rx ry ⟨W,ds,r,wf,hs,hf,q⟩;obtain⟨d,e,rfl,h1,h2⟩:=xU hs;replace hf:Xy [d,e]=some r:=hf;unfold Xy at hf;split at hf
 case h_2=>cases hf
 rename_i a b z;cases z;split at hf
 case isFalse=>cases hf
 rename_i hc;cases hf;cases h1.int;cases h2.int;exact zhr pins s σ H _ _ v u Q I rx ry ⟨_,_,rfl,rfl,by show Q (.int (Builtin.bitAnd _ _)) H;rw[zdU hc.1 hc.2];exact q _ H (.refl H) (.val (.int _))⟩
theorem gY:zZ X (binaryOp .BitOr) (yM X.K (zg .bor)):=by
 rintro pins s σ H x y v u Q I rx ry ⟨W,ds,r,wf,hs,hf,q⟩;obtain⟨d,e,rfl,h1,h2⟩:=xU hs;replace hf:Xz [d,e]=some r:=hf;unfold Xz at hf;split at hf
 case h_2=>cases hf
 rename_i a b z;cases z;split at hf
 case isFalse=>cases hf
 rename_i hc;cases hf;cases h1.int;cases h2.int;exact zhs pins s σ H _ _ v u Q I rx ry ⟨_,_,rfl,rfl,by show Q (.int (Builtin.bitOr _ _)) H;rw[zdV hc.1 hc.2];exact q _ H (.refl H) (.val (.int _))⟩
theorem zkz:zZ X (binaryOp .BitXor) (yM X.K (zg .bxor)):=by
 rintro pins s σ H x y v u Q I rx ry ⟨W,ds,r,wf,hs,hf,q⟩;obtain⟨d,e,rfl,h1,h2⟩:=xU hs;replace hf:XA [d,e]=some r:=hf;unfold XA at hf;split at hf
 case h_2=>cases hf
 rename_i a b z;cases z;split at hf
 case isFalse=>cases hf
 rename_i hc;cases hf;cases h1.int;cases h2.int;exact zht pins s σ H _ _ v u Q I rx ry ⟨_,_,rfl,rfl,by show Q (.int (Builtin.bitXor _ _)) H;rw[zky hc.1 hc.2];exact q _ H (.refl H) (.val (.int _))⟩
theorem jK:zZ X (binaryOp .LShift) (yM X.K (zg .shl)):=by
 rintro pins s σ H x y v u Q I rx ry ⟨W,ds,r,wf,hs,hf,q⟩;obtain⟨d,e,rfl,h1,h2⟩:=xU hs;replace hf:Xx [d,e]=some r:=hf;unfold Xx at hf;split at hf
 case h_2=>cases hf
 rename_i a b z;cases z;split at hf
 case isFalse=>cases hf
 rename_i hc;cases hf;cases h1.int;cases h2.int;exact zhq pins s σ H _ _ v u Q I rx ry ⟨_,_,rfl,rfl,⟨by omega,by omega,by omega⟩,q _ H (.refl H) (.val (.int _))⟩
theorem zkA:Xk X "int.bit_length" (fun x xs H Q=>∃i,x= .int i/\xs=[]/\Q (.int (Builtin.Int.intBits i:Nat)) H):=by
 rintro pins s σ H x xs v us Q I rx rs ⟨i,rfl,rfl,q⟩;obtain⟨t,rfl⟩:=rx;cases rs;refine wpAny_call_entry PySem.F.slot_int_bit_length (typeIs_int s i t) PySem.F.entry_int_bit_length ?_ (PySem.F.args_int_bit_length_1 _);obtain⟨hp,g,d,tk,os⟩:=s
 wp_walk
 exact⟨_,rfl,.int _,H,I.tok _,⟨_,rfl⟩,q⟩
end
section
variable {X:Cx} {fn:Nat->List D->Option SV} {o e f a:Expr} {co ce cf ca:E} {apos cpos:Pos}
theorem zkB(ha:IE X fn a ca)(hbase:attributeBase a "bit_length" X.env (eval a X.env)=eval a X.env:=by rfl)(hline:(apos.endLine==cpos.line)=true:=by rfl):
  IE X fn (.Call (.Attribute a "bit_length" apos) [] [] cpos) (.prim .blen (.cons ca .nil)):=
 .mk <| (qJ PySem.F.plainAttrs_int PySem.F.slot_int_bit_length PySem.F.type_int_bit_length zkA ha.v hbase hline).imp fun σ H Q zz3=>by
  obtain⟨W,ρ,r,hR,he,q⟩:=zz3;simp only[vg,xY,xZ,jo1,jo2] at he;obtain⟨rs,⟨r1,e1,rs',e3,rfl⟩,e4⟩:=he;cases e3;refine⟨W,ρ,r1,hR,e1,fun v1 H1 s1 f1=>?_⟩;have hs:=f1.sees;have e5:XB [zI r1]=some r:=e4;unfold XB at e5;split at e5
  case h_2=>cases e5
  rename_i i z;have z1:zI r1= .int i:=by simpa using z
  rw[z1] at hs;cases hs.int;split at e5
  case isFalse=>cases e5
  rename_i h0;cases e5;refine⟨rfl,i,rfl,rfl,?_⟩
  have e6:Builtin.Int.intBits i=vd i.toNat:=by
   unfold Builtin.Int.intBits vd;have n:i.natAbs=i.toNat:=by omega
   rw[n];by_cases c:i=0
   ·subst c;rfl
   ·rw[if_neg (by simpa using c),if_neg (by omega)]
  rw[e6];exact q _ H1 s1 (.val (.int _))
theorem zkC{H H':Hp}{a:Addr}{u:HO}(s:Same H H')(h:Rd H a u):Rd H' a u:=by
 rcases h with h|⟨o,h⟩
 ·exact .inl (s _ _ h)
 ·exact .inr ⟨o,s _ _ h⟩
theorem zdW(hu:X.A.units+64<cLine)(ha:IE X fn o co)(hb:IE X fn e ce)(hc:IE X fn f cf)(m:M2 X o "get" apos e f cpos):
  IE X fn (.Call (.Attribute o "get" apos) [e,f] [] cpos) (.prim .dget (.cons co (.cons ce (.cons cf .nil)))):=
 .mk <| (zis (by omega) ha.v hb.v hc.v m).imp fun σ H Q zz3=>by
  obtain⟨W,ρ,r,hR,he,q⟩:=zz3;simp only[vg,xY,xZ,jo1,jo2] at he;obtain⟨rs,⟨r1,e1,rs1,⟨r2,e2,rs2,⟨r3,e3,rs3,e4,rfl⟩,rfl⟩,rfl⟩,e5⟩:=he;cases e4;have e6:XC [zI r1,zI r2,zI r3]=some r:=e5;unfold XC at e6;split at e6
  case h_2=>cases e6
  rename_i ks vs k i z;have z1:zI r1= .dct false ks vs:=by simp at z;exact z.1
  have z2:zI r2= .int k:=by simp at z;exact z.2.1
  have z3:zI r3= .int i:=by simp at z;exact z.2.2
  refine⟨W,ρ,r1,hR,e1,fun v1 H1 s1 f1=>?_⟩;have g1:=f1.sees;rw[z1] at g1;obtain⟨b,ns,ys,rfl,rfl,hH,hl,rp⟩:=g1.dK;refine⟨b,rfl,.inl ⟨_,hH⟩,W,ρ,r2,hR.same s1,e2,fun v2 H2 s2 f2=>⟨W,ρ,r3,hR.same (s1.trans s2),e3,fun v3 H3 s3 f3=>?_⟩⟩;have g2:=f2.sees;rw[z2] at g2;cases g2.int;have g3:=f3.sees;rw[z3] at g3;cases g3.int;refine⟨xl (yw ns ys) (.inl k),.inl ⟨_,.inl k,zkC (s2.trans s3) hH,rfl,rfl⟩,?_⟩
  have go: ∀j:Int,some (SV.val (.int j))=some r->Q (.int j) H3:=fun j z=>by
   cases z;exact q _ H3 ((s1.trans s2).trans s3) (.val (.int _))
  split at e6
  ·rename_i v hv
   obtain⟨y,ey,ry⟩:=zcT hl rp hv;cases ry;rw[ey];exact go v e6
  ·rename_i hv
   have:xl (yw ns ys) (.inl k)=none:=by
    rw[Qo hl];unfold dget at hv
    cases hk:yF (ns.map D.int) (.int k) with
    |none=>rfl
    |some j=>
     rw[hk] at hv;have hv:vs[j]? =none:=hv;show ys[j]? =none;rw[List.getElem?_eq_none_iff] at hv⊢;rw[<-rp.length];exact hv
   rw[this];exact go i e6
  ·cases e6
end
end L2.LW
set_option maxHeartbeats 4000000
namespace L2
open PySem PySem.Spec PyProof.Rows
noncomputable def Vm(K:Ka)(a:Addr)(xs:List V):It:=
 ⟨fun i H=>SqL K H a xs/\i<xs.length,fun i H x H'=>H'=H/\xs[xs.length-1-i]? =some x,fun i H=>SqL K H a xs/\i=xs.length⟩
theorem zkD{P:Program}{w:World}{K:Ka}{tg:Expr}(a it:Addr)(xs:List V):Turn P w K tg (Vm K a xs) [it] it (fun i h=>h.IsRevIter it a ((xs.length:Int)-1-(i:Int))) where
 mem:=by simp
 obj:=fun i h st b hb=>by
  have e:b=it:=by simpa using hb
  subst e;obtain⟨o,e,c,d⟩:=st;exact⟨o,e,fun v z=>by rw[d] at z;cases z⟩
 keep:=fun i h h' st k=>st.at fun o e=>k it (by simp) o e
 item:=by
  intro X hP hw hK hc i pins s σ H E I hf st hg;subst hP hw hK;obtain⟨hq,hi⟩:=hg;obtain⟨its,rv,p,hz⟩:=I.list hq;have hx:xs[xs.length-1-i]? =some (xs[xs.length-1-i]'(by omega)):=List.getElem?_eq_getElem _;obtain⟨u,hu,ru⟩:=rv.get hx;obtain⟨f0,f1,f2,f3,f4,f5⟩:=hf it (by simp);have e1:(xs.length:Int)-1-(i:Int)=((xs.length-1-i:Nat):Int):=by omega
  rw[e1] at st;refine wpAny_pyNext_rev_item st p.isList (x:=u) (by simpa using hu) fun h' st' sb=>?_
  have I1:Inv X pins σ H { s with heap:=h' }:=I.turned (t':=s.toks) (fun b o hb e=>(sb.2 b hb).trans e) f0 f1 f3 f4 f5;have e2:((xs.length-1-i:Nat):Int)-1=(xs.length:Int)-1-((i+1:Nat):Int):=by omega
  rw[e2] at st';obtain⟨o,e,c,d⟩:=id st';exact⟨u,rfl,Xc (s:={ s with heap:=h' }) e c d (by decide) ⟨_,H,I1,ru,⟨rfl,hx⟩,st',fun b hb=>(hf b hb).1⟩⟩
 done:=by
  intro X hP hw hK hc i pins s σ H E I hf st hg;subst hP hw hK;obtain⟨hq,hi⟩:=hg;obtain⟨f0,f1,f2,f3,f4,f5⟩:=hf it (by simp);have e1:(xs.length:Int)-1-(i:Int)= -1:=by omega
  rw[e1] at st;exact wpAny_pyNext_rev_end (I.ok.hd hc) st fun h' eb=>⟨rfl,I.turned (t':=s.toks) (fun b o hb e=>eb b o hb e) f0 f1 f3 f4 f5⟩
 self:=fun _ _ _ _ _ st h=>wpAny_pyIter_revIter st h
section
variable {X:Cx} {tg:Expr}
noncomputable def zkE(K:Ka)(ta:TA):TI:=fun σ H R=>ta σ H fun vs H1=>∃a xs,vs=[.ref a]/\SqL K H1 a xs/\R (Vm K a xs) H1
theorem zkF{e:Expr}{ta:TA}{p pos:Pos}(hg:Gl X "reversed")(hm:X.mg "reversed"=none)(ha:PA X [e] ta)(hs:starEach [e] X.env=[(false,eval e X.env)]:=by rfl):PI X tg (.Call (.Name "reversed" p) [e] [] pos) (zkE X.K ta):=by
 intro pins s σ H R I h;refine Call_ (Zd I hg hm boot_reversed (PyProof.Rows.callWith_type1 (zt (ha pos pins s σ H _ I h) fun us s1 ⟨vs,H1,I1,r1,q1⟩=>?_) hs rfl));obtain⟨a,xs,e,hq,q⟩:=q1;subst e
 cases r1 with
 |cons r rr=>
  cases rr;cases r;obtain⟨its,rv,pl,hz⟩:=I1.list hq;refine call_reversed_list pl.isList ?_;have hl:=rv.length
  have st:(s1.heap.push (revObj a ((its.toArray.size:Int)-1))).IsRevIter s1.heap.objs.size a ((xs.length:Int)-1-((0:Nat):Int)):=⟨_,Heap.get?_push_size _ rfl,rfl,by
   show Data.fields #[.ref a,rawInt ((its.toArray.size:Int)-1)]=_;rw[List.size_toArray,<-hl];simp⟩
  refine wpAny_pyIter_revIter (s:={ s1 with heap:=_ }) st ?_;refine⟨s1.heap.objs.size,[s1.heap.objs.size],_,_,H1,rfl,I1.kept (t':=s1.toks) fun b o e=>Kl _ e,zkD a _ xs,st,fun b hb=>?_,q⟩;have e:b=s1.heap.objs.size:=by simpa using hb
  subst e;exact I1.fpOk (Nat.le_refl _) (I1.hok.fresh (Nat.le_refl _))
end
end L2
namespace L2.LW
open PySem PySem.Spec PySem.W PySem.Calls PyProof.Rows
theorem zdX{K:Ka}{a:Addr}{xs:List V}{ds:List D}{H':Hp}{W':Addr->Prop}(hq:SqL K H' a xs)(rp:Reps K W' H' ds xs)(k:Nat):
  (k=ds.reverse.length->(Vm K a xs).stop k H')/\∀d,ds.reverse[k]? =some d->(Vm K a xs).go k H'/\∀x H'',(Vm K a xs).yld k H' x H''->H''=H'/\Rep K W' H' d x:=by
 have ln:=rp.length;rw[List.length_reverse];refine⟨fun e=>⟨hq,by omega⟩,fun d e=>?_⟩;obtain⟨hk,e2⟩:=List.getElem?_eq_some_iff.mp e;rw[List.length_reverse] at hk;rw[List.getElem_reverse] at e2
 have e3:ds[xs.length-1-k]? =some d:=by
  rw[<-ln,<-e2];exact List.getElem?_eq_getElem _
 obtain⟨v,e1,rv⟩:=rp.get e3;refine⟨⟨hq,by omega⟩,fun x H'' z=>?_⟩;obtain⟨z1,z2⟩:=z;rw[e1] at z2;cases z2;exact⟨z1,rv⟩
section
variable {X:Cx} {fn:Nat->List D->Option SV} {a tg:Expr} {ca:E} {pos p:Pos}
theorem zkG(hg:Gl X "reversed")(hm:X.mg "reversed"=Option.none)(ha:IA X fn [a] (.cons ca .nil))(hs:starEach [a] X.env=(false,eval a X.env)::starEach [] X.env):Src X fn tg (.Call (.Name "reversed" p) [a] [] pos) false (.cons ca (.cons .non .nil)):=
 .mk <| (zkF hg hm ha.h hs).imp fun σ H R0 zz3=>by
  obtain⟨W,ρ,rs,ds,hR,h1,h2,q⟩:=zz3;simp only[xY,xZ,jo1,jo2] at h1;obtain⟨r,e1,rs',⟨r2,e2,rs2,e3,rfl⟩,rfl⟩:=h1;cases e3;have e2:some (SV.val D.non)=some r2:=e2;cases e2;refine⟨W,ρ,[r],hR,by simp only[xY,xZ,e1,Option.bind_some,Option.map_some],fun vs H1 s1 f=>?_⟩
  obtain⟨v,rfl,g⟩: ∃v,vs=[v]/\Frz X.K W H1 r v:=by
   cases f with
   |cons f t=>cases t;exact⟨_,rfl,f⟩
  clear f
  cases g with
  |val g=>
   cases g with
   |lst h rp=>
    simp only[yy] at h2;cases h2;exact⟨_,_,rfl,Yg h (Ext.refl W H1),q _ H1 s1 (fun W' H' s w k=>zdX (Yg h (.sameW s w)) (rp.ext (.sameW s w)) k) fun _ W' H' x k=>zdX (Yg h x) (rp.ext x) k⟩
   |_=>simp[yy] at h2
  |_=>simp[yy] at h2
end
end L2.LW
set_option maxHeartbeats 4000000
namespace L2
open PySem PySem.Spec PyProof.Rows
noncomputable def Vn(a:Addr)(o:Obj)(kvs:List (zw×V)):It:=
 ⟨fun i H=>H a=some (.frz o (.dK kvs))/\i<kvs.length,fun i H x H'=>H'=H/\∃kv,kvs[i]? =some kv/\x=kV kv.1,fun i H=>H a=some (.frz o (.dK kvs))/\i=kvs.length⟩
theorem gZ{X:Cx}{pins:List (Addr×Obj)}{σ:St}{H:Hp}{s:Shared}{a:Addr}{o:Obj}{kvs:List (zw×V)}{es:Array DictEntry}{ep:Nat}(I:Inv X pins σ H s)(e:H a=some (.frz o (.dK kvs)))(hd:o.data= .dict es ep):
  ∃vs,KV kvs vs/\s.heap.DictAt (zY X.prog X.w) a vs ep/\(a==sysModules)=false:=by
 obtain⟨h1,h2,h3,vs,h4,o',es',ep',g1,g2,g3,g4⟩:=(show ObjOk X.prog X.w H s.heap a (.frz o (.dK kvs)) from I.hok a _ e);rw[h1] at g1;cases g1;rw[hd] at g3;cases g3;exact⟨vs,h4,⟨o,es,h1,g2,hd,g4⟩,h3⟩
theorem zdY: ∀{kvs:List (zw×V)} {vs:List (zw×Value)},Paired (fun (p:zw×V) (q:zw×Value)=>p.1=q.1/\RelV p.2 q.2) kvs vs->∀{i:Nat} {kv:zw×V},kvs[i]? =some kv->∃x,vs[i]? =some (kv.1,x)
 |_,_,.nil,i,kv,e=>by simp at e
 |_,_,.cons (b:=b) h t,0,kv,e=>by
  simp at e;subst e;exact⟨b.2,by rw[h.1];rfl⟩
 |_,_,.cons h t,i+1,kv,e=>zdY t (by simpa using e)
theorem zkH{P:Program}{w:World}{K:Ka}{tg:Expr}(a it:Addr)(o:Obj)(kvs:List (zw×V)){es:Array DictEntry}{ep:Nat}(hd:o.data= .dict es ep):Turn P w K tg (Vn a o kvs) [it] it (fun i h=>h.IsKeyIter it a i kvs.length ep) where
 mem:=by simp
 obj:=fun i h st b hb=>by
  have e:b=it:=by simpa using hb
  subst e;obtain⟨o,e,c,d⟩:=st;exact⟨o,e,fun v z=>by rw[d] at z;cases z⟩
 keep:=fun i h h' st k=>st.at fun o e=>k it (by simp) o e
 item:=by
  intro X hP hw hK hc i pins s σ H E I hf st hg;subst hP hw hK;obtain⟨hq,hi⟩:=hg;obtain⟨vs,kv,da,_⟩:=gZ I hq hd;have hx:kvs[i]? =some kvs[i]:=List.getElem?_eq_getElem hi;obtain⟨x,hx2⟩:=zdY kv hx;obtain⟨f0,f1,f2,f3,f4,f5⟩:=hf it (by simp);have hl:kvs.length=vs.length:=kv.length;rw[hl] at st;refine wpAny_pyNext_dict_item st da hx2 fun key h' hkey st' sb=>?_
  rw[<-hl] at st';have I1:Inv X pins σ H { s with heap:=h' }:=I.turned (t':=s.toks) (fun b o hb e=>(sb.2 b hb).trans e) f0 f1 f3 f4 f5;obtain⟨o,e,c,d⟩:=id st';refine⟨key,rfl,Xc (s:={ s with heap:=h' }) e c d (by decide) ⟨kV kvs[i].1,H,I1,?_,⟨rfl,_,hx,rfl⟩,st',fun b hb=>(hf b hb).1⟩⟩;rcases vp hkey with ⟨j,t,e1,e2⟩|⟨j,t,e1,e2⟩
  ·rw[e1,e2];exact⟨t,rfl⟩
  ·rw[e1,e2];exact⟨t,rfl⟩
 done:=by
  intro X hP hw hK hc i pins s σ H E I hf st hg;subst hP hw hK;obtain⟨hq,hi⟩:=hg;obtain⟨vs,kv,da,_⟩:=gZ I hq hd;have hl:kvs.length=vs.length:=kv.length;obtain⟨f0,f1,f2,f3,f4,f5⟩:=hf it (by simp);rw[hl] at st;exact wpAny_pyNext_dict_end (I.ok.hd hc) st da (by rw[hi,hl];simp) fun h' eb=>⟨rfl,I.turned (t':=s.toks) (fun b o hb e=>eb b o hb e) f0 f1 f3 f4 f5⟩
 self:=fun _ _ _ _ _ st h=>wpAny_pyIter_keyiter st h
section
variable {X:Cx} {tg:Expr}
noncomputable def zkI(tl:TE):TI:=fun σ H R=>tl σ H fun x H1=>∃a o kvs es ep,x= .ref a/\H1 a=some (.frz o (.dK kvs))/\o.data= .dict es ep/\R (Vn a o kvs) H1
theorem zkJ{l:Expr}{tl:TE}(hl:PE X l tl):PI X tg l (zkI tl):=by
 intro pins s σ H R I h;refine zt (hl pins s σ H _ I h) fun v s1 ⟨x,H1,I1,r1,q1⟩=>?_
 obtain⟨a,o,kvs,es,ep,e,hq,hd,q⟩:=q1;subst e;cases r1;obtain⟨vs,kv,da,lo⟩:=gZ I1 hq hd;have hl:kvs.length=vs.length:=kv.length;refine wpAny_pyIter_dict lo da ?_;refine⟨s1.heap.objs.size,[s1.heap.objs.size],_,_,H1,rfl,I1.kept (t':=s1.toks) fun b o e=>Kl _ e,zkH a _ o kvs hd,⟨_,Heap.get?_push_size _ rfl,rfl,by rw[hl];rfl⟩,fun b hb=>?_,q⟩;have e:b=s1.heap.objs.size:=by simpa using hb
 subst e;exact I1.fpOk (Nat.le_refl _) (I1.hok.fresh (Nat.le_refl _))
end
section
variable {X:Cx} {pins:List (Addr×Obj)} {σ:St} {H:Hp} {s:Shared} {a:Addr} {kvs:List (zw×V)}
theorem Inv.still(I:Inv X pins σ H s)(e:H a=some (.dK kvs)): ∃o es ep,o.data= .dict es ep/\Inv X pins σ (zu H a (.frz o (.dK kvs))) s:=by
 have ok:ObjOk X.prog X.w H s.heap a (.dK kvs):=I.hok a _ e;obtain⟨h1,h2,vs,h3,o,es,ep,g1,g2,g3,g4⟩:=id ok;exact⟨o,es,ep,g3,I.write (x:=a) (e:=a) (o:=.frz o (.dK kvs)) (h':=s.heap) (t':=s.toks) (by rw[e];exact True.intro) (.inl rfl) (fun b u _ q=>q) ⟨o,g1⟩ ⟨g1,h1,h2,vs,h3,o,es,ep,g1,g2,g3,g4⟩⟩
theorem Inv.loose{o:Obj}(I:Inv X pins σ H s)(e:H a=some (.frz o (.dK kvs)))(n: ∀o u,X.H₀ a≠some (.frz o u)):Inv X pins σ (zu H a (.dK kvs)) s:=by
 have ne: ∀b,H b=none->b≠a:=fun b hb z=>by rw[z,e] at hb;cases hb
 refine { I with base:=⟨I.base.keep,I.base.slot,fun b ob q n' hx=>?_,I.base.there,fun b xs q=>?_,fun b ob u q=>?_,fun b ps q=>?_⟩,free:=?_,freeC:=?_,pin:=?_,hok:=?_ }
 ·have:=I.base.free b ob q n' hx
  rw[zy (ne b this)];exact this
 ·have:=I.base.tups b xs q
  rw[zy (fun z=>by rw[z,e] at this;cases this)];exact this
 ·have:=I.base.frzs b ob u q
  rw[zy (fun z=>n ob u (by rw[<-z];exact q))];exact this
 ·obtain⟨m,z⟩:=I.base.tbls b ps q
  exact⟨m,by rw[zy (fun y=>by rw[y,e] at z;cases z)];exact z⟩
 ·rw[zy (ne _ I.free)];exact I.free
 ·intro x c h
  have:=I.freeC x c h;rw[zy (ne _ this)];exact this
 ·intro p hp
  obtain⟨h1,h2,h3⟩:=I.pin p hp;exact⟨h1,by rw[zy (ne _ h2)];exact h2,h3⟩
 ·intro b u q
  have ho: ∀c y,H c=some (.own y)->zu H a (.dK kvs) c=some (.own y):=fun c y hc=>by
   rw[zy (fun z=>by rw[z,e] at hc;cases hc)];exact hc
  have ht: ∀c xs,H c=some (.tup xs)->zu H a (.dK kvs) c=some (.tup xs):=fun c xs hc=>by
   rw[zy (fun z=>by rw[z,e] at hc;cases hc)];exact hc
  by_cases hb:b=a
  ·subst hb
   rw[yn] at q;cases q;obtain⟨_,ok⟩:=(show ObjOk X.prog X.w H s.heap b (.frz o (.dK kvs)) from I.hok b _ e);exact ok.stay (fun _ _ _ q=>q) (fun c hc=>ho c _ hc) fun c xs hc=>ht c xs hc
  ·rw[zy hb] at q
   exact (I.hok b u q).stay (fun _ _ _ q=>q) (fun c hc=>ho c _ hc) fun c xs hc=>ht c xs hc
end
end L2
namespace L2.LW
open PySem PySem.Spec PySem.W PySem.Calls PyProof.Rows
section
variable {K:Ka} {W:Addr->Prop} {H H':Hp}
structure Swp (H H':Hp):Prop where
 d: ∀b x,Rd H b (.dK x)->Rd H' b (.dK x)
 o: ∀b u,(∀x,u≠ .dK x)->(∀o x,u≠ .frz o (.dK x))->H b=some u->H' b=some u
theorem zkK(w:Swp H H'){a:Addr}{xs:List V}(h:(¬W a/\Rd H a (.lst xs))\/vE K a xs):(¬W a/\Rd H' a (.lst xs))\/vE K a xs:=by
 rcases h with ⟨n,h|⟨o,h⟩⟩|h
 ·exact .inl ⟨n,.inl (w.o _ _ (fun _ z=>nomatch z) (fun _ _ z=>nomatch z) h)⟩
 ·exact .inl ⟨n,.inr ⟨o,w.o _ _ (fun _ z=>nomatch z) (fun _ _ z=>nomatch z) h⟩⟩
 ·exact .inr h
theorem zkL(w:Swp H H'){b:Addr}{kvs:List (List zw×V)}(h:H b=some (.dT kvs)):H' b=some (.dT kvs):=w.o b _ (fun _ z=>nomatch z) (fun _ _ z=>nomatch z) h
theorem zkM(w:Swp H H'){b:Addr}{xs:List V}(h:H b=some (.tup xs)):H' b=some (.tup xs):=w.o b _ (fun _ z=>nomatch z) (fun _ _ z=>nomatch z) h
mutual
theorem Rep.swap(w:Swp H H'): ∀{d:D} {v:V},Rep K W H d v->Rep K W H' d v
 |_,_,.int i=>.int i
 |_,_,.bl b=>.bl b
 |_,_,.non=>.non
 |_,_,.str s=>.str s
 |_,_,.dK n h l r=>.dK n (w.d _ _ h) l (Reps.swap w r)
 |_,_,.dT n h l r=>.dT n (zkL w h) l (Reps.swap w r)
 |_,_,.tup h r=>.tup (zkM w h) (Reps.swap w r)
 |_,_,.lst h r=>.lst (zkK w h) (Reps.swap w r)
theorem Reps.swap(w:Swp H H'): ∀{ds:List D} {vs:List V},Reps K W H ds vs->Reps K W H' ds vs
 |_,_,.nil=>.nil
 |_,_,.cons h t=>.cons (Rep.swap w h) (Reps.swap w t)
end
theorem ORep.swap(w:Swp H H'){d:D}{o:HO}(h:ORep K W H d o):ORep K W H' d o:=by
 cases h with
 |lst r=>exact .lst (r.swap w)
 |dK l r=>exact .dK l (r.swap w)
 |dT l r=>exact .dT l (r.swap w)
theorem R.swap{ρ:LW.Env}{σ:St}(r:R K W ρ σ H)(w:Swp H H')(ow: ∀a o,W a->H a=some o->H' a=some o):R K W ρ σ H':=by
 refine⟨fun i d h=>?_,r.nol,fun i x d h1 h2=>?_,r.inj,fun a wa=>?_,r.len⟩
 ·obtain⟨v,e,q⟩:=r.val i d h
  exact⟨v,e,q.swap w⟩
 ·obtain⟨a,o,e1,e2,e3,e4⟩:=r.own i x d h1 h2
  exact⟨a,o,e1,e2,ow a o e2 e3,e4.swap w⟩
 ·cases e:H a with
  |none=>exact KC e (r.wf a wa)
  |some o=>rw[ow a o wa e];exact fun z=>nomatch z
theorem zkN{a:Addr}{o:Obj}{kvs:List (zw×V)}(e:H a=some (.dK kvs)):Swp H (zu H a (.frz o (.dK kvs))):=by
 refine⟨fun b x h=>?_,fun b u n1 n2 h=>?_⟩
 ·by_cases z:b=a
  ·subst z
   rcases h with h|⟨o',h⟩
   ·rw[e] at h;cases h;exact .inr ⟨o,yn⟩
   ·rw[e] at h;cases h
  ·rcases h with h|⟨o',h⟩
   ·exact .inl (by rw[zy z];exact h)
   ·exact .inr ⟨o',by rw[zy z];exact h⟩
 ·rw[zy (fun z=>by rw[z,e] at h;cases h;exact n1 _ rfl)];exact h
theorem zkO{a:Addr}{o:Obj}{kvs:List (zw×V)}(e:H a=some (.frz o (.dK kvs))):Swp H (zu H a (.dK kvs)):=by
 refine⟨fun b x h=>?_,fun b u n1 n2 h=>?_⟩
 ·by_cases z:b=a
  ·subst z
   rcases h with h|⟨o',h⟩
   ·rw[e] at h;cases h
   ·rw[e] at h;cases h;exact .inl yn
  ·rcases h with h|⟨o',h⟩
   ·exact .inl (by rw[zy z];exact h)
   ·exact .inr ⟨o',by rw[zy z];exact h⟩
 ·rw[zy (fun z=>by rw[z,e] at h;cases h;exact n2 _ _ rfl)];exact h
end
theorem zkP{K:Ka}{a:Addr}{o:Obj}{ns:List Int}{ys:List V}(hl:ns.length=ys.length){H':Hp}{W':Addr->Prop}(hq:H' a=some (.frz o (.dK (yw ns ys))))(k:Nat):
  (k=(ns.map D.int).length->(Vn a o (yw ns ys)).stop k H')/\∀d,(ns.map D.int)[k]? =some d->(Vn a o (yw ns ys)).go k H'/\∀x H'',(Vn a o (yw ns ys)).yld k H' x H''->H''=H'/\Rep K W' H' d x:=by
 have ln:=zdt hl;rw[List.length_map];refine⟨fun e=>⟨hq,by rw[ln];exact e⟩,fun d e=>?_⟩;rw[List.getElem?_map,jo2] at e;obtain⟨i,e1,rfl⟩:=e;obtain⟨hk,e2⟩:=List.getElem?_eq_some_iff.mp e1;refine⟨⟨hq,by rw[ln];exact hk⟩,fun x H'' z=>?_⟩;obtain⟨z1,kv,z2,z3⟩:=z
 have:kv.1=Sum.inl i:=by
  unfold yw at z2;rw[List.getElem?_zip_eq_some] at z2;have:=z2.1;rw[List.getElem?_map,e1] at this;simpa using this.symm
 rw[z3,this];exact⟨z1,.int i⟩
section
variable {X:Cx} {fuel:Nat} {fa:Nat->List D->Option Ans} {sts:List Stmt} {ss:Ss} {x:Str} {p pos:Pos}
theorem zkQ(i j:Nat){y:Str}{px:Pos}(hp:PassesOwn (model X.prog X.w) X.A X.env X.xe)(hc:X.calm=true)(hN:X.N.Nodup)(hi:X.N[i]? =some x)(hx:wu X.env.scope x)(hj:X.N[j]? =some y)(hv:xK X.env.scope y)(hb:ISs X (zr fa fuel ss) sts)
  (hf:X.fn x=true\/X.env.scope.names.lookup x=some .local:=by first|exact .inl rfl|exact .inr rfl|assumption) (hd:(y==("__debug__":Str))=false:=by decide) (hcd:(y==("__classdict__":Str))=false:=by decide)
  (hfo: ∀x,foldedSetIterable (.Name y p) X.env x=pure x:=by intro _;rfl):IS X (zF fa fuel (.forK i j ss)) (.For (.Name x px) (.Name y p) sts [] pos):=by
 refine .mk ?_;rintro pins s σ H D0 I ⟨W,ρ,z,hR,hz,q⟩;simp only[zi0] at hz;split at hz
 case isFalse=>cases hz
 rename_i hfr;have hfr:=jD hfr;simp only[jo1] at hz;obtain⟨ks,e1,⟨fl,ρ1⟩,e2,e3⟩:=hz;unfold XG at e1;split at e1
 case h_2=>cases e1
 rename_i ks' vs hslot;cases e1
 obtain⟨rfl,rfl⟩:fl= .nx/\z=(.nx,ρ1):=by
  cases fl<;>first|(cases e3;exact⟨rfl,rfl⟩)|cases e3
 obtain⟨v,h1,h2⟩:=hR.val j _ hslot
 cases h2 with
 | @dK a ns ys vs n h l r=>
  have core: ∀{H1:Hp} {o:Obj} {es:Array DictEntry} {ep:Nat} {D1:Ends},Inv X pins σ H1 s->R X.K W ρ σ H1->H1 a=some (.frz o (.dK (yw ns ys)))->o.data= .dict es ep->
    (∀W' σ' H',SPost X.K W ρ σ H1 W' ρ1 σ' H'->D1.nx σ' H')->wpAny (model X.prog X.w) X.A (exec (.For (.Name x px) (.Name y p) sts [] pos) X.env) (SP X pins D1) X.xe s:=fun {H1 o es ep D1} I1 R1 hq hod q1=>
   Xf hp hc (zkJ (wK hj hv hd hcd)) (vY hN hi hx hf) hb.h hfo pins s σ H1 D1 I1 ⟨_,h1,a,o,_,es,ep,rfl,hq,hod,
    Vb R1 hfr (fun W' H' x k=>zkP l (x.frz _ _ _ hq) k) e2 fun W' σ' H' ps=>q1 W' σ' H' ps⟩
  rcases h with h|⟨o,h⟩
  ·obtain⟨o,es,ep,hod,I1⟩:=I.still h
   have R1:R X.K W ρ σ (zu H a (.frz o (.dK (yw ns ys)))):=hR.swap (zkN h) fun b u wb hbu=>by
    rw[zy (fun z=>n (by rw[<-z];exact wb))];exact hbu
   have n0: ∀o u,X.H₀ a≠some (.frz o u):=fun o u z=>by
    have:=I.base.frzs a o u z;rw[h] at this;cases this
   refine Kd (core (D1:={ nx:=fun σ' H'=>∃W',SPost X.K W ρ σ (zu H a (.frz o (.dK (yw ns ys)))) W' ρ1 σ' H',rt:=fun _ _=>False }) I1 R1 yn hod fun W' σ' H' ps=>⟨W',ps⟩) (fun f s' hs=>?_) fun _ _ e=>e
   cases f with
   |next=>
    obtain⟨σ',H',I',W',ps⟩:=hs;have na: ¬xO ρ σ a:=fun z=>n (R1.ownW z).1
    have ha:H' a=some (.frz o (.dK (yw ns ys))):=ps.keep a _ yn na
    have nw: ¬W' a:=fun w=>by
     rcases ps.win a w with z|z
     ·exact n z
     ·rw[yn] at z;cases z
    refine⟨σ',zu H' a (.dK (yw ns ys)),I'.loose ha n0,q W' σ' _ ⟨ps.r.swap (zkO ha) fun b u wb hbu=>?_,fun b u hbu no=>?_,fun b w=>?_,ps.wout,ps.io⟩⟩
    ·rw[zy (fun z=>nw (by rw[<-z];exact wb))];exact hbu
    ·by_cases z:b=a
     ·subst z;rw[yn,<-h,hbu]
     ·rw[zy z]
      exact ps.keep b u (by rw[zy z];exact hbu) no
    ·rcases ps.win b w with z|z
     ·exact .inl z
     ·by_cases y:b=a
      ·exact KC (by rw[<-y];exact w) nw
      ·rw[zy y] at z;exact .inr z
   |brk=>obtain⟨_,_,_,z⟩:=hs;exact z.elim
   |cont=>obtain⟨_,_,_,z⟩:=hs;exact z.elim
   |ret u=>obtain⟨_,_,_,_,_,z⟩:=hs;exact z.elim
  ·obtain⟨_,_,_,vs',_,o',es,ep,g1,g2,g3,_⟩:=(show ObjOk X.prog X.w H s.heap a (.frz o (.dK (yw ns ys))) from I.hok a _ h)
   have e1:o=o':=by
    have h1:=(show ObjOk X.prog X.w H s.heap a (.frz o (.dK (yw ns ys))) from I.hok a _ h).1;rw[h1] at g1;cases g1;rfl
   subst e1;exact core I hR h g3 fun W' σ' H' ps=>q W' σ' H' ps
end
end L2.LW
set_option maxHeartbeats 4000000
set_option maxRecDepth 100000
namespace L2.LW
open PySem PySem.Spec PySem.W PySem.Calls PyProof.Rows
open AutoSeq1 (wpAny_loadPart')
section
variable {prog:Program} {w:World} {A:Around} {E:Value->Shared->Prop} {s:Shared}
theorem zkR{it t:Addr}{i:Nat}{items:Array Value}{x:Value}{Q:Value->Shared->Prop}(ht:s.heap.IsTupleIter it t i)(hl:s.heap.IsTuple t items)(hx:items[i]? =some x)
  (hQ: ∀h',h'.IsTupleIter it t (i+1)->Heap.SameBut it s.heap h'->Q x { s with heap:=h' }):wpAny (model prog w) A (Builtin.SmallTypes.nextOf (.ref it)) Q E s:=by
 obtain⟨ob,h1,h2,h3⟩:=id ht;obtain⟨ol,g1,_,nl,g2⟩:=hl;unfold Builtin.SmallTypes.nextOf;refine Kb (wpAny_callSpecial?_slot (name:=Str.ofString "__next__") ht.typeIs F.slot_tuple_iterator_next (wpAny_call_entry F.slot_tuple_iterator_next ht.typeIs F.entry_tuple_iterator_next ?_ (F.args_tuple_iterator_next_1 _)));show wpAny _ _ (field (.ref it) 0 >>= _) _ _ s;refine Kb (wpAny_field h1 h3 (x:=.ref t) rfl ?_);show wpAny _ _ (if (Value.ref t==Value.none)=true then _ else _) _ _ s;rw[if_neg (show ¬((Value.ref t==Value.none)=true) from Km)];show wpAny _ _ (field (.ref it) 1 >>= _) _ _ s;refine Kb (wpAny_field h1 h3 (x:=.int i 0) rfl ?_);show wpAny _ _ (seqItems? (.ref t) >>= _) _ _ s;refine Kb (wpAny_seqItems g1 g2 ?_);simp only[Int.toNat_natCast,hx];refine Kb (wpAny_setField h1 h3 (by simp) (Kc ⟨x,rfl,Kc (hQ _ ⟨_,Heap.get?_update_self _ h1 (Obj.isFreed_of_fields (Obj.data_mapFields h3 _)),(Obj.cls_mapFields ..).trans h2,by rw[Obj.data_mapFields h3];simp[rawInt]⟩ (Heap.SameBut.update ..))⟩))
theorem zkS{it t:Addr}{i:Nat}{items:Array Value}{Q:Value->Shared->Prop}(hh:A.handled=Option.none)(ht:s.heap.IsTupleIter it t i)(hl:s.heap.IsTuple t items)(hx:items[i]? =Option.none)
  (hE: ∀h' e,Heap.ExtBut it s.heap h'->(∃o,h'.get? e=some o/\o.cls= .type "StopIteration")->E (.ref e) { s with heap:=h' }):wpAny (model prog w) A (Builtin.SmallTypes.nextOf (.ref it)) Q E s:=by
 obtain⟨ob,h1,h2,h3⟩:=id ht;obtain⟨ol,g1,_,nl,g2⟩:=hl;unfold Builtin.SmallTypes.nextOf;refine Kb (wpAny_callSpecial?_slot (name:=Str.ofString "__next__") ht.typeIs F.slot_tuple_iterator_next (wpAny_call_entry F.slot_tuple_iterator_next ht.typeIs F.entry_tuple_iterator_next ?_ (F.args_tuple_iterator_next_1 _)));show wpAny _ _ (field (.ref it) 0 >>= _) _ _ s;refine Kb (wpAny_field h1 h3 (x:=.ref t) rfl ?_);show wpAny _ _ (if (Value.ref t==Value.none)=true then _ else _) _ _ s;rw[if_neg (show ¬((Value.ref t==Value.none)=true) from Km)];show wpAny _ _ (field (.ref it) 1 >>= _) _ _ s;refine Kb (wpAny_field h1 h3 (x:=.int i 0) rfl ?_);show wpAny _ _ (seqItems? (.ref t) >>= _) _ _ s;refine Kb (wpAny_seqItems g1 g2 ?_);simp only[Int.toNat_natCast,hx];refine Kb (wpAny_rule (Kb (wpAny_setField h1 h3 (by simp) ?_)));show wpAny _ _ (newExc (.type "StopIteration") [] >>= _) _ _ _;refine Kb ?_;simp only[newExc,newTuple];refine Kb (wpAny_newObj_type ?_ (by size_fits));refine Kb (m:=firstArgMember _ _) (wpAny_of_eq (a:=Value.none) (by first|rfl|(simp only[firstArgMember];rfl)) (wpAny_newObj_type ?_ (by size_fits)));simp only[raiseNew];refine Kb (wpAny_handled ?_);(first|rw[show A.in1.handled=Option.none from hh]|rw[hh]);exact Kb (Kc (wpAny_throw (hE _ _ (((Heap.SameBut.update ..).extBut.push _).push _) ⟨_,Heap.get?_push_size _ rfl,rfl⟩)))
theorem zkT{h h':Heap}{a:Addr}{its:Array Value}(x:h.IsTuple a its)(e: ∀o,h.get? a=some o->h'.get? a=some o):h'.IsTuple a its:=by
 obtain⟨o,h1,r⟩:=x;exact⟨o,e o h1,r⟩
theorem zdZ(hh:A.handled=Option.none)(it t:Addr)(ne:t≠it)(items:Array Value):Draws prog w A it [it,t] items.size (fun i v=>items[i]? =some v) (fun i h=>h.IsTupleIter it t i/\h.IsTuple t items) where
 live:=fun _ _ st=>by obtain⟨⟨o,h,_⟩,_⟩:=st;exact⟨o,h⟩
 frame:=fun _ _ _ st hk=>⟨st.1.at fun o e=>hk it (by simp) o e,zkT st.2 fun o e=>hk t (by simp) o e⟩
 item:=fun i s Q E hi st hQ=>zkR st.1 st.2 (x:=items[i]) (by simp[hi]) fun h' ht' hs'=>hQ _ h' s.toks (by simp[hi]) ⟨ht',st.2.extBut hs'.extBut ne⟩ hs'
 done:=fun s Q E st hE=>zkS hh st.1 st.2 (by simp) hE
theorem zkU(l:Addr)(items:Array Value)(n:Nat)(dct:Option Addr)(sl:Array (Option Value)):
  Meets (Builtin.«enumerate.__new__» ⟨[.type "enumerate",.ref l],[]⟩) (fun _ R s=>s.heap.get? l=some { cls:=.type "tuple",dict:=dct,data:=.seq items n,slots:=sl }/\
   R (.ok (.ret (.ref (s.heap.push { cls:=.type "tuple_iterator",data:=.fields #[.ref l,.int 0 0] }).objs.size)))
    { s with heap:=(s.heap.push { cls:=.type "tuple_iterator",data:=.fields #[.ref l,.int 0 0] }).push { cls:=.type "enumerate",data:=.fields #[.none,.bool false,.ref s.heap.objs.size,rawInt 0,.none,.none] } }):=
 .of_wp fun prog w A R s h=>by
  obtain⟨hp,g,d,tk,os⟩:=s;obtain⟨hl,h⟩:=h;have hsub:=sub_enumerate;have hT:Heap.IsTuple (Shared.heap ⟨hp,g,d,tk,os⟩) l items:=⟨_,hl,rfl,n,rfl⟩
  wp_walk using wpAny_loadPart' hl
  refine wpAny_stack_any fun st=>Kc ?_
  split
  ·rename_i c _ _ _ _ _
   cases (c==Value.type "enumerate")
   ·wp_walk using wpAny_loadPart' hl,wpAny_pyIter_tuple hT
    exact⟨_,rfl,h⟩
   ·wp_walk using wpAny_loadPart' hl,wpAny_pyIter_tuple hT
    exact⟨_,rfl,h⟩
  ·wp_walk using wpAny_loadPart' hl,wpAny_pyIter_tuple hT
   exact⟨_,rfl,h⟩
theorem zkV{l:Addr}{items:Array Value}{Q:Value->Shared->Prop}(hL:s.heap.IsTuple l items)
  (h: ∀h',IsEnum h' (s.heap.objs.size+1) s.heap.objs.size 0 .none->h'.IsTupleIter s.heap.objs.size l 0->h'.objs.size=s.heap.objs.size+2->(∀b o,s.heap.get? b=some o->h'.get? b=some o)->Q (.ref (s.heap.objs.size+1)) { s with heap:=h' }):
  wpAny (model prog w) A (call (.type "enumerate") [.ref l]) Q E s:=by
 obtain⟨⟨c,dct,dt,sl⟩,hl,hc,n,hd⟩:=hL;replace hc:c= .type "tuple":=hc;replace hd:dt= .seq items n:=hd;subst hc hd;refine callType_new F.called_enumerate (by decide) (F.typeCall_enumerate_1 _) (F.newCall_enumerate_1 _) (fun obj=>F.args_object_init_2 obj _) F.entry_enumerate_new (zkU l items n dct sl) ⟨hl,?_⟩;have hz:(s.heap.push { cls:=.type "tuple_iterator",data:=.fields #[.ref l,.int 0 0] }).objs.size=s.heap.objs.size+1:=Heap.size_push ..;show _/\_;rw[hz]
 have he:IsEnum ((s.heap.push { cls:=.type "tuple_iterator",data:=.fields #[.ref l,.int 0 0] }).push { cls:=.type "enumerate",data:=.fields #[.none,.bool false,.ref s.heap.objs.size,rawInt 0,.none,.none] }) (s.heap.objs.size+1) s.heap.objs.size 0 .none:=by
  have:=Heap.get?_push_size (s.heap.push { cls:=.type "tuple_iterator",data:=.fields #[.ref l,.int 0 0] }) (o:={ cls:=.type "enumerate",data:=.fields #[.none,.bool false,.ref s.heap.objs.size,rawInt 0,.none,.none] }) rfl;rw[hz] at this;exact this
 refine⟨⟨_,he,rfl⟩,h _ he ⟨_,Kl _ (Heap.get?_push_size _ rfl),rfl,rfl⟩ (by rw[Heap.size_push,hz]) fun b o x=>Kl _ (Kl _ x)⟩
end
theorem zkW{P:Program}{w:World}{K:Ka}{elts:List Expr}{kt:Nat}{pt:Pos}{xs:List V}(a it e:Addr)(ne:e≠it):
  Turn P w K (.Tuple elts kt pt) (zdT xs.length (fun i=>xs[i]?) fun H=>SqT K H a xs) [e,it] e (fun i h=>(∃old,IsEnum h e it i old)/\h.IsTupleIter it a i) where
 mem:=by simp
 obj:=fun i h zz2 b hb=>by
  obtain⟨⟨old,st⟩,st2⟩:=zz2;rcases List.mem_cons.mp hb with rfl|hb
  ·exact⟨_,st,fun v z=>by cases z⟩
  ·obtain rfl:=List.mem_singleton.mp hb
   obtain⟨o,e1,c,d⟩:=st2;exact⟨o,e1,fun v z=>by rw[d] at z;cases z⟩
 keep:=fun i h h' ⟨⟨old,st⟩,st2⟩ k=>⟨⟨old,k e (by simp) _ st⟩,st2.at fun o z=>k it (by simp) o z⟩
 item:=by
  intro X hP hw hK hc i pins s σ H E I hf ⟨⟨old,st⟩,st2⟩ ⟨hlt,hq⟩;subst hP hw hK;obtain⟨its,rv,p,hz⟩:=I.tuple hq;have p:s.heap.IsTuple a its.toArray:=p
  have na:a≠it:=fun z=>by
   obtain⟨o,q1,q2,_⟩:=p;obtain⟨o',q3,q4,_⟩:=st2;rw[z,q3] at q1;cases q1;rw[q2] at q4;simp at q4
  have nea:a≠e:=fun z=>by
   obtain⟨o,q1,q2,_⟩:=p;have st:s.heap.get? e=some _:=st;rw[z,st] at q1;cases q1;simp at q2
  have D:=zdZ (prog:=X.prog) (w:=X.w) (A:=X.A.in1) (I.ok.hd hc) it a na its.toArray;have hl:=rv.length;refine wpAny_pyNext_enum_itemD D st ⟨st2,p⟩ (by simp;omega) ne (by simp[ne,Ne.symm nea]) fun v h1 tk hv eo l1 tp sz kp=>?_
  obtain⟨u,hu,ru⟩:=rv.get (show xs[i]? =some xs[i] by simp[hlt]);have hv:its[i]? =some v:=by simpa using hv
  rw[hu] at hv;cases hv;refine⟨_,rfl,zku (s:={ s with heap:=h1,toks:=tk+1 }) eo fun h2 en sb=>?_⟩;have lt:e<s.heap.objs.size:=Kk st;have lt2:it<s.heap.objs.size:=by obtain⟨o,z,_⟩:=st2;exact Kk z
  have I2:=zks (h':=h2) (i:=(i:Int)) (tk:=tk) (k:=tk+1) I (hf e (by simp)) (hf it (by simp)) (fun b o n1 n2 z=>(sb.2 b n1).trans (kp b o n1 n2 z)) ((sb.2 _ (Nat.ne_of_gt lt)).trans tp) ru;refine⟨.ref s.heap.objs.size,_,I2,rfl,⟨_,_,I.fresh,rfl,rfl,by simp[hlt]⟩,⟨⟨v,?_⟩,l1.1.extBut sb.extBut (Ne.symm ne)⟩,fun b hb=>?_⟩
  ·have e2:((i+1:Nat):Int)=(i:Int)+1:=by omega
   rw[e2];exact en
  ·have nb:b≠s.heap.objs.size:=by
    rcases List.mem_cons.mp hb with rfl|hb
    ·exact Kh lt
    ·obtain rfl:=List.mem_singleton.mp hb;exact Kh lt2
   rw[zy nb];exact (hf b hb).1
 done:=by
  intro X hP hw hK hc i pins s σ H E I hf ⟨⟨old,st⟩,st2⟩ ⟨hge,hq⟩;subst hP hw hK;obtain⟨its,rv,p,hz⟩:=I.tuple hq;have p:s.heap.IsTuple a its.toArray:=p
  have na:a≠it:=fun z=>by
   obtain⟨o,q1,q2,_⟩:=p;obtain⟨o',q3,q4,_⟩:=st2;rw[z,q3] at q1;cases q1;rw[q2] at q4;simp at q4
  have D:=zdZ (prog:=X.prog) (w:=X.w) (A:=X.A.in1) (I.ok.hd hc) it a na its.toArray;have hl:i=its.toArray.size:=by rw[hge,rv.length];simp
  subst hl;exact wpAny_pyNext_enum_endD D st ⟨st2,p⟩ fun h' eb=>⟨rfl,zkt (e:=e) I (hf it (by simp)) fun b o hb z=>eb b o hb z⟩
 self:=fun _ _ _ _ _ ⟨⟨_,st⟩,_⟩ h=>wpAny_pyIter_enum st h
section
variable {X:Cx} {fn:Nat->List D->Option SV} {e:Expr} {ce:E} {pos p:Pos} {elts:List Expr} {kt:Nat} {pt:Pos}
noncomputable def zkX(K:Ka)(fn:Nat->List D->Option SV)(c:E):TI:=fun σ H R0=>∃W ρ l,R K W ρ σ H/\zo fn c ρ=some (.val (.tup l))/\∀J H1,Same H H1->YE K J W H1 (xB 0 l)->R0 J H1
theorem zkY(hg:Gl X "enumerate")(hm:X.mg "enumerate"=Option.none)(he:IE X fn e ce)(hst:starEach [e] X.env=[(false,eval e X.env)]):
  PI X (.Tuple elts kt pt) (.Call (.Name "enumerate" p) [e] [] pos) (zkX X.K fn ce):=by
 intro pins s σ H R0 I ⟨W,ρ,l,hR,h1,q1⟩;refine wpAny_Call_Name_kw (Zd I hg hm PyProof.Rows.boot_enumerate ?_ (by decide) (by decide));have hA:=(xX he.v wL hst) pos pins s σ H (fun vs H1=>∃v,vs=[v]/\Same H H1/\Frz X.K W H1 (.val (.tup l)) v) I ⟨W,ρ,_,hR,h1,fun v H1 s1 f1=>⟨v,rfl,s1,f1⟩⟩;refine PyProof.Rows.callWith_type1 (zt hA fun us s1 ⟨vs,H1,I1,rv,v,hv,s01,f1⟩=>?_) hst zi;subst hv;obtain⟨u,rfl,ru⟩:=wz rv
 cases f1 with
 |val h=>
  cases h with
  | @tup q xs ds hH rp=>
   cases ru;obtain⟨its,rv2,pl,hz⟩:=I1.tuple (SqT.of hH);refine zkV pl fun h' en li sz kp=>?_
   refine wpAny_pyIter_enum en ?_;have I2:Inv X pins σ H1 { s1 with heap:=h' }:=I1.kept (t':=s1.toks) kp;refine⟨s1.heap.objs.size+1,[s1.heap.objs.size+1,s1.heap.objs.size],_,_,H1,rfl,I2,zkW (xs:=xs) q s1.heap.objs.size (s1.heap.objs.size+1) (Nat.succ_ne_self _),⟨⟨_,en⟩,li⟩,fun b hb=>?_,q1 _ H1 s01 (zkv (xs:=xs) rp.length.symm (fun _=>rfl) (fun W' H' x=>.of (x.tup _ _ hH)) fun W' H' x=>rp.ext x)⟩;rcases List.mem_cons.mp hb with rfl|hb
   ·exact I1.fpOk (Kj _) (I1.hok.fresh (Kj _))
   ·obtain rfl:=List.mem_singleton.mp hb
    exact I1.fpOk (Nat.le_refl _) (I1.hok.fresh (Nat.le_refl _))
end
end L2.LW
set_option maxHeartbeats 4000000
namespace L2.LW
open PySem PySem.Spec PySem.W PySem.Calls PyProof.Rows
noncomputable def xg(X:Cx)(scope:Scope)(x y:Str)(s₃:Shared)(H₃:Hp)(fp:List Addr)(pins:List (Addr×Obj)):Cx:={ yg X scope x s₃ H₃ fp pins with N:=x::y::X.N }
structure CompSc2 (X:Cx)(scope:Scope)(x y:Str):Prop where
 one:CompSc X scope x
 nx:wy x X.N=X.N
 lx:scope.names.lookup x=some .local
 ly:scope.names.lookup y=some .local
 nd2:(x::y::X.N).Nodup
section
variable {X:Cx} {scope:Scope} {x y:Str} {s₃:Shared} {H₃:Hp} {fp:List Addr} {pins ps:List (Addr×Obj)} {σ:St} {a b:Option V} {H:Hp} {s:Shared}
theorem zkZ(h:(yg X scope x s₃ H₃ fp pins).Ok):(xg X scope x y s₃ H₃ fp pins).Ok:=⟨h.mod,h.kind,h.glob,h.blt,h.above,h.inj,h.has,h.cab,h.hd,h.frames,h.stk,h.exf,h.bs,h.bsz,h.noex,h.exfs,h.funs,h.frf⟩
theorem zk0(h:(xg X scope x y s₃ H₃ fp pins).Ok):(yg X scope x s₃ H₃ fp pins).Ok:=⟨h.mod,h.kind,h.glob,h.blt,h.above,h.inj,h.has,h.cab,h.hd,h.frames,h.stk,h.exf,h.bs,h.bsz,h.noex,h.exfs,h.funs,h.frf⟩
theorem zk1(S:CompSc2 X scope x y)(J:Inv (xg X scope x y s₃ H₃ fp pins) ps (a::b::σ) H s):Inv (yg X scope x s₃ H₃ fp pins) ps (a::σ) H s:=by
 obtain⟨m,hm,hl⟩:=J.loc;refine⟨zk0 J.ok,J.os,J.bare,J.base,⟨m,hm,fun i z v h1 h2 h3=>?_⟩,J.cell,J.free,J.freeC,J.pin,J.hok,?_⟩
 ·cases i with
  |zero=>exact hl 0 z v h1 h2 h3
  |succ i=>
   have h1:(wy x X.N)[i]? =some z:=h1;rw[S.nx] at h1;exact hl (i+2) z v h1 h2 h3
 ·have:=J.len
  show σ.length+1=(x::wy x X.N).length;rw[S.nx];have e:σ.length+1+1=X.N.length+1+1:=this;rw[List.length_cons];omega
theorem zk2(S:CompSc2 X scope x y)(J:Inv (yg X scope x s₃ H₃ fp pins) ps (Option.none::σ) H s):Inv (xg X scope x y s₃ H₃ fp pins) ps (Option.none::Option.none::σ) H s:=by
 obtain⟨m,hm,hl⟩:=J.loc;refine⟨zkZ J.ok,J.os,J.bare,J.base,⟨m,hm,fun i z v h1 h2 h3=>?_⟩,J.cell,J.free,J.freeC,J.pin,J.hok,?_⟩
 ·match i with
  |0=>cases h2
  |1=>cases h2
  |i+2=>
   have h1:X.N[i]? =some z:=h1;exact hl (i+1) z v (by show (wy x X.N)[i]? =some z;rw[S.nx];exact h1) h2 h3
 ·have e:σ.length+1=(x::wy x X.N).length:=J.len
  rw[S.nx,List.length_cons] at e;show σ.length+1+1=X.N.length+1+1;omega
theorem CompSc2.locX(S:CompSc2 X scope x y):wu (xg X scope x y s₃ H₃ fp pins).env.scope x:=.inl (lookup_relabel_local S.lx)
theorem CompSc2.locY(S:CompSc2 X scope x y):wu (xg X scope x y s₃ H₃ fp pins).env.scope y:=.inl (lookup_relabel_local S.ly)
theorem CompSc2.fnX(S:CompSc2 X scope x y):(xg X scope x y s₃ H₃ fp pins).fn x=true\/(xg X scope x y s₃ H₃ fp pins).env.scope.names.lookup x=some .local:=.inr (lookup_relabel_local S.lx)
theorem CompSc2.fnY(S:CompSc2 X scope x y):(xg X scope x y s₃ H₃ fp pins).fn y=true\/(xg X scope x y s₃ H₃ fp pins).env.scope.names.lookup y=some .local:=.inr (lookup_relabel_local S.ly)
structure CSt2 (X:Cx)(scope:Scope)(x y:Str)(s₃:Shared)(H₃:Hp)(fp:List Addr)(pins:List (Addr×Obj))(σ:St)(tn:Nat->Heap->Prop)(H2:Hp)(W:Addr->Prop)(L:Addr)(test:D->Option Bool)(elt:D->Option SV)(ds out:List D)
  (n k:Nat) (a b:Option V) (H':Hp) (ys:List V) (out1 zO:List D) (s':Shared):Prop where
 inv:Inv (xg X scope x y s₃ H₃ fp pins) [] (a::b::σ) H' s'
 htn:tn k s'.heap
 hfp: ∀b∈fp,H' b=Option.none
 hn:n=ds.length+1-k
 hk:k<=ds.length
 same:Same H2 H'
 lst:H' L=some (.lst ys)
 reps:Reps X.K (add W L) H' out1 ys
 hrest:yY test elt (ds.drop k)=some zO
 hout:out=out1++zO
end
section
variable {X:Cx} {fn:Nat->List D->Option SV}
theorem zk3{e0 elt c:Expr}{x y:Str}{px py pos pos2 p pos3 pt:Pos}{kt:Nat}{scope:Scope}{cond ce ce0:E}{pins:List (Addr×Obj)}{s:Shared}{σ:St}{H:Hp}{W:Addr->Prop}{ρ:LW.Env}{l out:List D}{use:Option (Value->Sem Unit)}{Qe:Value->Shared->Prop}
  (hcalm:X.calm=true) (S:CompSc2 X scope x y) (hg:Gl X "enumerate") (hm:X.mg "enumerate"=Option.none) (he:IE X fn e0 ce0) (hst:starEach [e0] X.env=[(false,eval e0 X.env)])
  (hcond: ∀s₃ H₃ fp pins,IT (xg X scope x y s₃ H₃ fp pins) fn c cond) (helt: ∀s₃ H₃ fp pins,IE (xg X scope x y s₃ H₃ fp pins) fn elt ce) (hfo: ∀y,foldedSetIterable (.Call (.Name "enumerate" p) [e0] [] pos3) X.env y=pure y) (I:Inv X pins σ H s) (hR:R X.K W ρ σ H)
  (e1:zo fn ce0 ρ=some (.val (.tup l))) (hline:l.length<=line) (e3:yY (fun p=>vC p fun a b=>zA fn cond (some (.val a)::some (.val b)::ρ)) (fun p=>vC p fun a b=>zo fn ce (some (.val a)::some (.val b)::ρ)) (xB 0 l)=some out)
  (fin: ∀(s4:Shared) (fl:Flow) (m:Str->Option Value) (C L:Addr) (H':Hp),s4.heap.Ns C m->(∀h',Heap.SameBut C s4.heap h'->Inv X pins σ H' { s4 with heap:=h' })->Same H H'->
   Res X.K W H H' (.obj true (.lst out)) (.ref L)->compPost (model X.prog X.w) X.A X.xe use Qe (.ref L) C (.ok fl) s4):
  wpAny (model X.prog X.w) X.A (comprehension (.ListComp elt [⟨.Tuple [.Name x px,.Name y py] kt pt,.Call (.Name "enumerate" p) [e0] [] pos3,[c],0⟩] scope pos) scope X.env pos2 (newList []) false (eval (.Call (.Name "enumerate" p) [e0] [] pos3) X.env) use) Qe X.xe s:=by
 have hclos:=gA (scope:=scope) (env:=X.env) (S.one.cells I.ok);refine wpAny_comprehension_free (use:=use) rfl hfo hclos S.one.kind S.one.names ?_;refine zt (zkY (elts:=[.Name x px,.Name y py]) (kt:=kt) (pt:=pt) hg hm he hst pins s σ H (fun J H2=>Same H H2/\YE X.K J W H2 (xB 0 l)) I ⟨W,ρ,l,hR,e1,fun J H' s1 y=>⟨s1,y⟩⟩) fun v s1 h1=>zt h1 fun itv s2 h2=>?_
 obtain⟨it,fp,tn,J,H2,rfl,I2,T,st2,f2,sm,hy⟩:=h2;refine wpAny_newObj_type (gC S.one fun h₁ hns₁ hk₁ hc₁=>?_);have hdl:(xB 0 l).length=l.length:=gX 0 l;generalize hds:xB 0 l=ds at*;have I3:=I2.lnew (t':=s2.toks) (ys:=[]) (its:=[]) .nil (Nat.zero_le _);have hD:H2 s2.heap.objs.size=Option.none:=I2.fresh;generalize hL:s2.heap.objs.size=L at hD;generalize hs3:({ s2 with heap:=s2.heap.push { cls:=.type "list",data:=.seq ([]:List Value).toArray },toks:=s2.toks }:Shared)=s₃ at I3;have hs3h:s₃.heap=s2.heap.push { cls:=.type "list",data:=.seq ([]:List Value).toArray }:=by rw[<-hs3]
 rw[hL] at I3;generalize hH3:zu H2 L (.lst [])=H₃ at I3
 have blt: ∀b∈fp,b<s2.heap.objs.size:=fun b hb=>by
  obtain⟨o,e,_⟩:=T.obj _ _ st2 b hb;exact Kk e
 have hlt: ∀b∈fp,b<s₃.heap.objs.size:=fun b hb=>by rw[hs3h,Heap.size_push];exact KD (blt b hb)
 have hf: ∀b∈fp,xL X pins H₃ b:=fun b hb=>by
  refine⟨?_,(f2 b hb).2⟩;rw[<-hH3,zy (by rw[<-hL];exact Kh (blt b hb))];exact (f2 b hb).1
 have keep1: ∀b o,s₃.heap.get? b=some o->h₁.get? b=some o:=fun b o e=>by
  rw[hs3h] at e;exact hk₁ b o e
 have ns1:h₁.Ns s₃.heap.objs.size fun _=>Option.none:=by rw[hs3h];exact hns₁
 have Ic:=zk2 S (gF (tk:=s2.toks) S.one I3 hf hlt ns1 keep1 (by rw[hs3h];exact hc₁));have fpc: ∀{H':Hp},(∀b∈fp,H' b=Option.none)->∀b∈fp,xL (xg X scope x y s₃ H₃ fp pins) [] H' b:=fun {H'} hn b hb=>gI (H':=H') S.one I3 hf hlt hn b hb
 have win: ∀b,add W L b->W b\/H2 b=Option.none:=fun b w=>by
  rcases w with w|rfl
  ·exact .inl w
  ·exact .inr hD
 have hRL: ∀{H':Hp} {ys:List V},Same H2 H'->H' L=some (.lst ys)->R X.K (add W L) ρ σ H':=fun {H' ys} sm' e=>(hR.same sm).add sm' hD e
 have lenO:out.length<=ds.length:=QH e3
 have loop: ∀s':Shared,s'={ s₃ with heap:=h₁,toks:=s2.toks }->codeAny (model X.prog X.w) X.A (.compLoop (.ListComp elt [⟨.Tuple [.Name x px,.Name y py] kt pt,.Call (.Name "enumerate" p) [e0] [] pos3,[c],0⟩] scope pos) 0 (.ref it) (.ref L) (xg X scope x y s₃ H₃ fp pins).env)
   (compPost (model X.prog X.w) X.A X.xe use Qe (.ref L) s₃.heap.objs.size) s':=by
  rintro s' rfl
  refine gH (fun n s'=>∃k a b H' ys out1 zO,CSt2 X scope x y s₃ H₃ fp pins σ tn H2 W L (fun p=>vC p fun a b=>zA fn cond (some (.val a)::some (.val b)::ρ)) (fun p=>vC p fun a b=>zo fn ce (some (.val a)::some (.val b)::ρ)) ds out n k a b H' ys out1 zO s') ?_ (ds.length+1)
   ⟨0,Option.none,Option.none,H₃,[],[],out,Ic,T.keep _ _ _ st2 (fun b hb o e=>keep1 b o (by rw[hs3h];exact Kl _ e)),fun b hb=>(hf b hb).1,rfl,Nat.zero_le _,by rw[<-hH3];exact yP hD _,by rw[<-hH3];exact yn,.nil,e3,rfl⟩
  rintro n s' ⟨k,ya,yb,H',ys,out1,zO,c'⟩;obtain⟨hstop,hgo⟩:=hy (add W L) H' (.sameW c'.same win) k;by_cases hk:k<ds.length
  ·have hd:ds[k]? =some ds[k]:=by simp[hk]
   obtain⟨g1,g2⟩:=hgo _ hd;have crest:=c'.hrest;rw[gy hd] at crest;simp only[yY,jo1] at crest;obtain⟨b,t1,t2⟩:=crest;obtain⟨dx,dx1,dx2⟩:=gW (by rw[hds];exact hd:(xB 0 l)[k]? =some ds[k]);rw[dx2] at t1 t2 g2;have t1:zA fn cond (some (.val (.int ((0+k:Nat):Int)))::some (.val dx)::ρ)=some b:=t1;refine zt (T.item (xg X scope x y s₃ H₃ fp pins) rfl rfl rfl hcalm k [] s' (ya::yb::σ) H' _ c'.inv (fpc c'.hfp) c'.htn g1) fun r s4 ⟨u,hr,h4⟩=>?_
   subst hr;refine zt h4 fun _ s5 ⟨xv,H5,I5,r5,y5,st5,fr5⟩=>?_
   obtain⟨sm5,rv⟩:=g2 xv H5 y5;have I5':=I5.pinned (fpc fr5) (T.obj _ _ st5)
   obtain⟨q,va,vb,rfl,hq,ra,rb⟩: ∃q va vb,xv= .ref q/\H5 q=some (.tup [va,vb])/\Rep X.K (add W L) H5 (.int ((0+k:Nat):Int)) va/\Rep X.K (add W L) H5 dx vb:=by
    cases rv with
    |tup hH rp=>
     cases rp with
     |cons ra rp=>
      cases rp with
      |cons rb rp=>cases rp;exact⟨_,_,_,rfl,hH,ra,rb⟩
   have pg:PG (xg X scope x y s₃ H₃ fp pins) (.Tuple [.Name x px,.Name y py] kt pt) (zbX X.K 2 (qv (vX 0) (qv (vX 1) zbV))):=zg5 hcalm (zbW (vY (i:=0) S.nd2 rfl S.locX S.fnX) (zbW (vY (i:=1) S.nd2 rfl S.locY S.fnY) zg4));refine zt (pg _ s5 (ya::yb::σ) H5 (.ref q) u (fun σ' H'=>σ'=some va::some vb::σ/\H'=H5) I5' r5 ⟨_,_,rfl,.of hq,rfl,_,_,rfl,_,_,rfl,rfl,rfl,rfl⟩) fun _ s6 ⟨σ6,H6,I6,q6,q7⟩=>?_
   subst q6 q7;have hRc:=((hRL (c'.same.trans sm5) (sm5 _ _ c'.lst)).cons rb).cons ra;refine zt (wpAny_tests_one ((hcond s₃ H₃ fp pins).h _ s6 _ H6 (fun b' H7=>b'=b/\Same H6 H7) I6 ⟨add W L,_,b,hRc,t1,fun H7 s7=>⟨rfl,s7⟩⟩)) fun ok s7 ⟨H7,I7,q7,m7⟩=>?_
   subst q7
   have back: ∀{s':Shared} {H':Hp},Inv (xg X scope x y s₃ H₃ fp pins) ([]++Zh fp s5.heap) (some va::some vb::σ) H' s'->tn (k+1) s'.heap/\∀b∈fp,H' b=Option.none:=fun {s' H'} J=>by
    refine⟨T.keep _ _ _ st5 fun b hb o e=>(J.pin (b,o) (Ko _ (Ko _ (jx hb e)))).1,fun b hb=>?_⟩;obtain⟨o,e,d⟩:=T.obj _ _ st5 b hb;exact (J.pin (b,o) (Ko _ (Ko _ (jx hb e)))).2.1
   have m57:=sm5.trans m7
   cases ok with
   |false=>
    rw[if_neg Km];have bk:=back I7;exact⟨_,by have:=c'.hn;omega,k+1,some va,some vb,H7,ys,out1,zO,I7.unpinned,bk.1,bk.2,rfl,hk,c'.same.trans m57,m57 _ _ c'.lst,c'.reps.ext (.same m57),t2,c'.hout⟩
   |true=>
    rw[if_pos rfl];simp only[jo1,jo2] at t2;obtain⟨r8,t3,d8,t4,rest',t5,rfl⟩:=t2;have t3:zo fn ce (some (.val (.int ((0+k:Nat):Int)))::some (.val dx)::ρ)=some r8:=t3;have hR7:=hRc.same m7;refine zt ((helt s₃ H₃ fp pins).h _ s7 _ H7 (fun v H8=>Same H7 H8/\Rep X.K (add W L) H8 d8 v) I7 ⟨add W L,_,r8,hR7,t3,fun v8 H8 m8 res=>⟨m8,(res.frz hR7.wf).toD t4⟩⟩) fun u8 s8 ⟨v8,H8,I8,rl8,m8,rp8⟩=>?_
    have lst8:=m8 _ _ (m57 _ _ c'.lst);have lenY:=c'.reps.length;have lenT:=congrArg List.length c'.hout;rw[List.length_append,List.length_cons] at lenT;have le:=Yb;refine zt (JV (X:=xg X scope x y s₃ H₃ fp pins) _ s8 _ H8 (.ref L) [v8] (.ref L) [u8] (fun _ H9=>H9=zu H8 L (.lst (ys++[v8]))) I8 rfl (.cons rl8 .nil) ⟨L,ys,v8,rfl,rfl,lst8,by omega,rfl⟩) fun _ s9 ⟨_,H9,I9,_,q9⟩=>?_
    subst q9;have bk:=back I9
    have ext:Ext (add W L) H8 (add W L) (zu H8 L (.lst (ys++[v8]))):=by
     refine⟨fun b o q n=>?_,fun b zs q=>?_,fun b o u q=>?_,fun b w=>.inl w⟩
     ·rw[zy (fun z=>n (.inr z))];exact q
     ·rw[zy (fun z=>by rw[z,lst8] at q;cases q)];exact q
     ·rw[zy (fun z=>by rw[z,lst8] at q;cases q)];exact q
    have smL:Same H2 (zu H8 L (.lst (ys++[v8]))):=fun b o q=>by
     rw[zy (fun z=>by rw[z,hD] at q;cases q)];exact m8 _ _ (m57 _ _ (c'.same _ _ q))
    exact⟨_,by have:=c'.hn;omega,k+1,some va,some vb,_,ys++[v8],out1++[d8],rest',I9.unpinned,bk.1,bk.2,rfl,hk,smL,yn,((c'.reps.ext (.same (m57.trans m8))).ext ext).append (.cons (rp8.ext ext) .nil),t5,by rw[c'.hout];simp⟩
  ·have ek:k=ds.length:=by have:=c'.hk;omega
   refine zt (T.done (xg X scope x y s₃ H₃ fp pins) rfl rfl rfl hcalm k [] s' (ya::yb::σ) H' _ c'.inv (fpc c'.hfp) c'.htn (hstop ek)) fun r s4 ⟨hr,I4⟩=>?_
   subst hr;have I4:=zk1 S I4;obtain⟨m,hn,_⟩:=I4.loc;have er:=c'.hrest;rw[List.drop_of_length_le (by omega),yY] at er;cases er;have eo:=c'.hout;rw[List.append_nil] at eo;exact fin s4 _ m _ L H' hn (fun h' hs=>gG I3 hf I4 hs) (sm.trans c'.same) (by rw[eo];exact .new (sm.free hD) c'.lst (.lst c'.reps))
 have st0:tn 0 h₁:=T.keep _ _ _ st2 (fun b hb o e=>keep1 b o (by rw[hs3h];exact Kl _ e));subst hs3 hL;exact codeAny_compStart_list (loop _ rfl) (T.self X.A 0 _ _ _ st0 (loop _ rfl))
theorem zk4{e0 elt c:Expr}{x y:Str}{px py pos p pos3 pt:Pos}{kt:Nat}{scope:Scope}{cond ce ce0:E}(hcalm:X.calm=true)(S:CompSc2 X scope x y)(hg:Gl X "enumerate")(hm:X.mg "enumerate"=Option.none)(he:IE X fn e0 ce0)
  (hst:starEach [e0] X.env=[(false,eval e0 X.env)]) (hcond: ∀s₃ H₃ fp pins,IT (xg X scope x y s₃ H₃ fp pins) fn c cond) (helt: ∀s₃ H₃ fp pins,IE (xg X scope x y s₃ H₃ fp pins) fn elt ce)
  (hfo: ∀z,foldedSetIterable (.Call (.Name "enumerate" p) [e0] [] pos3) X.env z=pure z:=by intro _;rfl):
  IE X fn (.ListComp elt [⟨.Tuple [.Name x px,.Name y py] kt pt,.Call (.Name "enumerate" p) [e0] [] pos3,[c],0⟩] scope pos) (.compE ce0 cond ce):=by
 refine .mk ?_;rintro pins s σ H Q I ⟨W,ρ,r,hR,hev,q⟩;simp only[ziL,jo1] at hev;obtain⟨r0,e1,l,e2,e3⟩:=hev
 have e2: ∃l',r0= .val (.tup l')/\l'=l:=by
  cases r0 with
  |val d=>cases d with
   |tup l'=>exact⟨l',rfl,by simpa [XD] using e2⟩
   |_=>cases e2
  |_=>cases e2
 obtain⟨l',rfl,rfl⟩:=e2;split at e3
 case isFalse=>cases e3
 rename_i hline;rw[jo2] at e3;obtain⟨out,e3,rfl⟩:=e3;rw[eval_ListComp];refine zk3 (use:=Option.none) hcalm S hg hm he hst hcond helt hfo I hR e1 hline e3 fun s4 fl m C L H' hn back sm res=>?_
 exact⟨m,hn,fun h' hs=>⟨.ref L,H',back h' hs,rfl,q _ H' sm res⟩⟩
noncomputable def zd0(sc:Scope)(N:List Str)(scope:Scope)(x y:Str):Bool:=
 gJ sc N scope x&&decide (wy x N=N)&&decide (scope.names.lookup x=some .local)&&decide (scope.names.lookup y=some .local)&&decide ((x::y::N).Nodup)
theorem zk5{scope sc:Scope}{N:List Str}{x y:Str}(hs:X.env.scope=sc)(hN:X.N=N)(h:zd0 sc N scope x y=true):CompSc2 X scope x y:=by
 simp only[zd0,Bool.and_eq_true,decide_eq_true_eq] at h;obtain⟨⟨⟨⟨h1,h2⟩,h3⟩,h4⟩,h5⟩:=h;exact⟨wq hs hN h1,by rw[hN];exact h2,h3,h4,by rw[hN];exact h5⟩
end
end L2.LW
set_option maxHeartbeats 4000000
set_option maxRecDepth 100000
namespace L2.LW
open PySem PySem.Spec PySem.W PySem.Calls PyProof.Rows
section
variable {X:Cx} {cl:Nat->Value} {E:XK} {fa:Nat->List D->Option Ans} {fuel:Nat} {s:S} {st:Stmt}
theorem zd1{o e f:Expr}{m:Str}{apos cpos:Pos}(h1:starEach [e,f] X.env=(false,eval e X.env)::starEach [f] X.env)(h2:starEach [f] X.env=(false,eval f X.env)::starEach [] X.env)
  (hb:attributeBase o m X.env (eval o X.env)=eval o X.env:=by rfl) (hl:(apos.endLine==cpos.line)=true:=by rfl):M2 X o m apos e f cpos:=
 ⟨hb,by rw[h1,h2];rfl,hl,by rw[h1,h2];rfl⟩
end
end L2.LW
set_option maxHeartbeats 4000000
set_option maxHeartbeats 4000000
namespace L2.LW
open PySem PySem.Spec PySem.W PySem.Calls PyProof.Rows
noncomputable abbrev Kt:=List (Nat×Addr×List Nat)
noncomputable def zaa(kt:Kt):List (zw×V):=kt.map fun t=>(Sum.inl (t.1:Int),V.ref t.2.1)
noncomputable def zd2(ns:List Nat):List V:=ns.map fun (n:Nat)=>V.int (n:Int)
structure KI (H0 H:Hp)(d:Addr)(kt:Kt):Prop where
 same:Same H0 H
 fr:H0 d=none
 dic:H d=some (.dK (zaa kt))
 lis: ∀t∈kt,H t.2.1=some (.lst (zd2 t.2.2))/\H0 t.2.1=none
 nd:(kt.map fun t=>t.2.1).Nodup
 kd:(kt.map fun t=>t.1).Nodup
theorem KI.put{H0 H:Hp}{d b:Addr}{kt:Kt}(h:KI H0 H d kt){k:Nat}(hk: ∀t∈kt,t.1≠k)(l:List Nat)(hb:H b=some (.lst (zd2 l)))(hb0:H0 b=none)(hbn: ∀t∈kt,t.2.1≠b):
  KI H0 (zu H d (.dK (zaa kt++[(Sum.inl (k:Int),V.ref b)]))) d (kt++[(k,b,l)]):=by
 have hbd:b≠d:=ZK hb h.dic (by intro z;cases z);have hne: ∀t∈kt,t.2.1≠d:=fun t ht=>ZK (h.lis t ht).1 h.dic (by intro z;cases z)
 refine⟨fun a o e=>?_,h.fr,?_,fun t ht=>?_,?_,?_⟩
 ·rw[zy (vt e h.fr)];exact h.same _ _ e
 ·rw[yn];simp[zaa]
 ·rcases List.mem_append.mp ht with ht|ht
  ·rw[zy (hne t ht)];exact h.lis t ht
  ·simp only[List.mem_singleton] at ht
   subst ht;exact⟨by rw[zy hbd];exact hb,hb0⟩
 ·rw[List.map_append,List.nodup_append]
  refine⟨h.nd,by simp,fun a ha c hc=>?_⟩;obtain⟨t,ht,rfl⟩:=List.mem_map.mp ha;simp only[List.map_cons,List.map_nil,List.mem_singleton] at hc;rw[hc];exact hbn t ht
 ·rw[List.map_append,List.nodup_append]
  refine⟨h.kd,by simp,fun a ha c hc=>?_⟩;obtain⟨t,ht,rfl⟩:=List.mem_map.mp ha;simp only[List.map_cons,List.map_nil,List.mem_singleton] at hc;rw[hc];exact hk t ht
section
variable {K:Ka} {H:Hp}
theorem R.nil0:R K (fun _=>False) [] [] H:=⟨fun i d h=>(by simp at h),fun i d h=>(by simp at h),fun i x d h=>(by simp at h),fun i j x y d e a h=>(by simp at h),fun a w=>w.elim,rfl⟩
theorem R.no{W:Addr->Prop}{ρ:LW.Env}{σ:St}(r:R K W ρ σ H)(x:Option V):R K W (none::ρ) (x::σ) H:=by
 refine⟨fun i e hi=>?_,fun i e hi=>?_,fun i x e hi hc=>?_,fun i j x y d e a h1 h2 c1 c2 h3 h4=>?_,r.wf,by simpa using r.len⟩
 ·cases i with
  |zero=>cases hi
  |succ i=>exact r.val i e hi
 ·cases i with
  |zero=>cases hi
  |succ i=>exact r.nol i e hi
 ·cases i with
  |zero=>cases hi
  |succ i=>exact r.own i x e hi hc
 ·cases i with
  |zero=>cases h1
  |succ i=>
   cases j with
   |zero=>cases h2
   |succ j=>rw[r.inj i j x y d e a h1 h2 c1 c2 h3 h4]
end
end L2.LW
set_option maxHeartbeats 4000000
namespace L2.LW
open PySem PySem.Spec PySem.W PySem.Calls PyProof.Rows
noncomputable abbrev e2(p:Prim)(a b:E):E:=.prim p (.cons a (.cons b .nil))
end L2.LW
set_option maxHeartbeats 4000000
set_option maxHeartbeats 4000000
namespace L2.LW
open PySem PySem.Spec PySem.W PySem.Calls PyProof.Rows
section
variable {K:Ka} {W:Addr->Prop} {H:Hp}
theorem R.nilW(wf:Wf W H):R K W [] [] H:=⟨fun i d h=>(by simp at h),fun i d h=>(by simp at h),fun i x d h=>(by simp at h),fun i j x y d e a h=>(by simp at h),wf,rfl⟩
theorem zab{ρ:LW.Env}(h: ∀x∈ρ,∀d,x≠some (.io d))(i:Nat): ¬xF ρ i:=fun ⟨d,e⟩=>h _ (Kz e) d rfl
theorem zk6{ρ:LW.Env}{σ:St}(h: ∀x∈ρ,∀y,x=some y->y.cell=none)(a:Addr): ¬xO ρ σ a:=fun ⟨i,x,d,e,c,_⟩=>by
 have:=h _ (Kz e) x rfl;rw[c] at this;cases this
end
end L2.LW
set_option maxHeartbeats 4000000
namespace L2.LW
open PySem PySem.Spec PySem.W PySem.Calls PyProof.Rows
mutual
inductive TR (K:Ka)(W:Addr->Prop)(H:Hp):D->V->Prop where
 |pl {d:D} {v:V} (p:plain d=true) (r:Rep K W H d v):TR K W H d v
 |lst {a:Addr} {xs:List V} {ds:List D} (n: ¬W a) (h:H a=some (.lst xs)) (r:TRs K W H ds xs):TR K W H (.lst ds) (.ref a)
inductive TRs (K:Ka)(W:Addr->Prop)(H:Hp):List D->List V->Prop where
 |nil:TRs K W H [] []
 |cons {d:D} {v:V} {ds:List D} {vs:List V} (h:TR K W H d v) (t:TRs K W H ds vs):TRs K W H (d::ds) (v::vs)
end
section
variable {K:Ka} {W W':Addr->Prop} {H H':Hp}
mutual
theorem Rep.plainT(ht: ∀a xs,H a=some (.tup xs)->H' a=some (.tup xs)): ∀{d:D} {v:V},Rep K W H d v->LW.plain d=true->Rep K W' H' d v
 |_,_,.int i,_=>.int i
 |_,_,.bl b,_=>.bl b
 |_,_,.non,_=>.non
 |_,_,.str s,_=>.str s
 |_,_,.tup h r,p=>.tup (ht _ _ h) (Reps.plainT ht r (by simpa [LW.plain] using p))
 |_,_,.lst h r,p=>by simp[LW.plain] at p
 |_,_,.dK _ _ _ _,p=>by simp[LW.plain] at p
 |_,_,.dT _ _ _ _,p=>by simp[LW.plain] at p
theorem Reps.plainT(ht: ∀a xs,H a=some (.tup xs)->H' a=some (.tup xs)): ∀{ds:List D} {vs:List V},Reps K W H ds vs->yX ds=true->Reps K W' H' ds vs
 |_,_,.nil,_=>.nil
 |_,_,.cons h t,p=>by
  simp only[yX,Bool.and_eq_true] at p;exact .cons (Rep.plainT ht h p.1) (Reps.plainT ht t p.2)
end
mutual
theorem TR.map(ht: ∀a xs,H a=some (.tup xs)->H' a=some (.tup xs))(hl: ∀a xs,¬W a->H a=some (.lst xs)->¬W' a/\H' a=some (.lst xs)): ∀{d:D} {v:V},TR K W H d v->TR K W' H' d v
 |_,_,.pl p r=>.pl p (r.plainT ht p)
 |_,_,.lst n h r=>.lst (hl _ _ n h).1 (hl _ _ n h).2 (TRs.map ht hl r)
theorem TRs.map(ht: ∀a xs,H a=some (.tup xs)->H' a=some (.tup xs))(hl: ∀a xs,¬W a->H a=some (.lst xs)->¬W' a/\H' a=some (.lst xs)): ∀{ds:List D} {vs:List V},TRs K W H ds vs->TRs K W' H' ds vs
 |_,_,.nil=>.nil
 |_,_,.cons h t=>.cons (TR.map ht hl h) (TRs.map ht hl t)
end
mutual
theorem TR.rep: ∀{d:D} {v:V},TR K W H d v->Rep K W H d v
 |_,_,.pl p r=>r
 |_,_,.lst n h r=>.lst (.inl ⟨n,.inl h⟩) (TRs.reps r)
theorem TRs.reps: ∀{ds:List D} {vs:List V},TRs K W H ds vs->Reps K W H ds vs
 |_,_,.nil=>.nil
 |_,_,.cons h t=>.cons (TR.rep h) (TRs.reps t)
end
theorem TR.same{d:D}{v:V}(h:TR K W H d v)(s:Same H H'):TR K W H' d v:=h.map (fun a xs e=>s _ _ e) fun a xs n e=>⟨n,s _ _ e⟩
theorem TRs.same{d:List D}{v:List V}(h:TRs K W H d v)(s:Same H H'):TRs K W H' d v:=h.map (fun a xs e=>s _ _ e) fun a xs n e=>⟨n,s _ _ e⟩
theorem TR.less{d:D}{v:V}(h:TR K W H d v)(s: ∀a,W' a->W a):TR K W' H d v:=h.map (fun a xs e=>e) fun a xs n e=>⟨fun w=>n (s _ w),e⟩
theorem TRs.less{d:List D}{v:List V}(h:TRs K W H d v)(s: ∀a,W' a->W a):TRs K W' H d v:=h.map (fun a xs e=>e) fun a xs n e=>⟨fun w=>n (s _ w),e⟩
theorem TRs.get: ∀{ds:List D} {vs:List V} {i:Nat} {v:V},TRs K W H ds vs->vs[i]? =some v->∃d,ds[i]? =some d/\TR K W H d v
 |_,_,_,_,.nil,e=>by simp at e
 |_,_,0,_,.cons h _,e=>by simp at e;subst e;exact⟨_,rfl,h⟩
 |_,_,i+1,v,.cons _ t,e=>by
  obtain⟨d,h1,h2⟩:=TRs.get (i:=i) (v:=v) t (by simpa using e);exact⟨d,by simpa using h1,h2⟩
theorem TRs.len: ∀{ds:List D} {vs:List V},TRs K W H ds vs->ds.length=vs.length
 |_,_,.nil=>rfl
 |_,_,.cons _ t=>by simp[TRs.len t]
theorem TRs.append: ∀{ds es:List D} {vs us:List V},TRs K W H ds vs->TRs K W H es us->TRs K W H (ds++es) (vs++us)
 |_,_,_,_,.nil,s=>s
 |_,_,_,_,.cons h t,s=>.cons h (TRs.append t s)
theorem zk7: ∀{n:Nat} {d:D},plain d=true->zV (n+1) d=true:=fun {n d} h=>by
 cases d with
 |lst l=>simp[plain] at h
 |_=>exact h
theorem zk8: ∀{n:Nat} {d:D},zV (n+1) d=true->plain d=true\/∃l,d= .lst l/\l.all (zV n)=true:=fun {n d} h=>by
 cases d with
 |lst l=>exact .inr ⟨l,rfl,h⟩
 |_=>exact .inl h
theorem zac: ∀(n:Nat) (d:D),zV n d=true->zV (n+1) d=true
 |0,d,h=>by simp[zV] at h
 |n+1,d,h=>by
  rcases zk8 h with p|⟨l,rfl,hl⟩
  ·exact zk7 p
  ·show l.all (zV (n+1))=true
   rw[List.all_eq_true] at hl⊢;exact fun x hx=>zac n x (hl x hx)
theorem zad{n:Nat}{d:D}(h:zV n d=true): ∀k,zV (n+k) d=true
 |0=>h
 |k+1=>zac _ _ (zad h k)
theorem zae{a:Addr}{zs:List V}{o:HO}(h:H a=some (.lst zs)): ∀b xs,H b=some (.tup xs)->zu H a o b=some (.tup xs):=fun b xs e=>by
 rw[zy (ZK e h (by intro z;cases z))];exact e
mutual
theorem TR.clear{a:Addr}{zs:List V}(h:H a=some (.lst zs))(nw: ¬W a): ∀{d:D} {v:V},TR K W H d v->∃d',TR K W (zu H a (.lst [])) d' v/\∀n,zV n d=true->zV n d'=true
 |d,_,.pl p r=>⟨d,.pl p (r.plainT (zae h) p),fun _ z=>z⟩
 |_,_,.lst (a:=b) (ds:=ds) n e r=>by
  by_cases hb:b=a
  ·subst hb
   refine⟨.lst [],.lst n yn .nil,fun n z=>?_⟩
   cases n with
   |zero=>simp[zV] at z
   |succ n=>rfl
  ·obtain⟨ds',r',ht⟩:=TRs.clear h nw r
   refine⟨.lst ds',.lst n (by rw[zy hb];exact e) r',fun n z=>?_⟩
   cases n with
   |zero=>simp[zV] at z
   |succ n=>exact ht n z
theorem TRs.clear{a:Addr}{zs:List V}(h:H a=some (.lst zs))(nw: ¬W a): ∀{ds:List D} {vs:List V},TRs K W H ds vs->∃ds',TRs K W (zu H a (.lst [])) ds' vs/\∀n,ds.all (zV n)=true->ds'.all (zV n)=true
 |_,_,.nil=>⟨[],.nil,fun _ z=>z⟩
 |_,_,.cons x t=>by
  obtain⟨d',h1,h2⟩:=TR.clear h nw x;obtain⟨ds',h3,h4⟩:=TRs.clear h nw t;refine⟨d'::ds',.cons h1 h3,fun n z=>?_⟩;rw[List.all_cons,Bool.and_eq_true] at z⊢;exact⟨h2 n z.1,h4 n z.2⟩
end
mutual
theorem Rep.toTR(hK: ∀a xs,¬vE K a xs)(ht: ∀a xs,H a=some (.tup xs)->H' a=some (.tup xs))(hl: ∀a xs,¬W a->Rd H a (.lst xs)->H' a=some (.lst xs)): ∀{d:D} {v:V},Rep K W H d v->∀n,zV n d=true->TR K W H' d v
 |_,_,.int i,_,_=>.pl rfl (.int i)
 |_,_,.bl b,_,_=>.pl rfl (.bl b)
 |_,_,.non,_,_=>.pl rfl .non
 |_,_,.str s,_,_=>.pl rfl (.str s)
 |_,_,.tup h r,n+1,t=>.pl t ((Rep.tup h r).plainT ht t)
 |_,_,.tup h r,0,t=>by simp[zV] at t
 |_,_,.lst h r,n+1,t=>by
  rcases h with ⟨nw,h⟩|h
  ·exact .lst nw (hl _ _ nw h) (Reps.toTR hK ht hl r n t)
  ·exact KC h (hK _ _)
 |_,_,.lst h r,0,t=>by simp[zV] at t
 |_,_,.dK _ _ _ _,0,t=>by simp[zV] at t
 |_,_,.dT _ _ _ _,0,t=>by simp[zV] at t
 |_,_,.dK _ _ _ _,n+1,t=>by simp[zV,plain] at t
 |_,_,.dT _ _ _ _,n+1,t=>by simp[zV,plain] at t
theorem Reps.toTR(hK: ∀a xs,¬vE K a xs)(ht: ∀a xs,H a=some (.tup xs)->H' a=some (.tup xs))(hl: ∀a xs,¬W a->Rd H a (.lst xs)->H' a=some (.lst xs)): ∀{ds:List D} {vs:List V},Reps K W H ds vs->∀n,ds.all (zV n)=true->TRs K W H' ds vs
 |_,_,.nil,_,_=>.nil
 |_,_,.cons h t,n,z=>by
  rw[List.all_cons,Bool.and_eq_true] at z;exact .cons (Rep.toTR hK ht hl h n z.1) (Reps.toTR hK ht hl t n z.2)
end
structure EPost (K:Ka)(W:Addr->Prop)(H H':Hp):Prop where
 keep: ∀a o,H a=some o->W a->H' a=some o
 tup: ∀a xs,H a=some (.tup xs)->H' a=some (.tup xs)
 lis: ∀a xs,¬W a->H a=some (.lst xs)->∃ys,H' a=some (.lst ys)
 tr: ∀d v,TR K W H d v->∃d',TR K W H' d' v/\∀n,zV n d=true->zV n d'=true
theorem EPost.refl:EPost K W H H:=⟨fun _ _ h _=>h,fun _ _ h=>h,fun _ xs _ h=>⟨xs,h⟩,fun d v h=>⟨d,h,fun _ z=>z⟩⟩
theorem EPost.trans{H2:Hp}(x:EPost K W H H')(y:EPost K W H' H2):EPost K W H H2:=by
 refine⟨fun a o h w=>y.keep a o (x.keep a o h w) w,fun a xs h=>y.tup a xs (x.tup a xs h),fun a xs n h=>?_,fun d v h=>?_⟩
 ·obtain⟨ys,h1⟩:=x.lis a xs n h
  exact y.lis a ys n h1
 ·obtain⟨d1,h1,t1⟩:=x.tr d v h
  obtain⟨d2,h2,t2⟩:=y.tr d1 v h1;exact⟨d2,h2,fun n z=>t2 n (t1 n z)⟩
theorem EPost.same(s:Same H H'):EPost K W H H':=⟨fun a o h _=>s a o h,fun a xs h=>s _ _ h,fun a xs _ h=>⟨xs,s _ _ h⟩,fun d v h=>⟨d,h.same s,fun _ z=>z⟩⟩
theorem EPost.clear{a:Addr}{zs:List V}(h:H a=some (.lst zs))(nw: ¬W a):EPost K W H (zu H a (.lst [])):=by
 refine⟨fun b o e w=>?_,zae h,fun b xs n e=>?_,fun d v t=>t.clear h nw⟩
 ·rw[zy (fun z=>nw (by rw[<-z];exact w))];exact e
 ·by_cases hb:b=a
  ·subst hb;exact⟨[],yn⟩
  ·exact⟨xs,by rw[zy hb];exact e⟩
end
end L2.LW
set_option maxHeartbeats 4000000
namespace L2.LW
open PySem PySem.Spec PySem.W PySem.Calls PyProof.Rows
section
variable {X:Cx}
structure CTw (X:Cx)(scope:Scope)(x:Str)(s₃:Shared)(H₃:Hp)(fp:List Addr)(pins:List (Addr×Obj))(σ:St)(tn:Nat->Heap->Prop)(H2:Hp)(L:Addr)(ds:List D)
  (n k:Nat) (y:Option V) (H':Hp) (ys:List V) (s':Shared):Prop where
 inv:Inv (yg X scope x s₃ H₃ fp pins) [] (y::σ) H' s'
 htn:tn k s'.heap
 hfp: ∀b∈fp,H' b=Option.none
 hn:n=ds.length+1-k
 hk:k<=ds.length
 same:Same H2 H'
 lst:H' L=some (.lst ys)
 reps:TRs X.K (fun b=>H2 b≠Option.none\/b=L) H' (ds.take k) ys
theorem zk9{iter elt:Expr}{x:Str}{px pos pos2:Pos}{scope:Scope}{pins:List (Addr×Obj)}{s:Shared}{σ:St}{H:Hp}{W:Addr->Prop}{n:Nat}{a:Addr}{xs:List V}{ds:List D}{te:TE}{Qe:Value->Shared->Prop}
  (hcalm:X.calm=true) (S:CompSc X scope x) (hsrc:PI X (.Name x px) iter (Xe X.K (wJ 0))) (helt: ∀s₃ H₃ fp pins,PE (yg X scope x s₃ H₃ fp pins) elt te)
  (hte: ∀σ H d v Q,σ[0]? =some (some v)->TR X.K W H d v->zV n d=true->(∀v' H',Same H H'->TR X.K (fun b=>H b≠Option.none) H' d v'->Q v' H')->te σ H Q)
  (hfo: ∀y,foldedSetIterable iter X.env y=pure y) (I:Inv X pins σ H s) (h0:σ[0]? =some (some (.ref a))) (ha:H a=some (.lst xs)) (hx:TRs X.K W H ds xs) (ht:ds.all (zV n)=true)
  (fin: ∀(s4:Shared) (fl:Flow) (m:Str->Option Value) (C L:Addr) (H':Hp),s4.heap.Ns C m->(∀h',Heap.SameBut C s4.heap h'->Inv X pins σ H' { s4 with heap:=h' })->Same H H'->
   TR X.K (fun b=>H b≠Option.none) H' (.lst ds) (.ref L)->compPost (model X.prog X.w) X.A X.xe Option.none Qe (.ref L) C (.ok fl) s4):
  wpAny (model X.prog X.w) X.A (comprehension (.ListComp elt [⟨.Name x px,iter,[],0⟩] scope pos) scope X.env pos2 (newList []) false (eval iter X.env) Option.none) Qe X.xe s:=by
 have hclos:=gA (scope:=scope) (env:=X.env) (S.cells I.ok);refine wpAny_comprehension_free (use:=Option.none) rfl hfo hclos S.kind S.names ?_;have lenX:=hx.len;have lenL:xs.length<=sizeLine:=(I.hok a _ ha).1;refine zt (hsrc pins s σ H (fun J H2=>J=vw X.K a/\H2=H) I ⟨_,h0,a,rfl,⟨xs,.of ha⟩,rfl,rfl⟩) fun v s1 h1=>zt h1 fun itv s2 h2=>?_
 obtain⟨it,fp,tn,J,H2,rfl,I2,T,st2,f2,eJ,eH⟩:=h2;subst eJ eH;refine wpAny_newObj_type (gC S fun h₁ hns₁ hk₁ hc₁=>?_);have I3:=I2.lnew (t':=s2.toks) (ys:=[]) (its:=[]) .nil (Nat.zero_le _);have hD:H2 s2.heap.objs.size=Option.none:=I2.fresh;generalize hL:s2.heap.objs.size=L at hD;generalize hs3:({ s2 with heap:=s2.heap.push { cls:=.type "list",data:=.seq ([]:List Value).toArray },toks:=s2.toks }:Shared)=s₃ at I3;have hs3h:s₃.heap=s2.heap.push { cls:=.type "list",data:=.seq ([]:List Value).toArray }:=by rw[<-hs3]
 rw[hL] at I3;generalize hH3:zu H2 L (.lst [])=H₃ at I3
 have blt: ∀b∈fp,b<s2.heap.objs.size:=fun b hb=>by
  obtain⟨o,e,_⟩:=T.obj _ _ st2 b hb;exact Kk e
 have hlt: ∀b∈fp,b<s₃.heap.objs.size:=fun b hb=>by rw[hs3h,Heap.size_push];exact KD (blt b hb)
 have hf: ∀b∈fp,xL X pins H₃ b:=fun b hb=>by
  refine⟨?_,(f2 b hb).2⟩;rw[<-hH3,zy (by rw[<-hL];exact Kh (blt b hb))];exact (f2 b hb).1
 have keep1: ∀b o,s₃.heap.get? b=some o->h₁.get? b=some o:=fun b o e=>by
  rw[hs3h] at e;exact hk₁ b o e
 have ns1:h₁.Ns s₃.heap.objs.size fun _=>Option.none:=by rw[hs3h];exact hns₁
 have Ic:=gF (tk:=s2.toks) S I3 hf hlt ns1 keep1 (by rw[hs3h];exact hc₁);have fpc:=fun {H':Hp} hn=>gI (H':=H') S I3 hf hlt hn
 have loop: ∀s':Shared,s'={ s₃ with heap:=h₁,toks:=s2.toks }->codeAny (model X.prog X.w) X.A (.compLoop (.ListComp elt [⟨.Name x px,iter,[],0⟩] scope pos) 0 (.ref it) (.ref L) (yg X scope x s₃ H₃ fp pins).env)
   (compPost (model X.prog X.w) X.A X.xe Option.none Qe (.ref L) s₃.heap.objs.size) s':=by
  rintro s' rfl
  refine gH (fun n s'=>∃k y H' ys,CTw X scope x s₃ H₃ fp pins σ tn H2 L ds n k y H' ys s') ?_ (ds.length+1)
   ⟨0,Option.none,H₃,[],Ic,T.keep _ _ _ st2 (fun b hb o e=>keep1 b o (by rw[hs3h];exact Kl _ e)),fun b hb=>(hf b hb).1,rfl,Nat.zero_le _,by rw[<-hH3];exact yP hD _,by rw[<-hH3];exact yn,.nil⟩
  rintro m s' ⟨k,y,H',ys,c⟩;have hq:SqL X.K H' a xs:=.of (c.same _ _ ha);by_cases hk:k<ds.length
  ·have hkx:k<xs.length:=by omega
   refine zt (T.item (yg X scope x s₃ H₃ fp pins) rfl rfl rfl hcalm k [] s' (y::σ) H' _ c.inv (fpc c.hfp) c.htn ⟨xs,xs[k],hq,by simp[hkx]⟩) fun r s4 ⟨u,hr,h4⟩=>?_
   subst hr;refine zt h4 fun _ s5 ⟨xv,H5,I5,r5,y5,st5,fr5⟩=>?_
   obtain⟨rfl,y5⟩:=y5;have hxv:=y5 xs hq;obtain⟨dk,hdk,rv⟩:=hx.get hxv;have I5':=I5.pinned (fpc fr5) (T.obj _ _ st5);refine zt (vY (X:=yg X scope x s₃ H₃ fp pins) (i:=0) S.nd rfl S.locX S.fnX _ s5 (y::σ) H5 xv u (fun σ' H'=>σ'=some xv::σ/\H'=H5) I5' r5 ⟨rfl,rfl⟩) fun _ s6 ⟨σ6,H6,I6,q6,q7⟩=>?_
   subst q6 q7
   have back: ∀{s':Shared} {H':Hp},Inv (yg X scope x s₃ H₃ fp pins) ([]++Zh fp s5.heap) (some xv::σ) H' s'->tn (k+1) s'.heap/\∀b∈fp,H' b=Option.none:=fun {s' H'} J=>by
    refine⟨T.keep _ _ _ st5 fun b hb o e=>(J.pin (b,o) (Ko _ (Ko _ (jx hb e)))).1,fun b hb=>?_⟩;obtain⟨o,e,d⟩:=T.obj _ _ st5 b hb;exact (J.pin (b,o) (Ko _ (Ko _ (jx hb e)))).2.1
   refine wpAny_tests_nil ?_;rw[if_pos rfl];have htd:zV n dk=true:=List.all_eq_true.mp ht _ (Kz hdk);refine zt (helt s₃ H₃ fp pins _ s6 _ H6 (fun v H8=>Same H6 H8/\TR X.K (fun b=>H6 b≠Option.none) H8 dk v) I6 (hte _ _ dk xv _ rfl (rv.same c.same) htd fun v' H8 s8 t8=>⟨s8,t8⟩)) fun u8 s8 ⟨v8,H8,I8,rl8,m8,rp8⟩=>?_
   have lst8:=m8 _ _ c.lst;have lenY:=c.reps.len;rw[List.length_take] at lenY;refine zt (JV (X:=yg X scope x s₃ H₃ fp pins) _ s8 _ H8 (.ref L) [v8] (.ref L) [u8] (fun _ H9=>H9=zu H8 L (.lst (ys++[v8]))) I8 rfl (.cons rl8 .nil) ⟨L,ys,v8,rfl,rfl,lst8,by omega,rfl⟩) fun _ s9 ⟨_,H9,I9,_,q9⟩=>?_
   subst q9;have bk:=back I9;have tp: ∀b zs,H8 b=some (.tup zs)->zu H8 L (.lst (ys++[v8])) b=some (.tup zs):=zae lst8
   have smL:Same H2 (zu H8 L (.lst (ys++[v8]))):=fun b o q=>by
    rw[zy (fun z=>by rw[z,hD] at q;cases q)];exact m8 _ _ (c.same _ _ q)
   have r1:TRs X.K (fun b=>H2 b≠Option.none\/b=L) (zu H8 L (.lst (ys++[v8]))) (ds.take k) ys:=
    (c.reps.same m8).map tp fun b zs nb e=>⟨nb,by rw[zy (fun z=>nb (.inr z))];exact e⟩
   have r2:TR X.K (fun b=>H2 b≠Option.none\/b=L) (zu H8 L (.lst (ys++[v8]))) dk v8:=by
    refine rp8.map tp fun b zs nb e=>?_
    have hb:b≠L:=fun z=>nb (by rw[z,c.lst];exact fun q=>nomatch q)
    refine⟨fun z=>z.elim (fun z=>nb fun q=>?_) hb,by rw[zy hb];exact e⟩
    cases e2:H2 b with
    |none=>exact z e2
    |some o=>rw[c.same _ _ e2] at q;cases q
   refine⟨_,by have:=c.hn;omega,k+1,some xv,_,ys++[v8],I9.unpinned,bk.1,bk.2,rfl,hk,smL,yn,?_⟩;rw[List.take_add_one,hdk];exact r1.append (.cons r2 .nil)
  ·have ek:k=ds.length:=by have:=c.hk;omega
   refine zt (T.done (yg X scope x s₃ H₃ fp pins) rfl rfl rfl hcalm k [] s' (y::σ) H' _ c.inv (fpc c.hfp) c.htn ⟨xs,hq,by omega⟩) fun r s4 ⟨hr,I4⟩=>?_
   subst hr;obtain⟨m,hn,_⟩:=I4.loc;have rp:=c.reps;rw[KL (by omega)] at rp;exact fin s4 _ m _ L H' hn (fun h' hs=>gG I3 hf I4 hs) c.same (.lst (fun z=>z hD) c.lst (rp.less fun b w=>.inl w))
 have st0:tn 0 h₁:=T.keep _ _ _ st2 (fun b hb o e=>keep1 b o (by rw[hs3h];exact Kl _ e));subst hs3 hL;exact codeAny_compStart_list (loop _ rfl) (T.self X.A 0 _ _ _ st0 (loop _ rfl))
noncomputable def zd3(K:Ka)(n:Nat):TE:=fun σ H Q=>∃a xs ds W,σ[0]? =some (some (.ref a))/\H a=some (.lst xs)/\TRs K W H ds xs/\ds.all (zV n)=true/\∀L H',Same H H'->TR K (fun b=>H b≠Option.none) H' (.lst ds) (.ref L)->Q (.ref L) H'
theorem zla{iter elt:Expr}{x:Str}{px pos:Pos}{scope:Scope}{n:Nat}{te:TE}(hcalm:X.calm=true)(S:CompSc X scope x)(hsrc:PI X (.Name x px) iter (Xe X.K (wJ 0)))(helt: ∀s₃ H₃ fp pins,PE (yg X scope x s₃ H₃ fp pins) elt te)
  (hte: ∀W σ H d v Q,σ[0]? =some (some v)->TR X.K W H d v->zV n d=true->(∀v' H',Same H H'->TR X.K (fun b=>H b≠Option.none) H' d v'->Q v' H')->te σ H Q)
  (hfo: ∀y,foldedSetIterable iter X.env y=pure y:=by intro _;rfl):PE X (.ListComp elt [⟨.Name x px,iter,[],0⟩] scope pos) (zd3 X.K n):=by
 rintro pins s σ H Q I ⟨a,xs,ds,W,h0,ha,hx,ht,q⟩;rw[eval_ListComp];exact zk9 hcalm S hsrc helt (hte W) hfo I h0 ha hx ht fun s4 fl m C L H' hn back sm t=>⟨m,hn,fun h' hs=>⟨.ref L,H',back h' hs,rfl,q L H' sm t⟩⟩
end
end L2.LW
set_option maxHeartbeats 4000000
namespace L2.LW
open PySem PySem.Spec PySem.W PySem.Calls PyProof.Rows
theorem zd4{X:Cx}{fa:Nat->List D->Option Ans}{fuel:Nat}{sts:List Stmt}:ISs X (zr fa fuel (.cons .stop .nil)) sts:=.mk fun pins s σ H D0 I zz=>by
 obtain⟨W,ρ,x,hR,hx,q⟩:=zz;simp only[qX,zcM,Option.bind_none] at hx;cases hx
noncomputable def QR:Nat->List D->Option SV:=fun _ _=>none
noncomputable def QS:E:=.prim (.inst .list) (.cons (.var 0) .nil)
noncomputable def Yv(K:Ka)(n:Nat):Sp:=fun vs H Q _=>∃d v W,vs=[v]/\zV n d=true/\TR K W H d v/\∀v' H',Same H H'->TR K (fun b=>H b≠Option.none) H' d v'->Q v' H'
noncomputable def zlb(K:Ka)(n:Nat):TS:=Xb (qu (tT K QR (.not QS)) (qt (wJ 0)) qq) (qt (zd3 K n))
noncomputable def Yw(K:Ka)(n:Nat):Sp:=fun vs H Q _=>∃d v W,vs=[v]/\zV n d=true/\TR K W H d v/\∀H',EPost K W H H'->Q .non H'
noncomputable def zlc(K:Ka):List V->Hp->VK->Prop:=fun xs H Q=>∃p ys,xs=[.ref p]/\(SqL K H p ys\/SqT K H p ys)/\∀l,H l=Option.none->Q (.ref l) (zu H l (.lst ys))
noncomputable def zld(K:Ka)(n:Nat):TS:=qu (tT K QR QS) (Xb (qy (Xe K (JT (zlc K) (ZO (wJ 0) ZN))) (vX 1) (JM (Xj (Yw K n) [] E0 (ZO (wJ 1) ZN)))) (JM (zcm K "list" zcp (wJ 0)))) qq
section
variable {K:Ka} {W:Addr->Prop} {H:Hp}
theorem zle{d:D}{ρ:LW.Env}:zA QR QS (some (.val d)::ρ)=some (wZ .list d):=rfl
theorem zlf{d:D}{ρ:LW.Env}:zA QR (.not QS) (some (.val d)::ρ)=some (!wZ .list d):=rfl
theorem zd5{d:D}(h:plain d=true):wZ .list d=false:=by
 cases d with
 |lst l=>simp[plain] at h
 |_=>rfl
theorem TR.cases'{n:Nat}{d:D}{v:V}(t:TR K W H d v)(h:zV (n+1) d=true):plain d=true\/∃a xs ds,d= .lst ds/\v= .ref a/\¬W a/\H a=some (.lst xs)/\TRs K W H ds xs/\ds.all (zV n)=true:=by
 cases t with
 |pl p r=>exact .inl p
 |lst nw e r=>exact .inr ⟨_,_,_,rfl,rfl,nw,e,r,h⟩
end
section
variable {Pg:Program} {w:World} {K:Ka} {mg:Str->Option Value} {base:Heap} {x qual:Str} {st:Stmt} {f:Addr} {fd:FuncData} {N ps:List Str} {k n:Nat}
theorem zlg:FnOk Pg w K mg base yE k f fd ps (Yv K 0):=by
 have no: ∀vs H Q E,¬Yv K 0 vs H Q E:=fun vs H Q E ⟨d,v,W,_,h,_⟩=>by simp[zV] at h
 exact⟨fun vs H Q E h=>KC h (no vs H Q E),fun A outer s H args us vs Q E _ _ _ _ h=>KC h (no vs H Q E)⟩
theorem zlh:FnOk Pg w K mg base yE k f fd ps (Yw K 0):=by
 have no: ∀vs H Q E,¬Yw K 0 vs H Q E:=fun vs H Q E ⟨d,v,W,_,h,_⟩=>by simp[zV] at h
 exact⟨fun vs H Q E h=>KC h (no vs H Q E),fun A outer s H args us vs Q E _ _ _ _ h=>KC h (no vs H Q E)⟩
theorem zli(F:Fun K x qual st f fd)(S:FnScope N ps (zk st))(hN:N.length=1)(hp:ps.length=1)
  (hbody: ∀(cdv:Value) (A:Around) (outer:List PySem.Env) (s:Shared) (H:Hp) (E:XK),Room k (A.deeper (envOfC qual (zk st) s.heap.objs.size f cdv))->PSs (vy yE Pg w K mg base N qual (zk st) f cdv A outer s H E).nox (wY st) (zlb K n)):
  FnOk Pg w K mg base yE (k+1) f fd ps (Yv K (n+1)):=by
 refine F.ok S (fun vs H Q E h=>?_) (fun cdv A outer s H vs Q E hr h=>⟨_,hbody cdv A outer s H E hr,?_⟩)
 ·obtain⟨d,v,W,rfl,_⟩:=h
  exact hp.symm
 ·obtain⟨d,v,W,rfl,ht,t,q⟩:=h
  have e0:xM N [v]=[some v]:=by unfold xM;rw[hN];rfl
  rw[e0];refine⟨fun _=>False,[some (.val d)],_,R.nil0.cons (t.rep.less fun _ z=>z.elim),zlf,fun H1 s1=>?_⟩;rcases t.cases' ht with p|⟨a,xs,ds,rfl,rfl,nw,e,r,ha⟩
  ·rw[zd5 p]
   exact ZU ⟨_,rfl,q _ H1 s1 (.pl p (t.rep.plainT (fun a xs e=>s1 _ _ e) p))⟩
  ·refine Xp ⟨a,xs,ds,W,rfl,s1 _ _ e,r.same s1,ha,fun L H' sm tt=>q _ H' (s1.trans sm) (tt.less fun b hb=>?_)⟩
   cases z:H b with
   |none=>exact KC z hb
   |some o=>rw[s1 _ _ z];exact fun y=>nomatch y
theorem zlj(F:Fun K x qual st f fd)(S:FnScope N ps (zk st))(hN:N.length=2)(hp:ps.length=1)
  (hbody: ∀(cdv:Value) (A:Around) (outer:List PySem.Env) (s:Shared) (H:Hp) (E:XK),Room k (A.deeper (envOfC qual (zk st) s.heap.objs.size f cdv))->PSs (vy yE Pg w K mg base N qual (zk st) f cdv A outer s H E).nox (wY st) (zld K n)):
  FnOk Pg w K mg base yE (k+1) f fd ps (Yw K (n+1)):=by
 refine F.ok S (fun vs H Q E h=>?_) (fun cdv A outer s H vs Q E hr h=>⟨_,hbody cdv A outer s H E hr,?_⟩)
 ·obtain⟨d,v,W,rfl,_⟩:=h
  exact hp.symm
 ·obtain⟨d,v,W,rfl,ht,t,q⟩:=h
  have e0:xM N [v]=[some v,Option.none]:=by unfold xM;rw[hN];rfl
  rw[e0];refine⟨fun _=>False,[some (.val d),Option.none],_,(R.nil0.no _).cons (t.rep.less fun _ z=>z.elim),zle,fun H1 s1=>?_⟩;rcases t.cases' ht with p|⟨a,xs,ds,rfl,rfl,nw,e,r,ha⟩
  ·rw[zd5 p]
   exact Xp (q H1 (.same s1))
  ·refine ZU ?_
   refine⟨_,rfl,a,xs,rfl,.inl (.of (s1 _ _ e)),fun c hc=>⟨c,rfl,⟨xs,.of yn⟩,?_⟩⟩;have s2:Same H (zu H1 c (.lst xs)):=s1.trans (yP hc _);have ne: ∀b ys,H b=some (.lst ys)->b≠c:=fun b ys z=>vt (s1 _ _ z) hc
   have up: ∀d v,TR K W H d v->TR K (add W c) (zu H1 c (.lst xs)) d v:=fun d v t=>t.map (fun b zs z=>s2 _ _ z) fun b zs nb z=>⟨fun y=>y.elim nb (ne b zs z),s2 _ _ z⟩
   have up2:TRs K (add W c) (zu H1 c (.lst xs)) ds xs:=r.map (fun b zs z=>s2 _ _ z) fun b zs nb z=>⟨fun y=>y.elim nb (ne b zs z),s2 _ _ z⟩
   have nwa: ¬add W c a:=fun y=>y.elim nw (ne a xs e)
   refine zb1 (xs:=xs) (fun i σ H'=>(∃y,σ=[some (.ref a),y])/\EPost K (add W c) (zu H1 c (.lst xs)) H') ⟨⟨_,rfl⟩,.refl⟩ ?_ ?_ ?_
   ·rintro i σ H' _ ⟨_,ep⟩
    exact .of (ep.keep c _ yn (.inr rfl))
   ·rintro i x σ H' hx ⟨⟨y,rfl⟩,ep⟩
    obtain⟨di,hdi,ti⟩:=up2.get hx;obtain⟨d',td,tt⟩:=ep.tr di x ti;exact⟨x,rfl,d',x,add W c,rfl,tt n (List.all_eq_true.mp ha _ (Kz hdi)),td,fun H'' ep2=>⟨⟨_,rfl⟩,ep.trans ep2⟩⟩
   ·rintro σ H' ⟨⟨y,rfl⟩,ep⟩
    obtain⟨ys,hys⟩:=ep.lis a xs nwa (s2 _ _ e);refine⟨_,rfl,.inl ⟨rfl,ys,.of hys⟩,a,ys,rfl,rfl,hys,?_⟩;have e1:=ep.trans (EPost.clear hys nwa);refine q _ ⟨fun b o z wb=>e1.keep b o (s2 _ _ z) (.inl wb),fun b zs z=>e1.tup b zs (s2 _ _ z),fun b zs nb z=>e1.lis b zs (fun y=>y.elim nb (ne b zs z)) (s2 _ _ z),fun d v t=>?_⟩;obtain⟨d',t',tt⟩:=e1.tr d v (up d v t);exact⟨d',t'.less fun b z=>.inl z,tt⟩
end
end L2.LW
namespace L2.LW
open PySem PySem.Spec PySem.W PySem.Calls PyProof.Rows
theorem zlk{K:Ka}{n:Nat}(W:Addr->Prop)(σ:St)(H:Hp)(d:D)(v:V)(Q:VK)(h0:σ[0]? =some (some v))(t:TR K W H d v)(ht:zV n d=true)(q: ∀v' H',Same H H'->TR K (fun b=>H b≠Option.none) H' d v'->Q v' H'):
  Xj (Yv K n) [] E0 (ZO (wJ 0) ZN) σ H Q:=⟨v,h0,d,v,W,rfl,ht,t,q⟩
noncomputable def zaf:Value->Bool
 | .type s=>s != "list"
 |_=>true
theorem zd6{α β:Type}[BEq α][LawfulBEq α]{a:α}{b:β}: ∀{l:List (α×β)},l.lookup a=some b->(a,b)∈l
 |[],h=>by cases h
 |(c,d)::r,h=>by
  rw[List.lookup_cons] at h;split at h
  ·rename_i e
   cases h;rw[eq_of_beq e];exact Ke
  ·exact Kf _ (zd6 h)
theorem zll{K:Ka}(h:(K.all fun p=>zaf p.2.cls)=true)(a:Addr)(xs:List V): ¬vE K a xs:=fun ⟨o,its,n,h1,h2,_⟩=>by
 have:=List.all_eq_true.mp h _ (zd6 h1);rw[h2] at this;simp[zaf] at this
end L2.LW
set_option maxHeartbeats 4000000
namespace L2.LW
open PySem PySem.Spec PySem.W PySem.Calls PyProof.Rows
noncomputable def QT:HO->HO
 | .frz _ u=>QT u
 |o=>o
noncomputable def xI(H0 H:Hp):Hp:=fun a=>if (H0 a).isSome then H a else (H a).map QT
section
variable {H0 H:Hp}
theorem QU{a:Addr}(h:H a=none):xI H0 H a=none:=by
 unfold xI;split
 ·exact h
 ·rw[h];rfl
theorem Yx{a:Addr}{o:HO}(h:H a=some o)(ne: ∀b u,o≠ .frz b u):xI H0 H a=some o:=by
 unfold xI;split
 ·exact h
 ·rw[h]
  cases o with
  |frz b u=>exact KC rfl (ne b u)
  |_=>rfl
theorem zd7{a:Addr}{o:HO}(h0:H0 a=some o):xI H0 H a=H a:=by
 unfold xI;rw[h0];rfl
theorem zlm{a:Addr}{o:HO}(h:Rd H a o)(ne: ∀b u,o≠ .frz b u)(hn:H0 a=none):xI H0 H a=some o:=by
 rcases h with h|⟨b,h⟩
 ·exact Yx h ne
 ·unfold xI
  rw[hn,h];show some (QT o)=some o
  cases o with
  |frz b u=>exact KC rfl (ne b u)
  |_=>rfl
theorem zln{P:Program}{w:World}{h:Heap}{a:Addr}: ∀{o:HO},ObjOk P w H h a o->ObjOk P w H h a (QT o):=by
 intro o
 induction o with
 |frz b u ih=>exact fun x=>ih x.2
 |_=>exact fun x=>x
end
theorem zlo{X:Cx}{pins:List (Addr×Obj)}{σ σ0:St}{H0 H:Hp}{s s0:Shared}(I0:Inv X pins σ0 H0 s0)(I:Inv X pins σ H s):Inv X pins σ (xI H0 H) s:=by
 have tp: ∀b xs,H b=some (.tup xs)->xI H0 H b=some (.tup xs):=fun b xs h=>Yx h fun _ _ z=>nomatch z
 have ow: ∀b y,H b=some (.own y)->xI H0 H b=some (.own y):=fun b y h=>Yx h fun _ _ z=>nomatch z
 refine⟨I.ok,I.os,I.bare,⟨I.base.keep,I.base.slot,fun b o q n hx=>QU (I.base.free b o q n hx),I.base.there,fun b xs q=>tp b xs (I.base.tups b xs q),fun b o u q=>?_,fun b ps q=>?_⟩,I.loc,I.cell,QU I.free,fun x c e=>QU (I.freeC x c e),fun p hp=>?_,fun a o e=>?_,I.len⟩
 ·rw[zd7 (I0.base.frzs b o u q)]
  exact I.base.frzs b o u q
 ·obtain⟨more,e⟩:=I.base.tbls b ps q
  exact⟨more,Yx e fun _ _ z=>nomatch z⟩
 ·obtain⟨h1,h2,h3⟩:=I.pin p hp
  exact⟨h1,QU h2,h3⟩
 ·have st: ∀o,ObjOk X.prog X.w H s.heap a o->ObjOk X.prog X.w (xI H0 H) s.heap a o:=fun o x=>x.stay (fun b u _ q=>q) (fun b q=>ow b a q) tp
  unfold xI at e;split at e
  ·exact st o (I.hok a o e)
  ·rw[jo2] at e
   obtain⟨u,h1,rfl⟩:=e;exact st _ (zln (I.hok a u h1))
noncomputable def zlp(t:TS):TS:=fun D σ H=>t { D with nx:=fun σ' H'=>D.nx σ' (xI H H') } σ H
theorem zlq{X:Cx}{st:Stmt}{t:TS}(h:PS X st t):PS X st (zlp t):=fun pins s σ H D I q=>
 zt (h pins s σ H _ I q) fun f s1 q=>by
  cases f with
  |next=>
   obtain⟨σ',H',I',q⟩:=q;exact⟨σ',_,zlo I I',q⟩
  |ret v=>exact q
  |brk=>exact q
  |cont=>exact q
noncomputable def zlr(K:Ka)(fn:Nat->List D->Option SV)(f:Nat):TS:=qw (tE K fn (.call f (.cons (.var 1) (.cons (.var 2) .nil)))) (vX 3)
noncomputable def zd8(K:Ka)(n:Nat):TS:=qw (Xj (Yv K n) [] E0 (ZO (wJ 3) ZN)) (vX 4)
noncomputable def zd9(K:Ka)(n:Nat):TS:=qy (Xe K (wJ 3)) (vX 5) (JM (Xj (Yw K n) [] E0 (ZO (wJ 5) ZN)))
theorem zls{α:Type}{l:List α}(h:l.length=6): ∃a0 a1 a2 a3 a4 a5,l=[a0,a1,a2,a3,a4,a5]:=by
 match l,h with
 |[a0,a1,a2,a3,a4,a5],_=>exact⟨a0,a1,a2,a3,a4,a5,rfl⟩
section
variable {X:Cx} {fa:Nat->List D->Option Ans} {fuel:Nat} {st1 st2 st3:Stmt} {sts:List Stmt} {ss:Ss} {f n:Nat}
theorem zlt(hK: ∀a xs,¬vE X.K a xs)(hn:5<=n)(h1:PS X st1 (zlr X.K (zE fa) f))(h2:PS X st2 (zd8 X.K n))(h3:PS X st3 (zd9 X.K n))(h4:ISs X (zr fa fuel ss) sts):ISs X (zr fa fuel (.cons (.wipe f) ss)) (st1::st2::st3::sts):=
 .mk <| (ZL (zlq h1) (ZL h2 (ZL h3 h4.h))).imp fun D0 σ H zz3=>by
  obtain⟨W,ρ,x,hR,hx,q⟩:=zz3;simp only[qX,zi4,jo1] at hx;obtain⟨⟨fl,ρ1⟩,e1,e2⟩:=hx;unfold XH at e1;split at e1
  case h_2=>cases e1
  rename_i sc flo lp;split at e1
  case isFalse=>cases e1
  rename_i hpl;rw[Bool.and_eq_true] at hpl;split at e1
  case h_2=>cases e1
  rename_i ds eg;split at e1
  case isFalse=>cases e1
  rename_i htree;cases e1;obtain⟨s0,s1,s2,s3,s4,s5,rfl⟩:=zls hR.len.symm;obtain⟨v1,g1,r1⟩:=hR.val 1 _ rfl;obtain⟨v2,g2,r2⟩:=hR.val 2 _ rfl;cases g1;cases g2;have hW0:Wf (fun a=>H a≠none) H:=fun a w=>w
  have hR0:R X.K (fun a=>H a≠none) [none,some (.val flo),some (.val lp),none,none,none] [s0,some v1,some v2,s3,s4,s5] H:=
   ((((((R.nilW hW0).no _).no _).no _).cons (r2.plain hpl.2)).cons (r1.plain hpl.1)).no _
  refine⟨_,_,.obj true (.lst ds),hR0,?_,fun v H1 sm1 res=>?_⟩
  ·have l1:zo (zE fa) (.var 1) [none,some (.val flo),some (.val lp),none,none,none]=some (.val flo):=rfl
   have l2:zo (zE fa) (.var 2) [none,some (.val flo),some (.val lp),none,none,none]=some (.val lp):=rfl;simp only[qU,xZ,xY,l1,l2,Option.bind_some,Option.map_some,List.map_cons,List.map_nil,zI,eg];rfl
  cases res with
  |new hL eL rL=>
   rename_i L o
   cases rL with
   |lst rx=>
    rename_i xs;show Xb (zd8 X.K n) _ D0 [s0,some v1,some v2,some (.ref L),s4,s5] (xI H H1);have nf: ∀b,¬(H b≠none)->H b=none:=fun b hb=>Classical.not_not.mp hb
    have tx:TRs X.K (add (fun a=>H a≠none) L) (xI H H1) ds xs:=rx.toTR hK (fun a zs z=>Yx z fun _ _ y=>nomatch y) (fun a zs nb z=>zlm z (fun _ _ y=>nomatch y) (nf a fun y=>nb (.inl y))) 4 htree;have eL2:xI H H1 L=some (.lst xs):=Yx eL fun _ _ y=>nomatch y
    have kp1: ∀a o,H a=some o->xI H H1 a=some o:=fun a o z=>by rw[zd7 z];exact sm1 _ _ z
    generalize hH2:xI H H1=H2 at tx eL2 kp1;refine⟨_,rfl,.lst ds,.ref L,fun a=>H a≠none,rfl,?_,.lst (fun z=>z hL) eL2 (tx.less fun b w=>.inl w),fun v' H3 sm3 td=>?_⟩
    ·have:n=5+(n-5):=by omega
     rw[this];exact zad (n:=5) (d:=.lst ds) htree _
    show Xb (zd9 X.K n) _ D0 [s0,some v1,some v2,some (.ref L),some v',s5] H3;have W1tx:TRs X.K (fun a=>(H a≠none\/a=L)\/H2 a=none) H3 ds xs:=tx.map (fun a zs z=>sm3 _ _ z) fun a zs nb z=>⟨fun y=>y.elim nb fun y=>(by rw[z] at y;cases y),sm3 _ _ z⟩
    refine⟨_,rfl,L,rfl,⟨xs,.of (sm3 _ _ eL2)⟩,?_⟩
    have treeN: ∀d∈ds,zV n d=true:=fun d hd=>by
     have:n=4+(n-4):=by omega
     rw[this];exact zad (n:=4) (List.all_eq_true.mp htree d hd) _
    refine zb1 (xs:=xs) (fun i σ H'=>(∃y,σ=[s0,some v1,some v2,some (.ref L),some v',y])/\EPost X.K (fun a=>(H a≠none\/a=L)\/H2 a=none) H3 H') ⟨⟨_,rfl⟩,.refl⟩ ?_ ?_ ?_
    ·rintro i σ H' _ ⟨_,ep⟩
     exact .of (ep.keep L _ (sm3 _ _ eL2) (.inl (.inr rfl)))
    ·rintro i x σ H' hx1 ⟨⟨y,rfl⟩,ep⟩
     obtain⟨di,hdi,ti⟩:=W1tx.get hx1;obtain⟨d',td',tt⟩:=ep.tr di x ti;exact⟨x,rfl,d',x,_,rfl,tt n (treeN di (Kz hdi)),td',fun H'' ep2=>⟨⟨_,rfl⟩,ep.trans ep2⟩⟩
    ·rintro σ H' ⟨⟨y,rfl⟩,ep⟩
     have kp: ∀a o,H a=some o->H' a=some o:=fun a o z=>ep.keep a o (sm3 _ _ (kp1 a o z)) (.inl (.inl (by rw[z];exact fun y=>nomatch y)))
     have nn: ∀a,W a->H' a≠none:=fun a wa=>by
      cases z:H a with
      |none=>exact KC z (hR.wf a wa)
      |some o=>rw[kp a o z];exact fun y=>nomatch y
     have tps: ∀a zs,H a=some (.tup zs)->H' a=some (.tup zs):=fun a zs z=>kp a _ z
     have td':TR X.K W H' (.lst ds) v':=td.map ep.tup fun a zs nb z=>by
      have h0:H2 a=none:=Classical.not_not.mp nb;refine⟨fun wa=>?_,ep.keep a _ z (.inr h0)⟩
      cases y:H a with
      |none=>exact hR.wf a wa y
      |some o=>rw[kp1 a o y] at h0;cases h0
     have p1:SPost X.K W [some (.val sc),some (.val flo),some (.val lp),none,none,none] [s0,some v1,some v2,s3,s4,s5] H W [none,some (.val flo),some (.val lp),none,some (.val (.lst ds)),none] [s0,some v1,some v2,some (.ref L),some v',y] H':=by
      refine⟨?_,fun a o e _=>kp a o e,fun a w=>.inl w,fun a w _=>⟨w,zk6 (by simp[SV.cell]) a⟩,fun i=>⟨⟨fun z=>KC z (zab (by simp) i),fun z=>KC z (zab (by simp) i)⟩,fun z=>KC z (zab (by simp) i)⟩⟩;exact ((((((R.nilW nn).no _).cons td'.rep).no _).cons (r2.plainT tps hpl.2)).cons (r1.plainT tps hpl.1)).no _
     exact⟨W,_,x,p1.r,e2,fun W4 σ4 H4 p4=>FlOk.back p1 (q W4 σ4 H4 (p1.trans p4 hR))⟩
end
end L2.LW
set_option maxHeartbeats 4000000
namespace L2.LW
open PySem PySem.Spec PySem.W PySem.Calls PyProof.Rows
noncomputable def zK(N:List Str)(sc:Scope):Bool:=N.all fun x=>(decide (sc.names.lookup x=some .local)||decide (sc.names.lookup x=some .cell))&&(!(x==("__debug__":Str)))&& !(x==("__classdict__":Str))
section
variable {N:List Str} {sc:Scope} {i:Nat} {x:Str}
theorem Vo(b:zK N sc=true)(e:N[i]? =some x):wu sc x/\(x==("__debug__":Str))=false/\(x==("__classdict__":Str))=false:=by
 have h:=List.all_eq_true.mp b x (Kz e);simp only[Bool.and_eq_true,Bool.or_eq_true,decide_eq_true_eq,Bool.not_eq_true'] at h;exact⟨h.1.1,h.1.2,h.2⟩
theorem lB(b:zK N sc=true)(e:N[i]? =some x):wu sc x:=(Vo b e).1
theorem vB(b:zK N sc=true)(e:N[i]? =some x):xK sc x:=(lB b e).elim .inl fun z=>.inr (.inl z)
theorem zd{X:Cx}{fn:Nat->List D->Option SV}{p:Pos}(i:Nat)(b:zK X.N X.env.scope=true)(e:X.N[i]? =some x):IE X fn (.Name x p) (.var i):=zL i e (vB b e) (Vo b e).2.1 (Vo b e).2.2
theorem jL{X:Cx}{p:Pos}{i:Nat}(b:zK X.N X.env.scope=true)(e:X.N[i]? =some x):PE X (.Name x p) (wJ i):=wK e (vB b e) (Vo b e).2.1 (Vo b e).2.2
end
end L2.LW
namespace L2.LW
open PySem
section
variable {fn:Nat->List D->Option SV} {fa:Nat->List D->Option Ans} {fuel:Nat} {ρ:Env}
@[simp] theorem zsE{i:Int}:zo fn (.int i) ρ=some (.val (.int i)):=rfl
@[simp] theorem zsF{i:Bool}:zo fn (.bl i) ρ=some (.val (.bl i)):=rfl
@[simp] theorem zsG:zo fn .non ρ=some (.val .non):=rfl
@[simp] theorem zsH{i:Str}:zo fn (.str i) ρ=some (.val (.str i)):=rfl
@[simp] theorem zea{i:Nat}:zo fn (.var i) ρ=look ρ i:=rfl
@[simp] theorem zlu{p:Prim}{es:Es}:zo fn (.prim p es) ρ=(yj fn es ρ).bind fun rs=>zg p (rs.map zI):=rfl
@[simp] theorem zsI{es:Es}:zo fn (.tup es) ρ=(yj fn es ρ).bind fun rs=>(xT rs).map fun ds=>.val (.tup ds):=rfl
@[simp] theorem zsJ{es:Es}:zo fn (.lst es) ρ=(yj fn es ρ).bind fun rs=>(xT rs).map fun ds=>.obj true (.lst ds):=rfl
noncomputable def zag(r:SV)(k:Option SV):Option SV:=match r with
 | .val (.bl true)=>k
 | .val (.bl false)=>some (.val (.bl false))
 |_=>none
@[simp] theorem zsK{b:Bool}{k:Option SV}:zag (.val (.bl b)) k=if b then k else some (.val (.bl false)):=by cases b<;>rfl
@[simp] theorem zsL{a b:E}:zo fn (.and a b) ρ=(zo fn a ρ).bind fun r=>zag r (zo fn b ρ):=rfl
@[simp] theorem zsM{p q:Prim}{a b c:E}:zo fn (.chain p q a b c) ρ=(zo fn a ρ).bind fun x=>(zo fn b ρ).bind fun y=>(zg p [zI x,zI y]).bind fun z=>zag z ((zo fn c ρ).bind fun w=>zg q [zI y,zI w]):=rfl
@[simp] theorem zsN{f:Nat}{es:Es}:zo fn (.call f es) ρ=(yj fn es ρ).bind fun rs=>wB rs (fn f (rs.map zI)):=rfl
theorem zlv{g:Bool}{src:Es}{cond elt:E}:zo fn (.comp g src cond elt) ρ=(yj fn src ρ).bind fun rs=>(yy g rs).bind fun ds=>
  if ds.length<=line then (yY (fun d=>zA fn cond (some (.val d)::ρ)) (fun d=>zo fn elt (some (.val d)::ρ)) ds).map fun l=>.obj true (.lst l) else none:=rfl
@[simp] theorem zsO{t:Bool}:zo fn (.dnew t) ρ=some (.obj true (.dct t [] [])):=rfl
@[simp] theorem zsP{t:Bool}{k v:E}:zo fn (.done t k v) ρ=(zo fn k ρ).bind fun x=>(zo fn v ρ).bind fun y=>(toD x).bind fun a=>(toD y).bind fun b=>if yC t a then some (.obj true (.dct t [a] [b])) else none:=rfl
@[simp] theorem zah:yj fn .nil ρ=some []:=rfl
@[simp] theorem zai{e:E}{es:Es}:yj fn (.cons e es) ρ=(zo fn e ρ).bind fun r=>(yj fn es ρ).map (r:: ·):=rfl
@[simp] theorem zsQ{a b:E}:zA fn (.and a b) ρ=(zA fn a ρ).bind fun k=>if k then zA fn b ρ else some false:=rfl
@[simp] theorem zsR{a b:E}:zA fn (.or a b) ρ=(zA fn a ρ).bind fun k=>if k then some true else zA fn b ρ:=rfl
@[simp] theorem zsS{a:E}:zA fn (.not a) ρ=(zA fn a ρ).map (!·):=rfl
@[simp] theorem zlw{i:Bool}:zA fn (.bl i) ρ=some i:=rfl
@[simp] theorem zsT{i:Nat}:zA fn (.var i) ρ=(look ρ i).bind yH:=rfl
@[simp] theorem zlx{p:Prim}{es:Es}:zA fn (.prim p es) ρ=(yj fn es ρ).bind fun rs=>(zg p (rs.map zI)).bind yH:=rfl
@[simp] theorem zsU{f:Nat}{es:Es}:zA fn (.call f es) ρ=(yj fn es ρ).bind fun rs=>(wB rs (fn f (rs.map zI))).bind yH:=rfl
noncomputable def zeb(r:SV)(k:Option Bool):Option Bool:=match r with
 | .val (.bl true)=>k
 | .val (.bl false)=>some false
 |_=>none
@[simp] theorem zsV{b:Bool}{k:Option Bool}:zeb (.val (.bl b)) k=if b then k else some false:=by cases b<;>rfl
@[simp] theorem zsW{p q:Prim}{a b c:E}:zA fn (.chain p q a b c) ρ=(zo fn a ρ).bind fun x=>(zo fn b ρ).bind fun y=>(zg p [zI x,zI y]).bind fun z=>zeb z ((zo fn c ρ).bind fun w=>(zg q [zI y,zI w]).bind yH):=rfl
@[simp] theorem zsX{e:E}:zF fa fuel (.expr e) ρ=(zo (zE fa) e ρ).map fun _=>(.nx,ρ):=rfl
@[simp] theorem zly{i:Nat}{e:E}:zF fa fuel (.asg i e) ρ=(zo (zE fa) e ρ).bind fun r=>if r.lent|| !free ρ i then none else some (.nx,ρ.set i (some r)):=rfl
noncomputable def zB:Option (Option SV)->Bool
 |some (some (.io _))=>false
 |_=>true
@[simp] theorem zec{i:Nat}:free ρ i=zB ρ[i]? :=by
 unfold free zB;rcases h:ρ[i]? with _|_|(d|⟨o,d⟩|d)<;>rfl
@[simp] theorem zsY:zB (some none)=true:=rfl
@[simp] theorem yS{d:D}:zB (some (some (.val d)))=true:=rfl
@[simp] theorem zlz{o:Bool}{d:D}:zB (some (some (.obj o d)))=true:=rfl
noncomputable def zed(ρ:Env)(i j:Nat):Option (Option SV)->Option (Fl×Env)
 |some (some (.val d))=>some (.nx,ρ.set i (some (.val d)))
 |some (some (.obj _ d))=>some (.nx,(ρ.set j (some (.val d))).set i (some (.val d)))
 |_=>none
@[simp] theorem zsZ{i j:Nat}{o:Bool}{d:D}:zed ρ i j (some (some (.obj o d)))=some (.nx,(ρ.set j (some (.val d))).set i (some (.val d))):=rfl
@[simp] theorem zs0{i j:Nat}:zF fa fuel (.mov i j) ρ=if free ρ i then zed ρ i j ρ[j]? else none:=by
 rw[zcI];rcases h:ρ[j]? with _|_|(d|⟨o,d⟩|d)<;>rfl
noncomputable def Vp(ρ:Env)(j:Nat):Option (Option SV)->Option (List D×Env)
 |some (some (.val d))=>(xS d).map fun l=>(l,ρ)
 |some (some (.obj _ (.lst ds)))=>some (ds,ρ.set j (some (.val (.lst ds))))
 |_=>none
@[simp] theorem zs1{j:Nat}{d:D}:Vp ρ j (some (some (.val d)))=(xS d).map fun l=>(l,ρ):=rfl
@[simp] theorem zs3{j:Nat}:ZY ρ j=Vp ρ j ρ[j]? :=by
 unfold ZY Vp;rcases h:ρ[j]? with _|_|(d|⟨o,d⟩|d)<;>rfl
noncomputable def zlA(ρ:Env)(i:Nat)(x:SV)(r:Option SV):Option D->Option (Fl×Env)
 |some (.lst ds)=>r.bind fun r=>(toD r).bind fun d=>if ds.length<line then some (.nx,ρ.set i (some (x.put (.lst (ds++[d]))))) else none
 |_=>none
noncomputable def jM(ρ:Env)(i:Nat)(r:Option SV):Option (Option SV)->Option (Fl×Env)
 |some (some x)=>zlA ρ i x r x.cell
 |_=>none
@[simp] theorem Vq{i:Nat}{r:Option SV}{ds:List D}:jM ρ i r (some (some (.obj true (.lst ds))))=r.bind fun r=>(toD r).bind fun d=>if ds.length<line then some (.nx,ρ.set i (some (.obj true (.lst (ds++[d]))))) else none:=rfl
@[simp] theorem zs4{i:Nat}{e:E}:zF fa fuel (.app i e) ρ=jM ρ i (zo (zE fa) e ρ) ρ[i]? :=by
 rw[zcJ];rcases h:ρ[i]? with _|_|(d|⟨_|_,d⟩|d)
 ·rfl
 ·rfl
 ·rfl
 ·rfl
 ·cases d<;>rfl
 ·cases d<;>rfl
noncomputable def zlB(ρ:Env)(i:Nat)(x:SV)(rk rv:Option SV):Option D->Option (Fl×Env)
 |some (.dct t ks vs)=>rv.bind fun r=>(toD r).bind fun d=>rk.bind fun r=>(toD r).bind fun a=>if yC t a&&decide (ks.length<line) then some (.nx,ρ.set i (some (x.put (xm t ks vs a d)))) else none
 |_=>none
noncomputable def ji(ρ:Env)(i:Nat)(rk rv:Option SV):Option (Option SV)->Option (Fl×Env)
 |some (some x)=>zlB ρ i x rk rv x.cell
 |_=>none
@[simp] theorem zee{i:Nat}{rk rv:Option SV}{t:Bool}{ks vs:List D}:ji ρ i rk rv (some (some (.obj true (.dct t ks vs))))=rv.bind fun r=>(toD r).bind fun d=>rk.bind fun r=>(toD r).bind fun a=>if yC t a&&decide (ks.length<line) then some (.nx,ρ.set i (some (.obj true (xm t ks vs a d)))) else none:=rfl
@[simp] theorem zef{i:Nat}{rk rv:Option SV}{t:Bool}{ks vs:List D}:ji ρ i rk rv (some (some (.io (.dct t ks vs))))=rv.bind fun r=>(toD r).bind fun d=>rk.bind fun r=>(toD r).bind fun a=>if yC t a&&decide (ks.length<line) then some (.nx,ρ.set i (some (.io (xm t ks vs a d)))) else none:=rfl
@[simp] theorem zs5{i:Nat}{k v:E}:zF fa fuel (.dset i k v) ρ=ji ρ i (zo (zE fa) k ρ) (zo (zE fa) v ρ) ρ[i]? :=by
 rw[zcK];rcases h:ρ[i]? with _|_|(d|⟨_|_,d⟩|d)
 ·rfl
 ·rfl
 ·rfl
 ·rfl
 ·cases d<;>rfl
 ·cases d<;>rfl
@[simp] theorem zs6{i j:Nat}:zF fa fuel (.dupd i j) ρ=XF ρ i j:=rfl
@[simp] theorem zs7{m:M}:zF fa fuel (.exprM m) ρ=(ve fa m ρ).map fun x=>(.nx,x.2):=rfl
@[simp] theorem zs8{c:E}{m:M}{a b:Ss}:zF fa fuel (.ifO c m a b) ρ=(zA (zE fa) c ρ).bind fun k=>if k then zr fa fuel a ρ else (ve fa m ρ).bind fun x=>(yH x.1).bind fun k=>if k then zr fa fuel a x.2 else zr fa fuel b x.2:=rfl
noncomputable def zeg(ρ:Env)(xs:List AV):Ans->Option (SV×Env)
 | .ok r outs=>if r.fine&&outs.all wM then (xn ρ xs outs).map fun ρ'=>(r,ρ') else none
 | .ex _=>none
@[simp] theorem zs9{xs:List AV}{r:SV}{outs:List D}:zeg ρ xs (.ok r outs)=if r.fine&&outs.all wM then (xn ρ xs outs).map fun ρ'=>(r,ρ') else none:=rfl
@[simp] theorem zta{f:Nat}{ma:MA}:ve fa (.call f ma) ρ=(yZ (zE fa) ma ρ).bind fun xs=>(fa f (xs.map Zk)).bind (zeg ρ xs):=rfl
@[simp] theorem ztb:yZ fn .nil ρ=some []:=rfl
@[simp] theorem ztc{c:E}{r:MA}:yZ fn (.e c r) ρ=(zo fn c ρ).bind fun x=>(jA x).bind fun a=>(yZ fn r ρ).map (a:: ·):=rfl
noncomputable def QV:Option (Option SV)->Option D
 |some (some x)=>x.cell
 |_=>none
@[simp] theorem ztd{i:Nat}:jB ρ i=QV ρ[i]? :=by
 unfold jB QV;rcases h:ρ[i]? with _|_|(d|⟨_|_,d⟩|d)<;>rfl
@[simp] theorem zte{d:D}:QV (some (some (.obj true d)))=some d:=rfl
@[simp] theorem ztf{d:D}:QV (some (some (.io d)))=some d:=rfl
@[simp] theorem ztg{i:Nat}{r:MA}:yZ fn (.s i r) ρ=(jB ρ i).bind fun d=>if vD d then (yZ fn r ρ).map (.s i d:: ·) else none:=rfl
@[simp] theorem zth{t:Bool}{r:MA}:yZ fn (.n t r) ρ=(yZ fn r ρ).map (.n t:: ·):=rfl
@[simp] theorem zti:xn ρ [] []=some ρ:=rfl
@[simp] theorem ztj{i:Nat}{d d':D}{r:List AV}{ds:List D}:xn ρ (.s i d::r) (d'::ds)=xn (ZX ρ i d') r ds:=rfl
@[simp] theorem ztk{t:Bool}{d':D}{r:List AV}{ds:List D}:xn ρ (.n t::r) (d'::ds)=xn ρ r ds:=rfl
@[simp] theorem ztl{d:D}{r:List AV}{ds:List D}:xn ρ (.e d::r) ds=xn ρ r ds:=rfl
noncomputable def QW(ρ:Env)(i:Nat)(d:D):Option (Option SV)->Env
 |some (some x)=>ρ.set i (some (x.put d))
 |_=>ρ
@[simp] theorem ztm{i:Nat}{d:D}:ZX ρ i d=QW ρ i d ρ[i]? :=by
 unfold ZX QW;rcases h:ρ[i]? with _|_|(d|⟨_|_,d⟩|d)<;>rfl
@[simp] theorem ztn{i:Nat}{d d0:D}:QW ρ i d (some (some (.obj true d0)))=ρ.set i (some (.obj true d)):=rfl
@[simp] theorem zto{i:Nat}{d d0:D}:QW ρ i d (some (some (.io d0)))=ρ.set i (some (.io d)):=rfl
@[simp] theorem ztp{d:D}:Zk (.e d)=d:=rfl
@[simp] theorem ztq{i:Nat}{d:D}:Zk (.s i d)=d:=rfl
@[simp] theorem ztr{t:Bool}:Zk (.n t)= .dct t [] []:=rfl
@[simp] theorem zts{l:List D}:jA (.val (.tup l))=if plain (.tup l) then some (.e (.tup l)) else none:=rfl
@[simp] theorem ztt{t:Bool}{ks vs:List D}:vD (.dct t ks vs)=yX vs:=rfl
@[simp] theorem ztu{t:Bool}{ks vs:List D}:wM (.dct t ks vs)=yX vs:=rfl
@[simp] theorem ztv{d:D}:SV.fine (.val d)=plain d:=rfl
@[simp] theorem ztw{e:E}:zF fa fuel (.ret e) ρ=(zo (zE fa) e ρ).bind fun r=>if r.lent then none else some (.rt r,ρ):=rfl
noncomputable def zaj(ρ:Env)(i:Nat):Option (Option SV)->Option (Fl×Env)
 |some (some (.val d))=>some (.rt (.val d),ρ)
 |some (some (.obj _ d))=>some (.rt (.obj true d),ρ.set i none)
 |_=>none
@[simp] theorem ztx{i:Nat}{d:D}:zaj ρ i (some (some (.val d)))=some (.rt (.val d),ρ):=rfl
@[simp] theorem zty{i:Nat}{o:Bool}{d:D}:zaj ρ i (some (some (.obj o d)))=some (.rt (.obj true d),ρ.set i none):=rfl
@[simp] theorem ztz{i:Nat}:zF fa fuel (.retV i) ρ=zaj ρ i ρ[i]? :=by
 rw[zcL];rcases h:ρ[i]? with _|_|(d|⟨o,d⟩|d)<;>rfl
@[simp] theorem ztA{c:E}{a b:Ss}:zF fa fuel (.ifs c a b) ρ=(zA (zE fa) c ρ).bind fun k=>if k then zr fa fuel a ρ else zr fa fuel b ρ:=rfl
theorem jj{i:Nat}{g:Bool}{src:Es}{body:Ss}:zF fa fuel (.for_ i g src body) ρ=(yj (zE fa) src ρ).bind fun rs=>if rs.any SV.lent|| !free ρ i then none else (yy g rs).bind fun ds=>yq i (zr fa fuel body) ds ρ:=rfl
theorem zlC{i j:Nat}{body:Ss}:zF fa fuel (.forK i j body) ρ=if free ρ i then (XG ρ j).bind fun ks=>(yq i (zr fa fuel body) ks ρ).bind Ql else none:=rfl
@[simp] theorem ztB:Ql (.nx,ρ)=some (.nx,ρ):=rfl
theorem jk{i j:Nat}{body:Ss}:zF fa fuel (.forV i j body) ρ=if free ρ i then (ZY ρ j).bind fun x=>yq i (zr fa fuel body) x.1 x.2 else none:=rfl
theorem Zw{c:E}{body:Ss}:zF fa fuel (.while_ c body) ρ=xE (zA (zE fa) c) (zr fa fuel body) fuel ρ:=rfl
noncomputable def QX(ρ:Env)(j:Nat):Option (Option SV)->Env
 |some (some (.obj true d))=>ρ.set j (some (.val d))
 |_=>ρ
@[simp] theorem ztC{j:Nat}:jC ρ j=QX ρ j ρ[j]? :=by
 unfold jC QX;rcases h:ρ[j]? with _|_|(d|⟨_|_,d⟩|d)<;>rfl
@[simp] theorem ztD{j:Nat}{d:D}:QX ρ j (some (some (.val d)))=ρ:=rfl
@[simp] theorem ztE{j:Nat}{d:D}:QX ρ j (some (some (.obj true d)))=ρ.set j (some (.val d)):=rfl
@[simp] theorem ztF{js:List Nat}{s:S}:zF fa fuel (.frz js s) ρ=zF fa fuel s (js.foldl jC ρ):=rfl
@[simp] theorem ztG:zF fa fuel .stop ρ=none:=rfl
@[simp] theorem ztH:zr fa fuel .nil ρ=some (.nx,ρ):=rfl
noncomputable def QY(x:Fl×Env)(k:Env->Option (Fl×Env)):Option (Fl×Env):=match x.1 with
 | .nx=>k x.2
 |_=>some x
@[simp] theorem ztI{ρ:Env}{k:Env->Option (Fl×Env)}:QY (.nx,ρ) k=k ρ:=rfl
@[simp] theorem ztJ{ρ:Env}{r:SV}{k:Env->Option (Fl×Env)}:QY (.rt r,ρ) k=some (.rt r,ρ):=rfl
@[simp] theorem Yy{s:S}{ss:Ss}:zr fa fuel (.cons s ss) ρ=(zF fa fuel s ρ).bind fun x=>QY x (zr fa fuel ss):=by
 exact id rfl
noncomputable def Yz:Option (Fl×Env)->Option SV
 |some (.rt r,_)=>some r
 |some (.nx,_)=>some (.val .non)
 |_=>none
@[simp] theorem ztK{r:SV}{ρ:Env}:Yz (some (.rt r,ρ))=some r:=rfl
@[simp] theorem ztL{ρ:Env}:Yz (some (.nx,ρ))=some (.val .non):=rfl
end
noncomputable def Vr:Option (Option SV)->Option SV
 |some (some (.val d))=>some (.val d)
 |some (some (.obj _ d))=>some (.obj false d)
 |some (some (.io d))=>some (.obj false d)
 |_=>none
@[simp] theorem ztM{ρ:Env}{i:Nat}:look ρ i=Vr ρ[i]? :=by
 unfold look Vr;rcases h:ρ[i]? with _|_|(d|⟨o,d⟩|d)<;>rfl
@[simp] theorem ztN{d:D}:Vr (some (some (.val d)))=some (.val d):=rfl
@[simp] theorem ztO{o:Bool}{d:D}:Vr (some (some (.obj o d)))=some (.obj false d):=rfl
@[simp] theorem ztP{d:D}:Vr (some (some (.io d)))=some (.obj false d):=rfl
@[simp] theorem ztQ{d:D}:zI (.val d)=d:=rfl
@[simp] theorem ztR{o:Bool}{d:D}:zI (.obj o d)=d:=rfl
@[simp] theorem Zx{d:D}:toD (.val d)=some d:=rfl
@[simp] theorem zeh{d:D}:toD (.obj true d)=some d:=rfl
@[simp] theorem ztS:xT []=some []:=rfl
@[simp] theorem ztT{r:SV}{rs:List SV}:xT (r::rs)=(toD r).bind fun d=>(xT rs).map (d:: ·):=rfl
@[simp] theorem ztU{d:D}:SV.lent (.val d)=false:=rfl
@[simp] theorem ztV{d:D}:SV.lent (.obj true d)=false:=rfl
@[simp] theorem ztW{i:Bool}:yG i=some (.val (.bl i)):=rfl
@[simp] theorem ztX{b:Bool}:yH (.val (.bl b))=some b:=rfl
@[simp] theorem ztY{o:Bool}{l:List D}:yH (.obj o (.lst l))=some (!l.isEmpty):=rfl
theorem zlD{rs:List SV}{r:Option SV}(h:rs.any SV.lent=false):wB rs r=r:=by
 unfold wB;rw[h];cases r<;>rfl
theorem zei{rs:List SV}{x:SV}(h:x.plain=true):wB rs (some x)=some x:=by
 unfold wB;simp[h]
@[simp] theorem ztZ{rs:List SV}{x:Option SV}(h:rs.any SV.lent=false):wB rs x=x:=zlD h
@[simp] theorem zt0{rs:List SV}{x:SV}(h:x.plain=true):wB rs (some x)=some x:=zei h
@[simp] theorem zt1{i:Int}:plain (.int i)=true:=by simp[plain]
@[simp] theorem zt2{i:Bool}:plain (.bl i)=true:=by simp[plain]
@[simp] theorem zt3{l:List D}:plain (.tup l)=yX l:=rfl
@[simp] theorem zt4:yX []=true:=rfl
@[simp] theorem zt5{x:D}{xs:List D}:yX (x::xs)=(plain x&&yX xs):=rfl
@[simp] theorem zlE{P:Nat->Option Fn}{fuel n:Nat}:zE (zC P fuel n)=zv P fuel n:=rfl
theorem zej: ∀(k:Nat) (ds:List D),wn [] k ds=ds.map fun d=>some (.val d)
 |_,[]=>rfl
 |k,d::r=>by simp[wn,zej (k+1) r]
theorem zlF(x:Option (Fl×Env)):(match jc [] x with|some (.ok r [])=>some r|_=>none)=Yz x:=by
 rcases x with _|⟨_|_|_|r,ρ⟩<;>rfl
theorem zlG{P:Nat->Option Fn}{fuel n i:Nat}{F:Fn}{ds:List D}(h:P i=some F)(hl:ds.length=F.np)(hio:F.io=[])(hx:F.xb=none:=by rfl):
  zv P fuel (n+1) i ds=Yz (zr (zC P fuel n) fuel F.body (ds.map (fun d=>some (.val d))++List.replicate (F.nl-F.np) none)):=by
 unfold zv zE;rw[zC,h];simp only[Option.bind_some,if_pos hl,hio,zej,hx];exact zlF _
theorem zlH{P:Nat->Option Fn}{fuel n i:Nat}{F:Fn}{ds:List D}(h:P i=some F)(hl:ds.length=F.np)(hx:F.xb=none:=by rfl):
  zC P fuel (n+1) i ds=jc F.io (zr (zC P fuel n) fuel F.body (wn F.io 0 ds++List.replicate (F.nl-F.np) none)):=by
 rw[zC,h];simp only[Option.bind_some,if_pos hl,hx]
@[simp] theorem zt6{a b:Int}:zg .add [.int a,.int b]=some (.val (.int (a+b))):=rfl
theorem Vs{a b:List D}(h:a.length+b.length<=line):zg .add [.lst a,.lst b]=some (.obj true (.lst (a++b))):=by simp only[zg,JZ,if_pos h]
@[simp] theorem zt7{a b:Int}:zg .sub [.int a,.int b]=some (.val (.int (a-b))):=rfl
theorem zlI{a b:Int}(h: -(2 ^ 64)<a/\a<2 ^ 64):zg .mul [.int a,.int b]=some (.val (.int (a*b))):=by simp only[zg,Xq,if_pos (Or.inl h:_\/(-(2 ^ 64)<b/\b<2 ^ 64)),yl]
theorem zlJ{a b:Int}(h: -(2 ^ 64)<b/\b<2 ^ 64):zg .mul [.int a,.int b]=some (.val (.int (a*b))):=by simp only[zg,Xq,if_pos (Or.inr h:(-(2 ^ 64)<a/\a<2 ^ 64)\/_),yl]
theorem zek{a b:Int}(h:0<b/\b<1073741824):zg .fdiv [.int a,.int b]=some (.val (.int (a/b))):=by simp only[zg,Qa,if_pos h,yl]
theorem jN{a b:Int}(h:0<b):zg .mod [.int a,.int b]=some (.val (.int (a%b))):=by simp only[zg,Qb,if_pos h,yl]
@[simp] theorem zt8{a:Int}:zg .neg [.int a]=some (.val (.int (-a))):=rfl
theorem YA{a b:D}(h:zx 8 a=true)(h':zx 8 b=true):zg .eq [a,b]=some (.val (.bl (zH a b))):=by simp[zg,Xr,h,h']
theorem zlK{a b:D}(h:zx 8 a=true)(h':zx 8 b=true):zg .ne [a,b]=some (.val (.bl (!zH a b))):=by simp[zg,Xs,h,h']
@[simp] theorem zt9{a b:Int}:zg .eq [.int a,.int b]=some (.val (.bl (a==b))):=by rw[YA rfl rfl,zH]
@[simp] theorem zua{a b:Int}:zg .lt [.int a,.int b]=some (.val (.bl (decide (a<b)))):=rfl
@[simp] theorem zub{a b:Int}:zg .le [.int a,.int b]=some (.val (.bl (decide (a<=b)))):=rfl
@[simp] theorem zuc{a b:Int}:zg .gt [.int a,.int b]=some (.val (.bl (decide (b<a)))):=rfl
@[simp] theorem zud{d:D}:zg .notN [d]=some (.val (.bl (!vc d))):=rfl
@[simp] theorem zue{l:List D}:zg .len [.tup l]=some (.val (.int l.length)):=rfl
@[simp] theorem zuf{l:List D}:zg .len [.lst l]=some (.val (.int l.length)):=rfl
@[simp] theorem zug{i:Int}:zg .abs [.int i]=some (.val (.int (if i<0 then -i else i))):=rfl
@[simp] theorem zel{i j:Int}:zg .min2 [.int i,.int j]=some (.val (.int (if j<i then j else i))):=rfl
@[simp] theorem zem{i j:Int}:zg .max2 [.int i,.int j]=some (.val (.int (if j>i then j else i))):=rfl
theorem zlL{n:Int}{r:List Int}:zg .maxL [.lst ((n::r).map D.int)]=some (.val (.int (r.foldl max n))):=by
 have: ∀l:List Int,ints? (l.map D.int)=some l:=fun l=>by induction l with
  |nil=>rfl
  |cons x l ih=>simp[ints?,ih]
 simp only[zg,Qi,this,Option.bind_some,yl]
theorem zlM{r:List Int}:zg .sumL [.lst (r.map D.int)]=some (.val (.int r.sum)):=by
 have: ∀l:List Int,ints? (l.map D.int)=some l:=fun l=>by induction l with
  |nil=>rfl
  |cons x l ih=>simp[ints?,ih]
 simp only[zg,Qj,this,Option.bind_some,yl]
@[simp] theorem zuh{l:List D}:zg .toTup [.lst l]=some (.val (.tup l)):=rfl
@[simp] theorem zui{t:Ty}{d:D}:zg (.inst t) [d]=some (.val (.bl (wZ t d))):=rfl
theorem zlN{l:List D}{i:Int}:zg .idx [.tup l,.int i]=(atI l i).map .val:=rfl
theorem YB{l:List D}{i:Int}:zg .idx [.lst l,.int i]=(atI l i).map .val:=rfl
theorem atI_nat{α:Type}{l:List α}{k:Nat}(h:k<l.length):atI l (k:Int)=some l[k]:=by
 unfold atI ixN;rw[if_pos (by omega),if_pos (by omega)];simp[h]
@[simp] theorem zuj{a b:D}:zg .idx [.tup [a,b],.int 0]=some (.val a):=rfl
@[simp] theorem zuk{a b:D}:zg .idx [.tup [a,b],.int 1]=some (.val b):=rfl
@[simp] theorem zul{b:Int}:wZ .bool (.int b)=false:=rfl
@[simp] theorem zum{b:Int}:wZ .int (.int b)=true:=rfl
@[simp] theorem zun{l:List D}:wZ .tuple (.tup l)=true:=rfl
@[simp] theorem zuo:vc .non=true:=rfl
theorem zak{α:Type}{f:α->D}{test:D->Option Bool}{elt:D->Option SV}{t:α->Bool}{e:α->D}: ∀{xs:List α},(∀x∈xs,test (f x)=some (t x))->(∀x∈xs,t x=true->(elt (f x)).bind toD=some (e x))->
  yY test elt (xs.map f)=some ((xs.filter t).map e)
 |[],_,_=>rfl
 |d::r,h1,h2=>by
  have ih:=zak (xs:=r) (fun x hx=>h1 x (Kf _ hx)) (fun x hx=>h2 x (Kf _ hx));rw[List.map_cons,yY,h1 d Ke];simp only[Option.bind_some]
  cases ht:t d with
  |false=>simp[ih,ht]
  |true=>
   have h3:=h2 d Ke ht;rw[jo1] at h3;obtain⟨x,e1,e2⟩:=h3;simp[ih,ht,e1,e2]
theorem vI{fn:Nat->List D->Option SV}{ρ:Env}{g:Bool}{src:Es}{cond elt:E}{rs:List SV}{α:Type}{f:α->D}{xs:List α}(t:α->Bool)(e:α->D)(h:yj fn src ρ=some rs)(hi:yy g rs=some (xs.map f))(hl:xs.length<=line)
  (ht: ∀x∈xs,zA fn cond (some (.val (f x))::ρ)=some (t x)) (he: ∀x∈xs,t x=true->(zo fn elt (some (.val (f x))::ρ)).bind toD=some (e x)):
  zo fn (.comp g src cond elt) ρ=some (.obj true (.lst ((xs.filter t).map e))):=by
 rw[zlv,h];simp only[Option.bind_some,hi,List.length_map,if_pos hl];rw[zak ht he];rfl
theorem zal{fn:Nat->List D->Option SV}{ρ:Env}{g:Bool}{src:Es}{elt:E}{rs:List SV}{α:Type}{f:α->D}{xs:List α}(e:α->D)(h:yj fn src ρ=some rs)(hi:yy g rs=some (xs.map f))(hl:xs.length<=line)
  (he: ∀x∈xs,(zo fn elt (some (.val (f x))::ρ)).bind toD=some (e x)):
  zo fn (.comp g src (.bl true) elt) ρ=some (.obj true (.lst (xs.map e))):=by
 have:=vI (fun _=>true) e h hi hl (fun _ _=>zlw) (fun x hx _=>he x hx);have e2:xs.filter (fun _=>true)=xs:=List.filter_eq_self.mpr fun _ _=>rfl
 rwa [e2] at this
theorem zen{i:Nat}{body:Env->Option (Fl×Env)}(I:List D->Env->Prop){ds:List D}: ∀{post pre:List D} {ρ:Env},ds=pre++post->I pre ρ->
  (∀pre d post ρ,ds=pre++d::post->I pre ρ->∃fl ρ',body (ρ.set i (some (.val d)))=some (fl,ρ')/\(fl= .nx\/fl= .ct)/\I (pre++[d]) ρ')->
  ∃ρ',yq i body post ρ=some (.nx,ρ')/\I ds ρ'
 |[],pre,ρ,e,h,_=>⟨ρ,rfl,by rw[e];simpa using h⟩
 |d::post,pre,ρ,e,h,st=>by
  obtain⟨fl,ρ1,e1,e2,h1⟩:=st pre d post ρ e h;obtain⟨ρ',e3,h3⟩:=zen I (ds:=ds) (post:=post) (pre:=pre++[d]) (ρ:=ρ1) (by simp[e]) h1 st;refine⟨ρ',?_,h3⟩;rw[yq,e1];simp only[Option.bind_some];rcases e2 with rfl|rfl<;>exact e3
theorem zeo{i:Nat}{body:Env->Option (Fl×Env)}(I:List D->Env->Prop)(Q:SV->Prop){ds:List D}: ∀{post pre:List D} {ρ:Env},ds=pre++post->I pre ρ->
  (∀pre d post ρ,ds=pre++d::post->I pre ρ->∃fl ρ',body (ρ.set i (some (.val d)))=some (fl,ρ')/\(((fl= .nx\/fl= .ct)/\I (pre++[d]) ρ')\/∃r,fl= .rt r/\Q r))->
  ∃fl ρ',yq i body post ρ=some (fl,ρ')/\((fl= .nx/\I ds ρ')\/∃r,fl= .rt r/\Q r)
 |[],pre,ρ,e,h,_=>⟨_,ρ,rfl,.inl ⟨rfl,by rw[e];simpa using h⟩⟩
 |d::post,pre,ρ,e,h,st=>by
  obtain⟨fl,ρ1,e1,e2⟩:=st pre d post ρ e h;rcases e2 with ⟨e2,h1⟩|⟨r,rfl,q⟩
  ·obtain⟨fl',ρ',e3,h3⟩:=zeo I Q (ds:=ds) (post:=post) (pre:=pre++[d]) (ρ:=ρ1) (by simp[e]) h1 st
   refine⟨fl',ρ',?_,h3⟩;rw[yq,e1];simp only[Option.bind_some];rcases e2 with rfl|rfl<;>exact e3
  ·refine⟨_,ρ1,?_,.inr ⟨r,rfl,q⟩⟩
   rw[yq,e1];rfl
theorem zlO{i:Nat}{body:Env->Option (Fl×Env)}(I:Nat->Env->Prop){ds:List D}{ρ:Env}(h0:I 0 ρ)
  (st: ∀k ρ (hk:k<ds.length),I k ρ->∃fl ρ',body (ρ.set i (some (.val ds[k])))=some (fl,ρ')/\(fl= .nx\/fl= .ct)/\I (k+1) ρ'):
  ∃ρ',yq i body ds ρ=some (.nx,ρ')/\I ds.length ρ':=by
 refine zen (fun pre ρ=>I pre.length ρ) (ds:=ds) (post:=ds) (pre:=[]) rfl h0 fun pre d post ρ e h=>?_
 subst e;have hk:pre.length<(pre++d::post).length:=by simp
 obtain⟨fl,ρ',h1,h2,h3⟩:=st pre.length ρ hk h;refine⟨fl,ρ',?_,h2,by simpa using h3⟩;rw[<-h1];simp
theorem zlP{i:Nat}{body:Env->Option (Fl×Env)}(I:Nat->Env->Prop)(Q:SV->Prop){ds:List D}{ρ:Env}(h0:I 0 ρ)
  (st: ∀k ρ (hk:k<ds.length),I k ρ->∃fl ρ',body (ρ.set i (some (.val ds[k])))=some (fl,ρ')/\(((fl= .nx\/fl= .ct)/\I (k+1) ρ')\/∃r,fl= .rt r/\Q r)):
  ∃fl ρ',yq i body ds ρ=some (fl,ρ')/\((fl= .nx/\I ds.length ρ')\/∃r,fl= .rt r/\Q r):=by
 refine zeo (fun pre ρ=>I pre.length ρ) Q (ds:=ds) (post:=ds) (pre:=[]) rfl h0 fun pre d post ρ e h=>?_
 subst e;have hk:pre.length<(pre++d::post).length:=by simp
 obtain⟨fl,ρ',h1,h2⟩:=st pre.length ρ hk h;refine⟨fl,ρ',?_,by simpa using h2⟩;rw[<-h1];simp
theorem zam{i:Nat}{body:Env->Option (Fl×Env)}{α:Type}{f:α->D}{xs:List α}(I:Nat->Env->Prop){ρ:Env}(h0:I 0 ρ)
  (st: ∀k ρ (hk:k<xs.length),I k ρ->∃fl ρ',body (ρ.set i (some (.val (f xs[k]))))=some (fl,ρ')/\(fl= .nx\/fl= .ct)/\I (k+1) ρ'):
  ∃ρ',yq i body (xs.map f) ρ=some (.nx,ρ')/\I xs.length ρ':=by
 have:=zlO (i:=i) (body:=body) I (ds:=xs.map f) (ρ:=ρ) h0 fun k ρ hk h=>by
  obtain⟨fl,ρ',h1,h2⟩:=st k ρ (by simpa using hk) h;exact⟨fl,ρ',by rw[List.getElem_map];exact h1,h2⟩
 simpa using this
theorem zlQ{i:Nat}{body:Env->Option (Fl×Env)}{α:Type}{f:α->D}{xs:List α}(I:Nat->Env->Prop)(Q:SV->Prop){ρ:Env}(h0:I 0 ρ)
  (st: ∀k ρ (hk:k<xs.length),I k ρ->∃fl ρ',body (ρ.set i (some (.val (f xs[k]))))=some (fl,ρ')/\(((fl= .nx\/fl= .ct)/\I (k+1) ρ')\/∃r,fl= .rt r/\Q r)):
  ∃fl ρ',yq i body (xs.map f) ρ=some (fl,ρ')/\((fl= .nx/\I xs.length ρ')\/∃r,fl= .rt r/\Q r):=by
 have:=zlP (i:=i) (body:=body) I Q (ds:=xs.map f) (ρ:=ρ) h0 fun k ρ hk h=>by
  obtain⟨fl,ρ',h1,h2⟩:=st k ρ (by simpa using hk) h;exact⟨fl,ρ',by rw[List.getElem_map];exact h1,h2⟩
 simpa using this
theorem zep{i:Nat}{body:Env->Option (Fl×Env)}(I:Nat->Env->Prop){a:Int}{m:Nat}{ρ:Env}(h0:I 0 ρ)
  (st: ∀k ρ,k<m->I k ρ->∃fl ρ',body (ρ.set i (some (.val (.int (a+(k:Int))))))=some (fl,ρ')/\(fl= .nx\/fl= .ct)/\I (k+1) ρ'):
  ∃ρ',yq i body ((List.range m).map fun (k:Nat)=>D.int (a+(k:Int))) ρ=some (.nx,ρ')/\I m ρ':=by
 have:=zam (i:=i) (body:=body) (f:=fun (k:Nat)=>D.int (a+(k:Int))) (xs:=List.range m) I (ρ:=ρ) h0 fun k ρ hk h=>by
  obtain⟨fl,ρ',h1,h2⟩:=st k ρ (by simpa using hk) h;exact⟨fl,ρ',by rw[List.getElem_range];exact h1,h2⟩
 simpa using this
theorem QZ{test:Env->Option Bool}{body:Env->Option (Fl×Env)}(I:Nat->Env->Prop)(J:Env->Prop): ∀{m n:Nat} {ρ:Env},m<n->I m ρ->
  (∀m ρ,I m ρ->(test ρ=some false/\J ρ)\/(test ρ=some true/\∃fl ρ' m',body ρ=some (fl,ρ')/\(fl= .nx\/fl= .ct)/\m'<m/\I m' ρ'))->
  ∃ρ',xE test body n ρ=some (.nx,ρ')/\J ρ'
 |m,0,ρ,hn,_,_=>by omega
 |m,n+1,ρ,hn,h,st=>by
  rcases st m ρ h with ⟨e,j⟩|⟨e,fl,ρ1,m',e1,e2,hm,h1⟩
  ·exact⟨ρ,by rw[xE,e];rfl,j⟩
  ·obtain⟨ρ',e3,j⟩:=QZ I J (m:=m') (n:=n) (ρ:=ρ1) (by omega) h1 st
   refine⟨ρ',?_,j⟩;rw[xE,e];simp only[Option.bind_some,if_true,e1];rcases e2 with rfl|rfl<;>exact e3
theorem zeq{test:Env->Option Bool}{body:Env->Option (Fl×Env)}(I:Nat->Env->Prop)(J:Env->Prop)(Q:SV->Prop): ∀{m n:Nat} {ρ:Env},m<n->I m ρ->
  (∀m ρ,I m ρ->(test ρ=some false/\J ρ)\/(test ρ=some true/\∃fl ρ',body ρ=some (fl,ρ')/\(((fl= .nx\/fl= .ct)/\∃m',m'<m/\I m' ρ')\/∃r,fl= .rt r/\Q r)))->
  ∃fl ρ',xE test body n ρ=some (fl,ρ')/\((fl= .nx/\J ρ')\/∃r,fl= .rt r/\Q r)
 |m,0,ρ,hn,_,_=>by omega
 |m,n+1,ρ,hn,h,st=>by
  rcases st m ρ h with ⟨e,j⟩|⟨e,fl,ρ1,e1,⟨e2,m',hm,h1⟩|⟨r,rfl,q⟩⟩
  ·exact⟨_,ρ,by rw[xE,e];rfl,.inl ⟨rfl,j⟩⟩
  ·obtain⟨fl',ρ',e3,j⟩:=zeq I J Q (m:=m') (n:=n) (ρ:=ρ1) (by omega) h1 st
   refine⟨fl',ρ',?_,j⟩;rw[xE,e];simp only[Option.bind_some,if_true,e1];rcases e2 with rfl|rfl<;>exact e3
  ·refine⟨_,ρ1,?_,.inr ⟨r,rfl,q⟩⟩
   rw[xE,e];simp only[Option.bind_some,if_true,e1]
end L2.LW
namespace LK
open L2.LW
noncomputable def Vt:Ss:=(.cons (.ifs (.or (.prim (.inst .bool) (.cons (.var 0) .nil)) (.not (.prim (.inst .int) (.cons (.var 0) .nil)))) (.cons (.ret (.bl false))
  .nil) .nil)
  (.cons (.ret (.chain .le .le (.var 1) (.var 0) (.var 2)))
  .nil))
noncomputable def Vu:Ss:=(.cons (.ret (.and (.prim (.inst .tuple) (.cons (.var 0) .nil)) (.prim .eq (.cons (.prim .len (.cons (.var 0) .nil)) (.cons (.int 2) .nil)))))
  .nil)
noncomputable def Vv:Ss:=(.cons (.ret (.and (.call 1 (.cons (.var 0) .nil)) (.and (.call 0 (.cons (.prim .idx (.cons (.var 0) (.cons (.int 0) .nil))) (.cons (.int 0) (.cons (.int 7) .nil)))) (.call 0 (.cons (.prim .idx (.cons (.var 0) (.cons (.int 1) .nil))) (.cons (.int 0) (.cons (.int 7) .nil)))))))
  .nil)
noncomputable def Vw:Ss:=(.cons (.ret (.and (.call 1 (.cons (.var 0) .nil)) (.and (.call 0 (.cons (.prim .idx (.cons (.var 0) (.cons (.int 1) .nil))) (.cons (.int 1) (.cons (.int 4) .nil)))) (.call 0 (.cons (.prim .idx (.cons (.var 0) (.cons (.int 0) .nil))) (.cons (.int 0) (.cons (.prim .idx (.cons (.var 0) (.cons (.int 1) .nil))) .nil)))))))
  .nil)
noncomputable def Vx:Ss:=(.cons (.ret (.prim .all (.cons (.comp true (.cons (.int 1) (.cons (.prim .len (.cons (.var 0) .nil)) .nil)) (.bl true) (.prim .lt (.cons (.prim .idx (.cons (.var 1) (.cons (.prim .sub (.cons (.var 0) (.cons (.int 1) .nil))) .nil))) (.cons (.prim .idx (.cons (.var 1) (.cons (.var 0) .nil))) .nil)))) .nil)))
  .nil)
noncomputable def Vy:Ss:=(.cons (.ifs (.or (.not (.prim (.inst .tuple) (.cons (.var 0) .nil))) (.not (.chain .le .le (.int 1) (.prim .len (.cons (.var 0) .nil)) (.int 24)))) (.cons (.ret (.bl false))
  .nil) .nil)
  (.cons (.ret (.and (.prim .all (.cons (.comp false (.cons (.var 0) .nil) (.bl true) (.call 2 (.cons (.var 0) .nil))) .nil)) (.call 4 (.cons (.var 0) .nil))))
  .nil))
noncomputable def Vz:Ss:=(.cons (.ifs (.not (.call 5 (.cons (.var 0) .nil))) (.cons .stop
  .nil) .nil)
  (.cons (.retV 0)
  .nil))
noncomputable def VA:Ss:=(.cons (.ifs (.not (.call 3 (.cons (.var 0) .nil))) (.cons .stop
  .nil) .nil)
  (.cons (.retV 0)
  .nil))
noncomputable def VB:Ss:=(.cons (.ifs (.or (.not (.call 2 (.cons (.var 1) .nil))) (.prim .nin (.cons (.var 1) (.cons (.var 0) .nil)))) (.cons .stop
  .nil) .nil)
  (.cons (.retV 1)
  .nil))
noncomputable def VC:Ss:=(.cons (.ret (.tup (.cons (.prim .min2 (.cons (.prim .abs (.cons (.var 0) .nil)) (.cons (.prim .abs (.cons (.var 1) .nil)) .nil))) (.cons (.prim .max2 (.cons (.prim .abs (.cons (.var 0) .nil)) (.cons (.prim .abs (.cons (.var 1) .nil)) .nil))) .nil))))
  .nil)
noncomputable def VD:Ss:=(.cons (.ret (.prim .eq (.cons (.call 9 (.cons (.prim .sub (.cons (.prim .idx (.cons (.var 2) (.cons (.int 0) .nil))) (.cons (.prim .idx (.cons (.var 1) (.cons (.int 0) .nil))) .nil))) (.cons (.prim .sub (.cons (.prim .idx (.cons (.var 2) (.cons (.int 1) .nil))) (.cons (.prim .idx (.cons (.var 1) (.cons (.int 1) .nil))) .nil))) .nil))) (.cons (.var 0) .nil))))
  .nil)
noncomputable def VE:Ss:=(.cons (.ret (.comp false (.cons (.var 0) .nil) (.call 10 (.cons (.var 2) (.cons (.var 3) (.cons (.var 0) .nil)))) (.var 0)))
  .nil)
noncomputable def VF:Ss:=(.cons (.expr (.call 6 (.cons (.var 0) .nil)))
  (.cons (.expr (.call 7 (.cons (.var 1) .nil)))
  (.cons (.expr (.call 8 (.cons (.var 0) (.cons (.var 2) .nil))))
  (.cons (.ret (.call 11 (.cons (.var 0) (.cons (.var 1) (.cons (.var 2) .nil)))))
  .nil))))
noncomputable def VG:Ss:=(.cons (.ifs (.prim .lt (.cons (.var 1) (.cons (.prim .len (.cons (.var 0) .nil)) .nil))) (.cons (.ret (.prim .idx (.cons (.var 0) (.cons (.var 1) .nil))))
  .nil) .nil)
  (.cons (.ret (.int 0))
  .nil))
noncomputable def VH:Ss:=(.cons (.ret (.prim .mod (.cons (.prim .mod (.cons (.prim .mul (.cons (.var 0) (.cons (.int 48271) .nil))) (.cons (.var 1) .nil))) (.cons (.var 2) .nil))))
  .nil)
noncomputable def ka:Ss:=(.cons (.asg 12 (.prim .add (.cons (.prim .add (.cons (.call 13 (.cons (.var 0) (.cons (.prim .add (.cons (.prim .add (.cons (.var 1) (.cons (.int 2) .nil))) (.cons (.prim .mod (.cons (.prim .add (.cons (.var 10) (.cons (.prim .mul (.cons (.int 2) (.cons (.var 11) .nil))) .nil))) (.cons (.int 7) .nil))) .nil))) .nil))) (.cons (.prim .mul (.cons (.prim .mul (.cons (.int 31) (.cons (.var 10) .nil))) (.cons (.var 10) .nil))) .nil))) (.cons (.prim .mul (.cons (.prim .mul (.cons (.int 57) (.cons (.var 11) .nil))) (.cons (.var 11) .nil))) .nil))))
  (.cons (.ifs (.or (.prim .eq (.cons (.var 8) (.cons (.int 0) .nil))) (.prim .gt (.cons (.call 14 (.cons (.var 12) (.cons (.int 9931) (.cons (.prim .idx (.cons (.lst (.cons (.int 2) (.cons (.int 4) (.cons (.int 7) .nil)))) (.cons (.prim .sub (.cons (.var 8) (.cons (.int 1) .nil))) .nil))) .nil)))) (.cons (.int 0) .nil)))) (.cons (.app 9 (.tup (.cons (.prim .add (.cons (.var 6) (.cons (.var 10) .nil))) (.cons (.prim .add (.cons (.var 7) (.cons (.var 11) .nil))) .nil))))
  .nil) .nil)
  .nil))
noncomputable def VI:Ss:=(.cons (.for_ 11 true (.cons (.var 5) .nil) ka)
  .nil)
noncomputable def VJ:Ss:=(.cons (.asg 3 (.call 13 (.cons (.var 0) (.cons (.var 1) .nil))))
  (.cons (.asg 4 (.prim .add (.cons (.int 1) (.cons (.call 14 (.cons (.var 3) (.cons (.int 9973) (.cons (.int 5) .nil)))) .nil))))
  (.cons (.asg 5 (.prim .add (.cons (.int 1) (.cons (.call 14 (.cons (.var 3) (.cons (.int 9967) (.cons (.int 6) .nil)))) .nil))))
  (.cons (.asg 6 (.call 14 (.cons (.call 13 (.cons (.var 0) (.cons (.prim .add (.cons (.var 1) (.cons (.int 1) .nil))) .nil))) (.cons (.int 9949) (.cons (.prim .sub (.cons (.int 9) (.cons (.var 4) .nil))) .nil)))))
  (.cons (.asg 7 (.call 14 (.cons (.call 13 (.cons (.var 0) (.cons (.prim .add (.cons (.var 1) (.cons (.int 1) .nil))) .nil))) (.cons (.int 9941) (.cons (.prim .sub (.cons (.int 9) (.cons (.var 5) .nil))) .nil)))))
  (.cons (.asg 8 (.call 14 (.cons (.prim .add (.cons (.var 3) (.cons (.int 3) .nil))) (.cons (.int 9907) (.cons (.int 4) .nil)))))
  (.cons (.asg 9 (.lst .nil))
  (.cons (.for_ 10 true (.cons (.var 4) .nil) VI)
  (.cons (.ifs (.not (.var 9)) (.cons (.asg 9 (.lst (.cons (.tup (.cons (.var 6) (.cons (.var 7) .nil))) .nil)))
  .nil) .nil)
  (.cons (.ret (.prim .toTup (.cons (.prim .cutTo (.cons (.var 9) (.cons (.var 2) .nil))) .nil)))
  .nil))))))))))
noncomputable def VL:Ss:=(.cons (.asg 1 (.lst (.cons (.tup (.cons (.int 1) (.cons (.int 2) .nil))) (.cons (.tup (.cons (.int 0) (.cons (.int 1) .nil))) (.cons (.tup (.cons (.int 1) (.cons (.int 1) .nil))) (.cons (.tup (.cons (.int 1) (.cons (.int 2) .nil))) (.cons (.tup (.cons (.int 0) (.cons (.int 2) .nil))) (.cons (.tup (.cons (.int 1) (.cons (.int 3) .nil))) (.cons (.tup (.cons (.int 2) (.cons (.int 3) .nil))) (.cons (.tup (.cons (.int 0) (.cons (.int 1) .nil))) (.cons (.tup (.cons (.int 1) (.cons (.int 2) .nil))) (.cons (.tup (.cons (.int 2) (.cons (.int 2) .nil))) (.cons (.tup (.cons (.int 0) (.cons (.int 3) .nil))) (.cons (.tup (.cons (.int 1) (.cons (.int 4) .nil))) (.cons (.tup (.cons (.int 2) (.cons (.int 4) .nil))) .nil)))))))))))))))
  (.cons (.ret (.prim .idx (.cons (.prim .add (.cons (.var 1) (.cons (.lst (.cons (.tup (.cons (.int 3) (.cons (.int 3) .nil))) (.cons (.tup (.cons (.int 3) (.cons (.int 4) .nil))) (.cons (.tup (.cons (.int 0) (.cons (.int 4) .nil))) (.cons (.tup (.cons (.int 4) (.cons (.int 4) .nil))) (.cons (.tup (.cons (.int 1) (.cons (.int 2) .nil))) (.cons (.tup (.cons (.int 1) (.cons (.int 1) .nil))) .nil))))))) .nil))) (.cons (.prim .mod (.cons (.var 0) (.cons (.int 19) .nil))) .nil))))
  .nil))
noncomputable def YC:Ss:=(.cons (.ifs (.prim .nin (.cons (.var 7) (.cons (.var 3) .nil))) (.cons (.dset 3 (.var 7) (.var 6))
  (.cons (.app 5 (.var 7))
  .nil)) .nil)
  .nil)
noncomputable def kb:Ss:=(.cons (.for_ 7 false (.cons (.call 11 (.cons (.var 0) (.cons (.var 1) (.cons (.var 6) .nil)))) .nil) YC)
  .nil)
noncomputable def kc:Ss:=(.cons (.asg 5 (.lst .nil))
  (.cons (.forV 6 4 kb)
  (.cons (.mov 4 5)
  .nil)))
noncomputable def VM:Ss:=(.cons (.asg 3 (.done true (.var 2) .non))
  (.cons (.asg 4 (.lst (.cons (.var 2) .nil)))
  (.cons (.while_ (.prim .gt (.cons (.prim .len (.cons (.var 4) .nil)) (.cons (.int 0) .nil))) kc)
  (.cons (.retV 3)
  .nil))))
noncomputable def VN:Ss:=(.cons (.ret (.prim .maxL (.cons (.comp true (.cons (.int 1) (.cons (.prim .add (.cons (.prim .idx (.cons (.var 0) (.cons (.int 1) .nil))) (.cons (.int 1) .nil))) .nil)) (.and (.prim .eq (.cons (.prim .mod (.cons (.prim .idx (.cons (.var 1) (.cons (.int 0) .nil))) (.cons (.var 0) .nil))) (.cons (.int 0) .nil))) (.prim .eq (.cons (.prim .mod (.cons (.prim .idx (.cons (.var 1) (.cons (.int 1) .nil))) (.cons (.var 0) .nil))) (.cons (.int 0) .nil)))) (.var 0)) .nil)))
  .nil)
noncomputable def VO:Ss:=(.cons (.asg 1 (.call 21 (.cons (.var 0) .nil)))
  (.cons (.ret (.prim .eq (.cons (.prim .mod (.cons (.prim .add (.cons (.prim .fdiv (.cons (.prim .idx (.cons (.var 0) (.cons (.int 0) .nil))) (.cons (.var 1) .nil))) (.cons (.prim .fdiv (.cons (.prim .idx (.cons (.var 0) (.cons (.int 1) .nil))) (.cons (.var 1) .nil))) .nil))) (.cons (.int 2) .nil))) (.cons (.int 1) .nil))))
  .nil))
noncomputable def VP:Ss:=(.cons (.asg 2 (.call 21 (.cons (.var 0) .nil)))
  (.cons (.asg 3 (.prim .fdiv (.cons (.prim .idx (.cons (.var 1) (.cons (.int 0) .nil))) (.cons (.var 2) .nil))))
  (.cons (.asg 4 (.prim .fdiv (.cons (.prim .idx (.cons (.var 1) (.cons (.int 1) .nil))) (.cons (.var 2) .nil))))
  (.cons (.ifs (.call 22 (.cons (.var 0) .nil)) (.cons (.ret (.prim .mod (.cons (.prim .add (.cons (.var 3) (.cons (.var 4) .nil))) (.cons (.int 2) .nil))))
  .nil) .nil)
  (.cons (.ret (.prim .mod (.cons (.var 3) (.cons (.int 2) .nil))))
  .nil)))))
noncomputable def VQ:Ss:=(.cons (.ret (.comp false (.cons (.var 0) .nil) (.prim .eq (.cons (.call 23 (.cons (.var 2) (.cons (.var 0) .nil))) (.cons (.var 3) .nil))) (.var 0)))
  .nil)
noncomputable def VS:Ss:=(.cons (.expr (.call 6 (.cons (.var 0) .nil)))
  (.cons (.expr (.call 7 (.cons (.var 1) .nil)))
  (.cons (.ret (.lst (.cons (.call 24 (.cons (.var 0) (.cons (.var 1) (.cons (.int 0) .nil)))) (.cons (.call 24 (.cons (.var 0) (.cons (.var 1) (.cons (.int 1) .nil)))) .nil))))
  .nil)))
noncomputable def zlR:Ss:=(.cons (.app 5 (.prim .idx (.cons (.var 4) (.cons (.prim .idx (.cons (.var 5) (.cons (.prim .neg (.cons (.int 1) .nil)) .nil))) .nil))))
  .nil)
noncomputable def VT:Ss:=(.cons (.expr (.call 6 (.cons (.var 0) .nil)))
  (.cons (.expr (.call 7 (.cons (.var 1) .nil)))
  (.cons (.expr (.call 8 (.cons (.var 0) (.cons (.var 2) .nil))))
  (.cons (.expr (.call 8 (.cons (.var 0) (.cons (.var 3) .nil))))
  (.cons (.asg 4 (.call 20 (.cons (.var 0) (.cons (.var 1) (.cons (.var 3) .nil)))))
  (.cons (.ifs (.prim .nin (.cons (.var 2) (.cons (.var 4) .nil))) (.cons (.ret .non)
  .nil) .nil)
  (.cons (.asg 5 (.lst (.cons (.var 2) .nil)))
  (.cons (.while_ (.prim .notN (.cons (.prim .idx (.cons (.var 4) (.cons (.prim .idx (.cons (.var 5) (.cons (.prim .neg (.cons (.int 1) .nil)) .nil))) .nil))) .nil)) zlR)
  (.cons (.retV 5)
  .nil)))))))))
noncomputable def VU:Ss:=(.cons (.ifs (.prim .nin (.cons (.var 4) (.cons (.var 3) .nil))) (.cons (.asg 5 (.call 20 (.cons (.var 0) (.cons (.var 1) (.cons (.var 4) .nil)))))
  (.cons (.dupd 3 5)
  (.cons (.app 2 (.prim .skeys (.cons (.var 5) .nil)))
  .nil))) .nil)
  .nil)
noncomputable def VV:Ss:=(.cons (.asg 2 (.lst .nil))
  (.cons (.asg 3 (.dnew true))
  (.cons (.forV 4 0 VU)
  (.cons (.retV 2)
  .nil))))
noncomputable def VW:Ss:=(.cons (.expr (.call 6 (.cons (.var 0) .nil)))
  (.cons (.expr (.call 7 (.cons (.var 1) .nil)))
  (.cons (.ret (.call 30 (.cons (.var 0) (.cons (.var 1) .nil))))
  .nil)))
noncomputable def jO:Ss:=(.cons (.ifs (.prim .nin (.cons (.var 5) (.cons (.var 4) .nil))) (.cons (.dset 4 (.var 5) (.bl true))
  (.cons (.ifO (.prim .nin (.cons (.var 5) (.cons (.var 2) .nil))) (.call 37 (.e (.var 0) (.e (.var 1) (.s 2 (.e (.prim .idx (.cons (.var 2) (.cons (.var 5) .nil))) (.s 4 .nil)))))) (.cons (.dset 2 (.var 3) (.var 5))
  (.cons (.dset 2 (.var 5) (.var 3))
  (.cons (.ret (.bl true))
  .nil))) .nil)
  .nil)) .nil)
  .nil)
noncomputable def YD:Ss:=(.cons (.for_ 5 false (.cons (.call 11 (.cons (.var 0) (.cons (.var 1) (.cons (.var 3) .nil)))) .nil) jO)
  (.cons (.ret (.bl false))
  .nil))
noncomputable def ke:Ss:=(.cons (.exprM (.call 37 (.e (.var 0) (.e (.var 1) (.s 2 (.e (.var 3) (.n true .nil)))))))
  .nil)
noncomputable def VX:Ss:=(.cons (.asg 2 (.dnew true))
  (.cons (.for_ 3 false (.cons (.call 24 (.cons (.var 0) (.cons (.var 1) (.cons (.int 0) .nil)))) .nil) ke)
  (.cons (.retV 2)
  .nil)))
noncomputable def VY:Ss:=(.cons (.ret (.comp false (.cons (.var 0) .nil) (.and (.prim .inn (.cons (.var 0) (.cons (.var 2) .nil))) (.prim .lt (.cons (.var 0) (.cons (.prim .idx (.cons (.var 2) (.cons (.var 0) .nil))) .nil)))) (.tup (.cons (.var 0) (.cons (.prim .idx (.cons (.var 2) (.cons (.var 0) .nil))) .nil)))))
  .nil)
noncomputable def VZ:Ss:=(.cons (.ifs (.prim .nin (.cons (.var 9) (.cons (.var 5) .nil))) (.cons (.app 5 (.var 9))
  (.cons (.app 7 (.prim .idx (.cons (.var 2) (.cons (.var 9) .nil))))
  .nil)) .nil)
  .nil)
noncomputable def kf:Ss:=(.cons (.for_ 9 false (.cons (.call 11 (.cons (.var 0) (.cons (.var 1) (.cons (.var 8) .nil)))) .nil) VZ)
  .nil)
noncomputable def kg:Ss:=(.cons (.asg 7 (.lst .nil))
  (.cons (.forV 8 6 kf)
  (.cons (.asg 4 (.prim .add (.cons (.var 4) (.cons (.var 7) .nil))))
  (.cons (.mov 6 7)
  .nil))))
noncomputable def Ja:Ss:=(.cons (.asg 4 (.comp false (.cons (.call 24 (.cons (.var 0) (.cons (.var 1) (.cons (.var 3) .nil)))) .nil) (.prim .nin (.cons (.var 0) (.cons (.var 3) .nil))) (.var 0)))
  (.cons (.asg 5 (.lst .nil))
  (.cons (.mov 6 4)
  (.cons (.while_ (.prim .gt (.cons (.prim .len (.cons (.var 6) .nil)) (.cons (.int 0) .nil))) kg)
  (.cons (.frz [4,5] (.ret (.tup (.cons (.var 4) (.cons (.var 5) .nil)))))
  .nil)))))
noncomputable def YF:Ss:=(.cons (.ifs (.prim .eq (.cons (.call 23 (.cons (.var 0) (.cons (.var 1) .nil))) (.cons (.int 0) .nil))) (.cons (.ret (.prim .nin (.cons (.var 1) (.cons (.var 2) .nil))))
  .nil) .nil)
  (.cons (.ret (.prim .inn (.cons (.var 1) (.cons (.var 3) .nil))))
  .nil))
noncomputable def Jb:Ss:=(.cons (.expr (.call 6 (.cons (.var 0) .nil)))
  (.cons (.expr (.call 7 (.cons (.var 1) .nil)))
  (.cons (.asg 3 (.call 40 (.cons (.var 0) (.cons (.var 1) (.cons (.call 38 (.cons (.var 0) (.cons (.var 1) .nil))) (.cons (.int 0) .nil))))))
  (.cons (.ret (.comp false (.cons (.var 0) .nil) (.prim .eq (.cons (.call 41 (.cons (.var 2) (.cons (.var 0) (.cons (.prim .idx (.cons (.var 4) (.cons (.int 0) .nil))) (.cons (.prim .idx (.cons (.var 4) (.cons (.int 1) .nil))) .nil))))) (.cons (.var 3) .nil))) (.var 0)))
  .nil))))
noncomputable def Jc:Ss:=(.cons (.expr (.call 6 (.cons (.var 0) .nil)))
  (.cons (.expr (.call 7 (.cons (.var 1) .nil)))
  (.cons (.ret (.call 39 (.cons (.var 0) (.cons (.call 38 (.cons (.var 0) (.cons (.var 1) .nil))) .nil))))
  .nil)))
noncomputable def Jd:Ss:=(.cons (.ret (.call 42 (.cons (.var 0) (.cons (.var 1) (.cons (.bl true) .nil)))))
  .nil)
noncomputable def Je:Ss:=(.cons (.ret (.call 42 (.cons (.var 0) (.cons (.var 1) (.cons (.bl false) .nil)))))
  .nil)
noncomputable def Jf:Ss:=(.cons (.expr (.call 6 (.cons (.var 0) .nil)))
  (.cons (.expr (.call 7 (.cons (.var 1) .nil)))
  (.cons (.asg 2 (.call 38 (.cons (.var 0) (.cons (.var 1) .nil))))
  (.cons (.asg 3 (.comp false (.cons (.var 0) .nil) (.prim .nin (.cons (.var 0) (.cons (.var 3) .nil))) (.var 0)))
  (.cons (.ifs (.prim .eq (.cons (.prim .len (.cons (.var 3) .nil)) (.cons (.int 0) .nil))) (.cons (.ret (.tup (.cons (.str "paired") (.cons (.call 39 (.cons (.var 0) (.cons (.var 2) .nil))) .nil))))
  .nil) .nil)
  (.cons (.frz [2] (.asg 4 (.call 40 (.cons (.var 0) (.cons (.var 1) (.cons (.var 2) (.cons (.call 23 (.cons (.var 1) (.cons (.prim .idx (.cons (.var 3) (.cons (.int 0) .nil))) .nil))) .nil)))))))
  (.cons (.ret (.tup (.cons (.str "crowd") (.cons (.prim .sorted (.cons (.prim .idx (.cons (.var 4) (.cons (.int 0) .nil))) .nil)) .nil))))
  .nil)))))))
noncomputable def Jg:Ss:=(.cons (.ifs (.prim .gt (.cons (.prim .len (.cons (.var 0) .nil)) (.cons (.var 1) .nil))) (.cons .stop
  .nil) .nil)
  .nil)
noncomputable def Jh:Ss:=(.cons (.ret (.prim .sumL (.cons (.compE (.var 0) (.call 10 (.cons (.var 3) (.cons (.var 4) (.cons (.var 1) .nil)))) (.prim .shl (.cons (.int 1) (.cons (.var 0) .nil)))) .nil)))
  .nil)
noncomputable def kh:Ss:=(.cons (.ifs (.prim .ne (.cons (.prim .band (.cons (.var 1) (.cons (.prim .shl (.cons (.int 1) (.cons (.var 3) .nil))) .nil))) (.cons (.int 0) .nil))) (.cons (.dset 2 (.prim .shl (.cons (.int 1) (.cons (.var 3) .nil))) (.prim .shl (.cons (.int 1) (.cons (.var 3) .nil))))
  .nil) .nil)
  .nil)
noncomputable def Ji:Ss:=(.cons (.asg 2 (.dnew false))
  (.cons (.for_ 3 true (.cons (.var 0) .nil) kh)
  (.cons (.retV 2)
  .nil)))
noncomputable def YG:Ss:=(.cons (.asg 5 (.prim .shl (.cons (.int 1) (.cons (.var 4) .nil))))
  (.cons (.ifs (.and (.prim .eq (.cons (.prim .band (.cons (.var 3) (.cons (.var 5) .nil))) (.cons (.int 0) .nil))) (.prim .ne (.cons (.prim .band (.cons (.prim .idx (.cons (.var 1) (.cons (.var 3) .nil))) (.cons (.prim .idx (.cons (.var 0) (.cons (.var 4) .nil))) .nil))) (.cons (.int 0) .nil)))) (.cons (.dset 2 (.prim .bor (.cons (.var 3) (.cons (.var 5) .nil))) (.prim .bor (.cons (.prim .dget (.cons (.var 2) (.cons (.prim .bor (.cons (.var 3) (.cons (.var 5) .nil))) (.cons (.int 0) .nil)))) (.cons (.var 5) .nil))))
  .nil) .nil)
  .nil))
noncomputable def ki:Ss:=(.cons (.for_ 4 true (.cons (.prim .len (.cons (.var 0) .nil)) .nil) YG)
  .nil)
noncomputable def Jj:Ss:=(.cons (.asg 2 (.dnew false))
  (.cons (.forK 3 1 ki)
  (.cons (.retV 2)
  .nil)))
noncomputable def zan:Ss:=(.cons (.app 2 (.call 64 (.cons (.var 0) (.cons (.prim .idx (.cons (.var 2) (.cons (.prim .neg (.cons (.int 1) .nil)) .nil))) .nil))))
  .nil)
noncomputable def Jk:Ss:=(.cons (.asg 2 (.lst (.cons (.call 63 (.cons (.prim .len (.cons (.var 0) .nil)) (.cons (.var 1) .nil))) .nil)))
  (.cons (.while_ (.prim .lt (.cons (.prim .len (.cons (.var 2) .nil)) (.cons (.prim .len (.cons (.var 0) .nil)) .nil))) zan)
  (.cons (.retV 2)
  .nil)))
noncomputable def kj:Ss:=(.cons (.asg 8 (.prim .sub (.cons (.prim .blen (.cons (.prim .band (.cons (.prim .idx (.cons (.var 7) (.cons (.var 5) .nil))) (.cons (.var 3) .nil))) .nil)) (.cons (.int 1) .nil))))
  (.cons (.app 6 (.prim .idx (.cons (.var 0) (.cons (.var 8) .nil))))
  (.cons (.asg 5 (.prim .bxor (.cons (.var 5) (.cons (.prim .shl (.cons (.int 1) (.cons (.var 8) .nil))) .nil))))
  (.cons (.asg 3 (.prim .idx (.cons (.var 1) (.cons (.var 8) .nil))))
  .nil))))
noncomputable def YH:Ss:=(.cons (.asg 4 (.call 65 (.cons (.var 1) (.cons (.var 2) .nil))))
  (.cons (.asg 5 (.prim .sub (.cons (.prim .shl (.cons (.int 1) (.cons (.prim .len (.cons (.var 0) .nil)) .nil))) (.cons (.int 1) .nil))))
  (.cons (.ifs (.prim .eq (.cons (.prim .band (.cons (.prim .dget (.cons (.prim .idx (.cons (.var 4) (.cons (.prim .neg (.cons (.int 1) .nil)) .nil))) (.cons (.var 5) (.cons (.int 0) .nil)))) (.cons (.var 3) .nil))) (.cons (.int 0) .nil))) (.cons (.ret .non)
  .nil) .nil)
  (.cons (.asg 6 (.lst .nil))
  (.cons (.frz [4] (.for_ 7 false (.cons (.var 4) (.cons .non .nil)) kj))
  (.cons (.retV 6)
  .nil))))))
noncomputable def Jl:Ss:=(.cons (.expr (.call 6 (.cons (.var 0) .nil)))
  (.cons (.expr (.call 7 (.cons (.var 1) .nil)))
  (.cons (.expr (.call 61 (.cons (.var 0) (.cons (.int 16) .nil))))
  (.cons (.asg 2 (.comp false (.cons (.var 0) .nil) (.bl true) (.call 62 (.cons (.var 1) (.cons (.var 2) (.cons (.var 0) .nil))))))
  (.cons (.asg 3 (.prim .sub (.cons (.prim .shl (.cons (.int 1) (.cons (.prim .len (.cons (.var 0) .nil)) .nil))) (.cons (.int 1) .nil))))
  (.cons (.ret (.call 66 (.cons (.var 0) (.cons (.var 2) (.cons (.var 3) (.cons (.var 3) .nil))))))
  .nil))))))
noncomputable def YI:Ss:=(.cons (.expr (.call 6 (.cons (.var 0) .nil)))
  (.cons (.expr (.call 7 (.cons (.var 1) .nil)))
  (.cons (.expr (.call 61 (.cons (.var 0) (.cons (.int 16) .nil))))
  (.cons (.ifs (.prim .lt (.cons (.prim .len (.cons (.var 0) .nil)) (.cons (.int 3) .nil))) (.cons (.ret .non)
  .nil) .nil)
  (.cons (.asg 2 (.comp false (.cons (.var 0) .nil) (.bl true) (.call 62 (.cons (.var 1) (.cons (.var 2) (.cons (.var 0) .nil))))))
  (.cons (.ret (.call 66 (.cons (.var 0) (.cons (.var 2) (.cons (.int 1) (.cons (.prim .idx (.cons (.var 2) (.cons (.int 0) .nil))) .nil))))))
  .nil))))))
noncomputable def Jm:Ss:=(.cons (.asg 4 (.comp false (.cons (.var 0) .nil) (.prim .nin (.cons (.var 0) (.cons (.var 4) .nil))) (.var 0)))
  (.cons (.frz [4] (.asg 5 (.prim .len (.cons (.call 30 (.cons (.var 4) (.cons (.var 1) .nil))) .nil))))
  (.cons (.ret (.and (.prim .gt (.cons (.var 5) (.cons (.prim .add (.cons (.prim .len (.cons (.var 3) .nil)) (.cons (.var 2) .nil))) .nil))) (.prim .gt (.cons (.var 5) (.cons (.int 1) .nil)))))
  .nil)))
noncomputable def Jn:Ss:=(.cons (.ifs (.or (.prim .eq (.cons (.prim .len (.cons (.var 3) .nil)) (.cons (.int 0) .nil))) (.prim .gt (.cons (.var 4) (.cons (.prim .idx (.cons (.var 3) (.cons (.prim .neg (.cons (.int 1) .nil)) .nil))) .nil)))) (.cons (.app 2 (.prim .add (.cons (.var 3) (.cons (.lst (.cons (.var 4) .nil)) .nil))))
  .nil) .nil)
  .nil)
noncomputable def km:Ss:=(.cons (.forV 4 0 Jn)
  .nil)
noncomputable def Jo:Ss:=(.cons (.asg 2 (.lst .nil))
  (.cons (.forV 3 1 km)
  (.cons (.retV 2)
  .nil)))
noncomputable def kn:Ss:=(.cons (.ifs (.call 69 (.cons (.var 0) (.cons (.var 1) (.cons (.var 2) (.cons (.var 4) .nil))))) (.cons (.retV 4)
  .nil) .nil)
  .nil)
noncomputable def ko:Ss:=(.cons (.forV 4 3 kn)
  (.cons (.asg 3 (.call 70 (.cons (.var 0) (.cons (.var 3) .nil))))
  .nil))
noncomputable def YJ:Ss:=(.cons (.expr (.call 6 (.cons (.var 0) .nil)))
  (.cons (.expr (.call 7 (.cons (.var 1) .nil)))
  (.cons (.expr (.call 61 (.cons (.var 0) (.cons (.int 9) .nil))))
  (.cons (.ifs (.not (.call 0 (.cons (.var 2) (.cons (.int 0) (.cons (.int 1) .nil))))) (.cons .stop
  .nil) .nil)
  (.cons (.asg 3 (.lst (.cons (.lst .nil) .nil)))
  (.cons (.while_ (.prim .lt (.cons (.prim .mul (.cons (.int 2) (.cons (.prim .len (.cons (.prim .idx (.cons (.var 3) (.cons (.int 0) .nil))) .nil)) .nil))) (.cons (.prim .len (.cons (.var 0) .nil)) .nil))) ko)
  (.cons (.ret .non)
  .nil)))))))
noncomputable def zao:Ss:=(.cons .stop .nil)
noncomputable def zap:Ss:=(.cons .stop .nil)
noncomputable def Jp:Ss:=(.cons (.asg 2 (.lst (.cons (.call 12 (.cons (.var 0) (.cons (.var 1) (.cons (.prim .idx (.cons (.var 0) (.cons (.int 0) .nil))) .nil)))) (.cons (.call 31 (.cons (.var 0) (.cons (.var 1) .nil))) (.cons (.call 25 (.cons (.var 0) (.cons (.var 1) .nil))) (.cons (.call 43 (.cons (.var 0) (.cons (.var 1) .nil))) .nil))))))
  (.cons (.asg 2 (.prim .add (.cons (.var 2) (.cons (.lst (.cons (.call 44 (.cons (.var 0) (.cons (.var 1) .nil))) (.cons (.call 45 (.cons (.var 0) (.cons (.var 1) .nil))) (.cons (.prim .idx (.cons (.call 47 (.cons (.var 0) (.cons (.var 1) .nil))) (.cons (.int 1) .nil))) .nil)))) .nil))))
  (.cons (.app 2 (.call 26 (.cons (.var 0) (.cons (.var 1) (.cons (.prim .idx (.cons (.var 0) (.cons (.int 0) .nil))) (.cons (.prim .idx (.cons (.var 0) (.cons (.int 0) .nil))) .nil))))))
  (.cons (.asg 3 (.lst (.cons (.call 67 (.cons (.var 0) (.cons (.var 1) .nil))) (.cons (.call 68 (.cons (.var 0) (.cons (.var 1) .nil))) (.cons (.call 71 (.cons (.var 0) (.cons (.var 1) (.cons (.int 1) .nil)))) .nil)))))
  (.cons (.ret (.prim .add (.cons (.var 2) (.cons (.comp false (.cons (.var 3) .nil) (.prim .notN (.cons (.var 0) .nil)) (.var 0)) .nil))))
  .nil)))))
noncomputable def Jq:Ss:=(.cons (.asg 1 (.call 15 (.cons (.var 0) (.cons (.int 2) (.cons (.int 9) .nil)))))
  (.cons (.asg 2 (.call 16 (.cons (.call 13 (.cons (.var 0) (.cons (.int 0) .nil))) .nil)))
  (.cons (.wipe 80)
  (.cons (.ret (.and (.prim .eq (.cons (.call 80 (.cons (.var 1) (.cons (.var 2) .nil))) (.cons (.var 4) .nil))) (.and (.prim .eq (.cons (.prim .idx (.cons (.var 4) (.cons (.int 7) .nil))) (.cons (.lst (.cons (.prim .idx (.cons (.var 1) (.cons (.int 0) .nil))) .nil)) .nil))) (.prim .eq (.cons (.prim .add (.cons (.prim .len (.cons (.prim .idx (.cons (.var 4) (.cons (.int 4) .nil))) .nil)) (.cons (.prim .len (.cons (.prim .idx (.cons (.var 4) (.cons (.int 5) .nil))) .nil)) .nil))) (.cons (.prim .len (.cons (.var 1) .nil)) .nil))))))
  .nil))))
noncomputable def U:Nat->Option Fn
 |0=>some ⟨3,3,Vt,[],none⟩
 |1=>some ⟨1,1,Vu,[],none⟩
 |2=>some ⟨1,1,Vv,[],none⟩
 |3=>some ⟨1,1,Vw,[],none⟩
 |4=>some ⟨1,1,Vx,[],none⟩
 |5=>some ⟨1,1,Vy,[],none⟩
 |6=>some ⟨1,1,Vz,[],none⟩
 |7=>some ⟨1,1,VA,[],none⟩
 |8=>some ⟨2,2,VB,[],none⟩
 |9=>some ⟨2,2,VC,[],none⟩
 |10=>some ⟨3,3,VD,[],none⟩
 |11=>some ⟨3,3,VE,[],none⟩
 |12=>some ⟨3,3,VF,[],none⟩
 |13=>some ⟨2,2,VG,[],none⟩
 |14=>some ⟨3,3,VH,[],none⟩
 |15=>some ⟨3,13,VJ,[],none⟩
 |16=>some ⟨1,2,VL,[],none⟩
 |20=>some ⟨3,8,VM,[],none⟩
 |21=>some ⟨1,1,VN,[],none⟩
 |22=>some ⟨1,2,VO,[],none⟩
 |23=>some ⟨2,5,VP,[],none⟩
 |24=>some ⟨3,3,VQ,[],none⟩
 |25=>some ⟨2,2,VS,[],none⟩
 |26=>some ⟨4,6,VT,[],none⟩
 |30=>some ⟨2,6,VV,[],none⟩
 |31=>some ⟨2,2,VW,[],none⟩
 |37=>some ⟨5,6,YD,[2,4],none⟩
 |38=>some ⟨2,4,VX,[],none⟩
 |39=>some ⟨2,2,VY,[],none⟩
 |40=>some ⟨4,10,Ja,[],none⟩
 |41=>some ⟨4,4,YF,[],none⟩
 |42=>some ⟨3,4,Jb,[],none⟩
 |43=>some ⟨2,2,Jc,[],none⟩
 |44=>some ⟨2,2,Jd,[],none⟩
 |45=>some ⟨2,2,Je,[],none⟩
 |47=>some ⟨2,5,Jf,[],none⟩
 |61=>some ⟨2,2,Jg,[],none⟩
 |62=>some ⟨3,3,Jh,[],none⟩
 |63=>some ⟨2,4,Ji,[],none⟩
 |64=>some ⟨2,6,Jj,[],none⟩
 |65=>some ⟨2,3,Jk,[],none⟩
 |66=>some ⟨4,9,YH,[],none⟩
 |67=>some ⟨2,4,Jl,[],none⟩
 |68=>some ⟨2,3,YI,[],none⟩
 |69=>some ⟨4,6,Jm,[],none⟩
 |70=>some ⟨2,5,Jo,[],none⟩
 |71=>some ⟨3,5,YJ,[],none⟩
 |78=>some ⟨1,1,zao,[],none⟩
 |79=>some ⟨1,2,zap,[],none⟩
 |80=>some ⟨2,4,Jp,[],none⟩
 |81=>some ⟨1,6,Jq,[],none⟩
 |_=>none
theorem U0:U 0=some ⟨3,3,Vt,[],none⟩:=rfl
theorem U1:U 1=some ⟨1,1,Vu,[],none⟩:=rfl
theorem U2:U 2=some ⟨1,1,Vv,[],none⟩:=rfl
theorem U3:U 3=some ⟨1,1,Vw,[],none⟩:=rfl
theorem U4:U 4=some ⟨1,1,Vx,[],none⟩:=rfl
theorem U5:U 5=some ⟨1,1,Vy,[],none⟩:=rfl
theorem U6:U 6=some ⟨1,1,Vz,[],none⟩:=rfl
theorem U7:U 7=some ⟨1,1,VA,[],none⟩:=rfl
theorem U8:U 8=some ⟨2,2,VB,[],none⟩:=rfl
theorem U9:U 9=some ⟨2,2,VC,[],none⟩:=rfl
theorem zlS:U 10=some ⟨3,3,VD,[],none⟩:=rfl
theorem zlT:U 11=some ⟨3,3,VE,[],none⟩:=rfl
theorem zlU:U 12=some ⟨3,3,VF,[],none⟩:=rfl
theorem zlV:U 13=some ⟨2,2,VG,[],none⟩:=rfl
theorem zlW:U 14=some ⟨3,3,VH,[],none⟩:=rfl
theorem zlX:U 15=some ⟨3,13,VJ,[],none⟩:=rfl
theorem zlY:U 16=some ⟨1,2,VL,[],none⟩:=rfl
theorem zlZ:U 20=some ⟨3,8,VM,[],none⟩:=rfl
theorem zl0:U 21=some ⟨1,1,VN,[],none⟩:=rfl
theorem zl1:U 22=some ⟨1,2,VO,[],none⟩:=rfl
theorem zl2:U 23=some ⟨2,5,VP,[],none⟩:=rfl
theorem zl3:U 24=some ⟨3,3,VQ,[],none⟩:=rfl
theorem zl4:U 25=some ⟨2,2,VS,[],none⟩:=rfl
theorem zl5:U 26=some ⟨4,6,VT,[],none⟩:=rfl
theorem zl6:U 30=some ⟨2,6,VV,[],none⟩:=rfl
theorem zl7:U 31=some ⟨2,2,VW,[],none⟩:=rfl
theorem zl8:U 37=some ⟨5,6,YD,[2,4],none⟩:=rfl
theorem zl9:U 38=some ⟨2,4,VX,[],none⟩:=rfl
theorem zma:U 39=some ⟨2,2,VY,[],none⟩:=rfl
theorem zmb:U 40=some ⟨4,10,Ja,[],none⟩:=rfl
theorem zmc:U 41=some ⟨4,4,YF,[],none⟩:=rfl
theorem zmd:U 42=some ⟨3,4,Jb,[],none⟩:=rfl
theorem zme:U 43=some ⟨2,2,Jc,[],none⟩:=rfl
theorem zmf:U 44=some ⟨2,2,Jd,[],none⟩:=rfl
theorem zmg:U 45=some ⟨2,2,Je,[],none⟩:=rfl
theorem zmh:U 47=some ⟨2,5,Jf,[],none⟩:=rfl
theorem zmi:U 61=some ⟨2,2,Jg,[],none⟩:=rfl
theorem zmj:U 62=some ⟨3,3,Jh,[],none⟩:=rfl
theorem zmk:U 63=some ⟨2,4,Ji,[],none⟩:=rfl
theorem zml:U 64=some ⟨2,6,Jj,[],none⟩:=rfl
theorem zmm:U 65=some ⟨2,3,Jk,[],none⟩:=rfl
theorem zmn:U 66=some ⟨4,9,YH,[],none⟩:=rfl
theorem zmo:U 67=some ⟨2,4,Jl,[],none⟩:=rfl
theorem zmp:U 68=some ⟨2,3,YI,[],none⟩:=rfl
theorem zmq:U 69=some ⟨4,6,Jm,[],none⟩:=rfl
theorem zmr:U 70=some ⟨2,5,Jo,[],none⟩:=rfl
theorem zms:U 71=some ⟨3,5,YJ,[],none⟩:=rfl
theorem zmt:U 80=some ⟨2,4,Jp,[],none⟩:=rfl
theorem zmu:U 81=some ⟨1,6,Jq,[],none⟩:=rfl
end LK
namespace LK
open L2.LW
noncomputable def zh:Nat:=100000
noncomputable abbrev call(n i:Nat)(ds:List D):Option SV:=zv U zh n i ds
theorem zX{n i:Nat}{F:Fn}{ds:List D}(h:U i=some F)(hl:ds.length=F.np)(hio:F.io=[]:=by rfl)(hx:F.xb=none:=by rfl):
  zv U zh (n+1) i ds=Yz (zr (zC U zh n) zh F.body (ds.map (fun d=>some (.val d))++List.replicate (F.nl-F.np) none)):=zlG h hl hio hx
noncomputable abbrev zb:=Int×Int
noncomputable def cD(c:zb):D:=.tup [.int c.1,.int c.2]
noncomputable def fD(f:List zb):D:=.tup (f.map cD)
noncomputable def lD(f:List zb):D:=.lst (f.map cD)
@[simp] theorem zup{c:zb}:plain (cD c)=true:=by simp[cD]
@[simp] theorem zer: ∀{l:List zb},yX (l.map cD)=true
 |[]=>by simp
 |c::r=>by simp[zer (l:=r)]
@[simp] theorem zmv{f:List zb}:plain (fD f)=true:=by simp[fD]
@[simp] theorem kq{c:zb}{n:Nat}:zx (n+1) (cD c)=true:=by simp[cD,zx]
@[simp] theorem zaq{n:Nat}{l:List zb}:(l.map cD).all (zx (n+1))=true:=by
 rw[List.all_map,List.all_eq_true];intro x _;exact kq
@[simp] theorem YK{a b:zb}:zH (cD a) (cD b)=decide (a=b):=by
 rw[Bool.eq_iff_iff];obtain⟨a1,a2⟩:=a;obtain⟨b1,b2⟩:=b;simp[cD,zH,yW]
@[simp] theorem zmw: ∀{a b:List zb},yW (a.map cD) (b.map cD)=decide (a=b)
 |[],[]=>by simp[yW]
 |[],_::_=>by simp[yW]
 |_::_,[]=>by simp[yW]
 |x::xs,y::ys=>by
  rw[Bool.eq_iff_iff];simp[yW,zmw (a:=xs) (b:=ys)]
@[simp] theorem zar{c:zb}{l:List zb}:((l.map cD).any fun y=>zH y (cD c))=decide (c∈l):=by
 rw[Bool.eq_iff_iff];simp[List.any_map,List.any_eq_true]
theorem kr(n:Nat)(i a b:Int):zv U zh (n+1) 0 [.int i,.int a,.int b]=some (.val (.bl (decide (a<=i)&&decide (i<=b)))):=by
 rw[zX U0 rfl];simp[Vt];by_cases h:a<=i<;>simp[h]
theorem zes(n:Nat)(c:zb):zv U zh (n+1) 1 [cD c]=some (.val (.bl true)):=by
 rw[zX U1 rfl];simp[Vu,cD]
noncomputable def jP(c:zb):Prop:=0<=c.1/\c.1<=7/\0<=c.2/\c.2<=7
theorem zet(n:Nat){c:zb}(h:jP c):zv U zh (n+2) 2 [cD c]=some (.val (.bl true)):=by
 rw[zX U2 rfl];obtain⟨h1,h2,h3,h4⟩:=h;have h0:=zes n c;simp[Vv,h0,kr];simp[cD,kr,h1,h2,h3,h4]
noncomputable def yi(a b:zb):Prop:=a.1<b.1\/(a.1=b.1/\a.2<b.2)
noncomputable instance (a b:zb):Decidable (yi a b):=by unfold yi;exact inferInstance
@[simp] theorem zmx{a b:zb}:zg .lt [cD a,cD b]=some (.val (.bl (decide (yi a b)))):=by
 simp only[cD,zg,Xu,ints?,Option.map_some,Option.bind_some,yG,lexLt]
 congr 3
 rw[Bool.eq_iff_iff];simp only[yi];by_cases h:a.1=b.1
 ·simp[h]
  by_cases h2:a.2=b.2
  ·simp[h2]
  ·simp[h2]
 ·simp[h]
theorem zmy{a b c:zb}(h:yi a b)(h':yi b c):yi a c:=by
 unfold yi at*;omega
theorem zmz{a:zb}: ¬yi a a:=by unfold yi;omega
theorem zmA{a b:zb}(h:a≠b):yi a b\/yi b a:=by
 unfold yi
 have:a.1≠b.1\/a.2≠b.2:=by
  by_cases h1:a.1=b.1
  ·right;intro h2;exact h (Prod.ext h1 h2)
  ·exact .inl h1
 omega
structure OkF (f:List zb):Prop where
 ne:f≠[]
 len:f.length<=24
 cells: ∀c∈f,jP c
 rise:f.Pairwise yi
theorem OkF.nodup{f:List zb}(h:f.Pairwise yi):f.Nodup:=h.imp fun hab e=>by subst e;exact zmz hab
theorem yA:(100000:Nat)<=line:=by decide
theorem zeu{α:Type}{f:α->Bool}: ∀{l:List α},bools? (l.map fun x=>D.bl (f x))=some (l.map f)
 |[]=>rfl
 |x::r=>by simp[bools?,zeu (l:=r)]
theorem zev{α:Type}{f:α->Bool}{l:List α}:zg .all [.lst (l.map fun x=>D.bl (f x))]=some (.val (.bl (l.all f))):=by
 simp[zg,Qg,zeu,List.all_map,Function.comp_def]
theorem zmB(n:Nat){l:zb}(h:0<=l.1/\l.1<=l.2/\1<=l.2/\l.2<=4):zv U zh (n+2) 3 [cD l]=some (.val (.bl true)):=by
 rw[zX U3 rfl];obtain⟨h1,h2,h3,h4⟩:=h;have h0:=zes n l;simp[Vw,h0];simp[cD,kr,h1,h2,h3,h4]
theorem Zy{i:Int}(h:0<=i)(h':i<=1000000):vA i:=by unfold vA;omega
theorem zew{a b:Int}(h:vA a/\vA b):yy true [.val (.int a),.val (.int b)]=some ((List.range (b-a).toNat).map fun (k:Nat)=>D.int (a+(k:Int))):=by simp[yy,h]
theorem zas{a:Int}(h:vA a):yy true [.val (.int a)]=some ((List.range a.toNat).map fun (k:Nat)=>D.int (0+(k:Int))):=by simp[yy,h]
@[simp] theorem zuq{o:Bool}{l:List D}:yy false [.obj o (.lst l)]=some l:=id rfl
theorem zat{f:List zb}{k:Nat}(h:k<f.length):zg .idx [fD f,.int (k:Int)]=some (.val (cD f[k])):=by
 rw[fD,zlN,atI_nat (by simpa using h)];simp
theorem zmC(n:Nat){f:List zb}(hl:f.length<=1000)(h:f.Pairwise yi):zv U zh (n+1) 4 [fD f]=some (.val (.bl true)):=by
 rw[zX U4 rfl];have hl':=yA;have e3:((f.length:Int)-1).toNat=f.length-1:=by omega
 simp only[Vx];simp;rw[zal (rs:=[.val (.int 1),.val (.int f.length)]) (xs:=List.range (f.length-1)) (f:=fun (k:Nat)=>D.int (1+(k:Int))) (fun _=>.bl true)]
 ·simp[zev]
 ·simp[fD]
 ·rw[zew ⟨Zy (by omega) (by omega),Zy (by omega) (by omega)⟩,e3]
 ·simp;omega
 ·intro k hk
  rw[List.mem_range] at hk;have e1:(1+(k:Int)-1)=(k:Int):=by omega
  have e2:(1+(k:Int))=((k+1:Nat):Int):=by omega
  have hk1:k<f.length:=by omega
  have hk2:k+1<f.length:=by omega
  have:=List.pairwise_iff_getElem.mp h k (k+1) hk1 hk2 (by omega);simp[e1];rw[zat hk1,e2,zat hk2];simp[this]
@[simp] theorem zur{f:List zb}:wZ .tuple (fD f)=true:=id rfl
theorem jQ{f:List zb}:zg .len [fD f]=some (.val (.int f.length)):=by simp[fD]
theorem zmD(n:Nat){f:List zb}(h:OkF f):zv U zh (n+3) 5 [fD f]=some (.val (.bl true)):=by
 rw[zX U5 rfl];have hl':=yA;have h1:=h.len;have h2:1<=f.length:=by have:=h.ne;cases f<;>simp_all
 have hr:=zmC (n+1) (by omega) h.rise;simp -implicitDefEqProofs only[Vy];simp -implicitDefEqProofs [jQ,show (1:Int)<=f.length by omega,show (f.length:Int)<=24 by omega,hr];rw[zal (rs:=[.val (fD f)]) (xs:=f) (f:=cD) (fun _=>.bl true)]
 ·simp -implicitDefEqProofs [zev,fD]
 ·simp
 ·rfl
 ·omega
 ·intro c hc
  simp -implicitDefEqProofs [zet n (h.cells c hc)]
theorem vJ(n:Nat){f:List zb}(h:OkF f):zv U zh (n+4) 6 [fD f]=some (.val (fD f)):=by
 rw[zX U6 rfl];simp[Vz,zmD n h]
structure OkL (l:zb):Prop where
 a:0<=l.1
 b:l.1<=l.2
 c:1<=l.2
 d:l.2<=4
theorem vK(n:Nat){l:zb}(h:OkL l):zv U zh (n+3) 7 [cD l]=some (.val (cD l)):=by
 rw[zX U7 rfl];simp[VA,zmB n ⟨h.a,h.b,h.c,h.d⟩]
theorem zmE{c:zb}{f:List zb}:zg .nin [cD c,fD f]=some (.val (.bl (!decide (c∈f)))):=by
 simp only[fD,zg,ja,kq,zaq,Bool.and_self,if_true,zar,yG]
theorem zmF{c:zb}{f:List zb}:zg .inn [cD c,lD f]=some (.val (.bl (decide (c∈f)))):=by
 simp only[lD,zg,ZW,kq,zaq,Bool.and_self,if_true,zar,yG]
theorem ku{c:zb}{f:List zb}:zg .nin [cD c,lD f]=some (.val (.bl (!decide (c∈f)))):=by
 simp only[lD,zg,ja,kq,zaq,Bool.and_self,if_true,zar,yG]
theorem zex(n:Nat){f:List zb}{c:zb}(h:jP c)(hc:c∈f):zv U zh (n+3) 8 [fD f,cD c]=some (.val (cD c)):=by
 rw[zX U8 rfl];simp[VB,zet n h,zmE,hc]
noncomputable def xP(i:Int):Int:=if i<0 then -i else i
noncomputable def ym(l a b:zb):Bool:=decide ((min (xP (a.1-b.1)) (xP (a.2-b.2)),max (xP (a.1-b.1)) (xP (a.2-b.2)))=l)
theorem kw(a b:Int):xP (a-b)=xP (b-a):=by unfold xP;split<;>split<;>omega
theorem YL(l a b:zb):ym l a b=ym l b a:=by unfold ym;rw[kw a.1,kw a.2]
@[simp] theorem zus{c:zb}:zg .idx [cD c,.int 0]=some (.val (.int c.1)):=id rfl
@[simp] theorem zut{c:zb}:zg .idx [cD c,.int 1]=some (.val (.int c.2)):=id rfl
theorem zmG{a b:zb}:zg .eq [cD a,cD b]=some (.val (.bl (decide (a=b)))):=by rw[YA (by simp) (by simp),YK]
noncomputable def zau(x y:Int):zb:=(min (xP x) (xP y),max (xP x) (xP y))
theorem zmH(n:Nat)(x y:Int):zv U zh (n+1) 9 [.int x,.int y]=some (.val (cD (zau x y))):=by
 rw[zX U9 rfl]
 have e: ∀x y:Int,D.tup [.int (if y<x then y else x),.int (if y>x then y else x)]=cD (min x y,max x y):=by
  intro x y;have e1:(if y<x then y else x)=min x y:=by split<;>omega
  have e2:(if y>x then y else x)=max x y:=by split<;>omega
  rw[e1,e2];rfl
 simp[VC, -zel, -zem];simp only[zel,zem,Option.bind_some,xT,toD,Option.map_some,Function.comp_apply];simp;rw[e];rfl
theorem zmI(l a b:zb):decide (zau (b.1-a.1) (b.2-a.2)=l)=ym l a b:=by
 unfold ym zau;rw[kw a.1,kw a.2]
theorem zey(n:Nat)(l a b:zb):zv U zh (n+2) 10 [cD l,cD a,cD b]=some (.val (.bl (ym l a b))):=by
 rw[zX zlS rfl];simp[VD,zmH,zmG,zmI]
theorem zez(n:Nat)(l c:zb){f:List zb}{F:D}(hF:xS F=some (f.map cD))(h:f.length<=1000):zv U zh (n+3) 11 [F,cD l,cD c]=some (.obj true (.lst ((f.filter (ym l c)).map cD))):=by
 rw[zX zlT rfl];have hl':=yA;simp only[VE];simp;rw[vI (rs:=[.val F]) (xs:=f) (f:=cD) (ym l c) cD]
 ·simp
 ·simp
 ·exact hF
 ·omega
 ·intro x _;simp[zey]
 ·intro x _ _;simp
theorem zav(n:Nat)(l c:zb){f:List zb}(h:f.length<=1000):zv U zh (n+3) 11 [fD f,cD l,cD c]=some (.obj true (.lst ((f.filter (ym l c)).map cD))):=zez n l c rfl h
theorem zmJ(n:Nat){l c:zb}{f:List zb}(h:OkF f)(hl:OkL l)(hc:c∈f):zv U zh (n+5) 12 [fD f,cD l,cD c]=some (.obj true (.lst ((f.filter (ym l c)).map cD))):=by
 rw[zX zlU rfl];have h1:=h.len;simp[VF,vJ n h,vK (n+1) hl,zex (n+1) (h.cells c hc) hc,zav (n+1) l c (by omega:f.length<=1000)]
end LK
namespace LK
open L2.LW
noncomputable def sm(a:Int):Prop:= -(2 ^ 64)<a/\a<2 ^ 64
theorem zaw{a:Int}(h: -1000000<=a)(h':a<=1000000):sm a:=by unfold sm;omega
theorem zax{a b:Int}(h:sm b):zg .mul [.int a,.int b]=some (.val (.int (a*b))):=zlJ h
noncomputable def sD(ns:List Int):D:=.lst (ns.map D.int)
noncomputable def Zz(ns:List Int)(k:Int):Int:=ns.getD k.toNat 0
theorem Jr(n:Nat)(ns:List Int){k:Int}(h:0<=k):zv U zh (n+1) 13 [sD ns,.int k]=some (.val (.int (Zz ns k))):=by
 rw[zX zlV rfl];obtain⟨j,rfl⟩:=Int.eq_ofNat_of_zero_le h;simp only[VG];by_cases hj:j<ns.length
 ·have hj':(j:Int)<(ns.length:Int):=by omega
  simp[sD,hj'];rw[YB,atI_nat (by simpa using hj)];simp[Zz,hj]
 ·have hj': ¬(j:Int)<(ns.length:Int):=by omega
  simp[sD,hj'];simp[Zz,List.getElem?_eq_none (by omega:ns.length<=j)]
theorem ZA(n:Nat)(x:Int){p m:Int}(h:0<p)(h':0<m):zv U zh (n+1) 14 [.int x,.int p,.int m]=some (.val (.int (x*48271%p%m))):=by
 rw[zX zlW rfl];simp[VH,zax (zaw (a:=48271) (by decide) (by decide)),jN h,jN h']
structure Built (down right wide:Int)(r k:Int)(fs:List zb):Prop where
 rise:fs.Pairwise yi
 at_: ∀x∈fs,down<=x.1/\right<=x.2/\x.2<right+wide/\(x.1<down+r\/(x.1=down+r/\x.2<right+k))
theorem Built.next{down right wide r k:Int}{fs:List zb}(b:Built down right wide r k fs)(hk:0<=k)(hw:k<wide)(hr:0<=r):Built down right wide r (k+1) (fs++[(down+r,right+k)]):=by
 refine⟨?_,fun x hx=>?_⟩
 ·rw[List.pairwise_append]
  refine⟨b.rise,by simp,fun x hx y hy=>?_⟩;simp only[List.mem_singleton] at hy;subst hy;have:=b.at_ x hx;unfold yi;simp only;omega
 ·rw[List.mem_append,List.mem_singleton] at hx
  rcases hx with hx|rfl
  ·have:=b.at_ x hx;omega
  ·show down<=down+r/\right<=right+k/\right+k<right+wide/\(down+r<down+r\/(down+r=down+r/\right+k<right+(k+1)))
   omega
theorem Built.skip{down right wide r k:Int}{fs:List zb}(b:Built down right wide r k fs):Built down right wide r (k+1) fs:=
 ⟨b.rise,fun x hx=>by have:=b.at_ x hx;omega⟩
theorem Built.row{down right wide r:Int}{fs:List zb}(b:Built down right wide r wide fs):Built down right wide (r+1) 0 fs:=
 ⟨b.rise,fun x hx=>by have:=b.at_ x hx;omega⟩
theorem zmK(a b c:D){w:Int}(h:w=0\/w=1\/w=2): ∃d,(d=a\/d=b\/d=c)/\zg .idx [.lst [a,b,c],.int w]=some (.val d):=by
 rcases h with rfl|rfl|rfl
 ·exact⟨a,.inl rfl,rfl⟩
 ·exact⟨b,.inr (.inl rfl),rfl⟩
 ·exact⟨c,.inr (.inr rfl),rfl⟩
@[simp] theorem zuu{fs:List zb}{a b:Int}:fs.map cD++[.tup [.int a,.int b]]=(fs++[(a,b)]).map cD:=by simp[cD]
theorem zmL(n:Nat)(ns:List Int){at_ most x rows wide down right way r k:Int}{j12:Option SV}{fs:List zb}(h0:0<=at_)(hr:0<=r/\r<=1000)(hk:0<=k/\k<=1000)(hw:0<=way/\way<4)(hl:fs.length<=1000)(hj:zB (some j12)=true):
  ∃v fs',zB (some v)=true/\zr (zC U zh (n+1)) zh ka [some (.val (sD ns)),some (.val (.int at_)),some (.val (.int most)),some (.val (.int x)),some (.val (.int rows)),some (.val (.int wide)),some (.val (.int down)),some (.val (.int right)),some (.val (.int way)),
   some (.obj true (.lst (fs.map cD))),some (.val (.int r)),some (.val (.int k)),j12]=
   some (.nx,[some (.val (sD ns)),some (.val (.int at_)),some (.val (.int most)),some (.val (.int x)),some (.val (.int rows)),some (.val (.int wide)),some (.val (.int down)),some (.val (.int right)),some (.val (.int way)),
   some (.obj true (.lst (fs'.map cD))),some (.val (.int r)),some (.val (.int k)),v])/\(fs'=fs\/fs'=fs++[(down+r,right+k)]):=by
 have m1:sm r:=zaw (by omega) (by omega);have m2:sm k:=zaw (by omega) (by omega);have h7:(0:Int)<7:=by decide
 have hi:0<=at_+2+(r+2*k)%7:=by omega
 have hl':=yA;have hl2:fs.length<line:=by omega
 simp only[ka];simp[zax m1,zax m2,jN h7,Jr n ns hi,hj];by_cases hz:way=0
 ·simp[hz,hl2]
  exact⟨_,yS,fs++[(down+r,right+k)],by simp;rfl,.inr rfl⟩
 ·obtain⟨d,hd,e⟩:=zmK (.int 2) (.int 4) (.int 7) (w:=way-1) (by omega)
  simp[hz,e]
  have key: ∃m,d= .int m/\0<m:=by
   rcases hd with rfl|rfl|rfl
   ·exact⟨_,rfl,by decide⟩
   ·exact⟨_,rfl,by decide⟩
   ·exact⟨_,rfl,by decide⟩
  obtain⟨m,rfl,hm⟩:=key;simp[ZA n _ (show (0:Int)<9931 by decide) hm];split
  ·simp[hl2]
   exact⟨_,yS,fs++[(down+r,right+k)],by simp;rfl,.inr rfl⟩
  ·exact⟨_,yS,fs,rfl,.inl rfl⟩
noncomputable def wE(ns:List Int)(at_ most x rows wide down right way:Int)(fs:List zb)(a b c:Option SV):Env:=
 [some (.val (sD ns)),some (.val (.int at_)),some (.val (.int most)),some (.val (.int x)),some (.val (.int rows)),some (.val (.int wide)),some (.val (.int down)),some (.val (.int right)),some (.val (.int way)),some (.obj true (.lst (fs.map cD))),a,b,c]
theorem zmM(n:Nat)(ns:List Int){at_ most x rows wide down right way:Int}{r:Nat}{fs:List zb}{b c:Option SV}(h0:0<=at_)(hr:r<=100)(hw:0<=wide/\wide<=6)(hy:0<=way/\way<4)(hl:fs.length<=6*r)(hb:Built down right wide r 0 fs)(fb:zB (some b)=true)(fc:zB (some c)=true):
  ∃a' b' c' fs',(zB (some a')=true/\zB (some b')=true/\zB (some c')=true)/\zr (zC U zh (n+1)) zh VI (wE ns at_ most x rows wide down right way fs (some (.val (.int r))) b c)=some (.nx,wE ns at_ most x rows wide down right way fs' a' b' c')/\fs'.length<=6*(r+1)/\Built down right wide (r+1:Nat) 0 fs':=by
 obtain⟨ρ',h1,b',c',fs',fr,rfl,h2,h3⟩:=zep (i:=11) (a:=0) (m:=wide.toNat) (body:=zr (zC U zh (n+1)) zh ka)
  (fun k ρ=>∃b' c' fs',(zB (some b')=true/\zB (some c')=true)/\ρ=wE ns at_ most x rows wide down right way fs' (some (.val (.int r))) b' c'/\fs'.length<=6*r+k/\Built down right wide r (k:Int) fs') (ρ:=wE ns at_ most x rows wide down right way fs (some (.val (.int r))) b c)
  ⟨b,c,fs,⟨fb,fc⟩,rfl,by omega,hb⟩ fun k ρ hk zz3=>by
   obtain⟨b',c',fs',fr,e,h2,h3⟩:=zz3;subst e;obtain⟨v,fs2,fv,e1,e2⟩:=zmL n ns (at_:=at_) (most:=most) (x:=x) (rows:=rows) (wide:=wide) (down:=down) (right:=right) (way:=way) (r:=r) (k:=0+(k:Int)) (j12:=c') (fs:=fs') h0 (by omega) (by omega) hy (by omega) fr.2;refine⟨_,_,e1,.inl rfl,_,v,fs2,⟨yS,fv⟩,rfl,?_⟩;rw[Int.zero_add] at e2;rcases e2 with rfl|rfl
   ·exact⟨by omega,h3.skip⟩
   ·exact⟨by simp;omega,h3.next (by omega) (by omega) (by omega)⟩
 refine⟨some (.val (.int r)),b',c',fs',⟨yS,fr.1,fr.2⟩,?_,by omega,?_⟩
 ·simp only[VI,Yy,jj,zai,zah,zea,zec]
  rw[show (wE ns at_ most x rows wide down right way fs (some (.val (.int r))) b c)[11]? =some b from rfl,fb,show look (wE ns at_ most x rows wide down right way fs (some (.val (.int r))) b c) 5=some (.val (.int wide)) from rfl];simp[zas (Zy hw.1 (by omega:wide<=1000000))];rw[show (List.map (fun (k:Nat)=>D.int (k:Int)) (List.range wide.toNat))=(List.range wide.toNat).map fun (k:Nat)=>D.int (0+(k:Int)) by simp,h1];simp
 ·have e:(wide.toNat:Int)=wide:=by omega
  rw[e] at h3;have:=h3.row;simpa using this
theorem zmN(n:Nat)(ns:List Int){at_ most x rows wide down right way:Int}{a b c:Option SV}(h0:0<=at_)(hr:0<=rows/\rows<=5)(hw:0<=wide/\wide<=6)(hy:0<=way/\way<4)(fa:zB (some a)=true)(fb:zB (some b)=true)(fc:zB (some c)=true):
  ∃a' b' c' fs',zF (zC U zh (n+1)) zh (.for_ 10 true (.cons (.var 4) .nil) VI) (wE ns at_ most x rows wide down right way [] a b c)=some (.nx,wE ns at_ most x rows wide down right way fs' a' b' c')/\Built down right wide rows 0 fs'/\fs'.length<=30:=by
 obtain⟨ρ',h1,a',b',c',fs',fr,rfl,h2,h3⟩:=zep (i:=10) (a:=0) (m:=rows.toNat) (body:=zr (zC U zh (n+1)) zh VI)
  (fun k ρ=>∃a' b' c' fs',(zB (some a')=true/\zB (some b')=true/\zB (some c')=true)/\ρ=wE ns at_ most x rows wide down right way fs' a' b' c'/\fs'.length<=6*k/\Built down right wide (k:Int) 0 fs') (ρ:=wE ns at_ most x rows wide down right way [] a b c)
  ⟨a,b,c,[],⟨fa,fb,fc⟩,rfl,by simp,⟨by simp,by simp⟩⟩ fun k ρ hk zz3=>by
   obtain⟨a',b',c',fs',fr,e,h2,h3⟩:=zz3;subst e;obtain⟨a2,b2,c2,fs2,fr2,e1,e2,e3⟩:=zmM n ns (at_:=at_) (most:=most) (x:=x) (rows:=rows) (wide:=wide) (down:=down) (right:=right) (way:=way) (r:=k) (fs:=fs') (b:=b') (c:=c') h0 (by omega) hw hy h2 h3 fr.2.1 fr.2.2;refine⟨_,_,?_,.inl rfl,a2,b2,c2,fs2,fr2,rfl,e2,e3⟩;rw[Int.zero_add];exact e1
 refine⟨a',b',c',fs',?_,?_,by omega⟩
 ·simp only[jj,zai,zah,zea,zec]
  rw[show (wE ns at_ most x rows wide down right way [] a b c)[10]? =some a from rfl,fa,show look (wE ns at_ most x rows wide down right way [] a b c) 4=some (.val (.int rows)) from rfl];simp[zas (Zy hr.1 (by omega:rows<=1000000))];rw[show (List.map (fun (k:Nat)=>D.int (k:Int)) (List.range rows.toNat))=(List.range rows.toNat).map fun (k:Nat)=>D.int (0+(k:Int)) by simp,h1]
 ·have e:(rows.toNat:Int)=rows:=by omega
  rw[e] at h3;exact h3
theorem zeA{fs:List zb}{k:Int}(h:0<=k):zg .cutTo [.lst (fs.map cD),.int k]=some (.obj true (.lst ((fs.take k.toNat).map cD))):=by
 simp[zg,Qh,h]
noncomputable def zmO(f:List zb):Prop:=∃d:Int,∀c∈f,d<=c.1/\c.1<d+5
theorem zmP(n:Nat)(ns:List Int){at_ most:Int}(h0:0<=at_)(hm:1<=most)(hm2:most<=24): ∃f,OkF f/\(f.length:Int)<=most/\zmO f/\zv U zh (n+2) 15 [sD ns,.int at_,.int most]=some (.val (fD f)):=by
 rw[zX zlX rfl];simp only[VJ];have p5:(0:Int)<5:=by decide
 have p6:(0:Int)<6:=by decide
 have p4:(0:Int)<4:=by decide
 have q1:(0:Int)<9973:=by decide
 have q2:(0:Int)<9967:=by decide
 have q3:(0:Int)<9949:=by decide
 have q4:(0:Int)<9941:=by decide
 have q5:(0:Int)<9907:=by decide
 have h1:0<=at_+1:=by omega
 simp[Jr n ns h0,Jr n ns h1,ZA n _ q1 p5,ZA n _ q2 p6,ZA n _ q5 p4];generalize hx:Zz ns at_=x;generalize hrows:1+x*48271%9973%5=rows;generalize hwide:1+x*48271%9967%6=wide;have hr9:0<9-rows:=by omega
 have hw9:0<9-wide:=by omega
 simp[ZA n _ q3 hr9,ZA n _ q4 hw9,Jr n ns h1,ZA n _ q5 p4];generalize hdown:Zz ns (at_+1)*48271%9949%(9-rows)=down;generalize hright:Zz ns (at_+1)*48271%9941%(9-wide)=right;generalize hway:(x+3)*48271%9907%4=way;have bw:0<=way/\way<4:=by omega
 have bd:0<=down/\down<9-rows:=by rw[<-hdown];exact⟨Int.emod_nonneg _ (by omega),Int.emod_lt_of_pos _ hr9⟩
 have br:0<=right/\right<9-wide:=by rw[<-hright];exact⟨Int.emod_nonneg _ (by omega),Int.emod_lt_of_pos _ hw9⟩
 obtain⟨a',b',c',fs,e1,hb,hl⟩:=zmN n ns (at_:=at_) (most:=most) (x:=x) (rows:=rows) (wide:=wide) (down:=down) (right:=right) (way:=way) (a:=none) (b:=none) (c:=none) h0 (by omega) (by omega) bw rfl rfl rfl;have e1':=e1;simp only[wE,List.map_nil] at e1'
 have hok: ∀c∈fs,jP c:=fun c hc=>by
  have:=hb.at_ c hc;unfold jP;omega
 by_cases hf:fs=[]
 ·subst hf
  refine⟨[(down,right)],⟨by simp,by simp,fun c hc=>?_,by simp⟩,by simp;omega,⟨down,fun c hc=>?_⟩,?_⟩
  ·simp at hc;subst hc;unfold jP;simp only;omega
  ·simp at hc;subst hc;simp only;omega
  ·simp[e1']
   rw[show D.tup [.int down,.int right]=cD (down,right) from rfl,show ([cD (down,right)]:List D)=[(down,right)].map cD from rfl,zeA (by omega)];rw[KL (by simp;omega)];simp[fD]
 ·refine⟨fs.take most.toNat,⟨fun h=>?_,?_,fun c hc=>hok c (List.mem_of_mem_take hc),hb.rise.sublist (List.take_sublist _ _)⟩,?_,⟨down,fun c hc=>?_⟩,?_⟩
  ·rw[List.take_eq_nil_iff] at h
   rcases h with h|h
   ·omega
   ·exact hf h
  ·rw[List.length_take];omega
  ·rw[List.length_take];omega
  ·have:=hb.at_ c (List.mem_of_mem_take hc)
   omega
  ·have hne:fs.map cD≠[]:=by simpa using hf
   simp[e1',hne,hf];rw[zeA (by omega)];simp[fD]
theorem zmQ(n:Nat)(ns:List Int){at_ most:Int}(h0:0<=at_)(hm:1<=most)(hm2:most<=24): ∃f,OkF f/\(f.length:Int)<=most/\zv U zh (n+2) 15 [sD ns,.int at_,.int most]=some (.val (fD f)):=by
 obtain⟨f,h1,h2,_,h3⟩:=zmP n ns h0 hm hm2;exact⟨f,h1,h2,h3⟩
end LK
namespace LK
open L2.LW
noncomputable def Js:List zb:=[(1,2),(0,1),(1,1),(1,2),(0,2),(1,3),(2,3),(0,1),(1,2),(2,2),(0,3),(1,4),(2,4),(3,3),(3,4),(0,4),(4,4),(1,2),(1,1)]
theorem zmR: ∀l∈Js,OkL l:=by
 intro l hl;simp only[Js,List.mem_cons,List.not_mem_nil,or_false] at hl;rcases hl with rfl|rfl|rfl|rfl|rfl|rfl|rfl|rfl|rfl|rfl|rfl|rfl|rfl|rfl|rfl|rfl|rfl|rfl|rfl<;>exact⟨by decide,by decide,by decide,by decide⟩
theorem zmS(n:Nat)(x:Int): ∃l,OkL l/\zv U zh (n+1) 16 [.int x]=some (.val (cD l)):=by
 rw[zX zlY rfl];have h19:(0:Int)<19:=by decide
 have hl:=yA;obtain⟨k,hk⟩:=Int.eq_ofNat_of_zero_le (Int.emod_nonneg x (by decide:(19:Int)≠0));have hk2:k<19:=by have:=Int.emod_lt_of_pos x h19;omega
 have hlen:Js.length=19:=rfl;refine⟨Js[k]'(by omega),zmR _ (Ku _),?_⟩;simp only[VL];simp[jN h19,hk];rw[Vs (by simp;omega)];simp
 rw[show ([D.tup [.int 1,.int 2],.tup [.int 0,.int 1],.tup [.int 1,.int 1],.tup [.int 1,.int 2],.tup [.int 0,.int 2],.tup [.int 1,.int 3],.tup [.int 2,.int 3],.tup [.int 0,.int 1],.tup [.int 1,.int 2],.tup [.int 2,.int 2],.tup [.int 0,.int 3],.tup [.int 1,.int 4],.tup [.int 2,.int 4],
  .tup [.int 3,.int 3],.tup [.int 3,.int 4],.tup [.int 0,.int 4],.tup [.int 4,.int 4],.tup [.int 1,.int 2],.tup [.int 1,.int 1]]:List D)=Js.map cD from rfl]
 rw[YB,atI_nat (by simp;omega)];simp
theorem zmT{a b:List zb}:zg .eq [lD a,lD b]=some (.val (.bl (decide (a=b)))):=by
 rw[lD,lD,YA (by simp[zx]) (by simp[zx])];simp[zH]
noncomputable def depth:Nat:=40
end LK
namespace LK
open L2.LW
noncomputable abbrev Ms:=List (zb×zb)
noncomputable def dD(ms:Ms):D:=.dct true (ms.map fun p=>cD p.1) (ms.map fun p=>cD p.2)
noncomputable def get(ms:Ms)(c:zb):Option zb:=(ms.find? fun p=>decide (p.1=c)).map (·.2)
noncomputable def put(ms:Ms)(c v:zb):Ms:=if (get ms c).isSome then ms.map (fun p=>if p.1=c then (p.1,v) else p) else ms++[(c,v)]
@[simp] theorem jl{c:zb}:yC true (cD c)=true:=by simp[cD,yC,ints?]
theorem zeB(c:zb): ∀l:List zb,yF (l.map cD) (cD c)=l.findIdx? fun x=>decide (x=c)
 |[]=>rfl
 |x::r=>by
  have ih:=zeB c r;unfold yF at ih⊢;rw[List.map_cons,List.findIdx?_cons,List.findIdx?_cons,YK,ih]
theorem jR(c:zb): ∀l:List zb,(yF (l.map cD) (cD c)).isSome=decide (c∈l):=fun l=>by
 rw[zeB]
 cases e:l.findIdx? fun x=>decide (x=c) with
 |none=>
  rw[List.findIdx?_eq_none_iff] at e;have:c∉l:=fun h=>by have:=e c h;simp at this
  simp[this]
 |some i=>
  obtain⟨h1,h2,_⟩:=List.findIdx?_eq_some_iff_getElem.mp e
  have:c∈l:=by
   have h2:l[i]=c:=by simpa using h2
   rw[<-h2];exact Ku h1
  simp[this]
theorem zeC(c:zb):get [] c=none:=rfl
theorem ZB(p:zb×zb)(r:Ms)(c:zb):get (p::r) c=if p.1=c then some p.2 else get r c:=by
 unfold get;rw[List.find?_cons];by_cases h:p.1=c<;>simp[h]
theorem YM(c:zb): ∀ms:Ms,(get ms c).isSome=decide (c∈ms.map (·.1))
 |[]=>rfl
 |p::r=>by
  rw[ZB,List.map_cons];by_cases h:p.1=c
  ·simp[h]
  ·rw[if_neg h,YM c r]
   have: ¬c=p.1:=fun z=>h z.symm
   simp[this]
theorem zeD(c:zb): ∀ms:Ms,dget (ms.map fun p=>cD p.1) (ms.map fun p=>cD p.2) (cD c)=(get ms c).map cD
 |[]=>rfl
 |p::r=>by
  have ih:=zeD c r;unfold dget yF at ih⊢;rw[List.map_cons,List.map_cons,List.findIdx?_cons,YK,ZB];by_cases h:p.1=c
  ·simp[h]
  ·rw[if_neg h,<-ih]
   simp only[h,decide_false,Bool.false_eq_true,if_false];cases (List.findIdx? (fun x=>zH x (cD c)) (r.map fun p=>cD p.1))<;>simp
theorem kz(ms:Ms):(ms.map fun p=>cD p.1)=(ms.map (·.1)).map cD:=by rw[List.map_map];rfl
@[simp] theorem zuv{c:zb}{ms:Ms}:zg .inn [cD c,dD ms]=some (.val (.bl (get ms c).isSome)):=by
 simp only[dD,zg,ZW,jl,if_true,yG,kz,jR,YM]
@[simp] theorem zmU{c:zb}{ms:Ms}:zg .nin [cD c,dD ms]=some (.val (.bl (!(get ms c).isSome))):=by
 simp only[dD,zg,ja,jl,if_true,yG,kz,jR,YM]
theorem Jt{c:zb}{ms:Ms}{v:zb}(h:get ms c=some v):zg .idx [dD ms,cD c]=some (.val (cD v)):=by
 simp only[dD,zg,jb,jl,if_true,zeD,h,Option.map_some]
theorem zmV(ms:Ms)(c v:zb):xm true (ms.map fun p=>cD p.1) (ms.map fun p=>cD p.2) (cD c) (cD v)=dD (put ms c v):=by
 unfold xm put;rw[kz,jR,<-YM,<-kz];split
 ·have: ∀ms:Ms,List.zipWith (fun k' v'=>if zH k' (cD c)=true then cD v else v') (ms.map fun p=>cD p.1) (ms.map fun p=>cD p.2)=ms.map fun p=>cD (if p.1=c then (p.1,v) else p).2:=by
   intro ms
   induction ms with
   |nil=>rfl
   |cons p r ih=>
    rw[List.map_cons,List.map_cons,List.zipWith_cons_cons,ih,List.map_cons,YK];by_cases h:p.1=c<;>simp[h]
  rw[this];unfold dD;rw[List.map_map,List.map_map]
  congr 1
  ·apply List.map_congr_left
   intro p _;show cD p.1=cD (if p.1=c then (p.1,v) else p).1;split<;>rfl
 ·simp[dD]
@[simp] theorem zuw{ms:Ms}:yX (ms.map fun p=>cD p.2)=true:=by
 have:(ms.map fun p=>cD p.2)=(ms.map (·.2)).map cD:=by rw[List.map_map];rfl
 rw[this];exact zer
@[simp] theorem zux{ms:Ms}:vD (dD ms)=true:=by simp[dD]
@[simp] theorem zuy{ms:Ms}:wM (dD ms)=true:=by simp[dD]
theorem YN(ms:Ms)(c v x:zb):get (put ms c v) x=if x=c then some v else get ms x:=by
 unfold put;split
 ·rename_i h
  have key: ∀ms:Ms,get (ms.map fun p=>if p.1=c then (p.1,v) else p) x=if x=c then (get ms x).map (fun _=>v) else get ms x:=by
   intro ms
   induction ms with
   |nil=>simp[zeC]
   |cons p r ih=>
    rw[List.map_cons,ZB,ZB,ih];by_cases h1:p.1=c
    ·subst h1
     by_cases h2:p.1=x
     ·subst h2;simp
     ·have h3: ¬x=p.1:=fun z=>h2 z.symm
      simp[h2,h3]
    ·by_cases h2:p.1=x
     ·subst h2;simp[h1]
     ·simp[h1,h2]
  rw[key];by_cases hx:x=c
  ·subst hx
   obtain⟨y,hy⟩:=Option.isSome_iff_exists.mp h;simp[hy]
  ·simp[hx]
 ·rename_i h
  have key: ∀ms:Ms,get (ms++[(c,v)]) x=match get ms x with
    |some y=>some y
    |none=>if x=c then some v else none:=by
   intro ms
   induction ms with
   |nil=>
    show get ((c,v)::[]) x=_;rw[ZB,zeC];by_cases h:c=x
    ·subst h;simp
    ·have: ¬x=c:=fun z=>h z.symm
     simp[h,this]
   |cons p r ih=>
    rw[List.cons_append,ZB,ZB,ih];by_cases h:p.1=x<;>simp[h]
  rw[key];by_cases hx:x=c
  ·subst hx
   have:get ms x=none:=by simpa using h
   simp[this]
  ·cases get ms x<;>simp[hx]
theorem zeE(ms:Ms)(c v:zb):(put ms c v).length<=ms.length+1:=by
 unfold put;split<;>simp
noncomputable def Ju(ms:Ms):Prop:=(ms.map (·.1)).Nodup
theorem zmW(ms:Ms)(c v:zb):(put ms c v).map (·.1)=if c∈ms.map (·.1) then ms.map (·.1) else ms.map (·.1)++[c]:=by
 unfold put;rw[YM];by_cases h:c∈ms.map (·.1)
 ·simp only[h,decide_true,if_true]
  rw[List.map_map];apply List.map_congr_left;intro p _;show (if p.1=c then (p.1,v) else p).1=p.1;split<;>rfl
 ·simp[h]
theorem zeF{ms:Ms}{c v:zb}(h:Ju ms):Ju (put ms c v):=by
 unfold Ju at*;rw[zmW];split
 ·exact h
 ·rename_i hc
  rw[List.nodup_append];refine⟨h,by simp,fun a ha b hb e=>?_⟩;simp at hb;subst hb;subst e;exact hc ha
theorem vM{α:Type}[DecidableEq α]: ∀{l m:List α},l.Nodup->(∀x∈l,x∈m)->l.length<=m.length
 |[],_,_,_=>Nat.zero_le _
 |x::r,m,hn,hs=>by
  rw[List.nodup_cons] at hn;have hx:=hs x Ke
  have ih:=vM (l:=r) (m:=m.erase x) hn.2 fun y hy=>by
   rw[List.mem_erase_of_ne (fun e=>hn.1 (by rw[<-e];exact hy))];exact hs y (Kf _ hy)
  rw[List.length_erase_of_mem hx] at ih;have:0<m.length:=List.length_pos_of_mem hx;simp;omega
noncomputable def kA(l:zb):List Int:=((List.range l.2.toNat).map fun (k:Nat)=>(1+(k:Int))).filter fun d=>decide (l.1%d=0)&&decide (l.2%d=0)
noncomputable def yh(l:zb):Int:=match kA l with
 |[]=>1
 |n::r=>r.foldl max n
theorem zeG{l:zb}(h:OkL l):l∈[((0:Int),(1:Int)),(1,1),(0,2),(1,2),(2,2),(0,3),(1,3),(2,3),(3,3),(0,4),(1,4),(2,4),(3,4),(4,4)]:=by
 obtain⟨h1,h2,h3,h4⟩:=h;have all: ∀i j:Fin 5,i.1<=j.1->1<=j.1->(((i.1:Nat):Int),((j.1:Nat):Int))∈[((0:Int),(1:Int)),(1,1),(0,2),(1,2),(2,2),(0,3),(1,3),(2,3),(3,3),(0,4),(1,4),(2,4),(3,4),(4,4)]:=by decide+kernel
 have:=all ⟨l.1.toNat,by omega⟩ ⟨l.2.toNat,by omega⟩ (by simp only;omega) (by simp only;omega);simp only at this;rw[Int.toNat_of_nonneg h1,Int.toNat_of_nonneg (by omega)] at this;exact this
theorem OkL.cases{P:zb->Prop}{l:zb}(h:OkL l)(p: ∀x∈[((0:Int),(1:Int)),(1,1),(0,2),(1,2),(2,2),(0,3),(1,3),(2,3),(3,3),(0,4),(1,4),(2,4),(3,4),(4,4)],P x):P l:=p l (zeG h)
theorem zay{l:zb}(h:OkL l):kA l≠[]/\1<=yh l/\yh l<=4:=by
 revert l
 intro l h;have:=zeG h;simp only[List.mem_cons,List.not_mem_nil,or_false] at this;rcases this with rfl|rfl|rfl|rfl|rfl|rfl|rfl|rfl|rfl|rfl|rfl|rfl|rfl|rfl<;>decide+kernel
theorem zeH(n:Nat){l:zb}(h:OkL l):zv U zh (n+1) 21 [cD l]=some (.val (.int (yh l))):=by
 rw[zX zl0 rfl];have hl':=yA;have h3:=h.c;have h4:=h.d;have e3:(l.2+1-1).toNat=l.2.toNat:=by omega
 simp only[VN];simp;rw[vI (rs:=[.val (.int 1),.val (.int (l.2+1))]) (xs:=(List.range l.2.toNat).map fun (k:Nat)=>(1+(k:Int))) (f:=D.int) (fun d=>decide (l.1%d=0)&&decide (l.2%d=0)) D.int]
 ·obtain⟨hne,_⟩:=zay h
  show Yz ((((zg .maxL [.lst ((kA l).map D.int)])).bind _).bind _)=_;unfold yh
  cases e:kA l with
  |nil=>exact KC e hne
  |cons n r=>
   rw[zlL];simp
 ·simp
 ·rw[zew ⟨Zy (by omega) (by omega),Zy (by omega) (by omega)⟩,e3,List.map_map]
  rfl
 ·simp;omega
 ·intro d hd
  rw[List.mem_map] at hd;obtain⟨k,hk,rfl⟩:=hd;have hp:0<1+(k:Int):=by omega
  simp[jN hp];by_cases h0:l.1%(1+(k:Int))=0
  ·simp[h0];rw[Bool.eq_iff_iff];simp
  ·simp[h0]
 ·intro d hd _
  simp
noncomputable def vk(l:zb):Bool:=decide ((l.1/yh l+l.2/yh l)%2=1)
noncomputable def zM(l c:zb):Int:=if vk l then (c.1/yh l+c.2/yh l)%2 else c.1/yh l%2
theorem zmX(n:Nat){l:zb}(h:OkL l):zv U zh (n+2) 22 [cD l]=some (.val (.bl (vk l))):=by
 rw[zX zl1 rfl];obtain⟨_,g1,g2⟩:=zay h;have hg:0<yh l/\yh l<1073741824:=by omega
 have h2:(0:Int)<2:=by decide
 simp[VO,zeH n h,zek hg,jN h2];unfold vk;rw[Bool.eq_iff_iff];simp
theorem zaz(n:Nat){l:zb}(h:OkL l)(c:zb):zv U zh (n+3) 23 [cD l,cD c]=some (.val (.int (zM l c))):=by
 rw[zX zl2 rfl];obtain⟨_,g1,g2⟩:=zay h;have hg:0<yh l/\yh l<1073741824:=by omega
 have h2:(0:Int)<2:=by decide
 simp[VP,zeH (n+1) h,zmX n h,zek hg,jN h2];unfold zM;by_cases ho:vk l=true<;>simp[ho,jN h2]
theorem kB(n:Nat){l:zb}(h:OkL l){f:List zb}(hf:f.length<=1000)(k:Int):zv U zh (n+4) 24 [fD f,cD l,.int k]=some (.obj true (.lst ((f.filter fun c=>decide (zM l c=k)).map cD))):=by
 rw[zX zl3 rfl];have hl':=yA;simp only[VQ];simp;rw[vI (rs:=[.val (fD f)]) (xs:=f) (f:=cD) (fun c=>decide (zM l c=k)) cD]
 ·simp
 ·simp
 ·rfl
 ·omega
 ·intro x _
  simp[zaz n h];rw[Bool.eq_iff_iff];simp
 ·intro x _ _;simp
theorem zeI(i:Int):(xP i=i/\0<=i)\/(xP i= -i/\i<0):=by
 unfold xP;split<;>omega
theorem zmY{l a b:zb}:ym l a b=true↔(xP (a.1-b.1)=l.1/\xP (a.2-b.2)=l.2/\l.1<=l.2)\/(xP (a.1-b.1)=l.2/\xP (a.2-b.2)=l.1/\l.1<=l.2):=by
 unfold ym;rw[decide_eq_true_iff];obtain⟨l1,l2⟩:=l;simp only[Prod.mk.injEq];omega
theorem zmZ{l:zb}(h:OkL l):1<=yh l/\l.1=yh l*(l.1/yh l)/\l.2=yh l*(l.2/yh l)/\(vk l=false->l.1/yh l%2=1/\l.2/yh l%2=1):=
 OkL.cases (P:=fun l=>1<=yh l/\l.1=yh l*(l.1/yh l)/\l.2=yh l*(l.2/yh l)/\(vk l=false->l.1/yh l%2=1/\l.2/yh l%2=1)) h (by decide+kernel)
theorem kC{g m x y:Int}(hg:1<=g)(h:x-y=g*m\/x-y= -(g*m)):(x/g=y/g+m\/x/g=y/g-m)/\x%g=y%g:=by
 rcases h with h|h
 ·rw[show x=y+g*m by omega,Int.add_mul_ediv_left _ _ (by omega),Int.add_mul_emod_self_left]
  exact⟨.inl rfl,rfl⟩
 ·rw[show x=y+g*(-m) by rw[Int.mul_neg];omega,Int.add_mul_ediv_left _ _ (by omega),Int.add_mul_emod_self_left]
  exact⟨.inr (by omega),rfl⟩
theorem zm0{l a b:zb}(h:OkL l)(hn:ym l a b=true): ∃m n:Int,(a.1/yh l=b.1/yh l+m\/a.1/yh l=b.1/yh l-m)/\(a.2/yh l=b.2/yh l+n\/a.2/yh l=b.2/yh l-n)/\
  a.1%yh l=b.1%yh l/\a.2%yh l=b.2%yh l/\(vk l=true->(m+n)%2=1)/\(vk l=false->m%2=1/\n%2=1):=by
 obtain⟨g1,e1,e2,ev⟩:=zmZ h;have od:vk l=true->(l.1/yh l+l.2/yh l)%2=1:=fun z=>by unfold vk at z;exact of_decide_eq_true z
 have ha:=zeI (a.1-b.1);have hb:=zeI (a.2-b.2);rw[zmY] at hn;generalize yh l=g at*;generalize l.1/g=m at*;generalize l.2/g=n at*;rw[e1,e2] at hn;rcases hn with ⟨p,q,_⟩|⟨p,q,_⟩
 ·obtain⟨s1,s2⟩:=kC (x:=a.1) (y:=b.1) g1 (m:=m) (by omega)
  obtain⟨t1,t2⟩:=kC (x:=a.2) (y:=b.2) g1 (m:=n) (by omega);exact⟨m,n,s1,t1,s2,t2,od,ev⟩
 ·obtain⟨s1,s2⟩:=kC (x:=a.1) (y:=b.1) g1 (m:=n) (by omega)
  obtain⟨t1,t2⟩:=kC (x:=a.2) (y:=b.2) g1 (m:=m) (by omega);exact⟨n,m,s1,t1,s2,t2,fun z=>by have:=od z;omega,fun z=>⟨(ev z).2,(ev z).1⟩⟩
theorem ZC{l a b:zb}(h:OkL l)(hn:ym l a b=true):zM l a≠zM l b:=by
 obtain⟨m,n,s,t,_,_,od,ev⟩:=zm0 h hn;unfold zM;by_cases z:vk l=true
 ·have:=od z
  rw[if_pos z,if_pos z];omega
 ·have:=(ev (by simpa using z)).1
  rw[if_neg z,if_neg z];omega
theorem jS{l:zb}(c:zb):zM l c=0\/zM l c=1:=by
 unfold zM;split<;>omega
end LK
namespace LK
open L2.LW
theorem zeJ{i:Nat}{body:Env->Option (Fl×Env)}(I:List zb->Env->Prop)(Q:SV->Env->Prop){xs:List zb}{ρ:Env}(h0:I [] ρ)
  (st: ∀pre x post ρ,xs=pre++x::post->I pre ρ->∃fl ρ',body (ρ.set i (some (.val (cD x))))=some (fl,ρ')/\(((fl= .nx\/fl= .ct)/\I (pre++[x]) ρ')\/∃r,fl= .rt r/\Q r ρ')):
  ∃fl ρ',yq i body (xs.map cD) ρ=some (fl,ρ')/\((fl= .nx/\I xs ρ')\/∃r,fl= .rt r/\Q r ρ'):=by
 have key: ∀(post pre:List zb) (ρ:Env),xs=pre++post->I pre ρ->∃fl ρ',yq i body (post.map cD) ρ=some (fl,ρ')/\((fl= .nx/\I xs ρ')\/∃r,fl= .rt r/\Q r ρ'):=by
  intro post
  induction post with
  |nil=>intro pre ρ e h;exact⟨_,ρ,rfl,.inl ⟨rfl,by rw[e];simpa using h⟩⟩
  |cons x post ih=>
   intro pre ρ e h;obtain⟨fl,ρ1,e1,e2⟩:=st pre x post ρ e h;rw[List.map_cons,yq,e1];simp only[Option.bind_some];rcases e2 with ⟨e2,h1⟩|⟨r,rfl,q⟩
   ·obtain⟨fl',ρ',e3,h3⟩:=ih (pre++[x]) ρ1 (by simp[e]) h1
    rcases e2 with rfl|rfl<;>exact⟨fl',ρ',e3,h3⟩
   ·exact⟨_,ρ1,rfl,.inr ⟨r,rfl,q⟩⟩
 exact key xs [] ρ rfl h0
theorem ZD{i:Nat}{body:Env->Option (Fl×Env)}(I:List zb->Env->Prop){xs:List zb}{ρ:Env}(h0:I [] ρ)
  (st: ∀pre x post ρ,xs=pre++x::post->I pre ρ->∃fl ρ',body (ρ.set i (some (.val (cD x))))=some (fl,ρ')/\(fl= .nx\/fl= .ct)/\I (pre++[x]) ρ'):
  ∃ρ',yq i body (xs.map cD) ρ=some (.nx,ρ')/\I xs ρ':=by
 obtain⟨fl,ρ',e,h⟩:=zeJ (i:=i) (body:=body) I (fun _ _=>False) (xs:=xs) (ρ:=ρ) h0 fun pre x post ρ e h=>by
  obtain⟨fl,ρ',h1,h2,h3⟩:=st pre x post ρ e h;exact⟨fl,ρ',h1,.inl ⟨h2,h3⟩⟩
 rcases h with ⟨rfl,h⟩|⟨_,_,z⟩
 ·exact⟨ρ',e,h⟩
 ·exact z.elim
noncomputable def zeK(k:Option (List D)):Option (Option SV)->Option (List D)
 |some (some (.io d))=>k.map (d:: ·)
 |_=>none
@[simp] theorem zuz{k:Option (List D)}{d:D}:zeK k (some (some (.io d)))=k.map (d:: ·):=id rfl
@[simp] theorem zuA{ρ:Env}:wN ρ []=some []:=by rw[wN]
@[simp] theorem zuB{ρ:Env}{i:Nat}{r:List Nat}:wN ρ (i::r)=zeK (wN ρ r) ρ[i]? :=by
 rw[wN];rcases ρ[i]? with _|_|(_|_|_)<;>rfl
@[simp] theorem zuC{io:List Nat}{r:SV}{ρ:Env}:jc io (some (.rt r,ρ))=(wN ρ io).map (Ans.ok r):=id rfl
noncomputable def tD(tr:List zb):D:=.dct true (tr.map cD) (tr.map fun _=>.bl true)
@[simp] theorem zuD{tr:List zb}:yX (tr.map fun _=>(.bl true:D))=true:=by
 induction tr with
 |nil=>simp
 |cons x r ih=>simpa using ih
@[simp] theorem zuE{tr:List zb}:vD (tD tr)=true:=by simp[tD]
@[simp] theorem zuF{tr:List zb}:wM (tD tr)=true:=by simp[tD]
@[simp] theorem zuG{c:zb}{tr:List zb}:zg .nin [cD c,tD tr]=some (.val (.bl (!decide (c∈tr)))):=by
 simp only[tD,zg,ja,jl,if_true,yG,jR]
theorem zm1{tr:List zb}{c:zb}(h:c∉tr):xm true (tr.map cD) (tr.map fun _=>.bl true) (cD c) (.bl true)=tD (tr++[c]):=by
 unfold xm;rw[jR];simp[h,tD]
section
variable (f:List zb) (l:zb)
noncomputable def nb(c:zb):List zb:=f.filter (ym l c)
structure Half (ms:Ms):Prop where
 nd:Ju ms
 inF: ∀x y,get ms x=some y->x∈f/\y∈f/\ym l x y=true
structure Match (ms:Ms):Prop extends Half f l ms where
 sym: ∀x y,get ms x=some y->get ms y=some x
noncomputable def wQ(ms:Ms)(T:zb->Prop):Prop:=∀y,T y->∃x,get ms y=some x/\∀o∈nb f l x,T o
structure Fail (ms:Ms)(c:zb)(tr tr':List zb):Prop where
 all: ∀o∈nb f l c,o∈tr'
 cl: ∀y∈tr',y∉tr->∃x,get ms y=some x/\∀o∈nb f l x,o∈tr'
structure Succ (ms ms':Ms)(c:zb)(tr:List zb):Prop where
 half:Half f l ms'
 left: ∀x y,zM l x=0->get ms' x=some y->get ms' y=some x
 right: ∀x y,zM l y=1->get ms c≠some y->get ms' y=some x->get ms' x=some y
 old: ∀y∈tr,zM l y=1->get ms' y=get ms y
 own: ∃y,get ms' c=some y/\y∉tr
 keep: ∀x,zM l x=0->x≠c->(get ms x=none\/∃y∈tr,get ms x=some y)->get ms' x=get ms x
 dom: ∀x,(get ms x).isSome=true->(get ms' x).isSome=true
 closed: ∀T,wQ f l ms T->∀y,zM l y=1->T y->get ms' y=get ms y
 dead: ∀T,wQ f l ms T->¬ ∀o∈nb f l c,T o
end
section
variable {f:List zb} {l:zb}
theorem wj{c o:zb}:o∈nb f l c↔o∈f/\ym l c o=true:=by unfold nb;exact List.mem_filter
theorem Half.len{ms:Ms}(h:Half f l ms):ms.length<=f.length:=by
 have:=vM (l:=ms.map fun (p:zb×zb)=>p.1) (m:=f) h.nd fun x hx=>by
  have:(get ms x).isSome=true:=by rw[YM];simpa using hx
  obtain⟨y,hy⟩:=Option.isSome_iff_exists.mp this;exact (h.inF x y hy).1
 simpa using this
theorem Half.put2{ms:Ms}(h:Half f l ms){c o:zb}(hc:c∈f)(ho:o∈f)(hn:ym l c o=true):Half f l (put (put ms c o) o c):=by
 refine⟨zeF (zeF h.nd),fun x y e=>?_⟩;rw[YN,YN] at e;split at e
 ·cases e;rename_i z;subst z;exact⟨ho,hc,by rw[YL];exact hn⟩
 ·split at e
  ·cases e;rename_i z;subst z;exact⟨hc,ho,hn⟩
  ·exact h.inF x y e
theorem zm2(hl:OkL l){ms:Ms}(hm:Match f l ms){c o:zb}{tr:List zb}(hc:c∈f)(h0:zM l c=0)(ho:o∈nb f l c)(hfree:get ms o=none)(hot:o∉tr):
  Succ f l ms (put (put ms c o) o c) c tr:=by
 rw[wj] at ho
 have h1:zM l o=1:=by
  have:=ZC hl ho.2;rcases jS (l:=l) o with z|z
  ·rw[z] at this;exact KC h0 this
  ·exact z
 have hne:c≠o:=fun e=>by rw[e] at h0;omega
 have g: ∀x,get (put (put ms c o) o c) x=if x=o then some c else if x=c then some o else get ms x:=fun x=>by rw[YN,YN]
 refine⟨hm.put2 hc ho.1 ho.2,fun x y hx e=>?_,fun x y hy hcy e=>?_,fun y hy hh=>?_,⟨o,by rw[g,if_neg hne,if_pos rfl],hot⟩,fun x hx hxc _=>?_,fun x hx=>?_,fun T hT y hy hTy=>?_,fun T hT hall=>?_⟩
 ·rw[g] at e⊢
  split at e
  ·rename_i z;subst z;omega
  ·split at e
   ·rename_i z;cases e;rw[if_pos rfl,z]
   ·have:=hm.sym x y e
    rw[if_neg,if_neg,this]
    ·intro z;subst z;rw[hm.sym _ _ this] at e;rename_i q _;exact (by
      have e2:=(hm.inF _ _ this).2.2;have:=ZC hl e2;omega)
    ·intro z;subst z;rw[hfree] at this;cases this
 ·rw[g] at e⊢
  split at e
  ·rename_i z;cases e;subst z;rw[if_neg hne,if_pos rfl]
  ·split at e
   ·rename_i z;subst z;omega
   ·have:=hm.sym y x e
    rw[if_neg,if_neg,this]
    ·intro z;subst z;rename_i q1 q2;exact hcy this
    ·intro z;subst z;rw[hfree] at this;cases this
 ·rw[g,if_neg (fun z=>by subst z;exact hot hy),if_neg (fun z=>by subst z;omega)]
 ·rw[g,if_neg (fun z=>by subst z;omega),if_neg hxc]
 ·rw[g];split
  ·rfl
  ·split
   ·rfl
   ·exact hx
 ·rw[g,if_neg,if_neg]
  ·intro z;subst z;omega
  ·intro z;subst z
   obtain⟨x,e,_⟩:=hT _ hTy;rw[hfree] at e;cases e
 ·obtain⟨x,e,_⟩:=hT _ (hall o (wj.mpr ho))
  rw[hfree] at e;cases e
theorem zm3(hl:OkL l){ms ms':Ms}(hm:Match f l ms){c o c':zb}{tr tr1:List zb}(hc:c∈f)(h0:zM l c=0)(hcm:get ms c=none\/∃y∈tr,get ms c=some y)(ho:o∈nb f l c)(hoc:get ms o=some c')(hot:o∉tr)(ht: ∀y∈tr,y∈tr1)(hot1:o∈tr1)(hS:Succ f l ms ms' c' tr1):
  Succ f l ms (put (put ms' c o) o c) c tr:=by
 rw[wj] at ho
 have h1:zM l o=1:=by
  have:=ZC hl ho.2;rcases jS (l:=l) o with z|z
  ·rw[z] at this;exact KC h0 this
  ·exact z
 have hc'o:=hm.sym o c' hoc
 have h0':zM l c'=0:=by
  have:=ZC hl (hm.inF _ _ hoc).2.2;rcases jS (l:=l) c' with z|z
  ·exact z
  ·rw[h1,z] at this;exact KC rfl this
 have hne:c≠o:=fun e=>by rw[e] at h0;omega
 have hcc':c≠c':=fun e=>by
  subst e;rcases hcm with z|⟨y,hy,z⟩
  ·rw[hc'o] at z;cases z
  ·rw[hc'o] at z;cases z;exact hot hy
 have hmo:get ms' o=some c':=by rw[hS.old o hot1 h1];exact hoc
 have hmc:get ms' c=get ms c:=hS.keep c h0 hcc' (hcm.imp id fun ⟨y,hy,z⟩=>⟨y,ht y hy,z⟩);obtain⟨y1,hy1,hy1t⟩:=hS.own;have hy1o:y1≠o:=fun e=>hy1t (by rw[e];exact hot1)
 have g: ∀x,get (put (put ms' c o) o c) x=if x=o then some c else if x=c then some o else get ms' x:=fun x=>by rw[YN,YN]
 refine⟨hS.half.put2 hc ho.1 ho.2,fun x y hx e=>?_,fun x y hy hcy e=>?_,fun y hy hh=>?_,⟨o,by rw[g,if_neg hne,if_pos rfl],hot⟩,fun x hx hxc hxm=>?_,fun x hx=>?_,fun T hT y hy hTy=>?_,fun T hT hall=>?_⟩
 ·rw[g] at e⊢
  split at e
  ·rename_i z;subst z;omega
  ·split at e
   ·rename_i z;cases e;rw[if_pos rfl,z]
   ·rename_i z1 z2
    have e2:=hS.left x y hx e
    have hyh:zM l y=1:=by
     have:=ZC hl (hS.half.inF _ _ e).2.2;rcases jS (l:=l) y with z|z
     ·rw[hx,z] at this;exact KC rfl this
     ·exact z
    rw[if_neg,if_neg,e2]
    ·intro z;subst z;omega
    ·intro z;subst z
     rw[hmo] at e2;cases e2;rw[hy1] at e;cases e;exact hy1o rfl
 ·rw[g] at e⊢
  split at e
  ·rename_i z;cases e;subst z;rw[if_neg hne,if_pos rfl]
  ·split at e
   ·rename_i z;subst z;omega
   ·rename_i z1 z2
    have e2:=hS.right x y hy (fun z=>by rw[hc'o] at z;cases z;exact z1 rfl) e;rw[if_neg,if_neg,e2]
    ·intro z;subst z
     rw[hmc] at e2;exact hcy e2
    ·intro z;subst z
     have:=ZC hl (hS.half.inF _ _ e).2.2;omega
 ·rw[g,if_neg (fun z=>by subst z;exact hot hy),if_neg (fun z=>by subst z;omega)]
  exact hS.old y (ht y hy) hh
 ·rw[g,if_neg (fun z=>by subst z;omega),if_neg hxc]
  refine hS.keep x hx (fun z=>?_) (hxm.imp id fun ⟨y,hy,z⟩=>⟨y,ht y hy,z⟩);subst z;rcases hxm with z|⟨y,hy,z⟩
  ·rw[hc'o] at z;cases z
  ·rw[hc'o] at z;cases z;exact hot hy
 ·rw[g];split
  ·rfl
  ·split
   ·rfl
   ·exact hS.dom x hx
 ·rw[g,if_neg,if_neg]
  ·exact hS.closed T hT y hy hTy
  ·intro z;subst z;omega
  ·intro z;subst z
   obtain⟨x,e,hx⟩:=hT _ hTy;rw[hoc] at e;cases e;exact hS.dead T hT hx
 ·obtain⟨x,e,hx⟩:=hT _ (hall o (wj.mpr ho))
  rw[hoc] at e;cases e;exact hS.dead T hT hx
@[simp] theorem zuH{c:zb}:jA (.val (cD c))=some (.e (cD c)):=by simp[cD]
@[simp] theorem zuI{g:List zb}:jA (.val (fD g))=some (.e (fD g)):=by simp[fD]
noncomputable def xQ(f:List zb)(l:zb)(ms:Ms)(c:zb)(tr:List zb)(o:Option SV):Env:=[some (.val (fD f)),some (.val (cD l)),some (.io (dD ms)),some (.val (cD c)),some (.io (tD tr)),o]
noncomputable def jT(f tr:List zb):Nat:=(f.filter fun c=>decide (c∉tr)).length
theorem zm4{tr:List zb}{o:zb}(ho:o∈f)(ht:o∉tr):jT f (tr++[o])<jT f tr:=by
 unfold jT
 have key: ∀g:List zb,(g.filter fun c=>decide (c∉tr++[o])).length<=(g.filter fun c=>decide (c∉tr)).length/\(o∈g->(g.filter fun c=>decide (c∉tr++[o])).length<(g.filter fun c=>decide (c∉tr)).length):=by
  intro g
  induction g with
  |nil=>exact⟨Nat.le_refl _,fun h=>by cases h⟩
  |cons x r ih=>
   by_cases hx:x=o
   ·subst hx
    have a1:decide (x∉tr++[x])=false:=by simp
    have a2:decide (x∉tr)=true:=by simpa using ht
    rw[List.filter_cons,List.filter_cons,a1,a2];simp only[Bool.false_eq_true,if_false,if_true,List.length_cons];exact⟨by omega,fun _=>by omega⟩
   ·have a1:decide (x∉tr++[o])=decide (x∉tr):=by simp[hx]
    rw[List.filter_cons,List.filter_cons,a1];split
    ·simp only[List.length_cons]
     refine⟨by omega,fun h=>?_⟩;rcases List.mem_cons.mp h with z|z
     ·exact KC z.symm hx
     ·have:=ih.2 z;omega
    ·refine⟨ih.1,fun h=>?_⟩
     rcases List.mem_cons.mp h with z|z
     ·exact KC z.symm hx
     ·exact ih.2 z
 exact (key f).2 ho
theorem zm5{tr tr':List zb}(h: ∀y∈tr,y∈tr'):jT f tr'<=jT f tr:=by
 unfold jT
 have key: ∀g:List zb,(g.filter fun c=>decide (c∉tr')).length<=(g.filter fun c=>decide (c∉tr)).length:=by
  intro g
  induction g with
  |nil=>exact Nat.le_refl _
  |cons x r ih=>
   rw[List.filter_cons,List.filter_cons];by_cases h1:x∈tr
   ·have h2:=h x h1
    simp only[h1,h2,not_true,decide_false,Bool.false_eq_true,if_false];exact ih
   ·by_cases h2:x∈tr'
    ·simp only[h1,h2,not_true,not_false_iff,decide_false,decide_true,Bool.false_eq_true,if_false,if_true,List.length_cons];omega
    ·simp only[h1,h2,not_false_iff,decide_true,if_true,List.length_cons];omega
 exact key f
theorem zm6(f tr:List zb):jT f tr<=f.length:=KB _ _
structure TrOk (f tr:List zb):Prop where
 nd:tr.Nodup
 sub: ∀x∈tr,x∈f
theorem TrOk.len{tr:List zb}(h:TrOk f tr):tr.length<=f.length:=vM h.nd h.sub
theorem TrOk.snoc{tr:List zb}{o:zb}(h:TrOk f tr)(ho:o∈f)(ht:o∉tr):TrOk f (tr++[o]):=by
 refine⟨?_,fun x hx=>?_⟩
 ·rw[List.nodup_append]
  refine⟨h.nd,by simp,fun a ha b hb e=>?_⟩;simp at hb;subst hb;subst e;exact ht ha
 ·rw[List.mem_append,List.mem_singleton] at hx
  rcases hx with z|rfl
  ·exact h.sub x z
  ·exact ho
structure FM (f:List zb)(l:zb)(n:Nat)(ms:Ms)(c:zb)(tr:List zb)(b:Bool)(ms':Ms)(tr':List zb):Prop where
 eq:zC U zh n 37 [fD f,cD l,dD ms,cD c,tD tr]=some (.ok (.val (.bl b)) [dD ms',tD tr'])
 tr_: ∀y∈tr,y∈tr'
 ok:TrOk f tr'
 no:b=false->ms'=ms/\Fail f l ms c tr tr'
 yes:b=true->Succ f l ms ms' c tr
theorem zm7(n:Nat)(hl:OkL l)(hf:f.length<=100){ms:Ms}(hm:Match f l ms){c o:zb}{tr:List zb}{o':Option SV}(ht:TrOk f tr)(hc:c∈f)(h0:zM l c=0)(ho:o∈nb f l c)
  (hrec: ∀c',get ms o=some c'->o∉tr->∃b ms' tr',FM f l n ms c' (tr++[o]) b ms' tr'):
  (o∈tr/\zr (zC U zh n) zh jO (xQ f l ms c tr (some (.val (cD o))))=some (.nx,xQ f l ms c tr (some (.val (cD o)))))\/
  (o∉tr/\get ms o=none/\zr (zC U zh n) zh jO (xQ f l ms c tr (some (.val (cD o))))=some (.rt (.val (.bl true)),xQ f l (put (put ms c o) o c) c (tr++[o]) (some (.val (cD o)))))\/
  (o∉tr/\∃c' ms' tr' b,get ms o=some c'/\FM f l n ms c' (tr++[o]) b ms' tr'/\zr (zC U zh n) zh jO (xQ f l ms c tr (some (.val (cD o))))=
   some (if b then (.rt (.val (.bl true)),xQ f l (put (put ms' c o) o c) c tr' (some (.val (cD o)))) else (.nx,xQ f l ms' c tr' (some (.val (cD o)))))):=by
 have hl':=yA;have hml:=hm.len;have htl:=ht.len;by_cases hot:o∈tr
 ·refine .inl ⟨hot,?_⟩
  simp[jO,xQ,hot]
 ·have hk1:decide (tr.length<line)=true:=by simp;omega
  have hT: ∀g:D,tD tr= .dct true (tr.map cD) (tr.map fun _=>.bl true):=fun _=>rfl
  have hD: ∀ms:Ms,dD ms= .dct true (ms.map fun p=>cD p.1) (ms.map fun p=>cD p.2):=fun _=>rfl
  have e1: ∀ρ:Env,ji ρ 4 (some (.val (cD o))) (some (.val (.bl true))) (some (some (.io (tD tr))))=some (.nx,ρ.set 4 (some (.io (tD (tr++[o]))))):=fun ρ=>by
   rw[tD,zef];simp only[Option.bind_some,Zx,jl,List.length_map,hk1,Bool.and_self,if_true,zm1 hot]
  have e2: ∀(ρ:Env) (i:Nat) (ms:Ms) (a b:zb),ms.length<line->ji ρ i (some (.val (cD a))) (some (.val (cD b))) (some (some (.io (dD ms))))=some (.nx,ρ.set i (some (.io (dD (put ms a b))))):=fun ρ i ms a b h=>by
   rw[dD,zef];simp only[Option.bind_some,Zx,jl,List.length_map,h,decide_true,Bool.and_self,if_true,zmV]
  cases hg:get ms o with
  |none=>
   refine .inr (.inl ⟨hot,rfl,?_⟩);have p1:=zeE ms c o;simp[jO,xQ,hot,e1,hg];rw[e2 _ 2 ms c o (by omega)];simp;rw[e2 _ 2 (put ms c o) o c (by omega)];simp
  |some c'=>
   obtain⟨b,ms',tr',hr⟩:=hrec c' hg hot;refine .inr (.inr ⟨hot,c',ms',tr',b,rfl,hr,?_⟩);have heq:=hr.eq;simp[jO,xQ,hot,e1,hg,Jt hg,heq]
   cases b with
   |true=>
    have p0:=(hr.yes rfl).half.len;have p1:=zeE ms' c o;simp;rw[e2 _ 2 ms' c o (by omega)];simp;rw[e2 _ 2 (put ms' c o) o c (by omega)];simp
   |false=>simp
theorem jU(hl:OkL l){a b:zb}(h:ym l a b=true):(zM l a=0->zM l b=1)/\(zM l a=1->zM l b=0):=by
 have:=ZC hl h;have h1:=jS (l:=l) a;have h2:=jS (l:=l) b;omega
theorem zm8(hl:OkL l)(hf:OkF f){ms:Ms}(hm:Match f l ms): ∀(u:Nat) (c:zb) (tr:List zb) (n:Nat),jT f tr<u->u+3<=n->TrOk f tr->c∈f->zM l c=0->(get ms c=none\/∃y∈tr,get ms c=some y)->∃b ms' tr',FM f l n ms c tr b ms' tr':=by
 intro u
 induction u with
 |zero=>intro c tr n hu;omega
 |succ u ih=>
  intro c tr n hu hn ht hc h0 hcm;obtain⟨m,rfl⟩: ∃m,n=m+4:=⟨n-4,by omega⟩;have hlen:=hf.len
  obtain⟨fl,ρ',hx,hq⟩:=zeJ (i:=5) (body:=zr (zC U zh (m+3)) zh jO)
   (fun pre ρ=>∃tr' o',ρ=xQ f l ms c tr' o'/\(∀y∈tr,y∈tr')/\TrOk f tr'/\(∀o∈pre,o∈tr')/\(∀y∈tr',y∉tr->∃x,get ms y=some x/\∀o∈nb f l x,o∈tr'))
   (fun r ρ=>∃ms' tr' o',r= .val (.bl true)/\ρ=xQ f l ms' c tr' o'/\(∀y∈tr,y∈tr')/\TrOk f tr'/\Succ f l ms ms' c tr)
   (xs:=nb f l c) (ρ:=xQ f l ms c tr none) ⟨tr,none,rfl,fun _ h=>h,ht,fun _ h=>(by cases h),fun y h1 h2=>KC h1 h2⟩
   fun pre o post ρ e zz5=>by
    obtain⟨tr',o',eρ,s1,s2,s3,s4⟩:=zz5;subst eρ;have ho:o∈nb f l c:=by rw[e];simp
    have hof:=(wj.mp ho).1
    have hrec: ∀c',get ms o=some c'->o∉tr'->∃b ms' tr'',FM f l (m+3) ms c' (tr'++[o]) b ms' tr'':=fun c' hg hot=>by
     have h1:=zm4 (tr:=tr') hof hot;have h2:=zm5 (f:=f) s1;obtain⟨g1,g2,g3⟩:=hm.inF o c' hg;have hh:=(jU hl (wj.mp ho).2).1 h0;exact ih c' (tr'++[o]) (m+3) (by omega) (by omega) (s2.snoc hof hot) g2 ((jU hl g3).2 hh) (.inr ⟨o,by simp,hm.sym _ _ hg⟩)
    rcases zm7 (m+3) hl (by omega) hm (o':=o') s2 hc h0 ho hrec with ⟨hot,ex⟩|⟨hot,hg,ex⟩|⟨hot,c',ms',tr'',b,hg,hF,ex⟩
    ·refine⟨_,_,ex,.inl ⟨.inl rfl,tr',_,rfl,s1,s2,fun x hx=>?_,s4⟩⟩
     rw[List.mem_append,List.mem_singleton] at hx;rcases hx with z|rfl
     ·exact s3 x z
     ·exact hot
    ·refine⟨_,_,ex,.inr ⟨_,rfl,_,_,_,rfl,rfl,fun y hy=>Kp _ (s1 y hy),s2.snoc hof hot,zm2 hl hm hc h0 ho hg fun z=>hot (s1 o z)⟩⟩
    ·have sub: ∀y∈tr',y∈tr'':=fun y hy=>hF.tr_ y (Kp _ hy)
     have hoT:o∈tr'':=hF.tr_ o (by simp)
     cases b with
     |true=>
      refine⟨_,_,ex,.inr ⟨_,rfl,_,_,_,rfl,rfl,fun y hy=>sub y (s1 y hy),hF.ok,?_⟩⟩;exact zm3 hl hm hc h0 hcm ho hg (fun z=>hot (s1 o z)) (fun y hy=>Kp _ (s1 y hy)) (by simp) (hF.yes rfl)
     |false=>
      obtain⟨rfl,hFl⟩:=hF.no rfl;refine⟨_,_,ex,.inl ⟨.inl rfl,tr'',_,rfl,fun y hy=>sub y (s1 y hy),hF.ok,fun x hx=>?_,fun y hy hyt=>?_⟩⟩
      ·rw[List.mem_append,List.mem_singleton] at hx
       rcases hx with z|rfl
       ·exact sub x (s3 x z)
       ·exact hoT
      ·by_cases h1:y∈tr'
       ·obtain⟨x,e1,e2⟩:=s4 y h1 hyt
        exact⟨x,e1,fun o ho=>sub o (e2 o ho)⟩
       ·by_cases h2:y=o
        ·subst h2;exact⟨c',hg,hFl.all⟩
        ·exact hFl.cl y hy fun z=>by
          rw[List.mem_append,List.mem_singleton] at z;rcases z with z|z
          ·exact h1 z
          ·exact h2 z
  have cn:=zav m l c (f:=f) (by omega:f.length<=1000)
  have run:zC U zh (m+4) 37 [fD f,cD l,dD ms,cD c,tD tr]=jc [2,4] ((some (fl,ρ')).bind fun x=>QY x (zr (zC U zh (m+3)) zh (.cons (.ret (.bl false)) .nil))):=by
   rw[zlH zl8 rfl];show jc [2,4] (zr (zC U zh (m+3)) zh YD (xQ f l ms c tr none))=_;simp only[YD,Yy,jj];simp[xQ,cn];rw[<-xQ,<-nb,hx];simp
  rcases hq with ⟨rfl,tr',o',rfl,s1,s2,s3,s4⟩|⟨r,rfl,ms',tr',o',rfl,rfl,s1,s2,s3⟩
  ·refine⟨false,ms,tr',⟨?_,s1,s2,fun _=>⟨rfl,s3,s4⟩,fun z=>(by cases z)⟩⟩
   rw[run];simp[xQ]
  ·refine⟨true,ms',tr',⟨?_,s1,s2,fun z=>(by cases z),fun _=>s3⟩⟩
   rw[run];simp[xQ]
end
end LK
namespace LK
open L2.LW
section
variable {f:List zb} {l:zb}
theorem zeL(hf:OkF f):f.Nodup:=OkF.nodup hf.rise
structure Final (f:List zb)(l:zb)(ms:Ms)(T:zb->Prop):Prop extends Match f l ms where
 cl:wQ f l ms T
 free: ∀x∈f,zM l x=0->get ms x=none->∀o∈nb f l x,T o
 side: ∀y,T y->zM l y=1
theorem zm9(hl:OkL l){ms ms':Ms}{c:zb}(hm:Match f l ms)(hg:get ms c=none)(h:Succ f l ms ms' c []):Match f l ms':=by
 refine { h.half with sym:=fun x y e=>?_ };rcases jS (l:=l) x with z|z
 ·exact h.left x y z e
 ·exact h.right y x z (by rw[hg];exact fun z=>nomatch z) e
noncomputable def YO(f:List zb)(l:zb)(ms:Ms)(o:Option SV):Env:=[some (.val (fD f)),some (.val (cD l)),some (.obj true (dD ms)),o]
theorem zaA(n:Nat)(hl:OkL l)(hf:OkF f): ∃ms T,Final f l ms T/\zv U zh (n+29) 38 [fD f,cD l]=some (.obj true (dD ms)):=by
 have hlen:=hf.len
 obtain⟨ρ',hx,ms,T,o',rfl,hm,hT,hfr,hsd,hin⟩:=ZD (i:=3) (body:=zr (zC U zh (n+28)) zh ke)
  (fun pre ρ=>∃ms T o',ρ=YO f l ms o'/\Match f l ms/\wQ f l ms T/\(∀x∈pre,get ms x=none->∀o∈nb f l x,T o)/\(∀y,T y->zM l y=1)/\∀x,zM l x=0->(get ms x).isSome=true->x∈pre)
  (xs:=f.filter fun c=>decide (zM l c=0)) (ρ:=YO f l [] none) ⟨[],fun _=>False,none,rfl,⟨⟨by simp[Ju],fun x y e=>by cases e⟩,fun x y e=>by cases e⟩,fun y z=>z.elim,fun x h=>(by cases h),fun y z=>z.elim,fun x _ h=>(by cases h)⟩
  fun pre c post ρ e zz5=>by
   obtain⟨ms,T,o',eρ,hm,hT,hfr,hsd,hin⟩:=zz5;subst eρ;have hc:c∈f.filter fun c=>decide (zM l c=0):=by rw[e];simp
   rw[List.mem_filter,decide_eq_true_iff] at hc;have hnd:(f.filter fun c=>decide (zM l c=0)).Nodup:=(zeL hf).sublist Kv
   have hcm:get ms c=none:=by
    cases q:get ms c with
    |none=>rfl
    |some y=>
     have hp:=hin c hc.2 (by rw[q];rfl);rw[e,List.nodup_append] at hnd;exact KC rfl (hnd.2.2 c hp c Ke)
   ·obtain⟨b,ms',tr',hF⟩:=zm8 hl hf hm (f.length+1) c [] (n+28) (by have:=zm6 f [];omega) (by omega) ⟨by simp,fun x h=>by cases h⟩ hc.1 hc.2 (.inl hcm)
    have heq:=hF.eq
    have ex:zr (zC U zh (n+28)) zh ke ((YO f l ms o').set 3 (some (.val (cD c))))=some (.nx,YO f l ms' (some (.val (cD c)))):=by
     rw[show tD []= .dct true [] [] from rfl] at heq;simp[ke,YO,heq]
    refine⟨_,_,ex,.inl rfl,?_⟩
    cases b with
    |true=>
     have hS:=hF.yes rfl;refine⟨ms',T,_,rfl,zm9 hl hm hcm hS,fun y hy=>?_,fun x hx hxm o ho=>?_,hsd,fun x hx0 hx1=>?_⟩
     ·obtain⟨x,e1,e2⟩:=hT y hy
      exact⟨x,by rw[hS.closed T hT y (hsd y hy) hy];exact e1,e2⟩
     ·rw[List.mem_append,List.mem_singleton] at hx
      rcases hx with z|rfl
      ·refine hfr x z ?_ o ho
       cases q:get ms x with
       |none=>rfl
       |some y=>have:=hS.dom x (by rw[q];rfl);rw[hxm] at this;cases this
      ·obtain⟨y,e1,_⟩:=hS.own
       rw[hxm] at e1;cases e1
     ·by_cases z:x=c
      ·subst z;simp
      ·cases q:get ms x with
       |none=>rw[hS.keep x hx0 z (.inl q),q] at hx1;cases hx1
       |some y=>exact Kp _ (hin x hx0 (by rw[q];rfl))
    |false=>
     obtain⟨rfl,hFl⟩:=hF.no rfl;have side': ∀y∈tr',zM l y=1->True:=fun _ _ _=>trivial
     refine⟨ms',fun y=>T y\/(y∈tr'/\zM l y=1),_,rfl,hm,fun y hy=>?_,fun x hx hxm o ho=>?_,fun y hy=>hy.elim (hsd y) And.right,fun x h0 h1=>Kp _ (hin x h0 h1)⟩
     ·rcases hy with hy|⟨hy,hy1⟩
      ·obtain⟨x,e1,e2⟩:=hT y hy
       exact⟨x,e1,fun o ho=>.inl (e2 o ho)⟩
      ·obtain⟨x,e1,e2⟩:=hFl.cl y hy (by simp)
       refine⟨x,e1,fun o ho=>.inr ⟨e2 o ho,?_⟩⟩;have h0:=(jU hl (hm.inF _ _ e1).2.2).2 hy1;exact (jU hl (wj.mp ho).2).1 h0
     ·rw[List.mem_append,List.mem_singleton] at hx
      rcases hx with z|rfl
      ·exact .inl (hfr x z hxm o ho)
      ·exact .inr ⟨hFl.all o ho,(jU hl (wj.mp ho).2).1 hc.2⟩
 refine⟨ms,T,{ hm with cl:=hT,free:=fun x hxf h0=>hfr x (by rw[List.mem_filter];exact⟨hxf,by simpa using h0⟩),side:=hsd },?_⟩;have ch:=kB (n+24) hl (f:=f) (by omega) 0;rw[zX zl9 rfl];simp only[VX];simp[jj,ch];have hx':=hx;simp only[YO] at hx';rw[show D.dct true [] []=dD [] from rfl,hx'];simp
end
end LK
namespace LK
open L2.LW
theorem zeM{α β:Type}{g:α->β}: ∀{l:List α},(∀x∈l,∀y∈l,g x=g y->x=y)->l.Nodup->(l.map g).Nodup
 |[],_,_=>by simp
 |x::r,h,hn=>by
  rw[List.nodup_cons] at hn;rw[List.map_cons,List.nodup_cons];refine⟨fun z=>?_,zeM (fun a ha b hb=>h a (Kf _ ha) b (Kf _ hb)) hn.2⟩;rw[List.mem_map] at z;obtain⟨y,hy,e⟩:=z;have:=h y (Kf _ hy) x Ke e;subst this;exact hn.1 hy
section
variable {f:List zb} {l:zb}
noncomputable def jV(ms:Ms)(c:zb):zb:=(get ms c).getD c
theorem ZE{ms:Ms}{c v:zb}(h:get ms c=some v):jV ms c=v:=by unfold jV;rw[h];rfl
noncomputable def ml(f:List zb)(l:zb)(ms:Ms):List zb:=f.filter fun c=>decide (zM l c=0)&&(get ms c).isSome
theorem Match.inj{ms:Ms}(h:Match f l ms){a b v:zb}(ha:get ms a=some v)(hb:get ms b=some v):a=b:=by
 have h1:=h.sym _ _ ha;have h2:=h.sym _ _ hb;rw[h1] at h2;exact Kn h2
open Classical in
noncomputable def jm(f:List zb)(ms:Ms):List zb:=f.filter fun c=>match get ms c with
 |some v=>decide (yi c v)
 |none=>false
noncomputable def vm(ms:Ms)(c:zb):D:=.tup [cD c,cD (jV ms c)]
theorem zeN(n:Nat)(hf:f.length<=1000){ms:Ms}:zv U zh (n+1) 39 [fD f,dD ms]=some (.obj true (.lst ((jm f ms).map (vm ms)))):=by
 rw[zX zma rfl];have hl':=yA;simp only[VY];simp
 rw[vI (rs:=[.val (fD f)]) (xs:=f) (f:=cD) (fun c=>match get ms c with
  |some v=>decide (yi c v)
  |none=>false) (vm ms)]
 ·rw[show (f.filter fun c=>match get ms c with
   |some v=>decide (yi c v)
   |none=>false)=jm f ms from rfl]
  simp
 ·simp
 ·rfl
 ·omega
 ·intro c _
  cases e:get ms c with
  |none=>simp[e]
  |some v=>simp[e,Jt e]
 ·intro c _ h
  cases e:get ms c with
  |none=>simp[e] at h
  |some v=>simp[Jt e,vm,ZE e]
theorem zna(n:Nat)(hl:OkL l)(hf:OkF f): ∃ms T,Final f l ms T/\zv U zh (n+30) 43 [fD f,cD l]=some (.obj true (.lst ((jm f ms).map (vm ms)))):=by
 have hlen:=hf.len;obtain⟨ms,T,h1,h2⟩:=zaA n hl hf;refine⟨ms,T,h1,?_⟩;have h3:=zeN (n+28) (f:=f) (ms:=ms) (by omega);rw[zX zme rfl];simp[Jc,vJ (n+25) hf,vK (n+26) hl,h2,h3]
end
end LK
namespace LK
open L2.LW
section
variable {f:List zb} {l:zb}
noncomputable def yB(f:List zb)(l:zb)(ms:Ms)(k:Int)(s4:SV)(ar ed:List zb)(s7 s8 s9:Option SV):Env:=
 [some (.val (fD f)),some (.val (cD l)),some (.val (dD ms)),some (.val (.int k)),some s4,some (.obj true (lD ar)),some (.val (lD ed)),s7,s8,s9]
structure Ring (f:List zb)(ms:Ms)(T:zb->Prop)(ar0 ar fu:List zb):Prop where
 nd:ar.Nodup
 sub: ∀y∈ar,y∈f/\T y
 new: ∃nw,ar=ar0++nw/\fu=nw.map (jV ms)
theorem Ring.len{ms:Ms}{T:zb->Prop}{ar0 ar fu:List zb}(h:Ring f ms T ar0 ar fu):ar.length<=f.length/\fu.length<=f.length:=by
 have h1:=vM h.nd fun y hy=>(h.sub y hy).1
 obtain⟨nw,rfl,rfl⟩:=h.new;simp at h1⊢;omega
theorem znb{a:List zb}{c:zb}:(D.lst (a.map cD++[cD c]))=lD (a++[c]):=by simp[lD]
theorem zeO{ρ:Env}{i:Nat}{a:List zb}{c:zb}(h:a.length<line):jM ρ i (some (.val (cD c))) (some (some (.obj true (lD a))))=some (.nx,ρ.set i (some (.obj true (lD (a++[c]))))):=by
 rw[lD,Vq];simp only[Option.bind_some,Zx,List.length_map,h,if_true,znb]
theorem znc(n:Nat)(hf:f.length<=100){ms:Ms}{T:zb->Prop}(hT:wQ f l ms T){k:Int}{s4:SV}{ar0 ar fu ed:List zb}{s8:Option SV}{o:zb}(h:Ring f ms T ar0 ar fu)(hof:o∈f)(ho:T o):
  ∃ar' fu',zr (zC U zh n) zh VZ (yB f l ms k s4 ar ed (some (.obj true (lD fu))) s8 (some (.val (cD o))))=some (.nx,yB f l ms k s4 ar' ed (some (.obj true (lD fu'))) s8 (some (.val (cD o))))/\
   Ring f ms T ar0 ar' fu'/\o∈ar'/\∀y∈ar,y∈ar':=by
 have hl':=yA;obtain⟨h1,h2⟩:=h.len;by_cases hin:o∈ar
 ·refine⟨ar,fu,?_,h,hin,fun y hy=>hy⟩
  simp[VZ,yB,ku,hin]
 ·obtain⟨v,e1,_⟩:=hT o ho
  refine⟨ar++[o],fu++[v],?_,⟨?_,fun y hy=>?_,?_⟩,by simp,fun y hy=>Kp _ hy⟩
  ·simp[VZ,yB,ku,hin,Jt e1]
   rw[zeO (by omega)];simp[Jt e1];rw[zeO (by omega)];simp
  ·rw[List.nodup_append]
   refine⟨h.nd,by simp,fun a ha b hb e=>?_⟩;simp at hb;subst hb;subst e;exact hin ha
  ·rw[List.mem_append,List.mem_singleton] at hy
   rcases hy with z|rfl
   ·exact h.sub y z
   ·exact⟨hof,ho⟩
  ·obtain⟨nw,r1,r2⟩:=h.new
   exact⟨nw++[o],by rw[r1];simp,by rw[r2];simp[ZE e1]⟩
theorem znd(n:Nat)(hf:f.length<=100){ms:Ms}{T:zb->Prop}(hT:wQ f l ms T){k:Int}{s4:SV}{ar0 ar fu ed:List zb}{s9:Option SV}{x:zb}(h:Ring f ms T ar0 ar fu)(hx: ∀o∈nb f l x,T o)(h9:zB (some s9)=true):
  ∃ar' fu' s9',zr (zC U zh (n+3)) zh kf (yB f l ms k s4 ar ed (some (.obj true (lD fu))) (some (.val (cD x))) s9)=some (.nx,yB f l ms k s4 ar' ed (some (.obj true (lD fu'))) (some (.val (cD x))) s9')/\
   Ring f ms T ar0 ar' fu'/\(∀o∈nb f l x,o∈ar')/\(∀y∈ar,y∈ar')/\zB (some s9')=true:=by
 obtain⟨ρ',e,ar',fu',s9',rfl,r1,r2,r3,r4⟩:=ZD (i:=9) (body:=zr (zC U zh (n+3)) zh VZ)
  (fun pre ρ=>∃ar' fu' s9',ρ=yB f l ms k s4 ar' ed (some (.obj true (lD fu'))) (some (.val (cD x))) s9'/\Ring f ms T ar0 ar' fu'/\(∀o∈pre,o∈ar')/\(∀y∈ar,y∈ar')/\zB (some s9')=true)
  (xs:=nb f l x) (ρ:=yB f l ms k s4 ar ed (some (.obj true (lD fu))) (some (.val (cD x))) s9) ⟨ar,fu,s9,rfl,h,fun o ho=>(by cases ho),fun y hy=>hy,h9⟩
  fun pre o post ρ e zz5=>by
   obtain⟨ar',fu',s9',eρ,r1,r2,r3,r4⟩:=zz5;subst eρ;have ho:o∈nb f l x:=by rw[e];simp
   obtain⟨ar2,fu2,e2,q1,q2,q3⟩:=znc (n+3) hf hT (k:=k) (s4:=s4) (ed:=ed) (s8:=some (.val (cD x))) r1 (wj.mp ho).1 (hx o ho);refine⟨_,_,e2,.inl rfl,ar2,fu2,_,rfl,q1,fun y hy=>?_,fun y hy=>q3 y (r3 y hy),yS⟩;rw[List.mem_append,List.mem_singleton] at hy;rcases hy with z|rfl
   ·exact q3 y (r2 y z)
   ·exact q2
 refine⟨ar',fu',s9',?_,r1,r2,r3,r4⟩;have cn:=zav n l x (f:=f) (by omega:f.length<=1000);simp only[kf,Yy,jj];simp[yB,cn,h9];rw[<-nb,<-yB,e];simp[yB]
theorem zne(n:Nat)(hf:f.length<=100){ms:Ms}{T:zb->Prop}(hT:wQ f l ms T){k:Int}{s4:SV}{cr ar ed:List zb}{s7 s8 s9:Option SV}(h4:s4= .val (lD cr)\/s4= .obj true (lD cr))(hcr:cr.length<=1000)(hed: ∀x∈ed,∀o∈nb f l x,T o)
  (hnd:ar.Nodup) (hsub: ∀y∈ar,y∈f/\T y) (h7:zB (some s7)=true) (h8:zB (some s8)=true) (h9:zB (some s9)=true):
  ∃ar' fu s7' s8' s9',zr (zC U zh (n+3)) zh kg (yB f l ms k s4 ar ed s7 s8 s9)=some (.nx,yB f l ms k (.obj true (lD (cr++fu))) ar' fu s7' s8' s9')/\
   Ring f ms T ar ar' fu/\(∀x∈ed,∀o∈nb f l x,o∈ar')/\zB (some s7')=true/\zB (some s8')=true/\zB (some s9')=true:=by
 obtain⟨ρ',e,ar',fu,s8',s9',rfl,r1,r2,r3,r4⟩:=ZD (i:=8) (body:=zr (zC U zh (n+3)) zh kf)
  (fun pre ρ=>∃ar' fu s8' s9',ρ=yB f l ms k s4 ar' ed (some (.obj true (lD fu))) s8' s9'/\Ring f ms T ar ar' fu/\(∀x∈pre,∀o∈nb f l x,o∈ar')/\zB (some s8')=true/\zB (some s9')=true)
  (xs:=ed) (ρ:=yB f l ms k s4 ar ed (some (.obj true (lD []))) s8 s9) ⟨ar,[],s8,s9,rfl,⟨hnd,hsub,[],by simp,rfl⟩,fun o ho=>(by cases ho),h8,h9⟩
  fun pre x post ρ e zz5=>by
   obtain⟨ar',fu,s8',s9',eρ,r1,r2,r3,r4⟩:=zz5;subst eρ;have hx:x∈ed:=by rw[e];simp
   obtain⟨ar2,fu2,s92,e2,q1,q2,q3,q4⟩:=znd n hf hT (k:=k) (s4:=s4) (ed:=ed) (s9:=s9') (x:=x) r1 (hed x hx) r4;refine⟨_,_,e2,.inl rfl,ar2,fu2,_,s92,rfl,q1,fun y hy o ho=>?_,yS,q4⟩;rw[List.mem_append,List.mem_singleton] at hy;rcases hy with z|rfl
   ·exact q3 o (r2 y z o ho)
   ·exact q2 o ho
 refine⟨ar',fu,some (.val (lD fu)),s8',s9',?_,r1,r2,yS,r3,r4⟩;have hl':=yA;have hlen:=r1.len
 have hadd:zg .add [lD cr,lD fu]=some (.obj true (lD (cr++fu))):=by
  rw[lD,lD,Vs (by simp;omega)];simp[lD]
 simp only[kg];rcases h4 with rfl|rfl
 ·simp[yB,h7,h8,jk]
  rw[show xS (lD ed)=some (ed.map cD) from rfl,show D.lst []=lD [] from rfl];simp only[Option.map_some,Option.bind_some];rw[<-yB,e];simp[yB,hadd]
 ·simp[yB,h7,h8,jk]
  rw[show xS (lD ed)=some (ed.map cD) from rfl,show D.lst []=lD [] from rfl];simp only[Option.map_some,Option.bind_some];rw[<-yB,e];simp[yB,hadd]
structure Crowd (f:List zb)(l:zb)(ms:Ms)(T:zb->Prop)(k:Int)(cr ar:List zb):Prop where
 nd:ar.Nodup
 sub: ∀y∈ar,y∈f/\T y
 is:cr=(f.filter fun c=>decide (zM l c=k)&& !(get ms c).isSome)++ar.map (jV ms)
 all: ∀x∈cr,∀o∈nb f l x,o∈ar
theorem zeP(n:Nat)(hl:OkL l)(hf:OkF f){ms:Ms}{T:zb->Prop}(hm:Match f l ms)(hT:wQ f l ms T){k:Int}(hfree: ∀x∈f,zM l x=k->get ms x=none->∀o∈nb f l x,T o):
  ∃cr ar,Crowd f l ms T k cr ar/\zv U zh (n+5) 40 [fD f,cD l,dD ms,.int k]=some (.val (.tup [lD cr,lD ar])):=by
 have hl':=yA;have hlen:=hf.len
 let cr0:=f.filter fun c=>decide (zM l c=k)&& !(get ms c).isSome
 have hcr0: ∀x∈cr0,∀o∈nb f l x,T o:=fun x hx=>by
  rw[List.mem_filter,Bool.and_eq_true,decide_eq_true_iff] at hx;exact hfree x hx.1 hx.2.1 (by simpa using hx.2.2)
 have hcl:cr0.length<=24:=Kg (KB _ _) hlen
 obtain⟨ρ',e,s4,cr,ar,s7,s8,s9,rfl,h4,q1,q2,q3,q4,q5⟩:=QZ (test:=zA (zv U zh (n+4)) (.prim .gt (.cons (.prim .len (.cons (.var 6) .nil)) (.cons (.int 0) .nil)))) (body:=zr (zC U zh (n+4)) zh kg)
  (fun m ρ=>∃s4 cr ar ed s7 s8 s9,ρ=yB f l ms k s4 ar ed s7 s8 s9/\(s4= .val (lD cr)\/s4= .obj true (lD cr))/\ar.Nodup/\(∀y∈ar,y∈f/\T y)/\cr=cr0++ar.map (jV ms)/\(∀x∈cr,x∈ed\/∀o∈nb f l x,o∈ar)/\(∀x∈ed,∀o∈nb f l x,T o)/\
   (zB (some s7)=true/\zB (some s8)=true/\zB (some s9)=true)/\m=2*(f.length-ar.length)+(if ed=[] then 0 else 1))
  (fun ρ=>∃s4 cr ar s7 s8 s9,ρ=yB f l ms k s4 ar [] s7 s8 s9/\(s4= .val (lD cr)\/s4= .obj true (lD cr))/\ar.Nodup/\(∀y∈ar,y∈f/\T y)/\cr=cr0++ar.map (jV ms)/\(∀x∈cr,∀o∈nb f l x,o∈ar)/\True)
  (m:=2*f.length+(if cr0=[] then 0 else 1)) (n:=zh) (ρ:=yB f l ms k (.val (lD cr0)) [] cr0 none none none) (by unfold zh;split<;>omega)
  ⟨_,cr0,[],cr0,none,none,none,rfl,.inl rfl,by simp,fun y h=>(by cases h),by simp,fun x hx=>.inl hx,hcr0,⟨rfl,rfl,rfl⟩,by simp⟩
  fun m ρ zz2=>by
   obtain⟨s4,cr,ar,ed,s7,s8,s9,eρ,h4,q1,q2,q3,q4,q5,q6,q7⟩:=zz2;subst eρ
   have ht:zA (zv U zh (n+4)) (.prim .gt (.cons (.prim .len (.cons (.var 6) .nil)) (.cons (.int 0) .nil))) (yB f l ms k s4 ar ed s7 s8 s9)=some (decide (0<ed.length)):=by
    simp[yB,lD]
   by_cases hed:ed=[]
   ·subst hed
    exact .inl ⟨by rw[ht];rfl,s4,cr,ar,s7,s8,s9,rfl,h4,q1,q2,q3,fun x hx=>(q4 x hx).resolve_left (by simp),trivial⟩
   ·have hpos:0<ed.length:=List.length_pos_iff.mpr hed
    refine .inr ⟨by rw[ht];simp[hpos],?_⟩;have hal:=vM q1 fun y hy=>(q2 y hy).1
    have hcrl:cr.length<=1000:=by rw[q3];simp;omega
    obtain⟨ar',fu,s7',s8',s9',e2,r1,r2,r3⟩:=zne (n+1) (by omega) hT (k:=k) h4 hcrl q5 q1 q2 q6.1 q6.2.1 q6.2.2;obtain⟨nw,n1,n2⟩:=r1.new;have hal':=r1.len.1;refine⟨_,_,2*(f.length-ar'.length)+(if fu=[] then 0 else 1),e2,.inl rfl,?_,_,cr++fu,ar',fu,s7',s8',s9',rfl,.inr rfl,r1.nd,r1.sub,?_,fun x hx=>?_,fun x hx o ho=>?_,r3,rfl⟩
    ·rw[q7,if_neg hed,n2,n1]
     cases nw with
     |nil=>simp
     |cons a b=>rw[n1] at hal';simp at hal'⊢;omega
    ·rw[q3,n1,n2];simp
    ·rw[List.mem_append] at hx
     rcases hx with z|z
     ·right
      rcases q4 x z with w|w
      ·exact r2 x w
      ·intro o ho;rw[n1];exact Kp _ (w o ho)
     ·exact .inl z
    ·rw[n2,List.mem_map] at hx
     obtain⟨y,hy,rfl⟩:=hx;obtain⟨v,e1,e3⟩:=hT y (r1.sub y (by rw[n1];exact Ko _ hy)).2;rw[ZE e1] at ho;exact e3 o ho
 refine⟨cr,ar,⟨q1,q2,q3,q4⟩,?_⟩;have ch:=kB n hl (f:=f) (by omega) k;rw[zX zmb rfl];simp only[Ja,Yy,Zw,zly];rw[vI (rs:=[.obj true (.lst ((f.filter fun c=>decide (zM l c=k)).map cD))]) (xs:=f.filter fun c=>decide (zM l c=k)) (f:=cD) (fun c=> !(get ms c).isSome) cD]
 ·simp
  have hflt:(f.filter fun a=>(get ms a).isNone&&decide (zM l a=k))=cr0:=by
   apply List.filter_congr;intro x _;rw[Bool.and_comm];cases get ms x<;>rfl
  have e':=e;rw[hflt,Zw,zlE,show (D.lst (cr0.map cD))=lD cr0 from rfl,show D.lst []=lD [] from rfl,<-yB,e'];rcases h4 with rfl|rfl
  ·simp[yB]
  ·simp[yB]
 ·simp[ch]
 ·rfl
 ·have:=KB (fun c=>decide (zM l c=k)) f
  omega
 ·intro x _
  simp
 ·intro x _ _
  simp
theorem znf(hl:OkL l){ms:Ms}{T:zb->Prop}(h:Final f l ms T): ∃T',wQ f l ms T'/\(∀x∈f,zM l x=1->get ms x=none->∀o∈nb f l x,T' o)/\∀y,T' y->zM l y=0:=by
 refine⟨fun x=>x∈f/\zM l x=0/\¬ ∀o∈nb f l x,T o,fun x ⟨hx,h0,hn⟩=>?_,fun y hy h1 hg o ho=>?_,fun y h=>h.2.1⟩
 ·cases q:get ms x with
  |none=>exact KC (h.free x hx h0 q) hn
  |some v=>
   refine⟨v,rfl,fun o ho=>?_⟩;obtain⟨_,g2,g3⟩:=h.inF _ _ q;have hv:=(jU hl g3).1 h0;rw[wj] at ho;refine⟨ho.1,(jU hl ho.2).2 hv,fun hT=>hn ?_⟩;have hTv:=hT v (wj.mpr ⟨g2,by rw[YL];exact ho.2⟩);obtain⟨x',e1,e2⟩:=h.cl v hTv;rw[h.sym _ _ q] at e1;cases e1;exact e2
 ·rw[wj] at ho
  refine⟨ho.1,(jU hl ho.2).2 h1,fun hT=>?_⟩;obtain⟨x',e1,_⟩:=h.cl y (hT y (wj.mpr ⟨hy,by rw[YL];exact ho.2⟩));rw[hg] at e1;cases e1
noncomputable def ZF(l:zb)(cr ar:List zb)(c:zb):Bool:=if zM l c=0 then decide (c∉cr) else decide (c∈ar)
theorem zng(n:Nat)(hl:OkL l)(c:zb)(cr ar:List zb):zv U zh (n+4) 41 [cD l,cD c,lD cr,lD ar]=some (.val (.bl (ZF l cr ar c))):=by
 rw[zX zmc rfl];unfold ZF;have hh:=zaz n hl c;by_cases h0:zM l c=0
 ·simp[YF,hh,h0,ku]
 ·simp[YF,hh,h0,zmF]
noncomputable def kD(f:List zb)(l:zb)(cr ar:List zb):List zb:=f.filter (ZF l cr ar)
noncomputable def kE(f:List zb)(l:zb)(cr ar:List zb):List zb:=f.filter fun c=> !ZF l cr ar c
theorem znh{a b:Bool}:zg .eq [.bl a,.bl b]=some (.val (.bl (a==b))):=by rw[YA rfl rfl,zH]
theorem zni(n:Nat)(hl:OkL l)(hf:OkF f): ∃ms T cr ar,Final f l ms T/\Crowd f l ms T 0 cr ar/\∀b,zv U zh (n+30) 42 [fD f,cD l,.bl b]=some (.obj true (lD (f.filter fun c=>ZF l cr ar c==b))):=by
 have hlen:=hf.len;have hl':=yA;obtain⟨ms,T,h1,h2⟩:=zaA n hl hf;obtain⟨cr,ar,h3,h4⟩:=zeP (n+24) hl hf h1.toMatch h1.cl (k:=0) h1.free;refine⟨ms,T,cr,ar,h1,h3,fun b=>?_⟩;rw[zX zmd rfl];simp only[Jb];simp[vJ (n+25) hf,vK (n+26) hl,h2,h4];rw[vI (rs:=[.val (fD f)]) (xs:=f) (f:=cD) (fun c=>ZF l cr ar c==b) cD]
 ·simp[lD]
 ·simp
 ·rfl
 ·omega
 ·intro x _
  simp[zng (n+25) hl,znh]
 ·intro x _ _;simp
theorem znj(n:Nat)(hl:OkL l)(hf:OkF f): ∃ms T cr ar,Final f l ms T/\Crowd f l ms T 0 cr ar/\zv U zh (n+31) 44 [fD f,cD l]=some (.obj true (lD (kD f l cr ar)))/\
  zv U zh (n+31) 45 [fD f,cD l]=some (.obj true (lD (kE f l cr ar))):=by
 obtain⟨ms,T,cr,ar,h1,h2,h3⟩:=zni n hl hf;refine⟨ms,T,cr,ar,h1,h2,?_,?_⟩
 ·rw[zX zmf rfl]
  simp[Jd,h3 true];rfl
 ·rw[zX zmg rfl]
  simp[Je,h3 false]
  congr 1
theorem zaB{g:List zb}:zg .len [lD g]=some (.val (.int g.length)):=by simp[lD]
end
end LK
namespace LK
open L2.LW
section
variable {α:Type}
noncomputable def dG(g:α->D)(ms:List (zb×α)):D:=.dct true (ms.map fun p=>cD p.1) (ms.map fun p=>g p.2)
noncomputable def zJ(ms:List (zb×α))(c:zb):Option α:=(ms.find? fun p=>decide (p.1=c)).map (·.2)
theorem jn(p:zb×α)(r:List (zb×α))(c:zb):zJ (p::r) c=if p.1=c then some p.2 else zJ r c:=by
 unfold zJ;rw[List.find?_cons];by_cases h:p.1=c<;>simp[h]
theorem wF(c:zb): ∀ms:List (zb×α),(zJ ms c).isSome=decide (c∈ms.map (·.1))
 |[]=>rfl
 |p::r=>by
  rw[jn,List.map_cons];by_cases h:p.1=c
  ·simp[h]
  ·rw[if_neg h,wF c r]
   have: ¬c=p.1:=fun z=>h z.symm
   simp[this]
theorem zeQ(g:α->D)(c:zb): ∀ms:List (zb×α),dget (ms.map fun p=>cD p.1) (ms.map fun p=>g p.2) (cD c)=(zJ ms c).map g
 |[]=>rfl
 |p::r=>by
  have ih:=zeQ g c r;unfold dget yF at ih⊢;rw[List.map_cons,List.map_cons,List.findIdx?_cons,YK,jn];by_cases h:p.1=c
  ·simp[h]
  ·rw[if_neg h,<-ih]
   simp only[h,decide_false,Bool.false_eq_true,if_false];cases (List.findIdx? (fun x=>zH x (cD c)) (r.map fun p=>cD p.1))<;>simp
theorem Jv(ms:List (zb×α)):(ms.map fun p=>cD p.1)=(ms.map (·.1)).map cD:=by rw[List.map_map];rfl
theorem Jw{g:α->D}{c:zb}{ms:List (zb×α)}:zg .nin [cD c,dG g ms]=some (.val (.bl (!(zJ ms c).isSome))):=by
 simp only[dG,zg,ja,jl,if_true,yG,Jv,jR,wF]
theorem znk{g:α->D}{c:zb}{ms:List (zb×α)}{v:α}(h:zJ ms c=some v):zg .idx [dG g ms,cD c]=some (.val (g v)):=by
 simp only[dG,zg,jb,jl,if_true,zeQ,h,Option.map_some]
theorem zeR{g:α->D}{ms:List (zb×α)}{c:zb}{v:α}(h:zJ ms c=none):xm true (ms.map fun p=>cD p.1) (ms.map fun p=>g p.2) (cD c) (g v)=dG g (ms++[(c,v)]):=by
 unfold xm;rw[Jv,jR,<-wF,h];simp[dG]
theorem jo{ms:List (zb×α)}{c x:zb}{v:α}(h:zJ ms c=none):zJ (ms++[(c,v)]) x=if x=c then some v else zJ ms x:=by
 induction ms with
 |nil=>
  show zJ ((c,v)::[]) x=_;rw[jn];by_cases e:c=x
  ·subst e;simp
  ·have: ¬x=c:=fun z=>e z.symm
   rw[if_neg e,if_neg this]
 |cons p r ih=>
  rw[jn] at h;split at h
  ·cases h
  ·rename_i hp
   rw[List.cons_append,jn,jn,ih h];by_cases e:p.1=x
   ·rw[if_pos e,if_pos e,if_neg (fun z=>hp (e.trans z))]
   ·rw[if_neg e,if_neg e]
theorem znl{g:α->D}{ρ:Env}{i:Nat}{ms:List (zb×α)}{c:zb}{v:α}(h:zJ ms c=none)(hl:ms.length<line):
  ji ρ i (some (.val (cD c))) (some (.val (g v))) (some (some (.obj true (dG g ms))))=some (.nx,ρ.set i (some (.obj true (dG g (ms++[(c,v)]))))):=by
 rw[dG,zee];simp only[Option.bind_some,Zx,jl,List.length_map,hl,decide_true,Bool.and_self,if_true,zeR h]
end
section
variable (f:List zb) (l:zb)
noncomputable def Bk(goal:zb):Nat->zb->Prop
 |0,c=>c=goal
 |k+1,c=>Bk goal k c\/(c∈f/\∃p,Bk goal k p/\ym l c p=true)
noncomputable def Lv(goal:zb)(k:Nat)(c:zb):Prop:=Bk f l goal k c/\∀i,i<k->¬Bk f l goal i c
noncomputable abbrev vN:=List (zb×Option zb)
noncomputable def oD:Option zb->D
 |none=>.non
 |some c=>cD c
structure LOk (goal:zb)(ms:vN):Prop where
 nd:(ms.map (·.1)).Nodup
 sub: ∀c,(zJ ms c).isSome=true->c∈f
 root: ∀c,zJ ms c=some none->c=goal
 next: ∀c p,zJ ms c=some (some p)->ym l c p=true/\∃j,Lv f l goal (j+1) c/\Lv f l goal j p/\(zJ ms p).isSome=true
end
section
variable {f:List zb} {l:zb} {goal:zb}
theorem Bk.mono: ∀{k m:Nat} {c:zb},k<=m->Bk f l goal k c->Bk f l goal m c
 |k,0,c,h,b=>by
  have:k=0:=by omega
  subst this;exact b
 |k,m+1,c,h,b=>by
  by_cases e:k=m+1
  ·subst e;exact b
  ·exact .inl (Bk.mono (by omega) b)
theorem Bk.lv{k:Nat}{c:zb}(h:Bk f l goal k c): ∃j,j<=k/\Lv f l goal j c:=by
 induction k with
 |zero=>exact⟨0,Nat.le_refl _,h,fun i hi=>by omega⟩
 |succ k ih=>
  by_cases hk:Bk f l goal k c
  ·obtain⟨j,h1,h2⟩:=ih hk
   exact⟨j,by omega,h2⟩
  ·exact⟨k+1,Nat.le_refl _,h,fun i hi z=>hk (z.mono (by omega))⟩
theorem LOk.len{ms:vN}(h:LOk f l goal ms):ms.length<=f.length:=by
 have:=vM (l:=ms.map fun (p:zb×Option zb)=>p.1) (m:=f) h.nd fun x hx=>h.sub x (by rw[wF];simpa using hx)
 simpa using this
noncomputable def yx(F:D)(l goal:zb)(ms:vN)(s4 s5 s6 s7:Option SV):Env:=[some (.val F),some (.val (cD l)),some (.val (cD goal)),some (.obj true (dG oD ms)),s4,s5,s6,s7]
theorem znm(n:Nat){F:D}(hf:f.length<=100){ms:vN}{fu:List zb}{s4:Option SV}{k:Nat}{c o:zb}(hm:LOk f l goal ms)(hc:Lv f l goal k c)(hcm:(zJ ms c).isSome=true)(hk: ∀x,Bk f l goal k x->(zJ ms x).isSome=true)(hof:o∈f)(hn:ym l c o=true)(hfu:fu.length<=1000):
  ((zJ ms o).isSome=true/\zr (zC U zh n) zh YC (yx F l goal ms s4 (some (.obj true (lD fu))) (some (.val (cD c))) (some (.val (cD o))))=some (.nx,yx F l goal ms s4 (some (.obj true (lD fu))) (some (.val (cD c))) (some (.val (cD o)))))\/
  (zJ ms o=none/\LOk f l goal (ms++[(o,some c)])/\Lv f l goal (k+1) o/\zr (zC U zh n) zh YC (yx F l goal ms s4 (some (.obj true (lD fu))) (some (.val (cD c))) (some (.val (cD o))))=
   some (.nx,yx F l goal (ms++[(o,some c)]) s4 (some (.obj true (lD (fu++[o])))) (some (.val (cD c))) (some (.val (cD o))))):=by
 have hl':=yA;have hml:=hm.len
 cases hg:zJ ms o with
 |some v=>
  refine .inl ⟨rfl,?_⟩;simp[YC,yx,Jw,hg]
 |none=>
  have hlv:Lv f l goal (k+1) o:=⟨.inr ⟨hof,c,hc.1,by rw[YL];exact hn⟩,fun i hi b=>by
   have:=hk o (b.mono (by omega));rw[hg] at this;cases this⟩
  have hno:o≠c:=fun e=>by subst e;rw[hg] at hcm;cases hcm
  refine .inr ⟨rfl,⟨?_,fun x hx=>?_,fun x hx=>?_,fun x p hx=>?_⟩,hlv,?_⟩
  ·rw[List.map_append,List.nodup_append]
   refine⟨hm.nd,by simp,fun a ha b hb e=>?_⟩;simp at hb;subst hb;subst e;have:(zJ ms a).isSome=true:=by rw[wF];simpa using ha
   rw[hg] at this;cases this
  ·rw[jo hg] at hx
   split at hx
   ·rename_i e;subst e;exact hof
   ·exact hm.sub x hx
  ·rw[jo hg] at hx
   split at hx
   ·cases hx
   ·exact hm.root x hx
  ·rw[jo hg] at hx
   have up: ∀y,(zJ ms y).isSome=true->(zJ (ms++[(o,some c)]) y).isSome=true:=fun y hy=>by
    rw[jo hg];split
    ·rfl
    ·exact hy
   split at hx
   ·rename_i e
    cases hx;subst e;exact⟨by rw[YL];exact hn,k,hlv,hc,up _ hcm⟩
   ·obtain⟨h1,j,h2,h3,h4⟩:=hm.next x p hx
    exact⟨h1,j,h2,h3,up _ h4⟩
  ·have e1: ∀ρ:Env,ji ρ 3 (some (.val (cD o))) (some (.val (cD c))) (some (some (.obj true (dG oD ms))))=some (.nx,ρ.set 3 (some (.obj true (dG oD (ms++[(o,some c)]))))):=fun ρ=>znl (g:=oD) (v:=some c) hg (by omega)
   have e2: ∀(ρ:Env),jM ρ 5 (some (.val (cD o))) (some (some (.obj true (lD fu))))=some (.nx,ρ.set 5 (some (.obj true (lD (fu++[o]))))):=fun ρ=>by
    rw[lD,Vq];have:fu.length<line:=by omega
    simp only[Option.bind_some,Zx,List.length_map,this,if_true];simp[lD]
   simp[YC,yx,Jw,hg,e1,e2]
structure Rg (f:List zb)(l goal:zb)(k:Nat)(ms0 ms:vN)(fu:List zb):Prop extends LOk f l goal ms where
 old: ∀x,Bk f l goal k x->(zJ ms x).isSome=true
 fu_: ∀x,x∈fu↔(zJ ms x).isSome=true/\Lv f l goal (k+1) x
 up: ∀x,(zJ ms x).isSome=true->Bk f l goal (k+1) x
 nd2:fu.Nodup
 cnt:ms.length=ms0.length+fu.length
theorem znn(n:Nat){F:D}(hF:xS F=some (f.map cD))(hf:f.length<=100){ms0 ms:vN}{fu:List zb}{s4 s7:Option SV}{k:Nat}{c:zb}(h:Rg f l goal k ms0 ms fu)(hc:Lv f l goal k c)(h7:zB (some s7)=true):
  ∃ms' fu' s7',zr (zC U zh (n+3)) zh kb (yx F l goal ms s4 (some (.obj true (lD fu))) (some (.val (cD c))) s7)=some (.nx,yx F l goal ms' s4 (some (.obj true (lD fu'))) (some (.val (cD c))) s7')/\
   Rg f l goal k ms0 ms' fu'/\(∀o∈nb f l c,(zJ ms' o).isSome=true)/\(∀x,(zJ ms x).isSome=true->(zJ ms' x).isSome=true)/\zB (some s7')=true:=by
 obtain⟨ρ',e,ms',fu',s7',rfl,r1,r2,r3,r4⟩:=ZD (i:=7) (body:=zr (zC U zh (n+3)) zh YC)
  (fun pre ρ=>∃ms' fu' s7',ρ=yx F l goal ms' s4 (some (.obj true (lD fu'))) (some (.val (cD c))) s7'/\Rg f l goal k ms0 ms' fu'/\(∀o∈pre,(zJ ms' o).isSome=true)/\(∀x,(zJ ms x).isSome=true->(zJ ms' x).isSome=true)/\zB (some s7')=true)
  (xs:=nb f l c) (ρ:=yx F l goal ms s4 (some (.obj true (lD fu))) (some (.val (cD c))) s7) ⟨ms,fu,s7,rfl,h,fun o ho=>(by cases ho),fun y hy=>hy,h7⟩
  fun pre o post ρ e zz5=>by
   obtain⟨ms',fu',s7',eρ,r1,r2,r3,r4⟩:=zz5;subst eρ;have ho:o∈nb f l c:=by rw[e];simp
   have hlen:=r1.len;have hcnt:=r1.cnt;rcases znm (n+3) hf (fu:=fu') (s4:=s4) r1.toLOk hc (r1.old c hc.1) r1.old (wj.mp ho).1 (wj.mp ho).2 (by omega) with ⟨q1,e2⟩|⟨q1,q2,q3,e2⟩
   ·refine⟨_,_,e2,.inl rfl,ms',fu',_,rfl,r1,fun y hy=>?_,r3,yS⟩
    rw[List.mem_append,List.mem_singleton] at hy;rcases hy with z|rfl
    ·exact r2 y z
    ·exact q1
   ·have up: ∀y,(zJ ms' y).isSome=true->(zJ (ms'++[(o,some c)]) y).isSome=true:=fun y hy=>by
     rw[jo q1];split
     ·rfl
     ·exact hy
    refine⟨_,_,e2,.inl rfl,_,_,_,rfl,{ q2 with old:=fun x hx=>up x (r1.old x hx),fu_:=fun x=>?_,up:=fun x hx=>?_,nd2:=?_,cnt:=?_ },fun y hy=>?_,fun x hx=>up x (r3 x hx),yS⟩
    ·rw[List.mem_append,List.mem_singleton,r1.fu_ x,jo q1]
     by_cases ex:x=o
     ·subst ex;simp[q3]
     ·simp[ex]
    ·rw[jo q1] at hx
     split at hx
     ·rename_i ex;rw[ex];exact q3.1
     ·exact r1.up x hx
    ·rw[List.nodup_append]
     refine⟨r1.nd2,by simp,fun a ha b hb eab=>?_⟩;simp at hb;subst hb;subst eab;have:=((r1.fu_ a).mp ha).1;rw[q1] at this;cases this
    ·simp;omega
    ·rw[List.mem_append,List.mem_singleton] at hy
     rcases hy with z|rfl
     ·exact up y (r2 y z)
     ·rw[jo q1];simp
 refine⟨ms',fu',s7',?_,r1,r2,r3,r4⟩;have cn:=zez n l c hF (by omega:f.length<=1000);simp only[kb,Yy,jj];simp[yx,cn,h7];rw[<-nb,<-yx,e];simp[yx]
theorem zno(n:Nat){F:D}(hF:xS F=some (f.map cD))(hf:f.length<=100){ms:vN}{ed:List zb}{s5 s6 s7:Option SV}{k:Nat}(hm:LOk f l goal ms)(hk: ∀x,Bk f l goal k x↔(zJ ms x).isSome=true)(hed: ∀x,x∈ed↔Lv f l goal k x)
  {s4:Option SV} (hs4:s4=some (.val (lD ed))\/s4=some (.obj true (lD ed))) (h5:zB (some s5)=true) (h6:zB (some s6)=true) (h7:zB (some s7)=true):
  ∃ms' fu s5' s6' s7',zr (zC U zh (n+3)) zh kc (yx F l goal ms s4 s5 s6 s7)=some (.nx,yx F l goal ms' (some (.val (lD fu))) s5' s6' s7')/\
   LOk f l goal ms'/\(∀x,Bk f l goal (k+1) x↔(zJ ms' x).isSome=true)/\(∀x,x∈fu↔Lv f l goal (k+1) x)/\ms'.length=ms.length+fu.length/\zB (some s5')=true/\zB (some s6')=true/\zB (some s7')=true:=by
 have f0: ∀x,x∈([]:List zb)↔(zJ ms x).isSome=true/\Lv f l goal (k+1) x:=fun x=>by
  constructor
  ·intro z;cases z
  ·rintro⟨z1,z2⟩;exact KC ((hk x).mpr z1) (z2.2 k (Nat.lt_succ_self k))
 have R0:Rg f l goal k ms ms []:={ hm with old:=fun x=>(hk x).mp,fu_:=f0,up:=fun x hx=>.inl ((hk x).mpr hx),nd2:=by simp,cnt:=by simp }
 obtain⟨ρ',e,ms',fu,s6',s7',rfl,r1,r2,r3,r4⟩:=ZD (i:=6) (body:=zr (zC U zh (n+3)) zh kb)
  (fun pre ρ=>∃ms' fu s6' s7',ρ=yx F l goal ms' (some (.val (lD ed))) (some (.obj true (lD fu))) s6' s7'/\Rg f l goal k ms ms' fu/\(∀x∈pre,∀o∈nb f l x,(zJ ms' o).isSome=true)/\zB (some s6')=true/\zB (some s7')=true)
  (xs:=ed) (ρ:=yx F l goal ms (some (.val (lD ed))) (some (.obj true (lD []))) s6 s7) ⟨ms,[],s6,s7,rfl,R0,fun o ho=>(by cases ho),h6,h7⟩
  fun pre x post ρ e zz5=>by
   obtain⟨ms',fu,s6',s7',eρ,r1,r2,r3,r4⟩:=zz5;subst eρ;have hx:x∈ed:=by rw[e];simp
   obtain⟨ms2,fu2,s72,e2,q1,q2,q3,q4⟩:=znn n hF hf (s4:=some (.val (lD ed))) (s7:=s7') r1 ((hed x).mp hx) r4;refine⟨_,_,e2,.inl rfl,ms2,fu2,_,s72,rfl,q1,fun y hy o ho=>?_,yS,q4⟩;rw[List.mem_append,List.mem_singleton] at hy;rcases hy with z|rfl
   ·exact q3 o (r2 y z o ho)
   ·exact q2 o ho
 have full: ∀x,Bk f l goal (k+1) x↔(zJ ms' x).isSome=true:=fun x=>by
  refine⟨fun b=>?_,r1.up x⟩;rcases b with b|⟨hxf,p,hp,hn⟩
  ·exact r1.old x b
  ·by_cases hb:Bk f l goal k x
   ·exact r1.old x hb
   ·obtain⟨j,hj,hlv⟩:=hp.lv
    have:j=k:=by
     by_cases e:j=k
     ·exact e
     ·exact KC (Bk.mono (k:=j+1) (by omega) (.inr ⟨hxf,p,hlv.1,hn⟩)) hb
    subst this;exact r2 p ((hed p).mpr hlv) x (wj.mpr ⟨hxf,by rw[YL];exact hn⟩)
 refine⟨ms',fu,some (.val (lD fu)),s6',s7',?_,r1.toLOk,full,fun x=>?_,r1.cnt,yS,r3,r4⟩
 ·simp only[kc]
  rcases hs4 with rfl|rfl
  ·simp[yx,h5,h6,jk]
   rw[show xS (lD ed)=some (ed.map cD) from rfl,show D.lst []=lD [] from rfl];simp only[Option.map_some,Option.bind_some];rw[<-yx,e];simp[yx]
  ·simp[yx,h5,h6,jk]
   rw[show Vp [some (SV.val F),some (SV.val (cD l)),some (SV.val (cD goal)),some (SV.obj true (dG oD ms)),some (SV.obj true (lD ed)),some (SV.obj true (D.lst [])),s6,s7] 4 (some (some (SV.obj true (lD ed))))=some (ed.map cD,yx F l goal ms (some (.val (lD ed))) (some (.obj true (lD []))) s6 s7) from rfl];simp only[Option.map_some,Option.bind_some];rw[e];simp[yx]
 ·rw[r1.fu_ x]
  exact⟨fun z=>z.2,fun z=>⟨(full x).mp z.1,z⟩⟩
structure LFull (f:List zb)(l goal:zb)(ms:vN):Prop extends LOk f l goal ms where
 all: ∀x,(zJ ms x).isSome=true↔∃k,Bk f l goal k x
theorem zeS(n:Nat){F:D}(hF:xS F=some (f.map cD))(hf:f.length<=100)(hg:goal∈f): ∃ms,LFull f l goal ms/\zv U zh (n+4) 20 [F,cD l,cD goal]=some (.obj true (dG oD ms)):=by
 have ms0:LOk f l goal [(goal,none)]:=by
  refine⟨by simp,fun c hc=>?_,fun c hc=>?_,fun c p hc=>?_⟩
  ·rw[wF] at hc;simp at hc;subst hc;exact hg
  ·rw[jn] at hc;split at hc
   ·rename_i z;exact z.symm
   ·cases hc
  ·rw[jn] at hc;split at hc
   ·cases hc
   ·cases hc
 obtain⟨ρ',e,ms,s4,s5,s6,s7,rfl,h1,h2⟩:=QZ (test:=zA (zv U zh (n+3)) (.prim .gt (.cons (.prim .len (.cons (.var 4) .nil)) (.cons (.int 0) .nil)))) (body:=zr (zC U zh (n+3)) zh kc)
  (fun m ρ=>∃k ms ed s4 s5 s6 s7,ρ=yx F l goal ms s4 s5 s6 s7/\(s4=some (.val (lD ed))\/s4=some (.obj true (lD ed)))/\LOk f l goal ms/\(∀x,Bk f l goal k x↔(zJ ms x).isSome=true)/\(∀x,x∈ed↔Lv f l goal k x)/\(zB (some s5)=true/\zB (some s6)=true/\zB (some s7)=true)/\m=2*(f.length-ms.length)+(if ed=[] then 0 else 1))
  (fun ρ=>∃ms s4 s5 s6 s7,ρ=yx F l goal ms s4 s5 s6 s7/\LFull f l goal ms/\True)
  (m:=2*(f.length-1)+1) (n:=zh) (ρ:=yx F l goal [(goal,none)] (some (.obj true (lD [goal]))) none none none) (by unfold zh;omega)
  ⟨0,_,[goal],_,none,none,none,rfl,.inr rfl,ms0,fun x=>by
    rw[wF];simp[Bk],fun x=>by
    rw[List.mem_singleton];exact⟨fun z=>⟨z,fun i hi=>by omega⟩,fun z=>z.1⟩,⟨rfl,rfl,rfl⟩,by simp⟩
  fun m ρ zz2=>by
   obtain⟨k,ms,ed,s4,s5,s6,s7,eρ,hs4,q1,q2,q3,q4,q5⟩:=zz2;subst eρ
   have ht:zA (zv U zh (n+3)) (.prim .gt (.cons (.prim .len (.cons (.var 4) .nil)) (.cons (.int 0) .nil))) (yx F l goal ms s4 s5 s6 s7)=some (decide (0<ed.length)):=by
    rcases hs4 with rfl|rfl
    ·simp[yx,lD]
    ·simp[yx,lD]
   by_cases hed:ed=[]
   ·subst hed
    refine .inl ⟨by rw[ht];rfl,ms,s4,s5,s6,s7,rfl,{ q1 with all:=fun x=>⟨fun z=>⟨k,(q2 x).mpr z⟩,fun ⟨j,hj⟩=>?_⟩ },trivial⟩
    have none_: ∀j x,Bk f l goal j x->Bk f l goal k x:=by
     intro j
     induction j with
     |zero=>intro x hx;exact hx.mono (Nat.zero_le k)
     |succ j ih=>
      intro x hx;rcases hx with hx|⟨hxf,p,hp,hn⟩
      ·exact ih x hx
      ·obtain⟨i,hi,hlv⟩:=(ih p hp).lv
       by_cases e:i=k
       ·subst e;exact KC ((q3 p).mpr hlv) (by simp)
       ·exact Bk.mono (k:=i+1) (by omega) (.inr ⟨hxf,p,hlv.1,hn⟩)
    exact (q2 x).mp (none_ j x hj)
   ·have hpos:0<ed.length:=List.length_pos_iff.mpr hed
    refine .inr ⟨by rw[ht];simp[hpos],?_⟩;obtain⟨ms',fu,s5',s6',s7',e2,r1,r2,r3,r4,r5⟩:=zno n hF hf q1 q2 q3 hs4 q4.1 q4.2.1 q4.2.2;have hl1:=r1.len;refine⟨_,_,2*(f.length-ms'.length)+(if fu=[] then 0 else 1),e2,.inl rfl,?_,k+1,ms',fu,_,s5',s6',s7',rfl,.inl rfl,r1,r2,r3,r5,rfl⟩;rw[q5,if_neg hed]
    cases fu with
    |nil=>simp at r4⊢;omega
    |cons a b=>simp at r4⊢;omega
 refine⟨ms,h1,?_⟩;rw[zX zlZ rfl];simp only[VM];simp[Zw];rw[show D.dct true [cD goal] [D.non]=dG oD [(goal,none)] from rfl,show D.lst [cD goal]=lD [goal] from rfl,<-yx,e];simp[yx]
theorem znp(n:Nat)(hf:f.length<=100)(hg:goal∈f): ∃ms,LFull f l goal ms/\zv U zh (n+4) 20 [fD f,cD l,cD goal]=some (.obj true (dG oD ms)):=zeS n rfl hf hg
end
end LK
namespace LK
open L2.LW
theorem zeT{α:Type}{R:α->α->Prop}(ir: ∀a,¬R a a)(as: ∀a b,R a b->R b a->False): ∀{l m:List α},l.Pairwise R->m.Pairwise R->(∀x,x∈l↔x∈m)->l=m
 |[],[],_,_,_=>rfl
 |[],y::m,_,_,h=>KC ((h y).mpr Ke) (by simp)
 |x::l,[],_,_,h=>KC ((h x).mp Ke) (by simp)
 |x::l,y::m,hl,hm,h=>by
  rw[List.pairwise_cons] at hl hm
  have exy:x=y:=by
   rcases List.mem_cons.mp ((h x).mp Ke) with e|e
   ·exact e
   ·rcases List.mem_cons.mp ((h y).mpr Ke) with e'|e'
    ·exact e'.symm
    ·exact (as _ _ (hm.1 x e) (hl.1 y e')).elim
  subst exy;rw[zeT ir as hl.2 hm.2 fun z=>?_];constructor
  ·intro hz
   rcases List.mem_cons.mp ((h z).mp (Kf _ hz)) with e|e
   ·subst e;exact (ir _ (hl.1 z hz)).elim
   ·exact e
  ·intro hz
   rcases List.mem_cons.mp ((h z).mpr (Kf _ hz)) with e|e
   ·subst e;exact (ir _ (hm.1 z hz)).elim
   ·exact e
noncomputable def cl(c:zb):List Int:=[c.1,c.2]
theorem zeU{a b:zb}(h:cl a=cl b):a=b:=by
 simp[cl] at h;exact Prod.ext h.1 h.2
theorem znq{a b:zb}(h:yi a b):wP (cl a) (cl b):=by
 show L2.LW.lexLt [a.1,a.2] [b.1,b.2]=true;simp only[L2.LW.lexLt];unfold yi at h;by_cases e:a.1=b.1
 ·have: ¬a.2=b.2:=by omega
  have h2:a.2<b.2:=by omega
  simp[e,this,h2]
 ·have h2:a.1<b.1:=by omega
  simp[e,h2]
theorem zeV: ∀L:List zb,tups? (L.map cD)=some (L.map cl)
 |[]=>rfl
 |c::r=>by simp[tups?,cD,ints?,zeV r,cl]
theorem znr{L g:List zb}(hL:L.Nodup)(hg:g.Pairwise yi)(h: ∀x,x∈L↔x∈g):vz (L.map cl)=g.map cl:=by
 have nd:(L.map cl).Nodup:=by
  rw[List.Nodup,List.pairwise_map];exact hL.imp fun ne e=>ne (zeU e)
 have up:=QO nd;have up2:(g.map cl).Pairwise wP:=by rw[List.pairwise_map];exact hg.imp znq
 refine zeT (R:=wP) (fun a z=>by have:=jJ a;rw[show L2.LW.lexLt a a=true from z] at this;cases this) (fun a b z1 z2=>by have:=Yr z1 z2;rw[jJ] at this;cases this) up up2 fun x=>?_
 rw[(Vj _).mem_iff,List.mem_map,List.mem_map];exact⟨fun ⟨c,hc,e⟩=>⟨c,(h c).mp hc,e⟩,fun ⟨c,hc,e⟩=>⟨c,(h c).mpr hc,e⟩⟩
theorem zeW{L g:List zb}(hL:L.Nodup)(hl:L.length<64)(hg:g.Pairwise yi)(h: ∀x,x∈L↔x∈g):Xv (L.map cD)=some (.obj true (lD g)):=by
 unfold Xv
 have nd:(L.map cl).Nodup:=by
  rw[List.Nodup,List.pairwise_map];exact hL.imp fun ne e=>ne (zeU e)
 rw[zeV,Option.bind_some,if_pos ⟨by simpa using hl,nd,by simp[cl]⟩,znr hL hg h,List.map_map];rfl
theorem zns{L g:List zb}(h0:L≠[])(hL:L.Nodup)(hl:L.length<64)(hg:g.Pairwise yi)(h: ∀x,x∈L↔x∈g):Qf (L.map cD)=some (.obj true (lD g)):=by
 unfold Qf
 have:ints? (L.map cD)=none:=by
  cases L with
  |nil=>exact KC rfl h0
  |cons c r=>rfl
 rw[this];exact zeW hL hl hg h
section
variable {α:Type} (g:α->D)
theorem znt{ms:List (zb×α)}{c:zb}{v:α}(h:(zJ ms c).isSome=true):xm true (ms.map fun p=>cD p.1) (ms.map fun p=>g p.2) (cD c) (g v)=dG g (ms.map fun p=>if p.1=c then (p.1,v) else p):=by
 unfold xm;rw[Jv,jR,<-wF,if_pos h,<-Jv]
 have: ∀ms:List (zb×α),List.zipWith (fun k' v'=>if zH k' (cD c)=true then g v else v') (ms.map fun p=>cD p.1) (ms.map fun p=>g p.2)=ms.map fun p=>g (if p.1=c then (p.1,v) else p).2:=by
  intro ms
  induction ms with
  |nil=>rfl
  |cons p r ih=>
   rw[List.map_cons,List.map_cons,List.zipWith_cons_cons,ih,List.map_cons,YK];by_cases h:p.1=c<;>simp[h]
 rw[this];unfold dG;rw[List.map_map,List.map_map]
 congr 1
 apply List.map_congr_left;intro p _;show cD p.1=cD (if p.1=c then (p.1,v) else p).1;split<;>rfl
theorem zeX: ∀(ms2 ms:List (zb×α)),∃ms':List (zb×α),vf (ms.map fun p=>cD p.1) (ms.map fun p=>g p.2) (ms2.map fun p=>cD p.1) (ms2.map fun p=>g p.2)=(ms'.map (fun p=>cD p.1),ms'.map fun p=>g p.2)/\
  (∀c,(zJ ms' c).isSome=((zJ ms c).isSome||(zJ ms2 c).isSome))/\ms'.length<=ms.length+ms2.length
 |[],ms=>⟨ms,by simp[vf],fun c=>by simp[zJ],by simp⟩
 |p::r,ms=>by
  have st: ∃ms1:List (zb×α),xm true (ms.map fun p=>cD p.1) (ms.map fun p=>g p.2) (cD p.1) (g p.2)=dG g ms1/\(∀c,(zJ ms1 c).isSome=((zJ ms c).isSome||decide (p.1=c)))/\ms1.length<=ms.length+1:=by
   by_cases h:(zJ ms p.1).isSome=true
   ·refine⟨_,znt g h,fun c=>?_,by simp⟩
    have hk:((ms.map fun q=>if q.1=p.1 then (q.1,p.2) else q).map (·.1))=ms.map (·.1):=by
     rw[List.map_map];apply List.map_congr_left;intro q _;show (if q.1=p.1 then (q.1,p.2) else q).1=q.1;split<;>rfl
    rw[wF,hk,<-wF];by_cases e:p.1=c
    ·subst e;simp[h]
    ·simp[e]
   ·have h':zJ ms p.1=none:=by simpa using h
    refine⟨_,zeR h',fun c=>?_,by simp⟩;rw[jo h'];by_cases e:c=p.1
    ·subst e;simp
    ·have: ¬p.1=c:=fun z=>e z.symm
     simp[e,this]
  obtain⟨ms1,e1,e2,e3⟩:=st;obtain⟨ms',f1,f2,f3⟩:=zeX r ms1;refine⟨ms',?_,fun c=>?_,by simp;omega⟩
  ·rw[List.map_cons,List.map_cons,vf,e1]
   exact f1
  ·rw[f2,e2,jn]
   by_cases e:p.1=c
   ·simp[e]
   ·simp[e]
end
theorem znu{α:Type}{g:α->D}{ms:List (zb×α)}(h: ∀c∈ms.map (·.1),jP c):(ms.map fun p=>cD p.1).all XE=true:=by
 rw[List.all_eq_true];intro d hd;rw[List.mem_map] at hd;obtain⟨p,hp,rfl⟩:=hd;have:=h p.1 (List.mem_map.mpr ⟨p,hp,rfl⟩);unfold jP at this;simp[cD,XE];omega
noncomputable def wR(f:List zb)(l c:zb):List zb:=f.filter fun x=>@decide (∃k,Bk f l c k x) (Classical.propDecidable _)
theorem zeY{f:List zb}{l c x:zb}:x∈wR f l c↔x∈f/\∃k,Bk f l c k x:=by
 unfold wR;rw[List.mem_filter];simp
noncomputable def wk(f:List zb)(l:zb):List zb->List (List zb)->List (List zb)
 |[],acc=>acc
 |c::r,acc=>if c∈acc.flatten then wk f l r acc else wk f l r (acc++[wR f l c])
noncomputable def vn(f:List zb)(l:zb):List (List zb):=wk f l f []
noncomputable def yk(P:List (List zb)):D:=.lst (P.map lD)
end LK
namespace LK
open L2.LW
theorem Jx{f:List zb}{l x:zb}: ∀{g:List zb} {acc:List (List zb)},wk f l (g++[x]) acc=if x∈(wk f l g acc).flatten then wk f l g acc else wk f l g acc++[wR f l x]
 |[],acc=>by
  show wk f l [x] acc=_;rw[wk];rfl
 |c::r,acc=>by
  rw[List.cons_append,wk,wk];split
  ·exact Jx
  ·exact Jx
theorem znv{f:List zb}{l c:zb}(h:f.Pairwise yi):(wR f l c).Pairwise yi:=h.filter _
section
variable {f:List zb} {l:zb}
noncomputable def wS(F:D)(l:zb)(acc:List (List zb))(ms:vN)(s4 s5:Option SV):Env:=[some (.val F),some (.val (cD l)),some (.obj true (yk acc)),some (.obj true (dG oD ms)),s4,s5]
theorem znw(n:Nat){F:D}(hF:xS F=some (f.map cD))(hf:OkF f){acc:List (List zb)}{ms:vN}{c:zb}{s5:Option SV}(hc:c∈f)(hm: ∀x,(zJ ms x).isSome=decide (x∈acc.flatten))(hl:ms.length<=1000)(ha:acc.length<=1000)(h5:zB (some s5)=true):
  ∃ms' s5',zr (zC U zh (n+4)) zh VU (wS F l acc ms (some (.val (cD c))) s5)=some (.nx,wS F l (if c∈acc.flatten then acc else acc++[wR f l c]) ms' (some (.val (cD c))) s5')/\
   (∀x,(zJ ms' x).isSome=decide (x∈(if c∈acc.flatten then acc else acc++[wR f l c]).flatten))/\ms'.length<=ms.length+24/\zB (some s5')=true:=by
 have hl':=yA;by_cases hin:c∈acc.flatten
 ·refine⟨ms,s5,?_,by simpa [hin] using hm,by omega,h5⟩
  have h1:=hm c;rw[decide_eq_true hin] at h1;rw[if_pos hin];simp[VU,wS,Jw,h1]
 ·have hlen:=hf.len
  obtain⟨ms2,q,e2⟩:=zeS (l:=l) n hF (by omega:f.length<=100) hc;obtain⟨ms',f1,f2,f3⟩:=zeX oD ms2 ms;have len2:=q.toLOk.len;have h1:=hm c;rw[KG hin] at h1
  have sub: ∀x,x∈ms2.map (·.1)↔x∈wR f l c:=fun x=>by
   rw[zeY,<-q.all x,wF,decide_eq_true_iff];refine⟨fun z=>⟨q.sub x (by rw[wF,decide_eq_true_iff];exact z),z⟩,fun z=>z.2⟩
  have sk:zg .skeys [dG oD ms2]=some (.obj true (lD (wR f l c))):=by
   show Xv (ms2.map fun p=>cD p.1)=_;rw[Jv];exact zeW q.nd (by rw[List.length_map];omega) (znv hf.rise) sub
  have ed: ∀s4,XF (wS F l acc ms s4 (some (.obj true (dG oD ms2)))) 3 5=some (.nx,wS F l acc ms' s4 (some (.obj true (dG oD ms2)))):=fun s4=>by
   show Qk _ 3 (.obj true (dG oD ms)) (some (dG oD ms)) (some (dG oD ms2))=_;unfold dG;have sm:=znu (g:=oD) (ms:=ms2) fun x hx=>hf.cells x (zeY.mp ((sub x).mp hx)).1
   have le:ms.length+ms2.length<line:=by omega
   simp only[Qk,sm,List.length_map,le,decide_true,Bool.and_self,if_true,f1];rfl
  have ap: ∀(ρ:Env),jM ρ 2 (some (.obj true (lD (wR f l c)))) (some (some (.obj true (yk acc))))=some (.nx,ρ.set 2 (some (.obj true (yk (acc++[wR f l c]))))):=fun ρ=>by
   rw[yk,Vq];have:acc.length<line:=by omega
   simp only[Option.bind_some,zeh,List.length_map,this,if_true];simp[yk]
  refine⟨ms',some (.obj true (dG oD ms2)),?_,fun x=>?_,by omega,zlz⟩
  ·rw[if_neg hin]
   simp[VU,wS,Jw,h1,e2,h5];rw[<-wS,ed];simp[wS,sk,ap]
  ·rw[if_neg hin,f2,hm,List.flatten_append,Bool.eq_iff_iff]
   have:(zJ ms2 x).isSome=decide (x∈wR f l c):=by rw[wF,Bool.eq_iff_iff];simp[sub x]
   rw[this];simp
theorem zeZ(n:Nat){F:D}(hF:xS F=some (f.map cD))(hf:OkF f):zv U zh (n+5) 30 [F,cD l]=some (.obj true (yk (vn f l))):=by
 have hlen:=hf.len
 obtain⟨ρ',e,ms,s4,s5,rfl,_⟩:=ZD (i:=4) (body:=zr (zC U zh (n+4)) zh VU)
  (fun pre ρ=>∃ms s4 s5,ρ=wS F l (wk f l pre []) ms s4 s5/\(∀x,(zJ ms x).isSome=decide (x∈(wk f l pre []).flatten))/\ms.length<=24*pre.length/\(wk f l pre []).length<=pre.length/\zB (some s5)=true)
  (xs:=f) (ρ:=wS F l [] [] none none) ⟨[],none,none,rfl,fun x=>by simp[wk,zJ],by simp,by simp[wk],rfl⟩
  fun pre c post ρ e zz5=>by
   obtain⟨ms,s4,s5,eρ,r1,r2,r3,r4⟩:=zz5;subst eρ;have hc:c∈f:=by rw[e];simp
   have hp:pre.length<f.length:=by rw[e];simp
   obtain⟨ms',s5',e2,q1,q2,q3⟩:=znw (l:=l) n hF hf hc r1 (by omega) (by omega) r4;refine⟨_,_,e2,.inl rfl,ms',some (.val (cD c)),s5',?_,?_,?_,?_,q3⟩
   ·rw[Jx]
   ·rw[Jx];exact q1
   ·simp;omega
   ·rw[Jx];split<;>simp<;>omega
 rw[zX zl6 rfl];simp only[VV];simp[jk];rw[hF];simp only[Option.map_some,Option.bind_some];rw[show D.dct true [] []=dG oD [] from rfl,show D.lst []=yk [] from rfl,<-wS,e];simp[wS,vn]
theorem znx(n:Nat)(hf:OkF f):zv U zh (n+5) 30 [fD f,cD l]=some (.obj true (yk (vn f l))):=zeZ n rfl hf
theorem zny(n:Nat)(hf:OkF f)(hl:OkL l):zv U zh (n+6) 31 [fD f,cD l]=some (.obj true (yk (vn f l))):=by
 rw[zX zl7 rfl];have h1:=vJ (n+1) hf;have h2:=vK (n+2) hl;simp[VW,h1,h2,znx n hf]
end
end LK
namespace LK
open L2.LW
theorem ze0: ∀L:List zb,L.Nodup->∃g:List zb,g.Pairwise yi/\∀x,x∈L↔x∈g
 |[],_=>⟨[],.nil,fun x=>Iff.rfl⟩
 |c::r,h=>by
  rw[List.nodup_cons] at h;obtain⟨g,h1,h2⟩:=ze0 r h.2;refine⟨g.filter (fun x=>decide (yi x c))++c::g.filter (fun x=>decide (yi c x)),?_,fun x=>?_⟩
  ·rw[List.pairwise_append]
   refine⟨h1.filter _,?_,fun a ha b hb=>?_⟩
   ·rw[List.pairwise_cons]
    exact⟨fun b hb=>by simpa using (List.mem_filter.mp hb).2,h1.filter _⟩
   ·have ha':yi a c:=by simpa using (List.mem_filter.mp ha).2
    rcases List.mem_cons.mp hb with rfl|hb
    ·exact ha'
    ·exact zmy ha' (by simpa using (List.mem_filter.mp hb).2)
  ·rw[List.mem_append,List.mem_cons,List.mem_cons,List.mem_filter,List.mem_filter,h2 x]
   constructor
   ·rintro (rfl|hx)
    ·exact .inr (.inl rfl)
    ·have ne:x≠c:=fun e=>h.1 (by rw[<-e,h2];exact hx)
     rcases zmA ne with z|z
     ·exact .inl ⟨hx,by simp[z]⟩
     ·exact .inr (.inr ⟨hx,by simp[z]⟩)
   ·rintro (⟨hx,_⟩|rfl|⟨hx,_⟩)
    ·exact .inr hx
    ·exact .inl rfl
    ·exact .inr hx
section
variable {f:List zb} {l:zb}
noncomputable def jW(f:List zb)(l:zb)(k:Int):List zb:=f.filter fun c=>decide (zM l c=k)
theorem znz(n:Nat)(hf:OkF f)(hl:OkL l):zv U zh (n+5) 25 [fD f,cD l]=some (.obj true (.lst [lD (jW f l 0),lD (jW f l 1)])):=by
 have hlen:=hf.len;have h0:=kB n hl (f:=f) (by omega) 0;have h1:=kB n hl (f:=f) (by omega) 1;rw[zX zl4 rfl];simp[VS,vJ n hf,vK (n+1) hl,h0,h1];exact⟨rfl,rfl⟩
end
end LK
namespace LK
open L2.LW
theorem ze1{α:Type}{p:α->Bool}: ∀{f:List α},(f.filter p).length+(f.filter fun x=> !p x).length=f.length
 |[]=>rfl
 |a::r=>by
  have:=ze1 (p:=p) (f:=r);rw[List.filter_cons,List.filter_cons,List.length_cons];cases h:p a
  ·simp;omega
  ·simp;omega
end LK
namespace LK
open L2.LW
theorem ze2{α:Type}{g:α->D}(h: ∀x,plain (g x)=true): ∀{L:List α},yX (L.map g)=true
 |[]=>by simp
 |a::r=>by simp[h a,ze2 h (L:=r)]
section
variable {f:List zb} {l:zb}
theorem znA(hn:f.Nodup){ms:Ms}{T:zb->Prop}(hm:Match f l ms)(hT:wQ f l ms T){k:Int}{cr ar:List zb}(h:Crowd f l ms T k cr ar):cr.Nodup:=by
 have mt: ∀y∈ar,∃x,get ms y=some x:=fun y hy=>by
  obtain⟨x,e,_⟩:=hT y (h.sub y hy).2;exact⟨x,e⟩
 rw[h.is,List.nodup_append];refine⟨hn.sublist Kv,zeM (fun a ha b hb e=>?_) h.nd,fun a ha b hb e=>?_⟩
 ·obtain⟨x,ex⟩:=mt a ha
  obtain⟨y,ey⟩:=mt b hb;rw[ZE ex,ZE ey] at e;subst e;exact hm.inj ex ey
 ·obtain⟨y,hy,rfl⟩:=List.mem_map.mp hb
  obtain⟨x,ex⟩:=mt y hy;rw[ZE ex] at e;subst e;have:=(List.mem_filter.mp ha).2;rw[hm.sym _ _ ex] at this;simp at this
theorem znB{ms:Ms}{T:zb->Prop}(hm:Match f l ms)(hT:wQ f l ms T){k:Int}{cr ar:List zb}(h:Crowd f l ms T k cr ar): ∀x∈cr,x∈f:=fun x hx=>by
 rw[h.is,List.mem_append] at hx;rcases hx with hx|hx
 ·exact (List.mem_filter.mp hx).1
 ·obtain⟨y,hy,rfl⟩:=List.mem_map.mp hx
  obtain⟨x,e,_⟩:=hT y (h.sub y hy).2;rw[ZE e];exact (hm.inF _ _ e).2.1
end
end LK
namespace LK
open L2.LW
noncomputable abbrev Mi:=List (Nat×Nat)
noncomputable def nD(n:Nat):D:=.int (n:Int)
noncomputable def dI(ms:Mi):D:=.dct false (ms.map fun p=>nD p.1) (ms.map fun p=>nD p.2)
noncomputable def yp(ms:Mi)(k:Nat):Option Nat:=(ms.find? fun p=>decide (p.1=k)).map (·.2)
noncomputable def vO(ms:Mi)(k v:Nat):Mi:=if (yp ms k).isSome then ms.map (fun p=>if p.1=k then (p.1,v) else p) else ms++[(k,v)]
theorem zaC{a b:Nat}:zH (nD a) (nD b)=decide (a=b):=by
 simp only[nD,zH];rw[Bool.eq_iff_iff];simp;omega
theorem wG(p:Nat×Nat)(r:Mi)(k:Nat):yp (p::r) k=if p.1=k then some p.2 else yp r k:=by
 unfold yp;rw[List.find?_cons];by_cases h:p.1=k<;>simp[h]
theorem ze3(k:Nat): ∀ms:Mi,(yp ms k).isSome=decide (k∈ms.map (·.1))
 |[]=>rfl
 |p::r=>by
  rw[wG,List.map_cons];by_cases h:p.1=k
  ·simp[h]
  ·rw[if_neg h,ze3 k r]
   have: ¬k=p.1:=fun z=>h z.symm
   simp[this]
theorem zaD(k:Nat): ∀ms:Mi,dget (ms.map fun p=>nD p.1) (ms.map fun p=>nD p.2) (nD k)=(yp ms k).map nD
 |[]=>rfl
 |p::r=>by
  have ih:=zaD k r;unfold dget yF at ih⊢;rw[List.map_cons,List.map_cons,List.findIdx?_cons,zaC,wG];by_cases h:p.1=k
  ·simp[h]
  ·rw[if_neg h,<-ih]
   simp only[h,decide_false,Bool.false_eq_true,if_false];cases (List.findIdx? (fun x=>zH x (nD k)) (r.map fun p=>nD p.1))<;>simp
theorem ze4(k:Nat): ∀ms:Mi,(yF (ms.map fun p=>nD p.1) (nD k)).isSome=(yp ms k).isSome
 |[]=>rfl
 |p::r=>by
  have ih:=ze4 k r;unfold yF at ih⊢;rw[List.map_cons,List.findIdx?_cons,zaC,wG];by_cases h:p.1=k
  ·simp[h]
  ·rw[if_neg h,<-ih]
   simp only[h,decide_false,Bool.false_eq_true,if_false];cases (List.findIdx? (fun x=>zH x (nD k)) (r.map fun p=>nD p.1))<;>simp
theorem ze5{k v:Nat}{ms:Mi}(h:yp ms k=some v):zg .idx [dI ms,nD k]=some (.val (nD v)):=by
 show jb [dI ms,nD k]=_;unfold dI jb;dsimp only;rw[if_pos (show yC false (nD k)=true from rfl),zaD,h];rfl
theorem ze6{k:Nat}{ms:Mi}:zg .dget [dI ms,nD k,.int 0]=some (.val (nD ((yp ms k).getD 0))):=by
 show XC [dI ms,nD k,.int 0]=_
 have e:XC [dI ms,nD k,.int 0]=match dget (ms.map fun p=>nD p.1) (ms.map fun p=>nD p.2) (nD k) with
   |some (.int v)=>yl v
   |none=>yl 0
   |_=>none:=rfl
 rw[e,zaD]
 cases yp ms k with
 |none=>rfl
 |some v=>rfl
theorem znC{ms:Mi}{k v:Nat}:xm false (ms.map fun p=>nD p.1) (ms.map fun p=>nD p.2) (nD k) (nD v)=dI (vO ms k v):=by
 unfold xm vO;rw[ze4];split
 ·unfold dI
  congr 1
  ·rw[List.map_map]
   apply List.map_congr_left;intro p _;dsimp only[Function.comp];split<;>rfl
  ·rename_i hh
   clear hh
   induction ms with
   |nil=>rfl
   |cons p r ih=>
    simp only[List.map_cons,List.zipWith_cons_cons,ih,zaC]
    congr 1
    by_cases h:p.1=k<;>simp[h]
 ·rw[dI,List.map_append,List.map_append]
  rfl
theorem kF{ms:Mi}{k v x:Nat}:yp (vO ms k v) x=if x=k then some v else yp ms x:=by
 unfold vO;by_cases h:(yp ms k).isSome=true
 ·rw[if_pos h]
  induction ms with
  |nil=>cases h
  |cons p r ih=>
   rw[List.map_cons,wG,wG];rw[wG] at h;by_cases e:p.1=k
   ·rw[if_pos e]
    dsimp only;by_cases ex:x=k
    ·rw[if_pos (by rw[e,ex]),if_pos ex]
    ·rw[if_neg (by rw[e];exact fun z=>ex z.symm),if_neg ex,if_neg (by rw[e];exact fun z=>ex z.symm)]
     clear ih h
     induction r with
     |nil=>rfl
     |cons q r ih=>
      rw[List.map_cons,wG,wG,ih];by_cases e2:q.1=k
      ·rw[if_pos e2,if_neg (by dsimp only;rw[e2];exact fun z=>ex z.symm),if_neg (by rw[e2];exact fun z=>ex z.symm)]
      ·rw[if_neg e2]
   ·rw[if_neg e] at h
    rw[if_neg e,ih h];by_cases ex:x=k
    ·rw[if_pos ex,if_pos ex,if_neg (by rw[ex];exact e)]
    ·rw[if_neg ex,if_neg ex]
 ·rw[if_neg h]
  have hn:yp ms k=none:=by simpa using h
  induction ms with
  |nil=>
   show yp [(k,v)] x=_;rw[wG];by_cases e:x=k
   ·rw[if_pos e,if_pos e.symm]
   ·rw[if_neg e,if_neg fun z=>e z.symm]
  |cons p r ih=>
   rw[wG] at hn;by_cases hp:p.1=k
   ·rw[if_pos hp] at hn;cases hn
   ·rw[if_neg hp] at hn
    rw[List.cons_append,wG,wG,ih (by rw[hn];simp) hn];by_cases e:p.1=x
    ·rw[if_pos e,if_pos e,if_neg (fun z=>hp (e.trans z))]
    ·rw[if_neg e,if_neg e]
theorem ze7{ms:Mi}{k v:Nat}(h:(ms.map (·.1)).Nodup):((vO ms k v).map (·.1)).Nodup:=by
 unfold vO;by_cases e:(yp ms k).isSome=true
 ·rw[if_pos e,List.map_map]
  have:(fun p:Nat×Nat=>p.1)∘(fun p:Nat×Nat=>if p.1=k then (p.1,v) else p)=fun p=>p.1:=by
   funext p
   dsimp only[Function.comp];split<;>rfl
  rw[this];exact h
 ·rw[if_neg e,List.map_append,List.nodup_append]
  refine⟨h,by simp,fun a ha b hb eab=>?_⟩;simp at hb;subst hb;subst eab;rw[ze3] at e;exact e (by simpa using ha)
theorem zaE{ms:Mi}(h:(ms.map (·.1)).Nodup){k v:Nat}:(k,v)∈ms↔yp ms k=some v:=by
 induction ms with
 |nil=>constructor<;>(intro z;cases z)
 |cons p r ih=>
  rw[List.map_cons,List.nodup_cons] at h;rw[wG,List.mem_cons];by_cases e:p.1=k
  ·rw[if_pos e]
   constructor
   ·rintro (z|z)
    ·rw[<-z]
    ·exact KC (List.mem_map.mpr ⟨_,z,rfl⟩) (by rw[<-e];exact h.1)
   ·intro z
    cases z;exact .inl (by rw[<-e])
  ·rw[if_neg e,<-ih h.2]
   constructor
   ·rintro (z|z)
    ·rw[<-z] at e;exact KC rfl e
    ·exact z
   ·exact .inr
theorem ze8{ρ:Env}{i:Nat}{ms:Mi}{k v:Nat}(hl:ms.length<line):
  ji ρ i (some (.val (nD k))) (some (.val (nD v))) (some (some (.obj true (dI ms))))=some (.nx,ρ.set i (some (.obj true (dI (vO ms k v))))):=by
 rw[dI,zee];simp only[Option.bind_some,Zx,List.length_map,hl,decide_true,Bool.and_self,znC];rfl
theorem YQ{n:Nat}(h:n<64):zg .shl [.int 1,nD n]=some (.val (nD (2 ^ n))):=by
 show Xx [.int 1,nD n]=_;unfold Xx nD;dsimp only;rw[if_pos (by omega)];simp[yl]
theorem Jy{a b:Nat}:zg .band [nD a,nD b]=some (.val (nD (a&&& b))):=by
 show Xy [nD a,nD b]=_;unfold Xy nD;dsimp only;rw[if_pos (by omega)];rfl
theorem ze9{a b:Nat}:zg .bor [nD a,nD b]=some (.val (nD (a|||b))):=by
 show Xz [nD a,nD b]=_;unfold Xz nD;dsimp only;rw[if_pos (by omega)];rfl
theorem znD{a b:Nat}:zg .bxor [nD a,nD b]=some (.val (nD (a ^^^ b))):=by
 show XA [nD a,nD b]=_;unfold XA nD;dsimp only;rw[if_pos (by omega)];rfl
theorem znE{a:Nat}:zg .blen [nD a]=some (.val (nD (vd a))):=by
 show XB [nD a]=_;unfold XB nD;dsimp only;rw[if_pos (by omega)];rfl
theorem zaF{a:Nat}:zg .ne [nD a,.int 0]=some (.val (.bl (decide (a≠0)))):=by
 rw[zlK rfl rfl];unfold nD;rw[zH]
 congr 3
 rw[Bool.eq_iff_iff];simp
theorem zfa{a:Nat}:zg .eq [nD a,.int 0]=some (.val (.bl (decide (a=0)))):=by
 rw[YA rfl rfl];unfold nD;rw[zH]
 congr 3
 rw[Bool.eq_iff_iff];simp
theorem zfb{N:Nat}(h:N<=1000):yy true [.val (nD N)]=some ((List.range N).map nD):=by
 rw[nD,zas (Zy (by omega) (by omega))];simp only[Int.toNat_natCast,Int.zero_add];rfl
theorem Jz{a b:Nat}:(a&&& b)≠0↔∃p,a.testBit p=true/\b.testBit p=true:=by
 constructor
 ·intro h
  obtain⟨p,hp⟩:=Nat.exists_testBit_of_ne_zero h;rw[Nat.testBit_and,Bool.and_eq_true] at hp;exact⟨p,hp⟩
 ·rintro⟨p,h1,h2⟩ z
  have:(a&&& b).testBit p=true:=by rw[Nat.testBit_and,h1,h2];rfl
  rw[z] at this;simp at this
theorem kG{a p:Nat}:(a&&& 2 ^ p)=0↔a.testBit p=false:=by
 constructor
 ·intro h
  have:(a&&& 2 ^ p).testBit p=false:=by rw[h];simp
  rw[Nat.testBit_and,Nat.testBit_two_pow_self,Bool.and_true] at this;exact this
 ·intro h
  apply Nat.eq_of_testBit_eq;intro i;rw[Nat.testBit_and,Nat.zero_testBit];by_cases e:p=i
  ·subst e;rw[h];rfl
  ·rw[Nat.testBit_two_pow_of_ne e,Bool.and_false]
noncomputable def xh:List Nat->Nat
 |[]=>0
 |p::r=>xh r|||2 ^ p
theorem vP{i:Nat}: ∀{L:List Nat},(xh L).testBit i=true↔i∈L
 |[]=>by simp[xh]
 |p::r=>by
  rw[xh,Nat.testBit_or,Bool.or_eq_true,vP,List.mem_cons];constructor
  ·rintro (z|z)
   ·exact .inr z
   ·by_cases e:p=i
    ·exact .inl e.symm
    ·rw[Nat.testBit_two_pow_of_ne e] at z;cases z
  ·rintro (z|z)
   ·subst z;exact .inr Nat.testBit_two_pow_self
   ·exact .inl z
theorem zfc{N:Nat}: ∀{L:List Nat},(∀p∈L,p<N)->xh L<2 ^ N
 |[],_=>Nat.two_pow_pos N
 |p::r,h=>Nat.or_lt_two_pow (zfc fun q hq=>h q (Kf _ hq)) (Nat.pow_lt_pow_right (by decide) (h p Ke))
theorem znF{p:Nat}{L:List Nat}(h:p∉L):xh (p::L) ^^^ 2 ^ p=xh L:=by
 apply Nat.eq_of_testBit_eq;intro i;rw[xh,Nat.testBit_xor,Nat.testBit_or];by_cases e:p=i
 ·subst e
  have:(xh L).testBit p=false:=by
   rw[Bool.eq_false_iff];exact fun z=>h (vP.mp z)
  rw[Nat.testBit_two_pow_self,this];rfl
 ·rw[Nat.testBit_two_pow_of_ne e];simp
theorem znG{N i:Nat}:(2 ^ N-1).testBit i=decide (i<N):=Nat.testBit_two_pow_sub_one N i
theorem znH{a:Nat}(h:a≠0):a.testBit (vd a-1)=true:=by
 unfold vd;rw[if_neg h,Nat.add_sub_cancel];exact Nat.testBit_log2 h
end LK
namespace LK
open L2.LW
section
variable {N:Nat} {nm:Nat->Nat} {st:Nat}
inductive Pth (N:Nat)(nm:Nat->Nat)(st:Nat):List Nat->Prop where
 |one {p:Nat} (h:p<N) (s:st.testBit p=true):Pth N nm st [p]
 |more {q p:Nat} {L:List Nat} (h:Pth N nm st (p::L)) (lt:q<N) (new:q∉p::L) (nr:(nm q).testBit p=true):Pth N nm st (q::p::L)
theorem Pth.lt{L:List Nat}(h:Pth N nm st L): ∀p∈L,p<N:=by
 induction h with
 |one h s=>intro p hp;rw[List.mem_singleton] at hp;rw[hp];exact h
 |more h lt new nr ih=>
  intro p hp;rcases List.mem_cons.mp hp with rfl|hp
  ·exact lt
  ·exact ih p hp
theorem Pth.nd{L:List Nat}(h:Pth N nm st L):L.Nodup:=by
 induction h with
 |one h s=>simp
 |more h lt new nr ih=>exact List.nodup_cons.mpr ⟨new,ih⟩
structure Lay (N:Nat)(nm:Nat->Nat)(st:Nat)(j:Nat)(ms:Mi):Prop where
 nd:(ms.map (·.1)).Nodup
 lt: ∀v e,yp ms v=some e->v<2 ^ N/\e<2 ^ N
 is: ∀v p,(∃e,yp ms v=some e/\e.testBit p=true)↔∃L,Pth N nm st (p::L)/\L.length=j/\xh (p::L)=v
theorem zfd{ms:Mi}(nd:(ms.map (·.1)).Nodup)(lt: ∀v e,yp ms v=some e->v<2 ^ N)(hN:N<=16):ms.length<=65536:=by
 have:=vM (l:=ms.map (·.1)) (m:=List.range (2 ^ N)) nd fun x hx=>by
  obtain⟨p,hp,rfl⟩:=List.mem_map.mp hx;exact List.mem_range.mpr (lt p.1 p.2 ((zaE nd).mp hp))
 rw[List.length_map,List.length_range] at this;exact Kg this (KJ (by decide) hN)
noncomputable def jX(N st:Nat)(ms:Mi)(s3:Option SV):Env:=[some (.val (nD N)),some (.val (nD st)),some (.obj true (dI ms)),s3]
theorem znI(n:Nat)(hN:N<=16): ∃ms,Lay N nm st 0 ms/\zv U zh (n+1) 63 [nD N,nD st]=some (.obj true (dI ms)):=by
 have hl':=yA
 obtain⟨ρ',e,ms,s3,rfl,q1,q2,q3⟩:=zam (i:=3) (body:=zr (zC U zh n) zh kh)
  (fun k ρ=>∃ms s3,ρ=jX N st ms s3/\(ms.map (·.1)).Nodup/\(∀v e,yp ms v=some e->v<2 ^ N/\e<2 ^ N)/\∀v p,(∃e,yp ms v=some e/\e.testBit p=true)↔p<k/\st.testBit p=true/\v=2 ^ p)
  (f:=nD) (xs:=List.range N) (ρ:=jX N st [] none) ⟨[],none,rfl,by simp,fun v e h=>(by cases h),fun v p=>by
   constructor
   ·rintro⟨e,h,_⟩;cases h
   ·rintro⟨h,_⟩;omega⟩
  fun k ρ hk zz=>by
   obtain⟨ms,s3,eρ,q1,q2,q3⟩:=zz;subst eρ;rw[List.length_range] at hk;rw[List.getElem_range];have sh:=YQ (n:=k) (by omega);have bd:=Jy (a:=st) (b:=2 ^ k);have kl:=zfd q1 (fun v e h=>(q2 v e h).1) hN;have pl:(2:Nat) ^ k<2 ^ N:=Nat.pow_lt_pow_right (by decide) hk;by_cases hb:st.testBit k=true
   ·have hz:(st&&& 2 ^ k)≠0:=fun z=>by rw[kG.mp z] at hb;cases hb
    have ne:=zaF (a:=st&&& 2 ^ k);rw[decide_eq_true hz] at ne;refine⟨.nx,jX N st (vO ms (2 ^ k) (2 ^ k)) (some (.val (nD k))),?_,.inl rfl,_,_,rfl,ze7 q1,fun v e h=>?_,fun v p=>?_⟩
    ·simp only[kh,jX]
     simp[sh,bd,ne];rw[ze8 (by omega)];simp
    ·rw[kF] at h
     split at h
     ·rename_i z;cases h;rw[z];exact⟨pl,pl⟩
     ·exact q2 v e h
    ·rw[kF]
     by_cases ev:v=2 ^ k
     ·rw[if_pos ev]
      constructor
      ·rintro⟨e,h,h2⟩
       cases h
       have:p=k:=by
        by_cases z:k=p
        ·exact z.symm
        ·rw[Nat.testBit_two_pow_of_ne z] at h2;cases h2
       subst this;exact⟨by omega,hb,ev⟩
      ·rintro⟨h1,h2,h3⟩
       have:p=k:=(Nat.pow_right_inj (by decide:1<2)).mp (h3.symm.trans ev);subst this;exact⟨_,rfl,Nat.testBit_two_pow_self⟩
     ·rw[if_neg ev,q3 v p]
      constructor
      ·rintro⟨h1,h2,h3⟩;exact⟨by omega,h2,h3⟩
      ·rintro⟨h1,h2,h3⟩
       refine⟨?_,h2,h3⟩;by_cases z:p=k
       ·subst z;exact KC h3 ev
       ·omega
   ·have hb':st.testBit k=false:=by simpa using hb
    have hz:=kG.mpr hb';have ne:=zaF (a:=st&&& 2 ^ k);rw[KG (fun z=>z hz)] at ne;refine⟨.nx,jX N st ms (some (.val (nD k))),?_,.inl rfl,_,_,rfl,q1,q2,fun v p=>?_⟩
    ·simp only[kh,jX]
     simp[sh,bd,ne]
    ·rw[q3 v p]
     constructor
     ·rintro⟨h1,h2,h3⟩;exact⟨by omega,h2,h3⟩
     ·rintro⟨h1,h2,h3⟩
      refine⟨?_,h2,h3⟩;by_cases z:p=k
      ·subst z;rw[hb'] at h2;cases h2
      ·omega
 rw[List.length_range] at q3;refine⟨ms,⟨q1,q2,fun v p=>?_⟩,?_⟩
 ·rw[q3 v p]
  constructor
  ·rintro⟨h1,h2,h3⟩
   exact⟨[],.one h1 h2,rfl,by rw[h3];simp[xh]⟩
  ·rintro⟨L,h1,h2,h3⟩
   have:L=[]:=List.eq_nil_of_length_eq_zero h2;subst this
   cases h1 with
   |one h s=>exact⟨h,s,by rw[<-h3];simp[xh]⟩
 ·rw[zX zmk rfl]
  have it:=zfb (N:=N) (by omega);simp -implicitDefEqProofs only[Ji];simp -implicitDefEqProofs [jj,it];rw[show D.dct false [] []=dI [] from rfl,<-jX,e];simp -implicitDefEqProofs [jX]
end
end LK
namespace LK
open L2.LW
theorem zaG{α:Type}{g:α->D}{i:Nat}{body:Env->Option (Fl×Env)}(I:List α->Env->Prop){xs:List α}{ρ:Env}(h0:I [] ρ)
  (st: ∀pre x post ρ,xs=pre++x::post->I pre ρ->∃fl ρ',body (ρ.set i (some (.val (g x))))=some (fl,ρ')/\(fl= .nx\/fl= .ct)/\I (pre++[x]) ρ'):
  ∃ρ',yq i body (xs.map g) ρ=some (.nx,ρ')/\I xs ρ':=by
 have key: ∀(post pre:List α) (ρ:Env),xs=pre++post->I pre ρ->∃ρ',yq i body (post.map g) ρ=some (.nx,ρ')/\I xs ρ':=by
  intro post
  induction post with
  |nil=>intro pre ρ e h;exact⟨ρ,rfl,by rw[e];simpa using h⟩
  |cons x post ih=>
   intro pre ρ e h;obtain⟨fl,ρ1,e1,e2,h1⟩:=st pre x post ρ e h;obtain⟨ρ',e3,h3⟩:=ih (pre++[x]) ρ1 (by simp[e]) h1;refine⟨ρ',?_,h3⟩;rw[List.map_cons,yq,e1];simp only[Option.bind_some];rcases e2 with rfl|rfl<;>exact e3
 exact key xs [] ρ rfl h0
section
variable {N:Nat} {ns:List Nat} {st:Nat}
noncomputable def jp(lg:Mi)(u p:Nat):Prop:=∃e,yp lg u=some e/\e.testBit p=true
noncomputable def YR(N:Nat)(lg:Mi):Prop:=(lg.map (·.1)).Nodup/\∀v e,yp lg v=some e->v<2 ^ N/\e<2 ^ N
noncomputable def JA(ns:List Nat)(ms:Mi)(v q:Nat):Prop:=v.testBit q=false/\∃e0,yp ms v=some e0/\(e0&&& ns.getD q 0)≠0
noncomputable def xJ(ns:List Nat)(ms lg:Mi)(s3 s4 s5:Option SV):Env:=[some (.val (.lst (ns.map nD))),some (.val (dI ms)),some (.obj true (dI lg)),s3,s4,s5]
theorem zaH{ns:List Nat}{q:Nat}(h:q<ns.length):zg .idx [.lst (ns.map nD),nD q]=some (.val (nD (ns.getD q 0))):=by
 show jb [.lst (ns.map nD),.int (q:Int)]=_;unfold jb;dsimp only;rw[atI_nat (by simpa using h)];simp[List.getD,h]
theorem znJ{ρ:Env}{i:Nat}{ms:Mi}{k v:Nat}(hl:ms.length<line):
  ji ρ i (some (.val (nD k))) (some (.val (nD v))) (some (some (.obj true (dI ms))))=some (.nx,ρ.set i (some (.obj true (dI (vO ms k v))))):=ze8 hl
theorem znK(n:Nat)(hN:N<=16)(hns:ns.length=N){ms lg:Mi}{v e0 q:Nat}{s5:Option SV}(hv:yp ms v=some e0)(vlt:v<2 ^ N)(hq:q<N)(wl:YR N lg)(h5:zB (some s5)=true):
  ∃lg' s5',zr (zC U zh n) zh YG (xJ ns ms lg (some (.val (nD v))) (some (.val (nD q))) s5)=some (.nx,xJ ns ms lg' (some (.val (nD v))) (some (.val (nD q))) s5')/\YR N lg'/\zB (some s5')=true/\
   ∀u p,jp lg' u p↔jp lg u p\/(JA ns ms v q/\u=v|||2 ^ q/\p=q):=by
 have hl':=yA;have sh:=YQ (n:=q) (by omega);have b1:=Jy (a:=v) (b:=2 ^ q);obtain⟨g,hg⟩: ∃g,ns.getD q 0=g:=⟨_,rfl⟩;obtain⟨y,hy⟩: ∃y,(yp lg (v|||2 ^ q)).getD 0=y:=⟨_,rfl⟩;have b2:=Jy (a:=e0) (b:=g);have b3:=ze9 (a:=v) (b:=2 ^ q);have b4:=ze6 (k:=v|||2 ^ q) (ms:=lg);rw[hy] at b4;have b5:=ze9 (a:=y) (b:=2 ^ q);have i1:=ze5 hv;have i2:=zaH (ns:=ns) (q:=q) (by omega);rw[hg] at i2;have kl:=zfd wl.1 (fun v e h=>(wl.2 v e h).1) hN;have pl:(2:Nat) ^ q<2 ^ N:=Nat.pow_lt_pow_right (by decide) hq;have z1:=zfa (a:=v&&& 2 ^ q);have z2:=zaF (a:=e0&&& g);have st:=znJ (ρ:=xJ ns ms lg (some (.val (nD v))) (some (.val (nD q))) (some (.val (nD (2 ^ q))))) (i:=2) (ms:=lg) (k:=v|||2 ^ q) (v:=y|||2 ^ q) (by omega);by_cases c1:v.testBit q=true
 ·have hz: ¬(v&&& 2 ^ q)=0:=fun z=>by rw[kG.mp z] at c1;cases c1
  rw[KG hz] at z1;refine⟨lg,some (.val (nD (2 ^ q))),?_,wl,yS,fun u p=>?_⟩
  ·simp only[YG,xJ]
   simp[sh,b1,z1,h5]
  ·constructor
   ·exact .inl
   ·rintro (z|⟨z,_⟩)
    ·exact z
    ·rw[z.1] at c1;cases c1
 ·have c1':v.testBit q=false:=by simpa using c1
  rw[decide_eq_true (kG.mpr c1')] at z1;by_cases c2:(e0&&& g)=0
  ·rw[KG (fun z=>z c2)] at z2
   refine⟨lg,some (.val (nD (2 ^ q))),?_,wl,yS,fun u p=>?_⟩
   ·simp only[YG,xJ]
    simp[sh,b1,z1,h5,i1,i2,b2,z2]
   ·constructor
    ·exact .inl
    ·rintro (z|⟨⟨_,e1,h1,h2⟩,_⟩)
     ·exact z
     ·rw[hv] at h1;cases h1;rw[hg] at h2;exact KC c2 h2
  ·rw[decide_eq_true c2] at z2
   refine⟨vO lg (v|||2 ^ q) (y|||2 ^ q),some (.val (nD (2 ^ q))),?_,⟨ze7 wl.1,fun u e h=>?_⟩,yS,fun u p=>?_⟩
   ·unfold xJ at st
    simp only[YG,xJ];simp[sh,b1,z1,h5,i1,i2,b2,z2,b3,b4,b5];rw[st];simp
   ·rw[kF] at h
    split at h
    ·rename_i z
     cases h;rw[z];refine⟨Nat.or_lt_two_pow vlt pl,Nat.or_lt_two_pow ?_ pl⟩;rw[<-hy]
     cases hh:yp lg (v|||2 ^ q) with
     |none=>exact Nat.two_pow_pos N
     |some e=>exact (wl.2 _ _ hh).2
    ·exact wl.2 u e h
   ·have ok:JA ns ms v q:=⟨c1',e0,hv,by rw[hg];exact c2⟩
    unfold jp;rw[kF];by_cases eu:u=v|||2 ^ q
    ·rw[if_pos eu]
     constructor
     ·rintro⟨e,h1,h2⟩
      cases h1;rw[Nat.testBit_or,Bool.or_eq_true] at h2;rcases h2 with h2|h2
      ·left
       rw[eu];rw[<-hy] at h2
       cases hh:yp lg (v|||2 ^ q) with
       |none=>rw[hh] at h2;simp at h2
       |some e=>rw[hh] at h2;exact⟨e,rfl,h2⟩
      ·right
       refine⟨ok,eu,?_⟩;by_cases z:q=p
       ·exact z.symm
       ·rw[Nat.testBit_two_pow_of_ne z] at h2;cases h2
     ·rintro (⟨e,h1,h2⟩|⟨_,_,h3⟩)
      ·rw[eu] at h1
       refine⟨_,rfl,?_⟩;rw[<-hy,h1,Nat.testBit_or];show (e.testBit p||_)=true;rw[h2];rfl
      ·refine⟨_,rfl,?_⟩
       rw[Nat.testBit_or,h3,Nat.testBit_two_pow_self,Bool.or_true]
    ·rw[if_neg eu]
     constructor
     ·exact .inl
     ·rintro (z|⟨_,z,_⟩)
      ·exact z
      ·exact KC z eu
theorem znL(n:Nat)(hN:N<=16)(hns:ns.length=N){ms lg:Mi}{v e0:Nat}{s4 s5:Option SV}(hv:yp ms v=some e0)(vlt:v<2 ^ N)(wl:YR N lg)(h4:zB (some s4)=true)(h5:zB (some s5)=true):
  ∃lg' s4' s5',zr (zC U zh n) zh ki (xJ ns ms lg (some (.val (nD v))) s4 s5)=some (.nx,xJ ns ms lg' (some (.val (nD v))) s4' s5')/\YR N lg'/\(zB (some s4')=true/\zB (some s5')=true)/\
   ∀u p,jp lg' u p↔jp lg u p\/(p<N/\JA ns ms v p/\u=v|||2 ^ p):=by
 obtain⟨ρ',e,lg',s4',s5',rfl,q1,q2,q3,q4⟩:=zam (i:=4) (body:=zr (zC U zh n) zh YG)
  (fun k ρ=>∃lg' s4' s5',ρ=xJ ns ms lg' (some (.val (nD v))) s4' s5'/\YR N lg'/\zB (some s4')=true/\zB (some s5')=true/\∀u p,jp lg' u p↔jp lg u p\/(p<k/\JA ns ms v p/\u=v|||2 ^ p))
  (f:=nD) (xs:=List.range N) (ρ:=xJ ns ms lg (some (.val (nD v))) s4 s5) ⟨lg,s4,s5,rfl,wl,h4,h5,fun u p=>by
   constructor
   ·exact .inl
   ·rintro (z|⟨z,_⟩)
    ·exact z
    ·omega⟩
  fun k ρ hk zz=>by
   obtain⟨lg',s4',s5',eρ,q1,q2,q3,q4⟩:=zz;subst eρ;rw[List.length_range] at hk;rw[List.getElem_range];obtain⟨lg2,s52,e2,w2,f2,h2⟩:=znK n hN hns (s5:=s5') hv vlt hk q1 q3;refine⟨_,_,e2,.inl rfl,lg2,_,s52,rfl,w2,yS,f2,fun u p=>?_⟩;rw[h2 u p,q4 u p];constructor
   ·rintro ((z|⟨z1,z2,z3⟩)|⟨z1,z2,z3⟩)
    ·exact .inl z
    ·exact .inr ⟨by omega,z2,z3⟩
    ·exact .inr ⟨by omega,by rw[z3];exact z1,by rw[z3];exact z2⟩
   ·rintro (z|⟨z1,z2,z3⟩)
    ·exact .inl (.inl z)
    ·by_cases ep:p=k
     ·subst ep;exact .inr ⟨z2,z3,rfl⟩
     ·exact .inl (.inr ⟨by omega,z2,z3⟩)
 rw[List.length_range] at q4;refine⟨lg',s4',s5',?_,q1,⟨q2,q3⟩,q4⟩;have it:=zfb (N:=N) (by omega)
 have ln:zg .len [.lst (ns.map nD)]=some (.val (nD N)):=by
  show yl ((ns.map nD).length:Nat)=_;rw[List.length_map,hns];rfl
 simp -implicitDefEqProofs only[ki,Yy,jj];simp -implicitDefEqProofs [xJ,ln,it,h4];rw[<-xJ,e];simp -implicitDefEqProofs [xJ]
theorem znM(n:Nat)(hN:N<=16)(hns:ns.length=N){j:Nat}{ms:Mi}(hm:Lay N (fun q=>ns.getD q 0) st j ms):
  ∃lg,Lay N (fun q=>ns.getD q 0) st (j+1) lg/\zv U zh (n+1) 64 [.lst (ns.map nD),dI ms]=some (.obj true (dI lg)):=by
 obtain⟨ρ',e,lg,s3,s4,s5,rfl,q1,q2,q3⟩:=zaG (g:=fun p:Nat×Nat=>nD p.1) (i:=3) (body:=zr (zC U zh n) zh ki)
  (fun pre ρ=>∃lg s3 s4 s5,ρ=xJ ns ms lg s3 s4 s5/\YR N lg/\(zB (some s3)=true/\zB (some s4)=true/\zB (some s5)=true)/\∀u p,jp lg u p↔∃x∈pre,p<N/\JA ns ms x.1 p/\u=x.1|||2 ^ p)
  (xs:=ms) (ρ:=xJ ns ms [] none none none) ⟨[],none,none,none,rfl,⟨by simp,fun v e h=>(by cases h)⟩,⟨rfl,rfl,rfl⟩,fun u p=>by
   constructor
   ·rintro⟨e,h,_⟩;cases h
   ·rintro⟨x,h,_⟩;cases h⟩
  fun pre x post ρ e zz=>by
   obtain⟨lg,s3,s4,s5,eρ,q1,⟨f3,f4,f5⟩,q3⟩:=zz;subst eρ;have hx:x∈ms:=by rw[e];simp
   have hg:=(zaE hm.nd).mp (show (x.1,x.2)∈ms from hx);obtain⟨lg2,s42,s52,e2,w2,⟨g4,g5⟩,h2⟩:=znL n hN hns (s4:=s4) (s5:=s5) hg (hm.lt _ _ hg).1 q1 f4 f5;refine⟨_,_,e2,.inl rfl,lg2,_,s42,s52,rfl,w2,⟨yS,g4,g5⟩,fun u p=>?_⟩;rw[h2 u p,q3 u p];constructor
   ·rintro (⟨y,hy,z⟩|z)
    ·exact⟨y,Kp _ hy,z⟩
    ·exact⟨x,Ko _ (List.mem_singleton.mpr rfl),z⟩
   ·rintro⟨y,hy,z⟩
    rcases List.mem_append.mp hy with hy|hy
    ·exact .inl ⟨y,hy,z⟩
    ·rw[List.mem_singleton] at hy
     subst hy;exact .inr z
 refine⟨lg,⟨q1.1,q1.2,fun u p=>?_⟩,?_⟩
 ·show jp lg u p↔_
  rw[q3 u p];constructor
  ·rintro⟨x,hx,hp,⟨h1,e0,h2,h3⟩,h4⟩
   obtain⟨r,r1,r2⟩:=Jz.mp h3;obtain⟨L,l1,l2,l3⟩:=(hm.is x.1 r).mp ⟨e0,h2,r1⟩;refine⟨r::L,.more l1 hp (fun z=>?_) r2,by simp[l2],?_⟩
   ·rw[<-l3] at h1
    rw[vP.mpr z] at h1;cases h1
   ·rw[h4,<-l3,xh]
  ·rintro⟨L,l1,l2,l3⟩
   cases l1 with
   |one h s=>simp at l2
   |more h lt new nr=>
    rename_i r L;obtain⟨e0,h2,r1⟩:=(hm.is (xh (r::L)) r).mpr ⟨L,h,by simpa using l2,rfl⟩;refine⟨(xh (r::L),e0),(zaE hm.nd).mpr h2,lt,⟨?_,e0,h2,Jz.mpr ⟨r,r1,nr⟩⟩,?_⟩
    ·rw[Bool.eq_false_iff]
     exact fun z=>new (vP.mp z)
    ·rw[<-l3,xh]
 ·rw[zX zml rfl]
  have ky: ∀lg s3 s4 s5,XG (xJ ns ms lg s3 s4 s5) 1=some (ms.map fun p=>nD p.1):=fun _ _ _ _=>rfl
  simp -implicitDefEqProofs only[Jj];simp -implicitDefEqProofs [zlC];rw[show D.dct false [] []=dI [] from rfl,<-xJ,ky];simp -implicitDefEqProofs only[Option.bind_some];rw[e];simp -implicitDefEqProofs [xJ]
end
end LK
namespace LK
open L2.LW
section
variable {N:Nat} {ns:List Nat} {st:Nat}
theorem zfe{ls:List Mi}{x:Mi}(h:ls.getLast? =some x):zg .idx [.lst (ls.map dI),.int (-1)]=some (.val (dI x)):=by
 rw[List.getLast?_eq_getElem?,List.getElem?_eq_some_iff] at h;obtain⟨h1,h2⟩:=h;rw[YB];unfold atI ixN;have hp:0<ls.length:=by omega
 rw[if_neg (by omega),if_pos (by rw[List.length_map];omega)];simp only[Option.bind_some];rw[show (-1+((ls.map dI).length:Int)).toNat=ls.length-1 by rw[List.length_map];omega];rw[List.getElem?_map,List.getElem?_eq_getElem h1,h2];rfl
noncomputable def wH(ns:List Nat)(st:Nat)(ls:List Mi):Env:=[some (.val (.lst (ns.map nD))),some (.val (nD st)),some (.obj true (.lst (ls.map dI)))]
noncomputable def zaI(N:Nat)(ns:List Nat)(st:Nat)(ls:List Mi):Prop:=∀j (h:j<ls.length),Lay N (fun q=>ns.getD q 0) st j ls[j]
theorem znN(n:Nat)(hN:N<=16)(h1:1<=N)(hns:ns.length=N): ∃ls,ls.length=N/\zaI N ns st ls/\zv U zh (n+2) 65 [.lst (ns.map nD),nD st]=some (.obj true (.lst (ls.map dI))):=by
 have hl':=yA;obtain⟨m0,L0,c0⟩:=znI (nm:=fun q=>ns.getD q 0) (st:=st) n hN
 have ln:zg .len [.lst (ns.map nD)]=some (.val (nD N)):=by
  show yl ((ns.map nD).length:Nat)=_;rw[List.length_map,hns];rfl
 obtain⟨ρ',e,ls,rfl,q1,q2⟩:=QZ (test:=zA (zv U zh (n+1)) (.prim .lt (.cons (.prim .len (.cons (.var 2) .nil)) (.cons (.prim .len (.cons (.var 0) .nil)) .nil)))) (body:=zr (zC U zh (n+1)) zh zan)
  (fun m ρ=>∃ls,ρ=wH ns st ls/\(0<ls.length/\ls.length<=N/\zaI N ns st ls)/\m=N-ls.length)
  (fun ρ=>∃ls,ρ=wH ns st ls/\ls.length=N/\zaI N ns st ls)
  (m:=N-1) (n:=zh) (ρ:=wH ns st [m0]) (by unfold zh;omega)
  ⟨[m0],rfl,⟨by simp,by simpa using h1,fun j h=>by
   have:j=0:=by simpa using h
   subst this;exact L0⟩,by simp⟩
  fun m ρ zz=>by
   obtain⟨ls,eρ,⟨q1,q2,q3⟩,rfl⟩:=zz;subst eρ
   have lt:zg .lt [.int ((ls.map dI).length:Nat),nD N]=some (.val (.bl (decide (ls.length<N)))):=by
    rw[List.length_map];have z:decide ((ls.length:Int)<(N:Int))=decide (ls.length<N):=by rw[decide_eq_decide];omega
    rw[<-z];rfl
   have ht:zA (zv U zh (n+1)) (.prim .lt (.cons (.prim .len (.cons (.var 2) .nil)) (.cons (.prim .len (.cons (.var 0) .nil)) .nil))) (wH ns st ls)=some (decide (ls.length<N)):=by
    have ll:zg .len [.lst (ls.map dI)]=some (.val (.int ((ls.map dI).length:Nat))):=rfl;simp -implicitDefEqProofs only[wH,zlx,zai,zah,zlu];simp -implicitDefEqProofs [ln,ll];rw[List.length_map] at lt;rw[lt];simp
   by_cases c:ls.length<N
   ·refine .inr ⟨by rw[ht,decide_eq_true c],?_⟩
    obtain⟨x,hx⟩: ∃x,ls.getLast? =some x:=by
     cases z:ls.getLast? with
     |none=>rw[List.getLast?_eq_none_iff] at z;rw[z] at q1;simp at q1
     |some x=>exact⟨x,rfl⟩
    have hx2:=hx;rw[List.getLast?_eq_getElem?,List.getElem?_eq_some_iff] at hx2;obtain⟨g1,g2⟩:=hx2;have hL:=q3 (ls.length-1) g1;rw[g2] at hL;obtain⟨lg,l1,l2⟩:=znM n hN hns hL;have la:=zfe hx;refine⟨.nx,wH ns st (ls++[lg]),N-(ls.length+1),?_,.inl rfl,by omega,ls++[lg],rfl,⟨by simp,by simp;omega,fun j hj=>?_⟩,by simp⟩
    ·have ap:jM (wH ns st ls) 2 (some (.obj true (dI lg))) (some (some (.obj true (.lst (ls.map dI)))))=some (.nx,wH ns st (ls++[lg])):=by
      have:ls.length<line:=by omega
      simp[wH,this]
     unfold wH at ap;simp only[zan,wH];simp -implicitDefEqProofs [la,l2,ap]
    ·rw[List.length_append,List.length_singleton] at hj
     by_cases z:j<ls.length
     ·rw[List.getElem_append_left z];exact q3 j z
     ·have:j=ls.length:=by omega
      subst this;rw[List.getElem_append_right (Nat.le_refl _)];have e1:ls.length-1+1=ls.length:=by omega
      rw[e1] at l1;simpa using l1
   ·exact .inl ⟨by rw[ht,KG c],ls,rfl,by omega,q3⟩
 refine⟨ls,q1,q2,?_⟩;rw[zX zmm rfl];simp -implicitDefEqProofs only[Jk];simp -implicitDefEqProofs [Zw,ln,c0];rw[show [dI m0]=[m0].map dI from rfl,<-wH,e];simp -implicitDefEqProofs [wH]
end
end LK
namespace LK
open L2.LW
section
variable {N:Nat} {ns:List Nat} {st en:Nat} {f:List zb}
theorem znO{L:List Nat}(nd:L.Nodup)(lt: ∀p∈L,p<N)(len:L.length=N): ∀i,i<N->i∈L:=fun i hi=>by
 by_cases z:i∈L
 ·exact z
 ·have:=vM (l:=i::L) (m:=List.range N) (List.nodup_cons.mpr ⟨z,nd⟩) fun x hx=>by
   rw[List.mem_range];rcases List.mem_cons.mp hx with rfl|hx
   ·exact hi
   ·exact lt x hx
  rw[List.length_cons,List.length_range] at this;omega
theorem znP{L:List Nat}(nd:L.Nodup)(lt: ∀p∈L,p<N)(len:L.length=N):xh L=2 ^ N-1:=by
 apply Nat.eq_of_testBit_eq;intro i;rw[Bool.eq_iff_iff,vP,znG,decide_eq_true_iff];exact⟨lt i,znO nd lt len i⟩
structure Run (N:Nat)(ns:List Nat)(st en:Nat)(qs:List Nat):Prop where
 len:qs.length=N
 lt: ∀q∈qs,q<N
 nd:qs.Nodup
 step: ∀i (h:i+1<qs.length),(ns.getD qs[i] 0).testBit qs[i+1]=true
 head: ∀z,qs.head? =some z->en.testBit z=true
 last: ∀z,qs.getLast? =some z->st.testBit z=true
noncomputable def jY(f:List zb)(qs:List Nat):List zb:=qs.map fun q=>f.getD q (0,0)
structure Bck (N:Nat)(ns:List Nat)(st en:Nat)(qs:List Nat)(v E:Nat):Prop where
 lt: ∀q∈qs,q<N
 nd:qs.Nodup
 off: ∀q∈qs,v.testBit q=false
 step: ∀i (h:i+1<qs.length),(ns.getD qs[i] 0).testBit qs[i+1]=true
 head: ∀z,qs.head? =some z->en.testBit z=true
 e0:qs=[]->E=en
 e1: ∀z,qs.getLast? =some z->E=ns.getD z 0
 more:qs.length<N->∃p L,Pth N (fun q=>ns.getD q 0) st (p::L)/\L.length+1+qs.length=N/\xh (p::L)=v/\E.testBit p=true
 fin:qs.length=N->∀z,qs.getLast? =some z->st.testBit z=true
theorem Bck.turn{qs:List Nat}{v E e q:Nat}{ms:Mi}(b:Bck N ns st en qs v E)(lt:qs.length<N)(hm:Lay N (fun q=>ns.getD q 0) st (N-1-qs.length) ms)(hg:yp ms v=some e)(hq:(e&&& E).testBit q=true):
  Bck N ns st en (qs++[q]) (v ^^^ 2 ^ q) (ns.getD q 0)/\q<N:=by
 rw[Nat.testBit_and,Bool.and_eq_true] at hq;obtain⟨L,h1,h2,h3⟩:=(hm.is v q).mp ⟨e,hg,hq.1⟩;have nd:=h1.nd;rw[List.nodup_cons] at nd;have vq:v.testBit q=true:=by rw[<-h3];exact vP.mpr Ke
 have ev:v ^^^ 2 ^ q=xh L:=by rw[<-h3];exact znF nd.1
 have hqN:q<N:=h1.lt q Ke;have nq:q∉qs:=fun z=>by rw[b.off q z] at vq;cases vq
 have en_: ∀z,qs.getLast? =some z->(ns.getD z 0).testBit q=true:=fun z hz=>by rw[<-b.e1 z hz];exact hq.2
 refine⟨⟨fun x hx=>?_,?_,fun x hx=>?_,fun i hi=>?_,fun z hz=>?_,fun z=>?_,fun z hz=>?_,fun hl=>?_,fun hl z hz=>?_⟩,hqN⟩
 ·rcases List.mem_append.mp hx with hx|hx
  ·exact b.lt x hx
  ·rw[List.mem_singleton] at hx;rw[hx];exact hqN
 ·rw[List.nodup_append]
  refine⟨b.nd,by simp,fun a ha c hc e=>?_⟩;rw[List.mem_singleton] at hc;rw[hc] at e;rw[e] at ha;exact nq ha
 ·rw[ev,Bool.eq_false_iff]
  intro z;have z:=vP.mp z;rcases List.mem_append.mp hx with hx|hx
  ·have:=b.off x hx
   rw[<-h3,vP.mpr (Kf _ z)] at this;cases this
  ·rw[List.mem_singleton] at hx
   rw[hx] at z;exact nd.1 z
 ·rw[List.length_append,List.length_singleton] at hi
  by_cases c:i+1<qs.length
  ·rw[List.getElem_append_left (by omega),List.getElem_append_left c]
   exact b.step i c
  ·have e1:i+1=qs.length:=by omega
   rw[List.getElem_append_left (by omega),List.getElem_append_right (by omega)]
   have hz:qs.getLast? =some (qs[i]'(by omega)):=by
    rw[List.getLast?_eq_getElem?,List.getElem?_eq_some_iff];exact⟨by omega,by congr 1;omega⟩
   have:=en_ _ hz;simpa using this
 ·cases qs with
  |nil=>
   simp at hz;subst hz;rw[<-b.e0 rfl];exact hq.2
  |cons a r=>exact b.head z (by simpa using hz)
 ·simp at z
 ·simp at hz
  rw[hz]
 ·rw[List.length_append,List.length_singleton] at hl⊢
  cases h1 with
  |one h s=>simp at h2;omega
  |more h lt new nr=>
   rename_i p L;exact⟨p,L,h,by simp at h2;omega,by rw[ev],nr⟩
 ·rw[List.length_append,List.length_singleton] at hl
  have:L=[]:=List.eq_nil_of_length_eq_zero (by omega);subst this;simp at hz;subst hz
  cases h1 with
  |one h s=>exact s
noncomputable def ZG(f:List zb)(ns:List Nat)(st E:Nat)(ls:List Mi)(v:Nat)(qs:List Nat)(s7 s8:Option SV):Env:=
 [some (.val (fD f)),some (.val (.lst (ns.map nD))),some (.val (nD st)),some (.val (nD E)),some (.val (.lst (ls.map dI))),some (.val (nD v)),some (.obj true (lD (jY f qs))),s7,s8]
theorem zaJ{q:Nat}(h:q<f.length):zg .idx [fD f,nD q]=some (.val (cD (f.getD q (0,0)))):=by
 have:=zat h;rw[show f.getD q (0,0)=f[q] by simp[List.getD,h]];exact this
theorem znQ(n:Nat)(hN:N<=16)(hns:ns.length=N)(hf:f.length=N){ls:List Mi}{qs:List Nat}{v E:Nat}{ms:Mi}{s8:Option SV}(b:Bck N ns st en qs v E)(lt:qs.length<N)(hm:Lay N (fun q=>ns.getD q 0) st (N-1-qs.length) ms)(h8:zB (some s8)=true):
  ∃q,Bck N ns st en (qs++[q]) (v ^^^ 2 ^ q) (ns.getD q 0)/\zr (zC U zh n) zh kj (ZG f ns st E ls v qs (some (.val (dI ms))) s8)=some (.nx,ZG f ns st (ns.getD q 0) ls (v ^^^ 2 ^ q) (qs++[q]) (some (.val (dI ms))) (some (.val (nD q)))):=by
 have hl':=yA;obtain⟨p,L,p1,p2,p3,p4⟩:=b.more lt;obtain⟨e,g1,g2⟩:=(hm.is v p).mpr ⟨L,p1,by omega,p3⟩;have nz:(e&&& E)≠0:=Jz.mpr ⟨p,g2,p4⟩;have hq:=znH nz;obtain⟨b2,qN⟩:=b.turn lt hm g1 hq;obtain⟨q,hqe⟩: ∃q,vd (e&&& E)-1=q:=⟨_,rfl⟩;rw[hqe] at hq b2 qN;refine⟨q,b2,?_⟩;have i1:=ze5 g1;have i2:=Jy (a:=e) (b:=E);have i3:=znE (a:=e&&& E)
 have i4:zg .sub [nD (vd (e&&& E)),.int 1]=some (.val (nD q)):=by
  have:vd (e&&& E)=q+1:=by
   have:vd (e&&& E)≠0:=by unfold vd;rw[if_neg nz];omega
   omega
  rw[this];show yl (((q+1:Nat):Int)-1)=_;have:((q+1:Nat):Int)-1=(q:Int):=by omega
  rw[this];rfl
 have i5:=zaJ (f:=f) (q:=q) (by omega);have i6:=YQ (n:=q) (by omega);have i7:=znD (a:=v) (b:=2 ^ q);have i8:=zaH (ns:=ns) (q:=q) (by omega)
 have ap: ∀ρ:Env,jM ρ 6 (some (.val (cD (f.getD q (0,0))))) (some (some (.obj true (lD (jY f qs)))))=some (.nx,ρ.set 6 (some (.obj true (lD (jY f (qs++[q])))))):=fun ρ=>by
  have:((jY f qs).map cD).length<line:=by rw[List.length_map];unfold jY;rw[List.length_map];omega
  rw[lD,Vq];simp only[Option.bind_some,Zx,this,if_true];simp[lD,jY]
 generalize f.getD q (0,0)=c at*;generalize ns.getD q 0=g at*;simp -implicitDefEqProofs only[kj,ZG];simp -implicitDefEqProofs [i1,i2,i3,i4,i5,i6,i7,i8,h8,ap]
end
end LK
namespace LK
open L2.LW
section
variable {N:Nat} {ns:List Nat} {st en:Nat} {f:List zb}
theorem znR(n:Nat)(hN:N<=16)(h1:1<=N)(hns:ns.length=N)(hf:f.length=N):
  (∃qs,Run N ns st en qs/\zv U zh (n+3) 66 [fD f,.lst (ns.map nD),nD st,nD en]=some (.obj true (lD (jY f qs))))\/
  ((∀p L,Pth N (fun q=>ns.getD q 0) st (p::L)->L.length+1=N->en.testBit p=false)/\zv U zh (n+3) 66 [fD f,.lst (ns.map nD),nD st,nD en]=some (.val .non)):=by
 have hl':=yA;obtain⟨ls,l1,l2,c1⟩:=znN (ns:=ns) (st:=st) n hN h1 hns
 have hx:ls.getLast? =some (ls[N-1]'(by omega)):=by
  have z:ls[ls.length-1]? =ls[N-1]? :=by rw[l1]
  rw[List.getLast?_eq_getElem?,z];exact List.getElem?_eq_getElem _
 have hL:=l2 (N-1) (by omega);generalize ls[N-1]'(by omega)=x at*;have i0:=zfe hx;have ln:zg .len [fD f]=some (.val (nD N)):=by rw[jQ,hf];rfl
 have i1:=YQ (n:=N) (by omega)
 have i2:zg .sub [nD (2 ^ N),.int 1]=some (.val (nD (2 ^ N-1))):=by
  show yl (((2 ^ N:Nat):Int)-1)=_;have:((2 ^ N:Nat):Int)-1=((2 ^ N-1:Nat):Int):=by have:=Nat.two_pow_pos N;omega
  rw[this];rfl
 have i3:=ze6 (k:=2 ^ N-1) (ms:=x);obtain⟨e,he⟩: ∃e,(yp x (2 ^ N-1)).getD 0=e:=⟨_,rfl⟩;rw[he] at i3;have i4:=Jy (a:=e) (b:=en);have i5:=zfa (a:=e&&& en);rw[zX zmn rfl];by_cases z:(e&&& en)=0
 ·refine .inr ⟨fun p L hp hlen=>?_,?_⟩
  ·obtain⟨e',g1,g2⟩:=(hL.is (2 ^ N-1) p).mpr ⟨L,hp,by omega,znP hp.nd hp.lt (by simpa using hlen)⟩
   rw[g1] at he;have he:e'=e:=he;subst he;rw[Bool.eq_false_iff];exact fun h=>Jz.mpr ⟨p,g2,h⟩ z
  ·rw[decide_eq_true z] at i5
   simp -implicitDefEqProofs only[YH];simp -implicitDefEqProofs [c1,ln,i1,i2,i0,i3,i4,i5]
 ·rw[KG z] at i5
  obtain⟨p,b1,b2⟩:=Jz.mp z
  have ge:yp x (2 ^ N-1)=some e:=by
   cases hg:yp x (2 ^ N-1) with
   |none=>rw[hg] at he;have he:0=e:=he;rw[<-he] at b1;simp at b1
   |some y=>rw[hg] at he;have he:y=e:=he;rw[he]
  obtain⟨L,p1,p2,p3⟩:=(hL.is _ p).mp ⟨e,ge,b1⟩;have B0:Bck N ns st en [] (2 ^ N-1) en:=⟨fun q h=>(by cases h),List.nodup_nil,fun q h=>(by cases h),fun i h=>(by simp at h),fun z h=>(by cases h),fun _=>rfl,fun z h=>(by cases h),fun _=>⟨p,L,p1,by simp;omega,p3,b2⟩,fun h z hz=>(by cases hz)⟩
  obtain⟨ρ',ex,qs,v,E,s7,s8,rfl,q1,q2,_⟩:=zaG (g:=dI) (i:=7) (body:=zr (zC U zh (n+2)) zh kj)
   (fun pre ρ=>∃qs v E s7 s8,ρ=ZG f ns st E ls v qs s7 s8/\qs.length=pre.length/\Bck N ns st en qs v E/\zB (some s7)=true/\zB (some s8)=true)
   (xs:=ls.reverse) (ρ:=ZG f ns st en ls (2 ^ N-1) [] none none) ⟨[],2 ^ N-1,en,none,none,rfl,rfl,B0,rfl,rfl⟩
   fun pre m post ρ e zz=>by
    obtain⟨qs,v,E,s7,s8,eρ,q1,q2,f7,f8⟩:=zz;subst eρ;have ll:=congrArg List.length e;rw[List.length_reverse,List.length_append,List.length_cons] at ll;have gm:ls.reverse[pre.length]? =some m:=by rw[e];simp
    rw[List.getElem?_eq_some_iff] at gm;obtain⟨g1,g2⟩:=gm;rw[List.getElem_reverse] at g2;have hm:=l2 (ls.length-1-pre.length) (by omega);rw[g2,show ls.length-1-pre.length=N-1-qs.length by omega] at hm;obtain⟨q,b3,e3⟩:=znQ (n+2) hN hns hf (ls:=ls) (s8:=s8) q2 (by omega) hm f8;exact⟨_,_,e3,.inl rfl,qs++[q],_,_,_,_,rfl,by simp[q1],b3,yS,yS⟩
  rw[List.length_reverse] at q1;refine .inl ⟨qs,⟨by omega,q2.lt,q2.nd,q2.step,q2.head,q2.fin (by omega)⟩,?_⟩;have rv:yy false [.val (.lst (ls.map dI)),.val .non]=some (ls.map dI).reverse:=rfl;rw[List.map_reverse] at ex;simp -implicitDefEqProofs only[YH];simp -implicitDefEqProofs [c1,ln,i1,i2,i0,i3,i4,i5,jj,rv];rw[show D.lst []=lD (jY f []) from rfl,<-ZG,ex];simp -implicitDefEqProofs [ZG]
noncomputable def wr(f:List zb)(l c:zb):Nat:=xh ((List.range f.length).filter fun k=>ym l c (f.getD k (0,0)))
theorem znS{l c:zb}:(((List.range f.length).filter fun k=>ym l c (f.getD k (0,0))).map fun k=>2 ^ k).sum=wr f l c:=by
 unfold wr
 have key: ∀M,(((List.range M).filter fun k=>ym l c (f.getD k (0,0))).map fun k=>2 ^ k).sum=xh ((List.range M).filter fun k=>ym l c (f.getD k (0,0))):=by
  intro M
  induction M with
  |zero=>rfl
  |succ M ih=>
   rw[List.range_succ,List.filter_append,List.map_append,List.sum_append,ih];have lt:xh ((List.range M).filter fun k=>ym l c (f.getD k (0,0)))<2 ^ M:=zfc fun p hp=>List.mem_range.mp (List.mem_filter.mp hp).1
   by_cases h:ym l c (f.getD M (0,0))=true
   ·rw[List.filter_cons_of_pos (by simpa using h)]
    simp only[List.filter_nil,List.map_cons,List.map_nil,List.sum_cons,List.sum_nil,Nat.add_zero];have z:=Nat.two_pow_add_eq_or_of_lt lt 1;rw[Nat.mul_one] at z;rw[Nat.add_comm,z];apply Nat.eq_of_testBit_eq;intro i;rw[Bool.eq_iff_iff,vP,Nat.testBit_or,Bool.or_eq_true,vP,List.mem_append,List.mem_singleton];constructor
    ·rintro (z|z)
     ·right
      by_cases e:M=i
      ·exact e.symm
      ·rw[Nat.testBit_two_pow_of_ne e] at z;cases z
     ·exact .inl z
    ·rintro (z|z)
     ·exact .inr z
     ·subst z;exact .inl Nat.testBit_two_pow_self
   ·rw[List.filter_cons_of_neg (by simpa using h)]
    simp
 exact key f.length
end
end LK
namespace LK
open L2.LW
section
variable {f:List zb} {l:zb}
theorem znT{fn:Nat->List D->Option SV}{src cond elt:E}{ρ:Env}:zo fn (.compE src cond elt) ρ=(zo fn src ρ).bind fun r=>(XD r).bind fun ds=>
  if ds.length<=line then (yY (fun p=>vC p fun a b=>zA fn cond (some (.val a)::some (.val b)::ρ)) (fun p=>vC p fun a b=>zo fn elt (some (.val a)::some (.val b)::ρ)) (xB 0 ds)).map fun l=>.obj true (.lst l) else none:=rfl
theorem zff: ∀(m:Nat) (xs:List zb),xB m (xs.map cD)=(List.range xs.length).map fun k=>.tup [nD (m+k),cD (xs.getD k (0,0))]
 |_,[]=>rfl
 |m,c::r=>by
  rw[List.map_cons,xB,zff (m+1) r,List.length_cons,List.range_succ_eq_map,List.map_cons,List.map_map]
  congr 1
  apply List.map_congr_left;intro k _;show D.tup [nD (m+1+k),_]=D.tup [nD (m+(k+1)),_];rw[show m+1+k=m+(k+1) by omega];rfl
theorem znU(n:Nat)(hf:f.length<=16)(c:zb):zv U zh (n+3) 62 [fD f,cD l,cD c]=some (.val (nD (wr f l c))):=by
 have hl':=yA
 have cp: ∀ρ:Env,ρ[0]? =some (some (.val (fD f)))->ρ[1]? =some (some (.val (cD l)))->ρ[2]? =some (some (.val (cD c)))->
   zo (zv U zh (n+2)) (.compE (.var 0) (.call 10 (.cons (.var 3) (.cons (.var 4) (.cons (.var 1) .nil)))) (.prim .shl (.cons (.int 1) (.cons (.var 0) .nil)))) ρ=
    some (.obj true (.lst (((List.range f.length).filter fun k=>ym l c (f.getD k (0,0))).map fun k=>nD (2 ^ k)))):=by
  intro ρ h0 h1 h2;rw[znT];have e0:zo (zv U zh (n+2)) (.var 0) ρ=some (.val (fD f)):=by simp[h0]
  rw[e0];simp only[Option.bind_some];rw[show XD (.val (fD f))=some (f.map cD) from rfl];simp only[Option.bind_some];rw[if_pos (by rw[List.length_map];omega),zff,zak (t:=fun k=>ym l c (f.getD k (0,0))) (e:=fun k=>nD (2 ^ k))]
  ·rfl
  ·intro k hk
   have an:=zey n l c (f.getD k (0,0));rw[Nat.zero_add];generalize f.getD k (0,0)=d at*;show zA _ _ (some (.val (nD k))::some (.val (cD d))::ρ)=_;simp[h1,h2,an]
  ·intro k hk _
   rw[List.mem_range] at hk;have sh:=YQ (n:=k) (by omega);rw[Nat.zero_add];generalize f.getD k (0,0)=d at*;show (zo _ _ (some (.val (nD k))::some (.val (cD d))::ρ)).bind toD=_;simp[sh]
 have sm:zg .sumL [.lst (((List.range f.length).filter fun k=>ym l c (f.getD k (0,0))).map fun k=>nD (2 ^ k))]=some (.val (nD (wr f l c))):=by
  rw[<-znS];generalize (List.range f.length).filter (fun k=>ym l c (f.getD k (0,0)))=L;have e:(L.map fun k=>nD (2 ^ k))=(L.map fun k=>((2 ^ k:Nat):Int)).map D.int:=by rw[List.map_map];rfl
  rw[e,zlM]
  have:(L.map fun k=>((2 ^ k:Nat):Int)).sum=(((L.map fun k=>2 ^ k).sum:Nat):Int):=by
   induction L with
   |nil=>rfl
   |cons a r ih=>rw[List.map_cons,List.map_cons,List.sum_cons,List.sum_cons,ih (by rw[List.map_map];rfl)];rfl
  rw[this];rfl
 generalize (((List.range f.length).filter fun k=>ym l c (f.getD k (0,0))).map fun k=>nD (2 ^ k))=G at*;rw[zX zmj rfl];simp only[Jh];simp[cp,sm]
theorem znV: ∀w:List zb,(SV.obj true (lD w)).plain=true:=fun w=>by
 show yX (w.map cD)=true
 induction w with
 |nil=>rfl
 |cons a r ih=>simp[ih]
theorem zaK(n:Nat){m:Int}(h:(f.length:Int)<=m):zv U zh (n+1) 61 [fD f,.int m]=some (.val .non):=by
 rw[zX zmi rfl];have: ¬m<(f.length:Int):=by omega
 simp only[Jg];simp[jQ,this]
end
end LK
namespace LK
open L2.LW
section
variable {f:List zb} {l:zb}
theorem zfg{a b:zb}:zg .gt [cD a,cD b]=some (.val (.bl (decide (yi b a)))):=zmx (a:=b) (b:=a)
noncomputable def wT(f c:List zb):List zb:=f.filter fun x=> !decide (x∈c)
theorem mem_rest{c:List zb}{x:zb}:x∈wT f c↔x∈f/\x∉c:=by unfold wT;rw[List.mem_filter];simp
theorem znW(hf:OkF f){c:List zb}(h:wT f c≠[]):OkF (wT f c):=
 ⟨h,Kg (KB _ _) hf.len,fun x hx=>hf.cells x (mem_rest.mp hx).1,hf.rise.sublist Kv⟩
noncomputable def vo(f:List zb)(l:zb)(s:Nat)(c:List zb):Bool:=decide (c.length+s<(vn (wT f c) l).length)&&decide (1<(vn (wT f c) l).length)
theorem znX{P:List (List zb)}:zg .len [yk P]=some (.val (.int (P.length:Nat))):=by
 show yl ((P.map lD).length:Nat)=_;rw[List.length_map];rfl
theorem znY(n:Nat)(hf:OkF f){c:List zb}{s:Nat}(h:wT f c≠[]):zv U zh (n+6) 69 [fD f,cD l,.int (s:Int),lD c]=some (.val (.bl (vo f l s c))):=by
 have hl':=yA;have hlen:=hf.len;have pw:=zeZ (l:=l) n (F:=lD (wT f c)) rfl (znW hf h)
 have cp: ∀ρ:Env,ρ[0]? =some (some (.val (fD f)))->ρ[3]? =some (some (.val (lD c)))->zo (zv U zh (n+5)) (.comp false (.cons (.var 0) .nil) (.prim .nin (.cons (.var 0) (.cons (.var 4) .nil))) (.var 0)) ρ=some (.obj true (lD (wT f c))):=by
  intro ρ h0 h3;rw[vI (rs:=[.val (fD f)]) (xs:=f) (f:=cD) (fun x=> !decide (x∈c)) cD]
  ·rfl
  ·simp[h0]
  ·rfl
  ·omega
  ·intro x _
   simp[h3,ku]
  ·intro x _ _;simp
 have ln:=znX (P:=vn (wT f c) l);have lc:zg .len [lD c]=some (.val (.int (c.length:Nat))):=by simp[lD]
 rw[zX zmq rfl];simp only[Jm];simp[cp,pw,lc,ln];unfold vo;generalize (vn (wT f c) l).length=P;by_cases h1:c.length+s<P
 ·have h1':(c.length:Int)+s<P:=by omega
  by_cases h2:1<P
  ·have h2':(1:Int)<P:=by omega
   simp[h1,h1',h2,h2']
  ·have h2': ¬(1:Int)<P:=by omega
   simp[h1,h1',h2,h2']
 ·have h1': ¬(c.length:Int)+s<P:=by omega
  simp[h1,h1']
noncomputable def wU(f:List zb)(c:List zb):List zb:=match c.getLast? with
 |none=>f
 |some z=>f.filter fun x=>decide (yi z x)
noncomputable def xV(f:List zb)(cs:List (List zb)):List (List zb):=cs.flatMap fun c=>(wU f c).map fun x=>c++[x]
noncomputable def xq(f:List zb)(cs w:List (List zb))(s3 s4:Option SV):Env:=[some (.val (fD f)),some (.val (yk cs)),some (.obj true (yk w)),s3,s4]
theorem zfh{c:List zb}:(wU f c).length<=f.length:=by
 unfold wU;split
 ·exact Nat.le_refl _
 ·exact KB _ _
theorem znZ{c:List zb}: ∀x∈wU f c,x∈f:=fun x hx=>by
 unfold wU at hx;split at hx
 ·exact hx
 ·exact (List.mem_filter.mp hx).1
theorem zn0{w:List zb}{x:zb}(h:w.getLast? =some x):zg .idx [lD w,.int (-1)]=some (.val (cD x)):=by
 rw[List.getLast?_eq_getElem?,List.getElem?_eq_some_iff] at h;obtain⟨h1,h2⟩:=h;rw[lD,YB];unfold atI ixN;have hp:0<w.length:=by omega
 rw[if_neg (by omega),if_pos (by rw[List.length_map];omega)];simp only[Option.bind_some];rw[show (-1+((w.map cD).length:Int)).toNat=w.length-1 by rw[List.length_map];omega];rw[List.getElem?_map,List.getElem?_eq_getElem h1,h2];rfl
theorem zn1(n:Nat)(hf:f.length<=24){cs w:List (List zb)}{c:List zb}{s4:Option SV}(hw:w.length<=80000)(hc:c.length<=100)(h4:zB (some s4)=true):
  ∃s4',zr (zC U zh n) zh km (xq f cs w (some (.val (lD c))) s4)=some (.nx,xq f cs (w++(wU f c).map fun x=>c++[x]) (some (.val (lD c))) s4')/\zB (some s4')=true:=by
 have hl':=yA
 let P:zb->Bool:=fun x=>match c.getLast? with|none=>true|some z=>decide (yi z x)
 have eP:wU f c=f.filter P:=by
  unfold wU;show _=f.filter fun x=>match c.getLast? with|none=>true|some z=>decide (yi z x)
  cases c.getLast? with
  |none=>exact (List.filter_eq_self.mpr fun _ _=>rfl).symm
  |some z=>rfl
 obtain⟨ρ',e,s4',rfl,h4'⟩:=ZD (i:=4) (body:=zr (zC U zh n) zh Jn)
  (fun pre ρ=>∃s4',ρ=xq f cs (w++(pre.filter P).map fun x=>c++[x]) (some (.val (lD c))) s4'/\zB (some s4')=true)
  (xs:=f) (ρ:=xq f cs w (some (.val (lD c))) s4) ⟨s4,by simp,h4⟩
  fun pre x post ρ e zz=>by
   obtain⟨s4',eρ,g4⟩:=zz;subst eρ;have lp:pre.length+1<=f.length:=by rw[e];simp
   have lf:(pre.filter P).length<=pre.length:=KB _ _;have ec:zg .len [lD c]=some (.val (.int (c.length:Nat))):=by simp[lD]
   have ad:zg .add [lD c,.lst [cD x]]=some (.obj true (lD (c++[x]))):=by
    rw[lD,Vs (by simp;omega)];simp[lD]
   have ap: ∀(ρ:Env) (W:List (List zb)),W.length<line->jM ρ 2 (some (.obj true (lD (c++[x])))) (some (some (.obj true (yk W))))=some (.nx,ρ.set 2 (some (.obj true (yk (W++[c++[x]]))))):=fun ρ W hW=>by
    rw[yk,Vq];simp only[Option.bind_some,zeh,List.length_map,hW,if_true];simp[yk]
   have wl:(w++(pre.filter P).map fun x=>c++[x]).length<line:=by rw[List.length_append,List.length_map];omega
   have hf1:(pre++[x]).filter P=pre.filter P++(if P x=true then [x] else []):=by
    rw[List.filter_append]
    congr 1
    by_cases h:P x=true
    ·rw[if_pos h,List.filter_cons_of_pos h];rfl
    ·rw[if_neg h,List.filter_cons_of_neg h];rfl
   have hP:P x=match c.getLast? with|none=>true|some z=>decide (yi z x):=rfl
   cases hc0:c.getLast? with
   |none=>
    rw[hc0] at hP;have hP:P x=true:=hP;have cn:c=[]:=List.getLast?_eq_none_iff.mp hc0;refine⟨.nx,xq f cs ((w++(pre.filter P).map fun x=>c++[x])++[c++[x]]) (some (.val (lD c))) (some (.val (cD x))),?_,.inl rfl,some (.val (cD x)),?_,yS⟩
    ·have l0:((c.length:Nat):Int)=0:=by rw[cn];rfl
     generalize (w++(pre.filter P).map fun x=>c++[x])=W at*;have ap':=ap (xq f cs W (some (.val (lD c))) (some (.val (cD x)))) W wl;unfold xq at ap';simp only[Jn,xq];simp[ec,l0,ad,ap']
    ·rw[hf1,if_pos hP];simp
   |some z=>
    rw[hc0] at hP;have hP:P x=decide (yi z x):=hP;have li:=zn0 hc0
    have l0: ¬(((c.length:Nat):Int)=0):=fun q=>by
     have:c=[]:=List.eq_nil_of_length_eq_zero (by omega);rw[this] at hc0;cases hc0
    have l1:(((c.length:Nat):Int)==0)=false:=by simpa using l0
    by_cases hz:yi z x
    ·refine⟨.nx,xq f cs ((w++(pre.filter P).map fun x=>c++[x])++[c++[x]]) (some (.val (lD c))) (some (.val (cD x))),?_,.inl rfl,some (.val (cD x)),?_,yS⟩
     ·generalize (w++(pre.filter P).map fun x=>c++[x])=W at*
      have ap':=ap (xq f cs W (some (.val (lD c))) (some (.val (cD x)))) W wl;unfold xq at ap';simp only[Jn,xq];simp[ec,l1,li,zfg,hz,ad,ap']
     ·rw[hf1,if_pos (by rw[hP];simpa using hz)];simp
    ·refine⟨.nx,xq f cs (w++(pre.filter P).map fun x=>c++[x]) (some (.val (lD c))) (some (.val (cD x))),?_,.inl rfl,some (.val (cD x)),?_,yS⟩
     ·generalize (w++(pre.filter P).map fun x=>c++[x])=W at*
      simp only[Jn,xq];simp[ec,l1,li,zfg,hz]
     ·rw[hf1,if_neg (by rw[hP];simpa using hz)];simp
 refine⟨s4',?_,h4'⟩;rw[eP];simp -implicitDefEqProofs only[km];simp -implicitDefEqProofs [xq,h4,jk];rw[show xS (fD f)=some (f.map cD) from rfl];simp -implicitDefEqProofs only[Option.map_some,Option.bind_some];rw[<-xq,e];simp -implicitDefEqProofs [xq]
theorem zn2(n:Nat)(hf:f.length<=9){cs:List (List zb)}(hl:cs.length<=8000)(hc: ∀c∈cs,c.length<=100):zv U zh (n+1) 70 [fD f,yk cs]=some (.obj true (yk (xV f cs))):=by
 have hl':=yA;have wsnoc: ∀(pre:List (List zb)) (c:List zb),xV f (pre++[c])=xV f pre++(wU f c).map fun x=>c++[x]:=fun pre c=>by unfold xV;simp
 have wlen: ∀pre:List (List zb),(xV f pre).length<=9*pre.length:=fun pre=>by
  induction pre with
  |nil=>simp[xV]
  |cons c r ih=>
   have e:xV f (c::r)=((wU f c).map fun x=>c++[x])++xV f r:=rfl;have:=zfh (f:=f) (c:=c);rw[e,List.length_append,List.length_map,List.length_cons];omega
 obtain⟨ρ',e,s3,s4,rfl,_⟩:=zaG (g:=lD) (i:=3) (body:=zr (zC U zh n) zh km)
  (fun pre ρ=>∃s3 s4,ρ=xq f cs (xV f pre) s3 s4/\zB (some s3)=true/\zB (some s4)=true)
  (xs:=cs) (ρ:=xq f cs [] none none) ⟨none,none,rfl,rfl,rfl⟩
  fun pre c post ρ e zz=>by
   obtain⟨s3,s4,eρ,f3,f4⟩:=zz;subst eρ;have hm:c∈cs:=by rw[e];simp
   have lp:pre.length<=cs.length:=by rw[e];simp
   have:=wlen pre;obtain⟨s4',e2,f4'⟩:=zn1 n (by omega:f.length<=24) (cs:=cs) (w:=xV f pre) (c:=c) (s4:=s4) (by omega) (hc c hm) f4;exact⟨_,_,e2,.inl rfl,_,s4',by rw[wsnoc],yS,f4'⟩
 rw[zX zmr rfl];simp -implicitDefEqProofs only[Jo];simp -implicitDefEqProofs [jk];rw[show xS (yk cs)=some (cs.map lD) from rfl];simp -implicitDefEqProofs only[Option.map_some,Option.bind_some];rw[show D.lst []=yk [] from rfl,<-xq,e];simp -implicitDefEqProofs [xq]
noncomputable def zN(f:List zb):Nat->List (List zb)
 |0=>[[]]
 |k+1=>xV f (zN f k)
theorem zn3{cs:List (List zb)}{m:Nat}(hf:f.length<=m):(xV f cs).length<=m*cs.length:=by
 induction cs with
 |nil=>simp[xV]
 |cons c r ih=>
  have e:xV f (c::r)=((wU f c).map fun x=>c++[x])++xV f r:=rfl;have:=zfh (f:=f) (c:=c);rw[e,List.length_append,List.length_map,List.length_cons,Nat.mul_add,Nat.mul_one];omega
theorem zfi(hf:f.length<=9): ∀k,(zN f k).length<=9 ^ k
 |0=>by simp[zN]
 |k+1=>by
  have:=zn3 (cs:=zN f k) hf;have ih:=zfi hf k;rw[zN,Nat.pow_succ];omega
theorem kH: ∀{k:Nat} {c:List zb},c∈zN f k->c.length=k/\∀x∈c,x∈f
 |0,c,h=>by
  rw[zN,List.mem_singleton] at h;subst h;exact⟨rfl,fun x hx=>(by cases hx)⟩
 |k+1,c,h=>by
  rw[zN,xV,List.mem_flatMap] at h;obtain⟨d,hd,hc⟩:=h;obtain⟨x,hx,rfl⟩:=List.mem_map.mp hc;obtain⟨h1,h2⟩:=kH hd;refine⟨by simp[h1],fun y hy=>?_⟩;rcases List.mem_append.mp hy with hy|hy
  ·exact h2 y hy
  ·rw[List.mem_singleton] at hy;rw[hy];exact znZ x hx
theorem zfj(hr:f.Pairwise yi): ∀{k:Nat},k<=f.length->f.take k∈zN f k
 |0,_=>by simp[zN]
 |k+1,h=>by
  have ih:=zfj hr (k:=k) (by omega);rw[zN,xV,List.mem_flatMap];refine⟨f.take k,ih,List.mem_map.mpr ⟨f[k]'(by omega),?_,?_⟩⟩
  ·unfold wU
   cases hz:(f.take k).getLast? with
   |none=>exact Ku _
   |some z=>
    rw[List.mem_filter,decide_eq_true_iff];refine⟨Ku _,?_⟩;have hk:k≠0:=fun e=>by rw[e] at hz;simp at hz
    rw[List.getLast?_eq_getElem?,List.length_take,Nat.min_eq_left (by omega),List.getElem?_take,if_pos (by omega),List.getElem?_eq_some_iff] at hz;obtain⟨h1,h2⟩:=hz;rw[<-h2];exact (List.pairwise_iff_getElem.mp hr) (k-1) k h1 (by omega) (by omega)
  ·rw[List.take_add_one,List.getElem?_eq_getElem (by omega:k<f.length)];rfl
end
end LK
namespace LK
open L2.LW
section
variable {f:List zb} {l:zb}
noncomputable def vQ(f:List zb)(m:Nat):List (List zb):=(List.range m).flatMap (zN f)
theorem zaL(m:Nat):vQ f (m+1)=vQ f m++zN f m:=by
 unfold vQ;rw[List.range_succ,List.flatMap_append];simp
theorem zfk{p:List zb->Bool}{c:List zb}: ∀{m k:Nat},k<=m->(vQ f k).find? p=some c->(vQ f m).find? p=some c
 |0,k,h,e=>by
  obtain rfl:k=0:=by omega
  exact e
 |m+1,k,h,e=>by
  by_cases z:k=m+1
  ·subst z;exact e
  ·rw[zaL,List.find?_append,zfk (m:=m) (by omega) e];rfl
theorem rest_ne(nd:f.Nodup){c:List zb}(h:c.length<f.length):wT f c≠[]:=fun z=>by
 have:=vM nd (m:=c) fun x hx=>by
  by_cases q:x∈c
  ·exact q
  ·have:=mem_rest.mpr ⟨hx,q⟩
   rw[z] at this;cases this
 omega
noncomputable def xR(f:List zb)(l:zb)(s:Nat)(s3 s4:Option SV):Env:=[some (.val (fD f)),some (.val (cD l)),some (.val (.int (s:Int))),s3,s4]
noncomputable def kI(f:List zb)(l:zb)(s:Nat):D:=match (vQ f ((f.length+1)/2)).find? (vo f l s) with
 |some c=>lD c
 |none=>.non
theorem zn4(n:Nat)(hf:OkF f)(hl:OkL l)(h9:f.length<=9){s:Nat}(hs:s<=1):zv U zh (n+7) 71 [fD f,cD l,.int (s:Int)]=some (.val (kI f l s)):=by
 have hl':=yA;have nd:=OkF.nodup hf.rise;have nz:zv U zh (n+6) 6 [fD f]=some (.val (fD f)):=vJ (n+2) hf;have cl:zv U zh (n+6) 7 [cD l]=some (.val (cD l)):=vK (n+3) hl;have rb:=zaK (f:=f) (n+5) (m:=9) (by omega);have wo:=kr (n+5) (s:Int) 0 1
 have w1:(decide ((0:Int)<=(s:Int))&&decide ((s:Int)<=1))=true:=by
  rw[decide_eq_true (by omega),decide_eq_true (by omega)];rfl
 rw[w1] at wo
 obtain⟨fl,ρ',e,hq⟩:=zeq (test:=zA (zv U zh (n+6)) (.prim .lt (.cons (.prim .mul (.cons (.int 2) (.cons (.prim .len (.cons (.prim .idx (.cons (.var 3) (.cons (.int 0) .nil))) .nil)) .nil))) (.cons (.prim .len (.cons (.var 0) .nil)) .nil)))) (body:=zr (zC U zh (n+6)) zh ko)
  (fun m ρ=>∃k s4,ρ=xR f l s (some (.obj true (yk (zN f k)))) s4/\2*k<=f.length+1/\(vQ f k).find? (vo f l s)=none/\zB (some s4)=true/\m=10-k)
  (fun ρ=>(∃s3 s4,ρ=xR f l s s3 s4)/\(vQ f ((f.length+1)/2)).find? (vo f l s)=none)
  (fun r=>∃c,(vQ f ((f.length+1)/2)).find? (vo f l s)=some c/\r= .val (lD c))
  (m:=10) (n:=zh) (ρ:=xR f l s (some (.obj true (yk [[]]))) none) (by unfold zh;omega)
  ⟨0,none,rfl,by omega,rfl,rfl,rfl⟩
  fun m ρ zz=>by
   obtain⟨k,s4,eρ,q1,q2,q3,rfl⟩:=zz;subst eρ;have cm:=zfj hf.rise (k:=k) (by have:=hf.ne;cases f<;>simp_all<;>omega)
   obtain⟨c0,r0,e0⟩: ∃c0 r0,zN f k=c0::r0:=by
    cases h:zN f k with
    |nil=>rw[h] at cm;cases cm
    |cons a b=>exact⟨a,b,rfl⟩
   have l0:c0.length=k:=(kH (f:=f) (k:=k) (c:=c0) (by rw[e0];exact Ke)).1;have cl9:=zfi h9 k;have p9:9 ^ k<=59049:=KJ (n:=9) (by decide) (by omega:k<=5)
   have i0:zg .idx [yk (zN f k),.int 0]=some (.val (lD c0)):=by
    rw[e0,yk,YB,show (0:Int)=((0:Nat):Int) from rfl,atI_nat (by simp)];simp
   have i1:zg .len [lD c0]=some (.val (.int (k:Int))):=by simp[lD,l0]
   have i2:zg .mul [.int 2,.int (k:Int)]=some (.val (.int (2*(k:Int)))):=zlI (by omega)
   have ht:zA (zv U zh (n+6)) (.prim .lt (.cons (.prim .mul (.cons (.int 2) (.cons (.prim .len (.cons (.prim .idx (.cons (.var 3) (.cons (.int 0) .nil))) .nil)) .nil))) (.cons (.prim .len (.cons (.var 0) .nil)) .nil))) (xR f l s (some (.obj true (yk (zN f k)))) s4)=some (decide (2*k<f.length)):=by
    have:decide (2*(k:Int)<(f.length:Int))=decide (2*k<f.length):=by rw[decide_eq_decide];omega
    simp -implicitDefEqProofs [xR,i0,i1,i2,jQ,this]
   by_cases c:2*k<f.length
   ·refine .inr ⟨by rw[ht,decide_eq_true c],?_⟩
    have k4:k<=4:=by omega
    have cl8:(zN f k).length<=6561:=Kg cl9 (KJ (n:=9) (by decide) k4);have lv: ∀d∈zN f k,zv U zh (n+6) 69 [fD f,cD l,.int (s:Int),lD d]=some (.val (.bl (vo f l s d))):=fun d hd=>znY n hf (rest_ne nd (by rw[(kH hd).1];omega))
    have om:=zn2 (f:=f) (n+5) h9 (cs:=zN f k) (by omega) fun d hd=>by rw[(kH hd).1];omega
    obtain⟨fl,ρ',e,hq⟩:=zlQ (i:=4) (body:=zr (zC U zh (n+6)) zh kn) (f:=lD) (xs:=zN f k)
     (fun i ρ=>∃s4,ρ=xR f l s (some (.val (yk (zN f k)))) s4/\((zN f k).take i).find? (vo f l s)=none/\zB (some s4)=true)
     (fun r=>∃c,(vQ f (k+1)).find? (vo f l s)=some c/\r= .val (lD c))
     (ρ:=xR f l s (some (.val (yk (zN f k)))) s4) ⟨s4,rfl,rfl,q3⟩
     fun i ρ hi zz=>by
      obtain⟨s4,eρ,g1,g2⟩:=zz;subst eρ;have hd:(zN f k)[i]∈zN f k:=Ku _;have lv1:=lv _ hd;have tk:(zN f k).take (i+1)=(zN f k).take i++[(zN f k)[i]]:=by rw[List.take_add_one,List.getElem?_eq_getElem hi];rfl
      by_cases hb:vo f l s (zN f k)[i]=true
      ·rw[hb] at lv1
       refine⟨.rt (.val (lD (zN f k)[i])),xR f l s (some (.val (yk (zN f k)))) (some (.val (lD (zN f k)[i]))),?_,.inr ⟨_,rfl,(zN f k)[i],?_,rfl⟩⟩
       ·generalize (zN f k)[i]=d at*
        simp only[kn,xR];simp[lv1]
       ·rw[zaL,List.find?_append,q2]
        have sp:zN f k=(zN f k).take i++((zN f k)[i]::(zN f k).drop (i+1)):=by
         rw[<-List.drop_eq_getElem_cons hi,List.take_append_drop]
        conv=>lhs;rw[sp]
        rw[List.find?_append,g1,List.find?_cons_of_pos hb];rfl
      ·have hb':vo f l s (zN f k)[i]=false:=by simpa using hb
       rw[hb'] at lv1;refine⟨.nx,xR f l s (some (.val (yk (zN f k)))) (some (.val (lD (zN f k)[i]))),?_,.inl ⟨.inl rfl,some (.val (lD (zN f k)[i])),rfl,?_,yS⟩⟩
       ·generalize (zN f k)[i]=d at*
        simp only[kn,xR];simp[lv1]
       ·rw[tk,List.find?_append,g1,List.find?_cons_of_neg hb];rfl
    have fz:Vp [some (SV.val (fD f)),some (SV.val (cD l)),some (SV.val (.int (s:Int))),some (SV.obj true (yk (zN f k))),s4] 3 (some (some (SV.obj true (yk (zN f k)))))=some ((zN f k).map lD,xR f l s (some (.val (yk (zN f k)))) s4):=rfl;rcases hq with ⟨rfl,s4',rfl,g1,g2⟩|⟨r,rfl,d,g1,rfl⟩
    ·rw[List.take_length] at g1
     refine⟨.nx,xR f l s (some (.obj true (yk (zN f (k+1))))) s4',?_,.inl ⟨.inl rfl,10-(k+1),by omega,k+1,s4',rfl,by omega,?_,g2,rfl⟩⟩
     ·rw[zN]
      generalize zN f k=Q at*;simp -implicitDefEqProofs only[ko,xR];simp -implicitDefEqProofs [q3,jk];rw[fz];simp -implicitDefEqProofs only[Option.map_some,Option.bind_some];rw[e];simp -implicitDefEqProofs [xR,om]
     ·rw[zaL,List.find?_append,q2,g1];rfl
    ·refine⟨.rt (.val (lD d)),ρ',?_,.inr ⟨_,rfl,d,zfk (by omega) g1,rfl⟩⟩
     generalize zN f k=Q at*;simp -implicitDefEqProofs only[ko,xR];simp -implicitDefEqProofs [q3,jk];rw[fz];simp -implicitDefEqProofs only[Option.map_some,Option.bind_some];rw[e];simp -implicitDefEqProofs
   ·refine .inl ⟨by rw[ht,KG c],⟨_,_,rfl⟩,?_⟩
    rw[show (f.length+1)/2=k by omega];exact q2
 rw[zX zms rfl];unfold kI;rcases hq with ⟨rfl,⟨s3,s4,rfl⟩,hno⟩|⟨r,rfl,c,hc,rfl⟩
 ·rw[hno]
  simp -implicitDefEqProofs only[YJ];simp -implicitDefEqProofs [nz,cl,rb,wo,Zw];rw[show D.lst [D.lst []]=yk [[]] from rfl,<-xR,e];simp -implicitDefEqProofs
 ·rw[hc]
  simp -implicitDefEqProofs only[YJ];simp -implicitDefEqProofs [nz,cl,rb,wo,Zw];rw[show D.lst [D.lst []]=yk [[]] from rfl,<-xR,e];simp -implicitDefEqProofs
end
end LK
namespace LK
open L2.LW
noncomputable def gd(d:D):Prop:=zV 3 d=true/\zx 6 d=true
theorem zaM{L:List D}(h: ∀d∈L,zV 2 d=true/\zx 5 d=true):gd (.lst L):=by
 refine⟨?_,?_⟩
 ·show L.all (zV 2)=true
  rw[List.all_eq_true];exact fun d hd=>(h d hd).1
 ·show L.all (zx 5)=true
  rw[List.all_eq_true];exact fun d hd=>(h d hd).2
theorem YS(w:List zb):gd (lD w):=zaM fun d hd=>by
 obtain⟨c,_,rfl⟩:=List.mem_map.mp hd;exact⟨rfl,rfl⟩
theorem zfl(P:List (List zb)):gd (yk P):=zaM fun d hd=>by
 obtain⟨w,_,rfl⟩:=List.mem_map.mp hd;refine⟨?_,?_⟩
 ·show (w.map cD).all (zV 1)=true
  rw[List.all_eq_true];intro d hd;obtain⟨c,_,rfl⟩:=List.mem_map.mp hd;rfl
 ·show (w.map cD).all (zx 4)=true
  rw[List.all_eq_true];intro d hd;obtain⟨c,_,rfl⟩:=List.mem_map.mp hd;rfl
theorem zfm(f:List zb)(ms:Ms):gd (.lst ((jm f ms).map (vm ms))):=zaM fun d hd=>by
 obtain⟨c,_,rfl⟩:=List.mem_map.mp hd;exact⟨rfl,rfl⟩
mutual
theorem zfn: ∀(n:Nat) (d:D),zx n d=true->zH d d=true
 |_,.int i,_=>by simp[zH]
 |_,.bl i,_=>by simp[zH]
 |_,.non,_=>by simp[zH]
 |_,.str x,h=>by simp[zx] at h
 |0,.tup l,h=>by simp[zx] at h
 |0,.lst l,h=>by simp[zx] at h
 |0,.dct _ _ _,h=>by simp[zx] at h
 |n+1,.tup l,h=>by
  rw[zH];exact zaN n l (by simpa [zx] using h)
 |n+1,.lst l,h=>by
  rw[zH];exact zaN n l (by simpa [zx] using h)
 |_+1,.dct _ _ _,h=>by simp[zx] at h
theorem zaN: ∀(n:Nat) (l:List D),(∀x∈l,zx n x=true)->yW l l=true
 |_,[],_=>by simp[yW]
 |n,d::r,h=>by
  rw[yW,zfn n d (h d Ke),zaN n r fun x hx=>h x (Kf _ hx)];rfl
end
section
variable {f:List zb} {l:zb}
theorem zn5(n:Nat)(hl:OkL l)(hf:OkF f): ∃x d,gd d/\zv U zh (n+30) 47 [fD f,cD l]=some (.val (.tup [.str x,d])):=by
 have hl':=yA;have hlen:=hf.len;have hn:=zeL hf;obtain⟨ms,T,h1,h2⟩:=zaA n hl hf;have ck:=vJ (n+25) hf;have cl':=vK (n+26) hl;generalize hA:(f.filter fun c=>(get ms c).isNone)=A
 have comp:zo (zv U zh (n+29)) (.comp false (.cons (.var 0) .nil) (.prim .nin (.cons (.var 0) (.cons (.var 3) .nil))) (.var 0)) [some (.val (fD f)),some (.val (cD l)),some (.obj true (dD ms)),none,none]=some (.obj true (lD A)):=by
  rw[vI (rs:=[.val (fD f)]) (xs:=f) (f:=cD) (fun c=>(get ms c).isNone) cD]
  ·rw[hA];rfl
  ·simp
  ·rfl
  ·omega
  ·intro x _
   simp[zmU]
  ·intro x _ _;simp
 rw[zX zmh rfl];simp only[Jf]
 cases A with
 |nil=>
  have e0:zg .len [lD []]=some (.val (.int 0)):=rfl;have po:=zeN (n+28) (f:=f) (by omega) (ms:=ms);have gp:=zfm f ms;have pl:(SV.obj true (.lst ((jm f ms).map (vm ms)))).plain=true:=ze2 fun c=>by simp[vm]
  refine⟨PySem.Str.ofString "paired",.lst ((jm f ms).map (vm ms)),gp,?_⟩;generalize (jm f ms).map (vm ms)=L at*;simp[ck,cl',h2,comp,e0,po,zei pl]
 |cons a r=>
  have ha:=List.mem_filter.mp (show a∈f.filter fun c=>(get ms c).isNone by rw[hA];exact Ke);have hg:get ms a=none:=by simpa using ha.2
  have hh:=zaz (n+26) hl a
  have ix:zg .idx [lD (a::r),.int 0]=some (.val (cD a)):=by
   rw[lD,YB,show (0:Int)=((0:Nat):Int) from rfl,atI_nat (by simp)];rfl
  obtain⟨m,ln,nz⟩: ∃m:Int,zg .len [lD (a::r)]=some (.val (.int m))/\¬m=0:=⟨_,zaB,by rw[List.length_cons];omega⟩
  have cw: ∃T',wQ f l ms T'/\∀x∈f,zM l x=zM l a->get ms x=none->∀o∈nb f l x,T' o:=by
   rcases jS (l:=l) a with z|z
   ·rw[z];exact⟨T,h1.cl,h1.free⟩
   ·rw[z]
    obtain⟨T',c,d,_⟩:=znf hl h1;exact⟨T',c,d⟩
  obtain⟨T',c1,c2⟩:=cw;obtain⟨cr,ar,w,e40⟩:=zeP (n+24) hl hf h1.toMatch c1 (k:=zM l a) c2;have ncr:=znA hn h1.toMatch c1 w;have scr:=znB h1.toMatch c1 w;have lcr:cr.length<64:=by have:=vM ncr scr;omega
  have ne:cr≠[]:=fun z=>by
   have:a∈cr:=by
    rw[w.is,List.mem_append];exact .inl (List.mem_filter.mpr ⟨ha.1,by simp[hg]⟩)
   rw[z] at this;cases this
  obtain⟨g,g1,g2⟩:=ze0 cr ncr;have so:zg .sorted [lD cr]=some (.obj true (lD g)):=zns ne ncr lcr g1 g2;have i0:zg .idx [.tup [lD cr,lD ar],.int 0]=some (.val (lD cr)):=rfl;refine⟨PySem.Str.ofString "crowd",lD g,YS g,?_⟩;generalize zM l a=hu at*;simp[ck,cl',h2,comp,ln,nz,ix,hh,e40,i0,so]
theorem zn6{test:Env->Option Bool}{body:Env->Option (Fl×Env)}{ρ:Env}(h:test ρ=some false):xE test body zh ρ=some (.nx,ρ):=by
 show xE test body (99999+1) ρ=_;rw[xE,h];rfl
theorem zn7(n:Nat)(hf:OkF f)(hl:OkL l){c:zb}(hc:c∈f):zv U zh (n+5) 26 [fD f,cD l,cD c,cD c]=some (.obj true (lD [c])):=by
 have hlen:=hf.len;obtain⟨ms,hm,e⟩:=znp n (f:=f) (l:=l) (goal:=c) (by omega) hc;have c1:=vJ n hf;have c2:=vK (n+1) hl;have c3:=zex (n+1) (hf.cells c hc) hc
 have hin:zJ ms c=some none:=by
  cases z:zJ ms c with
  |none=>
   have:=(hm.all c).mpr ⟨0,rfl⟩;rw[z] at this;cases this
  |some v=>
   cases v with
   |none=>rfl
   |some p=>
    obtain⟨_,j,h1,_⟩:=hm.next c p z;exact KC rfl (h1.2 0 (by omega))
 have li:zg .idx [.lst [cD c],.int (-1)]=some (.val (cD c)):=rfl;have ig:=znk (g:=oD) hin;rw[zX zl5 rfl];simp only[VT];simp[c1,c2,c3,e,Jw,hin,Zw];rw[zn6 (by simp[li,ig,oD])];rfl
end
end LK
namespace LK
open L2.LW
section
variable {f:List zb} {l:zb}
@[simp] theorem zuJ{fa:Nat->List D->Option Ans}{fuel i:Nat}{ρ:Env}:zF fa fuel (.wipe i) ρ=XH (zE fa i) ρ:=rfl
noncomputable def JB(r:SV)(d:D):Prop:=toD r=some d/\(d= .non\/∃w,d=lD w)
theorem zfo(n:Nat)(h16:f.length<=16)(ρ:Env)(h0:ρ[0]? =some (some (.val (fD f))))(h1:ρ[1]? =some (some (.val (cD l)))):
  zo (zv U zh (n+3)) (.comp false (.cons (.var 0) .nil) (.bl true) (.call 62 (.cons (.var 1) (.cons (.var 2) (.cons (.var 0) .nil))))) ρ=some (.obj true (.lst ((f.map (wr f l)).map nD))):=by
 have hl':=yA;rw[zal (rs:=[.val (fD f)]) (xs:=f) (f:=cD) (fun c=>nD (wr f l c))]
 ·rw[List.map_map];rfl
 ·simp[h0]
 ·rfl
 ·omega
 ·intro c _
  have:=znU (l:=l) n h16 c;simp[h0,h1,this]
theorem zfp(n st en:Nat)(h1:1<=f.length)(h:f.length<=16): ∃r d,JB r d/\(r.plain=true)/\r.lent=false/\zv U zh (n+3) 66 [fD f,.lst ((f.map (wr f l)).map nD),nD st,nD en]=some r:=by
 rcases znR (N:=f.length) (ns:=f.map (wr f l)) (st:=st) (en:=en) (f:=f) n h h1 (by simp) rfl with ⟨qs,_,e⟩|⟨_,e⟩
 ·exact⟨_,_,⟨rfl,.inr ⟨_,rfl⟩⟩,znV _,rfl,e⟩
 ·exact⟨_,_,⟨rfl,.inl rfl⟩,rfl,rfl,e⟩
theorem zn8(n:Nat)(hf:OkF f)(hl:OkL l)(h:f.length<=9): ∃r d,JB r d/\zv U zh (n+5) 67 [fD f,cD l]=some r:=by
 have h1:1<=f.length:=by have:=hf.ne;cases f<;>simp_all
 obtain⟨r,d,o,p,q,e⟩:=zfp (f:=f) (l:=l) (n+1) (2 ^ f.length-1) (2 ^ f.length-1) h1 (by omega);refine⟨r,d,o,?_⟩;have nz:zv U zh (n+4) 6 [fD f]=some (.val (fD f)):=vJ n hf;have cl:zv U zh (n+4) 7 [cD l]=some (.val (cD l)):=vK (n+1) hl;have rb:=zaK (f:=f) (n+3) (m:=16) (by omega);have cp:=fun ρ h0 h1=>zfo (f:=f) (l:=l) (n+1) (by omega) ρ h0 h1
 have i1:=YQ (n:=f.length) (by omega);have ln:zg .len [fD f]=some (.val (nD f.length)):=by rw[jQ];rfl
 have i2:zg .sub [nD (2 ^ f.length),.int 1]=some (.val (nD (2 ^ f.length-1))):=by
  show yl (((2 ^ f.length:Nat):Int)-1)=_;have:((2 ^ f.length:Nat):Int)-1=((2 ^ f.length-1:Nat):Int):=by have:=Nat.two_pow_pos f.length;omega
  rw[this];rfl
 rw[zX zmo rfl];generalize (f.map (wr f l)).map nD=Q at*;simp -implicitDefEqProofs only[Jl];simp -implicitDefEqProofs [nz,cl,rb,cp,ln,i1,i2,e,p,q]
theorem zn9(n:Nat)(hf:OkF f)(hl:OkL l)(h:f.length<=9): ∃r d,JB r d/\zv U zh (n+5) 68 [fD f,cD l]=some r:=by
 have nz:zv U zh (n+4) 6 [fD f]=some (.val (fD f)):=vJ n hf;have cl:zv U zh (n+4) 7 [cD l]=some (.val (cD l)):=vK (n+1) hl;have rb:=zaK (f:=f) (n+3) (m:=16) (by omega);have cp:=fun ρ h0 h1=>zfo (f:=f) (l:=l) (n+1) (by omega) ρ h0 h1
 rw[zX zmp rfl];by_cases h3:f.length<3
 ·have lt:((f.length:Int)<3):=by omega
  refine⟨.val .non,.non,⟨rfl,.inl rfl⟩,?_⟩;simp -implicitDefEqProofs only[YI];simp -implicitDefEqProofs [nz,cl,rb,jQ,lt]
 ·have lt: ¬((f.length:Int)<3):=by omega
  have i0:zg .idx [.lst ((f.map (wr f l)).map nD),.int 0]=some (.val (nD ((f.map (wr f l)).getD 0 0))):=zaH (ns:=f.map (wr f l)) (q:=0) (by simp;omega);generalize (f.map (wr f l)).getD 0 0=en at i0;obtain⟨r,d,o,p,q,e⟩:=zfp (f:=f) (l:=l) (n+1) 1 en (by omega) (by omega);have e:zv U zh (n+4) 66 [fD f,.lst ((f.map (wr f l)).map nD),.int 1,nD en]=some r:=e;refine⟨r,d,o,?_⟩;generalize (f.map (wr f l)).map nD=Q at*;simp -implicitDefEqProofs only[YI];simp -implicitDefEqProofs [nz,cl,rb,jQ,lt,cp,i0,e,p,q]
theorem zoa(n:Nat)(hf:OkF f)(hl:OkL l)(h:f.length<=9): ∃r d,JB r d/\zv U zh (n+7) 71 [fD f,cD l,.int 1]=some r:=by
 refine⟨_,kI f l 1,⟨rfl,?_⟩,zn4 n hf hl h (s:=1) (by decide)⟩;unfold kI;split
 ·exact .inr ⟨_,rfl⟩
 ·exact .inl rfl
theorem zaO{r:SV}{d:D}(h:JB r d)(n:vc d=false):gd d:=by
 rcases h.2 with z|⟨w,z⟩
 ·rw[z] at n;cases n
 ·rw[z];exact YS w
theorem zob(n:Nat)(hf:OkF f)(hl:OkL l)(h9:f.length<=9): ∃d0 d1 d2 d3 d6 more C P,(∀d∈[d0,d1,d2,d3,d6]++more,gd d)/\more.length<=3/\(C:List zb).length+(P:List zb).length=f.length/\
  zv U zh (n+32) 80 [fD f,cD l]=some (.obj true (.lst ([d0,d1,d2,d3,lD C,lD P,d6,lD [f.getD 0 (0,0)]]++more))):=by
 have hl':=yA;have h1:0<f.length:=by have:=hf.ne;cases f<;>simp_all
 have ix:zg .idx [fD f,.int 0]=some (.val (cD (f.getD 0 (0,0)))):=zaJ (f:=f) (q:=0) h1
 have hc:f.getD 0 (0,0)∈f:=by
  rw[List.getD_eq_getElem?_getD,List.getElem?_eq_getElem h1];exact Ku _
 generalize f.getD 0 (0,0)=c at ix hc;have e0:=zmJ (n+26) hf hl hc;have e1:=zny (n+25) hf hl;have e2:=znz (n+26) hf hl;obtain⟨ms,T,_,e3⟩:=zna (n+1) hl hf;obtain⟨_,_,cr,ar,_,_,e4,e5⟩:=znj n hl hf;obtain⟨x,d6,g6,e6⟩:=zn5 (n+1) hl hf;have e7:=zn7 (n+26) hf hl hc;obtain⟨r8,d8,o8,e8⟩:=zn8 (n+26) hf hl h9;obtain⟨r9,d9,o9,e9⟩:=zn9 (n+26) hf hl h9;obtain⟨ra,da,oa,ea⟩:=zoa (n+24) hf hl h9;have i6:zg .idx [.tup [.str x,d6],.int 1]=some (.val d6):=rfl;have g0:gd (.lst ((f.filter (ym l c)).map cD)):=YS _;have g1:=zfl (vn f l);have g2:gd (.lst [lD (jW f l 0),lD (jW f l 1)]):=zfl [_,_];have g3:=zfm f ms;have ln:(kD f l cr ar).length+(kE f l cr ar).length=f.length:=ze1 (p:=ZF l cr ar) (f:=f);refine⟨.lst ((f.filter (ym l c)).map cD),yk (vn f l),.lst [lD (jW f l 0),lD (jW f l 1)],.lst ((jm f ms).map (vm ms)),d6,[d8,d9,da].filter fun d=> !vc d,kD f l cr ar,kE f l cr ar,?_,KB _ _,ln,?_⟩
 ·intro d hd
  rcases List.mem_append.mp hd with hd|hd
  ·simp only[List.mem_cons,List.not_mem_nil,or_false] at hd
   rcases hd with rfl|rfl|rfl|rfl|rfl
   ·exact g0
   ·exact g1
   ·exact g2
   ·exact g3
   ·exact g6
  ·obtain⟨hm,hn⟩:=List.mem_filter.mp hd
   have hn:vc d=false:=by simpa using hn
   simp only[List.mem_cons,List.not_mem_nil,or_false] at hm;rcases hm with rfl|rfl|rfl
   ·exact zaO o8 hn
   ·exact zaO o9 hn
   ·exact zaO oa hn
 ·generalize D.lst ((f.filter (ym l c)).map cD)=D0 at*
  generalize yk (vn f l)=D1 at*;generalize D.lst [lD (jW f l 0),lD (jW f l 1)]=D2 at*;generalize D.lst ((jm f ms).map (vm ms))=D3 at*;generalize lD (kD f l cr ar)=D4 at*;generalize lD (kE f l cr ar)=D5 at*;generalize lD [c]=D7 at*;have t8:=o8.1;have t9:=o9.1;have ta:=oa.1
  have cp: ∀ρ:Env,ρ[3]? =some (some (.obj true (.lst [d8,d9,da])))->zo (zv U zh (n+31)) (.comp false (.cons (.var 3) .nil) (.prim .notN (.cons (.var 0) .nil)) (.var 0)) ρ=some (.obj true (.lst ([d8,d9,da].filter fun d=> !vc d))):=by
   intro ρ h3;rw[vI (rs:=[.obj false (.lst [d8,d9,da])]) (xs:=[d8,d9,da]) (f:=id) (fun d=> !vc d) id]
   ·simp
   ·simp[h3]
   ·rfl
   ·exact Kg (by decide:3<=100000) hl'
   ·intro d _;simp
   ·intro d _ _;simp
  have lm:([d8,d9,da].filter fun d=> !vc d).length<=3:=KB _ _;generalize ([d8,d9,da].filter fun d=> !vc d)=M at*;have ad1:zg .add [.lst [D0,D1,D2,D3],.lst [D4,D5,d6]]=some (.obj true (.lst [D0,D1,D2,D3,D4,D5,d6])):=Vs (Kg (by decide:7<=100000) hl');have ad2:zg .add [.lst [D0,D1,D2,D3,D4,D5,d6,D7],.lst M]=some (.obj true (.lst ([D0,D1,D2,D3,D4,D5,d6,D7]++M))):=Vs (by simp;omega);have l7:7<line:=Ki (by decide:7<100000) hl';rw[zX zmt rfl];simp -implicitDefEqProofs only[Jp];simp -implicitDefEqProofs [ix,e0,e1,e2,e3,e4,e5,e6,e7,e8,e9,ea,i6,t8,t9,ta,cp,ad1,ad2,l7]
end
end LK
namespace LK
open L2.LW
theorem zoc{g:List D->Option SV}{s fl lp:D}{ds:List D}(h1:plain fl=true)(h2:plain lp=true)(h:g [fl,lp]=some (.obj true (.lst ds)))(ht:ds.all (zV 4)=true):
  XH g [some (.val s),some (.val fl),some (.val lp),none,none,none]=some (.nx,[none,some (.val fl),some (.val lp),none,some (.val (.lst ds)),none]):=by
 show (if (plain fl&&plain lp)=true then (match g [fl,lp] with
  |some (.obj true (.lst ds))=>if ds.all (zV 4) then some (Fl.nx,([none,some (SV.val fl),some (SV.val lp),none,some (SV.val (.lst ds)),none]:Env)) else none
  |_=>none) else none)=_
 rw[h1,h2,if_pos (by rfl),h];show (if ds.all (zV 4)=true then _ else _)=_;rw[if_pos ht]
theorem zaP: ∀(n:Nat) (d:D),zx n d=true->zx (n+1) d=true
 |_,.int _,_=>by simp[zx]
 |_,.bl _,_=>by simp[zx]
 |_,.non,_=>by simp[zx]
 |_,.str _,h=>by simp[zx] at h
 |0,.tup _,h=>by simp[zx] at h
 |0,.lst _,h=>by simp[zx] at h
 |0,.dct _ _ _,h=>by simp[zx] at h
 |n+1,.tup l,h=>by
  have h:l.all (zx n)=true:=h;show l.all (zx (n+1))=true;rw[List.all_eq_true] at h⊢;exact fun d hd=>zaP n d (h d hd)
 |n+1,.lst l,h=>by
  have h:l.all (zx n)=true:=h;show l.all (zx (n+1))=true;rw[List.all_eq_true] at h⊢;exact fun d hd=>zaP n d (h d hd)
 |_+1,.dct _ _ _,h=>by simp[zx] at h
theorem zod(n:Nat)(ns:List Int):zv U zh (n+33) 81 [sD ns]=some (.val (.bl true)):=by
 have hl':=yA;obtain⟨f,hf,h9,e1⟩:=zmQ (n+30) ns (at_:=2) (most:=9) (by decide) (by decide) (by decide);obtain⟨l,hl,e2⟩:=zmS (n+31) (Zz ns 0);have c0:=Jr (n+31) ns (k:=0) (by decide);obtain⟨d0,d1,d2,d3,d6,more,C,P,hg,hm,hs,e3⟩:=zob n hf hl (by omega);have h1:0<f.length:=by have:=hf.ne;cases f<;>simp_all
 have ix:zg .idx [fD f,.int 0]=some (.val (cD (f.getD 0 (0,0)))):=zaJ (f:=f) (q:=0) h1;generalize f.getD 0 (0,0)=c at ix e3
 have all: ∀d∈[d0,d1,d2,d3,lD C,lD P,d6,lD [c]]++more,gd d:=fun d hd=>by
  rcases List.mem_append.mp hd with hd|hd
  ·simp only[List.mem_cons,List.not_mem_nil,or_false] at hd
   rcases hd with rfl|rfl|rfl|rfl|rfl|rfl|rfl|rfl
   ·exact hg _ (by simp)
   ·exact hg _ (by simp)
   ·exact hg _ (by simp)
   ·exact hg _ (by simp)
   ·exact YS C
   ·exact YS P
   ·exact hg _ (by simp)
   ·exact YS [c]
  ·exact hg d (Ko _ hd)
 have i4:zg .idx [.lst ([d0,d1,d2,d3,lD C,lD P,d6,lD [c]]++more),.int 4]=some (.val (lD C)):=by
  show (atI ([d0,d1,d2,d3,lD C,lD P,d6,lD [c]]++more) ((4:Nat):Int)).map SV.val=_;rw[atI_nat (by simp)];rfl
 have i5:zg .idx [.lst ([d0,d1,d2,d3,lD C,lD P,d6,lD [c]]++more),.int 5]=some (.val (lD P)):=by
  show (atI ([d0,d1,d2,d3,lD C,lD P,d6,lD [c]]++more) ((5:Nat):Int)).map SV.val=_;rw[atI_nat (by simp)];rfl
 have i7:zg .idx [.lst ([d0,d1,d2,d3,lD C,lD P,d6,lD [c]]++more),.int 7]=some (.val (lD [c])):=by
  show (atI ([d0,d1,d2,d3,lD C,lD P,d6,lD [c]]++more) ((7:Nat):Int)).map SV.val=_;rw[atI_nat (by simp)];rfl
 generalize [d0,d1,d2,d3,lD C,lD P,d6,lD [c]]++more=L at*
 have sh:zx 8 (.lst L)=true:=by
  show L.all (zx 7)=true;rw[List.all_eq_true];exact fun d hd=>zaP 6 d (all d hd).2
 have tr:L.all (zV 4)=true:=by
  rw[List.all_eq_true];exact fun d hd=>zac 3 d (all d hd).1
 have q1:zg .eq [.lst L,.lst L]=some (.val (.bl true)):=by rw[YA sh sh,zfn 8 _ sh]
 have q2:zg .eq [lD [c],.lst [cD c]]=some (.val (.bl true)):=by
  have:=zmT (a:=[c]) (b:=[c]);rw[decide_eq_true rfl] at this;exact this
 have lC:zg .len [lD C]=some (.val (.int (C.length:Int))):=zaB;have lP:zg .len [lD P]=some (.val (.int (P.length:Int))):=zaB;have sum:((C.length:Int)+(P.length:Int))=(f.length:Int):=by omega
 have wi:=zoc (s:=sD ns) (g:=zv U zh (n+32) 80) zmv rfl e3 tr;rw[zX zmu rfl];simp -implicitDefEqProofs only[Jq];simp -implicitDefEqProofs [e1,c0,e2,wi,e3,q1,ix,i7,q2,i4,i5,lC,lP,sum,jQ]
theorem zoe(ns:List Int)(_:ns.length<=63):zv U zh depth 81 [.lst (ns.map D.int)]=some (.val (.bl true)):=zod 7 ns
end LK
set_option maxHeartbeats 4000000
namespace LK
open PySem PySem.Spec PyProof.Rows L2 L2.LW
noncomputable def zm(i:Nat):Stmt:=PySem.Challenge.pw_leaperwalk_k20_nothing_is_kept.main.body.getD i (.Pass ⟨0,0,0,0⟩)
noncomputable def zG:Nat->List Str
 |0=>["thing","least","most"]
 |1=>["thing"]
 |2=>["thing"]
 |3=>["thing"]
 |4=>["cells"]
 |5=>["thing"]
 |6=>["floor"]
 |7=>["leap"]
 |8=>["floor","cell"]
 |9=>["down","right"]
 |10=>["leap","one","other"]
 |11=>["floor","leap","cell"]
 |12=>["floor","leap","cell"]
 |13=>["_law_script","_law_k"]
 |14=>["_law_cell_here","_law_prime","_law_many"]
 |15=>["_law_script","_law_at","_law_most"]
 |16=>["_law_cell_here"]
 |20=>["floor","leap","goal"]
 |21=>["leap"]
 |22=>["leap"]
 |23=>["leap","cell"]
 |24=>["floor","leap","hue"]
 |25=>["floor","leap"]
 |26=>["floor","leap","one","other"]
 |30=>["cells","leap"]
 |31=>["floor","leap"]
 |37=>["floor","leap","mates","cell","tried"]
 |38=>["floor","leap"]
 |39=>["floor","mates"]
 |40=>["floor","leap","mates","hue"]
 |41=>["leap","cell","crowd","around"]
 |42=>["floor","leap","covering"]
 |43=>["floor","leap"]
 |44=>["floor","leap"]
 |45=>["floor","leap"]
 |47=>["floor","leap"]
 |61=>["floor","most"]
 |62=>["floor","leap","cell"]
 |63=>["count","starts"]
 |64=>["near","layer"]
 |65=>["near","starts"]
 |66=>["floor","near","starts","ends"]
 |67=>["floor","leap"]
 |68=>["floor","leap"]
 |69=>["floor","leap","spare","cut"]
 |70=>["floor","cuts"]
 |71=>["floor","leap","spare"]
 |78=>["_law_thing"]
 |79=>["_law_thing"]
 |80=>["_law_floor_here","_law_leap_here"]
 |81=>["_law_script"]
 |_=>[]
noncomputable def zaQ:Nat->List Nat
 |37=>[2,4]
 |_=>[]
noncomputable abbrev fO(x:Str)(i:Nat):=PySem.W.fnOf x x (ZS (zm i)) (wY (zm i)) (zk (zm i)) .none
structure nT (K:Ka)(mg:Str->Option Value)(F:Nat->Addr)(FD:Nat->FuncData)(k:Nat)(x:Str)(t:Nat):Prop where
 m:mg x=some (.ref (F k))
 f:Fun K x x (zm t) (F k) (FD k)
 b:Binds K (FD k) (zG k) []
structure fH (K:Ka)(f:Addr)(oc:Value)(od:Option Addr)(kV dc pm:Value)(an:Option Addr)(cd ct:Value)(sl:Array (Option Value))(x:Str)(t:Nat):Prop where
 a:PySem.W.nsIn K mainGlobals x=some (some (.ref f))
 l:K.lookup f=some ⟨oc,od,.func (fO x t kV dc pm an cd ct),sl⟩
 e:PySem.W.codeIn K cd x=true
 k:PySem.W.keepIn K (.ref f)=true
noncomputable def YT(K:Ka)(a:Addr):FuncData:=match K.lookup a with
 |some ⟨_,_,.func fd,_⟩=>fd
 |_=>fO "" 0 .none .none .none none .none .none
theorem zfq{K:Ka}{f:Addr}{oc:Value}{od:Option Addr}{fd:FuncData}{sl:Array (Option Value)}(l:K.lookup f=some ⟨oc,od,.func fd,sl⟩):YT K f=fd:=by unfold YT;rw[l]
theorem zof{K:Ka}{mg:Str->Option Value}{F:Nat->Addr}{h:Heap}{f:Addr}{oc:Value}{od:Option Addr}{kV dc pm:Value}{an:Option Addr}{cd ct:Value}{sl:Array (Option Value)}{x:Str}{t k:Nat}(X:K.In h)(G:h.Ns mainGlobals mg)(z:fH K f oc od kV dc pm an cd ct sl x t)
  (hF:F k=f) (hb: ∀(kV doc pm:Value) (an:Option Addr) (cdv ct:Value) (us:List Value),us.length=(zG k).length->bindArgs (fO x t kV doc pm an cdv ct) ⟨us,[]⟩=pure ((zG k).zip us)):nT K mg F (fun i=>YT K (F i)) k x t:=by
 subst hF;have e:=ziz (st:=zm t) z.l z.e z.k;have d:=zfq z.l;exact⟨Kw X G z.a,by rw[d];exact e,by rw[d];exact e.binds hb⟩
structure Txt (K:Ka)(mg:Str->Option Value)(F:Nat->Addr)(FD:Nat->FuncData)(TK:Nat->Tok):Prop where
 n0:nT K mg F FD 0 "is_whole" 11
 n1:nT K mg F FD 1 "is_couple" 12
 n2:nT K mg F FD 2 "is_cell" 13
 n3:nT K mg F FD 3 "is_leap" 14
 n4:nT K mg F FD 4 "is_rising" 15
 n5:nT K mg F FD 5 "is_floor" 16
 n6:nT K mg F FD 6 "checked" 17
 n7:nT K mg F FD 7 "checked_leap" 18
 n8:nT K mg F FD 8 "checked_cell" 19
 n9:nT K mg F FD 9 "folded" 21
 n10:nT K mg F FD 10 "are_near" 22
 n11:nT K mg F FD 11 "cells_near" 23
 n12:nT K mg F FD 12 "near_cells" 30
 n13:nT K mg F FD 13 "_law_cell" 61
 n14:nT K mg F FD 14 "_law_mix" 62
 n15:nT K mg F FD 15 "_law_floor" 65
 n16:nT K mg F FD 16 "_law_leap" 66
 n20:nT K mg F FD 20 "leads_to" 24
 n21:nT K mg F FD 21 "greatest_divisor" 26
 n22:nT K mg F FD 22 "has_odd_sum" 27
 n23:nT K mg F FD 23 "hue_of" 28
 n24:nT K mg F FD 24 "cells_of_hue" 29
 n25:nT K mg F FD 25 "hues_of" 32
 n26:nT K mg F FD 26 "a_way" 59
 n30:nT K mg F FD 30 "parts_within" 25
 n31:nT K mg F FD 31 "parts_of" 31
 n37:nT K mg F FD 37 "finds_mate" 34
 n38:nT K mg F FD 38 "all_mates" 35
 n39:nT K mg F FD 39 "pairs_of" 36
 n40:nT K mg F FD 40 "crowd_and_around" 37
 n41:nT K mg F FD 41 "is_in_cover" 38
 n42:nT K mg F FD 42 "cells_by_cover" 39
 n43:nT K mg F FD 43 "most_pairs" 40
 n44:nT K mg F FD 44 "cover" 41
 n45:nT K mg F FD 45 "peaceful" 42
 n47:nT K mg F FD 47 "paired" 43
 n61:nT K mg F FD 61 "refuse_big" 47
 n62:nT K mg F FD 62 "bits_near" 48
 n63:nT K mg F FD 63 "one_cell_walks" 49
 n64:nT K mg F FD 64 "one_cell_longer" 50
 n65:nT K mg F FD 65 "layers_from" 51
 n66:nT K mg F FD 66 "walk_between" 52
 n67:nT K mg F FD 67 "walk" 53
 n68:nT K mg F FD 68 "ring_walk" 54
 n69:nT K mg F FD 69 "leaves_too_many" 55
 n70:nT K mg F FD 70 "one_cell_more" 56
 n71:nT K mg F FD 71 "cut_of" 57
 n78:nT K mg F FD 78 "_law_twin" 63
 n79:nT K mg F FD 79 "_law_emptied" 64
 n80:nT K mg F FD 80 "_law_lists" 67
 n81:nT K mg F FD 81 "law" 68
 z_isinstance:mg "isinstance"=none
 z_int:mg "int"=none
 z_bool:mg "bool"=none
 z_len:mg "len"=none
 z_tuple:mg "tuple"=none
 z_range:mg "range"=none
 z_all:mg "all"=none
 z_abs:mg "abs"=none
 z_max:mg "max"=none
 z_min:mg "min"=none
 z_sorted:mg "sorted"=none
 z_enumerate:mg "enumerate"=none
 z_sum:mg "sum"=none
 z_reversed:mg "reversed"=none
 z_list:mg "list"=none
 c0:mg "LAST_LINE"=some (.int 7 (TK 0))
 c1:mg "MOST_CELLS"=some (.int 24 (TK 1))
 c2:mg "LONGEST_LEAP"=some (.int 4 (TK 2))
 c3:mg "MOST_TO_WALK"=some (.int 16 (TK 3))
 c4:mg "MOST_TO_CUT"=some (.int 9 (TK 4))
 nol: ∀a xs,¬vE K a xs
theorem ik{X:Cx}{F:Nat->Addr}{FD:Nat->FuncData}{n k t:Nat}{x:Str}{fa:Nat->List D->Option Ans}{io:List Nat}{e:Expr}{es:List Expr}{cs:Es}{p pos:Pos}(h:FnOk X.prog X.w X.K X.mg X.base yE n (F k) (FD k) (zG k) (wx X.K fa k io))(N:nT X.K X.mg F FD k x t)(hr:Room n X.A)(hg:Gl X x)
  (ha:IA X (zE fa) (e::es) cs) (hd:(x==("__debug__":Str))=false) (he:starEach (e::es) X.env=(false,eval e X.env)::starEach es X.env) (hp:(backTo pos (starEach es X.env)).any (·.1)=false) (hio:io=[]:=by rfl):
  IE X (zE fa) (.Call (.Name x p) (e::es) [] pos) (.call k cs):=zjt (zjs h hio) hr hg N.m N.f.kp N.b ha hd he hp
noncomputable abbrev xD(x:Str):Prop:=(x==("__debug__":Str))=false
noncomputable abbrev xC(x:Str):Prop:=(x==("__classdict__":Str))=false
noncomputable abbrev xN(x:Str):Prop:=x≠"__name__"
noncomputable abbrev xG(i:Nat)(x:Str):Prop:=(zk (zm i)).names.lookup x=some .globalImplicit
noncomputable def zfr(N P:List Str)(sc:Scope):Bool:=decide (sc.kind= .function)&& !sc.isCoroutine&& !sc.isGenerator&&decide N.Nodup&&decide (N.take P.length=P)&&P.all (fun x=>decide (sc.names.lookup x=some .local)||decide (sc.names.lookup x=some .cell))&&sc.names.all fun y=>decide (y.2≠ .free)
theorem zR{N P:List Str}{sc:Scope}(h:zfr N P sc=true:=by decide+kernel):FnScope N P sc:=by
 simp only[zfr,Bool.and_eq_true,decide_eq_true_eq,List.all_eq_true,Bool.or_eq_true,Bool.not_eq_true'] at h;obtain⟨⟨⟨⟨⟨⟨a,b⟩,c⟩,d⟩,e⟩,f⟩,g⟩:=h;exact⟨a,b,c,d,e,f,g⟩
noncomputable abbrev rO(F:Nat->Addr)(cdv:Value)(A:Around)(s:Shared)(n:Nat)(q:Str)(t i:Nat):Prop:=Room n (A.deeper (envOfC q (zk (zm t)) s.heap.objs.size (F i) cdv))
noncomputable abbrev bO(Pg:Program)(w:World)(K:Ka)(mg:Str->Option Value)(base:Heap)(F:Nat->Addr)(cdv:Value)(A:Around)(outer:List PySem.Env)(s:Shared)(H:Hp)(E:XK)(fuel n:Nat)(N:List Str)(q:Str)(t i:Nat)(ir:Ss):Prop:=ISs (vy yE Pg w K mg base N q (zk (zm t)) (F i) cdv A outer s H E).nox (zr (zC U fuel n) fuel ir) (wY (zm t))
theorem gD{i:Nat}{x:Str}(h:xG i x:=by decide+kernel):xG i x:=h
theorem qD{x:Str}(h:xD x:=by decide+kernel):xD x:=h
theorem qC{x:Str}(h:xC x:=by decide+kernel):xC x:=h
theorem qN{x:Str}(h:xN x:=by decide+kernel):xN x:=h
theorem qB{N:List Str}{sc:Scope}(h:zK N sc=true:=by decide+kernel):zK N sc=true:=h
theorem vL{scope:Scope}{env:PySem.Env}{y:Str}(h:scope.names.lookup y=some .local:=by decide+kernel):xK (relabel scope env) y:=zjL h
theorem vF{scope:Scope}{env:PySem.Env}{y:Str}(h:scope.names.lookup y=some .free:=by decide+kernel):xK (relabel scope env) y:=zjK h
noncomputable def Bd(Pg:Program)(w:World)(K:Ka)(mg:Str->Option Value)(base:Heap)(F:Nat->Addr)(fuel n:Nat)(N:List Str)(q:Str)(t i:Nat)(ir:Ss):Prop:=∀(cdv:Value) (A:Around) (outer:List PySem.Env) (s:Shared) (H:Hp) (E:XK),rO F cdv A s n q t i->bO Pg w K mg base F cdv A outer s H E fuel n N q t i ir
theorem zog:xD "int":=qD
theorem zoh:xN "int":=qN
theorem zoi:xD "bool":=qD
theorem zoj:xN "bool":=qN
theorem yU:xD "len":=qD
theorem yV:xN "len":=qN
theorem zaR:xD "tuple":=qD
theorem zaS:xN "tuple":=qN
theorem zfs:xD "LAST_LINE":=qD
theorem JC:xD "is_whole":=qD
theorem zft:xD "is_couple":=qD
theorem zok:xD "LONGEST_LEAP":=qD
theorem JD:xD "cells":=qD
theorem JE:xC "cells":=qC
theorem zaT:xD "place":=qD
theorem zaU:xC "place":=qC
theorem zfu:xD "all":=qD
theorem zfv:xN "all":=qN
theorem zol:xD "is_rising":=qD
theorem zom:xD "part":=qD
theorem zon:xC "part":=qC
theorem zfw:xD "is_cell":=qD
theorem zoo:xD "MOST_CELLS":=qD
theorem kJ:xD "floor":=qD
theorem kK:xC "floor":=qC
theorem zop:xD "is_floor":=qD
theorem jq:xD "leap":=qD
theorem jr:xC "leap":=qC
theorem zoq:xD "is_leap":=qD
theorem xw:xD "cell":=qD
theorem xx:xC "cell":=qC
theorem kL:xD "abs":=qD
theorem kM:xN "abs":=qN
theorem zfx:xD "max":=qD
theorem zfy:xN "max":=qN
theorem zor:xD "min":=qD
theorem zos:xN "min":=qN
theorem zot:xD "folded":=qD
theorem zaV:xD "other":=qD
theorem zaW:xC "other":=qC
theorem zfz:xD "are_near":=qD
theorem zaX:xD "leads":=qD
theorem zaY:xC "leads":=qC
theorem kN:xD "further":=qD
theorem kO:xC "further":=qC
theorem kP:xD "cells_near":=qD
theorem zfA:xD "edge":=qD
theorem zfB:xC "edge":=qC
theorem zfC:xD "parts":=qD
theorem zfD:xC "parts":=qC
theorem zou:xD "placed":=qD
theorem zov:xC "placed":=qC
theorem zfE:xD "leads_to":=qD
theorem zaZ:xD "number":=qD
theorem za0:xC "number":=qC
theorem zfF:xD "greatest_divisor":=qD
theorem zow:xD "has_odd_sum":=qD
theorem za1:xD "hue_of":=qD
theorem zox:xD "hue":=qD
theorem zoy:xC "hue":=qC
theorem za2:xD "checked_cell":=qD
theorem vR:xD "checked_leap":=qD
theorem vS:xD "checked":=qD
theorem zfG:xD "parts_within":=qD
theorem kQ:xD "cells_of_hue":=qD
theorem zfH:xD "tried":=qD
theorem zfI:xC "tried":=qC
theorem vT:xD "mates":=qD
theorem vU:xC "mates":=qC
theorem zfJ:xD "finds_mate":=qD
theorem zoz:xD "around":=qD
theorem zoA:xC "around":=qC
theorem zoB:xD "crowd":=qD
theorem zoC:xC "crowd":=qC
theorem zfK:xD "found":=qD
theorem zfL:xC "found":=qC
theorem zoD:xD "is_in_cover":=qD
theorem zoE:xD "covering":=qD
theorem zoF:xC "covering":=qC
theorem za3:xD "all_mates":=qD
theorem zfM:xD "crowd_and_around":=qD
theorem zfN:xD "pairs_of":=qD
theorem zfO:xD "cells_by_cover":=qD
theorem zoG:xD "sorted":=qD
theorem zoH:xN "sorted":=qN
theorem zoI:xD "sum":=qD
theorem zoJ:xN "sum":=qN
theorem za4:xD "layer":=qD
theorem za5:xC "layer":=qC
theorem zfP:xD "longer":=qD
theorem zfQ:xC "longer":=qC
theorem zfR:xD "layers":=qD
theorem zfS:xC "layers":=qC
theorem zoK:xD "one_cell_longer":=qD
theorem zoL:xD "one_cell_walks":=qD
theorem zoM:xD "layers_from":=qD
theorem zfT:xD "walk_between":=qD
theorem zfU:xD "bits_near":=qD
theorem zfV:xD "MOST_TO_WALK":=qD
theorem za6:xD "refuse_big":=qD
theorem zfW:xD "cut":=qD
theorem zfX:xC "cut":=qC
theorem zfY:xD "wider":=qD
theorem zfZ:xC "wider":=qC
theorem zf0:xD "cuts":=qD
theorem zf1:xC "cuts":=qC
theorem zoN:xD "one_cell_more":=qD
theorem zoO:xD "leaves_too_many":=qD
theorem zoP:xD "MOST_TO_CUT":=qD
theorem zf2:xD "way":=qD
theorem zf3:xC "way":=qC
theorem za7:xD "list":=qD
theorem za8:xN "list":=qN
theorem za9:xD "_law_one":=qD
theorem zba:xC "_law_one":=qC
theorem zf4:xD "_law_twin":=qD
theorem zf5:xD "_law_emptied":=qD
theorem YU:xD "_law_mix":=qD
theorem zoQ:xD "_law_found":=qD
theorem zoR:xC "_law_found":=qC
theorem JF:xD "_law_cell":=qD
theorem zoS:xD "cut_of":=qD
theorem zoT:xD "ring_walk":=qD
theorem zoU:xD "walk":=qD
theorem zoV:xD "a_way":=qD
theorem zoW:xD "_law_some":=qD
theorem zoX:xC "_law_some":=qC
theorem zoY:xD "paired":=qD
theorem zoZ:xD "peaceful":=qD
theorem zo0:xD "cover":=qD
theorem zo1:xD "most_pairs":=qD
theorem zo2:xD "hues_of":=qD
theorem zo3:xD "parts_of":=qD
theorem zo4:xD "near_cells":=qD
theorem zf6:xD "_law_lists":=qD
theorem zo5:xD "_law_leap":=qD
theorem zo6:xD "_law_floor":=qD
noncomputable def N0:List Str:=["thing","least","most"]
theorem zo7:FnScope N0 (zG 0) (zk (zm 11)):=zR
theorem b0:zK N0 (zk (zm 11))=true:=qB
theorem zf7:xG 11 "isinstance":=gD
theorem zo8:xG 11 "int":=gD
theorem zo9:xG 11 "bool":=gD
noncomputable def N1:List Str:=["thing"]
theorem zpa:FnScope N1 (zG 1) (zk (zm 12)):=zR
theorem b1:zK N1 (zk (zm 12))=true:=qB
theorem zpb:xG 12 "len":=gD
theorem zpc:xG 12 "isinstance":=gD
theorem zpd:xG 12 "tuple":=gD
noncomputable def N2:List Str:=["thing"]
theorem zpe:FnScope N2 (zG 2) (zk (zm 13)):=zR
theorem b2:zK N2 (zk (zm 13))=true:=qB
theorem zf8:xG 13 "LAST_LINE":=gD
theorem zf9:xG 13 "is_whole":=gD
theorem zpf:xG 13 "is_couple":=gD
noncomputable def N3:List Str:=["thing"]
theorem zpg:FnScope N3 (zG 3) (zk (zm 14)):=zR
theorem b3:zK N3 (zk (zm 14))=true:=qB
theorem zga:xG 14 "is_whole":=gD
theorem zph:xG 14 "LONGEST_LEAP":=gD
theorem zpi:xG 14 "is_couple":=gD
noncomputable def N4:List Str:=["cells"]
theorem zpj:FnScope N4 (zG 4) (zk (zm 15)):=zR
theorem b4:zK N4 (zk (zm 15))=true:=qB
theorem zpk:xG 15 "len":=gD
theorem zpl:xG 15 "range":=gD
theorem zpm:xG 15 "all":=gD
noncomputable def N5:List Str:=["thing"]
theorem zpn:FnScope N5 (zG 5) (zk (zm 16)):=zR
theorem b5:zK N5 (zk (zm 16))=true:=qB
theorem zpo:xG 16 "is_rising":=gD
theorem zpp:xG 16 "all":=gD
theorem zpq:xG 16 "len":=gD
theorem zpr:xG 16 "MOST_CELLS":=gD
theorem zps:xG 16 "isinstance":=gD
theorem zpt:xG 16 "tuple":=gD
noncomputable def N6:List Str:=["floor"]
theorem zpu:FnScope N6 (zG 6) (zk (zm 17)):=zR
theorem b6:zK N6 (zk (zm 17))=true:=qB
theorem zpv:xG 17 "is_floor":=gD
noncomputable def N7:List Str:=["leap"]
theorem zpw:FnScope N7 (zG 7) (zk (zm 18)):=zR
theorem b7:zK N7 (zk (zm 18))=true:=qB
theorem zpx:xG 18 "is_leap":=gD
noncomputable def N8:List Str:=["floor","cell"]
theorem zpy:FnScope N8 (zG 8) (zk (zm 19)):=zR
theorem b8:zK N8 (zk (zm 19))=true:=qB
theorem zpz:xG 19 "is_cell":=gD
noncomputable def N9:List Str:=["down","right"]
theorem zpA:FnScope N9 (zG 9) (zk (zm 21)):=zR
theorem b9:zK N9 (zk (zm 21))=true:=qB
theorem kR:xG 21 "abs":=gD
theorem zpB:xG 21 "max":=gD
theorem zpC:xG 21 "min":=gD
noncomputable def zbb:List Str:=["leap","one","other"]
theorem zpD:FnScope zbb (zG 10) (zk (zm 22)):=zR
theorem JG:zK zbb (zk (zm 22))=true:=qB
theorem zpE:xG 22 "folded":=gD
noncomputable def kS:List Str:=["floor","leap","cell"]
theorem zpF:FnScope kS (zG 11) (zk (zm 23)):=zR
theorem zpG:zK kS (zk (zm 23))=true:=qB
noncomputable def zbc:List Str:=["floor","leap","cell"]
theorem zpH:FnScope zbc (zG 12) (zk (zm 30)):=zR
theorem ZH:zK zbc (zk (zm 30))=true:=qB
theorem zpI:xG 30 "cells_near":=gD
theorem zpJ:xG 30 "checked_cell":=gD
theorem zpK:xG 30 "checked_leap":=gD
theorem zpL:xG 30 "checked":=gD
noncomputable def zbd:List Str:=["_law_script","_law_k"]
theorem zpM:FnScope zbd (zG 13) (zk (zm 61)):=zR
theorem kU:zK zbd (zk (zm 61))=true:=qB
theorem zpN:xG 61 "len":=gD
noncomputable def zbe:List Str:=["_law_cell_here","_law_prime","_law_many"]
theorem zpO:FnScope zbe (zG 14) (zk (zm 62)):=zR
theorem zbf:zK zbe (zk (zm 62))=true:=qB
noncomputable def zbg:List Str:=["_law_script","_law_at","_law_most","_law_cell_here","_law_rows","_law_wide","_law_down","_law_right","_law_way","_law_found","_law_r","_law_c","_law_seed"]
theorem wV:FnScope zbg (zG 15) (zk (zm 65)):=zR
theorem ye:zK zbg (zk (zm 65))=true:=qB
theorem zpP:xG 65 "tuple":=gD
theorem zgb:xG 65 "range":=gD
theorem YV:xG 65 "_law_mix":=gD
theorem kW:xG 65 "_law_cell":=gD
noncomputable def zbh:List Str:=["_law_cell_here","_law_some"]
theorem zgc:FnScope zbh (zG 16) (zk (zm 66)):=zR
theorem zbi:zK zbh (zk (zm 66))=true:=qB
noncomputable def zbj:List Str:=["floor","leap","goal","leads","edge","further","cell","other"]
theorem ZI:FnScope zbj (zG 20) (zk (zm 24)):=zR
theorem xi:zK zbj (zk (zm 24))=true:=qB
theorem zpQ:xG 24 "len":=gD
theorem zpR:xG 24 "cells_near":=gD
noncomputable def kX:List Str:=["leap"]
theorem zpS:FnScope kX (zG 21) (zk (zm 26)):=zR
theorem zpT:zK kX (zk (zm 26))=true:=qB
theorem zpU:xG 26 "range":=gD
theorem zpV:xG 26 "max":=gD
noncomputable def zbk:List Str:=["leap","divisor"]
theorem zgd:FnScope zbk (zG 22) (zk (zm 27)):=zR
theorem YW:zK zbk (zk (zm 27))=true:=qB
theorem zpW:xG 27 "greatest_divisor":=gD
noncomputable def zbl:List Str:=["leap","cell","divisor","row","column"]
theorem kY:FnScope zbl (zG 23) (zk (zm 28)):=zR
theorem wW:zK zbl (zk (zm 28))=true:=qB
theorem zpX:xG 28 "has_odd_sum":=gD
theorem zpY:xG 28 "greatest_divisor":=gD
noncomputable def kZ:List Str:=["floor","leap","hue"]
theorem zpZ:FnScope kZ (zG 24) (zk (zm 29)):=zR
theorem zp0:zK kZ (zk (zm 29))=true:=qB
noncomputable def zbm:List Str:=["floor","leap"]
theorem zp1:FnScope zbm (zG 25) (zk (zm 32)):=zR
theorem YX:zK zbm (zk (zm 32))=true:=qB
theorem zge:xG 32 "cells_of_hue":=gD
theorem zp2:xG 32 "checked_leap":=gD
theorem zp3:xG 32 "checked":=gD
noncomputable def zbn:List Str:=["floor","leap","one","other","leads","way"]
theorem zbo:FnScope zbn (zG 26) (zk (zm 59)):=zR
theorem xy:zK zbn (zk (zm 59))=true:=qB
theorem zp4:xG 59 "leads_to":=gD
theorem zgf:xG 59 "checked_cell":=gD
theorem zp5:xG 59 "checked_leap":=gD
theorem zp6:xG 59 "checked":=gD
noncomputable def zbp:List Str:=["cells","leap","parts","placed","cell","leads"]
theorem JH:FnScope zbp (zG 30) (zk (zm 25)):=zR
theorem wt:zK zbp (zk (zm 25))=true:=qB
theorem zp7:xG 25 "sorted":=gD
theorem zp8:xG 25 "leads_to":=gD
noncomputable def zbq:List Str:=["floor","leap"]
theorem zp9:FnScope zbq (zG 31) (zk (zm 31)):=zR
theorem qa:zK zbq (zk (zm 31))=true:=qB
theorem zqa:xG 31 "parts_within":=gD
theorem zqb:xG 31 "checked_leap":=gD
theorem zqc:xG 31 "checked":=gD
noncomputable def zbr:List Str:=["floor","leap","mates","cell","tried","other"]
theorem zgg:FnScope zbr (zG 37) (zk (zm 34)):=zR
theorem xj:zK zbr (zk (zm 34))=true:=qB
theorem zqd:xG 34 "cells_near":=gD
theorem zqe:xG 34 "finds_mate":=gD
noncomputable def zbs:List Str:=["floor","leap","mates","cell"]
theorem zbt:FnScope zbs (zG 38) (zk (zm 35)):=zR
theorem jt:zK zbs (zk (zm 35))=true:=qB
theorem zqf:xG 35 "cells_of_hue":=gD
theorem zqg:xG 35 "finds_mate":=gD
noncomputable def qb:List Str:=["floor","mates"]
theorem zqh:FnScope qb (zG 39) (zk (zm 36)):=zR
theorem zqi:zK qb (zk (zm 36))=true:=qB
noncomputable def qc:List Str:=["floor","leap","mates","hue","crowd","around","edge","further","cell","other"]
theorem ju:FnScope qc (zG 40) (zk (zm 37)):=zR
theorem yD:zK qc (zk (zm 37))=true:=qB
theorem zqj:(zk (zm 37)).names.lookup ("crowd":Str)=some .local:=by decide+kernel
theorem zqk:xG 37 "len":=gD
theorem zql:xG 37 "cells_near":=gD
theorem zqm:xG 37 "cells_of_hue":=gD
noncomputable def zbu:List Str:=["leap","cell","crowd","around"]
theorem zqn:FnScope zbu (zG 41) (zk (zm 38)):=zR
theorem YY:zK zbu (zk (zm 38))=true:=qB
theorem zqo:xG 38 "hue_of":=gD
noncomputable def qd:List Str:=["floor","leap","covering","found"]
theorem zgh:FnScope qd (zG 42) (zk (zm 39)):=zR
theorem jZ:zK qd (zk (zm 39))=true:=qB
theorem zqp:xG 39 "all_mates":=gD
theorem zqq:xG 39 "crowd_and_around":=gD
theorem zqr:xG 39 "checked_leap":=gD
theorem zqs:xG 39 "checked":=gD
noncomputable def zbv:List Str:=["floor","leap"]
theorem zqt:FnScope zbv (zG 43) (zk (zm 40)):=zR
theorem JI:zK zbv (zk (zm 40))=true:=qB
theorem zqu:xG 40 "all_mates":=gD
theorem zqv:xG 40 "pairs_of":=gD
theorem zqw:xG 40 "checked_leap":=gD
theorem zqx:xG 40 "checked":=gD
noncomputable def zbw:List Str:=["floor","leap"]
theorem zqy:FnScope zbw (zG 44) (zk (zm 41)):=zR
theorem zgi:zK zbw (zk (zm 41))=true:=qB
theorem zqz:xG 41 "cells_by_cover":=gD
noncomputable def zbx:List Str:=["floor","leap"]
theorem zqA:FnScope zbx (zG 45) (zk (zm 42)):=zR
theorem zgj:zK zbx (zk (zm 42))=true:=qB
theorem zqB:xG 42 "cells_by_cover":=gD
noncomputable def qe:List Str:=["floor","leap","mates","alone","found"]
theorem qf:FnScope qe (zG 47) (zk (zm 43)):=zR
theorem wm:zK qe (zk (zm 43))=true:=qB
theorem zqC:(zk (zm 43)).names.lookup ("alone":Str)=some .local:=by decide+kernel
theorem zqD:xG 43 "sorted":=gD
theorem zqE:xG 43 "hue_of":=gD
theorem zqF:xG 43 "crowd_and_around":=gD
theorem zqG:xG 43 "len":=gD
theorem zqH:xG 43 "pairs_of":=gD
theorem zqI:xG 43 "all_mates":=gD
theorem zqJ:xG 43 "checked_leap":=gD
theorem zqK:xG 43 "checked":=gD
noncomputable def zby:List Str:=["floor","most"]
theorem zqL:FnScope zby (zG 61) (zk (zm 47)):=zR
theorem zgk:zK zby (zk (zm 47))=true:=qB
theorem zqM:xG 47 "len":=gD
noncomputable def qg:List Str:=["floor","leap","cell"]
theorem zqN:FnScope qg (zG 62) (zk (zm 48)):=zR
theorem zqO:zK qg (zk (zm 48))=true:=qB
theorem zqP:xG 48 "enumerate":=gD
theorem zqQ:xG 48 "sum":=gD
noncomputable def zbz:List Str:=["count","starts","layer","place"]
theorem zbA:FnScope zbz (zG 63) (zk (zm 49)):=zR
theorem jv:zK zbz (zk (zm 49))=true:=qB
theorem zqR:xG 49 "range":=gD
noncomputable def zbB:List Str:=["near","layer","longer","visited","place","bit"]
theorem JJ:FnScope zbB (zG 64) (zk (zm 50)):=zR
theorem xr:zK zbB (zk (zm 50))=true:=qB
theorem zqS:xG 50 "len":=gD
theorem zqT:xG 50 "range":=gD
noncomputable def zbC:List Str:=["near","starts","layers"]
theorem zgl:FnScope zbC (zG 65) (zk (zm 51)):=zR
theorem jw:zK zbC (zk (zm 51))=true:=qB
theorem zbD:xG 51 "len":=gD
theorem zqU:xG 51 "one_cell_longer":=gD
theorem zqV:xG 51 "one_cell_walks":=gD
noncomputable def zbE:List Str:=["floor","near","starts","ends","layers","visited","cells","layer","place"]
theorem Za:FnScope zbE (zG 66) (zk (zm 52)):=zR
theorem yO:zK zbE (zk (zm 52))=true:=qB
theorem zqW:xG 52 "reversed":=gD
theorem zqX:xG 52 "len":=gD
theorem zqY:xG 52 "layers_from":=gD
noncomputable def qh:List Str:=["floor","leap","near","anywhere"]
theorem zbF:FnScope qh (zG 67) (zk (zm 53)):=zR
theorem vV:zK qh (zk (zm 53))=true:=qB
theorem zqZ:(zk (zm 53)).names.lookup ("near":Str)=some .local:=by decide+kernel
theorem zq0:xG 53 "walk_between":=gD
theorem zq1:xG 53 "len":=gD
theorem zq2:xG 53 "MOST_TO_WALK":=gD
theorem zq3:xG 53 "refuse_big":=gD
theorem zq4:xG 53 "checked_leap":=gD
theorem zq5:xG 53 "checked":=gD
noncomputable def qi:List Str:=["floor","leap","near"]
theorem zgm:FnScope qi (zG 68) (zk (zm 54)):=zR
theorem Zb:zK qi (zk (zm 54))=true:=qB
theorem zq6:(zk (zm 54)).names.lookup ("near":Str)=some .local:=by decide+kernel
theorem zq7:xG 54 "walk_between":=gD
theorem zq8:xG 54 "len":=gD
theorem zq9:xG 54 "MOST_TO_WALK":=gD
theorem zra:xG 54 "refuse_big":=gD
theorem zrb:xG 54 "checked_leap":=gD
theorem zrc:xG 54 "checked":=gD
noncomputable def qj:List Str:=["floor","leap","spare","cut","rest","parts"]
theorem zbG:FnScope qj (zG 69) (zk (zm 55)):=zR
theorem Zc:zK qj (zk (zm 55))=true:=qB
theorem zrd:(zk (zm 55)).names.lookup ("rest":Str)=some .local:=by decide+kernel
theorem zgn:xG 55 "len":=gD
theorem zre:xG 55 "parts_within":=gD
noncomputable def zbH:List Str:=["floor","cuts","wider","cut","cell"]
theorem qk:FnScope zbH (zG 70) (zk (zm 56)):=zR
theorem wX:zK zbH (zk (zm 56))=true:=qB
theorem zrf:xG 56 "len":=gD
noncomputable def zbI:List Str:=["floor","leap","spare","cuts","cut"]
theorem ql:FnScope zbI (zG 71) (zk (zm 57)):=zR
theorem xW:zK zbI (zk (zm 57))=true:=qB
theorem zgo:xG 57 "len":=gD
theorem zrg:xG 57 "one_cell_more":=gD
theorem zrh:xG 57 "leaves_too_many":=gD
theorem zri:xG 57 "is_whole":=gD
theorem zrj:xG 57 "MOST_TO_CUT":=gD
theorem zrk:xG 57 "refuse_big":=gD
theorem zrl:xG 57 "checked_leap":=gD
theorem zrm:xG 57 "checked":=gD
noncomputable def qm:List Str:=["_law_thing"]
theorem zgp:FnScope qm (zG 78) (zk (zm 63)):=zR
theorem zbJ:zK qm (zk (zm 63))=true:=qB
theorem zrn:xG 63 "isinstance":=gD
theorem zro:xG 63 "list":=gD
noncomputable def zbK:List Str:=["_law_thing","_law_one"]
theorem zbL:FnScope zbK (zG 79) (zk (zm 64)):=zR
theorem JK:zK zbK (zk (zm 64))=true:=qB
theorem zgq:xG 64 "list":=gD
theorem zrp:xG 64 "_law_emptied":=gD
theorem zrq:xG 64 "isinstance":=gD
noncomputable def qo:List Str:=["_law_floor_here","_law_leap_here","_law_some","_law_more"]
theorem qp:FnScope qo (zG 80) (zk (zm 67)):=zR
theorem yu:zK qo (zk (zm 67))=true:=qB
theorem zrr:xG 67 "cut_of":=gD
theorem zrs:xG 67 "ring_walk":=gD
theorem zrt:xG 67 "walk":=gD
theorem zru:xG 67 "a_way":=gD
theorem zrv:xG 67 "paired":=gD
theorem zrw:xG 67 "peaceful":=gD
theorem zrx:xG 67 "cover":=gD
theorem zry:xG 67 "most_pairs":=gD
theorem zrz:xG 67 "hues_of":=gD
theorem zrA:xG 67 "parts_of":=gD
theorem zrB:xG 67 "near_cells":=gD
noncomputable def zbM:List Str:=["_law_script","_law_floor_here","_law_leap_here","_law_rows","_law_due","_law_row"]
theorem YZ:FnScope zbM (zG 81) (zk (zm 68)):=zR
theorem xz:zK zbM (zk (zm 68))=true:=qB
theorem zbN:xG 68 "len":=gD
theorem zgr:xG 68 "_law_lists":=gD
theorem zrC:xG 68 "_law_twin":=gD
theorem zrD:xG 68 "_law_emptied":=gD
theorem zrE:xG 68 "_law_cell":=gD
theorem zrF:xG 68 "_law_leap":=gD
theorem zrG:xG 68 "_law_floor":=gD
section
variable {Pg:Program} {w:World} {K:Ka} {mg:Str->Option Value} {base:Heap} {F:Nat->Addr} {FD:Nat->FuncData} {TK:Nat->Tok} {n fuel:Nat}
theorem zgs(T:Txt K mg F FD TK): ∀n,FnOk Pg w K mg base yE n (F 78) (FD 78) (zG 78) (Yv K n)
 |0=>zlg
 |n+1=>zli T.n78.f zgp rfl rfl fun cdv A outer s H E hr=>
  (ZL (JO (IT.h (jg (ww (Yk (t:=.list) zrn T.z_isinstance zro T.z_list PyProof.Rows.boot_list (zd 0 zbJ rfl) za8 za7 za za (zn za zi)) (XW _ _) wv))) (ZM (JN (jL (i:=0) zbJ rfl))) qr) (ZM (JN (zla rfl (wq (sc:=zk (zm 63)) (N:=qm) rfl rfl (by decide+kernel)) (qx (jL (i:=0) zbJ rfl)) (fun _ _ _ _=>(ZP (zgs T n) hr (jI (by decide+kernel)) T.n78.m T.n78.f.kp T.n78.b .nil ZT (xX (wK (i:=0) rfl vL za9 zba) wL za) zf4 za zi)) zlk))))
theorem zgt(T:Txt K mg F FD TK): ∀n,FnOk Pg w K mg base yE n (F 79) (FD 79) (zG 79) (Yw K n)
 |0=>zlh
 |n+1=>zlj T.n79.f zbL rfl rfl fun cdv A outer s H E hr=>
  (ZM (JO (IT.h (ww (Yk (t:=.list) zrq T.z_isinstance zgq T.z_list PyProof.Rows.boot_list (zd 0 JK rfl) za8 za7 za za (zn za zi)) (XW _ _) wv)) (ZL (Xf Ky rfl (qx (zcb zia zgq T.z_list PyProof.Rows.boot_list (xX (jL (i:=0) JK rfl) wL za) za8 za7 za zi)) (vY (i:=1) zbL.nd rfl (lB JK (i:=1) rfl)) (ZM (Ze (ZP (zgt T n) hr zrp T.n79.m T.n79.f.kp T.n79.b .nil ZT (xX (jL (i:=1) JK rfl) wL za) zf5 za zi)))) (ZM (Ze (qJ PySem.F.plainAttrs_list PySem.F.slot_list_clear PySem.F.type_list_clear zid (jL (i:=0) JK rfl))))) qr))
section
variable (T:Txt K mg F FD TK) (hall: ∀i,Nat.beq i 81=false->FnOk Pg w K mg base yE n (F i) (FD i) (zG i) (wx K (zC U fuel n) i (zaQ i)))
include T hall
theorem zrH:Bd Pg w K mg base F fuel n N0 "is_whole" 11 0 Vt:=fun cdv A outer s H E hr=>
 (ze (yQ (IW.t (XV (ww (Yk (t:=.bool) zf7 T.z_isinstance zo9 T.z_bool PyProof.Rows.boot_bool (zd 0 b0 rfl) zoj zoi za za (zn za zi)) (XW _ _) wv) (XU (jg (ww (Yk (t:=.int) zf7 T.z_isinstance zo8 T.z_int PyProof.Rows.boot_int (zd 0 b0 rfl) zoh zog za za (zn za zi)) (XW _ _) wv))))) (ze (yd Zp)
  zp) zp)
  (ze (yd (zjp Qr Qr (zd 1 b0 rfl) (zd 0 b0 rfl) (zd 2 b0 rfl)))
  zp))
theorem zrI:Bd Pg w K mg base F fuel n N1 "is_couple" 12 1 Vu:=fun cdv A outer s H E hr=>
 (ze (yd (jf (Yk (t:=.tuple) zpc T.z_isinstance zpd T.z_tuple PyProof.Rows.boot_tuple (zd 0 b1 rfl) zaS zaR za za (zn za zi)) (Ye (vj (wd hr.units) (yo yT zpb T.z_len KF (zc (zd 0 b1 rfl) zf za) yV yU za zi) zj (yv _)))))
  zp)
theorem zrJ:Bd Pg w K mg base F fuel n N2 "is_cell" 13 2 Vv:=fun cdv A outer s H E hr=>
 (ze (yd (jf (ik (hall 1 rfl) T.n1 hr zpf (zc (zd 0 b2 rfl) zf za) zft za zi) (jf (ik (hall 0 rfl) T.n0 hr zf9 (zc (zP hr.units (zd 0 b2 rfl) zj (fun _ _=>rfl)) (zc zj (zc (Zq zf8 T.c0 zfs) zf za) zq) yc) JC yc (zn zq (zn za zi))) (Ye (ik (hall 0 rfl) T.n0 hr zf9 (zc (zP hr.units (zd 0 b2 rfl) zj (fun _ _=>rfl)) (zc zj (zc (Zq zf8 T.c0 zfs) zf za) zq) yc) JC yc (zn zq (zn za zi)))))))
  zp)
theorem zrK:Bd Pg w K mg base F fuel n N3 "is_leap" 14 3 Vw:=fun cdv A outer s H E hr=>
 (ze (yd (jf (ik (hall 1 rfl) T.n1 hr zpi (zc (zd 0 b3 rfl) zf za) zft za zi) (jf (ik (hall 0 rfl) T.n0 hr zga (zc (zP hr.units (zd 0 b3 rfl) zj (fun _ _=>rfl)) (zc zj (zc (Zq zph T.c2 zok) zf za) zq) yc) JC yc (zn zq (zn za zi))) (Ye (ik (hall 0 rfl) T.n0 hr zga (zc (zP hr.units (zd 0 b3 rfl) zj (fun _ _=>rfl)) (zc zj (zc (zP hr.units (zd 0 b3 rfl) zj (fun _ _=>rfl)) zf yc) zq) yc) JC yc (zn zq (zn yc zi)))))))
  zp)
theorem zrL:Bd Pg w K mg base F fuel n N4 "is_rising" 15 4 Vx:=fun cdv A outer s H E hr=>
 (ze (yd (yo (zdm rfl) zpm T.z_all (by decide+kernel) (zc (jH rfl (wq (sc:=zk (zm 15)) (N:=N4) rfl rfl (by decide+kernel)) (zdb zpl T.z_range (zc zj (zc (yo yT zpk T.z_len KF (zc (zd 0 b4 rfl) zf za) yV yU za zi) zf zW) zq) zq zW) (.inl ⟨rfl,rfl⟩) (fun _ _ _ _=>(vj (Yd hr.units) (zP hr.units (zL 1 rfl vF JD JE) (zD jd (zL 0 rfl vL zaT zaU) zj) (fun _ _=>rfl)) (zP hr.units (zL 1 rfl vF JD JE) (zL 0 rfl vL zaT zaU) (fun _ _=>rfl)) (yv _)))) zf jE) zfv zfu jE zi))
  zp)
theorem zrM:Bd Pg w K mg base F fuel n N5 "is_floor" 16 5 Vy:=fun cdv A outer s H E hr=>
 (ze (yQ (IW.t (XV (jg (ww (Yk (t:=.tuple) zps T.z_isinstance zpt T.z_tuple PyProof.Rows.boot_tuple (zd 0 b5 rfl) zaS zaR za za (zn za zi)) (XW _ _) wv)) (XU (jg (zjq rfl rfl Qr Qr zj (yo yT zpq T.z_len KF (zc (zd 0 b5 rfl) zf za) yV yU za zi) (Zq zpr T.c1 zoo)))))) (ze (yd Zp)
  zp) zp)
  (ze (yd (jf (yo (zdm rfl) zpp T.z_all (by decide+kernel) (zc (jH rfl (wq (sc:=zk (zm 16)) (N:=N5) rfl rfl (by decide+kernel)) (wp (zd 0 b5 rfl)) (.inl ⟨rfl,rfl⟩) (fun _ _ _ _=>(ik (hall 2 rfl) T.n2 hr (jI (by decide+kernel)) (zc (zL 0 rfl vL zom zon) zf za) zfw za zi))) zf jE) zfv zfu jE zi) (Ye (ik (hall 4 rfl) T.n4 hr zpo (zc (zd 0 b5 rfl) zf za) zol za zi))))
  zp))
theorem zrN:Bd Pg w K mg base F fuel n N6 "checked" 17 6 Vz:=fun cdv A outer s H E hr=>
 (ze (yQ (jg (ww (ik (hall 5 rfl) T.n5 hr zpv (zc (zd 0 b6 rfl) zf za) zop za zi) (jF _ _) wv)) (ze XZ
  zp) zp)
  (ze (wD 0 rfl (vB b6 (i:=0) rfl) kJ kK)
  zp))
theorem zrO:Bd Pg w K mg base F fuel n N7 "checked_leap" 18 7 VA:=fun cdv A outer s H E hr=>
 (ze (yQ (jg (ww (ik (hall 3 rfl) T.n3 hr zpx (zc (zd 0 b7 rfl) zf za) zoq za zi) (jF _ _) wv)) (ze XZ
  zp) zp)
  (ze (wD 0 rfl (vB b7 (i:=0) rfl) jq jr)
  zp))
theorem zrP:Bd Pg w K mg base F fuel n N8 "checked_cell" 19 8 VB:=fun cdv A outer s H E hr=>
 (ze (yQ (IW.t (XV (jg (ww (ik (hall 2 rfl) T.n2 hr zpz (zc (zd 1 b8 rfl) zf za) zfw za zi) (jF _ _) wv)) (XU (yr rfl (vi hr.units) (zd 1 b8 rfl) (zd 0 b8 rfl) (by with_unfolding_all rfl))))) (ze XZ
  zp) zp)
  (ze (wD 1 rfl (vB b8 (i:=1) rfl) xw xx)
  zp))
theorem zrQ:Bd Pg w K mg base F fuel n N9 "folded" 21 9 VC:=fun cdv A outer s H E hr=>
 (ze (yd (yI (zc (yo (zji rfl) zpC T.z_min PyProof.Rows.boot_min (zc (yo Qs kR T.z_abs (by decide+kernel) (zc (zd 0 b9 rfl) zf za) kM kL za zi) (zc (yo Qs kR T.z_abs (by decide+kernel) (zc (zd 1 b9 rfl) zf za) kM kL za zi) zf zW) zW) zos zor zW (zn zW zi)) (zc (yo (zjj rfl) zpB T.z_max PyProof.Rows.boot_max (zc (yo Qs kR T.z_abs (by decide+kernel) (zc (zd 0 b9 rfl) zf za) kM kL za zi) (zc (yo Qs kR T.z_abs (by decide+kernel) (zc (zd 1 b9 rfl) zf za) kM kL za zi) zf zW) zW) zfy zfx zW (zn zW zi)) zf zW) zW)))
  zp)
theorem zrR:Bd Pg w K mg base F fuel n zbb "are_near" 22 10 VD:=fun cdv A outer s H E hr=>
 (ze (yd (vj (wd hr.units) (ik (hall 9 rfl) T.n9 hr zpE (zc (zD jd (zP hr.units (zd 2 JG rfl) zj (fun _ _=>rfl)) (zP hr.units (zd 1 JG rfl) zj (fun _ _=>rfl))) (zc (zD jd (zP hr.units (zd 2 JG rfl) zj (fun _ _=>rfl)) (zP hr.units (zd 1 JG rfl) zj (fun _ _=>rfl))) zf xc) xc) zot xc (zn xc zi)) (zd 0 JG rfl) (yv _)))
  zp)
theorem zrS:Bd Pg w K mg base F fuel n kS "cells_near" 23 11 VE:=fun cdv A outer s H E hr=>
 (ze (yd (jH rfl (wq (sc:=zk (zm 23)) (N:=kS) rfl rfl (by decide+kernel)) (wp (zd 0 zpG rfl)) (.inr ⟨_,rfl,fun _ _ _ _=>(ww (ik (hall 10 rfl) T.n10 hr (jI (by decide+kernel)) (zc (zL 2 rfl vF jq jr) (zc (zL 3 rfl vF xw xx) (zc (zL 0 rfl vL zaV zaW) zf za) za) za) zfz za (zn za (zn za zi))) (jF _ _) wv)⟩) (fun _ _ _ _=>(zL 0 rfl vL zaV zaW))))
  zp)
theorem zrT:Bd Pg w K mg base F fuel n zbc "near_cells" 30 12 VF:=fun cdv A outer s H E hr=>
 (ze (yJ (ik (hall 6 rfl) T.n6 hr zpL (zc (zd 0 ZH rfl) zf za) vS za zi))
  (ze (yJ (ik (hall 7 rfl) T.n7 hr zpK (zc (zd 1 ZH rfl) zf za) vR za zi))
  (ze (yJ (ik (hall 8 rfl) T.n8 hr zpJ (zc (zd 0 ZH rfl) (zc (zd 2 ZH rfl) zf za) za) za2 za (zn za zi)))
  (ze (yd (ik (hall 11 rfl) T.n11 hr zpI (zc (zd 0 ZH rfl) (zc (zd 1 ZH rfl) (zc (zd 2 ZH rfl) zf za) za) za) kP za (zn za (zn za zi))))
  zp))))
theorem zrU:Bd Pg w K mg base F fuel n zbd "_law_cell" 61 13 VG:=fun cdv A outer s H E hr=>
 (ze (yQ (yr rfl (Yd hr.units) (zd 1 kU rfl) (yo yT zpN T.z_len KF (zc (zd 0 kU rfl) zf za) yV yU za zi) (yv _)) (ze (yd (zP hr.units (zd 0 kU rfl) (zd 1 kU rfl) (fun _ _=>rfl)))
  zp) zp)
  (ze (yd zj)
  zp))
theorem zrV:Bd Pg w K mg base F fuel n zbe "_law_mix" 62 14 VH:=fun cdv A outer s H E hr=>
 (ze (yd (zD je (zD je (zD Zn (zd 0 zbf rfl) zj) (zd 1 zbf rfl)) (zd 2 zbf rfl)))
  zp)
theorem zrW:Bd Pg w K mg base F fuel n zbg "_law_floor" 65 15 VJ:=fun cdv A outer s H E hr=>
 (ze (zU 3 wV.nd rfl (lB ye (i:=3) rfl) (ik (hall 13 rfl) T.n13 hr kW (zc (zd 0 ye rfl) (zc (zd 1 ye rfl) zf za) za) JF za (zn za zi)))
  (ze (zU 4 wV.nd rfl (lB ye (i:=4) rfl) (zD xa zj (ik (hall 14 rfl) T.n14 hr YV (zc (zd 3 ye rfl) (zc zj (zc zj zf zq) zq) za) YU za (zn zq (zn zq zi)))))
  (ze (zU 5 wV.nd rfl (lB ye (i:=5) rfl) (zD xa zj (ik (hall 14 rfl) T.n14 hr YV (zc (zd 3 ye rfl) (zc zj (zc zj zf zq) zq) za) YU za (zn zq (zn zq zi)))))
  (ze (zU 6 wV.nd rfl (lB ye (i:=6) rfl) (ik (hall 14 rfl) T.n14 hr YV (zc (ik (hall 13 rfl) T.n13 hr kW (zc (zd 0 ye rfl) (zc (zD xa (zd 1 ye rfl) zj) zf xc) za) JF za (zn xc zi)) (zc zj (zc (zD jd zj (zd 4 ye rfl)) zf xc) zq) zW) YU zW (zn zq (zn xc zi))))
  (ze (zU 7 wV.nd rfl (lB ye (i:=7) rfl) (ik (hall 14 rfl) T.n14 hr YV (zc (ik (hall 13 rfl) T.n13 hr kW (zc (zd 0 ye rfl) (zc (zD xa (zd 1 ye rfl) zj) zf xc) za) JF za (zn xc zi)) (zc zj (zc (zD jd zj (zd 5 ye rfl)) zf xc) zq) zW) YU zW (zn zq (zn xc zi))))
  (ze (zU 8 wV.nd rfl (lB ye (i:=8) rfl) (ik (hall 14 rfl) T.n14 hr YV (zc (zD xa (zd 3 ye rfl) zj) (zc zj (zc zj zf zq) zq) xc) YU xc (zn zq (zn zq zi))))
  (ze (zU 9 wV.nd rfl (lB ye (i:=9) rfl) (xf zf))
  (ze (jh 10 Ky rfl wV.nd rfl (lB ye (i:=10) rfl) (QC zgb T.z_range (zc (zd 4 ye rfl) zf za) za) (ze (jh 11 Ky rfl wV.nd rfl (lB ye (i:=11) rfl) (QC zgb T.z_range (zc (zd 5 ye rfl) zf za) za) (ze (zU 12 wV.nd rfl (lB ye (i:=12) rfl) (zD xa (zD xa (ik (hall 13 rfl) T.n13 hr kW (zc (zd 0 ye rfl) (zc (zD xa (zD xa (zd 1 ye rfl) zj) (zD je (zD xa (zd 10 ye rfl) (zD Zn zj (zd 11 ye rfl))) zj)) zf xc) za) JF za (zn xc zi)) (zD Zn (zD Zn zj (zd 10 ye rfl)) (zd 10 ye rfl))) (zD Zn (zD Zn zj (zd 11 ye rfl)) (zd 11 ye rfl))))
  (ze (yQ (IW.t (XV (yr rfl (wd hr.units) (zd 8 ye rfl) zj (yv _)) (XU (yr rfl (Zo hr.units) (ik (hall 14 rfl) T.n14 hr YV (zc (zd 12 ye rfl) (zc zj (zc (zP hr.units (xf (zc zj (zc zj (zc zj zf zq) zq) zq)) (zD jd (zd 8 ye rfl) zj) (fun _ _=>rfl)) zf yc) zq) za) YU za (zn zq (zn yc zi))) zj (yv _))))) (ze (vG 9 rfl (vB ye (i:=9) rfl) (yI (zc (zD xa (zd 6 ye rfl) (zd 10 ye rfl)) (zc (zD xa (zd 7 ye rfl) (zd 11 ye rfl)) zf xc) xc)) xp zoQ zoR)
  zp) zp)
  zp)))
  zp))
  (ze (yQ (jg (ww (zd 9 ye rfl) (zjr _) zjn)) (ze (zU 9 wV.nd rfl (lB ye (i:=9) rfl) (xf (zc (yI (zc (zd 6 ye rfl) (zc (zd 7 ye rfl) zf za) za)) zf xp)))
  zp) zp)
  (ze (yd (zjo zjk zpP T.z_tuple PyProof.Rows.boot_tuple (zc (zjJ (zd 9 ye rfl) (zd 2 ye rfl)) zf yc) zaS zaR yc zi))
  zp))))))))))
theorem zrX:Bd Pg w K mg base F fuel n zbh "_law_leap" 66 16 VL:=fun cdv A outer s H E hr=>
 (ze (zU 1 zgc.nd rfl (lB zbi (i:=1) rfl) (xf (zc (yI (zc zj (zc zj zf zq) zq)) (zc (yI (zc zj (zc zj zf zq) zq)) (zc (yI (zc zj (zc zj zf zq) zq)) (zc (yI (zc zj (zc zj zf zq) zq)) (zc (yI (zc zj (zc zj zf zq) zq)) (zc (yI (zc zj (zc zj zf zq) zq)) (zc (yI (zc zj (zc zj zf zq) zq)) (zc (yI (zc zj (zc zj zf zq) zq)) (zc (yI (zc zj (zc zj zf zq) zq)) (zc (yI (zc zj (zc zj zf zq) zq)) (zc (yI (zc zj (zc zj zf zq) zq)) (zc (yI (zc zj (zc zj zf zq) zq)) (zc (yI (zc zj (zc zj zf zq) zq)) zf xp) xp) xp) xp) xp) xp) xp) xp) xp) xp) xp) xp) xp)))
  (ze (yd (zP hr.units (zD xa (zd 1 zbi rfl) (xf (zc (yI (zc zj (zc zj zf zq) zq)) (zc (yI (zc zj (zc zj zf zq) zq)) (zc (yI (zc zj (zc zj zf zq) zq)) (zc (yI (zc zj (zc zj zf zq) zq)) (zc (yI (zc zj (zc zj zf zq) zq)) (zc (yI (zc zj (zc zj zf zq) zq)) zf xp) xp) xp) xp) xp) xp))) (zD je (zd 0 zbi rfl) zj) (fun _ _=>rfl)))
  zp))
theorem zrY:Bd Pg w K mg base F fuel n zbj "leads_to" 24 20 VM:=fun cdv A outer s H E hr=>
 (ze (zU 3 ZI.nd rfl (lB xi (i:=3) rfl) (zjR hr.units (zd 2 xi rfl) XQ))
  (ze (zU 4 ZI.nd rfl (lB xi (i:=4) rfl) (xf (zc (zd 2 xi rfl) zf za)))
  (ze (Vc Ky (yr rfl (Zo hr.units) (yo yT zpQ T.z_len KF (zc (zd 4 xi rfl) zf za) yV yU za zi) zj (yv _)) (ze (zU 5 ZI.nd rfl (lB xi (i:=5) rfl) (xf zf))
  (ze (Yh 6 4 Ky rfl ZI.nd rfl (lB xi (i:=6) rfl) rfl (vB xi (i:=4) rfl) (ze (jh 7 Ky rfl ZI.nd rfl (lB xi (i:=7) rfl) (wp (ik (hall 11 rfl) T.n11 hr zpR (zc (zd 0 xi rfl) (zc (zd 1 xi rfl) (zc (zd 6 xi rfl) zf za) za) za) kP za (zn za (zn za zi)))) (ze (yQ (yr rfl (vi hr.units) (zd 7 xi rfl) (zd 3 xi rfl) (by with_unfolding_all rfl)) (ze (Ym 3 hr.units rfl (vB xi (i:=3) rfl) (zd 7 xi rfl) (zd 6 xi rfl) zaX zaY)
  (ze (vG 5 rfl (vB xi (i:=5) rfl) (zd 7 xi rfl) za kN kO)
  zp)) zp)
  zp))
  zp) (hd:=zfA) (hcd:=zfB))
  (ze (gw 4 5 ZI.nd rfl (lB xi (i:=4) rfl) rfl (vB xi (i:=5) rfl) (hd:=kN) (hcd:=kO))
  zp))))
  (ze (wD 3 rfl (vB xi (i:=3) rfl) zaX zaY)
  zp))))
theorem zrZ:Bd Pg w K mg base F fuel n kX "greatest_divisor" 26 21 VN:=fun cdv A outer s H E hr=>
 (ze (yd (yo (zj3 rfl) zpV T.z_max PyProof.Rows.boot_max (zc (jH rfl (wq (sc:=zk (zm 26)) (N:=kX) rfl rfl (by decide+kernel)) (zdb zpU T.z_range (zc zj (zc (zD xa (zP hr.units (zd 0 zpT rfl) zj (fun _ _=>rfl)) zj) zf xc) zq) zq xc) (.inr ⟨_,rfl,fun _ _ _ _=>(IW.t (gn (yr rfl (wd hr.units) (zD je (zP hr.units (zL 1 rfl vF jq jr) zj (fun _ _=>rfl)) (zL 0 rfl vL zaZ za0)) zj (yv _)) (gl (yr rfl (wd hr.units) (zD je (zP hr.units (zL 1 rfl vF jq jr) zj (fun _ _=>rfl)) (zL 0 rfl vL zaZ za0)) zj (yv _)))))⟩) (fun _ _ _ _=>(zL 0 rfl vL zaZ za0))) zf jE) zfy zfx jE zi))
  zp)
theorem zr0:Bd Pg w K mg base F fuel n zbk "has_odd_sum" 27 22 VO:=fun cdv A outer s H E hr=>
 (ze (zU 1 zgd.nd rfl (lB YW (i:=1) rfl) (ik (hall 21 rfl) T.n21 hr zpW (zc (zd 0 YW rfl) zf za) zfF za zi))
  (ze (yd (vj (wd hr.units) (zD je (zD xa (zD Qp (zP hr.units (zd 0 YW rfl) zj (fun _ _=>rfl)) (zd 1 YW rfl)) (zD Qp (zP hr.units (zd 0 YW rfl) zj (fun _ _=>rfl)) (zd 1 YW rfl))) zj) zj (yv _)))
  zp))
theorem zr1:Bd Pg w K mg base F fuel n zbl "hue_of" 28 23 VP:=fun cdv A outer s H E hr=>
 (ze (zU 2 kY.nd rfl (lB wW (i:=2) rfl) (ik (hall 21 rfl) T.n21 hr zpY (zc (zd 0 wW rfl) zf za) zfF za zi))
  (ze (zU 3 kY.nd rfl (lB wW (i:=3) rfl) (zD Qp (zP hr.units (zd 1 wW rfl) zj (fun _ _=>rfl)) (zd 2 wW rfl)))
  (ze (zU 4 kY.nd rfl (lB wW (i:=4) rfl) (zD Qp (zP hr.units (zd 1 wW rfl) zj (fun _ _=>rfl)) (zd 2 wW rfl)))
  (ze (yQ (ww (ik (hall 22 rfl) T.n22 hr zpX (zc (zd 0 wW rfl) zf za) zow za zi) (jF _ _) wv) (ze (yd (zD je (zD xa (zd 3 wW rfl) (zd 4 wW rfl)) zj))
  zp) zp)
  (ze (yd (zD je (zd 3 wW rfl) zj))
  zp)))))
theorem zr2:Bd Pg w K mg base F fuel n kZ "cells_of_hue" 29 24 VQ:=fun cdv A outer s H E hr=>
 (ze (yd (jH rfl (wq (sc:=zk (zm 29)) (N:=kZ) rfl rfl (by decide+kernel)) (wp (zd 0 zp0 rfl)) (.inr ⟨_,rfl,fun _ _ _ _=>(yr rfl (wd hr.units) (ik (hall 23 rfl) T.n23 hr (jI (by decide+kernel)) (zc (zL 2 rfl vF jq jr) (zc (zL 0 rfl vL xw xx) zf za) za) za1 za (zn za zi)) (zL 3 rfl vF zox zoy) (yv _))⟩) (fun _ _ _ _=>(zL 0 rfl vL xw xx))))
  zp)
theorem zr3:Bd Pg w K mg base F fuel n zbm "hues_of" 32 25 VS:=fun cdv A outer s H E hr=>
 (ze (yJ (ik (hall 6 rfl) T.n6 hr zp3 (zc (zd 0 YX rfl) zf za) vS za zi))
  (ze (yJ (ik (hall 7 rfl) T.n7 hr zp2 (zc (zd 1 YX rfl) zf za) vR za zi))
  (ze (yd (xf (zc (ik (hall 24 rfl) T.n24 hr zge (zc (zd 0 YX rfl) (zc (zd 1 YX rfl) (zc zj zf zq) za) za) kQ za (zn za (zn zq zi))) (zc (ik (hall 24 rfl) T.n24 hr zge (zc (zd 0 YX rfl) (zc (zd 1 YX rfl) (zc zj zf zq) za) za) kQ za (zn za (zn zq zi))) zf zW) zW)))
  zp)))
theorem zr4:Bd Pg w K mg base F fuel n zbn "a_way" 59 26 VT:=fun cdv A outer s H E hr=>
 (ze (yJ (ik (hall 6 rfl) T.n6 hr zp6 (zc (zd 0 xy rfl) zf za) vS za zi))
  (ze (yJ (ik (hall 7 rfl) T.n7 hr zp5 (zc (zd 1 xy rfl) zf za) vR za zi))
  (ze (yJ (ik (hall 8 rfl) T.n8 hr zgf (zc (zd 0 xy rfl) (zc (zd 2 xy rfl) zf za) za) za2 za (zn za zi)))
  (ze (yJ (ik (hall 8 rfl) T.n8 hr zgf (zc (zd 0 xy rfl) (zc (zd 3 xy rfl) zf za) za) za2 za (zn za zi)))
  (ze (zU 4 zbo.nd rfl (lB xy (i:=4) rfl) (ik (hall 20 rfl) T.n20 hr zp4 (zc (zd 0 xy rfl) (zc (zd 1 xy rfl) (zc (zd 3 xy rfl) zf za) za) za) zfE za (zn za (zn za zi))))
  (ze (yQ (yr rfl (vi hr.units) (zd 2 xy rfl) (zd 4 xy rfl) (by with_unfolding_all rfl)) (ze (yd XQ)
  zp) zp)
  (ze (zU 5 zbo.nd rfl (lB xy (i:=5) rfl) (xf (zc (zd 2 xy rfl) zf za)))
  (ze (Vc Ky (zdi (zP hr.units (zd 4 xy rfl) (zP hr.units (zd 5 xy rfl) (XS XO zj) (fun _ _=>rfl)) (fun _ _=>rfl))) (ze (vG 5 rfl (vB xy (i:=5) rfl) (zP hr.units (zd 4 xy rfl) (zP hr.units (zd 5 xy rfl) (XS XO zj) (fun _ _=>rfl)) (fun _ _=>rfl)) yc zf2 zf3)
  zp))
  (ze (wD 5 rfl (vB xy (i:=5) rfl) zf2 zf3)
  zp)))))))))
theorem zr5:Bd Pg w K mg base F fuel n zbp "parts_within" 25 30 VV:=fun cdv A outer s H E hr=>
 (ze (zU 2 JH.nd rfl (lB wt (i:=2) rfl) (xf zf))
  (ze (zU 3 JH.nd rfl (lB wt (i:=3) rfl) (QI true))
  (ze (Yh 4 0 Ky rfl JH.nd rfl (lB wt (i:=4) rfl) rfl (vB wt (i:=0) rfl) (ze (yQ (yr rfl (vi hr.units) (zd 4 wt rfl) (zd 3 wt rfl) (by with_unfolding_all rfl)) (ze (zU 5 JH.nd rfl (lB wt (i:=5) rfl) (ik (hall 20 rfl) T.n20 hr zp8 (zc (zd 0 wt rfl) (zc (zd 1 wt rfl) (zc (zd 4 wt rfl) zf za) za) za) zfE za (zn za (zn za zi))))
  (ze (zkr 3 5 hr.units rfl (vB wt (i:=3) rfl) rfl (vB wt (i:=5) rfl) za zou zov zaX zaY)
  (ze (vG 2 rfl (vB wt (i:=2) rfl) (zkj rfl zp7 T.z_sorted (zd 5 wt rfl) (hst:=zW)) zW zfC zfD)
  zp))) zp)
  zp) (hd:=JD) (hcd:=JE))
  (ze (wD 2 rfl (vB wt (i:=2) rfl) zfC zfD)
  zp))))
theorem zr6:Bd Pg w K mg base F fuel n zbq "parts_of" 31 31 VW:=fun cdv A outer s H E hr=>
 (ze (yJ (ik (hall 6 rfl) T.n6 hr zqc (zc (zd 0 qa rfl) zf za) vS za zi))
  (ze (yJ (ik (hall 7 rfl) T.n7 hr zqb (zc (zd 1 qa rfl) zf za) vR za zi))
  (ze (yd (ik (hall 30 rfl) T.n30 hr zqa (zc (zd 0 qa rfl) (zc (zd 1 qa rfl) zf za) za) zfG za (zn za zi)))
  zp)))
theorem zr7:Bd Pg w K mg base F fuel n zbr "finds_mate" 34 37 YD:=fun cdv A outer s H E hr=>
 (ze (jh 5 Ky rfl zgg.nd rfl (lB xj (i:=5) rfl) (wp (ik (hall 11 rfl) T.n11 hr zqd (zc (zd 0 xj rfl) (zc (zd 1 xj rfl) (zc (zd 3 xj rfl) zf za) za) za) kP za (zn za (zn za zi)))) (ze (yQ (yr rfl (vi hr.units) (zd 5 xj rfl) (zd 4 xj rfl) (by with_unfolding_all rfl)) (ze (Ym 4 hr.units rfl (vB xj (i:=4) rfl) (zd 5 xj rfl) Zp zfH zfI)
  (ze (zjZ (yr rfl (vi hr.units) (zd 5 xj rfl) (zd 2 xj rfl) (by with_unfolding_all rfl)) (zdz (hall 37 rfl) rfl (by decide) (by decide) hr zqe T.n37.m T.n37.f.kp (T.n37.b) (Yn (zd 0 xj rfl) (Yn (zd 1 xj rfl) (gL 2 rfl (vB xj (i:=2) rfl) (Yn (zP hr.units (zd 2 xj rfl) (zd 5 xj rfl) (fun _ _=>rfl)) (gL 4 rfl (vB xj (i:=4) rfl) zdu zfH zfI) yc) vT vU) za) za) zfJ za (zn za (zn za (zn yc (zn za zi))))) wv (ze (Ym 2 hr.units rfl (vB xj (i:=2) rfl) (zd 3 xj rfl) (zd 5 xj rfl) vT vU)
  (ze (Ym 2 hr.units rfl (vB xj (i:=2) rfl) (zd 5 xj rfl) (zd 3 xj rfl) vT vU)
  (ze (yd Zp)
  zp))) zp)
  zp)) zp)
  zp))
  (ze (yd Zp)
  zp))
theorem zr8:Bd Pg w K mg base F fuel n zbs "all_mates" 35 38 VX:=fun cdv A outer s H E hr=>
 (ze (zU 2 zbt.nd rfl (lB jt (i:=2) rfl) (QI true))
  (ze (jh 3 Ky rfl zbt.nd rfl (lB jt (i:=3) rfl) (wp (ik (hall 24 rfl) T.n24 hr zqf (zc (zd 0 jt rfl) (zc (zd 1 jt rfl) (zc zj zf zq) za) za) kQ za (zn za (zn zq zi)))) (ze (zjX (zdz (hall 37 rfl) rfl (by decide) (by decide) hr zqg T.n37.m T.n37.f.kp (T.n37.b) (Yn (zd 0 jt rfl) (Yn (zd 1 jt rfl) (gL 2 rfl (vB jt (i:=2) rfl) (Yn (zd 3 jt rfl) (zjU true zdu) za) vT vU) za) za) zfJ za (zn za (zn za (zn za (zn zjl zi))))))
  zp))
  (ze (wD 2 rfl (vB jt (i:=2) rfl) vT vU)
  zp)))
theorem zr9:Bd Pg w K mg base F fuel n qb "pairs_of" 36 39 VY:=fun cdv A outer s H E hr=>
 (ze (yd (jH rfl (wq (sc:=zk (zm 36)) (N:=qb) rfl rfl (by decide+kernel)) (wp (zd 0 zqi rfl)) (.inr ⟨_,rfl,fun _ _ _ _=>(IW.t (gn (yr rfl (zcW hr.units) (zL 0 rfl vL xw xx) (zL 2 rfl vF vT vU) (by with_unfolding_all rfl)) (gl (yr rfl (Yd hr.units) (zL 0 rfl vL xw xx) (zP hr.units (zL 2 rfl vF vT vU) (zL 0 rfl vL xw xx) (fun _ _=>rfl)) (yv _)))))⟩) (fun _ _ _ _=>(yI (zc (zL 0 rfl vL xw xx) (zc (zP hr.units (zL 2 rfl vF vT vU) (zL 0 rfl vL xw xx) (fun _ _=>rfl)) zf yc) za)))))
  zp)
theorem zsa:Bd Pg w K mg base F fuel n qc "crowd_and_around" 37 40 Ja:=fun cdv A outer s H E hr=>
 (ze (Vd 4 rfl ju.nd rfl zqj (wq (sc:=zk (zm 37)) (N:=qc) rfl rfl (by decide+kernel)) (wp (ik (hall 24 rfl) T.n24 hr zqm (zc (zd 0 yD rfl) (zc (zd 1 yD rfl) (zc (zd 3 yD rfl) zf za) za) za) kQ za (zn za (zn za zi)))) (.inr ⟨_,rfl,fun _ _ _ _=>(yr rfl (vi hr.units) (zL 0 rfl vL xw xx) (zL 3 rfl vF vT vU) (by with_unfolding_all rfl))⟩) (fun _ _ _ _=>(zL 0 rfl vL xw xx)) (hsw:=(Vh (sc:=zk (zm 37)) rfl (by decide+kernel))))
  (ze (zU 5 ju.nd rfl (lB yD (i:=5) rfl) (xf zf))
  (ze (gw 6 4 ju.nd rfl (lB yD (i:=6) rfl) rfl (vB yD (i:=4) rfl) (hd:=zoB) (hcd:=zoC))
  (ze (Vc Ky (yr rfl (Zo hr.units) (yo yT zqk T.z_len KF (zc (zd 6 yD rfl) zf za) yV yU za zi) zj (yv _)) (ze (zU 7 ju.nd rfl (lB yD (i:=7) rfl) (xf zf))
  (ze (Yh 8 6 Ky rfl ju.nd rfl (lB yD (i:=8) rfl) rfl (vB yD (i:=6) rfl) (ze (jh 9 Ky rfl ju.nd rfl (lB yD (i:=9) rfl) (wp (ik (hall 11 rfl) T.n11 hr zql (zc (zd 0 yD rfl) (zc (zd 1 yD rfl) (zc (zd 8 yD rfl) zf za) za) za) kP za (zn za (zn za zi)))) (ze (yQ (yr rfl (vi hr.units) (zd 9 yD rfl) (zd 5 yD rfl) (by with_unfolding_all rfl)) (ze (vG 5 rfl (vB yD (i:=5) rfl) (zd 9 yD rfl) za zoz zoA)
  (ze (vG 7 rfl (vB yD (i:=7) rfl) (zP hr.units (zd 2 yD rfl) (zd 9 yD rfl) (fun _ _=>rfl)) yc kN kO)
  zp)) zp)
  zp))
  zp) (hd:=zfA) (hcd:=zfB))
  (ze (zU 4 ju.nd rfl (lB yD (i:=4) rfl) (zD xa (zd 4 yD rfl) (zd 7 yD rfl)))
  (ze (gw 6 7 ju.nd rfl (lB yD (i:=6) rfl) rfl (vB yD (i:=7) rfl) (hd:=kN) (hcd:=kO))
  zp)))))
  (ze (QN _ (yd (yI (zc (zd 4 yD rfl) (zc (zd 5 yD rfl) zf za) za))))
  zp)))))
theorem zsb:Bd Pg w K mg base F fuel n zbu "is_in_cover" 38 41 YF:=fun cdv A outer s H E hr=>
 (ze (yQ (yr rfl (wd hr.units) (ik (hall 23 rfl) T.n23 hr zqo (zc (zd 0 YY rfl) (zc (zd 1 YY rfl) zf za) za) za1 za (zn za zi)) zj (yv _)) (ze (yd (vj (vi hr.units) (zd 1 YY rfl) (zd 2 YY rfl) (by with_unfolding_all rfl)))
  zp) zp)
  (ze (yd (vj (zcW hr.units) (zd 1 YY rfl) (zd 3 YY rfl) (by with_unfolding_all rfl)))
  zp))
theorem zsc:Bd Pg w K mg base F fuel n qd "cells_by_cover" 39 42 Jb:=fun cdv A outer s H E hr=>
 (ze (yJ (ik (hall 6 rfl) T.n6 hr zqs (zc (zd 0 jZ rfl) zf za) vS za zi))
  (ze (yJ (ik (hall 7 rfl) T.n7 hr zqr (zc (zd 1 jZ rfl) zf za) vR za zi))
  (ze (zU 3 zgh.nd rfl (lB jZ (i:=3) rfl) (ik (hall 40 rfl) T.n40 hr zqq (zc (zd 0 jZ rfl) (zc (zd 1 jZ rfl) (zc (ik (hall 38 rfl) T.n38 hr zqp (zc (zd 0 jZ rfl) (zc (zd 1 jZ rfl) zf za) za) za3 za (zn za zi)) (zc zj zf zq) zW) za) za) zfM za (zn za (zn zW (zn zq zi)))))
  (ze (yd (jH rfl (wq (sc:=zk (zm 39)) (N:=qd) rfl rfl (by decide+kernel)) (wp (zd 0 jZ rfl)) (.inr ⟨_,rfl,fun _ _ _ _=>(yr rfl (wd hr.units) (ik (hall 41 rfl) T.n41 hr (jI (by decide+kernel)) (zc (zL 2 rfl vF jq jr) (zc (zL 0 rfl vL xw xx) (zc (zP hr.units (zL 4 rfl vF zfK zfL) zj (fun _ _=>rfl)) (zc (zP hr.units (zL 4 rfl vF zfK zfL) zj (fun _ _=>rfl)) zf yc) yc) za) za) zoD za (zn za (zn yc (zn yc zi)))) (zL 3 rfl vF zoE zoF) (yv _))⟩) (fun _ _ _ _=>(zL 0 rfl vL xw xx))))
  zp))))
theorem zsd:Bd Pg w K mg base F fuel n zbv "most_pairs" 40 43 Jc:=fun cdv A outer s H E hr=>
 (ze (yJ (ik (hall 6 rfl) T.n6 hr zqx (zc (zd 0 JI rfl) zf za) vS za zi))
  (ze (yJ (ik (hall 7 rfl) T.n7 hr zqw (zc (zd 1 JI rfl) zf za) vR za zi))
  (ze (yd (ik (hall 39 rfl) T.n39 hr zqv (zc (zd 0 JI rfl) (zc (ik (hall 38 rfl) T.n38 hr zqu (zc (zd 0 JI rfl) (zc (zd 1 JI rfl) zf za) za) za3 za (zn za zi)) zf zW) za) zfN za (zn zW zi)))
  zp)))
theorem zse:Bd Pg w K mg base F fuel n zbw "cover" 41 44 Jd:=fun cdv A outer s H E hr=>
 (ze (yd (ik (hall 42 rfl) T.n42 hr zqz (zc (zd 0 zgi rfl) (zc (zd 1 zgi rfl) (zc Zp zf zq) za) za) zfO za (zn za (zn zq zi))))
  zp)
theorem zsf:Bd Pg w K mg base F fuel n zbx "peaceful" 42 45 Je:=fun cdv A outer s H E hr=>
 (ze (yd (ik (hall 42 rfl) T.n42 hr zqB (zc (zd 0 zgj rfl) (zc (zd 1 zgj rfl) (zc Zp zf zq) za) za) zfO za (zn za (zn zq zi))))
  zp)
theorem zsg:Bd Pg w K mg base F fuel n qe "paired" 43 47 Jf:=fun cdv A outer s H E hr=>
 (ze (yJ (ik (hall 6 rfl) T.n6 hr zqK (zc (zd 0 wm rfl) zf za) vS za zi))
  (ze (yJ (ik (hall 7 rfl) T.n7 hr zqJ (zc (zd 1 wm rfl) zf za) vR za zi))
  (ze (zU 2 qf.nd rfl (lB wm (i:=2) rfl) (ik (hall 38 rfl) T.n38 hr zqI (zc (zd 0 wm rfl) (zc (zd 1 wm rfl) zf za) za) za3 za (zn za zi)))
  (ze (Vd 3 rfl qf.nd rfl zqC (wq (sc:=zk (zm 43)) (N:=qe) rfl rfl (by decide+kernel)) (wp (zd 0 wm rfl)) (.inr ⟨_,rfl,fun _ _ _ _=>(yr rfl (vi hr.units) (zL 0 rfl vL xw xx) (zL 3 rfl vF vT vU) (by with_unfolding_all rfl))⟩) (fun _ _ _ _=>(zL 0 rfl vL xw xx)) (hsw:=(Vh (sc:=zk (zm 43)) rfl (by decide+kernel))))
  (ze (yQ (yr rfl (wd hr.units) (yo yT zqG T.z_len KF (zc (zd 3 wm rfl) zf za) yV yU za zi) zj (yv _)) (ze (yd (yI (zc zcZ (zc (ik (hall 39 rfl) T.n39 hr zqH (zc (zd 0 wm rfl) (zc (zd 2 wm rfl) zf za) za) zfN za (zn za zi)) zf zW) zq)))
  zp) zp)
  (ze (QN _ (zU 4 qf.nd rfl (lB wm (i:=4) rfl) (ik (hall 40 rfl) T.n40 hr zqF (zc (zd 0 wm rfl) (zc (zd 1 wm rfl) (zc (zd 2 wm rfl) (zc (ik (hall 23 rfl) T.n23 hr zqE (zc (zd 1 wm rfl) (zc (zP hr.units (zd 3 wm rfl) zj (fun _ _=>rfl)) zf yc) za) za1 za (zn yc zi)) zf zW) za) za) za) zfM za (zn za (zn za (zn zW zi))))))
  (ze (yd (yI (zc zcZ (zc (yo zj9 zqD T.z_sorted PyProof.Rows.boot_sorted (zc (zP hr.units (zd 4 wm rfl) zj (fun _ _=>rfl)) zf yc) zoH zoG yc zi) zf zW) zq)))
  zp)))))))
theorem zsh:Bd Pg w K mg base F fuel n zby "refuse_big" 47 61 Jg:=fun cdv A outer s H E hr=>
 (ze (yQ (yr rfl (Zo hr.units) (yo yT zqM T.z_len KF (zc (zd 0 zgk rfl) zf za) yV yU za zi) (zd 1 zgk rfl) (yv _)) (ze XZ
  zp) zp)
  zp)
theorem zsi:Bd Pg w K mg base F fuel n qg "bits_near" 48 62 Jh:=fun cdv A outer s H E hr=>
 (ze (yd (yo (zka rfl) zqQ T.z_sum PyProof.Rows.boot_sum (zc (zk4 rfl (zk5 (sc:=zk (zm 48)) (N:=qg) rfl rfl (by decide+kernel)) zqP T.z_enumerate (zd 0 zqO rfl) za (fun _ _ _ _=>(ww (ik (hall 10 rfl) T.n10 hr (jI (by decide+kernel)) (zc (zL 3 rfl vF jq jr) (zc (zL 4 rfl vF xw xx) (zc (zL 1 rfl vL zaV zaW) zf za) za) za) zfz za (zn za (zn za zi))) (jF _ _) wv)) (fun _ _ _ _=>(zD jK zj (zL 0 rfl vL zaT zaU)))) zf jE) zoJ zoI jE zi))
  zp)
theorem zsj:Bd Pg w K mg base F fuel n zbz "one_cell_walks" 49 63 Ji:=fun cdv A outer s H E hr=>
 (ze (zU 2 zbA.nd rfl (lB jv (i:=2) rfl) (QI false))
  (ze (jh 3 Ky rfl zbA.nd rfl (lB jv (i:=3) rfl) (QC zqR T.z_range (zc (zd 0 jv rfl) zf za) za) (ze (yQ (yr rfl (zcV hr.units) (zD Vl (zd 1 jv rfl) (zD jK zj (zd 3 jv rfl))) zj (yv _)) (ze (Ym 2 hr.units rfl (vB jv (i:=2) rfl) (zD jK zj (zd 3 jv rfl)) (zD jK zj (zd 3 jv rfl)) za4 za5)
  zp) zp)
  zp))
  (ze (wD 2 rfl (vB jv (i:=2) rfl) za4 za5)
  zp)))
theorem zsk:Bd Pg w K mg base F fuel n zbB "one_cell_longer" 50 64 Jj:=fun cdv A outer s H E hr=>
 (ze (zU 2 JJ.nd rfl (lB xr (i:=2) rfl) (QI false))
  (ze (zkQ 3 1 Ky rfl JJ.nd rfl (lB xr (i:=3) rfl) rfl (vB xr (i:=1) rfl) (ze (jh 4 Ky rfl JJ.nd rfl (lB xr (i:=4) rfl) (QC zqT T.z_range (zc (yo yT zqS T.z_len KF (zc (zd 0 xr rfl) zf za) yV yU za zi) zf zW) zW) (ze (zU 5 JJ.nd rfl (lB xr (i:=5) rfl) (zD jK zj (zd 4 xr rfl)))
  (ze (yQ (IW.t (gn (yr rfl (wd hr.units) (zD Vl (zd 3 xr rfl) (zd 5 xr rfl)) zj (yv _)) (gl (yr rfl (zcV hr.units) (zD Vl (zP hr.units (zd 1 xr rfl) (zd 3 xr rfl) (fun _ _=>rfl)) (zP hr.units (zd 0 xr rfl) (zd 4 xr rfl) (fun _ _=>rfl))) zj (yv _))))) (ze (Ym 2 hr.units rfl (vB xr (i:=2) rfl) (zD gY (zd 3 xr rfl) (zd 5 xr rfl)) (zD gY (zdW hr.units (zd 2 xr rfl) (zD gY (zd 3 xr rfl) (zd 5 xr rfl)) zj (zd1 xc zq)) (zd 5 xr rfl)) zfP zfQ)
  zp) zp)
  zp)))
  zp) (hd:=za4) (hcd:=za5))
  (ze (wD 2 rfl (vB xr (i:=2) rfl) zfP zfQ)
  zp)))
theorem zsl:Bd Pg w K mg base F fuel n zbC "layers_from" 51 65 Jk:=fun cdv A outer s H E hr=>
 (ze (zU 2 zgl.nd rfl (lB jw (i:=2) rfl) (xf (zc (ik (hall 63 rfl) T.n63 hr zqV (zc (yo yT zbD T.z_len KF (zc (zd 0 jw rfl) zf za) yV yU za zi) (zc (zd 1 jw rfl) zf za) zW) zoL zW (zn za zi)) zf zW)))
  (ze (Vc Ky (yr rfl (Yd hr.units) (yo yT zbD T.z_len KF (zc (zd 2 jw rfl) zf za) yV yU za zi) (yo yT zbD T.z_len KF (zc (zd 0 jw rfl) zf za) yV yU za zi) (yv _)) (ze (vG 2 rfl (vB jw (i:=2) rfl) (ik (hall 64 rfl) T.n64 hr zqU (zc (zd 0 jw rfl) (zc (zP hr.units (zd 2 jw rfl) (XS XO zj) (fun _ _=>rfl)) zf yc) za) zoK za (zn yc zi)) zW zfR zfS)
  zp))
  (ze (wD 2 rfl (vB jw (i:=2) rfl) zfR zfS)
  zp)))
theorem zsm:Bd Pg w K mg base F fuel n zbE "walk_between" 52 66 YH:=fun cdv A outer s H E hr=>
 (ze (zU 4 Za.nd rfl (lB yO (i:=4) rfl) (ik (hall 65 rfl) T.n65 hr zqY (zc (zd 1 yO rfl) (zc (zd 2 yO rfl) zf za) za) zoM za (zn za zi)))
  (ze (zU 5 Za.nd rfl (lB yO (i:=5) rfl) (zD jd (zD jK zj (yo yT zqX T.z_len KF (zc (zd 0 yO rfl) zf za) yV yU za zi)) zj))
  (ze (yQ (yr rfl (wd hr.units) (zD Vl (zdW hr.units (zP hr.units (zd 4 yO rfl) (XS XO zj) (fun _ _=>rfl)) (zd 5 yO rfl) zj (zd1 za zq)) (zd 3 yO rfl)) zj (yv _)) (ze (yd XQ)
  zp) zp)
  (ze (zU 6 Za.nd rfl (lB yO (i:=6) rfl) (xf zf))
  (ze (QN _ (jh 7 Ky rfl Za.nd rfl (lB yO (i:=7) rfl) (zkG zqW T.z_reversed (zc (zd 4 yO rfl) zf za) za) (ze (zU 8 Za.nd rfl (lB yO (i:=8) rfl) (zD jd (zkB (zD Vl (zP hr.units (zd 7 yO rfl) (zd 5 yO rfl) (fun _ _=>rfl)) (zd 3 yO rfl))) zj))
  (ze (vG 6 rfl (vB yO (i:=6) rfl) (zP hr.units (zd 0 yO rfl) (zd 8 yO rfl) (fun _ _=>rfl)) yc JD JE)
  (ze (zU 5 Za.nd rfl (lB yO (i:=5) rfl) (zD zkz (zd 5 yO rfl) (zD jK zj (zd 8 yO rfl))))
  (ze (zU 3 Za.nd rfl (lB yO (i:=3) rfl) (zP hr.units (zd 1 yO rfl) (zd 8 yO rfl) (fun _ _=>rfl)))
  zp))))))
  (ze (wD 6 rfl (vB yO (i:=6) rfl) JD JE)
  zp))))))
theorem zsn:Bd Pg w K mg base F fuel n qh "walk" 53 67 Jl:=fun cdv A outer s H E hr=>
 (ze (yJ (ik (hall 6 rfl) T.n6 hr zq5 (zc (zd 0 vV rfl) zf za) vS za zi))
  (ze (yJ (ik (hall 7 rfl) T.n7 hr zq4 (zc (zd 1 vV rfl) zf za) vR za zi))
  (ze (yJ (ik (hall 61 rfl) T.n61 hr zq3 (zc (zd 0 vV rfl) (zc (Zq zq2 T.c3 zfV) zf za) za) za6 za (zn za zi)))
  (ze (Vd 2 rfl zbF.nd rfl zqZ (wq (sc:=zk (zm 53)) (N:=qh) rfl rfl (by decide+kernel)) (wp (zd 0 vV rfl)) (.inl ⟨rfl,rfl⟩) (fun _ _ _ _=>(ik (hall 62 rfl) T.n62 hr (jI (by decide+kernel)) (zc (zL 1 rfl vF kJ kK) (zc (zL 2 rfl vF jq jr) (zc (zL 0 rfl vL xw xx) zf za) za) za) zfU za (zn za (zn za zi)))) (hsw:=(Vh (sc:=zk (zm 53)) rfl (by decide+kernel))))
  (ze (zU 3 zbF.nd rfl (lB vV (i:=3) rfl) (zD jd (zD jK zj (yo yT zq1 T.z_len KF (zc (zd 0 vV rfl) zf za) yV yU za zi)) zj))
  (ze (yd (ik (hall 66 rfl) T.n66 hr zq0 (zc (zd 0 vV rfl) (zc (zd 2 vV rfl) (zc (zd 3 vV rfl) (zc (zd 3 vV rfl) zf za) za) za) za) zfT za (zn za (zn za (zn za zi)))))
  zp))))))
theorem zso:Bd Pg w K mg base F fuel n qi "ring_walk" 54 68 YI:=fun cdv A outer s H E hr=>
 (ze (yJ (ik (hall 6 rfl) T.n6 hr zrc (zc (zd 0 Zb rfl) zf za) vS za zi))
  (ze (yJ (ik (hall 7 rfl) T.n7 hr zrb (zc (zd 1 Zb rfl) zf za) vR za zi))
  (ze (yJ (ik (hall 61 rfl) T.n61 hr zra (zc (zd 0 Zb rfl) (zc (Zq zq9 T.c3 zfV) zf za) za) za6 za (zn za zi)))
  (ze (yQ (yr rfl (Yd hr.units) (yo yT zq8 T.z_len KF (zc (zd 0 Zb rfl) zf za) yV yU za zi) zj (yv _)) (ze (yd XQ)
  zp) zp)
  (ze (Vd 2 rfl zgm.nd rfl zq6 (wq (sc:=zk (zm 54)) (N:=qi) rfl rfl (by decide+kernel)) (wp (zd 0 Zb rfl)) (.inl ⟨rfl,rfl⟩) (fun _ _ _ _=>(ik (hall 62 rfl) T.n62 hr (jI (by decide+kernel)) (zc (zL 1 rfl vF kJ kK) (zc (zL 2 rfl vF jq jr) (zc (zL 0 rfl vL xw xx) zf za) za) za) zfU za (zn za (zn za zi)))) (hsw:=(Vh (sc:=zk (zm 54)) rfl (by decide+kernel))))
  (ze (yd (ik (hall 66 rfl) T.n66 hr zq7 (zc (zd 0 Zb rfl) (zc (zd 2 Zb rfl) (zc zj (zc (zP hr.units (zd 2 Zb rfl) zj (fun _ _=>rfl)) zf yc) zq) za) za) zfT za (zn za (zn zq (zn yc zi)))))
  zp))))))
theorem zsp:Bd Pg w K mg base F fuel n qj "leaves_too_many" 55 69 Jm:=fun cdv A outer s H E hr=>
 (ze (Vd 4 rfl zbG.nd rfl zrd (wq (sc:=zk (zm 55)) (N:=qj) rfl rfl (by decide+kernel)) (wp (zd 0 Zc rfl)) (.inr ⟨_,rfl,fun _ _ _ _=>(yr rfl (vi hr.units) (zL 0 rfl vL xw xx) (zL 4 rfl vF zfW zfX) (by with_unfolding_all rfl))⟩) (fun _ _ _ _=>(zL 0 rfl vL xw xx)) (hsw:=(Vh (sc:=zk (zm 55)) rfl (by decide+kernel))))
  (ze (QN _ (zU 5 zbG.nd rfl (lB Zc (i:=5) rfl) (yo yT zgn T.z_len KF (zc (ik (hall 30 rfl) T.n30 hr zre (zc (zd 4 Zc rfl) (zc (zd 1 Zc rfl) zf za) za) zfG za (zn za zi)) zf zW) yV yU zW zi)))
  (ze (yd (jf (vj (Zo hr.units) (zd 5 Zc rfl) (zD xa (yo yT zgn T.z_len KF (zc (zd 3 Zc rfl) zf za) yV yU za zi) (zd 2 Zc rfl)) (yv _)) (Ye (vj (Zo hr.units) (zd 5 Zc rfl) zj (yv _)))))
  zp)))
theorem zsq:Bd Pg w K mg base F fuel n zbH "one_cell_more" 56 70 Jo:=fun cdv A outer s H E hr=>
 (ze (zU 2 qk.nd rfl (lB wX (i:=2) rfl) (xf zf))
  (ze (Yh 3 1 Ky rfl qk.nd rfl (lB wX (i:=3) rfl) rfl (vB wX (i:=1) rfl) (ze (Yh 4 0 Ky rfl qk.nd rfl (lB wX (i:=4) rfl) rfl (vB wX (i:=0) rfl) (ze (yQ (IW.t (XV (yr rfl (wd hr.units) (yo yT zrf T.z_len KF (zc (zd 3 wX rfl) zf za) yV yU za zi) zj (yv _)) (XU (yr rfl (Zo hr.units) (zd 4 wX rfl) (zP hr.units (zd 3 wX rfl) (XS XO zj) (fun _ _=>rfl)) (yv _))))) (ze (vG 2 rfl (vB wX (i:=2) rfl) (zD xa (zd 3 wX rfl) (xf (zc (zd 4 wX rfl) zf za))) xc zfY zfZ)
  zp) zp)
  zp) (hd:=kJ) (hcd:=kK))
  zp) (hd:=zf0) (hcd:=zf1))
  (ze (wD 2 rfl (vB wX (i:=2) rfl) zfY zfZ)
  zp)))
theorem zsr:Bd Pg w K mg base F fuel n zbI "cut_of" 57 71 YJ:=fun cdv A outer s H E hr=>
 (ze (yJ (ik (hall 6 rfl) T.n6 hr zrm (zc (zd 0 xW rfl) zf za) vS za zi))
  (ze (yJ (ik (hall 7 rfl) T.n7 hr zrl (zc (zd 1 xW rfl) zf za) vR za zi))
  (ze (yJ (ik (hall 61 rfl) T.n61 hr zrk (zc (zd 0 xW rfl) (zc (Zq zrj T.c4 zoP) zf za) za) za6 za (zn za zi)))
  (ze (yQ (jg (ww (ik (hall 0 rfl) T.n0 hr zri (zc (zd 2 xW rfl) (zc zj (zc zj zf zq) zq) za) JC za (zn zq (zn zq zi))) (jF _ _) wv)) (ze XZ
  zp) zp)
  (ze (zU 3 ql.nd rfl (lB xW (i:=3) rfl) (xf (zc (xf zf) zf zjm)))
  (ze (Vc Ky (yr rfl (Yd hr.units) (zD Zn zj (yo yT zgo T.z_len KF (zc (zP hr.units (zd 3 xW rfl) zj (fun _ _=>rfl)) zf yc) yV yU yc zi)) (yo yT zgo T.z_len KF (zc (zd 0 xW rfl) zf za) yV yU za zi) (yv _)) (ze (Yh 4 3 Ky rfl ql.nd rfl (lB xW (i:=4) rfl) rfl (vB xW (i:=3) rfl) (ze (yQ (ww (ik (hall 69 rfl) T.n69 hr zrh (zc (zd 0 xW rfl) (zc (zd 1 xW rfl) (zc (zd 2 xW rfl) (zc (zd 4 xW rfl) zf za) za) za) za) zoO za (zn za (zn za (zn za zi)))) (jF _ _) wv) (ze (wD 4 rfl (vB xW (i:=4) rfl) zfW zfX)
  zp) zp)
  zp) (hd:=zf0) (hcd:=zf1))
  (ze (zU 3 ql.nd rfl (lB xW (i:=3) rfl) (ik (hall 70 rfl) T.n70 hr zrg (zc (zd 0 xW rfl) (zc (zd 3 xW rfl) zf za) za) zoN za (zn za zi)))
  zp)))
  (ze (yd XQ)
  zp)))))))
theorem zss:Bd Pg w K mg base F fuel n qm "_law_twin" 63 78 zao:=fun cdv A outer s H E hr=>
 zd4
theorem zst:Bd Pg w K mg base F fuel n zbK "_law_emptied" 64 79 zap:=fun cdv A outer s H E hr=>
 zd4
theorem zsu:Bd Pg w K mg base F fuel n qo "_law_lists" 67 80 Jp:=fun cdv A outer s H E hr=>
 (ze (zU 2 qp.nd rfl (lB yu (i:=2) rfl) (xf (zc (ik (hall 12 rfl) T.n12 hr zrB (zc (zd 0 yu rfl) (zc (zd 1 yu rfl) (zc (zP hr.units (zd 0 yu rfl) zj (fun _ _=>rfl)) zf yc) za) za) zo4 za (zn za (zn yc zi))) (zc (ik (hall 31 rfl) T.n31 hr zrA (zc (zd 0 yu rfl) (zc (zd 1 yu rfl) zf za) za) zo3 za (zn za zi)) (zc (ik (hall 25 rfl) T.n25 hr zrz (zc (zd 0 yu rfl) (zc (zd 1 yu rfl) zf za) za) zo2 za (zn za zi)) (zc (ik (hall 43 rfl) T.n43 hr zry (zc (zd 0 yu rfl) (zc (zd 1 yu rfl) zf za) za) zo1 za (zn za zi)) zf zW) zW) zW) zW)))
  (ze (zU 2 qp.nd rfl (lB yu (i:=2) rfl) (zD xa (zd 2 yu rfl) (xf (zc (ik (hall 44 rfl) T.n44 hr zrx (zc (zd 0 yu rfl) (zc (zd 1 yu rfl) zf za) za) zo0 za (zn za zi)) (zc (ik (hall 45 rfl) T.n45 hr zrw (zc (zd 0 yu rfl) (zc (zd 1 yu rfl) zf za) za) zoZ za (zn za zi)) (zc (zP hr.units (ik (hall 47 rfl) T.n47 hr zrv (zc (zd 0 yu rfl) (zc (zd 1 yu rfl) zf za) za) zoY za (zn za zi)) zj (fun _ _=>rfl)) zf yc) zW) zW))))
  (ze (vG 2 rfl (vB yu (i:=2) rfl) (ik (hall 26 rfl) T.n26 hr zru (zc (zd 0 yu rfl) (zc (zd 1 yu rfl) (zc (zP hr.units (zd 0 yu rfl) zj (fun _ _=>rfl)) (zc (zP hr.units (zd 0 yu rfl) zj (fun _ _=>rfl)) zf yc) yc) za) za) zoV za (zn za (zn yc (zn yc zi)))) zW zoW zoX)
  (ze (zU 3 qp.nd rfl (lB yu (i:=3) rfl) (xf (zc (ik (hall 67 rfl) T.n67 hr zrt (zc (zd 0 yu rfl) (zc (zd 1 yu rfl) zf za) za) zoU za (zn za zi)) (zc (ik (hall 68 rfl) T.n68 hr zrs (zc (zd 0 yu rfl) (zc (zd 1 yu rfl) zf za) za) zoT za (zn za zi)) (zc (ik (hall 71 rfl) T.n71 hr zrr (zc (zd 0 yu rfl) (zc (zd 1 yu rfl) (zc zj zf zq) za) za) zoS za (zn za (zn zq zi))) zf zW) zW) zW)))
  (ze (yd (zD xa (zd 2 yu rfl) (jH rfl (wq (sc:=zk (zm 67)) (N:=qo) rfl rfl (by decide+kernel)) (wp (zd 3 yu rfl)) (.inr ⟨_,rfl,fun _ _ _ _=>(zdi (zL 0 rfl vL za9 zba))⟩) (fun _ _ _ _=>(zL 0 rfl vL za9 zba)))))
  zp)))))
theorem zsv(hn5:5<=n):Bd Pg w K mg base F fuel n zbM "law" 68 81 Jq:=fun cdv A outer s H E hr=>
 (ze (zU 1 YZ.nd rfl (lB xz (i:=1) rfl) (ik (hall 15 rfl) T.n15 hr zrG (zc (zd 0 xz rfl) (zc zj (zc zj zf zq) zq) za) zo6 za (zn zq (zn zq zi))))
  (ze (zU 2 YZ.nd rfl (lB xz (i:=2) rfl) (ik (hall 16 rfl) T.n16 hr zrF (zc (ik (hall 13 rfl) T.n13 hr zrE (zc (zd 0 xz rfl) (zc zj zf zq) za) JF za (zn zq zi)) zf zW) zo5 zW zi))
  (zlt T.nol hn5 (JQ (i:=3) YZ.nd rfl (lB xz (i:=3) rfl) (IE.h (ik (hall 80 rfl) T.n80 hr zgr (zc (zd 1 xz rfl) (zc (zd 2 xz rfl) zf za) za) zf6 za (zn za zi))))
  (JQ (i:=4) YZ.nd rfl (lB xz (i:=4) rfl) (ZP (zgs T n) hr zrC T.n78.m T.n78.f.kp T.n78.b .nil ZT (xX (jL (i:=3) xz rfl) wL za) zf4 za zi))
  (Xf Ky rfl (qx (jL (i:=3) xz rfl)) (vY (i:=5) YZ.nd rfl (lB xz (i:=5) rfl)) (ZM (Ze (ZP (zgt T n) hr zrD T.n79.m T.n79.f.kp T.n79.b .nil ZT (xX (jL (i:=5) xz rfl) wL za) zf5 za zi))))
  (ze (yd (jf (vj (wd hr.units) (ik (hall 80 rfl) T.n80 hr zgr (zc (zd 1 xz rfl) (zc (zd 2 xz rfl) zf za) za) zf6 za (zn za zi)) (zd 4 xz rfl) (yv _)) (jf (vj (wd hr.units) (zP hr.units (zd 4 xz rfl) zj (fun _ _=>rfl)) (xf (zc (zP hr.units (zd 1 xz rfl) zj (fun _ _=>rfl)) zf yc)) (yv _)) (Ye (vj (wd hr.units) (zD xa (yo yT zbN T.z_len KF (zc (zP hr.units (zd 4 xz rfl) zj (fun _ _=>rfl)) zf yc) yV yU yc zi) (yo yT zbN T.z_len KF (zc (zP hr.units (zd 4 xz rfl) zj (fun _ _=>rfl)) zf yc) yV yU yc zi)) (yo yT zbN T.z_len KF (zc (zd 1 xz rfl) zf za) yV yU za zi) (yv _))))))
  zp))))
end
theorem zS(T:Txt K mg F FD TK): ∀n i,Nat.beq i 81=false->FnOk Pg w K mg base yE n (F i) (FD i) (zG i) (wx K (zC U fuel n) i (zaQ i))
 |0,_,_=>zjM
 |n+1,0,_=>zQ (F0:=⟨3,3,Vt,[],none⟩) T.n0.f zo7 rfl rfl rfl rfl (by decide) rfl (zrH T (zS T n))
 |n+1,1,_=>zQ (F0:=⟨1,1,Vu,[],none⟩) T.n1.f zpa rfl rfl rfl rfl (by decide) rfl (zrI T (zS T n))
 |n+1,2,_=>zQ (F0:=⟨1,1,Vv,[],none⟩) T.n2.f zpe rfl rfl rfl rfl (by decide) rfl (zrJ T (zS T n))
 |n+1,3,_=>zQ (F0:=⟨1,1,Vw,[],none⟩) T.n3.f zpg rfl rfl rfl rfl (by decide) rfl (zrK T (zS T n))
 |n+1,4,_=>zQ (F0:=⟨1,1,Vx,[],none⟩) T.n4.f zpj rfl rfl rfl rfl (by decide) rfl (zrL T (zS T n))
 |n+1,5,_=>zQ (F0:=⟨1,1,Vy,[],none⟩) T.n5.f zpn rfl rfl rfl rfl (by decide) rfl (zrM T (zS T n))
 |n+1,6,_=>zQ (F0:=⟨1,1,Vz,[],none⟩) T.n6.f zpu rfl rfl rfl rfl (by decide) rfl (zrN T (zS T n))
 |n+1,7,_=>zQ (F0:=⟨1,1,VA,[],none⟩) T.n7.f zpw rfl rfl rfl rfl (by decide) rfl (zrO T (zS T n))
 |n+1,8,_=>zQ (F0:=⟨2,2,VB,[],none⟩) T.n8.f zpy rfl rfl rfl rfl (by decide) rfl (zrP T (zS T n))
 |n+1,9,_=>zQ (F0:=⟨2,2,VC,[],none⟩) T.n9.f zpA rfl rfl rfl rfl (by decide) rfl (zrQ T (zS T n))
 |n+1,10,_=>zQ (F0:=⟨3,3,VD,[],none⟩) T.n10.f zpD rfl rfl rfl rfl (by decide) rfl (zrR T (zS T n))
 |n+1,11,_=>zQ (F0:=⟨3,3,VE,[],none⟩) T.n11.f zpF rfl rfl rfl rfl (by decide) rfl (zrS T (zS T n))
 |n+1,12,_=>zQ (F0:=⟨3,3,VF,[],none⟩) T.n12.f zpH rfl rfl rfl rfl (by decide) rfl (zrT T (zS T n))
 |n+1,13,_=>zQ (F0:=⟨2,2,VG,[],none⟩) T.n13.f zpM rfl rfl rfl rfl (by decide) rfl (zrU T (zS T n))
 |n+1,14,_=>zQ (F0:=⟨3,3,VH,[],none⟩) T.n14.f zpO rfl rfl rfl rfl (by decide) rfl (zrV T (zS T n))
 |n+1,15,_=>zQ (F0:=⟨3,13,VJ,[],none⟩) T.n15.f wV rfl rfl rfl rfl (by decide) rfl (zrW T (zS T n))
 |n+1,16,_=>zQ (F0:=⟨1,2,VL,[],none⟩) T.n16.f zgc rfl rfl rfl rfl (by decide) rfl (zrX T (zS T n))
 |n+1,17,_=>yt rfl
 |n+1,18,_=>yt rfl
 |n+1,19,_=>yt rfl
 |n+1,20,_=>zQ (F0:=⟨3,8,VM,[],none⟩) T.n20.f ZI rfl rfl rfl rfl (by decide) rfl (zrY T (zS T n))
 |n+1,21,_=>zQ (F0:=⟨1,1,VN,[],none⟩) T.n21.f zpS rfl rfl rfl rfl (by decide) rfl (zrZ T (zS T n))
 |n+1,22,_=>zQ (F0:=⟨1,2,VO,[],none⟩) T.n22.f zgd rfl rfl rfl rfl (by decide) rfl (zr0 T (zS T n))
 |n+1,23,_=>zQ (F0:=⟨2,5,VP,[],none⟩) T.n23.f kY rfl rfl rfl rfl (by decide) rfl (zr1 T (zS T n))
 |n+1,24,_=>zQ (F0:=⟨3,3,VQ,[],none⟩) T.n24.f zpZ rfl rfl rfl rfl (by decide) rfl (zr2 T (zS T n))
 |n+1,25,_=>zQ (F0:=⟨2,2,VS,[],none⟩) T.n25.f zp1 rfl rfl rfl rfl (by decide) rfl (zr3 T (zS T n))
 |n+1,26,_=>zQ (F0:=⟨4,6,VT,[],none⟩) T.n26.f zbo rfl rfl rfl rfl (by decide) rfl (zr4 T (zS T n))
 |n+1,27,_=>yt rfl
 |n+1,28,_=>yt rfl
 |n+1,29,_=>yt rfl
 |n+1,30,_=>zQ (F0:=⟨2,6,VV,[],none⟩) T.n30.f JH rfl rfl rfl rfl (by decide) rfl (zr5 T (zS T n))
 |n+1,31,_=>zQ (F0:=⟨2,2,VW,[],none⟩) T.n31.f zp9 rfl rfl rfl rfl (by decide) rfl (zr6 T (zS T n))
 |n+1,32,_=>yt rfl
 |n+1,33,_=>yt rfl
 |n+1,34,_=>yt rfl
 |n+1,35,_=>yt rfl
 |n+1,36,_=>yt rfl
 |n+1,37,_=>zQ (F0:=⟨5,6,YD,[2,4],none⟩) T.n37.f zgg rfl rfl rfl rfl (by decide) rfl (zr7 T (zS T n))
 |n+1,38,_=>zQ (F0:=⟨2,4,VX,[],none⟩) T.n38.f zbt rfl rfl rfl rfl (by decide) rfl (zr8 T (zS T n))
 |n+1,39,_=>zQ (F0:=⟨2,2,VY,[],none⟩) T.n39.f zqh rfl rfl rfl rfl (by decide) rfl (zr9 T (zS T n))
 |n+1,40,_=>zQ (F0:=⟨4,10,Ja,[],none⟩) T.n40.f ju rfl rfl rfl rfl (by decide) rfl (zsa T (zS T n))
 |n+1,41,_=>zQ (F0:=⟨4,4,YF,[],none⟩) T.n41.f zqn rfl rfl rfl rfl (by decide) rfl (zsb T (zS T n))
 |n+1,42,_=>zQ (F0:=⟨3,4,Jb,[],none⟩) T.n42.f zgh rfl rfl rfl rfl (by decide) rfl (zsc T (zS T n))
 |n+1,43,_=>zQ (F0:=⟨2,2,Jc,[],none⟩) T.n43.f zqt rfl rfl rfl rfl (by decide) rfl (zsd T (zS T n))
 |n+1,44,_=>zQ (F0:=⟨2,2,Jd,[],none⟩) T.n44.f zqy rfl rfl rfl rfl (by decide) rfl (zse T (zS T n))
 |n+1,45,_=>zQ (F0:=⟨2,2,Je,[],none⟩) T.n45.f zqA rfl rfl rfl rfl (by decide) rfl (zsf T (zS T n))
 |n+1,46,_=>yt rfl
 |n+1,47,_=>zQ (F0:=⟨2,5,Jf,[],none⟩) T.n47.f qf rfl rfl rfl rfl (by decide) rfl (zsg T (zS T n))
 |n+1,48,_=>yt rfl
 |n+1,49,_=>yt rfl
 |n+1,50,_=>yt rfl
 |n+1,51,_=>yt rfl
 |n+1,52,_=>yt rfl
 |n+1,53,_=>yt rfl
 |n+1,54,_=>yt rfl
 |n+1,55,_=>yt rfl
 |n+1,56,_=>yt rfl
 |n+1,57,_=>yt rfl
 |n+1,58,_=>yt rfl
 |n+1,59,_=>yt rfl
 |n+1,60,_=>yt rfl
 |n+1,61,_=>zQ (F0:=⟨2,2,Jg,[],none⟩) T.n61.f zqL rfl rfl rfl rfl (by decide) rfl (zsh T (zS T n))
 |n+1,62,_=>zQ (F0:=⟨3,3,Jh,[],none⟩) T.n62.f zqN rfl rfl rfl rfl (by decide) rfl (zsi T (zS T n))
 |n+1,63,_=>zQ (F0:=⟨2,4,Ji,[],none⟩) T.n63.f zbA rfl rfl rfl rfl (by decide) rfl (zsj T (zS T n))
 |n+1,64,_=>zQ (F0:=⟨2,6,Jj,[],none⟩) T.n64.f JJ rfl rfl rfl rfl (by decide) rfl (zsk T (zS T n))
 |n+1,65,_=>zQ (F0:=⟨2,3,Jk,[],none⟩) T.n65.f zgl rfl rfl rfl rfl (by decide) rfl (zsl T (zS T n))
 |n+1,66,_=>zQ (F0:=⟨4,9,YH,[],none⟩) T.n66.f Za rfl rfl rfl rfl (by decide) rfl (zsm T (zS T n))
 |n+1,67,_=>zQ (F0:=⟨2,4,Jl,[],none⟩) T.n67.f zbF rfl rfl rfl rfl (by decide) rfl (zsn T (zS T n))
 |n+1,68,_=>zQ (F0:=⟨2,3,YI,[],none⟩) T.n68.f zgm rfl rfl rfl rfl (by decide) rfl (zso T (zS T n))
 |n+1,69,_=>zQ (F0:=⟨4,6,Jm,[],none⟩) T.n69.f zbG rfl rfl rfl rfl (by decide) rfl (zsp T (zS T n))
 |n+1,70,_=>zQ (F0:=⟨2,5,Jo,[],none⟩) T.n70.f qk rfl rfl rfl rfl (by decide) rfl (zsq T (zS T n))
 |n+1,71,_=>zQ (F0:=⟨3,5,YJ,[],none⟩) T.n71.f ql rfl rfl rfl rfl (by decide) rfl (zsr T (zS T n))
 |n+1,72,_=>yt rfl
 |n+1,73,_=>yt rfl
 |n+1,74,_=>yt rfl
 |n+1,75,_=>yt rfl
 |n+1,76,_=>yt rfl
 |n+1,77,_=>yt rfl
 |n+1,78,_=>zQ (F0:=⟨1,1,zao,[],none⟩) T.n78.f zgp rfl rfl rfl rfl (by decide) rfl (zss T (zS T n))
 |n+1,79,_=>zQ (F0:=⟨1,2,zap,[],none⟩) T.n79.f zbL rfl rfl rfl rfl (by decide) rfl (zst T (zS T n))
 |n+1,80,_=>zQ (F0:=⟨2,4,Jp,[],none⟩) T.n80.f qp rfl rfl rfl rfl (by decide) rfl (zsu T (zS T n))
 |n+1,81,h=>KC h (by decide)
 |n+1,_+82,_=>yt rfl
theorem zsw(T:Txt K mg F FD TK):FnOk Pg w K mg base yE (39+1) (F 81) (FD 81) (zG 81) (wx K (zC U fuel (39+1)) 81 (zaQ 81)):=
 zQ (F0:=⟨1,6,Jq,[],none⟩) T.n81.f YZ rfl rfl rfl rfl (by decide) rfl (zsv T (zS T 39) (by decide))
noncomputable def fE(K:Ka)(f:Addr)(x:Str)(t:Nat):Prop:=∃oc od kV dc pm an cd ct sl,fH K f oc od kV dc pm an cd ct sl x t
theorem nE{K:Ka}{mg:Str->Option Value}{F:Nat->Addr}{h:Heap}{f:Addr}{x:Str}{t k:Nat}(X:K.In h)(G:h.Ns mainGlobals mg)(z:fE K f x t)
  (hF:F k=f) (hb: ∀(kV doc pm:Value) (an:Option Addr) (cdv ct:Value) (us:List Value),us.length=(zG k).length->bindArgs (fO x t kV doc pm an cdv ct) ⟨us,[]⟩=pure ((zG k).zip us)):nT K mg F (fun i=>YT K (F i)) k x t:=by
 obtain⟨_,_,_,_,_,_,_,_,_,z⟩:=z;exact zof X G z hF hb
theorem fm{K:Ka}{f:Addr}{oc:Value}{od:Option Addr}{kV dc pm:Value}{an:Option Addr}{cd ct:Value}{sl:Array (Option Value)}{x:Str}{t:Nat}(a:PySem.W.nsIn K mainGlobals x=some (some (.ref f)))(l:K.lookup f=some ⟨oc,od,.func (fO x t kV dc pm an cd ct),sl⟩)
  (e:PySem.W.codeIn K cd x=true) (k:PySem.W.keepIn K (.ref f)=true):fE K f x t:=⟨_,_,_,_,_,_,_,_,_,a,l,e,k⟩
theorem zsx{h:Heap}(X:K.In h)(G:h.Ns mainGlobals mg){f0 f1 f2 f3 f4 f5 f6 f7 f8 f9 f10 f11 f12 f13 f14 f15 f16 f20 f21 f22 f23 f24 f25 f26 f30 f31 f37 f38 f39 f40 f41 f42 f43 f44 f45 f47 f61 f62 f63 f64 f65 f66 f67 f68 f69 f70 f71 f78 f79 f80 f81:Addr}{t0 t1 t2 t3 t4:Tok}
  (h0:fE K f0 "is_whole" 11)
  (h1:fE K f1 "is_couple" 12)
  (h2:fE K f2 "is_cell" 13)
  (h3:fE K f3 "is_leap" 14)
  (h4:fE K f4 "is_rising" 15)
  (h5:fE K f5 "is_floor" 16)
  (h6:fE K f6 "checked" 17)
  (h7:fE K f7 "checked_leap" 18)
  (h8:fE K f8 "checked_cell" 19)
  (h9:fE K f9 "folded" 21)
  (h10:fE K f10 "are_near" 22)
  (h11:fE K f11 "cells_near" 23)
  (h12:fE K f12 "near_cells" 30)
  (h13:fE K f13 "_law_cell" 61)
  (h14:fE K f14 "_law_mix" 62)
  (h15:fE K f15 "_law_floor" 65)
  (h16:fE K f16 "_law_leap" 66)
  (h20:fE K f20 "leads_to" 24)
  (h21:fE K f21 "greatest_divisor" 26)
  (h22:fE K f22 "has_odd_sum" 27)
  (h23:fE K f23 "hue_of" 28)
  (h24:fE K f24 "cells_of_hue" 29)
  (h25:fE K f25 "hues_of" 32)
  (h26:fE K f26 "a_way" 59)
  (h30:fE K f30 "parts_within" 25)
  (h31:fE K f31 "parts_of" 31)
  (h37:fE K f37 "finds_mate" 34)
  (h38:fE K f38 "all_mates" 35)
  (h39:fE K f39 "pairs_of" 36)
  (h40:fE K f40 "crowd_and_around" 37)
  (h41:fE K f41 "is_in_cover" 38)
  (h42:fE K f42 "cells_by_cover" 39)
  (h43:fE K f43 "most_pairs" 40)
  (h44:fE K f44 "cover" 41)
  (h45:fE K f45 "peaceful" 42)
  (h47:fE K f47 "paired" 43)
  (h61:fE K f61 "refuse_big" 47)
  (h62:fE K f62 "bits_near" 48)
  (h63:fE K f63 "one_cell_walks" 49)
  (h64:fE K f64 "one_cell_longer" 50)
  (h65:fE K f65 "layers_from" 51)
  (h66:fE K f66 "walk_between" 52)
  (h67:fE K f67 "walk" 53)
  (h68:fE K f68 "ring_walk" 54)
  (h69:fE K f69 "leaves_too_many" 55)
  (h70:fE K f70 "one_cell_more" 56)
  (h71:fE K f71 "cut_of" 57)
  (h78:fE K f78 "_law_twin" 63)
  (h79:fE K f79 "_law_emptied" 64)
  (h80:fE K f80 "_law_lists" 67)
  (h81:fE K f81 "law" 68)
  (z_isinstance:PySem.W.nsIn K mainGlobals "isinstance"=some none)
  (z_int:PySem.W.nsIn K mainGlobals "int"=some none)
  (z_bool:PySem.W.nsIn K mainGlobals "bool"=some none)
  (z_len:PySem.W.nsIn K mainGlobals "len"=some none)
  (z_tuple:PySem.W.nsIn K mainGlobals "tuple"=some none)
  (z_range:PySem.W.nsIn K mainGlobals "range"=some none)
  (z_all:PySem.W.nsIn K mainGlobals "all"=some none)
  (z_abs:PySem.W.nsIn K mainGlobals "abs"=some none)
  (z_max:PySem.W.nsIn K mainGlobals "max"=some none)
  (z_min:PySem.W.nsIn K mainGlobals "min"=some none)
  (z_sorted:PySem.W.nsIn K mainGlobals "sorted"=some none)
  (z_enumerate:PySem.W.nsIn K mainGlobals "enumerate"=some none)
  (z_sum:PySem.W.nsIn K mainGlobals "sum"=some none)
  (z_reversed:PySem.W.nsIn K mainGlobals "reversed"=some none)
  (z_list:PySem.W.nsIn K mainGlobals "list"=some none)
  (c0:PySem.W.nsIn K mainGlobals "LAST_LINE"=some (some (.int 7 t0)))
  (c1:PySem.W.nsIn K mainGlobals "MOST_CELLS"=some (some (.int 24 t1)))
  (c2:PySem.W.nsIn K mainGlobals "LONGEST_LEAP"=some (some (.int 4 t2)))
  (c3:PySem.W.nsIn K mainGlobals "MOST_TO_WALK"=some (some (.int 16 t3)))
  (c4:PySem.W.nsIn K mainGlobals "MOST_TO_CUT"=some (some (.int 9 t4)))
  (nol:(K.all fun p=>zaf p.2.cls)=true)
  : ∃F FD TK,Txt K mg F FD TK/\F 81=f81/\(∀(s:Shared) (u:Value),BindsTo s (FD 81) ⟨[u],[]⟩ [("_law_script",u)]):=
 let adF:Nat->Addr:=fun i=>match i with
  |1=>f1
  |2=>f2
  |3=>f3
  |4=>f4
  |5=>f5
  |6=>f6
  |7=>f7
  |8=>f8
  |9=>f9
  |10=>f10
  |11=>f11
  |12=>f12
  |13=>f13
  |14=>f14
  |15=>f15
  |16=>f16
  |20=>f20
  |21=>f21
  |22=>f22
  |23=>f23
  |24=>f24
  |25=>f25
  |26=>f26
  |30=>f30
  |31=>f31
  |37=>f37
  |38=>f38
  |39=>f39
  |40=>f40
  |41=>f41
  |42=>f42
  |43=>f43
  |44=>f44
  |45=>f45
  |47=>f47
  |61=>f61
  |62=>f62
  |63=>f63
  |64=>f64
  |65=>f65
  |66=>f66
  |67=>f67
  |68=>f68
  |69=>f69
  |70=>f70
  |71=>f71
  |78=>f78
  |79=>f79
  |80=>f80
  |81=>f81
  |_=>f0
 ⟨adF,
  fun i=>YT K (adF i),
  fun i=>[t0,t1,t2,t3,t4].getD i 0,
  {
   n0:=nE X G h0 rfl fun _ _ _ _ _ _=>vh (fun _ _ _=>rfl)
   n1:=nE X G h1 rfl fun _ _ _ _ _ _=>wC (fun _=>rfl)
   n2:=nE X G h2 rfl fun _ _ _ _ _ _=>wC (fun _=>rfl)
   n3:=nE X G h3 rfl fun _ _ _ _ _ _=>wC (fun _=>rfl)
   n4:=nE X G h4 rfl fun _ _ _ _ _ _=>wC (fun _=>rfl)
   n5:=nE X G h5 rfl fun _ _ _ _ _ _=>wC (fun _=>rfl)
   n6:=nE X G h6 rfl fun _ _ _ _ _ _=>wC (fun _=>rfl)
   n7:=nE X G h7 rfl fun _ _ _ _ _ _=>wC (fun _=>rfl)
   n8:=nE X G h8 rfl fun _ _ _ _ _ _=>xo (fun _ _=>rfl)
   n9:=nE X G h9 rfl fun _ _ _ _ _ _=>xo (fun _ _=>rfl)
   n10:=nE X G h10 rfl fun _ _ _ _ _ _=>vh (fun _ _ _=>rfl)
   n11:=nE X G h11 rfl fun _ _ _ _ _ _=>vh (fun _ _ _=>rfl)
   n12:=nE X G h12 rfl fun _ _ _ _ _ _=>vh (fun _ _ _=>rfl)
   n13:=nE X G h13 rfl fun _ _ _ _ _ _=>xo (fun _ _=>rfl)
   n14:=nE X G h14 rfl fun _ _ _ _ _ _=>vh (fun _ _ _=>rfl)
   n15:=nE X G h15 rfl fun _ _ _ _ _ _=>vh (fun _ _ _=>rfl)
   n16:=nE X G h16 rfl fun _ _ _ _ _ _=>wC (fun _=>rfl)
   n20:=nE X G h20 rfl fun _ _ _ _ _ _=>vh (fun _ _ _=>rfl)
   n21:=nE X G h21 rfl fun _ _ _ _ _ _=>wC (fun _=>rfl)
   n22:=nE X G h22 rfl fun _ _ _ _ _ _=>wC (fun _=>rfl)
   n23:=nE X G h23 rfl fun _ _ _ _ _ _=>xo (fun _ _=>rfl)
   n24:=nE X G h24 rfl fun _ _ _ _ _ _=>vh (fun _ _ _=>rfl)
   n25:=nE X G h25 rfl fun _ _ _ _ _ _=>xo (fun _ _=>rfl)
   n26:=nE X G h26 rfl fun _ _ _ _ _ _=>XI (fun _ _ _ _=>rfl)
   n30:=nE X G h30 rfl fun _ _ _ _ _ _=>xo (fun _ _=>rfl)
   n31:=nE X G h31 rfl fun _ _ _ _ _ _=>xo (fun _ _=>rfl)
   n37:=nE X G h37 rfl fun _ _ _ _ _ _=>zi6 (fun _ _ _ _ _=>rfl)
   n38:=nE X G h38 rfl fun _ _ _ _ _ _=>xo (fun _ _=>rfl)
   n39:=nE X G h39 rfl fun _ _ _ _ _ _=>xo (fun _ _=>rfl)
   n40:=nE X G h40 rfl fun _ _ _ _ _ _=>XI (fun _ _ _ _=>rfl)
   n41:=nE X G h41 rfl fun _ _ _ _ _ _=>XI (fun _ _ _ _=>rfl)
   n42:=nE X G h42 rfl fun _ _ _ _ _ _=>vh (fun _ _ _=>rfl)
   n43:=nE X G h43 rfl fun _ _ _ _ _ _=>xo (fun _ _=>rfl)
   n44:=nE X G h44 rfl fun _ _ _ _ _ _=>xo (fun _ _=>rfl)
   n45:=nE X G h45 rfl fun _ _ _ _ _ _=>xo (fun _ _=>rfl)
   n47:=nE X G h47 rfl fun _ _ _ _ _ _=>xo (fun _ _=>rfl)
   n61:=nE X G h61 rfl fun _ _ _ _ _ _=>xo (fun _ _=>rfl)
   n62:=nE X G h62 rfl fun _ _ _ _ _ _=>vh (fun _ _ _=>rfl)
   n63:=nE X G h63 rfl fun _ _ _ _ _ _=>xo (fun _ _=>rfl)
   n64:=nE X G h64 rfl fun _ _ _ _ _ _=>xo (fun _ _=>rfl)
   n65:=nE X G h65 rfl fun _ _ _ _ _ _=>xo (fun _ _=>rfl)
   n66:=nE X G h66 rfl fun _ _ _ _ _ _=>XI (fun _ _ _ _=>rfl)
   n67:=nE X G h67 rfl fun _ _ _ _ _ _=>xo (fun _ _=>rfl)
   n68:=nE X G h68 rfl fun _ _ _ _ _ _=>xo (fun _ _=>rfl)
   n69:=nE X G h69 rfl fun _ _ _ _ _ _=>XI (fun _ _ _ _=>rfl)
   n70:=nE X G h70 rfl fun _ _ _ _ _ _=>xo (fun _ _=>rfl)
   n71:=nE X G h71 rfl fun _ _ _ _ _ _=>vh (fun _ _ _=>rfl)
   n78:=nE X G h78 rfl fun _ _ _ _ _ _=>wC (fun _=>rfl)
   n79:=nE X G h79 rfl fun _ _ _ _ _ _=>wC (fun _=>rfl)
   n80:=nE X G h80 rfl fun _ _ _ _ _ _=>xo (fun _ _=>rfl)
   n81:=nE X G h81 rfl fun _ _ _ _ _ _=>wC (fun _=>rfl)
   z_isinstance:=Kx X G z_isinstance
   z_int:=Kx X G z_int
   z_bool:=Kx X G z_bool
   z_len:=Kx X G z_len
   z_tuple:=Kx X G z_tuple
   z_range:=Kx X G z_range
   z_all:=Kx X G z_all
   z_abs:=Kx X G z_abs
   z_max:=Kx X G z_max
   z_min:=Kx X G z_min
   z_sorted:=Kx X G z_sorted
   z_enumerate:=Kx X G z_enumerate
   z_sum:=Kx X G z_sum
   z_reversed:=Kx X G z_reversed
   z_list:=Kx X G z_list
   c0:=Kw X G c0
   c1:=Kw X G c1
   c2:=Kw X G c2
   c3:=Kw X G c3
   c4:=Kw X G c4
   nol:=zll nol
  },rfl,fun s u=>by
   show BindsTo s (YT K f81) _ _;obtain⟨_,_,_,_,_,_,_,_,_,z⟩:=h81;rw[zfq z.l];exact .of_eq rfl⟩
end
end LK
namespace LK
open PySem PySem.W L2
noncomputable def en(P:Params)(x:Str)(t:Nat)(v:Value):DictEntry:=⟨PyData.keyHash P x,.str x t,v⟩
noncomputable def fo(i:Nat)(x m:Str)(t c:Nat):Obj:=⟨.type "function",none,.func (fnOf x x (ZS (zm i)) (wY (zm i)) (zk (zm i)) .none .none .none (.str m t) none (.ref c) .none), #[]⟩
noncomputable def co(x:Str)(t l a r h:Nat):Obj:=⟨.type "code",none,.fields #[.str x t,.str x (t+1),.str "/claim/cut.py" (t+2),.int l 0,.int a 0,.int 0 0,.int 0 0,.int 3 0,.ref r,.bool true,.int 181 0,.ref (r+1),.none,.ref (r+2),.ref (r+3),.ref (r+4),.int h 0,.int l 0,.str "/claim/cut.py" (h+1)], #[]⟩
noncomputable def cn(x:Str)(t l a r h:Nat):Obj:=⟨.type "code",none,.fields #[.str x t,.str x (t+1),.str "/claim/cut.py" (t+2),.int l 0,.int a 0,.int 0 0,.int 0 0,.int 3 0,.ref r,.bool true,.int 181 0,.ref (r+1),.none,.none,.none,.ref (r+2),.int h 0,.int l 0,.str "/claim/cut.py" (h+1)], #[]⟩
noncomputable def HK(P:Params):Frag:=[(3,.mk (.type "dict") none (.dict #[en P "__name__" 165 (.str "law_leaperwalk_k20_nothing_is_kept" 668),en P "__doc__" 166 .none,en P "__package__" 167 .none,en P "__loader__" 168 (.builtin "__main__.__loader__#opaque"),en P "__spec__" 169 .none,en P "__annotations__" 170 (.ref 6),en P "__builtins__" 171 (.ref 4),en P "__file__" 173 (.str "/claim/cut.py" 172),en P "__cached__" 174 .none,en P "LeapError" 206 (.ref 24),en P "BadFloor" 222 (.ref 37),en P "BadLeap" 238 (.ref 49),en P "NoCell" 254 (.ref 61),en P "BadNumber" 270 (.ref 73),en P "TooBig" 286 (.ref 85),en P "LAST_LINE" 290 (.int 7 289),en P "MOST_CELLS" 292 (.int 24 291),en P "LONGEST_LEAP" 294 (.int 4 293),en P "is_whole" 303 (.ref 94),en P "is_couple" 310 (.ref 101),en P "is_cell" 317 (.ref 108),en P "is_leap" 324 (.ref 115),en P "is_rising" 330 (.ref 120),en P "is_floor" 336 (.ref 125),en P "checked" 343 (.ref 132),en P "checked_leap" 350 (.ref 139),en P "checked_cell" 358 (.ref 146),en P "folded" 368 (.ref 153),en P "are_near" 377 (.ref 160),en P "cells_near" 383 (.ref 165),en P "leads_to" 397 (.ref 172),en P "parts_within" 409 (.ref 179),en P "greatest_divisor" 415 (.ref 184),en P "has_odd_sum" 423 (.ref 191),en P "hue_of" 434 (.ref 198),en P "cells_of_hue" 440 (.ref 203),en P "near_cells" 449 (.ref 210),en P "parts_of" 457 (.ref 217),en P "hues_of" 465 (.ref 224),en P "finds_mate" 479 (.ref 231),en P "all_mates" 489 (.ref 238),en P "pairs_of" 495 (.ref 243),en P "crowd_and_around" 501 (.ref 248),en P "is_in_cover" 511 (.ref 255),en P "cells_by_cover" 517 (.ref 260),en P "most_pairs" 525 (.ref 267),en P "cover" 533 (.ref 274),en P "peaceful" 541 (.ref 281),en P "paired" 547 (.ref 286),en P "MOST_TO_WALK" 551 (.int 16 550),en P "MOST_TO_CUT" 553 (.int 9 552),en P "refuse_big" 561 (.ref 293),en P "bits_near" 567 (.ref 298),en P "one_cell_walks" 577 (.ref 305),en P "one_cell_longer" 589 (.ref 312),en P "layers_from" 598 (.ref 319),en P "walk_between" 613 (.ref 326),en P "walk" 619 (.ref 331),en P "ring_walk" 625 (.ref 336),en P "leaves_too_many" 631 (.ref 341),en P "one_cell_more" 642 (.ref 348),en P "cut_of" 653 (.ref 355),en P "a_way" 667 (.ref 362),en P "_law_cell" 677 (.ref 369),en P "_law_mix" 686 (.ref 376),en P "_law_twin" 692 (.ref 381),en P "_law_emptied" 700 (.ref 388),en P "_law_floor" 719 (.ref 395),en P "_law_leap" 727 (.ref 402),en P "_law_lists" 733 (.ref 407),en P "law" 745 (.ref 414)] 71) #[]),
 (93,co "is_whole" 295 18 3 88 301),
 (94,fo 11 "is_whole" "leaperwalk.floors" 287 93),
 (100,co "is_couple" 304 22 1 95 308),
 (101,fo 12 "is_couple" "leaperwalk.floors" 287 100),
 (107,co "is_cell" 311 24 1 102 315),
 (108,fo 13 "is_cell" "leaperwalk.floors" 287 107),
 (114,co "is_leap" 318 26 1 109 322),
 (115,fo 14 "is_leap" "leaperwalk.floors" 287 114),
 (119,cn "is_rising" 325 28 1 116 328),
 (120,fo 15 "is_rising" "leaperwalk.floors" 287 119),
 (124,cn "is_floor" 331 30 1 121 334),
 (125,fo 16 "is_floor" "leaperwalk.floors" 287 124),
 (131,co "checked" 337 34 1 126 341),
 (132,fo 17 "checked" "leaperwalk.floors" 287 131),
 (138,co "checked_leap" 344 38 1 133 348),
 (139,fo 18 "checked_leap" "leaperwalk.floors" 287 138),
 (145,co "checked_cell" 351 42 2 140 356),
 (146,fo 19 "checked_cell" "leaperwalk.floors" 287 145),
 (152,co "folded" 361 47 2 147 366),
 (153,fo 21 "folded" "leaperwalk.leaps" 359 152),
 (159,co "are_near" 369 49 3 154 375),
 (160,fo 22 "are_near" "leaperwalk.leaps" 359 159),
 (164,cn "cells_near" 378 51 3 161 381),
 (165,fo 23 "cells_near" "leaperwalk.leaps" 359 164),
 (171,co "leads_to" 384 53 3 166 395),
 (172,fo 24 "leads_to" "leaperwalk.leaps" 359 171),
 (178,co "parts_within" 398 65 2 173 407),
 (179,fo 25 "parts_within" "leaperwalk.leaps" 359 178),
 (183,cn "greatest_divisor" 410 74 1 180 413),
 (184,fo 26 "greatest_divisor" "leaperwalk.leaps" 359 183),
 (190,co "has_odd_sum" 416 76 1 185 421),
 (191,fo 27 "has_odd_sum" "leaperwalk.leaps" 359 190),
 (197,co "hue_of" 424 79 2 192 432),
 (198,fo 28 "hue_of" "leaperwalk.leaps" 359 197),
 (202,cn "cells_of_hue" 435 86 3 199 438),
 (203,fo 29 "cells_of_hue" "leaperwalk.leaps" 359 202),
 (209,co "near_cells" 441 88 3 204 447),
 (210,fo 30 "near_cells" "leaperwalk.leaps" 359 209),
 (216,co "parts_of" 450 93 2 211 455),
 (217,fo 31 "parts_of" "leaperwalk.leaps" 359 216),
 (223,co "hues_of" 458 97 2 218 463),
 (224,fo 32 "hues_of" "leaperwalk.leaps" 359 223),
 (230,co "finds_mate" 468 102 5 225 477),
 (231,fo 34 "finds_mate" "leaperwalk.pairs" 466 230),
 (237,co "all_mates" 480 111 2 232 487),
 (238,fo 35 "all_mates" "leaperwalk.pairs" 466 237),
 (242,cn "pairs_of" 490 116 2 239 493),
 (243,fo 36 "pairs_of" "leaperwalk.pairs" 466 242),
 (247,cn "crowd_and_around" 496 118 4 244 499),
 (248,fo 37 "crowd_and_around" "leaperwalk.pairs" 466 247),
 (254,co "is_in_cover" 502 132 4 249 509),
 (255,fo 38 "is_in_cover" "leaperwalk.pairs" 466 254),
 (259,cn "cells_by_cover" 512 136 3 256 515),
 (260,fo 39 "cells_by_cover" "leaperwalk.pairs" 466 259),
 (266,co "most_pairs" 518 141 2 261 523),
 (267,fo 40 "most_pairs" "leaperwalk.pairs" 466 266),
 (273,co "cover" 526 145 2 268 531),
 (274,fo 41 "cover" "leaperwalk.pairs" 466 273),
 (280,co "peaceful" 534 147 2 275 539),
 (281,fo 42 "peaceful" "leaperwalk.pairs" 466 280),
 (285,cn "paired" 542 149 2 282 545),
 (286,fo 43 "paired" "leaperwalk.pairs" 466 285),
 (292,co "refuse_big" 554 161 2 287 559),
 (293,fo 47 "refuse_big" "leaperwalk.walks" 548 292),
 (297,cn "bits_near" 562 164 3 294 565),
 (298,fo 48 "bits_near" "leaperwalk.walks" 548 297),
 (304,co "one_cell_walks" 568 166 2 299 575),
 (305,fo 49 "one_cell_walks" "leaperwalk.walks" 548 304),
 (311,co "one_cell_longer" 578 172 2 306 587),
 (312,fo 50 "one_cell_longer" "leaperwalk.walks" 548 311),
 (318,co "layers_from" 590 180 2 313 596),
 (319,fo 51 "layers_from" "leaperwalk.walks" 548 318),
 (325,co "walk_between" 599 185 4 320 611),
 (326,fo 52 "walk_between" "leaperwalk.walks" 548 325),
 (330,cn "walk" 614 197 2 327 617),
 (331,fo 53 "walk" "leaperwalk.walks" 548 330),
 (335,cn "ring_walk" 620 204 2 332 623),
 (336,fo 54 "ring_walk" "leaperwalk.walks" 548 335),
 (340,cn "leaves_too_many" 626 212 4 337 629),
 (341,fo 55 "leaves_too_many" "leaperwalk.walks" 548 340),
 (347,co "one_cell_more" 632 216 2 342 640),
 (348,fo 56 "one_cell_more" "leaperwalk.walks" 548 347),
 (354,co "cut_of" 643 223 3 349 651),
 (355,fo 57 "cut_of" "leaperwalk.walks" 548 354),
 (361,co "a_way" 656 237 4 356 665),
 (362,fo 59 "a_way" "leaperwalk.ways" 654 361),
 (368,co "_law_cell" 670 250 2 363 675),
 (369,fo 61 "_law_cell" "law_leaperwalk_k20_nothing_is_kept" 668 368),
 (375,co "_law_mix" 678 254 3 370 684),
 (376,fo 62 "_law_mix" "law_leaperwalk_k20_nothing_is_kept" 668 375),
 (380,cn "_law_twin" 687 256 1 377 690),
 (381,fo 63 "_law_twin" "law_leaperwalk_k20_nothing_is_kept" 668 380),
 (387,co "_law_emptied" 693 260 1 382 698),
 (388,fo 64 "_law_emptied" "law_leaperwalk_k20_nothing_is_kept" 668 387),
 (394,co "_law_floor" 701 265 3 389 717),
 (395,fo 65 "_law_floor" "law_leaperwalk_k20_nothing_is_kept" 668 394),
 (401,co "_law_leap" 720 281 1 396 725),
 (402,fo 66 "_law_leap" "law_leaperwalk_k20_nothing_is_kept" 668 401),
 (406,cn "_law_lists" 728 284 2 403 731),
 (407,fo 67 "_law_lists" "law_leaperwalk_k20_nothing_is_kept" 668 406),
 (413,co "law" 734 290 1 408 743),
 (414,fo 68 "law" "law_leaperwalk_k20_nothing_is_kept" 668 413)]
theorem zT{P:Params}{i:Nat}{x:Str}(a:Nat)(m:Str)(t c:Nat)(l:(HK P).lookup a=some (fo i x m t c):=by kernel_rfl)(n:nsIn (HK P) mainGlobals x=some (some (.ref a)):=by kernel_rfl)(e:codeIn (HK P) (.ref c) x=true:=by kernel_rfl)(k:keepIn (HK P) (.ref a)=true:=by kernel_rfl):fE (HK P) a x i:=fm n l e k
noncomputable def HA:List Addr:=[3,93,94,100,101,107,108,114,115,119,120,124,125,131,132,138,139,145,146,152,153,159,160,164,165,171,172,178,179,183,184,190,191,197,198,202,203,209,210,216,217,223,224,230,231,237,238,242,243,247,248,254,255,259,260,266,267,273,274,280,281,285,286,292,293,297,298,304,305,311,312,318,319,325,326,330,331,335,336,340,341,347,348,354,355,361,362,368,369,375,376,380,381,387,388,394,395,401,402,406,407,413,414]
noncomputable def HQ:Program:=view PySem.Challenge.pw_leaperwalk_k20_nothing_is_kept [1,2,3,4,5,6,8,9,10,11,12,13,14,15,16,17,18,19,21,22,23,24,25,26,27,28,29,30,31,32,34,35,36,37,38,39,40,41,42,43,45,46,47,48,49,50,51,52,53,54,55,56,57,59,61,62,63,64,65,66,67,68]
theorem zsy: ∀P,HA=(HK P).map (·.1):=fun P=>by kernel_rfl
noncomputable def HH:Hook:=kHook HK HA zsy
noncomputable def tu(a:Array Value):Obj:=⟨.type "tuple",none,.seq a, #[]⟩
noncomputable def fi(c:Value)(a:Array Value):Obj:=⟨c,none,.fields a, #[]⟩
noncomputable def di(a:Array DictEntry)(n:Nat):Obj:=⟨.type "dict",none,.dict a n, #[]⟩
noncomputable def MH(P:Params):Heap:=⟨#[boot_o_0 P,
 boot_o_1 P,
 boot_o_2 P,
 di #[en P "__name__" 165 (.str "leaperwalk.errors" 187),en P "__doc__" 166 .none,en P "__package__" 167 .none,en P "__loader__" 168 (.builtin "__main__.__loader__#opaque"),en P "__spec__" 169 .none,en P "__annotations__" 170 (.ref 6),en P "__builtins__" 171 (.ref 4),en P "__file__" 173 (.str "/claim/cut.py" 172),en P "__cached__" 174 .none,en P "LeapError" 206 (.ref 24),en P "BadFloor" 222 (.ref 37),en P "BadLeap" 238 (.ref 49),en P "NoCell" 254 (.ref 61),en P "BadNumber" 270 (.ref 73),en P "TooBig" 286 (.ref 85)] 15,
 boot_o_4 P,
 boot_o_5 P,
 boot_o_6 P,
 boot_o_7 P,
 boot_o_8 P,
 boot_o_9 P,
 boot_o_10 P,
 tu #[],
 fi .none #[.int 2 0,.int 0 0,.ref 20,.int 4 0,.int 0 0,.ref 33,.int 6 0,.int 0 0,.ref 45,.int 8 0,.int 0 0,.ref 57,.int 10 0,.int 0 0,.ref 69,.int 12 0,.int 0 0,.ref 81],
 fi (.type "code") #[.str "<module>" 182,.str "<module>" 183,.str "/claim/cut.py" 184,.int 1 0,.int 0 0,.int 0 0,.int 0 0,.int 0 0,.ref 11,.bool false,.int 181 0,.ref 12,.none,.none,.none,.none,.int 185 0,.int 1 0,.str "/claim/cut.py" 186],
 .mk (.type "frame") none .plain #[some (.ref 13),some (.ref 3),some (.ref 3),none,some (.str "__main__" 164),none,some (.ref 0)],
 tu #[.type "ValueError"],
 fi (.type "builtin_function_or_method") #[.builtin "type.__prepare__",.type "type"],
 di #[en P "__module__" 196 (.str "leaperwalk.errors" 187),en P "__qualname__" 198 (.str "LeapError" 197),en P "__firstlineno__" 200 (.int 2 199),en P "__static_attributes__" 201 (.ref 22)] 4,
 tu #[],
 fi .none #[],
 fi (.type "code") #[.str "LeapError" 191,.str "LeapError" 192,.str "/claim/cut.py" 193,.int 2 0,.int 0 0,.int 0 0,.int 0 0,.int 0 0,.ref 18,.bool false,.int 181 0,.ref 19,.none,.none,.none,.none,.int 194 0,.int 2 0,.str "/claim/cut.py" 195],
 .mk (.type "frame") none .plain #[some (.ref 20),some (.ref 3),some (.ref 17),none,some (.str "leaperwalk.errors" 187),none,some (.ref 0)],
 tu #[],
 di #[en P "__module__" 196 (.str "leaperwalk.errors" 187),en P "__firstlineno__" 200 (.int 2 199),en P "__static_attributes__" 201 (.ref 22),en P "__weakref__" 203 (.ref 25),en P "__doc__" 204 .none] 3,
 .mk (.type "type") none (.cls (.mk "LeapError" [.type "ValueError"] [.ref 24,.type "ValueError",.type "Exception",.type "BaseException",.type "object"] 23 "LeapError" true [] [.ref 37,.ref 49,.ref 61,.ref 73,.ref 85] false none false)) #[some (.ref 15),none,some (.str "LeapError" 189),some (.str "LeapError" 197),some (.builtin "ValueError.__new__"),some (.bool true)],
 fi (.type "getset_descriptor") #[.str "__weakref__" 202,.ref 24,.builtin "ExceptionGroup.__weakref__",.none],
 fi (.type "super") #[.ref 24,.ref 24,.ref 24],
 fi (.type "builtin_function_or_method") #[.builtin "object.__init_subclass__",.ref 24],
 tu #[.ref 24],
 fi (.type "builtin_function_or_method") #[.builtin "type.__prepare__",.type "type"],
 di #[en P "__module__" 214 (.str "leaperwalk.errors" 187),en P "__qualname__" 216 (.str "BadFloor" 215),en P "__firstlineno__" 218 (.int 4 217),en P "__static_attributes__" 219 (.ref 35)] 4,
 tu #[],
 fi .none #[],
 fi (.type "code") #[.str "BadFloor" 209,.str "BadFloor" 210,.str "/claim/cut.py" 211,.int 4 0,.int 0 0,.int 0 0,.int 0 0,.int 0 0,.ref 31,.bool false,.int 181 0,.ref 32,.none,.none,.none,.none,.int 212 0,.int 4 0,.str "/claim/cut.py" 213],
 .mk (.type "frame") none .plain #[some (.ref 33),some (.ref 3),some (.ref 30),none,some (.str "leaperwalk.errors" 187),none,some (.ref 0)],
 tu #[],
 di #[en P "__module__" 214 (.str "leaperwalk.errors" 187),en P "__firstlineno__" 218 (.int 4 217),en P "__static_attributes__" 219 (.ref 35),en P "__doc__" 220 .none] 2,
 .mk (.type "type") none (.cls (.mk "BadFloor" [.ref 24] [.ref 37,.ref 24,.type "ValueError",.type "Exception",.type "BaseException",.type "object"] 36 "BadFloor" true [] [] false none false)) #[some (.ref 28),none,some (.str "BadFloor" 207),some (.str "BadFloor" 215),some (.builtin "ValueError.__new__"),some (.bool true)],
 fi (.type "super") #[.ref 37,.ref 37,.ref 37],
 fi (.type "builtin_function_or_method") #[.builtin "object.__init_subclass__",.ref 37],
 tu #[.ref 24],
 fi (.type "builtin_function_or_method") #[.builtin "type.__prepare__",.type "type"],
 di #[en P "__module__" 230 (.str "leaperwalk.errors" 187),en P "__qualname__" 232 (.str "BadLeap" 231),en P "__firstlineno__" 234 (.int 6 233),en P "__static_attributes__" 235 (.ref 47)] 4,
 tu #[],
 fi .none #[],
 fi (.type "code") #[.str "BadLeap" 225,.str "BadLeap" 226,.str "/claim/cut.py" 227,.int 6 0,.int 0 0,.int 0 0,.int 0 0,.int 0 0,.ref 43,.bool false,.int 181 0,.ref 44,.none,.none,.none,.none,.int 228 0,.int 6 0,.str "/claim/cut.py" 229],
 .mk (.type "frame") none .plain #[some (.ref 45),some (.ref 3),some (.ref 42),none,some (.str "leaperwalk.errors" 187),none,some (.ref 0)],
 tu #[],
 di #[en P "__module__" 230 (.str "leaperwalk.errors" 187),en P "__firstlineno__" 234 (.int 6 233),en P "__static_attributes__" 235 (.ref 47),en P "__doc__" 236 .none] 2,
 .mk (.type "type") none (.cls (.mk "BadLeap" [.ref 24] [.ref 49,.ref 24,.type "ValueError",.type "Exception",.type "BaseException",.type "object"] 48 "BadLeap" true [] [] false none false)) #[some (.ref 40),none,some (.str "BadLeap" 223),some (.str "BadLeap" 231),some (.builtin "ValueError.__new__"),some (.bool true)],
 fi (.type "super") #[.ref 49,.ref 49,.ref 49],
 fi (.type "builtin_function_or_method") #[.builtin "object.__init_subclass__",.ref 49],
 tu #[.ref 24],
 fi (.type "builtin_function_or_method") #[.builtin "type.__prepare__",.type "type"],
 di #[en P "__module__" 246 (.str "leaperwalk.errors" 187),en P "__qualname__" 248 (.str "NoCell" 247),en P "__firstlineno__" 250 (.int 8 249),en P "__static_attributes__" 251 (.ref 59)] 4,
 tu #[],
 fi .none #[],
 fi (.type "code") #[.str "NoCell" 241,.str "NoCell" 242,.str "/claim/cut.py" 243,.int 8 0,.int 0 0,.int 0 0,.int 0 0,.int 0 0,.ref 55,.bool false,.int 181 0,.ref 56,.none,.none,.none,.none,.int 244 0,.int 8 0,.str "/claim/cut.py" 245],
 .mk (.type "frame") none .plain #[some (.ref 57),some (.ref 3),some (.ref 54),none,some (.str "leaperwalk.errors" 187),none,some (.ref 0)],
 tu #[],
 di #[en P "__module__" 246 (.str "leaperwalk.errors" 187),en P "__firstlineno__" 250 (.int 8 249),en P "__static_attributes__" 251 (.ref 59),en P "__doc__" 252 .none] 2,
 .mk (.type "type") none (.cls (.mk "NoCell" [.ref 24] [.ref 61,.ref 24,.type "ValueError",.type "Exception",.type "BaseException",.type "object"] 60 "NoCell" true [] [] false none false)) #[some (.ref 52),none,some (.str "NoCell" 239),some (.str "NoCell" 247),some (.builtin "ValueError.__new__"),some (.bool true)],
 fi (.type "super") #[.ref 61,.ref 61,.ref 61],
 fi (.type "builtin_function_or_method") #[.builtin "object.__init_subclass__",.ref 61],
 tu #[.ref 24],
 fi (.type "builtin_function_or_method") #[.builtin "type.__prepare__",.type "type"],
 di #[en P "__module__" 262 (.str "leaperwalk.errors" 187),en P "__qualname__" 264 (.str "BadNumber" 263),en P "__firstlineno__" 266 (.int 10 265),en P "__static_attributes__" 267 (.ref 71)] 4,
 tu #[],
 fi .none #[],
 fi (.type "code") #[.str "BadNumber" 257,.str "BadNumber" 258,.str "/claim/cut.py" 259,.int 10 0,.int 0 0,.int 0 0,.int 0 0,.int 0 0,.ref 67,.bool false,.int 181 0,.ref 68,.none,.none,.none,.none,.int 260 0,.int 10 0,.str "/claim/cut.py" 261],
 .mk (.type "frame") none .plain #[some (.ref 69),some (.ref 3),some (.ref 66),none,some (.str "leaperwalk.errors" 187),none,some (.ref 0)],
 tu #[],
 di #[en P "__module__" 262 (.str "leaperwalk.errors" 187),en P "__firstlineno__" 266 (.int 10 265),en P "__static_attributes__" 267 (.ref 71),en P "__doc__" 268 .none] 2,
 .mk (.type "type") none (.cls (.mk "BadNumber" [.ref 24] [.ref 73,.ref 24,.type "ValueError",.type "Exception",.type "BaseException",.type "object"] 72 "BadNumber" true [] [] false none false)) #[some (.ref 64),none,some (.str "BadNumber" 255),some (.str "BadNumber" 263),some (.builtin "ValueError.__new__"),some (.bool true)],
 fi (.type "super") #[.ref 73,.ref 73,.ref 73],
 fi (.type "builtin_function_or_method") #[.builtin "object.__init_subclass__",.ref 73],
 tu #[.ref 24],
 fi (.type "builtin_function_or_method") #[.builtin "type.__prepare__",.type "type"],
 di #[en P "__module__" 278 (.str "leaperwalk.errors" 187),en P "__qualname__" 280 (.str "TooBig" 279),en P "__firstlineno__" 282 (.int 12 281),en P "__static_attributes__" 283 (.ref 83)] 4,
 tu #[],
 fi .none #[],
 fi (.type "code") #[.str "TooBig" 273,.str "TooBig" 274,.str "/claim/cut.py" 275,.int 12 0,.int 0 0,.int 0 0,.int 0 0,.int 0 0,.ref 79,.bool false,.int 181 0,.ref 80,.none,.none,.none,.none,.int 276 0,.int 12 0,.str "/claim/cut.py" 277],
 .mk (.type "frame") none .plain #[some (.ref 81),some (.ref 3),some (.ref 78),none,some (.str "leaperwalk.errors" 187),none,some (.ref 0)],
 tu #[],
 di #[en P "__module__" 278 (.str "leaperwalk.errors" 187),en P "__firstlineno__" 282 (.int 12 281),en P "__static_attributes__" 283 (.ref 83),en P "__doc__" 284 .none] 2,
 .mk (.type "type") none (.cls (.mk "TooBig" [.ref 24] [.ref 85,.ref 24,.type "ValueError",.type "Exception",.type "BaseException",.type "object"] 84 "TooBig" true [] [] false none false)) #[some (.ref 76),none,some (.str "TooBig" 271),some (.str "TooBig" 279),some (.builtin "ValueError.__new__"),some (.bool true)],
 fi (.type "super") #[.ref 85,.ref 85,.ref 85],
 fi (.type "builtin_function_or_method") #[.builtin "object.__init_subclass__",.ref 85]],(boot_heap P).life⟩
noncomputable def ME:PySem.Env:={ scope:=PySem.Challenge.pw_leaperwalk_k20_nothing_is_kept.main.scope,locals:=mainNs,globals:=mainNs,cells:=[],code:=.ref 13,frame:=some 14 }
noncomputable def MT:Thread:=⟨((execs ((behindTheImports PySem.Challenge.pw_leaperwalk_k20_nothing_is_kept).drop 7) ME).onRaise (leaving ME)).bind fun f=>(Sem.pure (Fin.done f):Sem Fin),.body (behindTheImports PySem.Challenge.pw_leaperwalk_k20_nothing_is_kept) ME,⟨12,0,13,8⟩,[topFrame ⟨0,0,0,0⟩]⟩
set_option maxHeartbeats 0 in
theorem zsz: ∀w os,topGo treeTable PySem.Challenge.pw_leaperwalk_k20_nothing_is_kept w 11 (some (.ref 6)) 1272 ⟨boot_heap w.params,Array.mk [],boot_drawn,boot_toks,os⟩ (topStub PySem.Challenge.pw_leaperwalk_k20_nothing_is_kept)=some (⟨MH w.params, #[],boot_drawn,287,os⟩,MT):=by
 intro w os
 kernel_rfl
theorem zsA{p q:Program}{loose:List Str}{Xt:Shared->Bool}{α:Type}{Yf:Shared->α}{Ya:World->α}{m n M:Nat}{ann:Option Value}{H:Params->Heap}{k:Nat}{th:Thread}
  (e:opening p=plainProg p.main.scope.names) (hN:Nat.ble 600 (n+M)=true) (f: ∀s,fenceModules? p s=some s)
  (z1: ∀P,(boot_heap P).isNs mainGlobals=true) (z2: ∀P,(boot_heap P).objs.size=m) (z3: ∀P,(boot_heap P).nsMap mainGlobals "__annotations__"=ann)
  (A: ∀w os,topGo treeTable p w m ann n ⟨boot_heap w.params,Array.mk [],boot_drawn,boot_toks,os⟩ (topStub p)=some (⟨H w.params, #[],boot_drawn,k,os⟩,th))
  (B: ∀w os,(topRun treeTable p w m ann M ⟨H w.params, #[],boot_drawn,k,os⟩ th).map (fun s=>
    ((staticsOk (importedModules p.main.body) (boot_heap w.params) s.heap&&namesBound p s.heap&&gensDone s&&laidKept (boot_heap w.params) s.heap:Bool),(openSeen q loose (importedModules p.main.body) Xt true s).1))=some (true,(openGood q loose).1))
  (B': ∀w os,(topRun treeTable p w m ann M ⟨H w.params, #[],boot_drawn,k,os⟩ th).map (fun s=>((openSeen q loose (importedModules p.main.body) Xt true s).2,Yf s))=some ((openGood q loose).2,Ya w)):
  LeftO p q loose Xt Yf Ya (n+M):=fun w=>by
 obtain⟨⟨h,gs,d,t,os⟩,e1,e2⟩:=jo2.mp (boot_open e hN f w);simp only[Prod.mk.injEq] at e2;obtain⟨rfl,rfl,rfl,rfl⟩:=e2;obtain⟨s,r1,r2⟩:=jo2.mp (B w os);simp only[Prod.mk.injEq] at r2;obtain⟨l1,l2⟩:=r2;have r3:=B' w os;rw[r1] at r3;simp only[Option.map_some,Option.some.injEq,Prod.mk.injEq] at r3;have r:=go_top (A w os) r1
 have E:topFrom treeTable p w (n+M) ⟨boot_heap w.params,Array.mk [],boot_drawn,boot_toks,os⟩=some s:=by
  unfold topFrom;simp only[z1,z2,z3,Bool.true_and];rw[r];show (match _ with|true=>some s|false=>none)=some s;rw[l1]
 show ((fencedOpening treeTable p w (n+M)).bind (topFrom treeTable p w (n+M))).map _=_;rw[e1];show (topFrom treeTable p w (n+M) _).map _=_;rw[E,<-r3.2];exact congrArg (fun x=>some (x,Yf s)) (Prod.ext l2 r3.1)
set_option maxHeartbeats 0 in
theorem zsB: ∀w os,(topRun treeTable PySem.Challenge.pw_leaperwalk_k20_nothing_is_kept w 11 (some (.ref 6)) 1729 ⟨MH w.params, #[],boot_drawn,287,os⟩ MT).map (fun s=>
  ((staticsOk (importedModules PySem.Challenge.pw_leaperwalk_k20_nothing_is_kept.main.body) (boot_heap w.params) s.heap&&namesBound PySem.Challenge.pw_leaperwalk_k20_nothing_is_kept s.heap&&gensDone s&&laidKept (boot_heap w.params) s.heap:Bool),(openSeen HQ [] (importedModules PySem.Challenge.pw_leaperwalk_k20_nothing_is_kept.main.body) (fun s=>xlAt HQ [] s&&recOk (RowW.records (OpenRow.toRowW (OpenLaw.row PySem.Challenge.rw_leaperwalk_k20_nothing_is_kept))) s) true s).1))=some (true,(openGood HQ []).1):=by
 intro w os
 kernel_rfl
set_option maxHeartbeats 0 in
theorem zsC: ∀w os,(topRun treeTable PySem.Challenge.pw_leaperwalk_k20_nothing_is_kept w 11 (some (.ref 6)) 1729 ⟨MH w.params, #[],boot_drawn,287,os⟩ MT).map (fun s=>
  ((openSeen HQ [] (importedModules PySem.Challenge.pw_leaperwalk_k20_nothing_is_kept.main.body) (fun s=>xlAt HQ [] s&&recOk (RowW.records (OpenRow.toRowW (OpenLaw.row PySem.Challenge.rw_leaperwalk_k20_nothing_is_kept))) s) true s).2,HH.obs s))=some ((openGood HQ []).2,HH.val w):=by
 intro w os
 kernel_rfl
theorem zsD:LeftO PySem.Challenge.pw_leaperwalk_k20_nothing_is_kept HQ [] (fun s=>xlAt HQ [] s&&recOk (RowW.records (OpenRow.toRowW (OpenLaw.row PySem.Challenge.rw_leaperwalk_k20_nothing_is_kept))) s) HH.obs HH.val (1272+1729):=
 zsA (by kernel_rfl) (by decide) (fun s=>by kernel_rfl) (fun P=>by kernel_rfl) (fun P=>by kernel_rfl) (fun P=>by kernel_rfl) zsz zsB zsC
end LK
open PySem PySem.W PyProof.Rows
set_option maxRecDepth 100000 in
set_option maxHeartbeats 0 in
theorem PySem.Challenge.cw_leaperwalk_k20_nothing_is_kept_holds : PySem.Challenge.rw_leaperwalk_k20_nothing_is_kept.Holds := by
 w_on;o_law
 refine PySem.W.holds_open (XP:=XL LK.HQ []) LK.zsD (Hook.of LK.HH) (Hook.keeps LK.HH) (fun s e=>xl_of s (Bool.and_eq_true_iff.mp e).1) XL.keeps (by rfl) (by rfl) (by rfl) (fun s e=>recFacts_of (Bool.and_eq_true_iff.mp e).2) (by rfl) (by assumption) (by decide+kernel) ⟨rfl,rfl,rfl,rfl,rfl,by decide+kernel⟩ ?hw ?hc
 case hw=>w_witness2
 refine L2.ziy (K:=LK.HK) (l:=PySem.Challenge.rw_leaperwalk_k20_nothing_is_kept) (n:=63) (k:=LK.depth) (x:="_law_script") (CX:=L2.yE) (sp:=fun K=>L2.LW.wx K (L2.LW.zC LK.U LK.zh LK.depth) 81 []) rfl (by decide) rfl ⟨rfl,by decide,by decide⟩ (fun w h Y=>Y) ?F ?S ?C
 case F=>
  intro w mg fa h KX G hmg;obtain⟨F,FD,TK,T,e0,hb⟩:=LK.zsx (t0:=289) (t1:=291) (t2:=293) (t3:=550) (t4:=552) KX G (LK.zT 94 "leaperwalk.floors" 287 93) (LK.zT 101 "leaperwalk.floors" 287 100) (LK.zT 108 "leaperwalk.floors" 287 107) (LK.zT 115 "leaperwalk.floors" 287 114) (LK.zT 120 "leaperwalk.floors" 287 119) (LK.zT 125 "leaperwalk.floors" 287 124) (LK.zT 132 "leaperwalk.floors" 287 131) (LK.zT 139 "leaperwalk.floors" 287 138) (LK.zT 146 "leaperwalk.floors" 287 145) (LK.zT 153 "leaperwalk.leaps" 359 152) (LK.zT 160 "leaperwalk.leaps" 359 159) (LK.zT 165 "leaperwalk.leaps" 359 164) (LK.zT 210 "leaperwalk.leaps" 359 209) (LK.zT 369 "law_leaperwalk_k20_nothing_is_kept" 668 368) (LK.zT 376 "law_leaperwalk_k20_nothing_is_kept" 668 375) (LK.zT 395 "law_leaperwalk_k20_nothing_is_kept" 668 394) (LK.zT 402 "law_leaperwalk_k20_nothing_is_kept" 668 401) (LK.zT 172 "leaperwalk.leaps" 359 171) (LK.zT 184 "leaperwalk.leaps" 359 183) (LK.zT 191 "leaperwalk.leaps" 359 190) (LK.zT 198 "leaperwalk.leaps" 359 197) (LK.zT 203 "leaperwalk.leaps" 359 202) (LK.zT 224 "leaperwalk.leaps" 359 223) (LK.zT 362 "leaperwalk.ways" 654 361) (LK.zT 179 "leaperwalk.leaps" 359 178) (LK.zT 217 "leaperwalk.leaps" 359 216) (LK.zT 231 "leaperwalk.pairs" 466 230) (LK.zT 238 "leaperwalk.pairs" 466 237) (LK.zT 243 "leaperwalk.pairs" 466 242) (LK.zT 248 "leaperwalk.pairs" 466 247) (LK.zT 255 "leaperwalk.pairs" 466 254) (LK.zT 260 "leaperwalk.pairs" 466 259) (LK.zT 267 "leaperwalk.pairs" 466 266) (LK.zT 274 "leaperwalk.pairs" 466 273) (LK.zT 281 "leaperwalk.pairs" 466 280) (LK.zT 286 "leaperwalk.pairs" 466 285) (LK.zT 293 "leaperwalk.walks" 548 292) (LK.zT 298 "leaperwalk.walks" 548 297) (LK.zT 305 "leaperwalk.walks" 548 304) (LK.zT 312 "leaperwalk.walks" 548 311) (LK.zT 319 "leaperwalk.walks" 548 318) (LK.zT 326 "leaperwalk.walks" 548 325) (LK.zT 331 "leaperwalk.walks" 548 330) (LK.zT 336 "leaperwalk.walks" 548 335) (LK.zT 341 "leaperwalk.walks" 548 340) (LK.zT 348 "leaperwalk.walks" 548 347) (LK.zT 355 "leaperwalk.walks" 548 354) (LK.zT 381 "law_leaperwalk_k20_nothing_is_kept" 668 380) (LK.zT 388 "law_leaperwalk_k20_nothing_is_kept" 668 387) (LK.zT 407 "law_leaperwalk_k20_nothing_is_kept" 668 406) (LK.zT 414 "law_leaperwalk_k20_nothing_is_kept" 668 413) (by kernel_rfl) (by kernel_rfl) (by kernel_rfl) (by kernel_rfl) (by kernel_rfl) (by kernel_rfl) (by kernel_rfl) (by kernel_rfl) (by kernel_rfl) (by kernel_rfl) (by kernel_rfl) (by kernel_rfl) (by kernel_rfl) (by kernel_rfl) (by kernel_rfl) (by kernel_rfl) (by kernel_rfl) (by kernel_rfl) (by kernel_rfl) (by kernel_rfl) (by kernel_rfl);have e1:=hmg.symm.trans T.n81.m;cases e1;exact⟨_,hb,fun base _ _=>LK.zsw T⟩
 case S=>exact fun K H a ns hl _ hS=>L2.LW.zjN (LK.zoe ns hl) hS
 case C=>exact fun _ _ _ _ z=>z
