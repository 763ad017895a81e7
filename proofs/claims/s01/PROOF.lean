import PyProof.Rows.All
import Wide.All
import OpenK.AllK
import Wide.FinOn
import PyProof.EqAt
import PyProof.EqKinds
import PyProof.TupleCall
import KE.BitLaws
import Open.SpecLaws
import KE.OsHead
import KE.OsGo
import PyProof.Rows.SetFrom
import KE.KDictSum
import PyProof.Rows.SortShellAny
import PyProof.ZipIter
import PySem.Challenge.RW_zonemarket_s01_answers
import VbemaeSpec
import PyVbemae
set_option Elab.async false
set_option linter.all false
set_option maxRecDepth 100000
set_option maxHeartbeats 8000000
namespace L2
open PySem PySem.Spec PyProof.Rows
noncomputable abbrev Key:=Sum Int Str
noncomputable def JmS:Key→Value→Bool
 | .inl k,v=>Value.isInt k v
 | .inr x,v=>Value.isStrOf x v
noncomputable def Jxs (w:World):Key→Int
 | .inl k=>hashInt k
 | .inr x=>hashStr w x
theorem Ux:∀{k:Key} {v:Value},JmS k v=true→(∃i t,k=Sum.inl i∧v=Value.int i t)∨(∃x t,k=Sum.inr x∧v=Value.str x t)
 | .inl i,v,h=>by
  obtain⟨t,e⟩:=Value.isInt_shape (k:=i) (v:=v) h
  exact .inl ⟨i,t,rfl,e⟩
 | .inr x,v,h=>by
  obtain⟨t,e⟩:=Value.isStrOf_shape (x:=x) (v:=v) h
  exact .inr ⟨x,t,rfl,e⟩
theorem JsB (i:Int) (t:Tok):JmS (.inl i) (.int i t)=true:=by simp[JmS,Value.isInt]
theorem JsA (x:Str) (t:Tok):JmS (.inr x) (.str x t)=true:=by simp[JmS,Value.isStrOf]
theorem Jwh (a b:Int):decide ((Sum.inl a:Key)=Sum.inl b)=(a==b):=by
 by_cases e:a=b
 ·subst e;simp
 ·have h:¬(Sum.inl a:Key)=Sum.inl b:=fun q=>e (Sum.inl.inj q)
  rw[decide_eq_false h]
  exact(beq_eq_false_iff_ne.mpr e).symm
theorem Jwe (a b:Str):decide ((Sum.inr a:Key)=Sum.inr b)=decide (a=b):=by
 by_cases e:a=b
 ·subst e;simp
 ·have h:¬(Sum.inr a:Key)=Sum.inr b:=fun q=>e (Sum.inr.inj q)
  rw[decide_eq_false h,decide_eq_false e]
theorem Jwg (a:Int) (b:Str):decide ((Sum.inl a:Key)=Sum.inr b)=false:=decide_eq_false (fun q=>nomatch q)
theorem Jwf (a:Str) (b:Int):decide ((Sum.inr a:Key)=Sum.inl b)=false:=decide_eq_false (fun q=>nomatch q)
noncomputable def Vg (prog:Program) (w:World):PySem.KeyKind prog w Key where
 is:=JmS
 hash:=Jxs w
 inj:=fun v a b ha hb=>by
  rcases Ux ha with⟨i,t,rfl,rfl⟩|⟨x,t,rfl,rfl⟩
  ·rcases Ux hb with⟨j,u,rfl,e⟩|⟨y,u,rfl,e⟩
   ·injection e with e1 _;rw[e1]
   ·exact nomatch e
  ·rcases Ux hb with⟨j,u,rfl,e⟩|⟨y,u,rfl,e⟩
   ·exact nomatch e
   ·injection e with e1 _;rw[e1]
 byValue:=fun k v h=>by
  rcases Ux h with⟨i,t,rfl,rfl⟩|⟨x,t,rfl,rfl⟩<;>rfl
 pyHash:=fun hv h=>by
  rcases Ux hv with⟨i,t,rfl,rfl⟩|⟨x,t,rfl,rfl⟩
  ·exact wpAny_pyHash_int h
  ·exact wpAny_pyHash_str h
 eqBool:=fun hu hv h=>by
  rcases Ux hu with⟨i,t,rfl,rfl⟩|⟨x,t,rfl,rfl⟩
  ·rcases Ux hv with⟨j,u,rfl,rfl⟩|⟨y,u,rfl,rfl⟩
   ·rw[Jwh] at h;exact wpAny_eqBool_int h
   ·rw[Jwg] at h;exact SeqAt.EqAt.int_str i t y u _ _ _ _ h
  ·rcases Ux hv with⟨j,u,rfl,rfl⟩|⟨y,u,rfl,rfl⟩
   ·rw[Jwf] at h;exact SeqAt.EqAt.str_int x t j u _ _ _ _ h
   ·rw[Jwe] at h;exact wpAny_eqBool_str h
 «strs»:=fun k x t v h=>by
  rcases Ux h with⟨i,u,rfl,e⟩|⟨y,u,rfl,e⟩
  ·exact nomatch e
  ·injection e with e1 _
   subst e1
   cases v<;>rfl
theorem Je4 (prog:Program) (w:World) (i:Int) (t:Tok):(Vg prog w).is (.inl i) (.int i t)=true:=JsB i t
theorem Je3 (prog:Program) (w:World) (x:Str) (t:Tok):(Vg prog w).is (.inr x) (.str x t)=true:=JsA x t
end L2
namespace L2
open PySem PySem.Spec PyProof.Rows
inductive V where
 |non|bl (b:Bool)|int (i:Int)|str (x:Str)|byt (b:Array UInt8)|flt (b:UInt64)|ref (a:Addr)|ty (n:String)
 deriving DecidableEq
noncomputable def JX:V→Value→Prop
 | .non,u=>u=Value.none
 | .bl b,u=>u=Value.bool b
 | .int i,u=>∃t,u=Value.int i t
 | .str x,u=>∃t,u=Value.str x t
 | .byt b,u=>∃t,u=Value.bytes b t
 | .flt b,u=>∃t,u=Value.float b t
 | .ref a,u=>u=Value.ref a
 | .ty n,u=>u=Value.type n
noncomputable abbrev JY:List V→List Value→Prop:=Paired JX
theorem JY.length {xs:List V} {us:List Value} (r:JY xs us):xs.length=us.length:=Paired.length r
theorem JY.get:∀{xs:List V} {us:List Value} {i:Nat} {x:V},JY xs us→xs[i]? =some x→∃u,us[i]? =some u∧JX x u
 |_,_,_,_,.nil,e=>by simp at e
 |_,_,0,_,.cons r _,e=>by simp at e;subst e;exact⟨_,rfl,r⟩
 |_,_,i+1,x,.cons _ t,e=>by
  obtain⟨u,h1,h2⟩:=JY.get (i:=i) (x:=x) t (by simpa using e)
  exact⟨u,by simpa using h1,h2⟩
theorem JY.set {x:V} {u:Value} (r:JX x u):∀{xs:List V} {us:List Value} (i:Nat),JY xs us→JY (xs.set i x) (us.set i u)
 |_,_,_,.nil=>.nil
 |_,_,0,.cons _ t=>.cons r t
 |_,_,i+1,.cons q t=>.cons q (JY.set r i t)
theorem JY.append:∀{xs ys:List V} {us ws:List Value},JY xs us→JY ys ws→JY (xs++ys) (us++ws)
 |_,_,_,_,.nil,s=>s
 |_,_,_,_,.cons r t,s=>.cons r (JY.append t s)
theorem JY.take:∀{xs:List V} {us:List Value} (n:Nat),JY xs us→JY (xs.take n) (us.take n)
 |_,_,0,_=>.nil
 |_,_,_+1,.nil=>.nil
 |_,_,n+1,.cons r t=>.cons r (JY.take n t)
theorem JY.drop:∀{xs:List V} {us:List Value} (n:Nat),JY xs us→JY (xs.drop n) (us.drop n)
 |_,_,0,r=>r
 |_,_,_+1,.nil=>.nil
 |_,_,n+1,.cons _ t=>JY.drop n t
noncomputable def Jh2:Option V→Option Value→Prop
 |some v,some u=>JX v u
 |none,none=>True
 |_,_=>False
noncomputable def KV {κ:Type}:List (κ×V)→List (κ×Value)→Prop:=Paired fun(p:κ×V) (q:κ×Value)=>p.1=q.1∧JX p.2 q.2
noncomputable def kV:Key→V
 | .inl i=>.int i
 | .inr x=>.str x
inductive HO where
 |lst (xs:List V)
 |tup (xs:List V)
 |dK (kvs:List (Key×V))|dT (kvs:List (List Key×V))
 |set (S:Int→Bool) (n:Nat)
 |ins (C dx:Addr) (fs:List (Str×V))
 |own (x:Addr)
 |xd (fs:List (Str×V))
 |met (f x:Addr)
 |rng (lo hi:Int)
 |frz (o:Obj) (u:HO)
 |tbl (ps:Array Value)
 |ext (φ:Heap→Prop)
noncomputable abbrev Hp:=Addr→Option HO
noncomputable def upd (H:Hp) (a:Addr) (o:HO):Hp:=fun b=>if b=a then some o else H b
theorem Jb {H:Hp} {a:Addr} {o:HO}:upd H a o a=some o:=by unfold upd;rw[if_pos rfl]
theorem Jh {H:Hp} {a b:Addr} {o:HO} (h:b≠a):upd H a o b=H b:=by unfold upd;rw[if_neg h]
theorem Q8 {H:Hp} {a b:Addr} {o u:HO} (h:H a=some o) (h':H b=some u) (d:o≠u):a≠b:=by
 intro e;subst e;rw[h] at h';exact d (Option.some.inj h')
theorem Jn {H:Hp} {a b:Addr} {o:HO} (h:H a=some o) (h':H b=none):a≠b:=by
 intro e;subst e;rw[h] at h';cases h'
section
variable (P:Program) (w:World)
noncomputable def YZ (H:Hp) (h:Heap) (a:Addr):HO→Prop
 | .lst xs=>xs.length≤sizeLine∧∃(its:List Value) (n:Nat),JY xs its∧h.get? a=some {cls:=.type "list",data:=.seq its.toArray n}
 | .tup xs=>xs.length≤sizeLine∧∃its:List Value,JY xs its∧IsTup h a its.toArray
 | .dK kvs=>kvs.length≤sizeLine∧(a==sysModules)=false∧∃vs,KV kvs vs∧h.DictOf (Vg P w) a vs
 | .dT kvs=>kvs.length≤sizeLine∧(a==sysModules)=false∧∃xs:List (List Key×Addr×Value),
   Paired (fun(p:List Key×V) (q:List Key×Addr×Value)=>p.1=q.1∧H q.2.1=some (.tup (p.1.map kV))∧JX p.2 q.2.2) kvs xs∧
   ∃o es ep,h.get? a=some o∧o.ExactDict∧o.data=.dict es ep∧es.toList=xs.map (entryOfKey (tupleKind (Vg P w)))∧(xs.map (·.1)).Nodup
 | .set S n=>h.SetOf (intKind P w) a S n
 | .ins C dx fs=>H dx=some (.own a)∧fs.length≤1000∧dx≠a∧h.get? a=some (PySem.W.instObj C dx)∧
   ∃mA,h.Ns1 dx mA∧(∀f,Jh2 (fs.lookup f) (mA f))∧PySem.Within mA (fs.map (·.1))
 | .own _=>∃o,h.get? a=some o
 | .xd fs=>∃mA,h.Ns1 a mA∧∀f,Jh2 (fs.lookup f) (mA f)
 | .rng lo hi=>∃t u v,h.get? a=some {cls:=.type "range",data:=.fields #[.int lo t,.int hi u,.int 1 v]}
 | .frz o u=>h.get? a=some o∧YZ H h a u
 | .tbl ps=>h.get? a=some {cls:=.none,data:=.fields ps}
 | .met f x=>h.get? a=some (PySem.W.methodObj (.ref f) (.ref x))
 | .ext φ=>φ h∧(∃o,h.get? a=some o)∧∀h1 h2:Heap,φ h1→(∀o,h1.get? a=some o→h2.get? a=some o)→φ h2
noncomputable def HOk (H:Hp) (h:Heap):Prop:=∀a o,H a=some o→YZ P w H h a o
end
section
variable {P:Program} {w:World} {H H':Hp} {h h':Heap} {a:Addr} {o:HO}
theorem YZ.lt (x:YZ P w H h a o):a<h.objs.size:=by
 cases o with
 |lst xs=>obtain⟨_,_,_,_,e⟩:=x;exact Heap.lt_size e
 |tup xs=>obtain⟨_,_,_,p⟩:=x;exact p.lt
 |dK kvs=>obtain⟨_,_,_,_,o,_,_,e,_⟩:=x;exact Heap.lt_size e
 |dT kvs=>obtain⟨_,_,_,_,o,_,_,e,_⟩:=x;exact Heap.lt_size e
 |set S n=>obtain⟨o,_,_,_,e,_⟩:=x;exact Heap.lt_size e
 |ins C dx fs=>obtain⟨_,_,_,e,_⟩:=x;exact Heap.lt_size e
 |own y=>obtain⟨_,e⟩:=x;exact Heap.lt_size e
 |xd fs=>obtain⟨_,⟨_,_,_,e,_⟩,_⟩:=x;exact Heap.lt_size e
 |rng lo hi=>obtain⟨_,_,_,e⟩:=x;exact Heap.lt_size e
 |frz ob u=>obtain⟨e,_⟩:=x;exact Heap.lt_size e
 |tbl ps=>exact Heap.lt_size (show h.get? a=some _ from x)
 |met f y=>exact Heap.lt_size (show h.get? a=some _ from x)
 |ext φ=>obtain⟨_,⟨_,e⟩,_⟩:=x;exact Heap.lt_size e
theorem Paired.mapP {α β:Type} {F G:α→β→Prop}:∀{l₁:List α} {l₂:List β},Paired F l₁ l₂→(∀a b,F a b→G a b)→Paired G l₁ l₂
 |_,_,.nil,_=>.nil
 |_,_,.cons r t,f=>.cons (f _ _ r) (Paired.mapP t f)
theorem YZ.stay (x:YZ P w H h a o) (k:∀b u,(b=a∨H b=some (.own a))→h.get? b=some u→h'.get? b=some u)
  (ho:∀b,H b=some (.own a)→H' b=some (.own a)) (ht:∀b xs,H b=some (.tup xs)→H' b=some (.tup xs)):YZ P w H' h' a o:=by
 induction o with
 |lst xs=>obtain⟨z,its,n,r,e⟩:=x;exact⟨z,its,n,r,k _ _ (.inl rfl) e⟩
 |tup xs=>obtain⟨z,its,r,ob,e,c⟩:=x;exact⟨z,its,r,ob,k _ _ (.inl rfl) e,c⟩
 |dK kvs=>obtain⟨z,y,vs,r,ob,es,ep,e,c⟩:=x;exact⟨z,y,vs,r,ob,es,ep,k _ _ (.inl rfl) e,c⟩
 |dT kvs=>
  obtain⟨z,y,xs,r,ob,es,ep,e,c⟩:=x
  exact⟨z,y,xs,Paired.mapP r fun p q z=>⟨z.1,ht _ _ z.2.1,z.2.2⟩,ob,es,ep,k _ _ (.inl rfl) e,c⟩
 |set S n=>obtain⟨ob,es,ep,t,e,c⟩:=x;exact⟨ob,es,ep,t,k _ _ (.inl rfl) e,c⟩
 |ins C dx fs=>
  obtain⟨d,z,ne,e,mA,⟨od,es,ep,e2,c⟩,r⟩:=x
  exact⟨ho _ d,z,ne,k _ _ (.inl rfl) e,mA,⟨od,es,ep,k _ _ (.inr d) e2,c⟩,r⟩
 |own y=>obtain⟨ob,e⟩:=x;exact⟨ob,k _ _ (.inl rfl) e⟩
 |xd fs=>obtain⟨mA,⟨od,es,ep,e,c⟩,r⟩:=x;exact⟨mA,⟨od,es,ep,k _ _ (.inl rfl) e,c⟩,r⟩
 |rng lo hi=>obtain⟨t,u,v,e⟩:=x;exact⟨t,u,v,k _ _ (.inl rfl) e⟩
 |frz ob u ih=>obtain⟨e,q⟩:=x;exact⟨k _ _ (.inl rfl) e,ih q⟩
 |tbl ps=>
  have e:h.get? a=some {cls:=.none,data:=.fields ps}:=x
  show h'.get? a=some {cls:=.none,data:=.fields ps}
  exact k a _ (.inl rfl) e
 |met f y=>
  have e:h.get? a=some (PySem.W.methodObj (.ref f) (.ref y)):=x
  show h'.get? a=some (PySem.W.methodObj (.ref f) (.ref y))
  exact k a _ (.inl rfl) e
 |ext φ=>obtain⟨p,⟨o,e⟩,st⟩:=x;exact⟨st _ _ p fun o q=>k _ _ (.inl rfl) q,⟨o,k _ _ (.inl rfl) e⟩,st⟩
theorem HOk.lt (x:HOk P w H h) (e:H a=some o):a<h.objs.size:=(x a o e).lt
theorem HOk.fresh (x:HOk P w H h) (e:h.objs.size≤a):H a=none:=by
 cases q:H a with
 |none=>rfl
 |some u=>exact absurd (Nat.lt_of_lt_of_le (x.lt q) e) (Nat.lt_irrefl _)
theorem HOk.kept (x:HOk P w H h) (k:∀b u,h.get? b=some u→h'.get? b=some u):HOk P w H h':=fun a o e=>
 (x a o e).stay (fun b u _ q=>k b u q) (fun _ q=>q) fun _ _ q=>q
theorem HOk.laid (x:HOk P w H h) (k:∀b u,h.get? b=some u→h'.get? b=some u) (hp:h.objs.size≤a) (new:YZ P w (upd H a o) h' a o):HOk P w (upd H a o) h':=fun b u e=>by
 have hn:=x.fresh hp
 by_cases hb:b=a
 ·subst hb;rw[Jb] at e;cases e;exact new
 ·rw[Jh hb] at e
  exact(x b u e).stay (fun c v _ q=>k c v q) (fun c q=>by rw[Jh (Jn q hn)];exact q) fun c xs q=>by rw[Jh (Jn q hn)];exact q
end
noncomputable def Rd (H:Hp) (a:Addr) (u:HO):Prop:=H a=some u∨∃o,H a=some (.frz o u)
theorem Rd.ok {P:Program} {w:World} {H:Hp} {h:Heap} {a:Addr} {u:HO} (r:Rd H a u) (x:HOk P w H h):YZ P w H h a u:=by
 rcases r with r|⟨o,r⟩
 ·exact x a u r
 ·obtain⟨_,q⟩:=x a _ r
  exact q
noncomputable def Mut:Option HO→Prop
 |some (.lst _)=>True
 |some (.dK _)=>True
 |some (.dT _)=>True
 |some (.set _ _)=>True
 |some (.ins _ _ _)=>True
 |some (.ext _)=>True
 |_=>False
section
variable {P:Program} {w:World} {H:Hp} {h h':Heap} {x e:Addr} {o':HO}
theorem HOk.write (ok:HOk P w H h) (mu:Mut (H x)) (he:e=x∨H e=some (.own x)) (k:∀b u,b≠e→h.get? b=some u→h'.get? b=some u) (heo:∃u,h'.get? e=some u)
  (new:YZ P w (upd H x o') h' x o'):HOk P w (upd H x o') h':=fun b u q=>by
 have nown:∀c y,H c=some (.own y)→c≠x:=fun c y r z=>by subst z;rw[r] at mu;exact mu
 have ntup:∀c xs,H c=some (.tup xs)→c≠x:=fun c xs r z=>by subst z;rw[r] at mu;exact mu
 by_cases hb:b=x
 ·subst hb;rw[Jb] at q;cases q;exact new
 ·rw[Jh hb] at q
  by_cases hbe:b=e
  ·have q':H b=some (.own x):=by
    rcases he with z|z
    ·exact absurd (hbe.trans z) hb
    ·rw[hbe];exact z
   rw[q] at q';cases q'
   obtain⟨v,hv⟩:=heo
   exact⟨v,by rw[hbe];exact hv⟩
  ·refine(ok b u q).stay (fun c v hc r=>k c v ?_ r) (fun c r=>by rw[Jh (nown c b r)];exact r) fun c xs r=>by rw[Jh (ntup c xs r)];exact r
   rcases hc with rfl|hc
   ·exact hbe
   ·rintro rfl
    rcases he with z|z
    ·exact nown c b hc z
    ·rw[hc] at z;cases z;exact hb rfl
end
structure Un (fs ex:List Addr) (H H':Hp) (h h':Heap):Prop where
 keep:∀b o,h.get? b=some o→H b=none→b∉fs→b∉ex→h'.get? b=some o
 slot:∀b o,h.get? b=some o→H b=none→b∈fs→b∉ex→∃sl,h'.get? b=some {o with slots:=sl}
 free:∀b o,h.get? b=some o→H b=none→b∉ex→H' b=none
 there:∀b o,h.get? b=some o→b∉ex→∃o',h'.get? b=some o'
 tups:∀b xs,H b=some (.tup xs)→H' b=some (.tup xs)
 frzs:∀b o u,H b=some (.frz o u)→H' b=some (.frz o u)
 tbls:∀b ps,H b=some (.tbl ps)→∃more,H' b=some (.tbl (ps++more))
section
variable {fs fs' ex ex':List Addr} {H H1 H2:Hp} {h h1 h2 h':Heap} {a x e:Addr} {o:HO}
theorem Un.any (u:Un fs ex H H1 h h1) {b:Addr} {ob:Obj} (q:h.get? b=some ob) (n:H b=none) (hx:b∉ex):∃sl,h1.get? b=some {ob with slots:=sl}:=by
 by_cases hb:b∈fs
 ·exact u.slot b ob q n hb hx
 ·exact⟨ob.slots,u.keep b ob q n hb hx⟩
theorem Un.kept (k:∀b u,h.get? b=some u→h'.get? b=some u):Un fs ex H H h h':=
 ⟨fun b ob q _ _ _=>k b ob q,fun b ob q _ _ _=>⟨ob.slots,k b ob q⟩,fun _ _ _ n _=>n,fun b ob q _=>⟨ob,k b ob q⟩,fun _ _ q=>q,fun _ _ _ q=>q,fun _ ps q=>⟨#[],by rw[q];simp⟩⟩
theorem Un.refl:Un fs ex H H h h:=Un.kept fun _ _ q=>q
theorem Un.laid (k:∀b u,h.get? b=some u→h'.get? b=some u) (hp:h.objs.size≤a) (hn:H a=none):Un fs ex H (upd H a o) h h' where
 keep:=fun b u q _ _ _=>k b u q
 slot:=fun b u q _ _ _=>⟨u.slots,k b u q⟩
 free:=fun b u q n _=>by rw[Jh (Nat.ne_of_lt (Nat.lt_of_lt_of_le (Heap.lt_size q) hp))];exact n
 there:=fun b u q _=>⟨u,k b u q⟩
 tups:=fun b xs q=>by rw[Jh (Jn q hn)];exact q
 frzs:=fun b u xs q=>by rw[Jh (Jn q hn)];exact q
 tbls:=fun b ps q=>⟨#[],by rw[Jh (Jn q hn),q];simp⟩
theorem Un.write (mu:Mut (H x)) (he:e=x∨H e=some (.own x)) (k:∀b u,b≠e→h.get? b=some u→h'.get? b=some u) (heo:∃u,h'.get? e=some u):Un fs ex H (upd H x o) h h':=by
 have hx:∀b,H b=none→b≠x:=fun b n z=>by subst z;rw[n] at mu;exact mu
 have hb:∀b,H b=none→b≠e:=fun b n z=>by
  subst z
  rcases he with r|r
  ·exact hx b n r
  ·rw[n] at r;cases r
 have hm:∀b u,H b=some u→¬Mut (some u)→b≠x:=fun b u q nm z=>by subst z;rw[q] at mu;exact nm mu
 refine⟨fun b u q n _ _=>k b u (hb b n) q,fun b u q n _ _=>⟨u.slots,k b u (hb b n) q⟩,fun b u q n _=>by rw[Jh (hx b n)];exact n,fun b u q _=>?_,
  fun b xs q=>by rw[Jh (hm b _ q fun z=>z)];exact q,fun b u xs q=>by rw[Jh (hm b _ q fun z=>z)];exact q,fun b ps q=>⟨#[],by rw[Jh (hm b _ q fun z=>z),q];simp⟩⟩
 by_cases hbe:b=e
 ·subst hbe;exact heo
 ·exact⟨u,k b u hbe q⟩
end
noncomputable def trk (h:Heap) (H:Hp):List Addr:=(List.range h.objs.size).filter fun a=>(H a).isSome
noncomputable def Jn4 (h:Heap) (H:Hp):Heap:=PySem.W.hideAll h (trk h H)
theorem JsD (h:Heap) (H:Hp):(Jn4 h H).objs.size=h.objs.size:=PySem.W.hideAll_size _ _
theorem JtP {h:Heap} {H:Hp} {b:Addr} {o:Obj} (e:h.get? b=some o) (n:H b=none):(Jn4 h H).get? b=some o:=
 PySem.W.hideAll_get _ e fun hm=>by
  have q:(H b).isSome=true:=(List.mem_filter.mp hm).2
  rw[n] at q;simp at q
theorem JuP {h:Heap} {H:Hp} {b:Addr} {o:Obj} (e:(Jn4 h H).get? b=some o):h.get? b=some o∧H b=none:=by
 have e':h.get? b=some o:=PySem.W.of_hideAll (trk h H) e
 refine⟨e',?_⟩
 cases q:H b with
 |none=>rfl
 |some x=>
  have hm:b∈trk h H:=List.mem_filter.mpr ⟨List.mem_range.mpr (Heap.lt_size e'),by simp[q]⟩
  have z:(Jn4 h H).get? b=none:=PySem.W.hideAll_none (trk h H) hm
  rw[z] at e;cases e
end L2
namespace L2
open PySem PySem.Spec PyProof.Rows
structure Mod (K:PySem.W.Frag) (mg:Str→Option Value) (base:Heap):Prop where
 kin:K.In base
 glob:base.Ns mainGlobals mg
 blt:∃mb,base.Ns builtinsNs mb∧∀x:Str,x≠"__name__"→mb x=bootBuiltins x
 nolimit:base.NoLimit
structure Cx where
 prog:Program
 w:World
 K:PySem.W.Frag
 mg:Str→Option Value
 base:Heap
 A:Around
 N:List Str
 s_0:Shared
 H_0:Hp
 env:Env
 outer:List Env
 stack:List Env
 ex:List Addr
 fn:Str→Bool
 calm:Bool
 pn:List (Addr×Obj)
 xe:Value→Shared→Prop
noncomputable def frs (l:List Env):List Addr:=l.filterMap (·.frame)
noncomputable abbrev Cx.fs (X:Cx):List Addr:=frs X.outer
noncomputable def Vis (sc:Scope) (x:Str):Prop:=sc.names.lookup x=some .local∨sc.names.lookup x=some .cell∨sc.names.lookup x=some .free
noncomputable def Loc (sc:Scope) (x:Str):Prop:=sc.names.lookup x=some .local∨sc.names.lookup x=some .cell
noncomputable def JxD (env:Env) (h:Heap) (m:Str→Option Value) (x:Str) (u:Value):Prop:=
 (env.kindOf x=some .local∧m x=some u)∨((env.kindOf x=some .cell∨env.kindOf x=some .free)∧∃c,env.cells.lookup x=some c∧h.IsCell c (some u))
structure Cx.Ok (X:Cx):Prop where
 mod:Mod X.K X.mg X.base
 kind:X.env.scope.kind=.function
 glob:X.env.globals=mainGlobals
 blt:X.env.builtins=builtinsNs
 above:X.s_0.heap.objs.size≤X.env.locals
 inj:∀x y c,X.env.cells.lookup x=some c→X.env.cells.lookup y=some c→x=y
 has:∀x,(X.env.kindOf x=some .cell∨X.env.kindOf x=some .free)→∃c,X.env.cells.lookup x=some c
 cab:∀x c,X.fn x=true→X.env.cells.lookup x=some c→X.s_0.heap.objs.size≤c
 hd:X.calm=true→X.A.handled=none
 frames:X.A.frames=some X.stack
 stk:X.stack=X.outer∨(X.stack=X.env::X.outer∧X.env.frame=some X.env.locals)
 exf:∀b∈X.ex,b≠X.env.locals∧∀x c,X.env.cells.lookup x=some c→c≠b
 bs:∀b o,X.base.get? b=some o→X.s_0.heap.get? b=some o∧X.H_0 b=none
 bsz:X.base.objs.size≤X.s_0.heap.objs.size
 noex:∀b o,X.base.get? b=some o→b∉X.ex
 exfs:∀b∈X.ex,b∉X.fs
 funs:X.s_0.heap.FunFrames X.base X.outer
 frf:∀b∈X.fs,X.H_0 b=none
structure Inv (X:Cx) (pins:List (Addr×Obj)) (σ:List (Option V)) (H:Hp) (s:Shared):Prop where
 ok:X.Ok
 os:s.os=X.s_0.os
 bare:AllBare s.gens
 base:Un X.fs X.ex X.H_0 H X.s_0.heap s.heap
 loc:∃m,s.heap.Ns X.env.locals m∧∀(i:Nat) (x:Str) (v:V),X.N[i]? =some x→σ[i]? =some (some v)→Vis X.env.scope x→∃u,JX v u∧JxD X.env s.heap m x u
 cell:∀x c,X.env.cells.lookup x=some c→∃v,s.heap.IsCell c v
 free:H X.env.locals=none
 freeC:∀x c,X.env.cells.lookup x=some c→H c=none
 pin:∀p∈X.pn++pins,s.heap.get? p.1=some p.2∧H p.1=none∧p.1≠X.env.locals∧p.1∉X.fs∧∀v,p.2.data≠.cell v
 hok:HOk X.prog X.w H s.heap
 len:σ.length=X.N.length
section
variable {X:Cx} {pins:List (Addr×Obj)} {σ:List (Option V)} {H H':Hp} {s:Shared} {h':Heap}
theorem Cx.Ok.nofr (ok:X.Ok) {b:Addr} {o:Obj} (e:X.base.get? b=some o):b∉X.fs:=fun hb=>by
 have:=(ok.funs.mem hb).1
 rw[e] at this;cases this
theorem Inv.bs (I:Inv X pins σ H s):∀b o,X.base.get? b=some o→s.heap.get? b=some o∧H b=none:=fun b o e=>
 ⟨I.base.keep b o (I.ok.bs b o e).1 (I.ok.bs b o e).2 (I.ok.nofr e) (I.ok.noex b o e),I.base.free b o (I.ok.bs b o e).1 (I.ok.bs b o e).2 (I.ok.noex b o e)⟩
theorem Inv.bk (I:Inv X pins σ H s):∀b o,X.base.get? b=some o→s.heap.get? b=some o:=fun b o e=>(I.bs b o e).1
theorem Inv.mod (I:Inv X pins σ H s):Mod X.K X.mg X.base:=I.ok.mod
theorem Inv.kIn (I:Inv X pins σ H s):X.K.In s.heap:=I.ok.mod.kin.keeps I.bk
theorem Inv.lt (I:Inv X pins σ H s):X.env.locals<s.heap.objs.size:=let⟨_,hn,_⟩:=I.loc;hn.lt
theorem Inv.sz (I:Inv X pins σ H s):X.s_0.heap.objs.size≤s.heap.objs.size:=Nat.le_trans I.ok.above (Nat.le_of_lt I.lt)
theorem Inv.nofs (I:Inv X pins σ H s) {a:Addr} (h:s.heap.objs.size≤a):a∉X.fs:=fun hb=>by
 obtain⟨_,o,ho,_⟩:=I.ok.funs.mem hb
 exact absurd (Nat.lt_of_lt_of_le (Heap.lt_size ho) (Nat.le_trans I.sz h)) (Nat.lt_irrefl _)
theorem Inv.cne (I:Inv X pins σ H s):∀x c,X.env.cells.lookup x=some c→c≠X.env.locals:=fun x c e z=>by
 obtain⟨v,o,ho,hd⟩:=I.cell x c e
 obtain⟨m,⟨o',es,ep,ho',hd',_⟩,_⟩:=I.loc
 rw[z,ho'] at ho;cases ho;rw[hd'] at hd;cases hd
theorem Inv.funs (I:Inv X pins σ H s):s.heap.FunFrames X.base X.outer:=by
 have all:∀(l:List Env),(∀b∈frs l,b∈X.fs)→X.s_0.heap.FunFrames X.base l→s.heap.FunFrames X.base l:=by
  intro l
  induction l with
  |nil=>intro _ _;trivial
  |cons env r ih=>
   intro hs hl
   obtain⟨hk,⟨L,o,hf,hn,ho,hd⟩,hr⟩:=hl
   have hL:L∈X.fs:=hs L (by unfold frs;rw[List.filterMap_cons,hf];exact List.mem_cons_self)
   obtain⟨sl,e⟩:=I.base.slot L o ho (I.ok.frf L hL) hL fun z=>I.ok.exfs L z hL
   exact⟨hk,⟨L,_,hf,hn,e,hd⟩,ih (fun b hb=>hs b (by unfold frs;rw[List.filterMap_cons,hf];exact List.mem_cons_of_mem _ hb)) hr⟩
 exact all X.outer (fun _ hb=>hb) I.ok.funs
theorem Inv.stack (I:Inv X pins σ H s):s.heap.FunFrames X.base X.stack:=by
 rcases I.ok.stk with e|⟨e,hf⟩
 ·rw[e];exact I.funs
 ·rw[e]
  obtain⟨m,hn,_⟩:=I.loc
  refine .cons (by rw[I.ok.kind];decide) hf hn ?_ I.funs
  exact Heap.get?_none_of_le (Nat.le_trans I.ok.bsz I.ok.above)
theorem Inv.stkSub (I:Inv X pins σ H s):∀b∈frs X.stack,b∈X.env.locals::X.fs:=fun b hb=>by
 rcases I.ok.stk with e|⟨e,hf⟩
 ·rw[e] at hb;exact List.mem_cons_of_mem _ hb
 ·rw[e] at hb
  unfold frs at hb
  rw[List.filterMap_cons,hf] at hb
  exact hb
theorem Inv.stkFree (I:Inv X pins σ H s):∀b∈frs X.stack,H b=none:=fun b hb=>by
 rcases List.mem_cons.mp (I.stkSub b hb) with e|hb
 ·rw[e];exact I.free
 ·obtain⟨_,o,ho,_⟩:=I.ok.funs.mem hb
  exact I.base.free b o ho (I.ok.frf b hb) fun z=>I.ok.exfs b z hb
theorem Inv.step {g':Array GenState} {t':Nat} {d':Drawn} {ch:List Addr} (I:Inv X pins σ H s)
  (hch:∀b∈ch,(b∈X.ex∨X.s_0.heap.objs.size≤b)∧b≠X.env.locals∧(∀x c,X.env.cells.lookup x=some c→c≠b)∧∀p∈X.pn++pins,p.1≠b)
  (keep:∀b o,b≠X.env.locals→b∉X.fs→b∉ch→s.heap.get? b=some o→H b=none→h'.get? b=some o)
  (slot:∀b o,b≠X.env.locals→b∈X.fs→b∉ch→s.heap.get? b=some o→H b=none→∃sl,h'.get? b=some {o with slots:=sl}) (free:∀b o,b∉ch→s.heap.get? b=some o→H b=none→H' b=none)
  (there:∀b o,b∉ch→s.heap.get? b=some o→∃o',h'.get? b=some o')
  (tups:∀b xs,H b=some (.tup xs)→H' b=some (.tup xs)) (frzs:∀b o u,H b=some (.frz o u)→H' b=some (.frz o u)) (tbls:∀b ps,H b=some (.tbl ps)→∃more,H' b=some (.tbl (ps++more)))
  (ns:∀m,s.heap.Ns X.env.locals m→h'.Ns X.env.locals m) (hok:HOk X.prog X.w H' h') (hg:AllBare g'):
  Inv X pins σ H' {s with heap:=h',gens:=g',drawn:=d',toks:=t'}:=by
 have neL:∀b o,X.s_0.heap.get? b=some o→b≠X.env.locals:=fun b o e=>Nat.ne_of_lt (Nat.lt_of_lt_of_le (Heap.lt_size e) I.ok.above)
 have neC:∀b o,X.s_0.heap.get? b=some o→b∉X.ex→b∉ch:=fun b o e hx hb=>by
  rcases(hch b hb).1 with z|z
  ·exact hx z
  ·exact absurd (Nat.lt_of_lt_of_le (Heap.lt_size e) z) (Nat.lt_irrefl _)
 have cellK:∀x c,X.env.cells.lookup x=some c→∀v,s.heap.IsCell c v→h'.IsCell c v:=fun x c e v ⟨o,ho,hd⟩=>by
  have nch:c∉ch:=fun z=>(hch c z).2.2.1 x c e rfl
  by_cases hc:c∈X.fs
  ·obtain⟨sl,q⟩:=slot c o (I.cne x c e) hc nch ho (I.freeC x c e)
   exact⟨_,q,hd⟩
  ·exact⟨o,keep c o (I.cne x c e) hc nch ho (I.freeC x c e),hd⟩
 refine⟨I.ok,I.os,hg,⟨fun b o e n hb hx=>?_,fun b o e n hb hx=>?_,fun b o e n hx=>?_,fun b o e hx=>?_,fun b xs e=>tups b xs (I.base.tups b xs e),fun b o xs e=>frzs b o xs (I.base.frzs b o xs e),fun b ps e=>?_⟩,?_,fun x c e=>?_,?_,fun x c e=>?_,fun p hp=>?_,hok,I.len⟩
 ·exact keep b o (neL b o e) hb (neC b o e hx) (I.base.keep b o e n hb hx) (I.base.free b o e n hx)
 ·obtain⟨sl,e1⟩:=I.base.slot b o e n hb hx
  obtain⟨sl',e2⟩:=slot b _ (neL b o e) hb (neC b o e hx) e1 (I.base.free b o e n hx)
  exact⟨sl',e2⟩
 ·obtain⟨o',e1⟩:=I.base.there b o e hx
  exact free b o' (neC b o e hx) e1 (I.base.free b o e n hx)
 ·obtain⟨o',e1⟩:=I.base.there b o e hx
  exact there b o' (neC b o e hx) e1
 ·obtain⟨m1,e1⟩:=I.base.tbls b ps e
  obtain⟨m2,e2⟩:=tbls b _ e1
  exact⟨m1++m2,by rw[e2,Array.append_assoc]⟩
 ·obtain⟨m,hn,hl⟩:=I.loc
  refine⟨m,ns m hn,fun i x v e1 e2 e3=>?_⟩
  obtain⟨u,r,l⟩:=hl i x v e1 e2 e3
  refine⟨u,r,?_⟩
  rcases l with l|⟨k,c,e,z⟩
  ·exact .inl l
  ·exact .inr ⟨k,c,e,cellK x c e _ z⟩
 ·obtain⟨v,z⟩:=I.cell x c e
  exact⟨v,cellK x c e v z⟩
 ·obtain⟨m,⟨o,_,_,ho,_⟩,_⟩:=I.loc
  exact free _ o (fun z=>(hch _ z).2.1 rfl) ho I.free
 ·obtain⟨v,o,ho,hd⟩:=I.cell x c e
  exact free c o (fun z=>(hch c z).2.2.1 x c e rfl) ho (I.freeC x c e)
 ·obtain⟨e,n,ne,nf,d⟩:=I.pin p hp
  have nch:p.1∉ch:=fun z=>(hch p.1 z).2.2.2 p hp rfl
  exact⟨keep p.1 p.2 ne nf nch e n,free p.1 p.2 nch e n,ne,nf,d⟩
theorem Inv.un {t':Nat} (I:Inv X pins σ H s) (u:Un X.fs [] H H' s.heap h') (hok:HOk X.prog X.w H' h'):Inv X pins σ H' {s with heap:=h',toks:=t'}:=by
 obtain⟨m,⟨o,es,ep,ho,r⟩,_⟩:=id I.loc
 obtain⟨sl,hL⟩:=u.any ho I.free (by simp)
 exact I.step (g':=s.gens) (d':=s.drawn) (ch:=[]) (fun _ z=>nomatch z) (fun b o _ hb _ e n=>u.keep b o e n hb (by simp)) (fun b o _ hb _ e n=>u.slot b o e n hb (by simp)) (fun b o _ e n=>u.free b o e n (by simp)) (fun b o _ e=>u.there b o e (by simp)) u.tups u.frzs u.tbls (fun m' hm=>by
  obtain⟨o',es',ep',ho',r'⟩:=hm
  rw[ho] at ho';cases ho'
  exact⟨_,es',ep',hL,r'⟩) hok I.bare
theorem Inv.call {g':Array GenState} {t':Nat} {d':Drawn} {ch:List Addr} (I:Inv X pins σ H s) (u:Un (frs X.stack) ch H H' s.heap h') (hok:HOk X.prog X.w H' h') (hg:AllBare g')
  (hch:∀b∈ch,(b∈X.ex∨X.s_0.heap.objs.size≤b)∧b≠X.env.locals∧(∀x c,X.env.cells.lookup x=some c→c≠b)∧∀p∈X.pn++pins,p.1≠b):
  Inv X pins σ H' {s with heap:=h',gens:=g',drawn:=d',toks:=t'}:=by
 obtain⟨m,⟨o,es,ep,ho,r⟩,_⟩:=id I.loc
 obtain⟨sl,hL⟩:=u.any ho I.free fun z=>(hch _ z).2.1 rfl
 exact I.step (ch:=ch) hch (fun b o hL hb hc e n=>u.keep b o e n (fun z=>(List.mem_cons.mp (I.stkSub b z)).elim hL hb) hc) (fun b o _ _ hc e n=>u.any e n hc) (fun b o hc e n=>u.free b o e n hc) (fun b o hc e=>u.there b o e hc) u.tups u.frzs u.tbls (fun m' hm=>by
  obtain⟨o',es',ep',ho',r'⟩:=hm
  rw[ho] at ho';cases ho'
  exact⟨_,es',ep',hL,r'⟩) hok hg
theorem Inv.turned {t':Nat} {it:Addr} (I:Inv X pins σ H s) (k:∀b o,b≠it→s.heap.get? b=some o→h'.get? b=some o) (hn:H it=none) (hL:it≠X.env.locals)
  (h1:it∈X.ex∨X.s_0.heap.objs.size≤it) (h2:∀x c,X.env.cells.lookup x=some c→c≠it) (h3:∀p∈X.pn++pins,p.1≠it):Inv X pins σ H {s with heap:=h',toks:=t'}:=by
 have nit:∀b u,H b=some u→b≠it:=fun b u e z=>by rw[z,hn] at e;cases e
 refine I.step (g':=s.gens) (d':=s.drawn) (ch:=[it]) (fun b hb=>?_) (fun b o _ _ hc e _=>k b o (fun z=>hc (by simp[z])) e) (fun b o _ _ hc e _=>⟨o.slots,k b o (fun z=>hc (by simp[z])) e⟩) (fun _ _ _ _ n=>n)
  (fun b o hc e=>⟨o,k b o (fun z=>hc (by simp[z])) e⟩) (fun _ _ e=>e) (fun _ _ _ e=>e) (fun b ps e=>⟨#[],by rw[e];simp⟩) (fun m hm=>?_) (fun b u e=>?_) I.bare
 ·have e:b=it:=by simpa using hb
  subst e
  exact⟨h1,hL,h2,h3⟩
 ·obtain⟨o,es,ep,ho,r⟩:=hm
  exact⟨o,es,ep,k _ o (Ne.symm hL) ho,r⟩
 ·refine(I.hok b u e).stay (fun c v hc q=>k c v ?_ q) (fun _ q=>q) fun _ _ q=>q
  rcases hc with z|z
  ·rw[z];exact nit b u e
  ·exact nit c _ z
theorem Inv.tok (I:Inv X pins σ H s) (t:Nat):Inv X pins σ H {s with toks:=t}:=I.un (h':=s.heap) (t':=t) Un.refl I.hok
theorem Inv.kept {t':Nat} (I:Inv X pins σ H s) (k:∀b u,s.heap.get? b=some u→h'.get? b=some u):Inv X pins σ H {s with heap:=h',toks:=t'}:=I.un (Un.kept k) (I.hok.kept k)
theorem Inv.laid {a:Addr} {o:HO} {t':Nat} (I:Inv X pins σ H s) (k:∀b u,s.heap.get? b=some u→h'.get? b=some u) (hp:s.heap.objs.size≤a) (new:YZ X.prog X.w (upd H a o) h' a o):
  Inv X pins σ (upd H a o) {s with heap:=h',toks:=t'}:=I.un (Un.laid k hp (I.hok.fresh hp)) (I.hok.laid k hp new)
theorem Inv.write {x e:Addr} {o:HO} {t':Nat} (I:Inv X pins σ H s) (mu:Mut (H x)) (he:e=x∨H e=some (.own x)) (k:∀b u,b≠e→s.heap.get? b=some u→h'.get? b=some u) (heo:∃u,h'.get? e=some u)
  (new:YZ X.prog X.w (upd H x o) h' x o):Inv X pins σ (upd H x o) {s with heap:=h',toks:=t'}:=I.un (Un.write mu he k heo) (I.hok.write mu he k heo new)
theorem Inv.weak {σ':List (Option V)} (I:Inv X pins σ H s) (hl:σ'.length=σ.length) (w:∀(i:Nat) v,σ'[i]? =some (some v)→σ[i]? =some (some v)):Inv X pins σ' H s:=
 ⟨I.ok,I.os,I.bare,I.base,let⟨m,hn,hl'⟩:=I.loc;⟨m,hn,fun i x v e1 e2 e3=>hl' i x v e1 (w i v e2) e3⟩,I.cell,I.free,I.freeC,I.pin,I.hok,hl.trans I.len⟩
theorem Inv.pins_of {pins':List (Addr×Obj)} (I:Inv X pins σ H s) (h:∀p∈pins',s.heap.get? p.1=some p.2∧H p.1=none∧p.1≠X.env.locals∧p.1∉X.fs∧∀v,p.2.data≠.cell v):Inv X pins' σ H s:=
 ⟨I.ok,I.os,I.bare,I.base,I.loc,I.cell,I.free,I.freeC,fun p hp=>(List.mem_append.mp hp).elim (fun z=>I.pin p (List.mem_append_left _ z)) (h p),I.hok,I.len⟩
theorem Jlc {N:List Str} (hN:N.Nodup) {i j:Nat} {x:Str} (a:N[i]? =some x) (b:N[j]? =some x):i=j:=by
 obtain⟨h1,e1⟩:=List.getElem?_eq_some_iff.mp a
 obtain⟨h2,e2⟩:=List.getElem?_eq_some_iff.mp b
 exact(List.getElem_inj hN).mp (e1.trans e2.symm)
theorem JmC {M:Model} {A:Around} {E:Value→Shared→Prop} {i:Nat} {x:Str} {v:V} {u:Value} {Q:Unit→Shared→Prop} (I:Inv X pins σ H s) (hN:X.N.Nodup) (hi:X.N[i]? =some x) (hx:Loc X.env.scope x) (r:JX v u)
  (h:∀s',Inv X pins (σ.set i (some v)) H s'→(∃a,Heap.SameBut a s.heap s'.heap∧(a=X.env.locals∨X.env.cells.lookup x=some a))→Q () s') (hf:X.fn x=true∨X.env.scope.names.lookup x=some .local:=by first|exact .inl rfl|exact .inr rfl|assumption):wpAny M A (storeName X.env x u) Q E s:=by
 obtain⟨m,hn,hl⟩:=id I.loc
 have hcls:(X.env.scope.kind== .class||(X.env.scope.kind== .module&&X.env.locals !=X.env.globals))=false:=by rw[I.ok.kind];rfl
 have hiσ:i<σ.length:=by rw[I.len];exact(List.getElem?_eq_some_iff.mp hi).1
 have cne:=I.cne
 have tracked:∀{a:Addr} {h':Heap},(∃o,s.heap.get? a=some o∧H a=none)→Heap.SameBut a s.heap h'→HOk X.prog X.w H h':=fun {a h'} ha hs b ob e=>by
  obtain⟨_,_,hfree⟩:=ha
  refine(I.hok b ob e).stay (fun c w' hc q=>(hs.2 c ?_).trans q) (fun _ q=>q) fun _ _ q=>q
  rintro rfl
  rcases hc with rfl|hc
  ·rw[hfree] at e;cases e
  ·rw[hfree] at hc;cases hc
 rcases hx with hk|hk
 ·refine wpAny_storeName_local hk hn (fun h' hn' hs=>?_) hcls
  obtain⟨oL,_,_,hoL,_⟩:=id hn
  refine h _ ⟨I.ok,I.os,I.bare,⟨fun b o e n hb hx=>?_,fun b o e n hb hx=>?_,I.base.free,fun b o e hx=>?_,I.base.tups,I.base.frzs,I.base.tbls⟩,⟨_,hn',fun j y v' e1 e2 e3=>?_⟩,fun y c e=>?_,I.free,I.freeC,fun p hp=>?_,tracked ⟨oL,hoL,I.free⟩ hs,by simpa using I.len⟩ ⟨_,hs,.inl rfl⟩
  ·exact(hs.2 b (Nat.ne_of_lt (Nat.lt_of_lt_of_le (Heap.lt_size e) I.ok.above))).trans (I.base.keep b o e n hb hx)
  ·obtain⟨sl,e1⟩:=I.base.slot b o e n hb hx
   exact⟨sl,(hs.2 b (Nat.ne_of_lt (Nat.lt_of_lt_of_le (Heap.lt_size e) I.ok.above))).trans e1⟩
  ·obtain⟨o',e1⟩:=I.base.there b o e hx
   exact⟨o',(hs.2 b (Nat.ne_of_lt (Nat.lt_of_lt_of_le (Heap.lt_size e) I.ok.above))).trans e1⟩
  ·by_cases hj:j=i
   ·subst hj
    rw[hi] at e1;cases e1
    rw[List.getElem?_set_self hiσ] at e2
    cases e2
    exact⟨u,r,.inl ⟨hk,by simp⟩⟩
   ·rw[List.getElem?_set_ne (Ne.symm hj)] at e2
    obtain⟨u',r',q⟩:=hl j y v' e1 e2 e3
    refine⟨u',r',?_⟩
    rcases q with⟨k,e⟩|⟨k,c,e,z⟩
    ·refine .inl ⟨k,?_⟩
     have:y≠x:=fun e=>hj (Jlc hN e1 (e▸hi))
     simp[this,e]
    ·exact .inr ⟨k,c,e,z.sameBut hs (cne y c e)⟩
  ·obtain⟨w',z⟩:=I.cell y c e
   exact⟨w',z.sameBut hs (cne y c e)⟩
  ·obtain⟨e,n,ne,nf,d⟩:=I.pin p hp
   exact⟨(hs.2 p.1 ne).trans e,n,ne,nf,d⟩
 ·have hfn:X.fn x=true:=by
   rcases hf with z|z
   ·exact z
   ·rw[z] at hk;cases hk
  obtain⟨c,hc⟩:=I.ok.has x (.inl hk)
  obtain⟨w',z⟩:=I.cell x c hc
  refine wpAny_storeName_cell I.ok.kind hk hc z (fun h' hc' hs=>?_)
  obtain⟨oc,hoc,hocd⟩:=id z
  refine h {s with heap:=h'} ⟨I.ok,I.os,I.bare,⟨fun b o e n hb hx=>?_,fun b o e n hb hx=>?_,I.base.free,fun b o e hx=>?_,I.base.tups,I.base.frzs,I.base.tbls⟩,⟨m,hn.sameBut hs (Ne.symm (cne x c hc)),fun j y v' e1 e2 e3=>?_⟩,fun y c' e=>?_,I.free,I.freeC,fun p hp=>?_,tracked ⟨oc,hoc,I.freeC x c hc⟩ hs,by simpa using I.len⟩ ⟨c,hs,.inr hc⟩
  ·exact(hs.2 b (Nat.ne_of_lt (Nat.lt_of_lt_of_le (Heap.lt_size e) (I.ok.cab x c hfn hc)))).trans (I.base.keep b o e n hb hx)
  ·obtain⟨sl,e1⟩:=I.base.slot b o e n hb hx
   exact⟨sl,(hs.2 b (Nat.ne_of_lt (Nat.lt_of_lt_of_le (Heap.lt_size e) (I.ok.cab x c hfn hc)))).trans e1⟩
  ·obtain⟨o',e1⟩:=I.base.there b o e hx
   exact⟨o',(hs.2 b (Nat.ne_of_lt (Nat.lt_of_lt_of_le (Heap.lt_size e) (I.ok.cab x c hfn hc)))).trans e1⟩
  ·by_cases hj:j=i
   ·subst hj
    rw[hi] at e1;cases e1
    rw[List.getElem?_set_self hiσ] at e2
    cases e2
    exact⟨u,r,.inr ⟨.inl hk,c,hc,hc'⟩⟩
   ·rw[List.getElem?_set_ne (Ne.symm hj)] at e2
    obtain⟨u',r',q⟩:=hl j y v' e1 e2 e3
    refine⟨u',r',?_⟩
    rcases q with q|⟨k,c',e,z'⟩
    ·exact .inl q
    ·refine .inr ⟨k,c',e,z'.sameBut hs ?_⟩
     rintro rfl
     exact hj (Jlc hN e1 (I.ok.inj _ _ _ e hc▸hi))
  ·by_cases hcc:c'=c
   ·subst hcc;exact⟨_,hc'⟩
   ·obtain⟨w2,z2⟩:=I.cell y c' e
    exact⟨w2,z2.sameBut hs hcc⟩
  ·obtain⟨e,n,ne,nf,d⟩:=I.pin p hp
   refine⟨(hs.2 p.1 ?_).trans e,n,ne,nf,d⟩
   intro q
   rw[q,hoc] at e
   have q':oc=p.2:=Option.some.inj e
   exact d w' (by rw[←q'];exact hocd)
theorem Jkz {M:Model} {A:Around} {E:Value→Shared→Prop} {i:Nat} {x:Str} {v:V} {u:Value} {Q:Unit→Shared→Prop} (I:Inv X pins σ H s) (hN:X.N.Nodup) (hi:X.N[i]? =some x) (hx:Loc X.env.scope x) (r:JX v u)
  (h:∀s',Inv X pins (σ.set i (some v)) H s'→Q () s') (hf:X.fn x=true∨X.env.scope.names.lookup x=some .local:=by first|exact .inl rfl|exact .inr rfl|assumption):wpAny M A (storeName X.env x u) Q E s:=
 JmC I hN hi hx r (fun s' I' _=>h s' I') hf
theorem Inv.call' {s':Shared} {ch:List Addr} (I:Inv X pins σ H s) (ho:s'.os=s.os) (u:Un (frs X.stack) ch H H' s.heap s'.heap) (hok:HOk X.prog X.w H' s'.heap) (hg:AllBare s'.gens)
  (hch:∀b∈ch,(b∈X.ex∨X.s_0.heap.objs.size≤b)∧b≠X.env.locals∧(∀x c,X.env.cells.lookup x=some c→c≠b)∧∀p∈X.pn++pins,p.1≠b):Inv X pins σ H' s':=by
 obtain⟨h',g',d',t',o'⟩:=s'
 have e:o'=s.os:=ho
 subst e
 exact I.call (g':=g') (t':=t') (d':=d') u hok hg hch
end
noncomputable abbrev XK:=Value→Option Addr→Hp→Prop
noncomputable abbrev St:=List (Option V)
noncomputable abbrev VK:=V→Hp→Prop
noncomputable abbrev TE:=St→Hp→VK→Prop
noncomputable abbrev TT:=St→Hp→(Bool→Hp→Prop)→Prop
noncomputable abbrev TA:=St→Hp→(List V→Hp→Prop)→Prop
structure JlQ where
 nx:St→Hp→Prop
 rt:VK
 bk:St→Hp→Prop:=fun _ _=>False
 ct:St→Hp→Prop:=fun _ _=>False
noncomputable abbrev TS:=JlQ→St→Hp→Prop
noncomputable def EP (X:Cx) (pins:List (Addr×Obj)) (σ:St) (Q:VK) (u:Value) (s':Shared):Prop:=∃v H',Inv X pins σ H' s'∧JX v u∧Q v H'
noncomputable def TP (X:Cx) (pins:List (Addr×Obj)) (σ:St) (Q:Bool→Hp→Prop) (b:Bool) (s':Shared):Prop:=∃H',Inv X pins σ H' s'∧Q b H'
noncomputable def AP (X:Cx) (pins:List (Addr×Obj)) (σ:St) (Q:List V→Hp→Prop) (us:List Value) (s':Shared):Prop:=∃vs H',Inv X pins σ H' s'∧JY vs us∧Q vs H'
noncomputable def SP (X:Cx) (pins:List (Addr×Obj)) (D:JlQ) (f:Flow) (s':Shared):Prop:=
 match f with
 | .next=>∃σ' H',Inv X pins σ' H' s'∧D.nx σ' H'
 | .brk=>∃σ' H',Inv X pins σ' H' s'∧D.bk σ' H'
 | .cont=>∃σ' H',Inv X pins σ' H' s'∧D.ct σ' H'
 | .ret u=>∃v σ' H',Inv X pins σ' H' s'∧JX v u∧D.rt v H'
noncomputable def PE (X:Cx) (e:Expr) (t:TE):Prop:=
 ∀(pins:List (Addr×Obj)) (s:Shared) (σ:St) (H:Hp) (Q:VK),Inv X pins σ H s→t σ H Q→wpAny (model X.prog X.w) X.A (eval e X.env) (EP X pins σ Q) X.xe s
noncomputable def PT (X:Cx) (e:Expr) (t:TT):Prop:=
 ∀(pins:List (Addr×Obj)) (s:Shared) (σ:St) (H:Hp) (Q:Bool→Hp→Prop),Inv X pins σ H s→t σ H Q→wpAny (model X.prog X.w) X.A (isTrue e X.env (eval e X.env)) (TP X pins σ Q) X.xe s
noncomputable def PW (X:Cx) (e:Expr) (t:TT):Prop:=
 ∀(whole:Sem Value) (pins:List (Addr×Obj)) (s:Shared) (σ:St) (H:Hp) (Q:Bool→Hp→Prop),Inv X pins σ H s→t σ H Q→wpAny (model X.prog X.w) X.A (isTrue e X.env whole) (TP X pins σ Q) X.xe s
theorem PW.pt {X:Cx} {e:Expr} {t:TT} (h:PW X e t):PT X e t:=h _
noncomputable def PA (X:Cx) (es:List Expr) (t:TA):Prop:=
 ∀(pos:Pos) (pins:List (Addr×Obj)) (s:Shared) (σ:St) (H:Hp) (Q:List V→Hp→Prop),Inv X pins σ H s→t σ H Q→wpAny (model X.prog X.w) X.A (spliced (backTo pos (starEach es X.env))) (AP X pins σ Q) X.xe s
noncomputable def PS (X:Cx) (st:Stmt) (t:TS):Prop:=
 ∀(pins:List (Addr×Obj)) (s:Shared) (σ:St) (H:Hp) (D:JlQ),Inv X pins σ H s→t D σ H→wpAny (model X.prog X.w) X.A (exec st X.env) (SP X pins D) X.xe s
noncomputable def PSs (X:Cx) (st:List Stmt) (t:TS):Prop:=
 ∀(pins:List (Addr×Obj)) (s:Shared) (σ:St) (H:Hp) (D:JlQ),Inv X pins σ H s→t D σ H→wpAny (model X.prog X.w) X.A (execs st X.env) (SP X pins D) X.xe s
theorem thn {α:Type} {t:Sem α} {Q Q':α→Shared→Prop} {M:Model} {A:Around} {E:Value→Shared→Prop} {s:Shared} (h:wpAny M A t Q E s) (hQ:∀a s,Q a s→Q' a s):wpAny M A t Q' E s:=wpAny_mono h hQ fun _ _ x=>x
end L2
namespace L2
open PySem PySem.Spec PyProof.Rows
section
variable {X:Cx}
noncomputable def Jnk (i:Nat):TE:=fun σ H Q=>∃v,σ[i]? =some (some v)∧Q v H
noncomputable def tC (v:V):TE:=fun _ H Q=>Q v H
theorem Jv4 {i:Nat} {x:Str} {pos:Pos} (hN:X.N[i]? =some x) (hv:Vis X.env.scope x) (hd:(x==("__debug__":Str))=false:=by decide) (hcd:(x==("__classdict__":Str))=false:=by decide):PE X (.Name x pos) (Jnk i):=by
 intro pins s σ H Q I h
 obtain⟨v,e,h⟩:=h
 obtain⟨m,hn,hl⟩:=I.loc
 obtain⟨u,r,l⟩:=hl i x v hN e hv
 have fin:EP X pins σ Q u s:=⟨v,H,I,r,h⟩
 rcases l with⟨hk,hm⟩|⟨hk,c,hc,hcell⟩
 ·exact wpAny_Name (wpAny_loadName_local I.ok.kind hk hn hm fin) hd
 ·rcases hk with hk|hk
  ·exact wpAny_Name (wpAny_loadName_cell I.ok.kind hk hc hcell fin) hd
  ·exact wpAny_Name (wpAny_loadName_free I.ok.kind hk hc hcell fin hcd) hd
theorem Jm {i j pos}:PE X (.Constant (.int i) j pos) (tC (.int i)):=fun _ _ _ H _ I h=>wpAny_Constant_int ⟨.int i,H,I.tok _,⟨_,rfl⟩,h⟩
theorem Jty {j pos}:PE X (.Constant .none j pos) (tC .non):=fun _ _ _ H _ I h=>Constant_none ⟨.non,H,I,rfl,h⟩
noncomputable def Gl (X:Cx) (x:Str):Prop:=X.env.kindOf x=some .globalImplicit
theorem Jke {E:Value→Shared→Prop} {pins:List (Addr×Obj)} {s:Shared} {σ:St} {H:Hp} {x:Str} {u:Value} {pos:Pos} {Q:Value→Shared→Prop} (I:Inv X pins σ H s) (hg:Gl X x) (hm:X.mg x=some u) (h:Q u s)
  (hd:(x==("__debug__":Str))=false:=by decide):wpAny (model X.prog X.w) X.A (eval (.Name x pos) X.env) Q E s:=
 Calls.Name_function_global I.ok.kind hg (Calls.loadGlobal_global (by rw[I.ok.glob];exact I.mod.glob.keeps I.bk) hm h) hd
theorem Jg1 {E:Value→Shared→Prop} {pins:List (Addr×Obj)} {s:Shared} {σ:St} {H:Hp} {x:Str} {u:Value} {pos:Pos} {Q:Value→Shared→Prop} (I:Inv X pins σ H s) (hg:Gl X x) (hm:X.mg x=none) (hv:bootBuiltins x=some u) (h:Q u s)
  (hn:x≠"__name__":=by decide) (hd:(x==("__debug__":Str))=false:=by decide):wpAny (model X.prog X.w) X.A (eval (.Name x pos) X.env) Q E s:=by
 obtain⟨mb,h1,h2⟩:=I.mod.blt
 exact Calls.Name_function_global I.ok.kind hg (Calls.loadGlobal_builtin (by rw[I.ok.glob];exact I.mod.glob.keeps I.bk) hm (by rw[I.ok.blt];exact h1.keeps I.bk) ((h2 x hn).trans hv) h) hd
theorem JuJ {x:Str} {v:V} {u:Value} {pos:Pos} (hg:Gl X x) (hm:X.mg x=some u) (r:JX v u) (hd:(x==("__debug__":Str))=false:=by decide):PE X (.Name x pos) (tC v):=
 fun _ _ _ H _ I h=>Jke I hg hm ⟨v,H,I,r,h⟩ hd
variable {a b:Expr} {ta tb:TE} {pos:Pos}
noncomputable def tB (t:TE):TT:=fun σ H Q=>t σ H fun x H1=>∃c,x=.bl c∧Q c H1
theorem VY {e:Expr} {t:TE} (h:PE X e t) (he:∀whole,isTrue e X.env whole=(do let v←whole;standAt e.pos;holding [v] (truthy v)):=by intro _;rfl):PT X e (tB t):=by
 intro pins s σ H Q I hw
 refine isTrue_plain (thn (h pins s σ H _ I hw) fun v s1 ⟨x,H1,I1,r1,q1⟩=>?_) (he _)
 obtain⟨d,rfl,q⟩:=q1
 cases r1
 exact wpAny_truthy_bool ⟨H1,I1,q⟩
variable {tA tB':TT} {rest:List Expr}
noncomputable def Jxl (t u:TT):TT:=fun σ H Q=>t σ H fun c H1=>if c=true then u σ H1 Q else Q false H1
noncomputable def tOr (t u:TT):TT:=fun σ H Q=>t σ H fun c H1=>if c=true then Q true H1 else u σ H1 Q
noncomputable def Jxh (t:TT):TT:=fun σ H Q=>t σ H fun c H1=>Q (!c) H1
theorem JnN (ha:PT X a tA):PW X (.BoolOp .And [a] pos) tA:=by
 intro wh pins s σ H Q I h
 refine isTrue_and (thn (ha pins s σ H Q I h) fun c s1 e=>?_)
 cases c with
 |true=>exact isTrue_and_nil e
 |false=>exact e
theorem JvZ (ha:PT X a tA):PW X (.BoolOp .Or [a] pos) tA:=by
 intro wh pins s σ H Q I h
 refine isTrue_or (thn (ha pins s σ H Q I h) fun c s1 e=>?_)
 cases c with
 |false=>exact isTrue_or_nil e
 |true=>exact e
theorem Jqt (ha:PT X a tA) (hb:PW X (.BoolOp .And (b::rest) pos) tB'):PW X (.BoolOp .And (a::b::rest) pos) (Jxl tA tB'):=by
 intro wh pins s σ H Q I h
 refine isTrue_and (thn (ha pins s σ H _ I h) fun c s1 ⟨H1,I1,q1⟩=>?_)
 cases c with
 |true=>exact hb wh pins s1 σ H1 Q I1 q1
 |false=>exact⟨H1,I1,q1⟩
theorem JvB (ha:PT X a tA) (hb:PW X (.BoolOp .Or (b::rest) pos) tB'):PW X (.BoolOp .Or (a::b::rest) pos) (tOr tA tB'):=by
 intro wh pins s σ H Q I h
 refine isTrue_or (thn (ha pins s σ H _ I h) fun c s1 ⟨H1,I1,q1⟩=>?_)
 cases c with
 |true=>exact⟨H1,I1,q1⟩
 |false=>exact hb wh pins s1 σ H1 Q I1 q1
theorem Jin (ha:PT X a tA):PT X (.UnaryOp .Not a pos) (Jxh tA):=by
 intro pins s σ H Q I h
 exact isTrue_not (ha pins s σ H (fun c H1=>Q (!c) H1) I h)
noncomputable def JwI (ta tb:TE):TE:=fun σ H Q=>ta σ H fun x H1=>∃c,x=.bl c∧if c=true then tb σ H1 Q else Q (.bl false) H1
theorem Jtx {op} {t:TE} (h:PE X a t):PE X (.BoolOp op [a] pos) t:=fun pins s σ H Q I hw=>BoolOp_one (h pins s σ H Q I hw)
theorem Jqv (ha:PE X a ta) (hb:PE X (.BoolOp .And (b::rest) pos) tb):PE X (.BoolOp .And (a::b::rest) pos) (JwI ta tb):=by
 intro pins s σ H Q I h
 refine BoolOp_and (thn (ha pins s σ H _ I h) fun v s1 ⟨x,H1,I1,r1,q1⟩=>?_)
 obtain⟨c,rfl,q1⟩:=q1
 cases r1
 refine wpAny_truthy_bool ?_
 cases c with
 |true=>exact hb pins s1 σ H1 Q I1 q1
 |false=>exact⟨.bl false,H1,I1,rfl,q1⟩
noncomputable def tIf (t:TT) (ta tb:TE):TE:=fun σ H Q=>t σ H fun c H1=>if c=true then ta σ H1 Q else tb σ H1 Q
theorem Jdo {c:Expr} (hc:PT X c tA) (ha:PE X a ta) (hb:PE X b tb):PE X (.IfExp c a b pos) (tIf tA ta tb):=by
 intro pins s σ H Q I h
 refine wpAny_IfExp (thn (hc pins s σ H _ I h) fun d s1 ⟨H1,I1,q1⟩=>?_)
 cases d with
 |true=>exact ha pins s1 σ H1 Q I1 q1
 |false=>exact hb pins s1 σ H1 Q I1 q1
end
end L2
namespace L2
open PySem PySem.Spec PyProof.Rows
noncomputable def SqL (K:PySem.W.Frag) (H:Hp) (a:Addr) (xs:List V):Prop:=
 Rd H a (.lst xs)∨
  ∃(o:Obj) (its:Array Value) (n:Nat),K.lookup a=some o∧o.cls=.type "list"∧o.dict=none∧o.data=.seq its n∧its.size≤sizeLine∧JY xs its.toList
noncomputable def SqT (K:PySem.W.Frag) (H:Hp) (a:Addr) (xs:List V):Prop:=
 Rd H a (.tup xs)∨
  ∃(o:Obj) (its:Array Value) (n:Nat),K.lookup a=some o∧o.cls=.type "tuple"∧o.data=.seq its n∧its.size≤sizeLine∧JY xs its.toList
noncomputable def JxA:Value→Option V
 | .none=>some .non
 | .bool b=>some (.bl b)
 | .int i _=>some (.int i)
 | .str x _=>some (.str x)
 | .bytes b _=>some (.byt b)
 | .float b _=>some (.flt b)
 | .ref a=>some (.ref a)
 | .type n=>some (.ty n)
 |_=>none
theorem JX.abs {x:V} {u:Value} (r:JX x u):JxA u=some x:=by
 cases x with
 |non=>cases r;rfl
 |bl _=>cases r;rfl
 |int _=>obtain⟨t,rfl⟩:=r;rfl
 |str _=>obtain⟨t,rfl⟩:=r;rfl
 |byt _=>obtain⟨t,rfl⟩:=r;rfl
 |flt _=>obtain⟨t,rfl⟩:=r;rfl
 |ref _=>cases r;rfl
 |ty _=>cases r;rfl
theorem JX.inj {x y:V} {u:Value} (r:JX x u) (q:JX y u):x=y:=Option.some.inj (r.abs.symm.trans q.abs)
theorem JY.inj:∀{xs ys:List V} {us:List Value},JY xs us→JY ys us→xs=ys
 |_,_,_,.nil,.nil=>rfl
 |_,_,_,.cons r t,.cons r' t'=>by rw[r.inj r',JY.inj t t']
section
variable {X:Cx} {pins:List (Addr×Obj)} {σ:St} {H:Hp} {s:Shared} {a:Addr} {xs ys:List V}
theorem SqL.of {K:PySem.W.Frag} (h:H a=some (.lst xs)):SqL K H a xs:=.inl (.inl h)
theorem SqT.of {K:PySem.W.Frag} (h:H a=some (.tup xs)):SqT K H a xs:=.inl (.inl h)
theorem Inv.list (I:Inv X pins σ H s) (h:SqL X.K H a xs):∃its:List Value,JY xs its∧PlainL s.heap a its.toArray∧xs.length≤sizeLine:=by
 rcases h with h|⟨o,its,n,hk,hc,hd,hs,hz,r⟩
 ·obtain⟨z,its,n,r,e⟩:=h.ok I.hok
  exact⟨its,r,⟨_,n,e,rfl,rfl,rfl⟩,z⟩
 ·refine⟨its.toList,r,⟨o,n,I.kIn a o hk,hc,hd,by simpa using hs⟩,?_⟩
  have e:=r.length
  simp only[Array.length_toList] at e
  omega
theorem Inv.tuple (I:Inv X pins σ H s) (h:SqT X.K H a xs):∃its:List Value,JY xs its∧IsTup s.heap a its.toArray∧xs.length≤sizeLine:=by
 rcases h with h|⟨o,its,n,hk,hc,hs,hz,r⟩
 ·obtain⟨z,its,r,p⟩:=h.ok I.hok
  exact⟨its,r,p,z⟩
 ·refine⟨its.toList,r,⟨o,I.kIn a o hk,hc,n,by simpa using hs⟩,?_⟩
  have e:=r.length
  simp only[Array.length_toList] at e
  omega
theorem Inv.list_inj (I:Inv X pins σ H s) (h:SqL X.K H a xs) (h':SqL X.K H a ys):xs=ys:=by
 obtain⟨its,r,⟨o,n,e,_,_,d⟩,_⟩:=I.list h
 obtain⟨its',r',⟨o',n',e',_,_,d'⟩,_⟩:=I.list h'
 rw[e] at e';cases e'
 rw[d] at d'
 injection d' with d1 _
 have:its=its':=by simpa using congrArg Array.toList d1
 subst this
 exact r.inj r'
theorem Inv.tuple_inj (I:Inv X pins σ H s) (h:SqT X.K H a xs) (h':SqT X.K H a ys):xs=ys:=by
 obtain⟨its,r,⟨o,e,_,n,d⟩,_⟩:=I.tuple h
 obtain⟨its',r',⟨o',e',_,n',d'⟩,_⟩:=I.tuple h'
 rw[e] at e';cases e'
 rw[d] at d'
 injection d' with d1 _
 have:its=its':=by simpa using congrArg Array.toList d1
 subst this
 exact r.inj r'
end
noncomputable abbrev Cx.wish (X:Cx) (E:Value→Shared→Prop):Cx:={X with xe:=E}
noncomputable abbrev Cx.nox (X:Cx):Cx:=X.wish fun _ _=>False
theorem Cx.Ok.wish {X:Cx} (ok:X.Ok) (E:Value→Shared→Prop):(X.wish E).Ok:=
 ⟨ok.mod,ok.kind,ok.glob,ok.blt,ok.above,ok.inj,ok.has,ok.cab,ok.hd,ok.frames,ok.stk,ok.exf,ok.bs,ok.bsz,ok.noex,ok.exfs,ok.funs,ok.frf⟩
theorem Cx.Ok.unwish {X:Cx} {E:Value→Shared→Prop} (ok:(X.wish E).Ok):X.Ok:=
 ⟨ok.mod,ok.kind,ok.glob,ok.blt,ok.above,ok.inj,ok.has,ok.cab,ok.hd,ok.frames,ok.stk,ok.exf,ok.bs,ok.bsz,ok.noex,ok.exfs,ok.funs,ok.frf⟩
section
variable {X:Cx} {pins:List (Addr×Obj)} {σ:St} {H:Hp} {s:Shared} {E:Value→Shared→Prop}
theorem Inv.wish (I:Inv X pins σ H s) (E:Value→Shared→Prop):Inv (X.wish E) pins σ H s:=⟨I.ok.wish E,I.os,I.bare,I.base,I.loc,I.cell,I.free,I.freeC,I.pin,I.hok,I.len⟩
theorem Inv.unwish (I:Inv (X.wish E) pins σ H s):Inv X pins σ H s:=⟨I.ok.unwish,I.os,I.bare,I.base,I.loc,I.cell,I.free,I.freeC,I.pin,I.hok,I.len⟩
theorem SP.unwish {D:JlQ} {f:Flow} {s':Shared} (h:SP (X.wish E) pins D f s'):SP X pins D f s':=by
 cases f with
 |next=>obtain⟨σ',H',I,q⟩:=h;exact⟨σ',H',I.unwish,q⟩
 |brk=>obtain⟨σ',H',I,q⟩:=h;exact⟨σ',H',I.unwish,q⟩
 |cont=>obtain⟨σ',H',I,q⟩:=h;exact⟨σ',H',I.unwish,q⟩
 |ret u=>obtain⟨v,σ',H',I,r,q⟩:=h;exact⟨v,σ',H',I.unwish,r,q⟩
theorem PSs.nox {st:List Stmt} {t:TS} (h:PSs X.nox st t):PSs X st t:=fun pins s σ H D I hw=>
 wpAny_mono (h pins s σ H D (I.wish _) hw) (fun _ _ q=>q.unwish) fun _ _ z=>False.elim z
end
section
variable {X:Cx} {st:Stmt} {rest:List Stmt} {t u:TS} {e:Expr} {te:TE} {pos:Pos}
noncomputable def Jvu:TS:=fun D σ H=>D.nx σ H
noncomputable def Jxf (t u:TS):TS:=fun D σ H=>t {D with nx:=u D} σ H
theorem JD:PSs X [] Jvu:=fun _ _ σ H _ I h=>wpAny_execs_nil ⟨σ,H,I,h⟩
theorem Jd (h1:PS X st t) (h2:PSs X rest u):PSs X (st::rest) (Jxf t u):=by
 intro pins s σ H D I h
 refine wpAny_execs_cons (thn (h1 pins s σ H {D with nx:=u D} I h) fun f s1 q=>?_)
 cases f with
 |next=>
  obtain⟨σ',H',I',q⟩:=q
  exact h2 pins s1 σ' H' D I' q
 |ret v=>exact q
 |brk=>exact q
 |cont=>exact q
theorem Jf (h1:PS X st t):PSs X [st] t:=by
 intro pins s σ H D I h
 refine wpAny_execs_cons (thn (h1 pins s σ H D I h) fun f s1 q=>?_)
 cases f with
 |next=>exact wpAny_execs_nil q
 |ret v=>exact q
 |brk=>exact q
 |cont=>exact q
theorem Inv.quiet {pins:List (Addr×Obj)} {σ:St} {H:Hp} {s:Shared} (I:Inv X pins σ H s):interactive X.env=false:=by simp[interactive,I.ok.kind]
noncomputable def JwG (te:TE):TS:=fun D σ H=>te σ H fun _ H1=>D.nx σ H1
theorem U4 (he:PE X e te) (hs:swapsWith e none pos.line X.env=pure false:=by rfl):PS X (.Expr e pos) (JwG te):=by
 intro pins s σ H D I h
 exact wpAny_Expr_any (thn (he pins s σ H _ I h) fun v s1 ⟨x,H1,I1,r1,q1⟩=>⟨σ,H1,I1,q1⟩) I.quiet hs
noncomputable def Jxg (te:TE):TS:=fun D σ H=>te σ H D.rt
theorem Jl (he:PE X e te):PS X (.Return (some e) pos) (Jxg te):=by
 intro pins s σ H D I h
 exact wpAny_Return_some (thn (he pins s σ H _ I h) fun v s1 ⟨x,H1,I1,r1,q1⟩=>⟨x,σ,H1,I1,r1,q1⟩)
noncomputable def JwF (c:TT) (t u:TS):TS:=fun D σ H=>c σ H fun b H1=>if b=true then t D σ H1 else u D σ H1
theorem Qa {c:Expr} {a b:List Stmt} {tc:TT} (hc:PT X c tc) (ha:PSs X a t) (hb:PSs X b u):PS X (.If c a b pos) (JwF tc t u):=by
 intro pins s σ H D I h
 refine wpAny_If (thn (hc pins s σ H _ I h) fun d s1 ⟨H1,I1,q1⟩=>?_)
 cases d with
 |true=>exact ha pins s1 σ H1 D I1 q1
 |false=>exact hb pins s1 σ H1 D I1 q1
end
noncomputable abbrev TG:=V→St→Hp→(St→Hp→Prop)→Prop
noncomputable abbrev TGs:=List V→St→Hp→(St→Hp→Prop)→Prop
noncomputable def PG (X:Cx) (target:Expr) (t:TG):Prop:=
 ∀(pins:List (Addr×Obj)) (s:Shared) (σ:St) (H:Hp) (v:V) (u:Value) (Q:St→Hp→Prop),Inv X pins σ H s→JX v u→t v σ H Q→
  wpAny (model X.prog X.w) X.A (assign target X.env u) (fun _ s'=>∃σ' H',Inv X pins σ' H' s'∧Q σ' H') X.xe s
noncomputable def PGs (X:Cx) (ts:List Expr) (t:TGs):Prop:=
 ∀(pins:List (Addr×Obj)) (s:Shared) (σ:St) (H:Hp) (vs:List V) (us:List Value) (Q:St→Hp→Prop),Inv X pins σ H s→JY vs us→t vs σ H Q→
  wpAny (model X.prog X.w) X.A (assignInOrder ((assignEach ts X.env).map (·.2)) us) (fun _ s'=>∃σ' H',Inv X pins σ' H' s'∧Q σ' H') X.xe s
noncomputable abbrev Juj:=V→V→V→Hp→(Hp→Prop)→Prop
noncomputable def Jwx (X:Cx) (t:Juj):Prop:=
 ∀(pins:List (Addr×Obj)) (s:Shared) (σ:St) (H:Hp) (o i v:V) (ov iv u:Value) (Q:Hp→Prop),Inv X pins σ H s→JX o ov→JX i iv→JX v u→t o i v H Q→
  wpAny (model X.prog X.w) X.A (setItem ov iv u) (fun _ s'=>∃H',Inv X pins σ H' s'∧Q H') X.xe s
noncomputable abbrev TIp:=V→V→Hp→VK→Prop
noncomputable def PIp (X:Cx) (op:Operator) (t:TIp):Prop:=
 ∀(pins:List (Addr×Obj)) (s:Shared) (σ:St) (H:Hp) (x y:V) (v u:Value) (Q:VK),Inv X pins σ H s→JX x v→JX y u→t x y H Q→
  wpAny (model X.prog X.w) X.A (inplaceOp op v u) (EP X pins σ Q) X.xe s
section
variable {X:Cx} {pos:Pos}
noncomputable def JmX (i:Nat):TG:=fun v σ H Q=>Q (σ.set i (some v)) H
theorem JuH {i:Nat} {x:Str} (hN:X.N.Nodup) (hi:X.N[i]? =some x) (hx:Loc X.env.scope x) (hf:X.fn x=true∨X.env.scope.names.lookup x=some .local:=by first|exact .inl rfl|exact .inr rfl|assumption):PG X (.Name x pos) (JmX i):=by
 intro pins s σ H v u Q I r h
 exact wpAny_assign_Name (Jkz I hN hi hx r (fun s' I'=>⟨_,H,I',h⟩) hf)
noncomputable def Jxu:TGs:=fun vs σ H Q=>vs=[]∧Q σ H
noncomputable def Jw2 (t:TG) (u:TGs):TGs:=fun vs σ H Q=>∃v r,vs=v::r∧t v σ H fun σ' H'=>u r σ' H' Q
theorem QQ:PGs X [] Jxu:=by
 intro pins s σ H vs us Q I r h
 obtain⟨e,h⟩:=h
 subst e
 cases r
 exact assignInOrder_nil ⟨σ,H,I,h⟩
theorem Jx {e:Expr} {es:List Expr} {t:TG} {u:TGs} (h1:PG X e t) (h2:PGs X es u)
  (hs:(assignEach (e::es) X.env).map (·.2)=assign e X.env::(assignEach es X.env).map (·.2):=by rfl):PGs X (e::es) (Jw2 t u):=by
 intro pins s σ H vs us Q I r h
 obtain⟨v,vr,e1,h⟩:=h
 subst e1
 cases r with
 |cons r rr=>
  rw[hs]
  refine assignInOrder_cons (thn (h1 pins s σ H _ _ _ I r h) fun _ s1 ⟨σ1,H1,I1,q1⟩=>?_)
  exact h2 pins s1 σ1 H1 _ _ Q I1 rr q1
noncomputable def Jwl (K:PySem.W.Frag) (n:Nat) (t:TGs):TG:=fun v σ H Q=>∃a xs,v=.ref a∧SqT K H a xs∧xs.length=n∧t xs σ H Q
theorem Jv3 {es:List Expr} {k:Nat} {t:TGs} {n:Nat} (hc:X.calm=true) (h:PGs X es t)
  (hn:(assignEach es X.env).length=n:=by rfl) (hst:(assignEach es X.env).findIdx? (·.1)=none:=by rfl):PG X (.Tuple es k pos) (Jwl X.K n t):=by
 intro pins s σ H v u Q I r hw
 obtain⟨a,xs,e1,hq,hl,hw⟩:=hw
 subst e1
 cases r
 obtain⟨its,rv,ht,hz⟩:=I.tuple hq
 refine assign_Tuple_tuple (I.ok.hd hc) ht (by simp[hn,←hl,rv.length]) hst fun h' hx=>?_
 have I1:Inv X pins σ H {s with heap:=h'}:=I.kept (t':=s.toks) fun b o e=>hx b o (Nat.ne_of_lt (Heap.lt_size e)) e
 exact h pins _ σ H xs _ Q I1 (by simpa using rv) hw
noncomputable def Jw1 (to ti:TE) (t:Juj):TG:=fun v σ H Q=>to σ H fun o H1=>ti σ H1 fun i H2=>t o i v H2 fun H3=>Q σ H3
theorem Jtw {o i:Expr} {to ti:TE} {t:Juj} (ho:PE X o to) (hi:PE X i ti) (hs:Jwx X t)
  (ha:∀v,assign (.Subscript o i pos) X.env v=(do
   let ov←holding [v] (eval o X.env)
   let iv←holding [v,ov] (eval i X.env)
   standAt pos
   holding [v,ov,iv] (setItem ov iv v)
   release [v,ov,iv] []):=by intro _;rfl):PG X (.Subscript o i pos) (Jw1 to ti t):=by
 intro pins s σ H v u Q I r h
 rw[ha]
 refine wpAny_bind (wpAny_holding (thn (ho pins s σ H _ I h) fun ov s1 ⟨x,H1,I1,r1,q1⟩=>?_))
 refine wpAny_bind (wpAny_holding (thn (hi pins s1 σ H1 _ I1 q1) fun iv s2 ⟨y,H2,I2,r2,q2⟩=>?_))
 refine wpAny_bind (wpAny_standAt (wpAny_bind (wpAny_holding (thn (hs pins s2 σ H2 x y v ov iv u _ I2 r1 r2 r q2) fun _ s3 ⟨H3,I3,q3⟩=>?_))))
 exact wpAny_release ⟨σ,H3,I3,q3⟩
noncomputable def Jti (te:TE) (g:TG):TS:=fun D σ H=>te σ H fun x H1=>g x σ H1 D.nx
theorem Jtt {tg e:Expr} {te:TE} {g:TG} (he:PE X e te) (hg:PG X tg g) (hs:swapsWithSole [tg] e pos.line X.env=pure false:=by rfl) (hw:swappedStores [tg] e X.env=pure none:=by rfl)
  (h1:(assignEach [tg] X.env).map (·.2)=[assign tg X.env]:=by rfl):PS X (.Assign [tg] e pos) (Jti te g):=by
 intro pins s σ H D I h
 refine wpAny_Assign_stores (thn (he pins s σ H _ I h) fun v s1 ⟨x,H1,I1,r1,q1⟩=>?_) hs hw
 rw[h1]
 exact thn (hg pins s1 σ H1 x v _ I1 r1 q1) fun _ s2 q=>q
theorem Jv0 {i:Nat} {x:Str} {e:Expr} {te:TE} {pos':Pos} (hN:X.N.Nodup) (hi:X.N[i]? =some x) (hx:Loc X.env.scope x) (he:PE X e te) (hs:swapsWith e (some (.Name x pos')) pos.line X.env=pure false:=by rfl) (hf:X.fn x=true∨X.env.scope.names.lookup x=some .local:=by first|exact .inl rfl|exact .inr rfl|assumption):
  PS X (.Assign [.Name x pos'] e pos) (Jti te (JmX i)):=by
 intro pins s σ H D I h
 refine wpAny_Assign_Name (thn (he pins s σ H _ I h) fun v s1 ⟨y,H1,I1,r1,q1⟩=>?_) hs
 exact Jkz I1 hN hi hx r1 (fun s2 I2=>⟨_,H1,I2,q1⟩) hf
noncomputable def Jxk (i:Nat) (te:TE) (ti:TIp):TS:=fun D σ H=>∃x,σ[i]? =some (some x)∧te σ H fun y H1=>ti x y H1 fun z H2=>D.nx (σ.set i (some z)) H2
theorem JeV {i:Nat} {x:Str} {e:Expr} {te:TE} {op:Operator} {ti:TIp} {pos':Pos} (hN:X.N.Nodup) (hi:X.N[i]? =some x) (hx:Loc X.env.scope x) (he:PE X e te) (ho:PIp X op ti) (hf:X.fn x=true∨X.env.scope.names.lookup x=some .local:=by first|exact .inl rfl|exact .inr rfl|assumption):
  PS X (.AugAssign (.Name x pos') op e pos) (Jxk i te ti):=by
 intro pins s σ H D I h
 obtain⟨v,e1,h⟩:=h
 obtain⟨m,hn,hl⟩:=I.loc
 have vis:Vis X.env.scope x:=by rcases hx with k|k;exact .inl k;exact .inr (.inl k)
 obtain⟨u,r,l⟩:=hl i x v hi e1 vis
 refine wpAny_AugAssign_Name ?_
 have go:wpAny (model X.prog X.w) X.A (eval e X.env) (fun w s₂=>wpAny (model X.prog X.w) X.A (inplaceOp op u w) (fun r s₃=>wpAny (model X.prog X.w) X.A (storeName X.env x r) (fun _=>SP X pins D .next) X.xe s₃) X.xe s₂) X.xe s:=by
  refine thn (he pins s σ H _ I h) fun w s1 ⟨y,H1,I1,r1,q1⟩=>?_
  refine thn (ho pins s1 σ H1 v y u w _ I1 r r1 q1) fun z s2 ⟨zv,H2,I2,r2,q2⟩=>?_
  exact Jkz I2 hN hi hx r2 (fun s3 I3=>⟨_,H2,I3,q2⟩) hf
 rcases l with⟨hk,hm⟩|⟨hk,c,hc,hcell⟩
 ·exact wpAny_loadName_local I.ok.kind hk hn hm go
 ·rcases hk with hk|hk
  ·exact wpAny_loadName_cell I.ok.kind hk hc hcell go
  ·rcases hx with k|k
   ·have:X.env.scope.names.lookup x=some .free:=hk
    rw[k] at this;cases this
   ·have:X.env.scope.names.lookup x=some .free:=hk
    rw[k] at this;cases this
noncomputable def JwH (to ti te:TE) (tget:V→V→Hp→VK→Prop) (tip:TIp) (tset:Juj):TS:=fun D σ H=>to σ H fun o H1=>ti σ H1 fun i H2=>tget o i H2 fun x H3=>te σ H3 fun y H4=>tip x y H4 fun z H5=>tset o i z H5 fun H6=>D.nx σ H6
noncomputable def Jwy (X:Cx) (t:V→V→Hp→VK→Prop):Prop:=
 ∀(pins:List (Addr×Obj)) (s:Shared) (σ:St) (H:Hp) (o i:V) (ov iv:Value) (Q:VK),Inv X pins σ H s→JX o ov→JX i iv→t o i H Q→
  wpAny (model X.prog X.w) X.A (getItem ov iv) (EP X pins σ Q) X.xe s
theorem Jrs {o i e:Expr} {to ti te:TE} {tget:V→V→Hp→VK→Prop} {tip:TIp} {tset:Juj} {op:Operator} {tpos:Pos} (ho:PE X o to) (hi:PE X i ti) (hg:Jwy X tget) (he:PE X e te) (hp:PIp X op tip) (hs:Jwx X tset)
  (ha:∀ov iv new,augStore i ov iv new=(do holding [new,ov,iv] (setItem ov iv new);release [new,ov,iv] [];pure .next):=by intros;rfl):PS X (.AugAssign (.Subscript o i tpos) op e pos) (JwH to ti te tget tip tset):=by
 intro pins s σ H D I h
 refine wpAny_AugAssign_SubscriptAny (thn (ho pins s σ H _ I h) fun ov s1 ⟨x1,H1,I1,r1,q1⟩=>?_) ha
 refine thn (hi pins s1 σ H1 _ I1 q1) fun iv s2 ⟨x2,H2,I2,r2,q2⟩=>?_
 refine thn (hg pins s2 σ H2 x1 x2 ov iv _ I2 r1 r2 q2) fun old s3 ⟨x3,H3,I3,r3,q3⟩=>?_
 refine thn (he pins s3 σ H3 _ I3 q3) fun v s4 ⟨x4,H4,I4,r4,q4⟩=>?_
 refine thn (hp pins s4 σ H4 x3 x4 old v _ I4 r3 r4 q4) fun new s5 ⟨x5,H5,I5,r5,q5⟩=>?_
 exact thn (hs pins s5 σ H5 x1 x2 x5 ov iv new _ I5 r1 r2 r5 q5) fun _ s6 ⟨H6,I6,q6⟩=>⟨σ,H6,I6,q6⟩
noncomputable def ipI (f:Int→Int→Int):TIp:=fun x y H Q=>∃i j,x=.int i∧y=.int j∧Q (.int (f i j)) H
theorem Jg4:PIp X .Add (ipI fun i j=>i+j):=by
 intro pins s σ H x y v u Q I r1 r2 h
 obtain⟨i,j,e1,e2,q⟩:=h
 subst e1;subst e2
 obtain⟨t,rfl⟩:=r1
 obtain⟨t',rfl⟩:=r2
 exact iadd_int ⟨.int _,H,I.tok _,⟨_,rfl⟩,q⟩
theorem JqM:PIp X .Sub (ipI fun i j=>i-j):=by
 intro pins s σ H x y v u Q I r1 r2 h
 obtain⟨i,j,e1,e2,q⟩:=h
 subst e1;subst e2
 obtain⟨t,rfl⟩:=r1
 obtain⟨t',rfl⟩:=r2
 exact isub_int ⟨.int _,H,I.tok _,⟨_,rfl⟩,q⟩
end
section
variable {X:Cx} {pos:Pos}
noncomputable def JvP (c:TT) (tb:TS):TS:=fun D σ H=>∃W:Nat→St→Hp→Prop,(∃m,W m σ H)∧∀m σ H,W m σ H→
 c σ H fun b H1=>if b=true then∃N:St→Hp→Prop,(∀σ' H',N σ' H'→∃m',m'<m∧W m' σ' H')∧tb {D with nx:=N,ct:=N,bk:=D.nx} σ H1 else D.nx σ H1
theorem Jo9 {c:Expr} {body:List Stmt} {tc:TT} {tb:TS} (hp:PassesOwn (model X.prog X.w) X.A X.env X.xe) (hc:PT X c tc) (hb:PSs X body tb):PS X (.While c body [] pos) (JvP tc tb):=by
 intro pins s σ H D I h
 obtain⟨W,⟨m0,w0⟩,turn⟩:=h
 refine wpAny_While (codeAny_whileLoop (fun n s'=>∃σ' H',Inv X pins σ' H' s'∧W n σ' H') ?_ m0 ⟨σ,H,I,w0⟩)
 rintro n s1 ⟨σ1,H1,I1,w1⟩
 refine wpAny_passesOwn hp (thn (hc pins s1 σ1 H1 _ I1 (turn n σ1 H1 w1)) fun b s2 ⟨H2,I2,q2⟩=>?_)
 cases b with
 |true=>
  obtain⟨N,hN,q2⟩:=q2
  rw[if_pos rfl]
  refine wpAny_passesOwn hp (thn (hb pins s2 σ1 H2 _ I2 q2) fun f s3 q3=>?_)
  cases f with
  |next=>
   obtain⟨σ3,H3,I3,n3⟩:=q3
   obtain⟨m',hm,w3⟩:=hN σ3 H3 n3
   exact⟨m',hm,σ3,H3,I3,w3⟩
  |cont=>
   obtain⟨σ3,H3,I3,n3⟩:=q3
   obtain⟨m',hm,w3⟩:=hN σ3 H3 n3
   exact⟨m',hm,σ3,H3,I3,w3⟩
  |brk=>exact q3
  |ret v=>exact q3
 |false=>
  rw[if_neg Bool.false_ne_true]
  exact wpAny_execs_nil ⟨σ1,H2,I2,q2⟩
end
structure It where
 go:Nat→Hp→Prop
 yld:Nat→Hp→V→Hp→Prop
 stop:Nat→Hp→Prop
noncomputable def Jj8 (X:Cx) (pins:List (Addr×Obj)) (H:Hp) (b:Addr):Prop:=
 H b=none∧b≠X.env.locals∧b∉X.fs∧(b∈X.ex∨X.s_0.heap.objs.size≤b)∧(∀x c,X.env.cells.lookup x=some c→c≠b)∧∀p∈X.pn++pins,p.1≠b
theorem Inv.fpOk {X:Cx} {pins:List (Addr×Obj)} {σ:St} {H H':Hp} {s:Shared} {b:Addr} (I:Inv X pins σ H s) (hb:s.heap.objs.size≤b) (hn:H' b=none):Jj8 X pins H' b:=by
 refine⟨hn,Nat.ne_of_gt (Nat.lt_of_lt_of_le I.lt hb),I.nofs hb,.inr (Nat.le_trans I.sz hb),fun x c e z=>?_,fun p hp z=>?_⟩
 ·obtain⟨v,q⟩:=I.cell x c e
  exact absurd (Nat.lt_of_lt_of_le q.lt (by rw[z];exact hb)) (Nat.lt_irrefl _)
 ·exact absurd (Nat.lt_of_lt_of_le (Heap.lt_size (I.pin p hp).1) (by rw[z];exact hb)) (Nat.lt_irrefl _)
structure JpO (P:Program) (w:World) (K:PySem.W.Frag) (tg:Expr) (J:It) (fp:List Addr) (it:Addr) (tn:Nat→Heap→Prop):Prop where
 mem:it∈fp
 obj:∀i h,tn i h→∀b∈fp,∃o,h.get? b=some o∧∀v,o.data≠.cell v
 keep:∀i h h',tn i h→(∀b∈fp,∀o,h.get? b=some o→h'.get? b=some o)→tn i h'
 item:∀(X:Cx),X.prog=P→X.w=w→X.K=K→X.calm=true→∀(i:Nat) (pins:List (Addr×Obj)) (s:Shared) (σ:St) (H:Hp) (E:Value→Shared→Prop),Inv X pins σ H s→(∀b∈fp,Jj8 X pins H b)→tn i s.heap→J.go i H→
  wpAny (model P w) X.A (pyNext (.ref it)) (fun r s1=>∃u,r=some u∧
   wpAny (model P w) X.A (letOwnedTupleGo tg (.ref it) u) (fun _ s2=>∃x H',Inv X pins σ H' s2∧JX x u∧J.yld i H x H'∧tn (i+1) s2.heap∧∀b∈fp,H' b=none) E s1) E s
 done:∀(X:Cx),X.prog=P→X.w=w→X.K=K→X.calm=true→∀(i:Nat) (pins:List (Addr×Obj)) (s:Shared) (σ:St) (H:Hp) (E:Value→Shared→Prop),Inv X pins σ H s→(∀b∈fp,Jj8 X pins H b)→tn i s.heap→J.stop i H→
  wpAny (model P w) X.A (pyNext (.ref it)) (fun r s1=>r=none∧Inv X pins σ H s1) E s
 self:∀(A:Around) (i:Nat) (s:Shared) (Q:Value→Shared→Prop) (E:Value→Shared→Prop),tn i s.heap→Q (.ref it) s→wpAny (model P w) A (pyIter (.ref it)) Q E s
noncomputable abbrev TI:=St→Hp→(It→Hp→Prop)→Prop
noncomputable def PIE (X:Cx) (pins:List (Addr×Obj)) (σ:St) (tg:Expr) (R:It→Hp→Prop) (itv:Value) (s2:Shared):Prop:=
 ∃(it:Addr) (fp:List Addr) (tn:Nat→Heap→Prop) (J:It) (H':Hp),itv=.ref it∧Inv X pins σ H' s2∧JpO X.prog X.w X.K tg J fp it tn∧tn 0 s2.heap∧(∀b∈fp,Jj8 X pins H' b)∧R J H'
noncomputable def PI (X:Cx) (tg iter:Expr) (wi:TI):Prop:=
 ∀(pins:List (Addr×Obj)) (s:Shared) (σ:St) (H:Hp) (R:It→Hp→Prop),Inv X pins σ H s→wi σ H R→
  wpAny (model X.prog X.w) X.A (eval iter X.env) (fun v s1=>wpAny (model X.prog X.w) X.A (pyIter v) (PIE X pins σ tg R) X.xe s1) X.xe s
theorem JtQ {M:Model} {A:Around} {E:Value→Shared→Prop} {s:Shared} {tg:Expr} {it:Addr} {u:Value} {o:Obj} {n:String} {vs:Array Value} {Q:Unit→Shared→Prop} (ho:s.heap.get? it=some o) (hc:o.cls=.type n) (hd:o.data=.fields vs)
  (hn:["enumerate","zip","dict_itemiterator","dict_reverseitemiterator","odict_iterator","itertools.zip_longest","itertools.pairwise"].contains n=false) (hQ:Q () s):wpAny M A (letOwnedTupleGo tg (.ref it) u) Q E s:=by
 unfold letOwnedTupleGo
 cases tg<;>first
  |exact wpAny_pure hQ
  |(cases u<;>first
    |exact wpAny_pure hQ
    |(refine wpAny_bind (wpAny_load ho ?_);rw[hc,hd];show wpAny M A (if(["enumerate","zip","dict_itemiterator","dict_reverseitemiterator","odict_iterator","itertools.zip_longest","itertools.pairwise"].contains n&&vs[0]? ==some (rawInt _))=true then _ else _) Q E s;rw[if_neg (by intro h;rw[hn,Bool.false_and] at h;cases h)];exact wpAny_pure hQ))
noncomputable def Itl (K:PySem.W.Frag) (a:Addr):It:=
 ⟨fun i H=>∃xs x,SqL K H a xs∧xs[i]? =some x,fun i H x H'=>H'=H∧∀xs,SqL K H a xs→xs[i]? =some x,fun i H=>∃xs,SqL K H a xs∧xs.length≤i⟩
noncomputable def Itr (lo:Int) (n:Nat):It:=⟨fun i _=>i<n,fun i H x H'=>H'=H∧x=.int (lo+i),fun i _=>n≤i⟩
theorem Jr3 {P:Program} {w:World} {K:PySem.W.Frag} {tg:Expr} (a it:Addr):JpO P w K tg (Itl K a) [it] it (fun i h=>h.IsListIter it a i) where
 mem:=by simp
 obj:=fun i h st b hb=>by
  have e:b=it:=by simpa using hb
  subst e
  obtain⟨o,e,c,d⟩:=st
  exact⟨o,e,fun v z=>by rw[d] at z;cases z⟩
 keep:=fun i h h' st k=>st.at fun o e=>k it (by simp) o e
 item:=by
  intro X hP hw hK hc i pins s σ H E I hf st hg
  subst hP hw hK
  obtain⟨xs,x,hq,hx⟩:=hg
  obtain⟨its,rv,p,hz⟩:=I.list hq
  obtain⟨u,hu,ru⟩:=rv.get hx
  obtain⟨f0,f1,f2,f3,f4,f5⟩:=hf it (by simp)
  refine wpAny_pyNext_list_item st p.isList (x:=u) (by simpa using hu) fun h' st' sb=>?_
  have I1:Inv X pins σ H {s with heap:=h'}:=I.turned (t':=s.toks) (fun b o hb e=>(sb.2 b hb).trans e) f0 f1 f3 f4 f5
  obtain⟨o,e,c,d⟩:=id st'
  exact⟨u,rfl,JtQ (s:={s with heap:=h'}) e c d (by decide) ⟨x,H,I1,ru,⟨rfl,fun ys hy=>by rw[I.list_inj hy hq];exact hx⟩,st',fun b hb=>(hf b hb).1⟩⟩
 done:=by
  intro X hP hw hK hc i pins s σ H E I hf st hg
  subst hP hw hK
  obtain⟨xs,hq,hx⟩:=hg
  obtain⟨its,rv,p,hz⟩:=I.list hq
  obtain⟨f0,f1,f2,f3,f4,f5⟩:=hf it (by simp)
  have hl:=rv.length
  exact wpAny_pyNext_list_end (I.ok.hd hc) st p.isList (by simp;omega) fun h' eb=>⟨rfl,I.turned (t':=s.toks) (fun b o hb e=>eb b o hb e) f0 f1 f3 f4 f5⟩
 self:=fun _ _ _ _ _ st h=>wpAny_pyIter_listiter st h
theorem Jp6 {P:Program} {w:World} {K:PySem.W.Frag} {tg:Expr} (it:Addr) (lo:Int) (n:Nat):JpO P w K tg (Itr lo n) [it] it (fun i h=>IsRangeIter h it (lo+(i:Nat)*1) ((n:Int)-(i:Nat)) 1) where
 mem:=by simp
 obj:=fun i h st b hb=>by
  have e:b=it:=by simpa using hb
  subst e
  exact⟨_,st,fun v z=>by
   have z':Data.fields _=Data.cell v:=z
   cases z'⟩
 keep:=fun i h h' st k=>k it (by simp) _ st
 item:=by
  intro X hP hw hK hc i pins s σ H E I hf st hg
  subst hP hw hK
  obtain⟨f0,f1,f2,f3,f4,f5⟩:=hf it (by simp)
  have W:=Walks.range (prog:=X.prog) (w:=X.w) (I.ok.hd hc) it lo 1 n
  refine W.item i s _ _ hg st fun v h' tk hv st' kk=>?_
  obtain⟨t,rfl⟩:=hv
  have I1:Inv X pins σ H {s with heap:=h',toks:=tk}:=I.turned (fun b o hb e=>kk b o (by simpa using hb) e) f0 f1 f3 f4 f5
  refine⟨_,rfl,JtQ (s:={s with heap:=h',toks:=tk}) (n:="range_iterator") st' rfl rfl (by decide) ⟨.int (lo+i),H,I1,⟨t,?_⟩,⟨rfl,rfl⟩,st',fun b hb=>(hf b hb).1⟩⟩
  rw[Int.mul_one]
 done:=by
  intro X hP hw hK hc i pins s σ H E I hf st hg
  subst hP hw hK
  obtain⟨f0,f1,f2,f3,f4,f5⟩:=hf it (by simp)
  exact wpAny_pyNext_range_end (I.ok.hd hc) st (by have:n≤i:=hg;omega) fun h' eb=>⟨rfl,I.turned (t':=s.toks) (fun b o hb e=>eb b o hb e) f0 f1 f3 f4 f5⟩
 self:=fun _ _ _ _ _ st h=>wpAny_pyIter_rangeiter st h
end L2
namespace L2
open PySem PySem.Spec PyProof.Rows
section
variable {X:Cx} {tg:Expr}
noncomputable def JwY (K:PySem.W.Frag) (tl:TE):TI:=fun σ H R=>tl σ H fun x H1=>∃a,x=.ref a∧(∃xs,SqL K H1 a xs)∧R (Itl K a) H1
theorem Qi {l:Expr} {tl:TE} (hl:PE X l tl):PI X tg l (JwY X.K tl):=by
 intro pins s σ H R I h
 refine thn (hl pins s σ H _ I h) fun v s1 ⟨x,H1,I1,r1,q1⟩=>?_
 obtain⟨a,e,⟨xs,hq⟩,q⟩:=q1
 subst e
 cases r1
 obtain⟨its,rv,p,hz⟩:=I1.list hq
 refine wpAny_pyIter_list p.isList ?_
 refine⟨s1.heap.objs.size,[s1.heap.objs.size],_,_,H1,rfl,I1.kept (t':=s1.toks) fun b o e=>Heap.get?_push_of_some _ e,Jr3 a _,⟨_,Heap.get?_push_size _ rfl,rfl,rfl⟩,fun b hb=>?_,q⟩
 have e:b=s1.heap.objs.size:=by simpa using hb
 subst e
 exact I1.fpOk (Nat.le_refl _) (I1.hok.fresh (Nat.le_refl _))
theorem Jtr {pins:List (Addr×Obj)} {σ:St} {H:Hp} {s:Shared} {R:It→Hp→Prop} {E:Value→Shared→Prop} {lo hi:Int} {t u v:Tok} {tk:Nat} (I:Inv X pins σ H s) (h1:-(2^62)≤lo) (h2:lo<2^62) (h3:-(2^62)≤hi) (h4:hi<2^62)
  (q:R (Itr lo (hi-lo).toNat) H):wpAny (model X.prog X.w) X.A (pyIter (.ref s.heap.objs.size)) (PIE X pins σ tg R) E {s with heap:=s.heap.push {cls:=.type "range",data:=.fields #[.int lo t,.int hi u,.int 1 v]},toks:=tk}:=by
 refine wpAny_pyIter_range (IsRange.new ..) (small_one h1 h2 h3 h4) ?_
 have I1:Inv X pins σ H {s with heap:=s.heap.push {cls:=.type "range",data:=.fields #[.int lo t,.int hi u,.int 1 v]},toks:=tk}:=I.kept fun b o e=>Heap.get?_push_of_some _ e
 refine⟨(s.heap.push {cls:=.type "range",data:=.fields #[.int lo t,.int hi u,.int 1 v]}).objs.size,[(s.heap.push {cls:=.type "range",data:=.fields #[.int lo t,.int hi u,.int 1 v]}).objs.size],_,_,H,rfl,
  I1.kept (t':=tk) fun b o e=>Heap.get?_push_of_some _ e,Jp6 _ lo (hi-lo).toNat,?_,fun b hb=>?_,q⟩
 ·have e1:lo+((0:Nat):Int)*1=lo:=by simp
  have e2:(((hi-lo).toNat:Nat):Int)-((0:Nat):Int)=Builtin.Range.rangeSize lo hi 1:=by rw[rangeSize_one];split<;>omega
  show IsRangeIter _ _ (lo+((0:Nat):Int)*1) ((((hi-lo).toNat:Nat):Int)-((0:Nat):Int)) 1
  rw[e1,e2]
  exact Heap.get?_push_size _ rfl
 ·have e:b=(s.heap.push {cls:=.type "range",data:=.fields #[.int lo t,.int hi u,.int 1 v]}).objs.size:=by simpa using hb
  subst e
  exact I1.fpOk (Nat.le_refl _) (I1.hok.fresh (Nat.le_refl _))
noncomputable def JwX (ta:TA):TI:=fun σ H R=>ta σ H fun vs H1=>∃j:Int,vs=[.int j]∧-(2^62)≤j∧j<2^62∧R (Itr 0 j.toNat) H1
theorem Jdm {a:Expr} {ta:TA} {p pos:Pos} (hg:Gl X "range") (hm:X.mg "range"=none) (ha:PA X [a] ta) (hs:starEach [a] X.env=[(false,eval a X.env)]:=by rfl):PI X tg (.Call (.Name "range" p) [a] [] pos) (JwX ta):=by
 intro pins s σ H R I h
 refine Call_ (Jg1 I hg hm boot_range (PyProof.Rows.callWith_type1 (thn (ha pos pins s σ H _ I h) fun us s1 ⟨vs,H1,I1,r1,q1⟩=>?_) hs rfl))
 obtain⟨j,e,q1,q2,q⟩:=q1
 subst e
 cases r1 with
 |cons r rr=>
  cases rr
  obtain⟨t,rfl⟩:=r
  exact call_range_1 (Jtr I1 (by omega) (by omega) q1 q2 (by simpa using q))
noncomputable def Jxj (wi:TI) (g:TG) (tb:TS):TS:=fun D σ H=>wi σ H fun J H1=>∃W:Nat→Nat→St→Hp→Prop,(∃m,W 0 m σ H1)∧∀i m σ H,W i m σ H→
 (J.stop i H∧D.nx σ H)∨(J.go i H∧∃N:St→Hp→Prop,(∀σ' H',N σ' H'→∃m',m'<m∧W (i+1) m' σ' H')∧∀x H',J.yld i H x H'→g x σ H' fun σ2 H2=>tb {D with nx:=N,ct:=N,bk:=D.nx} σ2 H2)
noncomputable def Jk1 (fp:List Addr) (h:Heap):List (Addr×Obj):=fp.filterMap fun b=>(h.get? b).map fun o=>(b,o)
theorem JgY {fp:List Addr} {h:Heap} {b:Addr} {o:Obj} (hb:b∈fp) (e:h.get? b=some o):(b,o)∈Jk1 fp h:=List.mem_filterMap.mpr ⟨b,hb,by rw[e];rfl⟩
theorem Jss {fp:List Addr} {h:Heap} {p:Addr×Obj} (hp:p∈Jk1 fp h):p.1∈fp∧h.get? p.1=some p.2:=by
 obtain⟨b,hb,e⟩:=List.mem_filterMap.mp hp
 cases q:h.get? b with
 |none=>rw[q] at e;cases e
 |some o=>
  rw[q] at e
  have e':(b,o)=p:=Option.some.inj e
  subst e'
  exact⟨hb,q⟩
theorem Inv.pinned {pins:List (Addr×Obj)} {σ:St} {H:Hp} {s:Shared} {fp:List Addr} (I:Inv X pins σ H s) (hf:∀b∈fp,Jj8 X pins H b) (ho:∀b∈fp,∃o,s.heap.get? b=some o∧∀v,o.data≠.cell v):Inv X (pins++Jk1 fp s.heap) σ H s:=
 I.pins_of fun p hp=>(List.mem_append.mp hp).elim (fun z=>I.pin p (List.mem_append_right _ z)) fun z=>by
  obtain⟨hb,e⟩:=Jss z
  obtain⟨f0,f1,f2,_⟩:=hf p.1 hb
  obtain⟨o,e',d⟩:=ho p.1 hb
  rw[e] at e';cases e'
  exact⟨e,f0,f1,f2,d⟩
theorem Inv.unpinned {pins pl:List (Addr×Obj)} {σ:St} {H:Hp} {s:Shared} (I:Inv X (pins++pl) σ H s):Inv X pins σ H s:=I.pins_of fun p hp=>I.pin p (List.mem_append_right _ (List.mem_append_left _ hp))
theorem U3 {iter:Expr} {body:List Stmt} {wi:TI} {g:TG} {tb:TS} {pos:Pos} (hp:PassesOwn (model X.prog X.w) X.A X.env X.xe) (hc:X.calm=true) (hi:PI X tg iter wi) (hg:PG X tg g) (hb:PSs X body tb)
  (hs:∀x,foldedSetIterable iter X.env x=pure x:=by intro _;rfl):PS X (.For tg iter body [] pos) (Jxj wi g tb):=by
 intro pins s σ H D I h
 refine wpAny_For (thn (hi pins s σ H _ I h) fun v s1 h1=>thn h1 fun itv s2 h2=>?_) hs
 obtain⟨it,fp,tn,J,H2,e,I2,T,st2,f2,W,⟨m0,w0⟩,turn⟩:=h2
 subst e
 have stat:∀{H':Hp},(∀b∈fp,H' b=none)→∀b∈fp,Jj8 X pins H' b:=fun hn b hb=>⟨hn b hb,(f2 b hb).2⟩
 refine codeAny_forLoop_any (fun n s'=>∃i σ' H',Inv X pins σ' H' s'∧tn i s'.heap∧(∀b∈fp,H' b=none)∧W i n σ' H') ?_ m0 ⟨0,σ,H2,I2,st2,fun b hb=>(f2 b hb).1,w0⟩
 rintro n s3 ⟨i,σ3,H3,I3,st3,fr3,w3⟩
 rcases turn i n σ3 H3 w3 with⟨stop,qn⟩|⟨go,N,hN,step⟩
 ·refine wpAny_passesOwn hp (thn (T.done X rfl rfl rfl hc i pins s3 σ3 H3 X.xe I3 (stat fr3) st3 stop) fun r s4 ⟨hr,I4⟩=>?_)
  subst hr
  exact wpAny_execs_nil ⟨σ3,H3,I4,qn⟩
 ·refine wpAny_passesOwn hp (thn (T.item X rfl rfl rfl hc i pins s3 σ3 H3 X.xe I3 (stat fr3) st3 go) fun r s4 ⟨u,hr,h4⟩=>?_)
  subst hr
  refine wpAny_passesOwn hp (thn h4 fun _ s5 ⟨x,H5,I5,r5,y5,st5,fr5⟩=>?_)
  have I5':=I5.pinned (stat fr5) (T.obj _ _ st5)
  refine wpAny_passesOwn hp (thn (hg _ s5 σ3 H5 x u _ I5' r5 (step x H5 y5)) fun _ s6 ⟨σ6,H6,I6,q6⟩=>?_)
  refine wpAny_passesOwn hp (thn (hb _ s6 σ6 H6 _ I6 q6) fun f s7 q7=>?_)
  have again:∀{σ7:St} {H7:Hp},Inv X (pins++Jk1 fp s5.heap) σ7 H7 s7→N σ7 H7→∃m,m<n∧∃i σ' H',Inv X pins σ' H' s7∧tn i s7.heap∧(∀b∈fp,H' b=none)∧W i m σ' H':=fun {σ7 H7} I7 n7=>by
   obtain⟨m',hm,w7⟩:=hN σ7 H7 n7
   refine⟨m',hm,i+1,σ7,H7,I7.unpinned,T.keep _ _ _ st5 fun b hb o e=>(I7.pin (b,o) (List.mem_append_right _ (List.mem_append_right _ (JgY hb e)))).1,fun b hb=>?_,w7⟩
   obtain⟨o,e,d⟩:=T.obj _ _ st5 b hb
   exact(I7.pin (b,o) (List.mem_append_right _ (List.mem_append_right _ (JgY hb e)))).2.1
  cases f with
  |next=>obtain⟨σ7,H7,I7,n7⟩:=q7;exact again I7 n7
  |cont=>obtain⟨σ7,H7,I7,n7⟩:=q7;exact again I7 n7
  |brk=>obtain⟨σ7,H7,I7,q7⟩:=q7;exact⟨σ7,H7,I7.unpinned,q7⟩
  |ret v=>obtain⟨x7,σ7,H7,I7,r7,q7⟩:=q7;exact⟨x7,σ7,H7,I7.unpinned,r7,q7⟩
end
theorem JaN {K:PySem.W.Frag} {a:Addr} {xs:List V} {g:TG} {tb:TS} {D:JlQ} {σ:St} {H:Hp} (Pv:Nat→St→Hp→Prop) (h0:Pv 0 σ H) (hl:∀i σ H,i≤xs.length→Pv i σ H→SqL K H a xs)
  (hs:∀i x σ H,xs[i]? =some x→Pv i σ H→g x σ H fun σ2 H2=>tb {D with nx:=Pv (i+1),ct:=Pv (i+1),bk:=D.nx} σ2 H2) (hd:∀σ H,Pv xs.length σ H→D.nx σ H):
  ∃W:Nat→Nat→St→Hp→Prop,(∃m,W 0 m σ H)∧∀i m σ H,W i m σ H→
   ((Itl K a).stop i H∧D.nx σ H)∨((Itl K a).go i H∧∃N:St→Hp→Prop,(∀σ' H',N σ' H'→∃m',m'<m∧W (i+1) m' σ' H')∧∀x H',(Itl K a).yld i H x H'→g x σ H' fun σ2 H2=>tb {D with nx:=N,ct:=N,bk:=D.nx} σ2 H2):=by
 refine⟨fun i m σ H=>m=xs.length-i∧i≤xs.length∧Pv i σ H,⟨xs.length,by simp,Nat.zero_le _,h0⟩,?_⟩
 rintro i m σ H ⟨rfl,hi,p⟩
 have q:=hl i σ H hi p
 by_cases hlt:i<xs.length
 ·refine .inr ⟨⟨xs,xs[i],q,by simp[hlt]⟩,Pv (i+1),fun σ' H' p'=>⟨xs.length-(i+1),by omega,rfl,hlt,p'⟩,fun x H' y=>?_⟩
  obtain⟨e,y⟩:=y
  subst e
  exact hs i x σ _ (y xs q) p
 ·have e:i=xs.length:=by omega
  subst e
  exact .inl ⟨⟨xs,q,Nat.le_refl _⟩,hd σ H p⟩
theorem JfU {lo:Int} {n:Nat} {g:TG} {tb:TS} {D:JlQ} {σ:St} {H:Hp} (Pv:Nat→St→Hp→Prop) (h0:Pv 0 σ H)
  (hs:∀i σ H,i<n→Pv i σ H→g (.int (lo+i)) σ H fun σ2 H2=>tb {D with nx:=Pv (i+1),ct:=Pv (i+1),bk:=D.nx} σ2 H2) (hd:∀σ H,Pv n σ H→D.nx σ H):
  ∃W:Nat→Nat→St→Hp→Prop,(∃m,W 0 m σ H)∧∀i m σ H,W i m σ H→
   ((Itr lo n).stop i H∧D.nx σ H)∨((Itr lo n).go i H∧∃N:St→Hp→Prop,(∀σ' H',N σ' H'→∃m',m'<m∧W (i+1) m' σ' H')∧∀x H',(Itr lo n).yld i H x H'→g x σ H' fun σ2 H2=>tb {D with nx:=N,ct:=N,bk:=D.nx} σ2 H2):=by
 refine⟨fun i m σ H=>m=n-i∧i≤n∧Pv i σ H,⟨n,by simp,Nat.zero_le _,h0⟩,?_⟩
 rintro i m σ H ⟨rfl,hi,p⟩
 by_cases hlt:i<n
 ·refine .inr ⟨hlt,Pv (i+1),fun σ' H' p'=>⟨n-(i+1),by omega,rfl,hlt,p'⟩,fun x H' y=>?_⟩
  obtain⟨e,y⟩:=y
  subst e y
  exact hs i σ _ hlt p
 ·have e:i=n:=by omega
  subst e
  exact .inl ⟨Nat.le_refl _,hd σ H p⟩
end L2
namespace L2
open PySem PySem.Spec PyProof.Rows
noncomputable abbrev R2:=V→V→Hp→VK→Prop
noncomputable def OpR (X:Cx) (f:Value→Value→Sem Value) (r:R2):Prop:=
 ∀(pins:List (Addr×Obj)) (s:Shared) (σ:St) (H:Hp) (x y:V) (v u:Value) (Q:VK),Inv X pins σ H s→JX x v→JX y u→r x y H Q→
  wpAny (model X.prog X.w) X.A (f v u) (EP X pins σ Q) X.xe s
noncomputable def UnR (X:Cx) (f:Value→Sem Value) (r:V→Hp→VK→Prop):Prop:=
 ∀(pins:List (Addr×Obj)) (s:Shared) (σ:St) (H:Hp) (x:V) (v:Value) (Q:VK),Inv X pins σ H s→JX x v→r x H Q→
  wpAny (model X.prog X.w) X.A (f v) (EP X pins σ Q) X.xe s
noncomputable def VV (X:Cx) (f:Value) (r:List V→Hp→VK→Prop):Prop:=
 ∀(pins:List (Addr×Obj)) (s:Shared) (σ:St) (H:Hp) (xs:List V) (us:List Value) (Q:VK),Inv X pins σ H s→JY xs us→r xs H Q→
  wpAny (model X.prog X.w) X.A (call f us) (EP X pins σ Q) X.xe s
noncomputable def JxC (X:Cx) (r:V→Hp→(Bool→Hp→Prop)→Prop):Prop:=
 ∀(pins:List (Addr×Obj)) (s:Shared) (σ:St) (H:Hp) (x:V) (v:Value) (Q:Bool→Hp→Prop),Inv X pins σ H s→JX x v→r x H Q→
  wpAny (model X.prog X.w) X.A (truthy v) (TP X pins σ Q) X.xe s
noncomputable def tOp (r:R2) (ta tb:TE):TE:=fun σ H Q=>ta σ H fun x H1=>tb σ H1 fun y H2=>r x y H2 Q
noncomputable def tUn (r:V→Hp→VK→Prop) (ta:TE):TE:=fun σ H Q=>ta σ H fun x H1=>r x H1 Q
noncomputable def rI (C:Int→Int→Prop) (g:Int→Int→V):R2:=fun x y H Q=>∃i j,x=.int i∧y=.int j∧C i j∧Q (g i j) H
noncomputable def rI0 (g:Int→Int→V):R2:=fun x y H Q=>∃i j,x=.int i∧y=.int j∧Q (g i j) H
noncomputable def rU (g:Int→V):V→Hp→VK→Prop:=fun x H Q=>∃i,x=.int i∧Q (g i) H
section
variable {X:Cx} {a b c:Expr} {ta tb tc:TE} {pos:Pos}
theorem Jwr (ha:PE X a ta) (hb:PE X b tb) {pins:List (Addr×Obj)} {s:Shared} {σ:St} {H:Hp} {R:V→V→Hp→Prop} (I:Inv X pins σ H s)
  (h:ta σ H fun x H1=>tb σ H1 fun y H2=>R x y H2) {Q:Value→Shared→Prop} {f:Value→Value→Sem Value}
  (hf:∀v u s2 x y H2,Inv X pins σ H2 s2→JX x v→JX y u→R x y H2→wpAny (model X.prog X.w) X.A (f v u) Q X.xe s2):
  wpAny (model X.prog X.w) X.A (eval a X.env) (fun v s₁=>wpAny (model X.prog X.w) X.A (eval b X.env) (fun u s₂=>wpAny (model X.prog X.w) X.A (f v u) Q X.xe s₂) X.xe s₁) X.xe s:=by
 refine thn (ha pins s σ H _ I h) fun v s1 ⟨x,H1,I1,r1,q1⟩=>?_
 refine thn (hb pins s1 σ H1 _ I1 q1) fun u s2 ⟨y,H2,I2,r2,q2⟩=>?_
 exact hf v u s2 x y H2 I2 r1 r2 q2
theorem JB {op:Operator} {r:R2} (ho:OpR X (binaryOp op) r) (ha:PE X a ta) (hb:PE X b tb):PE X (.BinOp a op b pos) (tOp r ta tb):=by
 intro pins s σ H Q I h
 exact wpAny_BinOp (Jwr ha hb I h fun v u s2 x y H2 I2 rx ry q=>ho pins s2 σ H2 x y v u Q I2 rx ry q)
theorem Jjf {op:UnaryOp} {r:V→Hp→VK→Prop} (ho:UnR X (unaryOp op) r) (ha:PE X a ta):PE X (.UnaryOp op a pos) (tUn r ta):=by
 intro pins s σ H Q I h
 exact UnaryOp_ (thn (ha pins s σ H _ I h) fun v s1 ⟨x,H1,I1,r1,q1⟩=>ho pins s1 σ H1 x v Q I1 r1 q1)
theorem opI {f:Value→Value→Sem Value} {C:Int→Int→Prop} {g:Int→Int→Int}
  (rule:∀(i j:Int) (t u:Tok) (s:Shared) (Q:Value→Shared→Prop) (E:Value→Shared→Prop),C i j→Q (.int (g i j) s.toks) {s with toks:=s.toks+1}→wpAny (model X.prog X.w) X.A (f (.int i t) (.int j u)) Q E s):
  OpR X f (rI C fun i j=>.int (g i j)):=by
 intro pins s σ H x y v u Q I rx ry h
 obtain⟨i,j,rfl,rfl,hc,q⟩:=h
 obtain⟨t,rfl⟩:=rx
 obtain⟨t',rfl⟩:=ry
 exact rule i j t t' s _ _ hc ⟨.int (g i j),H,I.tok _,⟨_,rfl⟩,q⟩
theorem JwR {f:Value→Value→Sem Value} {g:Int→Int→Int}
  (rule:∀(i j:Int) (t u:Tok) (s:Shared) (Q:Value→Shared→Prop) (E:Value→Shared→Prop),Q (.int (g i j) s.toks) {s with toks:=s.toks+1}→wpAny (model X.prog X.w) X.A (f (.int i t) (.int j u)) Q E s):
  OpR X f (rI0 fun i j=>.int (g i j)):=by
 intro pins s σ H x y v u Q I rx ry h
 obtain⟨i,j,rfl,rfl,q⟩:=h
 obtain⟨t,rfl⟩:=rx
 obtain⟨t',rfl⟩:=ry
 exact rule i j t t' s _ _ ⟨.int (g i j),H,I.tok _,⟨_,rfl⟩,q⟩
theorem JuO {f:Value→Value→Sem Value} {g:Int→Int→Bool}
  (rule:∀(i j:Int) (t u:Tok) (s:Shared) (Q:Value→Shared→Prop) (E:Value→Shared→Prop),Q (.bool (g i j)) s→wpAny (model X.prog X.w) X.A (f (.int i t) (.int j u)) Q E s):
  OpR X f (rI0 fun i j=>.bl (g i j)):=by
 intro pins s σ H x y v u Q I rx ry h
 obtain⟨i,j,rfl,rfl,q⟩:=h
 obtain⟨t,rfl⟩:=rx
 obtain⟨t',rfl⟩:=ry
 exact rule i j t t' s _ _ ⟨.bl (g i j),H,I,rfl,q⟩
noncomputable def JxE (i j:Int):Prop:=0<j∧j<1073741824
noncomputable def JwA (i j:Int):Prop:=(-(2^64)<i∧i<2^64)∨(-(2^64)<j∧j<2^64)
theorem JwA.ok {i j:Int} (h:JwA i j):IntMulOk i j:=by
 rcases h with⟨h1,h2⟩|⟨h1,h2⟩
 ·exact .of_left (intBits_le_64 h1 h2)
 ·exact .of_right (intBits_le_64 h1 h2)
theorem Yd:OpR X (binaryOp .Add) (rI0 fun i j=>.int (i+j)):=JwR fun _ _ _ _ _ _ _ q=>add_int q
theorem U5:OpR X (binaryOp .Sub) (rI0 fun i j=>.int (i-j)):=JwR fun _ _ _ _ _ _ _ q=>sub_int q
theorem JeY:OpR X (binaryOp .Mult) (rI JwA fun i j=>.int (i*j)):=opI fun _ _ _ _ _ _ _ hc q=>mul_int q hc.ok
theorem JuM:OpR X (binaryOp .FloorDiv) (rI JxE fun i j=>.int (i/j)):=opI fun i j _ _ _ _ _ hc q=>by
 have h1:(0:Int)<j:=hc.1
 have h2:j<1073741824:=hc.2
 exact floordiv_int (by omega) (by rw[Int.fdiv_eq_ediv_of_nonneg i (by omega)];exact q) (.inl (PyProof.noPylong_small (by omega)))
theorem unI {f:Value→Sem Value} {g:Int→Int}
  (rule:∀(i:Int) (t:Tok) (s:Shared) (Q:Value→Shared→Prop) (E:Value→Shared→Prop),Q (.int (g i) s.toks) {s with toks:=s.toks+1}→wpAny (model X.prog X.w) X.A (f (.int i t)) Q E s):
  UnR X f (rU fun i=>.int (g i)):=by
 intro pins s σ H x v Q I rx h
 obtain⟨i,rfl,q⟩:=h
 obtain⟨t,rfl⟩:=rx
 exact rule i t s _ _ ⟨.int (g i),H,I.tok _,⟨_,rfl⟩,q⟩
theorem JeG:UnR X (unaryOp .USub) (rU fun i=>.int (-i)):=unI fun _ _ _ _ _ q=>neg_int q
end
noncomputable def JwK:V→V→Bool
 | .non,.non=>true| .non,.int _=>true| .int _,.non=>true| .non,.bl _=>true| .bl _,.non=>true| .non,.str _=>true| .str _,.non=>true
 | .int _,.int _=>true| .bl _,.bl _=>true| .str _,.str _=>true| .byt _,.byt _=>true
 | .int _,.str _=>true| .str _,.int _=>true| .bl _,.str _=>true| .str _,.bl _=>true
 |_,_=>false
noncomputable def rEq:R2:=fun x y H Q=>JwK x y=true∧Q (.bl (decide (x=y))) H
noncomputable def rNe:R2:=fun x y H Q=>JwK x y=true∧Q (.bl (!decide (x=y))) H
theorem JrN {i j:Int}:decide (V.int i=V.int j)=(i==j):=by
 rw[Bool.eq_iff_iff]
 simp
theorem Jt2 {i j:Bool}:decide (V.bl i=V.bl j)=(i==j):=by
 rw[Bool.eq_iff_iff]
 simp
theorem JrM {i j:Str}:decide (V.str i=V.str j)=(i==j):=by
 rw[Bool.eq_iff_iff]
 simp
theorem JrO {i j:Array UInt8}:decide (V.byt i=V.byt j)=(i.toList==j.toList):=by
 rw[Bool.eq_iff_iff]
 cases i
 cases j
 simp
section
variable {X:Cx} {a b c:Expr} {ta tb tc:TE} {pos:Pos}
theorem Qb {pins:List (Addr×Obj)} {σ:St} {H:Hp} {s:Shared} {Q:VK} {k k':Bool} (I:Inv X pins σ H s) (q:Q (.bl k) H) (e:k=k'):EP X pins σ Q (.bool k') s:=by
 subst e
 exact⟨.bl k,H,I,rfl,q⟩
theorem YX:OpR X (compareOp .Eq) rEq:=by
 intro pins s σ H x y v u Q I rx ry h
 obtain⟨hs,q⟩:=h
 cases x with
 |non=>
  cases rx
  cases y with
  |non=>cases ry;exact PySem.EqNone.eq_none_none (Qb I q (by simp))
  |bl j=>cases ry;exact PySem.EqNone.eq_none_bool (Qb I q (by simp))
  |int j=>obtain⟨t',rfl⟩:=ry;exact PySem.EqNone.eq_none_int (Qb I q (by simp))
  |str j=>obtain⟨t',rfl⟩:=ry;exact PySem.EqNone.eq_none_str (Qb I q (by simp))
  |_=>exact absurd (show false=true from hs) Bool.false_ne_true
 |bl i=>
  cases rx
  cases y with
  |non=>cases ry;exact PySem.EqNone.eq_bool_none (Qb I q (by simp))
  |bl j=>cases ry;exact eq_bool (Qb I q Jt2)
  |str j=>obtain⟨t',rfl⟩:=ry;exact PySem.EqMixed.eq_bool_str (Qb I q (by simp))
  |_=>exact absurd (show false=true from hs) Bool.false_ne_true
 |int i=>
  obtain⟨t,rfl⟩:=rx
  cases y with
  |non=>cases ry;exact PySem.EqNone.eq_int_none (Qb I q (by simp))
  |int j=>obtain⟨t',rfl⟩:=ry;exact eq_int (Qb I q JrN)
  |str j=>obtain⟨t',rfl⟩:=ry;exact PySem.EqMixed.eq_int_str (Qb I q (by simp))
  |_=>exact absurd (show false=true from hs) Bool.false_ne_true
 |str i=>
  obtain⟨t,rfl⟩:=rx
  cases y with
  |non=>cases ry;exact PySem.EqNone.eq_str_none (Qb I q (by simp))
  |bl j=>cases ry;exact PySem.EqMixed.eq_str_bool (Qb I q (by simp))
  |int j=>obtain⟨t',rfl⟩:=ry;exact PySem.EqMixed.eq_str_int (Qb I q (by simp))
  |str j=>obtain⟨t',rfl⟩:=ry;exact eq_str (Qb I q JrM)
  |_=>exact absurd (show false=true from hs) Bool.false_ne_true
 |byt i=>
  obtain⟨t,rfl⟩:=rx
  cases y with
  |byt j=>obtain⟨t',rfl⟩:=ry;exact PySem.W.eq_bytes (Qb I q JrO)
  |_=>exact absurd (show false=true from hs) Bool.false_ne_true
 |_=>cases y<;>exact absurd (show false=true from hs) Bool.false_ne_true
theorem Jpe:OpR X (compareOp .NotEq) rNe:=by
 intro pins s σ H x y v u Q I rx ry h
 obtain⟨hs,q⟩:=h
 cases x with
 |non=>
  cases rx
  cases y with
  |non=>cases ry;exact PySem.EqNone.ne_none_none (Qb I q (by simp))
  |bl j=>cases ry;exact PySem.EqNone.ne_none_bool (Qb I q (by simp))
  |int j=>obtain⟨t',rfl⟩:=ry;exact PySem.EqNone.ne_none_int (Qb I q (by simp))
  |str j=>obtain⟨t',rfl⟩:=ry;exact PySem.EqNone.ne_none_str (Qb I q (by simp))
  |_=>exact absurd (show false=true from hs) Bool.false_ne_true
 |bl i=>
  cases rx
  cases y with
  |non=>cases ry;exact PySem.EqNone.ne_bool_none (Qb I q (by simp))
  |bl j=>cases ry;exact ne_bool (Qb I q (congrArg not Jt2))
  |str j=>obtain⟨t',rfl⟩:=ry;exact PySem.EqMixed.ne_bool_str (Qb I q (by simp))
  |_=>exact absurd (show false=true from hs) Bool.false_ne_true
 |int i=>
  obtain⟨t,rfl⟩:=rx
  cases y with
  |non=>cases ry;exact PySem.EqNone.ne_int_none (Qb I q (by simp))
  |int j=>obtain⟨t',rfl⟩:=ry;exact ne_int (Qb I q (congrArg not JrN))
  |str j=>obtain⟨t',rfl⟩:=ry;exact PySem.EqMixed.ne_int_str (Qb I q (by simp))
  |_=>exact absurd (show false=true from hs) Bool.false_ne_true
 |str i=>
  obtain⟨t,rfl⟩:=rx
  cases y with
  |non=>cases ry;exact PySem.EqNone.ne_str_none (Qb I q (by simp))
  |bl j=>cases ry;exact PySem.EqMixed.ne_str_bool (Qb I q (by simp))
  |int j=>obtain⟨t',rfl⟩:=ry;exact PySem.EqMixed.ne_str_int (Qb I q (by simp))
  |str j=>obtain⟨t',rfl⟩:=ry;exact ne_str (Qb I q (congrArg not JrM))
  |_=>exact absurd (show false=true from hs) Bool.false_ne_true
 |byt i=>
  obtain⟨t,rfl⟩:=rx
  cases y with
  |byt j=>obtain⟨t',rfl⟩:=ry;exact PySem.W.ne_bytes (Qb I q (congrArg not JrO))
  |_=>exact absurd (show false=true from hs) Bool.false_ne_true
 |_=>cases y<;>exact absurd (show false=true from hs) Bool.false_ne_true
theorem Jjg:OpR X (compareOp .Lt) (rI0 fun i j=>.bl (decide (i<j))):=JuO fun _ _ _ _ _ _ _ q=>lt_int q
theorem JbK:OpR X (compareOp .LtE) (rI0 fun i j=>.bl (decide (i≤j))):=JuO fun _ _ _ _ _ _ _ q=>le_int q
theorem JmL:OpR X (compareOp .Gt) (rI0 fun i j=>.bl (decide (j<i))):=JuO fun _ _ _ _ _ _ _ q=>gt_int q
theorem Jgm:OpR X (compareOp .GtE) (rI0 fun i j=>.bl (decide (j≤i))):=JuO fun _ _ _ _ _ _ _ q=>ge_int q
theorem Jv8:OpR X (compareOp .Is) (fun x y H Q=>y=.non∧Q (.bl (decide (x=.non))) H):=by
 intro pins s σ H x y v u Q I rx ry h
 obtain⟨rfl,q⟩:=h
 cases ry
 refine is_none_gen (Qb I q ?_)
 cases x<;>first
  |(cases rx;rfl)
  |(obtain⟨t,rfl⟩:=rx;rfl)
theorem JJ (b:Expr) {op:CmpOp} (h:op≠.In:=by decide) (h2:op≠.NotIn:=by decide):behindInMarks op b=false:=by
 have e1:(op==CmpOp.In)=false:=by cases op<;>first|rfl|exact absurd rfl h
 have e2:(op==CmpOp.NotIn)=false:=by cases op<;>first|rfl|exact absurd rfl h2
 cases b<;>simp[behindInMarks,e1,e2]
theorem JnP {op:CmpOp} {r:R2} (ho:OpR X (compareOp op) r) (ha:PE X a ta) (hb:PE X b tb) (hm:behindInMarks op b=false):PE X (.Compare a [op] [b] pos) (tOp r ta tb):=by
 intro pins s σ H Q I h
 exact wpAny_Compare1 (Jwr ha hb I h fun v u s2 x y H2 I2 rx ry q=>ho pins s2 σ H2 x y v u Q I2 rx ry q) hm
noncomputable def Jtd (t:TE):TT:=fun σ H Q=>t σ H fun x H'=>∃k,x=.bl k∧Q k H'
theorem JA {op:CmpOp} {r:R2} (ho:OpR X (compareOp op) r) (ha:PE X a ta) (hb:PE X b tb) (hm:behindInMarks op b=false):PT X (.Compare a [op] [b] pos) (Jtd (tOp r ta tb)):=by
 intro pins s σ H Q I h
 refine wpAny_isTrue_Compare1 (thn (ha pins s σ H _ I h) fun v s1 ⟨x,H1,I1,r1,q1⟩=>thn (hb pins s1 σ H1 _ I1 q1) fun u s2 ⟨y,H2,I2,r2,q2⟩=>
  thn (ho pins s2 σ H2 x y v u _ I2 r1 r2 q2) fun c s3 ⟨z,H3,I3,r3,k,e,q3⟩=>?_) hm
 subst e
 cases r3
 exact wpAny_truthy_bool ⟨H3,I3,q3⟩
noncomputable def Jth (r r':R2) (ta tb tc:TE):TE:=fun σ H Q=>ta σ H fun x H1=>tb σ H1 fun y H2=>r x y H2 fun z H3=>∃k,z=.bl k∧
 (if k=true then tc σ H3 fun w' H4=>r' y w' H4 Q else Q (.bl false) H3)
theorem JeX {op op':CmpOp} {r r':R2} (ho:OpR X (compareOp op) r) (ho':OpR X (compareOp op') r') (ha:PE X a ta) (hb:PE X b tb) (hc:PE X c tc)
  (hm:lastMarks [op,op'] [b,c]=false:=by with_unfolding_all rfl):PE X (.Compare a [op,op'] [b,c] pos) (Jth r r' ta tb tc):=by
 intro pins s σ H Q I h
 refine Compare_chain (thn (ha pins s σ H _ I h) fun v s1 ⟨x,H1,I1,r1,q1⟩=>chain_link (thn (hb pins s1 σ H1 _ I1 q1) fun u s2 ⟨y,H2,I2,r2,q2⟩=>
  thn (ho pins s2 σ H2 x y v u _ I2 r1 r2 q2) fun d s3 ⟨z,H3,I3,r3,k,e,q3⟩=>?_)) hm
 subst e
 cases r3
 refine wpAny_truthy_bool ?_
 cases k with
 |false=>exact ite_ff ⟨.bl false,H3,I3,rfl,q3⟩
 |true=>exact ite_tt (chain_last (thn (hc pins s3 σ H3 _ I3 q3) fun w' s4 ⟨z',H4,I4,r4,q4⟩=>ho' pins s4 σ H4 y z' u w' Q I4 r2 r4 q4))
theorem Jk0 {op op':CmpOp} {r r':R2} (ho:OpR X (compareOp op) r) (ho':OpR X (compareOp op') r') (ha:PE X a ta) (hb:PE X b tb) (hc:PE X c tc)
  (hm:lastMarks [op,op'] [b,c]=false:=by with_unfolding_all rfl):PT X (.Compare a [op,op'] [b,c] pos) (Jtd (Jth r r' ta tb tc)):=by
 intro pins s σ H Q I h
 refine isTrue_chain (thn (ha pins s σ H _ I h) fun v s1 ⟨x,H1,I1,r1,q1⟩=>test_link (thn (hb pins s1 σ H1 _ I1 q1) fun u s2 ⟨y,H2,I2,r2,q2⟩=>
  thn (ho pins s2 σ H2 x y v u _ I2 r1 r2 q2) fun d s3 ⟨z,H3,I3,r3,k,e,q3⟩=>?_)) hm
 subst e
 cases r3
 refine wpAny_truthy_bool ?_
 cases k with
 |false=>
  obtain⟨k',e',q'⟩:=q3
  cases e'
  exact ite_ff ⟨H3,I3,q'⟩
 |true=>
  refine ite_tt (test_last (thn (hc pins s3 σ H3 _ I3 q3) fun w' s4 ⟨z',H4,I4,r4,q4⟩=>thn (ho' pins s4 σ H4 y z' u w' _ I4 r2 r4 q4) fun d' s5 ⟨z2,H5,I5,r5,k2,e2,q5⟩=>?_))
  subst e2
  cases r5
  exact wpAny_truthy_bool ⟨H5,I5,q5⟩
noncomputable def JxB (K:PySem.W.Frag) (x:V) (H:Hp) (k:Bool):Prop:=
 match x with
 | .non=>k=false
 | .bl b=>k=b
 | .int i=>k=(i !=0)
 | .str y=>y.length≤sizeLine∧k=((y.length:Int) !=0)
 | .byt y=>y.size≤sizeLine∧k=((y.size:Int) !=0)
 | .ref p=>(∃xs,SqL K H p xs∧k=!xs.isEmpty)∨(∃xs,SqT K H p xs∧k=!xs.isEmpty)∨∃kvs,H p=some (.dK kvs)∧k=!kvs.isEmpty
 |_=>False
theorem JqL {κ:Type} {kvs:List (κ×V)} {vs:List (κ×Value)} (r:KV kvs vs):(!vs.isEmpty)=!kvs.isEmpty:=by
 cases r<;>rfl
theorem Jln {xs:List V} {its:List Value} (r:JY xs its):(!its.toArray.isEmpty)=!xs.isEmpty:=by
 cases r<;>simp
theorem Jiy:(sizeLine:Nat)<2^63:=by rw[sizeLine_eq];decide
theorem JvN:JxC X (fun x H Q=>∃k,JxB X.K x H k∧Q k H):=by
 intro pins s σ H x v Q I rx h
 obtain⟨k,e,q⟩:=h
 have hl:=Jiy
 have hs:sizeLine=16777216:=sizeLine_eq
 cases x with
 |non=>
  cases rx
  have e':k=false:=e
  subst e'
  exact truthy_none ⟨H,I,q⟩
 |bl b=>
  cases rx
  have e':k=b:=e
  subst e'
  exact wpAny_truthy_bool ⟨H,I,q⟩
 |int i=>
  obtain⟨t,rfl⟩:=rx
  have e':k=(i !=0):=e
  subst e'
  exact PySem.P.truthy_int ⟨H,I,q⟩
 |str y=>
  obtain⟨t,rfl⟩:=rx
  obtain⟨hy,e'⟩:y.length≤sizeLine∧k=((y.length:Int) !=0):=e
  subst e'
  exact PySem.P.truthy_str (by omega) ⟨H,I.tok _,q⟩
 |byt y=>
  obtain⟨t,rfl⟩:=rx
  obtain⟨hy,e'⟩:y.size≤sizeLine∧k=((y.size:Int) !=0):=e
  subst e'
  exact PySem.W.truthy_bytes (by omega) ⟨H,I.tok _,q⟩
 |ref p=>
  cases rx
  have e':(∃xs,SqL X.K H p xs∧k=!xs.isEmpty)∨(∃xs,SqT X.K H p xs∧k=!xs.isEmpty)∨∃kvs,H p=some (.dK kvs)∧k=!kvs.isEmpty:=e
  rcases e' with⟨xs,hx,e'⟩|⟨xs,hx,e'⟩|⟨kvs,hx,e'⟩
  ·subst e'
   obtain⟨its,r,pl,hz⟩:=I.list hx
   have hlen:=r.length
   exact wpAny_truthy_list pl.isList (by simp only[List.size_toArray];omega) ⟨H,I.tok _,by rw[Jln r];exact q⟩
  ·subst e'
   obtain⟨its,r,pl,hz⟩:=I.tuple hx
   have hlen:=r.length
   exact truthy_tuple pl (by simp only[List.size_toArray];omega) ⟨H,I.tok _,by rw[Jln r];exact q⟩
  ·subst e'
   obtain⟨hz,hS,vs,r,m⟩:kvs.length≤sizeLine∧(p==sysModules)=false∧∃vs,KV kvs vs∧s.heap.DictOf (Vg X.prog X.w) p vs:=I.hok p _ hx
   have hlen:kvs.length=vs.length:=Paired.length r
   exact wpAny_truthy_dict hS m (by omega) ⟨H,I.tok _,by rw[JqL r];exact q⟩
 |_=>exact(show False from e).elim
theorem JeF {x:V} {us:List Value} (r:JY [x] us):∃u,us=[u]∧JX x u:=by
 cases r with
 |cons r1 r2=>cases r2;exact⟨_,rfl,r1⟩
theorem Jvt {x y:V} {us:List Value} (r:JY [x,y] us):∃u w',us=[u,w']∧JX x u∧JX y w':=by
 cases r with
 |cons r1 r2=>
  cases r2 with
  |cons r3 r4=>cases r4;exact⟨_,_,rfl,r1,r3⟩
theorem Jdx (hc:X.calm=true):VV X (.builtin "max") (fun xs H Q=>∃i j,xs=[.int i,.int j]∧Q (.int (if j>i then j else i)) H):=by
 intro pins s σ H xs us Q I r h
 obtain⟨i,j,rfl,q⟩:=h
 obtain⟨u,w',rfl,⟨t,rfl⟩,⟨t',rfl⟩⟩:=Jvt r
 refine max_two_ints (I.ok.hd hc) fun h' tk k=>⟨_,H,I.kept k,?_,q⟩
 by_cases hj:j>i
 ·rw[if_pos hj,if_pos hj];exact⟨_,rfl⟩
 ·rw[if_neg hj,if_neg hj];exact⟨_,rfl⟩
theorem JiM (hc:X.calm=true):VV X (.builtin "min") (fun xs H Q=>∃i j,xs=[.int i,.int j]∧Q (.int (if j<i then j else i)) H):=by
 intro pins s σ H xs us Q I r h
 obtain⟨i,j,rfl,q⟩:=h
 obtain⟨u,w',rfl,⟨t,rfl⟩,⟨t',rfl⟩⟩:=Jvt r
 refine min_two_ints (I.ok.hd hc) fun h' tk k=>⟨_,H,I.kept k,?_,q⟩
 by_cases hj:j<i
 ·rw[if_pos hj,if_pos hj];exact⟨_,rfl⟩
 ·rw[if_neg hj,if_neg hj];exact⟨_,rfl⟩
end
end L2
namespace L2
open PySem PySem.Spec PyProof.Rows
structure Jq3 (h:Heap) (x dx C:Addr) (mA:Str→Option Value):Prop where
 obj:h.get? x=some (PySem.W.instObj C dx)
 ns:h.Ns1 dx mA
 ne:dx≠x
theorem Jsv {h:Heap} {dx:Addr} {mA:Str→Option Value} (n:h.Ns1 dx mA):∃od,h.get? dx=some od∧∀name,PySem.W.lookIn name od=some (mA name):=by
 obtain⟨o,es,ep,ho,hd,hk,_,hm⟩:=n
 refine⟨o,ho,fun name=>?_⟩
 have e:=hm name
 unfold nsFind findBy at e
 rw[←Array.find?_toList] at e
 unfold PySem.W.lookIn
 rw[hd]
 dsimp only
 split
 ·rename_i y q
  rw[q] at e
  exact congrArg some e
 ·rename_i q
  rw[q] at e
  have a:es.toList.any (·.refKey)=false:=by
   rw[List.any_eq_false]
   intro y hy
   obtain⟨z,t,hkey⟩:=hk y (Array.mem_toList_iff.mp hy)
   simp[DictEntry.refKey,hkey]
  have a':¬es.toList.any (·.refKey)=true:=by rw[a];exact Bool.false_ne_true
  rw[if_neg a']
  exact congrArg some e
theorem Jq3.look {h:Heap} {x dx C:Addr} {mA:Str→Option Value} (I:Jq3 h x dx C mA):∃od,PySem.W.InstAt h x (PySem.W.instObj C dx) C (some od)∧∀name,PySem.W.lookIn name od=some (mA name):=
 let⟨od,ho,hl⟩:=Jsv I.ns
 ⟨od,⟨I.obj,rfl,rfl,ho⟩,hl⟩
section
variable {prog:Program} {w:World} {A:Around} {E:Value→Shared→Prop} {s:Shared} {K:PySem.W.Frag} {x dx C f:Addr} {mA:Str→Option Value} {name:Str} {v:Value}
theorem Ju9 {expr:Bool} {Q:Value→Shared→Prop} (X:K.In s.heap) (I:Jq3 s.heap x dx C mA) (hg:PySem.W.plainGet K C name=true) (hh:PySem.W.hasDictIn K C=true)
  (ha:PySem.W.findIn K (.ref C) name=some none) (hv:mA name=some v) (hv':PySem.W.handedIn v=true) (h:Q v {s with toks:=s.toks+1}):
  wpAny (model prog w) A (getAttr (.ref x) name expr) Q E s:=by
 obtain⟨od,J,hl⟩:=I.look
 exact PySem.W.get_value X J (PySem.W.plainGet_of hg).1 (PySem.W.findObj_own hh ha rfl (by rw[hl,hv])) hv' h
theorem JtR {pl:Sem Bool} {Q:Value×List Value→Shared→Prop} (X:K.In s.heap) (I:Jq3 s.heap x dx C mA) (hg:PySem.W.plainGet K C name=true)
  (hf:PySem.W.findIn K (.ref C) name=some (some (.ref f))) (ht:PySem.W.isFn K (.ref f)=true) (hv:mA name=none) (h:Q (.ref f,[.ref x]) s):
  wpAny (model prog w) A (getMethod (.ref x) name pl) Q E s:=by
 obtain⟨od,J,hl⟩:=I.look
 exact PySem.W.method_fn X J (PySem.W.plainGet_of hg).1 (PySem.W.plainGet_of hg).2 hf (beq_iff_eq.mp ht) (by show(PySem.W.lookIn name od).map (·.isSome)=some false;rw[hl,hv];rfl) h
theorem Juy {ns:List Str} {Q:Unit→Shared→Prop} (X:K.In s.heap) (I:Jq3 s.heap x dx C mA)
  (hs:PySem.W.findIn K (.ref C) "__setattr__"=some (some (.builtin "object.__setattr__"))) (hp:PySem.W.plainOver K C=true) (ht:PySem.W.takerIn K C name=some none) (hh:PySem.W.hasDictIn K C=true)
  (hw:PySem.Within mA ns) (hsz:ns.length≤sizeLine)
  (h:∀h',Jq3 h' x dx C (fun y=>if y=name then some v else mA y)→Heap.SameBut dx s.heap h'→Q () {s with heap:=h',toks:=s.toks+2}):
  wpAny (model prog w) A (setAttr (.ref x) name v) Q E s:=by
 obtain⟨od,J,hl⟩:=I.look
 refine PySem.W.set_plain X J hs (PySem.W.osa_open (s:={s with toks:=s.toks+1}) (r:=none) X J hp ht fun b=>?_)
 obtain⟨cd,hc,hd'⟩:=PySem.W.any_some hh
 have hx:s.heap.get? x=some ⟨.ref C,some dx,.plain,#[]⟩:=I.obj
 refine wpAny_bind (wpAny_pure (wpAny_bind (wpAny_bind (wpAny_loadPart hx (wpAny_bind (PySem.W.Looks.here (s:={s with toks:=s.toks+1}) (PySem.W.looks_clsIn X hc) ?_))))))
 rw[hd']
 refine wpAny_pure (a:=some dx) (wpAny_bind (wpAny_pure (wpAny_bind ?_)))
 refine wpAny_nsSet1 (s:={s with toks:=s.toks+1}) I.ns fun h' hn2 hs2=>?_
 obtain⟨oD,esD,epD,hoD,hdD,hcD⟩:=hn2.count (PySem.Within.cons name v hw)
 refine wpAny_bind (wpAny_lookBehind hoD (by rw[hdD];exact pastItsLine_dict (Nat.le_trans hcD (by rw[List.length_cons];omega))) ?_)
 exact wpAny_pure (h _ ⟨(hs2.2 _ (Ne.symm I.ne)).trans I.obj,hn2,I.ne⟩ hs2)
theorem JtK {R:Result→Shared→Prop} {vs:List Value} {kw:List (Str×Value)} (X:K.In s.heap) (hm:PySem.W.makesIn K C=true)
  (hi:PySem.W.findIn K (.ref C) "__init__"=some (some (.ref f))) (hf:PySem.W.typeIn K (.ref f)=some (.type "function"))
  (h:codeAny (model prog w) (A.under (.builtin "type.__call__" ⟨.ref C::vs,kw⟩)) (.call (.ref f) ⟨.ref (s.heap.objs.size+1)::vs,kw⟩) (PySem.W.InitBack (s.heap.objs.size+1) R)
   {s with heap:=(s.heap.push PySem.W.emptyDict).push (PySem.W.instObj C s.heap.objs.size)}):
  codeAny (model prog w) A (.call (.ref C) ⟨vs,kw⟩) R s:=by
 obtain⟨hh,g,d,t,os⟩:=s
 exact PySem.W.make_core (PySem.W.makes_of X hm) (PySem.W.looks_findIn X hi) (fun self=>PySem.W.bind_fn X self hf) (.inl rfl) h
end
noncomputable def Qg (f:Str) (v:V):List (Str×V)→List (Str×V)
 |[]=>[(f,v)]
 |(g,x)::r=>if g=f then(g,v)::r else(g,x)::Qg f v r
theorem Jjl (f g:Str) (v:V):∀fs:List (Str×V),(Qg f v fs).lookup g=if g=f then some v else fs.lookup g
 |[]=>by
  show List.lookup g [(f,v)]=_
  by_cases h:g=f
  ·have hb:(g==f)=true:=beq_iff_eq.mpr h
   simp only[List.lookup,hb,if_pos h]
  ·have hb:(g==f)=false:=beq_eq_false_iff_ne.mpr h
   simp only[List.lookup,hb,if_neg h]
 |(k,x)::r=>by
  have ih:=Jjl f g v r
  rw[show Qg f v ((k,x)::r)=(if k=f then(k,v)::r else(k,x)::Qg f v r) from rfl]
  by_cases hk:k=f
  ·rw[if_pos hk]
   by_cases h:g=k
   ·have hb:(g==k)=true:=beq_iff_eq.mpr h
    simp only[List.lookup,hb,if_pos (h.trans hk)]
   ·have hb:(g==k)=false:=beq_eq_false_iff_ne.mpr h
    simp only[List.lookup,hb,if_neg (fun e:g=f=>h (e.trans hk.symm))]
  ·rw[if_neg hk]
   by_cases h:g=k
   ·have hb:(g==k)=true:=beq_iff_eq.mpr h
    simp only[List.lookup,hb,if_neg (fun e:g=f=>hk (h.symm.trans e))]
   ·have hb:(g==k)=false:=beq_eq_false_iff_ne.mpr h
    simp only[List.lookup,hb]
    exact ih
theorem JiB (f:Str) (v:V):∀fs:List (Str×V),f∈(Qg f v fs).map (·.1)∧∀g,g∈fs.map (·.1)→g∈(Qg f v fs).map (·.1)
 |[]=>⟨by simp[Qg],fun g h=>by simp at h⟩
 |(k,x)::r=>by
  obtain⟨i1,i2⟩:=JiB f v r
  rw[show Qg f v ((k,x)::r)=(if k=f then(k,v)::r else(k,x)::Qg f v r) from rfl]
  by_cases hk:k=f
  ·rw[if_pos hk]
   subst hk
   exact⟨by simp,fun g h=>by simpa using h⟩
  ·rw[if_neg hk]
   refine⟨?_,fun g h=>?_⟩
   ·rw[List.map_cons]
    exact List.mem_cons_of_mem _ i1
   ·rw[List.map_cons] at h⊢
    rcases List.mem_cons.mp h with e|e
    ·exact List.mem_cons.mpr (.inl e)
    ·exact List.mem_cons_of_mem _ (i2 g e)
theorem Jjn (f:Str) (v:V):∀fs:List (Str×V),(Qg f v fs).length≤fs.length+1
 |[]=>by simp[Qg]
 |(k,x)::r=>by
  have ih:=Jjn f v r
  rw[show Qg f v ((k,x)::r)=(if k=f then(k,v)::r else(k,x)::Qg f v r) from rfl]
  by_cases hk:k=f
  ·rw[if_pos hk,List.length_cons,List.length_cons];omega
  ·rw[if_neg hk,List.length_cons,List.length_cons];omega
theorem Jh2.some_of {v:V} {o:Option Value} (r:Jh2 (some v) o):∃u,o=some u∧JX v u:=by
 cases o with
 |none=>exact(show False from r).elim
 |some u=>exact⟨u,rfl,r⟩
theorem Jh2.none_of {o:Option Value} (r:Jh2 none o):o=none:=by
 cases o with
 |none=>rfl
 |some u=>exact(show False from r).elim
theorem JsF {v:V} {u:Value} (r:JX v u):PySem.W.handedIn u=true:=by
 cases v with
 |non=>cases(show u=Value.none from r);rfl
 |bl b=>cases(show u=Value.bool b from r);rfl
 |int i=>obtain⟨t,e⟩:=(show∃t,u=Value.int i t from r);cases e;rfl
 |str x=>obtain⟨t,e⟩:=(show∃t,u=Value.str x t from r);cases e;rfl
 |byt b=>obtain⟨t,e⟩:=(show∃t,u=Value.bytes b t from r);cases e;rfl
 |flt b=>obtain⟨t,e⟩:=(show∃t,u=Value.float b t from r);cases e;rfl
 |ref a=>cases(show u=Value.ref a from r);rfl
 |ty n=>cases(show u=Value.type n from r);rfl
section
variable {P:Program} {w:World} {H H':Hp} {h h':Heap} {a C dx:Addr} {fs fs':List (Str×V)}
theorem Jn3 (hok:HOk P w H h) (e:H a=some (.ins C dx fs)):∃mA,Jq3 h a dx C mA∧(∀f,Jh2 (fs.lookup f) (mA f))∧PySem.Within mA (fs.map (·.1))∧fs.length≤1000∧H dx=some (.own a):=by
 obtain⟨d,z,ne,ob,mA,n,r,q⟩:=(show YZ P w H h a (.ins C dx fs) from hok a _ e)
 exact⟨mA,⟨ob,n,ne⟩,r,q,z,d⟩
end
structure Cls (K:PySem.W.Frag) (C:Addr):Prop where
 pg:PySem.W.plainGet K C Str.empty=true
 hd:PySem.W.hasDictIn K C=true
 po:PySem.W.plainOver K C=true
 sa:PySem.W.findIn K (.ref C) "__setattr__"=some (some (.builtin "object.__setattr__"))
theorem Cls.get {K:PySem.W.Frag} {C:Addr} (c:Cls K C) (f:Str):PySem.W.plainGet K C f=true:=c.pg
noncomputable def JO (K:PySem.W.Frag) (C:Addr) (f:Str):Prop:=PySem.W.findIn K (.ref C) f=some none
theorem JO.taker {K:PySem.W.Frag} {C:Addr} {f:Str} (n:JO K C f):PySem.W.takerIn K C f=some none:=by
 unfold PySem.W.takerIn
 rw[show PySem.W.findIn K (.ref C) f=some none from n]
 rfl
structure Jwz (K:PySem.W.Frag) (C:Addr) (m:Str) (f:Addr):Prop where
 at_:PySem.W.findIn K (.ref C) m=some (some (.ref f))
 fn:PySem.W.isFn K (.ref f)=true
 kp:PySem.W.keepIn K (.ref f)=true
section
variable {X:Cx} {pins:List (Addr×Obj)} {σ:St} {H:Hp} {s:Shared} {a C dx:Addr} {fs:List (Str×V)} {f:Str} {v:V} {A:Around} {E:Value→Shared→Prop}
theorem JqP {b:Bool} {Q:Value→Shared→Prop} (I:Inv X pins σ H s) (e:H a=some (.ins C dx fs)) (c:Cls X.K C) (n:JO X.K C f) (l:fs.lookup f=some v)
  (h:∀u s',Inv X pins σ H s'→JX v u→Q u s'):wpAny (model X.prog X.w) A (getAttr (.ref a) f b) Q E s:=by
 obtain⟨mA,O,r,_,_,_⟩:=Jn3 I.hok e
 obtain⟨u,hu,ru⟩:=Jh2.some_of (v:=v) (o:=mA f) (by rw[←l];exact r f)
 exact Ju9 I.kIn O (c.get f) c.hd n hu (JsF ru) (h u _ (I.tok _) ru)
theorem JqO {m:Str} {g:Addr} {pl:Sem Bool} {Q:Value×List Value→Shared→Prop} (I:Inv X pins σ H s) (e:H a=some (.ins C dx fs)) (c:Cls X.K C) (k:Jwz X.K C m g) (l:fs.lookup m=none)
  (h:Q (.ref g,[.ref a]) s):wpAny (model X.prog X.w) A (getMethod (.ref a) m pl) Q E s:=by
 obtain⟨mA,O,r,_,_,_⟩:=Jn3 I.hok e
 have hn:mA m=none:=Jh2.none_of (by rw[←l];exact r m)
 exact JtR I.kIn O (c.get m) k.at_ k.fn hn h
theorem Jqf {y:V} {u:Value} {Q:Unit→Shared→Prop} (I:Inv X pins σ H s) (e:H a=some (.ins C dx fs)) (c:Cls X.K C) (n:JO X.K C f) (hl:fs.length<1000) (ry:JX y u)
  (h:∀s',Inv X pins σ (upd H a (.ins C dx (Qg f y fs))) s'→Q () s'):wpAny (model X.prog X.w) A (setAttr (.ref a) f u) Q E s:=by
 obtain⟨mA,O,r,wi,_,ho⟩:=Jn3 I.hok e
 have hz:(fs.map (·.1)).length≤sizeLine:=by rw[List.length_map,sizeLine_eq];omega
 refine Juy I.kIn O c.sa c.po n.taker c.hd wi hz fun h' O' sb=>h _ ?_
 have hd:∃o,h'.get? dx=some o:=let⟨o,_,_,e',_⟩:=O'.ns;⟨o,e'⟩
 refine I.write (x:=a) (e:=dx) (by rw[e];exact True.intro) (.inr ho) (fun b q hb z=>(sb.2 b hb).trans z) hd ?_
 refine⟨by rw[Jh O.ne];exact ho,?_,O.ne,O'.obj,_,O'.ns,fun g=>?_,fun g hg=>?_⟩
 ·have:=Jjn f y fs;omega
 ·show Jh2 ((Qg f y fs).lookup g) (if g=f then some u else mA g)
  rw[Jjl]
  by_cases q:g=f
  ·rw[if_pos q,if_pos q];exact ry
  ·rw[if_neg q,if_neg q];exact r g
 ·by_cases q:g=f
  ·rw[q];exact(JiB f y fs).1
  ·refine(JiB f y fs).2 g (wi g fun z=>hg ?_)
   show(if g=f then some u else mA g)=none
   rw[if_neg q];exact z
theorem Inv.made (I:Inv X pins σ H s):Inv X pins σ (upd (upd H s.heap.objs.size (.own (s.heap.objs.size+1))) (s.heap.objs.size+1) (.ins C s.heap.objs.size []))
  {s with heap:=(s.heap.push PySem.W.emptyDict).push (PySem.W.instObj C s.heap.objs.size)}:=by
 have e1:(s.heap.push PySem.W.emptyDict).get? s.heap.objs.size=some PySem.W.emptyDict:=Heap.get?_push_size s.heap rfl
 have e2:((s.heap.push PySem.W.emptyDict).push (PySem.W.instObj C s.heap.objs.size)).get? (s.heap.objs.size+1)=some (PySem.W.instObj C s.heap.objs.size):=by
  have:=Heap.get?_push_size (s.heap.push PySem.W.emptyDict) (o:=PySem.W.instObj C s.heap.objs.size) rfl
  rwa[Heap.size_push] at this
 have e3:(s.heap.push PySem.W.emptyDict).Ns s.heap.objs.size (fun _=>none):=⟨PySem.W.emptyDict,#[],_,e1,rfl,(fun e he=>absurd he (by simp)),fun _=>rfl⟩
 have I1:=I.laid (a:=s.heap.objs.size) (o:=.own (s.heap.objs.size+1)) (h':=s.heap.push PySem.W.emptyDict) (t':=s.toks) (fun b u q=>Heap.get?_push_of_some _ q) (Nat.le_refl _) ⟨_,e1⟩
 refine I1.laid (a:=s.heap.objs.size+1) (o:=.ins C s.heap.objs.size []) (t':=s.toks) (fun b u q=>Heap.get?_push_of_some _ q) (Nat.le_of_eq (Heap.size_push _ _)) ?_
 have ne:s.heap.objs.size≠s.heap.objs.size+1:=Nat.ne_of_lt (Nat.lt_succ_self _)
 refine⟨by rw[Jh ne,Jb],Nat.zero_le _,ne,e2,fun _=>none,(Heap.Ns1.of_empty e3).at fun o q=>Heap.get?_push_of_some _ q,fun _=>True.intro,fun y hy=>absurd rfl hy⟩
theorem Jvm {prog:Program} {w:World} {env:Env} {e:Expr} {f:Str} {pos:Pos} {s:Shared} {Q:Value→Shared→Prop} (hb:attributeBase e f env (eval e env)=eval e env)
  (h:wpAny (model prog w) A (eval e env) (fun o s₁=>wpAny (model prog w) A (getAttr o f true) Q E s₁) E s):wpAny (model prog w) A (eval (.Attribute e f pos) env) Q E s:=
 Attribute_any_ h (by rw[arm_eval_Attribute,hb])
end
noncomputable def Juu (K:PySem.W.Frag) (ta:TE) (f:Str):TE:=fun σ H Q=>ta σ H fun x H1=>∃a C dx fs v,x=.ref a∧H1 a=some (.ins C dx fs)∧Cls K C∧JO K C f∧fs.lookup f=some v∧Q v H1
noncomputable def Jxm (K:PySem.W.Frag) (ta tv:TE) (f:Str):TS:=fun D σ H=>tv σ H fun y H1=>ta σ H1 fun x H2=>∃a C dx fs,x=.ref a∧H2 a=some (.ins C dx fs)∧Cls K C∧JO K C f∧fs.length<1000∧
 D.nx σ (upd H2 a (.ins C dx (Qg f y fs)))
section
variable {X:Cx} {o e value:Expr} {f:Str} {pos pos' tpos:Pos} {ta tv:TE}
theorem Jv5 (he:PE X e ta) (hb:attributeBase e f X.env (eval e X.env)=eval e X.env):PE X (.Attribute e f pos) (Juu X.K ta f):=by
 intro pins s σ H Q I h
 refine Jvm hb (thn (he pins s σ H _ I h) fun u s1 ⟨x,H1,I1,rx,a,C,dx,fs,v,ex,ea,c,n,l,q⟩=>?_)
 subst ex
 obtain rfl:u=Value.ref a:=rx
 exact JqP I1 ea c n l fun u' s2 I2 ru=>⟨v,H1,I2,ru,q⟩
theorem JS (ha:PE X o ta) (hv:PE X value tv) (hs:swapsWith value (some (.Attribute o f pos')) pos.line X.env=pure false):PS X (.Assign [.Attribute o f pos'] value pos) (Jxm X.K ta tv f):=by
 intro pins s σ H D I h
 refine plainObj_wpAny_Assign_Attribute (thn (hv pins s σ H _ I h) fun u s1 ⟨y,H1,I1,ry,q⟩=>thn (ha pins s1 σ H1 _ I1 q) fun ov s2 ⟨x,H2,I2,rx,a,C,dx,fs,ex,ea,c,n,l,q2⟩=>?_) hs
 subst ex
 obtain rfl:ov=Value.ref a:=rx
 exact Jqf I2 ea c n l ry fun s3 I3=>⟨σ,_,I3,q2⟩
end
end L2
namespace L2
open PySem PySem.Spec PyProof.Rows
structure JaR (k:Nat) (A:Around):Prop where
 hd:A.handled=none
 dp:A.depth+3*k+5<recursionLimit
 un:A.units+16*k+200<cLine
theorem JaR.mono {j k:Nat} {A:Around} (r:JaR k A) (h:j≤k):JaR j A:=⟨r.hd,by have:=r.dp;omega,by have:=r.un;omega⟩
theorem JaR.deeper {k:Nat} {A:Around} (r:JaR (k+1) A) (env:Env):JaR k (A.deeper env):=
 ⟨r.hd,by have:=r.dp;show A.depth+1+3*k+5<_;omega,by have:=r.un;show A.units+3+16*k+200<_;omega⟩
theorem JqH {A:Around} {C:Addr} {us:List Value} {kw:List (Str×Value)}:(A.under (.builtin "type.__call__" ⟨.ref C::us,kw⟩)).depth=A.depth+1:=by
 first|rfl|simp[Around.under,Code.weight,Code.isCreation,Code.isGuard,Code.isCaller,Code.frames,Code.isFrame,guardIds]
theorem JqG {A:Around} {C:Addr} {us:List Value} {kw:List (Str×Value)}:(A.under (.builtin "type.__call__" ⟨.ref C::us,kw⟩)).units=A.units+1:=by
 first|rfl|simp[Around.under,Code.cUnits,Code.frames,Code.isFrame]
theorem JaR.make {k:Nat} {A:Around} (r:JaR (k+1) A) (C:Addr) (us:List Value) (kw:List (Str×Value)):JaR k (A.under (.builtin "type.__call__" ⟨.ref C::us,kw⟩)):=
 ⟨r.hd,by have:=r.dp;rw[JqH];omega,by have:=r.un;rw[JqG];omega⟩
theorem JaR.depth {k:Nat} {A:Around} (r:JaR k A):A.depth<recursionLimit:=by have:=r.dp;omega
noncomputable def Jte:TA:=fun _ H Q=>Q [] H
noncomputable def Jrn (ta:TE) (tr:TA):TA:=fun σ H Q=>ta σ H fun x H1=>tr σ H1 fun xs H2=>Q (x::xs) H2
section
variable {X:Cx} {e:Expr} {es:List Expr} {te:TE} {t:TA} {pos:Pos}
theorem Jc:PA X [] Jte:=fun _ _ _ _ H Q I h=>Calls.spliced_nil ⟨[],H,I,.nil,h⟩
theorem Ja (ha:PE X e te) (hr:PA X es t) (hs:starEach (e::es) X.env=(false,eval e X.env)::starEach es X.env:=by rfl):PA X (e::es) (Jrn te t):=by
 intro pos pins s σ H Q I h
 rw[hs]
 show wpAny _ _ (spliced ((false,eval e X.env)::backTo pos (starEach es X.env))) _ _ s
 refine Calls.spliced_cons (thn (ha pins s σ H _ I h) fun u s1 ⟨x,H1,I1,r1,q1⟩=>?_)
 exact thn (hr pos pins s1 σ H1 _ I1 q1) fun us s2 ⟨xs,H2,I2,r2,q2⟩=>⟨x::xs,H2,I2,.cons r1 r2,q2⟩
noncomputable def JvQ (t:TA):TE:=fun σ H Q=>t σ H fun xs H1=>xs.length≤sizeLine∧∀p,H1 p=none→Q (.ref p) (upd H1 p (.tup xs))
noncomputable def Jxi (t:TA):TE:=fun σ H Q=>t σ H fun xs H1=>xs.length≤sizeLine∧∀p,H1 p=none→Q (.ref p) (upd H1 p (.lst xs))
theorem Jk2 {x1} (h:PA X es t):PE X (.Tuple es x1 pos) (JvQ t):=by
 intro pins s σ H Q I hq
 refine wpAny_Tuple_spliced (thn (h pos pins s σ H _ I hq) fun us s1 ⟨xs,H1,I1,r,z,q⟩=>⟨by rw[←r.length];exact z,?_⟩)
 have hf:H1 s1.heap.objs.size=none:=I1.hok.fresh (Nat.le_refl _)
 refine⟨.ref s1.heap.objs.size,upd H1 s1.heap.objs.size (.tup xs),I1.laid (t':=s1.toks) (fun b u e=>Heap.get?_push_of_some _ e) (Nat.le_refl _) ?_,rfl,q _ hf⟩
 exact⟨z,us,r,⟨_,Heap.get?_push_size _ rfl,rfl,_,rfl⟩⟩
theorem Js (h:PA X es t):PE X (.List es pos) (Jxi t):=by
 intro pins s σ H Q I hq
 refine wpAny_List_spliced (thn (h pos pins s σ H _ I hq) fun us s1 ⟨xs,H1,I1,r,z,q⟩=>⟨by rw[←r.length];exact z,?_⟩)
 have hf:H1 s1.heap.objs.size=none:=I1.hok.fresh (Nat.le_refl _)
 refine⟨.ref s1.heap.objs.size,upd H1 s1.heap.objs.size (.lst xs),I1.laid (t':=s1.toks) (fun b u e=>Heap.get?_push_of_some _ e) (Nat.le_refl _) ?_,rfl,q _ hf⟩
 exact⟨z,us,0,r,Heap.get?_push_size _ rfl⟩
end
noncomputable abbrev Sp:=List V→Hp→VK→XK→Prop
noncomputable abbrev CXT:=List Env→Hp→Shared→XK→Value→Shared→Prop
structure Jrf (P:Program) (w:World) (K:PySem.W.Frag) (mg:Str→Option Value) (base:Heap) (A:Around) (outer:List Env) (s:Shared) (H:Hp):Prop where
 frames:A.frames=some outer
 mod:Mod K mg base
 bs:∀b o,base.get? b=some o→s.heap.get? b=some o∧H b=none
 bsz:base.objs.size≤s.heap.objs.size
 funs:s.heap.FunFrames base outer
 frf:∀b∈frs outer,H b=none
 hok:HOk P w H s.heap
 bare:AllBare s.gens
noncomputable def CE (outer:List Env) (P:Program) (w:World) (H:Hp) (s:Shared) (Q:VK) (u:Value) (s':Shared):Prop:=
 ∃v H',s'.os=s.os∧AllBare s'.gens∧Un (frs outer) [] H H' s.heap s'.heap∧HOk P w H' s'.heap∧JX v u∧Q v H'
noncomputable def CR (CX:CXT) (outer:List Env) (P:Program) (w:World) (H:Hp) (s:Shared) (Q:VK) (E:XK) (r:Result) (s':Shared):Prop:=
 match r with
 | .ok (.ret u)=>CE outer P w H s Q u s'
 | .ok _=>False
 | .error e=>CX outer H s E e s'
structure JF (P:Program) (w:World) (K:PySem.W.Frag) (mg:Str→Option Value) (base:Heap) (CX:CXT) (k:Nat) (f:Addr) (fd:FuncData) (ps:List Str) (sp:Sp):Prop where
 len:∀vs H Q E,sp vs H Q E→vs.length=ps.length
 run:∀(A:Around) (outer:List Env) (s:Shared) (H:Hp) (args:Args) (us:List Value) (vs:List V) (Q:VK) (E:XK),JaR k A→Jrf P w K mg base A outer s H→BindsTo s fd args (ps.zip us)→JY vs us→sp vs H Q E→
  codeAny (model P w) A (.call (.ref f) args) (CR CX outer P w H s Q E) s
theorem Jrf.make {P:Program} {w:World} {K:PySem.W.Frag} {mg:Str→Option Value} {base:Heap} {A:Around} {outer:List Env} {s:Shared} {H:Hp} (e:Jrf P w K mg base A outer s H) (C:Addr) (us:List Value) (kw:List (Str×Value)):
  Jrf P w K mg base (A.under (.builtin "type.__call__" ⟨.ref C::us,kw⟩)) outer s H:=⟨by first|exact e.frames|(simpa [Around.under,Code.envs,Code.isFrame,pushEnvs] using e.frames),e.mod,e.bs,e.bsz,e.funs,e.frf,e.hok,e.bare⟩
section
variable {X:Cx} {pins:List (Addr×Obj)} {σ:St} {H:Hp} {s s':Shared}
theorem Inv.env0 (I:Inv X pins σ H s):Jrf X.prog X.w X.K X.mg X.base X.A X.stack s H:=
 ⟨I.ok.frames,I.ok.mod,I.bs,Nat.le_trans I.ok.bsz I.sz,I.stack,I.stkFree,I.hok,I.bare⟩
theorem Inv.after {Q:VK} {u:Value} (I:Inv X pins σ H s) (h:CE X.stack X.prog X.w H s Q u s'):EP X pins σ Q u s':=by
 obtain⟨v,H',os,bare,un,hok,r,q⟩:=h
 obtain⟨hh,g,d,t,os'⟩:=s'
 obtain rfl:os'=s.os:=os
 exact⟨v,H',I.call (h':=hh) (g':=g) (d':=d) (t':=t) (ch:=[]) un hok bare (fun b z=>absurd z (by simp)),r,q⟩
end
noncomputable def Jvw (sp:Sp) (dvs:List V) (E:XK) (t:TA):TE:=fun σ H Q=>t σ H fun vs H1=>sp (vs++dvs) H1 Q E
noncomputable def JwE (C:Addr) (m:Str) (sp:Sp) (dvs:List V) (E:XK) (ta:TE) (t:TA):TE:=fun σ H Q=>ta σ H fun x H1=>∃a dx fs,x=.ref a∧H1 a=some (.ins C dx fs)∧fs.lookup m=none∧
 t σ H1 fun vs H2=>sp (x::(vs++dvs)) H2 Q E
noncomputable def Jtf (C:Addr) (sp:Sp) (dvs:List V) (E:XK) (t:TA):TE:=fun σ H Q=>t σ H fun vs H1=>∀x dx,H1 x=none→H1 dx=none→dx≠x→
 sp (.ref x::(vs++dvs)) (upd (upd H1 dx (.own x)) x (.ins C dx [])) (fun v H2=>v=.non∧Q (.ref x) H2) E
noncomputable def JcR (K:PySem.W.Frag) (fd:FuncData) (ps:List Str) (ds:List Value):Prop:=
 ∀(s:Shared) (us:List Value),K.In s.heap→(us++ds).length=ps.length→BindsTo s fd ⟨us,[]⟩ (ps.zip (us++ds))
theorem JcR.all {K:PySem.W.Frag} {fd:FuncData} {ps:List Str} (h:∀us:List Value,us.length=ps.length→bindArgs fd ⟨us,[]⟩=pure (ps.zip us)):JcR K fd ps []:=fun s us _ hl=>by
 rw[List.append_nil] at hl⊢
 exact .of_eq (h us hl)
noncomputable def Jfh (CX:CXT) (X:Cx) (E:XK):Prop:=∀(pins:List (Addr×Obj)) (σ:St) (H:Hp) (s:Shared) (e:Value) (s':Shared),Inv X pins σ H s→CX X.stack H s E e s'→X.xe e s'
section
variable {X:Cx} {CX:CXT} {k:Nat} {f C:Addr} {fd:FuncData} {ps:List Str} {sp:Sp} {dvs:List V} {ds:List Value} {E:XK} {x m:Str} {p pos apos:Pos} {e o:Expr} {es:List Expr} {ta:TE} {t:TA}
theorem Jqq {pins:List (Addr×Obj)} {σ:St} {H:Hp} {s:Shared} {Q:VK} {us:List Value} {vs:List V} (F:JF X.prog X.w X.K X.mg X.base CX k f fd ps sp) (hr:JaR k X.A) (hb:JcR X.K fd ps ds) (hd:JY dvs ds) (hx:Jfh CX X E)
  (I:Inv X pins σ H s) (r:JY vs us) (h:sp (vs++dvs) H Q E):wpAny (model X.prog X.w) X.A (call (.ref f) us) (EP X pins σ Q) X.xe s:=by
 have r2:JY (vs++dvs) (us++ds):=r.append hd
 have hl:(us++ds).length=ps.length:=by rw[←r2.length];exact F.len _ _ _ _ h
 refine wpAny_call (codeAny_mono (F.run X.A X.stack s H ⟨us,[]⟩ (us++ds) (vs++dvs) Q E hr I.env0 (hb s us I.kIn hl) r2 h) fun r s' hq=>?_)
 cases r with
 |error e=>exact hx pins σ H s e s' I hq
 |ok fl=>
  cases fl with
  |ret u=>exact I.after hq
  |next=>exact False.elim hq
  |brk=>exact False.elim hq
  |cont=>exact False.elim hq
theorem JuL (F:JF X.prog X.w X.K X.mg X.base CX k f fd ps sp) (hr:JaR k X.A) (hg:Gl X x) (hm:X.mg x=some (.ref f)) (hk:PySem.W.keepIn X.K (.ref f)=true) (hb:JcR X.K fd ps ds) (hd:JY dvs ds) (hx:Jfh CX X E)
  (ha:PA X (e::es) t) (hdb:(x==("__debug__":Str))=false:=by decide) (he:starEach (e::es) X.env=(false,eval e X.env)::starEach es X.env:=by rfl) (hpl:(backTo pos (starEach es X.env)).any (·.1)=false:=by rfl):
  PE X (.Call (.Name x p) (e::es) [] pos) (Jvw sp dvs E t):=by
 intro pins s σ H Q I h
 refine wpAny_Call_Name_kw (Jke I hg hm ?_ hdb)
 refine PySem.W.callWith_K (h₀:=X.base) I.ok.mod.kin hk (thn (ha pos pins s σ H _ I h) fun us s1 ⟨vs,H1,I1,r,q⟩=>⟨I1.kIn,?_⟩) he hpl
 exact Jqq F hr hb hd hx I1 r q
theorem Vc {pl:Sem Bool} (he:PE X o ta) (c:Cls X.K C) (hm:Jwz X.K C m f) (F:JF X.prog X.w X.K X.mg X.base CX k f fd ps sp) (hr:JaR k X.A) (hb:JcR X.K fd ps ds) (hd:JY dvs ds) (hx:Jfh CX X E) (ha:PA X (e::es) t)
  (hst:starEach (e::es) X.env=(false,eval e X.env)::starEach es X.env:=by rfl) (hpl:(backTo pos (starEach es X.env)).any (·.1)=false:=by rfl)
  (ht:eval (.Call (.Attribute o m apos) (e::es) [] pos) X.env=(do
   let ov←eval o X.env
   standAt apos.atName
   let(f,first)←holding [ov] (getMethod ov m pl)
   callWith pos f first (backTo pos (starEach (e::es) X.env)) (backToKw pos (keywordEach [] X.env))):=by rfl):
  PE X (.Call (.Attribute o m apos) (e::es) [] pos) (JwE C m sp dvs E ta t):=by
 intro pins s σ H Q I h
 refine PySem.W.methodCall_KW (pl:=pl) (thn (he pins s σ H _ I h) fun u s1 ⟨x,H1,I1,rx,a,dx,fs,ex,ea,l,q⟩=>?_) ht
 subst ex
 obtain rfl:u=Value.ref a:=rx
 refine JqO I1 ea c hm l ?_
 refine PySem.W.callWith_K (first:=[.ref a]) (h₀:=X.base) I.ok.mod.kin hm.kp (thn (ha pos pins s1 σ H1 _ I1 q) fun us s2 ⟨vs,H2,I2,r,q2⟩=>⟨I2.kIn,?_⟩) hst hpl
 exact Jqq (us:=.ref a::us) (vs:=.ref a::vs) F hr hb hd hx I2 (.cons rfl r) q2
structure Mk (K:PySem.W.Frag) (C f:Addr):Prop where
 makes:PySem.W.makesIn K C=true
 init:PySem.W.findIn K (.ref C) "__init__"=some (some (.ref f))
 fn:PySem.W.isFn K (.ref f)=true
 kp:PySem.W.keepIn K (.ref C)=true
theorem Jo5 {pins:List (Addr×Obj)} {σ:St} {H:Hp} {s:Shared} {Q:VK} {us:List Value} {vs:List V} (M:Mk X.K C f) (F:JF X.prog X.w X.K X.mg X.base CX k f fd ps sp) (hr:JaR (k+1) X.A) (hb:JcR X.K fd ps ds) (hd:JY dvs ds)
  (hx:Jfh CX X E) (I:Inv X pins σ H s) (r:JY vs us)
  (h:∀x dx,H x=none→H dx=none→dx≠x→sp (.ref x::(vs++dvs)) (upd (upd H dx (.own x)) x (.ins C dx [])) (fun v H2=>v=.non∧Q (.ref x) H2) E):
  wpAny (model X.prog X.w) X.A (call (.ref C) us) (EP X pins σ Q) X.xe s:=by
 have hq:=h (s.heap.objs.size+1) s.heap.objs.size (I.hok.fresh (Nat.le_succ _)) (I.hok.fresh (Nat.le_refl _)) (Nat.ne_of_lt (Nat.lt_succ_self _))
 have I2:=Inv.made (C:=C) I
 have r2:JY (V.ref (s.heap.objs.size+1)::(vs++dvs)) (Value.ref (s.heap.objs.size+1)::(us++ds)):=.cons rfl (r.append hd)
 have hl:(Value.ref (s.heap.objs.size+1)::us++ds).length=ps.length:=by
  have e:=r2.length
  rw[F.len _ _ _ _ hq] at e
  exact e.symm
 refine wpAny_call (JtK (f:=f) I.kIn M.makes M.init (beq_iff_eq.mp M.fn) (codeAny_mono (F.run _ X.stack _ _ ⟨Value.ref (s.heap.objs.size+1)::us,[]⟩ (Value.ref (s.heap.objs.size+1)::(us++ds)) _ _ E (hr.make C us [])
  (I2.env0.make C us []) (hb _ (Value.ref (s.heap.objs.size+1)::us) I2.kIn hl) r2 hq) fun r s' hq'=>?_))
 cases r with
 |error e=>exact hx pins σ _ _ e s' I2 hq'
 |ok fl=>
  cases fl with
  |ret u=>
   obtain⟨v,H',I3,rv,ev,q3⟩:=I2.after hq'
   subst ev
   exact⟨rv,⟨V.ref (s.heap.objs.size+1),H',I3,rfl,q3⟩⟩
  |next=>exact False.elim hq'
  |brk=>exact False.elim hq'
  |cont=>exact False.elim hq'
theorem JuI (M:Mk X.K C f) (F:JF X.prog X.w X.K X.mg X.base CX k f fd ps sp) (hr:JaR (k+1) X.A) (hg:Gl X x) (hm:X.mg x=some (.ref C)) (hb:JcR X.K fd ps ds) (hd:JY dvs ds) (hx:Jfh CX X E)
  (ha:PA X (e::es) t) (hdb:(x==("__debug__":Str))=false:=by decide) (he:starEach (e::es) X.env=(false,eval e X.env)::starEach es X.env:=by rfl) (hpl:(backTo pos (starEach es X.env)).any (·.1)=false:=by rfl):
  PE X (.Call (.Name x p) (e::es) [] pos) (Jtf C sp dvs E t):=by
 intro pins s σ H Q I h
 refine wpAny_Call_Name_kw (Jke I hg hm ?_ hdb)
 refine PySem.W.callWith_K (h₀:=X.base) I.ok.mod.kin M.kp (thn (ha pos pins s σ H _ I h) fun us s1 ⟨vs,H1,I1,r,q⟩=>⟨I1.kIn,?_⟩) he hpl
 exact Jo5 M F hr hb hd hx I1 r q
theorem Jtz (M:Mk X.K C f) (F:JF X.prog X.w X.K X.mg X.base CX k f fd ps sp) (hr:JaR (k+1) X.A) (hg:Gl X x) (hm:X.mg x=some (.ref C)) (hb:JcR X.K fd ps ds) (hd:JY dvs ds) (hx:Jfh CX X E)
  (hdb:(x==("__debug__":Str))=false:=by decide):PE X (.Call (.Name x p) [] [] pos) (Jtf C sp dvs E Jte):=by
 intro pins s σ H Q I h
 refine wpAny_Call_Name_kw (Jke I hg hm ?_ hdb)
 exact PySem.W.callWith_K0 I.kIn M.kp (Jo5 (us:=[]) M F hr hb hd hx I .nil h)
end
noncomputable def PK (X:Cx) (kws:List Keyword) (t:TA):Prop:=
 ∀(pos:Pos) (pins:List (Addr×Obj)) (s:Shared) (σ:St) (H:Hp) (Q:List V→Hp→Prop),Inv X pins σ H s→t σ H Q→wpAny (model X.prog X.w) X.A (evalAll ((backToKw pos (keywordEach kws X.env)).map (·.2))) (AP X pins σ Q) X.xe s
section
variable {X:Cx} {CX:CXT} {k:Nat} {f C:Addr} {fd:FuncData} {ps ks:List Str} {sp:Sp} {E:XK} {x m:Str} {p pos apos kpos:Pos} {e o:Expr} {es:List Expr} {kws:List Keyword} {te ta:TE} {t tk:TA} {nm:Option Str}
theorem Jv1:PK X [] Jte:=fun _ _ _ _ H Q I h=>wpAny_evalAll_nil ⟨[],H,I,.nil,h⟩
theorem JuE (ha:PE X e te) (hr:PK X kws t):PK X (⟨nm,e,kpos⟩::kws) (Jrn te t):=by
 intro pos pins s σ H Q I h
 show wpAny _ _ (evalAll ((do let v←eval e X.env;standAt pos;pure v)::(backToKw pos (keywordEach kws X.env)).map (·.2))) _ _ s
 refine wpAny_evalAll_cons (wpAny_bind (thn (ha pins s σ H _ I h) fun u s1 ⟨x,H1,I1,r1,q1⟩=>wpAny_bind (wpAny_standAt (wpAny_pure ?_))))
 exact thn (hr pos pins s1 σ H1 _ I1 q1) fun us s2 ⟨xs,H2,I2,r2,q2⟩=>⟨x::xs,H2,I2,.cons r1 r2,q2⟩
variable {g:List Value→List Value→List Value} {gV:List V→List V→List V}
end
structure Ji (N P:List Str) (sc:Scope):Prop where
 kind:sc.kind=.function
 co:sc.isCoroutine=false
 gen:sc.isGenerator=false
 nd:N.Nodup
 pre:N.take P.length=P
 par:∀x∈P,sc.names.lookup x=some .local∨sc.names.lookup x=some .cell
 nofree:∀y∈sc.names,y.2≠.free
theorem Jm7 {kindOf:Str→Option NameKind} {x:Str}:∀{binds:List (Str×Value)} {m:Str→Option Value},(∀v,(x,v)∉binds)→bindL kindOf binds m x=m x
 |[],_,_=>rfl
 |(n,v)::r,m,h=>by
  unfold bindL
  rw[Jm7 fun w hw=>h w (List.mem_cons_of_mem _ hw)]
  split
  ·have:x≠n:=by rintro rfl;exact h v List.mem_cons_self
   simp[this]
  ·rfl
theorem Jm9 {kindOf:Str→Option NameKind} {x:Str}:∀{binds:List (Str×Value)} {m:Str→Option Value},(∀v,(x,v)∉binds)→bindC kindOf binds m x=m x
 |[],_,_=>rfl
 |(n,v)::r,m,h=>by
  unfold bindC
  rw[Jm9 fun w hw=>h w (List.mem_cons_of_mem _ hw)]
  split
  ·rfl
  ·have:x≠n:=by rintro rfl;exact h v List.mem_cons_self
   simp[this]
theorem Jm8 {kindOf:Str→Option NameKind} {x:Str} {v:Value}:∀{P:List Str} {vs:List Value} {i:Nat} {m:Str→Option Value},P.Nodup→P[i]? =some x→vs[i]? =some v→kindOf x=some .local→
  bindL kindOf (P.zip vs) m x=some v
 |[],_,_,_,_,h,_,_=>by simp at h
 |_::_,[],_,_,_,_,h,_=>by simp at h
 |p::P,w::vs,0,m,nd,h1,h2,hk=>by
  simp at h1 h2;subst h1;subst h2
  show bindL kindOf ((p,w)::P.zip vs) m p=_
  unfold bindL
  rw[Jm7 fun v hv=>(List.nodup_cons.mp nd).1 (List.of_mem_zip hv).1,if_pos hk]
  simp
 |p::P,w::vs,i+1,m,nd,h1,h2,hk=>by
  show bindL kindOf ((p,w)::P.zip vs) m x=_
  unfold bindL
  exact Jm8 (i:=i) (List.nodup_cons.mp nd).2 (by simpa using h1) (by simpa using h2) hk
theorem Jna {kindOf:Str→Option NameKind} {x:Str} {v:Value}:∀{P:List Str} {vs:List Value} {i:Nat} {m:Str→Option Value},P.Nodup→P[i]? =some x→vs[i]? =some v→kindOf x≠some .local→
  bindC kindOf (P.zip vs) m x=some v
 |[],_,_,_,_,h,_,_=>by simp at h
 |_::_,[],_,_,_,_,h,_=>by simp at h
 |p::P,w::vs,0,m,nd,h1,h2,hk=>by
  simp at h1 h2;subst h1;subst h2
  show bindC kindOf ((p,w)::P.zip vs) m p=_
  unfold bindC
  rw[Jm9 fun v hv=>(List.nodup_cons.mp nd).1 (List.of_mem_zip hv).1,if_neg hk]
  simp
 |p::P,w::vs,i+1,m,nd,h1,h2,hk=>by
  show bindC kindOf ((p,w)::P.zip vs) m x=_
  unfold bindC
  exact Jna (i:=i) (List.nodup_cons.mp nd).2 (by simpa using h1) (by simpa using h2) hk
noncomputable def start (N:List Str) (vs:List V):St:=vs.map some++List.replicate (N.length-vs.length) none
noncomputable def JsM (CX:CXT) (P:Program) (w:World) (K:PySem.W.Frag) (mg:Str→Option Value) (base:Heap) (N:List Str) (qual:Str) (scope:Scope) (f:Addr) (cd:Value) (A:Around) (outer:List Env) (s:Shared) (H:Hp) (E:XK):Cx where
 prog:=P
 w:=w
 K:=K
 mg:=mg
 base:=base
 A:=A.deeper (envOfC qual scope s.heap.objs.size f cd)
 N:=N
 s_0:=s
 H_0:=H
 env:=envOfC qual scope s.heap.objs.size f cd
 outer:=outer
 stack:=envOfC qual scope s.heap.objs.size f cd::outer
 ex:=[]
 calm:=true
 fn:=fun _=>true
 pn:=[]
 xe:=fun e s'=>wpAny (model P w) (A.deeper (envOfC qual scope s.heap.objs.size f cd)) (leaving (envOfC qual scope s.heap.objs.size f cd) e) (fun _ s''=>CX outer H s E e s'') (fun e' s''=>CX outer H s E e' s'') s'
theorem JpF {sc:Scope} {n:Nat} {x:Str} (h:sc.names.lookup x=some .cell):∃c,(cellsFrom n sc.names []).lookup x=some c:=by
 have q:=PySem.W.cellsFrom_some sc.names n [] (.inl h)
 exact Option.isSome_iff_exists.mp q
theorem JsC {CX:CXT} {P:Program} {w:World} {K:PySem.W.Frag} {mg:Str→Option Value} {base:Heap} {N ps:List Str} {qual:Str} {scope:Scope} {f:Addr} {cd:Value} {A:Around} {outer:List Env} {s s1:Shared} {H:Hp} {E:XK} {us:List Value} {vs:List V}
  (S:Ji N ps scope) (hd:A.handled=none) (e0:Jrf P w K mg base A outer s H) (hl:vs.length=ps.length) (r:JY vs us)
  (x:InCallC s s.heap.objs.size (bindL (envOfC qual scope s.heap.objs.size f cd).kindOf (ps.zip us) fun _=>none) (cellsFrom (s.heap.objs.size+1) scope.names []) (bindC (envOfC qual scope s.heap.objs.size f cd).kindOf (ps.zip us) fun _=>none) s1):
  Inv (JsM CX P w K mg base N qual scope f cd A outer s H E) [] (start N vs) H s1:=by
 have hpl:ps.length≤N.length:=by have:=congrArg List.length S.pre;rw[List.length_take] at this;omega
 obtain⟨h1,tk,rfl,hk⟩:=x.done
 have noA:∀b:Addr,b∉(JsM CX P w K mg base N qual scope f cd A outer s H E).ex:=fun b z=>absurd (show b∈([]:List Addr) from z) (by simp)
 refine⟨⟨e0.mod,S.kind,rfl,rfl,Nat.le_refl _,fun y z c h1 h2=>?_,fun y hy=>?_,fun y c _ h=>?_,fun _=>hd,Around.frames_deeper e0.frames,.inr ⟨rfl,rfl⟩,fun b z=>absurd z (noA b),e0.bs,e0.bsz,fun b _ _=>noA b,fun b z=>absurd z (noA b),e0.funs,e0.frf⟩,
  rfl,e0.bare,Un.kept hk,⟨_,x.toInCall.ns,fun i y v h1 h2 h3=>?_⟩,fun y c h=>⟨_,x.cell y c h⟩,e0.hok.fresh (Nat.le_refl _),fun y c h=>?_,fun p hp=>absurd (show p∈([]:List (Addr×Obj)) from hp) (by simp),e0.hok.kept hk,?_⟩
 ·exact name_of_addr x.apart (PySem.mem_of_lookup h1) (PySem.mem_of_lookup h2)
 ·have hy:scope.names.lookup y=some .cell∨scope.names.lookup y=some .free:=hy
  rcases hy with hy|hy
  ·exact JpF hy
  ·exact absurd rfl (S.nofree _ (PySem.mem_of_lookup hy))
 ·exact Nat.le_of_lt (x.above y c (PySem.mem_of_lookup h))
 ·have hi:i<vs.length:=by
   unfold start at h2
   by_cases hi:i<vs.length
   ·exact hi
   ·rw[List.getElem?_append_right (by simpa using hi)] at h2
    rw[List.getElem?_replicate] at h2
    split at h2<;>cases h2
  have ha:vs[i]? =some v:=by
   unfold start at h2
   rw[List.getElem?_append_left (by simpa using hi),List.getElem?_map] at h2
   cases e:vs[i]? with
   |none=>rw[e] at h2;cases h2
   |some a=>rw[e] at h2;cases h2;rfl
  obtain⟨u,hu,rv⟩:=r.get ha
  have hp:ps[i]? =some y:=by
   rw[←S.pre,List.getElem?_take_of_lt (by omega)];exact h1
  have ndP:ps.Nodup:=by rw[←S.pre];exact S.nd.sublist (List.take_sublist _ _)
  refine⟨u,rv,?_⟩
  rcases S.par y (List.mem_of_getElem? hp) with k|k
  ·exact .inl ⟨k,Jm8 ndP hp hu k⟩
  ·obtain⟨c,e⟩:=JpF (n:=s.heap.objs.size+1) k
   refine .inr ⟨.inl k,c,e,?_⟩
   have q:=x.cell y c e
   rw[Jna ndP hp hu (by show scope.names.lookup y≠_;rw[k];decide)] at q
   exact q
 ·exact e0.hok.fresh (Nat.le_of_lt (x.above y c (PySem.mem_of_lookup h)))
 ·unfold start
  show _=N.length
  rw[List.length_append,List.length_map,List.length_replicate]
  omega
theorem Jw4 {CX:CXT} {P:Program} {w:World} {K:PySem.W.Frag} {mg:Str→Option Value} {base:Heap} {k:Nat} {f:Addr} {name qual:Str} {params:Arguments} {body:List Stmt} {scope:Scope} {dV kV doc pm cdv ct oc:Value} {an od:Option Addr}
  {osl:Array (Option Value)} {N ps:List Str} {sp:Sp} (lk:K.lookup f=some ⟨oc,od,.func (PySem.W.fnOf name qual params body scope dV kV doc pm an cdv ct),osl⟩) (hcd:PySem.W.codeIn K cdv qual=true) (S:Ji N ps scope)
  (len:∀vs H Q E,sp vs H Q E→vs.length=ps.length)
  (hbody:∀(A:Around) (outer:List Env) (s:Shared) (H:Hp) (vs:List V) (Q:VK) (E:XK),JaR k (A.deeper (envOfC qual scope s.heap.objs.size f cdv))→sp vs H Q E→
   ∃t,PSs (JsM CX P w K mg base N qual scope f cdv A outer s H E) body t∧t {nx:=fun _ H'=>Q .non H',rt:=Q} (start N vs) H):
  JF P w K mg base CX (k+1) f (PySem.W.fnOf name qual params body scope dV kV doc pm an cdv ct) ps sp:=by
 refine⟨len,fun A outer s H args us vs Q E hr e0 hb r hsp=>?_⟩
 have hl:=len _ _ _ _ hsp
 have KX:K.In s.heap:=e0.mod.kin.keeps fun b o e=>(e0.bs b o e).1
 have lim:s.heap.NoLimit:=e0.mod.nolimit.keeps fun b o e=>(e0.bs b o e).1
 have hkind:∀y∈ps.zip us,scope.names.lookup y.1=some .local∨(scope.names.lookup y.1=some .cell∧((cellsFrom (s.heap.objs.size+1) scope.names []).lookup y.1).isSome=true):=fun⟨n,v⟩ hy=>by
  rcases S.par n (List.of_mem_zip hy).1 with q|q
  ·exact .inl q
  ·exact .inr ⟨q,PySem.W.cellsFrom_some _ _ _ (.inl q)⟩
 refine codeAny_call_function hr.depth (KX _ _ lk) rfl S.co S.gen rfl (PySem.W.codeRec_of KX hcd) (hb _ _ _ _ ?_)
 refine wpAny_newFunctionEnv_cells S.kind hkind fun env he s1 x=>?_
 subst he
 refine⟨lim.keeps x.toInCall.keep,codeAny_func ?_⟩
 obtain⟨t,ht,hq⟩:=hbody A outer s H vs Q E (hr.deeper _) hsp
 have I:Inv (JsM CX P w K mg base N qual scope f cdv A outer s H E) [] (start N vs) H s1:=JsC S hr.hd e0 hl r x
 refine wpAny_mono (ht [] s1 (start N vs) H _ I hq) (fun fl s' hs=>?_) fun e s' hs=>hs
 have fin:∀{σ':St} {H':Hp} {v:V} {u:Value},Inv (JsM CX P w K mg base N qual scope f cdv A outer s H E) [] σ' H' s'→JX v u→Q v H'→CE outer P w H s Q u s':=
  fun {σ' H' v u} J rv q=>⟨v,H',J.os,J.bare,J.base,J.hok,rv,q⟩
 cases fl with
 |ret u=>
  obtain⟨v,σ',H',J,rv,q⟩:=hs
  exact fin J rv q
 |next=>
  obtain⟨σ',H',J,q⟩:=hs
  exact fin (v:=V.non) (u:=Value.none) J rfl q
 |brk=>
  obtain⟨_,_,_,q⟩:=hs
  exact False.elim q
 |cont=>
  obtain⟨_,_,_,q⟩:=hs
  exact False.elim q
end L2
namespace L2
open PySem PySem.Spec PyProof.Rows
section
variable {X:Cx} {x:Str} {p pos:Pos} {e:Expr} {es:List Expr} {t:TA} {id T:String} {r:List V→Hp→VK→Prop}
noncomputable def tCB (r:List V→Hp→VK→Prop) (t:TA):TE:=fun σ H Q=>t σ H fun vs H1=>r vs H1 Q
theorem JV (hc:VV X (.builtin id) r) (hg:Gl X x) (hm:X.mg x=none) (hv:bootBuiltins x=some (.builtin id)) (ha:PA X (e::es) t) (hn:x≠"__name__":=by decide) (hdb:(x==("__debug__":Str))=false:=by decide)
  (he:starEach (e::es) X.env=(false,eval e X.env)::starEach es X.env:=by rfl) (hpl:(backTo pos (starEach es X.env)).any (·.1)=false:=by rfl):PE X (.Call (.Name x p) (e::es) [] pos) (tCB r t):=by
 intro pins s σ H Q I h
 refine wpAny_Call_Name_kw (Jg1 I hg hm hv ?_ hn hdb)
 exact PyProof.Rows.callWith_builtin1 (thn (ha pos pins s σ H _ I h) fun us s1 ⟨vs,H1,I1,r1,q1⟩=>hc pins s1 σ H1 vs us Q I1 r1 q1) he hpl
theorem Jio (hc:VV X (.type T) r) (hg:Gl X x) (hm:X.mg x=none) (hv:bootBuiltins x=some (.type T)) (ha:PA X (e::es) t) (hn:x≠"__name__":=by decide) (hdb:(x==("__debug__":Str))=false:=by decide)
  (he:starEach (e::es) X.env=(false,eval e X.env)::starEach es X.env:=by rfl) (hpl:(backTo pos (starEach es X.env)).any (·.1)=false:=by rfl):PE X (.Call (.Name x p) (e::es) [] pos) (tCB r t):=by
 intro pins s σ H Q I h
 refine wpAny_Call_Name_kw (Jg1 I hg hm hv ?_ hn hdb)
 exact PyProof.Rows.callWith_type1 (thn (ha pos pins s σ H _ I h) fun us s1 ⟨vs,H1,I1,r1,q1⟩=>hc pins s1 σ H1 vs us Q I1 r1 q1) he hpl
end
end L2
namespace HT
open PySem PyProof.Rows
section
variable {prog:Program} {w:World} {A:Around} {E:Value→Shared→Prop} {s:Shared}
theorem Jvi {t b:Addr} {vs ws:List Value} {Q:Value→Shared→Prop} (ht:IsTup s.heap t vs.toArray) (hb:IsTup s.heap b ws.toArray) (hv:vs≠[])
  (h1:ws=[]→Q (.ref t) s) (h2:ws≠[]→Q (.ref s.heap.objs.size) {s with heap:=s.heap.push {cls:=.type "tuple",data:=.seq (vs++ws).toArray}})
  (hsz:vs.length+ws.length≤sizeLine):wpAny (model prog w) A (binaryOp .Add (.ref t) (.ref b)) Q E s:=by
 obtain⟨⟨cls,dd,data,sl⟩,ho,hc,n,hd⟩:=id ht
 obtain⟨⟨cls2,dd2,data2,sl2⟩,ho2,hc2,n2,hd2⟩:=id hb
 simp only at hc hd hc2 hd2
 subst hc hd hc2 hd2
 have e:vs.toArray++ws.toArray=(vs++ws).toArray:=by simp
 by_cases hw:ws=[]
 ·exact concat_meets ⟨_,ho,rfl⟩ ⟨_,ho2,rfl⟩ noFill_tuple_add seq_tuple_add PySem.F.slot_tuple_add PySem.F.entry_tuple_add (PySem.F.args_tuple_add_2 _ _)
   (tuple_addW1 t b vs.toArray ws.toArray n n2 dd dd2 sl sl2 (by simpa using hv) (by simp[hw])) ⟨ho,ho2,h1 hw⟩
 ·refine concat_meets ⟨_,ho,rfl⟩ ⟨_,ho2,rfl⟩ noFill_tuple_add seq_tuple_add PySem.F.slot_tuple_add PySem.F.entry_tuple_add (PySem.F.args_tuple_add_2 _ _)
   (tuple_addW2 t b vs.toArray ws.toArray n n2 dd dd2 sl sl2 (by simpa using hv) (by simpa using hw) (by rw[List.size_toArray,List.size_toArray];exact hsz)) ⟨ho,ho2,?_⟩
  rw[e]
  exact h2 hw
noncomputable def sIx (n d:Nat):Option Int→Nat
 |none=>d
 |some v=>if v<0 then(v+(n:Int)).toNat else min v.toNat n
theorem Jka (n d k:Nat):sIx n d (some (k:Int))=min k n:=by
 show(if(k:Int)<0 then((k:Int)+(n:Int)).toNat else min (k:Int).toNat n)=min k n
 rw[if_neg (by omega),Int.toNat_natCast]
end
end HT
namespace L2
open PySem PySem.Spec PyProof.Rows
noncomputable abbrev TO:=St→Hp→(Option Int→Hp→Prop)→Prop
noncomputable def PO (X:Cx) (e:Option Expr) (t:TO):Prop:=
 ∀(pins:List (Addr×Obj)) (s:Shared) (σ:St) (H:Hp) (Q:Option Int→Hp→Prop),Inv X pins σ H s→t σ H Q→
  wpAny (model X.prog X.w) X.A (evalPart e X.env) (fun u s'=>∃o H',Inv X pins σ H' s'∧IsPart u o∧Q o H') X.xe s
noncomputable def Jut:TO:=fun _ H Q=>Q none H
noncomputable def JwD (t:TE):TO:=fun σ H Q=>t σ H fun x H1=>∃i,x=.int i∧Q (some i) H1
section
variable {X:Cx} {e:Expr} {te:TE} {lo hi:Option Expr} {tl th:TO} {pos p2:Pos}
theorem Jkb:PO X none Jut:=by
 intro pins s σ H Q I h
 rw[evalPart_none]
 exact wpAny_pure ⟨none,H,I,.none,h⟩
theorem Jcq (h:PE X e te):PO X (some e) (JwD te):=by
 intro pins s σ H Q I hw
 rw[evalPart_some]
 refine thn (h pins s σ H _ I hw) fun u s1 ⟨x,H1,I1,r1,q1⟩=>?_
 obtain⟨i,rfl,q⟩:=q1
 obtain⟨t,rfl⟩:=r1
 exact⟨some i,H1,I1,.int i t,q⟩
noncomputable def SlR (X:Cx) (r:V→Option Int→Option Int→Hp→VK→Prop):Prop:=
 ∀(pins:List (Addr×Obj)) (s:Shared) (σ:St) (H:Hp) (x:V) (v vl vu:Value) (lo hi:Option Int) (sl:Addr) (Q:VK),Inv X pins σ H s→JX x v→s.heap.IsSliceOf sl vl vu .none→IsPart vl lo→IsPart vu hi→r x lo hi H Q→
  ∃T id,typeLookup (.type T) "__getitem__"=pure (some (.builtin id))∧s.TypeIs v T∧wpAny (model X.prog X.w) X.A (getItem v (.ref sl)) (EP X pins σ Q) X.xe s
noncomputable def tSl (r:V→Option Int→Option Int→Hp→VK→Prop) (te:TE) (tl th:TO):TE:=fun σ H Q=>te σ H fun x H1=>tl σ H1 fun l H2=>th σ H2 fun u H3=>r x l u H3 Q
theorem Jdn {r:V→Option Int→Option Int→Hp→VK→Prop} (hr:SlR X r) (he:PE X e te) (hl:PO X lo tl) (hu:PO X hi th):PE X (.Subscript e (.Slice lo hi none p2) pos) (tSl r te tl th):=by
 intro pins s σ H Q I h
 refine Subscript_ (thn (he pins s σ H _ I h) fun v s1 ⟨x,H1,I1,r1,q1⟩=>?_)
 refine wpAny_Slice (thn (hl pins s1 σ H1 _ I1 q1) fun vl s2 ⟨l,H2,I2,pl,q2⟩=>thn (hu pins s2 σ H2 _ I2 q2) fun vu s3 ⟨u,H3,I3,pu,q3⟩=>?_)
 rw[evalPart_none]
 refine wpAny_pure ?_
 have I4:Inv X pins σ H3 {s3 with heap:=s3.heap.push {cls:=.type "slice",data:=.fields #[vl,vu,.none]}}:=I3.kept (t':=s3.toks) fun b ob q=>Heap.get?_push_of_some _ q
 obtain⟨T,id,hT,ht,hg⟩:=hr pins {s3 with heap:=s3.heap.push {cls:=.type "slice",data:=.fields #[vl,vu,.none]}} σ H3 x v vl vu l u s3.heap.objs.size Q I4 r1 (Heap.IsSliceOf.new ..) pl pu q3
 show wpAny (model X.prog X.w) X.A (subscriptTail e (.Slice lo hi none p2) v (.ref s3.heap.objs.size)) (EP X pins σ Q) X.xe {s3 with heap:=s3.heap.push {cls:=.type "slice",data:=.fields #[vl,vu,.none]}}
 exact tail_any (ops:=[.ref s3.heap.objs.size,v]) ht hT hg (by with_unfolding_all rfl)
noncomputable def UF (xs:List V) (lo hi:Option Int):List V:=(xs.drop (HT.sIx xs.length 0 lo)).take (HT.sIx xs.length xs.length hi-HT.sIx xs.length 0 lo)
theorem JaP (xs:List V) (lo hi:Option Int):(UF xs lo hi).length≤xs.length:=by
 unfold UF
 rw[List.length_take,List.length_drop]
 omega
noncomputable def JwP (K:PySem.W.Frag):R2:=fun x y H Q=>∃a b xs ys,x=.ref a∧y=.ref b∧SqT K H a xs∧SqT K H b ys∧xs≠[]∧xs.length+ys.length≤sizeLine∧
 (ys=[]→Q (.ref a) H)∧(ys≠[]→∀p,H p=none→Q (.ref p) (upd H p (.tup (xs++ys))))
theorem JY.nil_iff {xs:List V} {us:List Value} (r:JY xs us):us=[]↔xs=[]:=by
 cases r with
 |nil=>simp
 |cons _ _=>simp
theorem JuN:OpR X (binaryOp .Add) (JwP X.K):=by
 intro pins s σ H x y v u Q I rx ry h
 obtain⟨a,b,xs,ys,rfl,rfl,ha,hb,hx,hz,q1,q2⟩:=h
 cases rx
 cases ry
 obtain⟨its,r1,p1,_⟩:=I.tuple ha
 obtain⟨its2,r2,p2,_⟩:=I.tuple hb
 refine HT.Jvi p1 p2 (fun z=>hx (r1.nil_iff.mp z)) (fun z=>⟨.ref a,H,I,rfl,q1 (r2.nil_iff.mp z)⟩) (fun z=>?_) (by rw[←r1.length,←r2.length];exact hz)
 refine⟨.ref s.heap.objs.size,_,I.laid (t':=s.toks) (o:=.tup (xs++ys)) (fun b ob q=>Heap.get?_push_of_some _ q) (Nat.le_refl _) ?_,rfl,q2 (fun w=>z (r2.nil_iff.mpr w)) _ (I.hok.fresh (Nat.le_refl _))⟩
 exact⟨by rw[List.length_append];exact hz,_,r1.append r2,IsTup.new _ _⟩
end
end L2
namespace L2
open PySem PySem.Spec PyProof.Rows
noncomputable def ixN (n:Nat) (i:Int):Option Nat:=if 0≤i then(if i<n then some i.toNat else none) else if-(n:Int)≤i then some (i+n).toNat else none
noncomputable def atI {α:Type} (xs:List α) (i:Int):Option α:=(ixN xs.length i).bind fun j=>xs[j]?
theorem JrE {n:Nat} {i:Int} {j:Nat} (h:ixN n i=some j):seqIndex? i n=some j∧j<n∧-(n:Int)≤i∧i<n:=by
 unfold ixN at h
 by_cases h0:0≤i
 ·rw[if_pos h0] at h
  by_cases h1:i<n
  ·rw[if_pos h1] at h
   have e:i.toNat=j:=Option.some.inj h
   exact⟨by rw[seqIndex_of h0 h1,e],by omega,by omega,h1⟩
  ·rw[if_neg h1] at h;cases h
 ·rw[if_neg h0] at h
  by_cases h1:-(n:Int)≤i
  ·rw[if_pos h1] at h
   have e:(i+n).toNat=j:=Option.some.inj h
   exact⟨by rw[seqIndex_neg (by omega) h1,e],by omega,h1,by omega⟩
  ·rw[if_neg h1] at h;cases h
theorem Jok {α:Type} {xs:List α} {i:Int} {v:α} (h:atI xs i=some v):∃j,seqIndex? i xs.length=some j∧xs[j]? =some v∧j<xs.length∧-(xs.length:Int)≤i∧i<xs.length:=by
 unfold atI at h
 cases e:ixN xs.length i with
 |none=>rw[e] at h;cases h
 |some j=>
  rw[e] at h
  obtain⟨h1,h2,h3,h4⟩:=JrE e
  exact⟨j,h1,h,h2,h3,h4⟩
theorem Jp {α:Type} {xs:List α} {j:Nat} {v:α} (h:xs[j]? =some v):atI xs (j:Int)=some v:=by
 have hj:j<xs.length:=(List.getElem?_eq_some_iff.mp h).1
 have e:ixN xs.length (j:Int)=some j:=by
  unfold ixN
  rw[if_pos (by omega),if_pos (by omega)];simp
 unfold atI;rw[e];exact h
noncomputable def Jom (b:Expr):Prop:=∀o i,subscripted b false o i=operate [o,i] (getItem o i)
noncomputable def IxR (X:Cx) (r:R2):Prop:=
 ∀(value slice:Expr) (pins:List (Addr×Obj)) (s:Shared) (σ:St) (H:Hp) (x y:V) (v u:Value) (Q:VK),Inv X pins σ H s→JX x v→JX y u→r x y H Q→
  subscripted slice false v u=operate [v,u] (getItem v u)→wpAny (model X.prog X.w) X.A (subscriptTail value slice v u) (EP X pins σ Q) X.xe s
noncomputable def MtR (X:Cx) (id:String) (r:V→List V→Hp→VK→Prop):Prop:=
 ∀(pins:List (Addr×Obj)) (s:Shared) (σ:St) (H:Hp) (x:V) (xs:List V) (v:Value) (us:List Value) (Q:VK),Inv X pins σ H s→JX x v→JY xs us→r x xs H Q→
  wpAny (model X.prog X.w) X.A (call (.builtin id) (v::us)) (EP X pins σ Q) X.xe s
section
variable {X:Cx} {a b:Expr} {ta tb:TE} {pos:Pos}
theorem Jrt {r:R2} (hr:IxR X r) (ha:PE X a ta) (hb:PE X b tb) (hs:Jom b):PE X (.Subscript a b pos) (tOp r ta tb):=by
 intro pins s σ H Q I h
 exact Subscript_ (Jwr ha hb I h fun v u s2 x y H2 I2 rx ry q=>hr a b pins s2 σ H2 x y v u Q I2 rx ry q (hs _ _))
noncomputable def Jsq (K:PySem.W.Frag):R2:=fun x y H Q=>∃p xs i v,x=.ref p∧y=.int i∧SqL K H p xs∧atI xs i=some v∧Q v H
noncomputable def JvY (K:PySem.W.Frag):R2:=fun x y H Q=>∃p xs i v,x=.ref p∧y=.int i∧SqT K H p xs∧atI xs i=some v∧Q v H
theorem Ju1:IxR X (Jsq X.K):=by
 intro value slice pins s σ H x y v u Q I rx ry h hs
 obtain⟨p,xs,i,z,rfl,rfl,hq,he,q⟩:=h
 cases rx
 obtain⟨t,rfl⟩:=ry
 obtain⟨its,r,pl,hz⟩:=I.list hq
 obtain⟨j,h1,h2,h3,h4,h5⟩:=Jok he
 obtain⟨w,ew,rw'⟩:=r.get h2
 have hl:=r.length
 have hn:=Jiy
 have fin:EP X pins σ Q w s:=⟨z,H,I,rw',q⟩
 by_cases h0:0≤i
 ·have hj:i.toNat=j:=by
   rw[seqIndex_of h0 h5] at h1
   exact Option.some.inj h1
  exact item_listR pl.isList h0 (by omega) (by rw[hj];simpa using ew) fin hs
 ·have hj:(i+(its.toArray.size:Int)).toNat=j:=by
   rw[seqIndex_neg (by omega) h4] at h1
   rw[List.size_toArray,←hl]
   exact Option.some.inj h1
  exact subscriptTail_builtinR (x:=w) pl.isList.typeIs slot_list_getitem.lookup
   (wpAny_getItem_list_neg (Q:=fun r s'=>r=w∧EP X pins σ Q r s') pl.isList (by omega) (by rw[List.size_toArray]<;>omega) (by omega) (by rw[hj];simpa using ew) ⟨rfl,fin⟩) hs
theorem Jwi:IxR X (JvY X.K):=by
 intro value slice pins s σ H x y v u Q I rx ry h hs
 obtain⟨p,xs,i,z,rfl,rfl,hq,he,q⟩:=h
 cases rx
 obtain⟨t,rfl⟩:=ry
 obtain⟨its,r,pl,hz⟩:=I.tuple hq
 obtain⟨j,h1,h2,h3,h4,h5⟩:=Jok he
 obtain⟨w,ew,rw'⟩:=r.get h2
 have hl:=r.length
 have hn:=Jiy
 have fin:EP X pins σ Q w s:=⟨z,H,I,rw',q⟩
 exact subscriptTail_builtinR (x:=w) pl.typeIs slot_tuple_getitem.lookup
  (getItem_tuple (j:=j) (Q:=fun r s'=>r=w∧EP X pins σ Q r s') pl (by omega) (by omega) (by rw[List.size_toArray,←hl];exact h1) (by simpa using ew) ⟨rfl,fin⟩) hs
theorem JqF (its:List Value) (n j:Nat) (u:Value):Obj.mapSeq (·.setIfInBounds j u) {cls:=.type "list",data:=.seq its.toArray n}={cls:=.type "list",data:=.seq (its.set j u).toArray n}:=by
 simp[Obj.mapSeq]
theorem Inv.lst {pins:List (Addr×Obj)} {σ:St} {H:Hp} {s:Shared} {p:Addr} {xs:List V} (I:Inv X pins σ H s) (h:H p=some (.lst xs)):
  ∃(its:List Value) (n:Nat),JY xs its∧s.heap.get? p=some {cls:=.type "list",data:=.seq its.toArray n}∧xs.length≤sizeLine:=by
 obtain⟨z,its,n,r,e⟩:=I.hok p _ h
 exact⟨its,n,r,e,z⟩
theorem Inv.lstUpd {pins:List (Addr×Obj)} {σ:St} {H:Hp} {s:Shared} {p:Addr} {xs ys:List V} {its its':List Value} {n n':Nat} {f:Obj→Obj} (I:Inv X pins σ H s) (h:H p=some (.lst xs))
  (ho:s.heap.get? p=some {cls:=.type "list",data:=.seq its.toArray n}) (hf:f {cls:=.type "list",data:=.seq its.toArray n}={cls:=.type "list",data:=.seq its'.toArray n'}) (r:JY ys its') (hz:ys.length≤sizeLine) (t:Nat):
  Inv X pins σ (upd H p (.lst ys)) {s with heap:=s.heap.update p f,toks:=t}:=by
 have e:(s.heap.update p f).get? p=some {cls:=.type "list",data:=.seq its'.toArray n'}:=by
  rw[Heap.get?_update_self f ho (by rw[hf]<;>rfl),hf]
 refine I.write (x:=p) (e:=p) (by rw[h];trivial) (.inl rfl) (fun b u hb q=>(Heap.get?_update_other _ _ (Ne.symm hb)).trans q) ⟨_,e⟩ ?_
 exact⟨hz,its',n',r,e⟩
noncomputable def Jvz:V→V→V→Hp→(Hp→Prop)→Prop:=fun o i v H Q=>∃p xs k j,o=.ref p∧i=.int k∧H p=some (.lst xs)∧ixN xs.length k=some j∧Q (upd H p (.lst (xs.set j v)))
theorem Jhr:Jwx X Jvz:=by
 intro pins s σ H o i v ov iv u Q I ro ri rv h
 obtain⟨p,xs,k,j,rfl,rfl,hp,hj,q⟩:=h
 cases ro
 obtain⟨t,rfl⟩:=ri
 obtain⟨its,n,r,ho,hz⟩:=I.lst hp
 obtain⟨h1,h2,h3,h4⟩:=JrE hj
 have hl:=r.length
 have hn:=Jiy
 have I':Inv X pins σ (upd H p (.lst (xs.set j v))) {s with heap:=s.heap.update p (Obj.mapSeq (·.setIfInBounds j u))}:=
  I.lstUpd hp ho (JqF its n j u) (r.set rv j) (by rw[List.length_set];exact hz) s.toks
 by_cases h0:0≤k
 ·have hk:k.toNat=j:=by
   rw[seqIndex_of h0 h4] at h1
   exact Option.some.inj h1
  exact PySem.W.ki_setAt ho h0 (by omega) (by rw[List.size_toArray,←hl];exact h4) (by rw[hk];exact⟨_,I',q⟩)
 ·have hk:(k+(its.toArray.size:Int)).toNat=j:=by
   rw[seqIndex_neg (by omega) h3] at h1
   rw[List.size_toArray,←hl]
   exact Option.some.inj h1
  exact PySem.W.ki_setBack ho (by omega) (by rw[List.size_toArray,←hl];exact h3) (by omega) (by rw[hk];exact⟨_,I',q⟩)
theorem Jnv (lo hi:Option Int) (n:Nat):(sliceBounds lo hi none n).1=((HT.sIx n 0 lo:Nat):Int)∧(sliceBounds lo hi none n).2.1=((HT.sIx n n hi:Nat):Int)∧(sliceBounds lo hi none n).2.2=1:=by
 refine⟨?_,?_,rfl⟩
 ·cases lo with
  |none=>simp[sliceBounds,HT.sIx]
  |some i=>
   simp only[sliceBounds,HT.sIx,Option.getD_none,show(1:Int)>0 by decide,if_true]
   by_cases h:i<0
   ·simp only[h,if_true]<;>omega
   ·simp only[h,if_false]<;>omega
 ·cases hi with
  |none=>simp[sliceBounds,HT.sIx]
  |some i=>
   simp only[sliceBounds,HT.sIx,Option.getD_none,show(1:Int)>0 by decide,if_true]
   by_cases h:i<0
   ·simp only[h,if_true]<;>omega
   ·simp only[h,if_false]<;>omega
theorem Jl3 (its:List Value) (lo hi:Option Int):slicePick its.toArray lo hi none=((its.drop (HT.sIx its.length 0 lo)).take (HT.sIx its.length its.length hi-HT.sIx its.length 0 lo)).toArray:=by
 obtain⟨h1,h2,h3⟩:=Jnv lo hi its.toArray.size
 unfold slicePick
 rw[h1,h2,h3]
 simp only[sliceRange_one,pick_run,List.size_toArray]<;>rfl
noncomputable def Jxo (K:PySem.W.Frag):V→Option Int→Option Int→Hp→VK→Prop:=fun x lo hi H Q=>∃a xs,x=.ref a∧SqL K H a xs∧∀p,H p=none→Q (.ref p) (upd H p (.lst (UF xs lo hi)))
theorem JfK:SlR X (Jxo X.K):=by
 intro pins s σ H x v vl vu lo hi sl Q I rx hs pl pu h
 obtain⟨a,xs,rfl,hx,q⟩:=h
 cases rx
 obtain⟨its,r,ht,hz⟩:=I.list hx
 have hlen:=r.length
 refine⟨"list",_,slot_list_getitem.lookup,ht.isList.typeIs,?_⟩
 refine wpAny_getItem_list_slice ht.isList hs pl pu .none (by simp) ?_ (by rw[List.size_toArray]<;>omega)
 rw[Jl3,←hlen]
 refine⟨.ref s.heap.objs.size,_,I.laid (t':=s.toks) (o:=.lst (UF xs lo hi)) (fun b ob q=>Heap.get?_push_of_some _ q) (Nat.le_refl _) ?_,rfl,q _ (I.hok.fresh (Nat.le_refl _))⟩
 exact⟨Nat.le_trans (JaP xs lo hi) hz,_,0,(r.drop (HT.sIx xs.length 0 lo)).take (HT.sIx xs.length xs.length hi-HT.sIx xs.length 0 lo),Heap.get?_push_size _ rfl⟩
theorem Jog:VV X (.builtin "len") (fun xs H Q=>∃p ys,xs=[.ref p]∧(SqL X.K H p ys∨SqT X.K H p ys)∧Q (.int ys.length) H):=by
 intro pins s σ H xs us Q I r h
 obtain⟨p,ys,rfl,hq,q⟩:=h
 obtain⟨u,rfl,rx⟩:=JeF r
 cases rx
 have hn:=Jiy
 rcases hq with hq|hq
 ·obtain⟨its,r',pl,hz⟩:=I.list hq
  have hlen:=r'.length
  exact Calls.call_len_list pl.isList (by simp only[List.size_toArray]<;>omega) ⟨.int ys.length,H,I.tok _,⟨s.toks+1,by rw[List.size_toArray,hlen]⟩,q⟩
 ·obtain⟨its,r',pl,hz⟩:=I.tuple hq
  have hlen:=r'.length
  exact len_tuple pl (by simp only[List.size_toArray]<;>omega) ⟨.int ys.length,H,I.tok _,⟨s.toks+1,by rw[List.size_toArray,hlen]⟩,q⟩
noncomputable def tyV (K:PySem.W.Frag) (T:String) (x:V) (H:Hp):Prop:=match x with
 | .str _=>T="str"
 | .int _=>T="int"
 | .ref p=>(T="list"∧∃xs,SqL K H p xs)∨(T="tuple"∧∃o,K.lookup p=some o∧o.cls=.type "tuple"∧o.dict=none)∨
   (T="dict"∧((∃kvs,H p=some (.dK kvs))∨∃kvs,H p=some (.dT kvs)))∨(T="set"∧∃S n,H p=some (.set S n))
 |_=>False
theorem JvM {pins:List (Addr×Obj)} {σ:St} {H:Hp} {s:Shared} {T:String} {x:V} {v:Value} (I:Inv X pins σ H s) (r:JX x v) (ty:tyV X.K T x H):
  s.TypeIs v T∧∀a,v=.ref a→∃ob,s.heap.get? a=some ob∧ob.dict=none:=by
 cases x with
 |str z=>
  obtain⟨t,rfl⟩:=r
  cases(show T="str" from ty)
  exact⟨typeIs_str s z t,fun _ e=>nomatch e⟩
 |int i=>
  obtain⟨t,rfl⟩:=r
  cases(show T="int" from ty)
  exact⟨typeIs_int s i t,fun _ e=>nomatch e⟩
 |ref p=>
  cases r
  rcases ty with⟨rfl,xs,hq⟩|⟨rfl,o,hk,hc,hd⟩|⟨rfl,hk⟩|⟨rfl,S,n,hk⟩
  ·obtain⟨its,_,pl,_⟩:=I.list hq
   refine⟨pl.isList.typeIs,fun a e=>?_⟩
   cases e
   obtain⟨o,n,e,c,hd,_⟩:=pl
   exact⟨o,e,hd⟩
  ·refine⟨⟨o,I.kIn p o hk,hc⟩,fun a e=>?_⟩
   cases e
   exact⟨o,I.kIn _ o hk,hd⟩
  ·have z:∃o,s.heap.get? p=some o∧o.ExactDict:=by
    rcases hk with⟨kvs,hk⟩|⟨kvs,hk⟩
    ·obtain⟨_,_,_,_,o,_,_,e,ex,_⟩:=I.hok p _ hk
     exact⟨o,e,ex⟩
    ·obtain⟨_,_,_,_,o,_,_,e,ex,_⟩:=I.hok p _ hk
     exact⟨o,e,ex⟩
   obtain⟨o,e,ex⟩:=z
   refine⟨⟨o,e,ex.1⟩,fun a e2=>?_⟩
   cases e2
   exact⟨o,e,ex.2.1⟩
  ·obtain⟨o,_,_,_,e,ex,_⟩:=I.hok p _ hk
   refine⟨⟨o,e,ex.1⟩,fun a e2=>?_⟩
   cases e2
   exact⟨o,e,ex.2.1⟩
 |_=>exact False.elim ty
noncomputable def tBM (K:PySem.W.Frag) (T:String) (r:V→List V→Hp→VK→Prop) (to:TE) (t:TA):TE:=fun σ H Q=>to σ H fun x H1=>tyV K T x H1∧t σ H1 fun xs H2=>r x xs H2 Q
variable {o e:Expr} {es:List Expr} {to:TE} {t:TA} {name:Str} {apos cpos:Pos} {T id:String} {r:V→List V→Hp→VK→Prop}
theorem Jdp (pa:PlainAttrs T) (slot:Slot T name id) (hty:typeOf (.builtin id)=pure (.type "method_descriptor")) (hm:MtR X id r) (ho:PE X o to) (ha:PA X (e::es) t)
  (hbase:attributeBase o name X.env (eval o X.env)=eval o X.env:=by rfl)
  (hfew:((backTo cpos (starEach (e::es) X.env)).all (fun x=>!x.1)&&(backToKw cpos (keywordEach [] X.env)).all (fun x=>x.1.isSome)
   &&decide ((e::es).length+([]:List Keyword).length+(if([]:List Keyword).isEmpty then 0 else 1)<30))=true:=by rfl)
  (hline:(apos.endLine==cpos.line)=true:=by rfl) (hs:starEach (e::es) X.env=(false,eval e X.env)::starEach es X.env:=by rfl) (hplain:(backTo cpos (starEach es X.env)).any (·.1)=false:=by rfl):
  PE X (.Call (.Attribute o name apos) (e::es) [] cpos) (tBM X.K T r to t):=by
 intro pins s σ H Q I h
 refine wpAny_Call_method_late hbase hfew hline rfl (thn (ho pins s σ H _ I h) fun v s1 ⟨x,H1,I1,r1,ty,q1⟩=>?_)
 obtain⟨h1,h2⟩:=JvM I1 r1 ty
 refine⟨T,id,pa,slot,hty,h1,h2,?_⟩
 have hA:=ha cpos pins s1 σ H1 _ I1 q1
 rw[hs] at hA⊢
 refine Calls.callWith_builtin (by show(false||(backTo cpos (starEach es X.env)).any (·.1))=false;rw[hplain]<;>rfl) (Calls.evalArgs_plain ?_)
 exact thn hA fun us s2 ⟨vs,H2,I2,r2,q2⟩=>hm pins s2 σ H2 x vs v us Q I2 r1 r2 q2
end
end L2
namespace L2
open PySem PySem.Spec PyProof.Rows
noncomputable def MtM (X:Cx) (id:String) (r:V→List V→Hp→VK→Prop):Prop:=
 ∀(pins:List (Addr×Obj)) (s:Shared) (σ:St) (H:Hp) (x:V) (xs:List V) (v:Value) (us:List Value) (Q:VK),Inv X pins σ H s→JX x v→JY xs us→r x xs H Q→
  wpAny (model X.prog X.w) X.A (call (.builtin id) (v::us)) (EP X pins σ Q) X.xe s
theorem JY.one:∀{x:V} {us:List Value},JY [x] us→∃u,us=[u]∧JX x u
 |_,_,.cons r .nil=>⟨_,rfl,r⟩
theorem JY.rep {xs:List V} {us:List Value} (h:JY xs us):∀k:Nat,JY (List.replicate k xs).flatten (List.replicate k us).flatten
 |0=>.nil
 |k+1=>by
  rw[List.replicate_succ,List.replicate_succ,List.flatten_cons,List.flatten_cons]
  exact JY.append h (JY.rep h k)
theorem JmY (its:List Value):∀(k:Nat) (acc:List Value),
  List.foldl (fun x1 x2=>x1++x2) acc.toArray (List.replicate k its.toArray)=(acc++(List.replicate k its).flatten).toArray
 |0,acc=>by simp
 |k+1,acc=>by
  have e:acc.toArray++its.toArray=(acc++its).toArray:=by simp
  have e2:(acc++its)++(List.replicate k its).flatten=acc++(List.replicate (k+1) its).flatten:=by
   rw[List.replicate_succ,List.flatten_cons,List.append_assoc]
  rw[←e2,←JmY its k (acc++its),←e,List.replicate_succ,List.foldl_cons]
section
variable {X:Cx} {pins:List (Addr×Obj)} {σ:St} {H:Hp} {s:Shared} {l b:Addr} {xs ys zs:List V}
theorem Inv.lset {its its':List Value} {n:Nat} {f:Array Value→Array Value} {t':Nat} (I:Inv X pins σ H s) (hH:H l=some (.lst xs))
  (e:s.heap.get? l=some {cls:=.type "list",data:=.seq its.toArray n}) (hf:f its.toArray=its'.toArray) (hv:JY ys its') (hz:ys.length≤sizeLine):
  Inv X pins σ (upd H l (.lst ys)) {s with heap:=s.heap.update l (Obj.mapSeq f),toks:=t'}:=by
 have q:=PySem.IsL.update e f
 rw[hf] at q
 refine I.write (x:=l) (e:=l) (by rw[hH];exact trivial) (.inl rfl) (fun b' u hb hu=>(Heap.get?_update_other s.heap (Obj.mapSeq f) (Ne.symm hb)).trans hu) ⟨_,q⟩ ?_
 exact⟨hz,its',_,hv,q⟩
theorem Inv.lnew {its:List Value} {t':Nat} (I:Inv X pins σ H s) (hv:JY ys its) (hz:ys.length≤sizeLine):
  Inv X pins σ (upd H s.heap.objs.size (.lst ys)) {s with heap:=s.heap.push {cls:=.type "list",data:=.seq its.toArray},toks:=t'}:=
 I.laid (fun _ _ q=>Heap.get?_push_of_some _ q) (Nat.le_refl _) ⟨hz,its,0,hv,Heap.get?_push_size _ rfl⟩
theorem Inv.fresh (I:Inv X pins σ H s):H s.heap.objs.size=none:=I.hok.fresh (Nat.le_refl _)
theorem Inv.lstM (I:Inv X pins σ H s) (hH:H l=some (.lst xs)):xs.length≤sizeLine∧∃(its:List Value) (n:Nat),JY xs its∧xs.length=its.length∧s.heap.get? l=some {cls:=.type "list",data:=.seq its.toArray n}:=by
 obtain⟨z,its,n,r,e⟩:=I.hok l _ hH
 exact⟨z,its,n,r,r.length,e⟩
theorem Jpi {n:Nat} (h:n≤sizeLine):Builtin.List.listTooLong n=false:=by
 unfold Builtin.List.listTooLong
 exact decide_eq_false (by omega)
end
section
variable {X:Cx}
noncomputable def JuB:V→List V→Hp→VK→Prop:=fun x vs H Q=>∃l xs y,x=.ref l∧vs=[y]∧H l=some (.lst xs)∧xs.length<sizeLine∧Q .non (upd H l (.lst (xs++[y])))
theorem Wm:MtM X "list.append" JuB:=by
 intro pins s σ H x vs v us Q I rx rv h
 obtain⟨l,xs,y,rfl,rfl,hH,hz,q⟩:=h
 cases rx
 obtain⟨u,rfl,ru⟩:=rv.one
 obtain⟨z,its,n,r,hl,e⟩:=I.lstM hH
 refine call_meets F.slot_list_append ⟨_,e,rfl⟩ F.entry_list_append (F.args_list_append_2 _ _) (PySem.list_append l its.toArray n u (by rw[List.size_toArray];omega)) ⟨e,?_⟩
 refine⟨.non,_,I.lset (its':=its++[u]) hH e (by simp) (r.append (.cons ru .nil)) ?_,rfl,q⟩
 rw[List.length_append,List.length_singleton]
 omega
noncomputable def JuA:V→List V→Hp→VK→Prop:=fun x vs H Q=>∃l b xs zs,x=.ref l∧vs=[.ref b]∧H l=some (.lst xs)∧H b=some (.lst zs)∧xs.length+zs.length≤sizeLine∧Q .non (upd H l (.lst (xs++zs)))
theorem Jiv:MtM X "list.extend" JuA:=by
 intro pins s σ H x vs v us Q I rx rv h
 obtain⟨l,b,xs,zs,rfl,rfl,hH,hB,hz,q⟩:=h
 cases rx
 obtain⟨u,rfl,ru⟩:=rv.one
 cases ru
 obtain⟨z,its,n,r,hl,e⟩:=I.lstM hH
 obtain⟨z2,its2,n2,r2,hl2,e2⟩:=I.lstM hB
 have hsz:its.toArray.size+its2.toArray.size≤sizeLine:=by rw[List.size_toArray,List.size_toArray];omega
 have hlong:¬(!its.toArray.isEmpty&&Builtin.List.listTooLong (its.toArray.size+its2.toArray.size))=true:=by
  rw[Jpi hsz,Bool.and_false]
  exact Bool.false_ne_true
 refine call_meets F.slot_list_extend ⟨_,e,rfl⟩ F.entry_list_extend (F.args_list_extend_2 _ _)
  (AutoSeq1.list_extend_list_list_0 l its.toArray n b its2.toArray n2 hlong (by rw[List.size_toArray];omega) (by omega)) ⟨e,e2,?_⟩
 refine⟨.non,_,I.lset (its':=its++its2) hH e (by simp) (r.append r2) ?_,rfl,q⟩
 rw[List.length_append]
 omega
noncomputable def Jxr:R2:=fun x y H Q=>∃l b xs zs,x=.ref l∧y=.ref b∧H l=some (.lst xs)∧H b=some (.lst zs)∧xs.length+zs.length≤sizeLine∧∀p,H p=none→Q (.ref p) (upd H p (.lst (xs++zs)))
theorem Q7:OpR X (binaryOp .Add) Jxr:=by
 intro pins s σ H x y v u Q I rx ry h
 obtain⟨l,b,xs,zs,rfl,rfl,hH,hB,hz,q⟩:=h
 cases rx
 cases ry
 obtain⟨z,its,n,r,hl,e⟩:=I.lstM hH
 obtain⟨z2,its2,n2,r2,hl2,e2⟩:=I.lstM hB
 refine PySem.P.add_list e e2 ?_ (by rw[List.size_toArray,List.size_toArray];omega)
 have ea:its.toArray++its2.toArray=(its++its2).toArray:=by simp
 rw[ea]
 exact⟨.ref _,_,I.lnew (t':=s.toks) (r.append r2) (by rw[List.length_append];omega),rfl,q _ I.fresh⟩
noncomputable def Jxp:R2:=fun x y H Q=>∃l k xs,x=.ref l∧y=.int k∧H l=some (.lst xs)∧-(2^63)≤k∧k<2^63∧xs.length*k.toNat≤sizeLine∧
 ∀p,H p=none→Q (.ref p) (upd H p (.lst (List.replicate k.toNat xs).flatten))
theorem JuX {α:Type} (xs:List α) (k:Nat):(List.replicate k xs).flatten.length=k*xs.length:=by
 induction k with
 |zero=>simp
 |succ k ih=>rw[List.replicate_succ,List.flatten_cons,List.length_append,ih,Nat.succ_mul,Nat.add_comm]
theorem Jqw:OpR X (binaryOp .Mult) Jxp:=by
 intro pins s σ H x y v u Q I rx ry h
 obtain⟨l,k,xs,rfl,rfl,hH,h1,h2,hz,q⟩:=h
 cases rx
 obtain⟨t,rfl⟩:=ry
 obtain⟨z,its,n,r,hl,e⟩:=I.lstM hH
 have hlen:its.toArray.size*k.toNat≤sizeLine:=by rw[List.size_toArray,←hl];exact hz
 have hcap:¬its.toArray.size*k.toNat>(2^63-1)/8:=by
  have:(sizeLine:Nat)≤(2^63-1)/8:=by decide
  omega
 have hfit:¬(!Builtin.List.listFitsIndex k)=true:=by
  rw[fitsIndex_both h1 h2]
  exact Bool.false_ne_true
 have hlong:¬Builtin.List.listTooLong (its.toArray.size*k.toNat)=true:=by
  rw[Jpi hlen]
  exact Bool.false_ne_true
 have hnew:List.foldl (fun x1 x2=>x1++x2) #[] (List.replicate (if its.toArray.isEmpty=true then 0 else k.toNat) its.toArray)=(List.replicate k.toNat its).flatten.toArray:=by
  have f0:∀m:Nat,List.foldl (fun x1 x2=>x1++x2) #[] (List.replicate m its.toArray)=(List.replicate m its).flatten.toArray:=fun m=>by
   have:=JmY its m []
   rw[List.nil_append] at this
   exact this
  rw[f0]
  cases its with
  |nil=>simp
  |cons a r'=>rw[if_neg (by simp)]
 refine wpAny_binaryOp_repeat_ref (T:="list") (U:="int") (by decide) ⟨_,e,rfl⟩ (fun s'=>typeIs_int s' k t) noFill_list_mul F.fills_int_mul F.slot_int_rmul repeat_list F.slot_int_index.lookup
  (call_meets F.slot_int_rmul (typeIs_int s k t) F.entry_int_rmul (F.args_int_rmul_2 _ _) (int___rmul___int_list k t l its.toArray n)
   ⟨e,rfl,⟨_,e,rfl⟩,call_meets F.slot_list_mul ⟨_,e,rfl⟩ F.entry_list_mul (F.args_list_mul_2 _ _) (AutoListH.list___mul___list_int_3 l its.toArray n k t hfit hcap hlong) ⟨e,?_⟩⟩)
 rw[hnew]
 exact⟨.ref _,_,I.lnew (t':=s.toks) (r.rep k.toNat) (by rw[JuX,Nat.mul_comm];exact hz),rfl,q _ I.fresh⟩
end
end L2
namespace L2
open PySem PySem.Spec PyProof.Rows
section
variable {X:Cx}
end
end L2
namespace L2
open PySem PySem.Spec PyProof.Rows
noncomputable abbrev Jus (h:Heap) (c:Addr) (v:Option Value):Prop:=h.IsCell c v
noncomputable def Jxn (scope sc:Scope):Scope:=
 {scope with names:=scope.names.map fun(n,k)=>if(k== .free&&sc.kind== .function&&sc.names.lookup n==some .cell) then(n,.cell) else(n,k)}
noncomputable def QK (cells:List (Str×Addr)):List (Str×NameKind)→List (Str×Addr)→List (Str×Addr)
 |[],acc=>acc
 |(n,k)::r,acc=>if k== .free then QK cells r ((n,(cells.lookup n).getD 0)::acc) else QK cells r acc
theorem JhV (env:Env) (f:Str×NameKind→List (Str×Addr)→Sem (ForInStep (List (Str×Addr))))
  (hf:∀n k c,f (n,k) c=if k== .free then(do let a←cellOf env n;pure (.yield ((n,a)::c))) else pure (.yield c)):
  ∀(names:List (Str×NameKind)) (acc:List (Str×Addr)),(∀y∈names,y.2=.free→∃c,env.cells.lookup y.1=some c)→forIn names acc f=pure (QK env.cells names acc)
 |[],acc,_=>by rw[List.forIn_nil];rfl
 |(n,k)::r,acc,h=>by
  rw[List.forIn_cons,hf]
  have ih:=fun acc=>JhV env f hf r acc fun y hy=>h y (List.mem_cons_of_mem _ hy)
  unfold QK
  by_cases hk:(k==NameKind.free)=true
  ·rw[if_pos hk,if_pos hk]
   obtain⟨c,hc⟩:=h (n,k) List.mem_cons_self (by simpa using hk)
   have e:cellOf env n=pure c:=by unfold cellOf;rw[hc]
   rw[e]
   have e2:(env.cells.lookup n).getD 0=c:=by rw[hc];rfl
   rw[e2]
   exact ih _
  ·rw[if_neg hk,if_neg hk]
   exact ih _
theorem JqU {scope:Scope} {env:Env} (h:∀y∈scope.names,y.2=.free→∃c,env.cells.lookup y.1=some c):closureFor scope env=pure (QK env.cells scope.names []):=by
 simp only[closureFor]
 rw[JhV env _ (fun n k c=>rfl) scope.names [] h]
 rfl
theorem JgZ {α:Type}:∀{l:List (Str×α)} {n:Str} {c:α},(n,c)∈l→∃c',l.lookup n=some c'
 |(k,v)::r,n,c,h=>by
  rw[List.lookup_cons]
  cases hb:n==k with
  |true=>exact⟨_,rfl⟩
  |false=>
   rcases List.mem_cons.mp h with e|h
   ·cases e;simp at hb
   ·exact JgZ h
theorem JcF {cells:List (Str×Addr)}:∀{names:List (Str×NameKind)} {acc:List (Str×Addr)} {n:Str} {c:Addr},(n,c)∈QK cells names acc→(n,c)∈acc∨((n,.free)∈names∧c=(cells.lookup n).getD 0)
 |[],_,_,_,h=>.inl h
 |(m,k)::r,acc,n,c,h=>by
  unfold QK at h
  split at h
  ·rename_i hk
   have hk:k=.free:=by simpa using hk
   rcases JcF h with h|⟨h1,h2⟩
   ·rcases List.mem_cons.mp h with e|h
    ·cases e;exact .inr ⟨hk▸List.mem_cons_self,rfl⟩
    ·exact .inl h
   ·exact .inr ⟨List.mem_cons_of_mem _ h1,h2⟩
  ·rcases JcF h with h|⟨h1,h2⟩
   ·exact .inl h
   ·exact .inr ⟨List.mem_cons_of_mem _ h1,h2⟩
theorem Jfd {cells:List (Str×Addr)}:∀{names:List (Str×NameKind)} {acc:List (Str×Addr)} {p:Str×Addr},p∈acc→p∈QK cells names acc
 |[],_,_,h=>h
 |(m,k)::r,acc,p,h=>by
  unfold QK
  split
  ·exact Jfd (List.mem_cons_of_mem _ h)
  ·exact Jfd h
theorem Jfc {cells:List (Str×Addr)}:∀{names:List (Str×NameKind)} {acc:List (Str×Addr)} {n:Str},(n,.free)∈names→(n,(cells.lookup n).getD 0)∈QK cells names acc
 |(m,k)::r,acc,n,h=>by
  unfold QK
  rcases List.mem_cons.mp h with e|h
  ·cases e
   exact Jfd List.mem_cons_self
  ·split
   ·exact Jfc h
   ·exact Jfc h
theorem Jdw:∀{names:List (Str×NameKind)} {h:Heap} {acc:List (Str×Addr)} {x:Str} {c:Addr},(x,c)∈cellsFrom h.objs.size names acc→
  (x,c)∈acc∨((x,.cell)∈names∧h.objs.size≤c∧Jus (pushCells h names) c none)
 |[],_,_,_,_,h=>.inl h
 |(n,k)::r,h,acc,x,c,hm=>by
  unfold cellsFrom at hm
  unfold pushCells
  split at hm
  ·rename_i hk
   rw[if_pos hk]
   have hk:k=.cell:=by simpa using hk
   rw[←Heap.size_push h {cls:=.type "cell",data:=.cell none}] at hm
   rcases Jdw hm with hm|⟨h1,h2,h3⟩
   ·rcases List.mem_cons.mp hm with e|hm
    ·cases e
     exact .inr ⟨hk▸List.mem_cons_self,Nat.le_refl _,_,pushCells_keeps r _ _ _ (Heap.get?_push_size _ rfl),rfl⟩
    ·exact .inl hm
   ·rw[Heap.size_push] at h2
    exact .inr ⟨List.mem_cons_of_mem _ h1,Nat.le_of_succ_le h2,h3⟩
  ·rename_i hk
   rw[if_neg hk]
   rcases Jdw hm with hm|⟨h1,h2,h3⟩
   ·exact .inl hm
   ·exact .inr ⟨List.mem_cons_of_mem _ h1,h2,h3⟩
theorem JfY:∀{names:List (Str×NameKind)} {n:Nat} {acc:List (Str×Addr)} {p:Str×Addr},p∈acc→p∈cellsFrom n names acc
 |[],_,_,_,h=>h
 |(m,k)::r,n,acc,p,h=>by
  unfold cellsFrom
  split
  ·exact JfY (List.mem_cons_of_mem _ h)
  ·exact JfY h
theorem JiL:∀{names:List (Str×NameKind)} {n:Nat} {acc:List (Str×Addr)} {x:Str},(x,.cell)∈names→∃c,(x,c)∈cellsFrom n names acc
 |(m,k)::r,n,acc,x,h=>by
  unfold cellsFrom
  rcases List.mem_cons.mp h with e|h
  ·cases e
   exact⟨n,JfY List.mem_cons_self⟩
  ·split
   ·exact JiL h
   ·exact JiL h
theorem JiK:∀{names:List (Str×NameKind)} {h:Heap} {acc:List (Str×Addr)} {x y:Str} {c:Addr},(∀p∈acc,p.2<h.objs.size)→(∀x y c,(x,c)∈acc→(y,c)∈acc→x=y)→
  (x,c)∈cellsFrom h.objs.size names acc→(y,c)∈cellsFrom h.objs.size names acc→x=y
 |[],_,_,_,_,_,_,hi,h1,h2=>hi _ _ _ h1 h2
 |(n,k)::r,h,acc,x,y,c,hl,hi,h1,h2=>by
  unfold cellsFrom at h1 h2
  split at h1
  ·rename_i hk
   rw[if_pos hk] at h2
   rw[←Heap.size_push h {cls:=.type "cell",data:=.cell none}] at h1 h2
   refine JiK (h:=h.push _) (fun p hp=>?_) (fun x y c a b=>?_) h1 h2
   ·rw[Heap.size_push]
    rcases List.mem_cons.mp hp with rfl|hp
    ·exact Nat.lt_succ_self _
    ·exact Nat.lt_succ_of_lt (hl p hp)
   ·rcases List.mem_cons.mp a with e|a<;>rcases List.mem_cons.mp b with e'|b
    ·cases e;cases e';rfl
    ·cases e;exact absurd (hl _ b) (Nat.lt_irrefl _)
    ·cases e';exact absurd (hl _ a) (Nat.lt_irrefl _)
    ·exact hi _ _ _ a b
  ·rename_i hk
   rw[if_neg hk] at h2
   exact JiK hl hi h1 h2
theorem Jpk {M:Model} {A:Around} {E:Value→Shared→Prop} {s:Shared} {scope:Scope} {globals:Addr} {closure:List (Str×Addr)} {qual:Str} {func:Option Addr} {code:Value} {around:Env} {builtins:Addr} {Q:Env→Shared→Prop}
  (h:Q (newEnv scope s.heap.objs.size globals (cellsFrom (s.heap.objs.size+1) scope.names closure) qual func code (some around) builtins)
   {s with heap:=pushCells (s.heap.push {cls:=.type "dict",data:=.dict #[]}) scope.names}):
  wpAny M A (newFunctionEnv scope globals closure [] qual func code (some around) builtins) Q E s:=by
 simp only[newFunctionEnv,Option.isSome_some,if_true]
 refine wpAny_bind (wpAny_alloc ?_)
 refine wpAny_bind (wpAny_layCells _ (fun n k c=>rfl) scope.names closure _ _ ?_)
 rw[show({s with heap:=s.heap.push {cls:=.type "dict",data:=.dict #[]}}:Shared).heap.objs.size=s.heap.objs.size+1 from Heap.size_push ..]
 rw[List.forIn_nil]
 exact wpAny_bind (wpAny_pure (wpAny_pure h))
theorem Je6 {sc:Scope}:∀{names:List (Str×NameKind)} {x:Str} {k:NameKind},
  (names.map fun(n,k)=>if(k==NameKind.free&&sc.kind== .function&&sc.names.lookup n==some .cell) then(n,NameKind.cell) else(n,k)).lookup x=some k→
  ∃k',names.lookup x=some k'∧(k=k'∨(k'=.free∧k=.cell))
 |[],_,_,h=>by simp at h
 |(n,k₀)::r,x,k,h=>by
  have ih:=@Je6 sc r x k
  have h':List.lookup x ((if(k₀==NameKind.free&&sc.kind== .function&&sc.names.lookup n==some .cell)=true then(n,NameKind.cell) else(n,k₀))::(r.map _))=some k:=h
  cases hx:x==n with
  |true=>
   simp only[List.lookup_cons,hx]
   by_cases hc:(k₀==NameKind.free&&sc.kind== .function&&sc.names.lookup n==some .cell)=true
   ·rw[if_pos hc] at h'
    simp only[List.lookup_cons,hx] at h'
    cases h'
    simp only[Bool.and_eq_true,beq_iff_eq] at hc
    exact⟨k₀,rfl,.inr ⟨hc.1.1,rfl⟩⟩
   ·rw[if_neg hc] at h'
    simp only[List.lookup_cons,hx] at h'
    cases h'
    exact⟨_,rfl,.inl rfl⟩
  |false=>
   simp only[List.lookup_cons,hx]
   by_cases hc:(k₀==NameKind.free&&sc.kind== .function&&sc.names.lookup n==some .cell)=true
   ·rw[if_pos hc] at h'
    simp only[List.lookup_cons,hx] at h'
    exact ih h'
   ·rw[if_neg hc] at h'
    simp only[List.lookup_cons,hx] at h'
    exact ih h'
structure Jp1 (N:List Str) (sc scope:Scope) (own:List (Str×Nat)):Prop where
 kind:scope.kind=.function
 uniq:∀y∈scope.names,scope.names.lookup y.1=some y.2
 ix:∀p∈own,N[p.2]? =some p.1
 free:∀y∈scope.names,y.2=.free→sc.names.lookup y.1=some .cell∨sc.names.lookup y.1=some .free
 own:∀y∈scope.names,y.2=.local∨y.2=.cell→y.1∈own.map (·.1)∨y.1∉N
noncomputable def JaU (σ:St):List Nat→St
 |[]=>σ
 |v::vs=>(JaU σ vs).set v none
theorem JeE (σ:St):∀vs:List Nat,(JaU σ vs).length=σ.length
 |[]=>rfl
 |v::vs=>by unfold JaU;rw[List.length_set,JeE σ vs]
theorem Jie {σ:St} {i:Nat} {x:V}:∀{vs:List Nat},(JaU σ vs)[i]? =some (some x)→σ[i]? =some (some x)∧i∉vs
 |[],h=>⟨h,by simp⟩
 |v::vs,h=>by
  unfold JaU at h
  by_cases hi:v=i
  ·subst hi
   by_cases hv:v<(JaU σ vs).length
   ·rw[List.getElem?_set_self hv] at h;cases h
   ·rw[List.getElem?_eq_none (by simpa using hv)] at h;cases h
  ·rw[List.getElem?_set_ne hi] at h
   obtain⟨h1,h2⟩:=Jie h
   exact⟨h1,by simp only[List.mem_cons,not_or];exact⟨fun e=>hi e.symm,h2⟩⟩
noncomputable abbrev Cx.blk (X:Cx) (s:Shared) (H:Hp) (scope:Scope) (cenv:Env) (fp:List Addr):Cx:={X with s_0:=s,H_0:=H,env:=cenv,outer:=X.stack,ex:=fp,fn:=fun x=>scope.names.lookup x==some .cell,pn:=[],xe:=fun _ _=>False}
section
variable {X:Cx} {pins:List (Addr×Obj)} {σ:St} {H:Hp} {s:Shared}
theorem JpJ {scope:Scope} {own:List (Str×Nat)} {fp:List Addr} (I:Inv X pins σ H s) (ok:Jp1 X.N X.env.scope scope own) (hN:X.N.Nodup) (hfp:∀b∈fp,Jj8 X pins H b∧b<s.heap.objs.size):
  Inv (X.blk s H scope (compEnvC scope (cellsFrom (s.heap.objs.size+1) scope.names (QK X.env.cells scope.names [])) s.heap.objs.size X.env) fp) [] (JaU σ (own.map (·.2))) H {s with heap:=pushCells (s.heap.push {cls:=.type "dict",data:=.dict #[]}) scope.names}:=by
 have hfree:∀y∈scope.names,y.2=.free→∃c,X.env.cells.lookup y.1=some c:=fun y hy e=>by
  rcases ok.free y hy e with k|k
  ·exact I.ok.has _ (.inl k)
  ·exact I.ok.has _ (.inr k)
 generalize hcenv:compEnvC scope (cellsFrom (s.heap.objs.size+1) scope.names (QK X.env.cells scope.names [])) s.heap.objs.size X.env=cenv
 have kp:∀b o,s.heap.get? b=some o→(pushCells (s.heap.push {cls:=.type "dict",data:=.dict #[]}) scope.names).get? b=some o:=fun b o e=>pushCells_keeps _ _ _ _ (Heap.get?_push_of_some _ e)
 have hL:cenv.locals=s.heap.objs.size:=by rw[←hcenv];rfl
 have hcl:cenv.cells=cellsFrom (s.heap.objs.size+1) scope.names (QK X.env.cells scope.names []):=by rw[←hcenv];rfl
 have hsc:cenv.scope=Jxn scope X.env.scope:=by rw[←hcenv];rfl
 rw[←Heap.size_push s.heap {cls:=.type "dict",data:=.dict #[]}] at hcl
 have cm:∀{y c},(y,c)∈QK X.env.cells scope.names []→X.env.cells.lookup y=some c∧c<s.heap.objs.size:=fun {y c} hm=>by
  rcases JcF hm with hm|⟨h1,rfl⟩
  ·cases hm
  ·obtain⟨c,hc⟩:=hfree _ h1 rfl
   rw[hc]
   obtain⟨w,z⟩:=I.cell _ _ hc
   exact⟨rfl,z.lt⟩
 have mem:∀{y c},cenv.cells.lookup y=some c→(X.env.cells.lookup y=some c∧c<s.heap.objs.size)∨(s.heap.objs.size+1≤c∧Jus (pushCells (s.heap.push {cls:=.type "dict",data:=.dict #[]}) scope.names) c none):=fun {y c} e=>by
  rw[hcl] at e
  rcases Jdw (PySem.mem_of_lookup e) with hm|⟨_,h2,h3⟩
  ·exact .inl (cm hm)
  ·rw[Heap.size_push] at h2;exact .inr ⟨h2,h3⟩
 have look:∀{y},scope.names.lookup y=some .free→∃c,cenv.cells.lookup y=some c∧X.env.cells.lookup y=some c:=fun {y} hl=>by
  have hy:(y,NameKind.free)∈scope.names:=PySem.mem_of_lookup hl
  obtain⟨c',e'⟩:=JgZ (JfY (names:=scope.names) (n:=(s.heap.push {cls:=.type "dict",data:=.dict #[]}).objs.size) (Jfc (cells:=X.env.cells) (acc:=[]) hy))
  rw[←hcl] at e'
  refine⟨c',e',?_⟩
  rw[hcl] at e'
  rcases Jdw (PySem.mem_of_lookup e') with hm|⟨h1,_,_⟩
  ·exact(cm hm).1
  ·have:=ok.uniq _ h1
   rw[hl] at this;cases this
 have okB:(X.blk s H scope cenv fp).Ok:=by
  refine⟨I.ok.mod,by show cenv.scope.kind=_;rw[hsc];exact ok.kind,by show cenv.globals=_;rw[←hcenv];exact I.ok.glob,by show cenv.builtins=_;rw[←hcenv];exact I.ok.blt,by show s.heap.objs.size≤cenv.locals;rw[hL];exact Nat.le_refl _,
   fun y z c e1 e2=>?_,fun y hy=>?_,fun y c z e=>?_,I.ok.hd,I.ok.frames,.inl rfl,fun b hb=>⟨?_,fun y c e z=>?_⟩,I.bs,Nat.le_trans I.ok.bsz I.sz,fun b o e hb=>?_,fun b hb z=>?_,I.stack,I.stkFree⟩
  ·have e1:cenv.cells.lookup y=some c:=e1
   have e2:cenv.cells.lookup z=some c:=e2
   rw[hcl] at e1 e2
   refine JiK (fun p hp=>?_) (fun y z c a b=>I.ok.inj y z c (cm a).1 (cm b).1) (PySem.mem_of_lookup e1) (PySem.mem_of_lookup e2)
   rw[Heap.size_push]
   exact Nat.lt_succ_of_lt (cm (y:=p.1) (c:=p.2) hp).2
  ·show∃c,cenv.cells.lookup y=some c
   have key:∀k,cenv.kindOf y=some k→(k=.cell∨k=.free)→∃c,cenv.cells.lookup y=some c:=fun k hk hk'=>by
    unfold Env.kindOf at hk
    rw[hsc] at hk
    obtain⟨k',e,r⟩:=Je6 hk
    have:k'=.cell∨k'=.free:=by
     rcases r with rfl|⟨rfl,_⟩
     ·exact hk'
     ·exact .inr rfl
    rcases this with rfl|rfl
    ·obtain⟨c,hm⟩:=JiL (n:=(s.heap.push {cls:=.type "dict",data:=.dict #[]}).objs.size) (acc:=QK X.env.cells scope.names []) (PySem.mem_of_lookup e)
     obtain⟨c',e'⟩:=JgZ hm
     exact⟨c',by rw[hcl];exact e'⟩
    ·obtain⟨c,h1,_⟩:=look e
     exact⟨c,h1⟩
   rcases hy with hy|hy
   ·exact key _ hy (.inl rfl)
   ·exact key _ hy (.inr rfl)
  ·have z:(scope.names.lookup y==some NameKind.cell)=true:=z
   have z:scope.names.lookup y=some .cell:=by simpa using z
   have e:cenv.cells.lookup y=some c:=e
   rw[hcl] at e
   rcases Jdw (PySem.mem_of_lookup e) with hm|⟨_,h2,_⟩
   ·rcases JcF hm with hm|⟨h1,_⟩
    ·cases hm
    ·have q:=ok.uniq _ h1
     rw[z] at q;cases q
   ·rw[Heap.size_push] at h2
    exact Nat.le_of_succ_le h2
  ·show b≠cenv.locals
   rw[hL];exact Nat.ne_of_lt (hfp b hb).2
  ·have e:cenv.cells.lookup y=some c:=e
   rcases mem e with⟨h1,_⟩|⟨h1,_⟩
   ·exact(hfp b hb).1.2.2.2.2.1 y c h1 z
   ·have h2:s.heap.objs.size+1≤b:=by rw[←z];exact h1
    exact absurd (Nat.lt_of_lt_of_le (hfp b hb).2 (Nat.le_of_succ_le h2)) (Nat.lt_irrefl _)
  ·rcases(hfp b hb).1.2.2.2.1 with z|z
   ·exact I.ok.noex b o e z
   ·exact absurd (Nat.lt_of_lt_of_le (Heap.lt_size e) (Nat.le_trans I.ok.bsz z)) (Nat.lt_irrefl _)
  ·rcases List.mem_cons.mp (I.stkSub b z) with z|z
   ·exact(hfp b hb).1.2.1 z
   ·exact(hfp b hb).1.2.2.1 z
 refine⟨okB,rfl,I.bare,Un.kept kp,⟨fun _=>none,?_,fun i y av e1 e2 e3=>?_⟩,fun y c e=>?_,?_,fun y c e=>?_,fun p hp=>?_,I.hok.kept kp,by rw[JeE];exact I.len⟩
 ·show Heap.Ns _ cenv.locals _
  rw[hL]
  exact Heap.Ns.keeps (Heap.Ns.new ..) fun b o e=>pushCells_keeps _ _ _ _ e
 ·obtain⟨e2,hne⟩:=Jie e2
  have hfr:scope.names.lookup y=some .free∧(cenv.kindOf y=some .cell∨cenv.kindOf y=some .free):=by
   have key:∀k,cenv.scope.names.lookup y=some k→k=.local∨k=.cell∨k=.free→scope.names.lookup y=some .free∧(cenv.kindOf y=some .cell∨cenv.kindOf y=some .free):=fun k hk hk'=>by
    have hk0:=hk
    rw[hsc] at hk
    obtain⟨k',e,r⟩:=Je6 hk
    have no:¬(k'=.local∨k'=.cell):=fun hh=>by
     rcases ok.own _ (PySem.mem_of_lookup e) hh with e'|e'
     ·obtain⟨p,hp,hpy⟩:=List.mem_map.mp e'
      have e3:=ok.ix p hp
      have:p.1=y:=hpy
      rw[this] at e3
      exact hne (List.mem_map.mpr ⟨p,hp,Jlc hN e3 e1⟩)
     ·exact e' (List.mem_of_getElem? e1)
    rcases r with rfl|⟨rfl,rfl⟩
    ·rcases hk' with rfl|rfl|rfl
     ·exact absurd (.inl rfl) no
     ·exact absurd (.inr rfl) no
     ·exact⟨e,.inr hk0⟩
    ·exact⟨e,.inl hk0⟩
   have e3:Vis cenv.scope y:=e3
   rcases e3 with e3|e3|e3
   ·exact key _ e3 (.inl rfl)
   ·exact key _ e3 (.inr (.inl rfl))
   ·exact key _ e3 (.inr (.inr rfl))
  obtain⟨m,hn,hl⟩:=I.loc
  have hvis:Vis X.env.scope y:=(ok.free _ (PySem.mem_of_lookup hfr.1) rfl).elim (fun k=>.inr (.inl k)) (fun k=>.inr (.inr k))
  obtain⟨w,r,q⟩:=hl i y av e1 e2 hvis
  refine⟨w,r,.inr ⟨hfr.2,?_⟩⟩
  obtain⟨c,h1,h2⟩:=look hfr.1
  rcases q with⟨k,_⟩|⟨_,c',e',z⟩
  ·have k:X.env.scope.names.lookup y=some .local:=k
   rcases ok.free _ (PySem.mem_of_lookup hfr.1) rfl with k'|k'<;>rw[show X.env.scope.names.lookup y=_ from k'] at k<;>cases k
  ·rw[h2] at e';cases e'
   exact⟨c,h1,z.keeps kp⟩
 ·have e:cenv.cells.lookup y=some c:=e
  rcases mem e with⟨h1,_⟩|⟨_,z⟩
  ·obtain⟨w,z⟩:=I.cell y c h1
   exact⟨w,z.keeps kp⟩
  ·exact⟨_,z⟩
 ·show H cenv.locals=none
  rw[hL];exact I.hok.fresh (Nat.le_refl _)
 ·have e:cenv.cells.lookup y=some c:=e
  rcases mem e with⟨h1,_⟩|⟨h1,_⟩
  ·exact I.freeC y c h1
  ·exact I.hok.fresh (Nat.le_of_succ_le h1)
 ·exact absurd (show p∈([]:List (Addr×Obj))++[] from hp) (by simp)
theorem Jwt {E:Value→Shared→Prop} {D:Addr} {xs:List V} {y:V} {v:Value} {Q:Value→Shared→Prop} (I:Inv X pins σ H s) (hD:H D=some (.lst xs)) (hz:xs.length<sizeLine) (r:JX y v)
  (h:∀s',Inv X pins σ (upd H D (.lst (xs++[y]))) s'→Q .none s'):wpAny (model X.prog X.w) X.A (call (.builtin "list.append") [.ref D,v]) Q E s:=by
 obtain⟨hz',its,n,ri,e⟩:=I.hok D _ hD
 have hl:=ri.length
 refine append_at (hsz:=by rw[List.size_toArray];omega) e fun h' sb ho'=>?_
 refine h {s with heap:=h'} (I.write (t':=s.toks) (by rw[hD];trivial) (.inl rfl) (fun b u hb q=>(sb.2 b hb).trans q) ⟨_,ho'⟩ ⟨by rw[List.length_append];exact hz,its++[v],n+1,ri.append (.cons r .nil),?_⟩)
 rw[ho']
 simp
noncomputable def PTs (X:Cx) (ifs:List Expr) (t:TT):Prop:=
 ∀(pins:List (Addr×Obj)) (s:Shared) (σ:St) (H:Hp) (Q:Bool→Hp→Prop),Inv X pins σ H s→t σ H Q→
  wpAny (model X.prog X.w) X.A (forIn ifs true fun c r=>if r=true then do let ok←isTrue c X.env (eval c X.env);pure (ForInStep.yield ok) else pure (ForInStep.yield r)) (TP X pins σ Q) X.xe s
noncomputable def Jxe:TT:=fun _ H Q=>Q true H
theorem Qo:PTs X [] Jxe:=fun _ _ _ H _ I h=>wpAny_tests_nil ⟨H,I,h⟩
theorem Jcp {c:Expr} {t:TT} (h:PT X c t):PTs X [c] t:=fun pins s σ H Q I hw=>wpAny_tests_one (h pins s σ H Q I hw)
end
theorem Jr7 {α:Type} {t:Sem α} {Q Q':α→Shared→Prop} {M:Model} {A:Around} {E:Value→Shared→Prop} {s:Shared} (h:wpAny M A t Q (fun _ _=>False) s) (hQ:∀a s,Q a s→Q' a s):wpAny M A t Q' E s:=wpAny_mono h hQ fun _ _ z=>False.elim z
theorem Joa {prog:Program} {w:World} {A:Around} {R:Result→Shared→Prop} {s:Shared} {elt target iter:Expr} {ifs:List Expr} {scope:Scope} {pos:Pos} {it acc:Value} {env:Env} (I:Nat→Shared→Prop)
  (turn:∀n s,I n s→wpAny (model prog w) A (pyNext it) (fun r s₁=>match r with
   |none=>R (.ok .next) s₁
   |some v=>wpAny (model prog w) A (letOwnedTupleGo target it v) (fun _ s₁'=>wpAny (model prog w) A (assign target env v) (fun _ s₂=>
     wpAny (model prog w) A (forIn ifs true fun c r=>if r=true then do let ok←isTrue c env (eval c env);pure (ForInStep.yield ok) else pure (ForInStep.yield r)) (fun ok s₃=>
      if ok=true then wpAny (model prog w) A (eval elt env) (fun x s₄=>
       wpAny (model prog w) A (call (.builtin "list.append") [acc,x]) (fun _ s₅=>∃m,m<n∧I m s₅) (notedBy (model prog w) A env fun e s'=>R (.error e) s') s₄) (notedBy (model prog w) A env fun e s'=>R (.error e) s') s₃
      else∃m,m<n∧I m s₃) (notedBy (model prog w) A env fun e s'=>R (.error e) s') s₂) (notedBy (model prog w) A env fun e s'=>R (.error e) s') s₁') (notedBy (model prog w) A env fun e s'=>R (.error e) s') s₁) (notedBy (model prog w) A env fun e s'=>R (.error e) s') s)
  (n:Nat) (h:I n s):
  codeAny (model prog w) A (.compLoop (.ListComp elt [⟨target,iter,ifs,0⟩] scope pos) 0 it acc env) R s:=by
 refine codeAny_loop rfl I (fun n s hI=>?_) n h
 show wpAny _ A ((compTurn (.ListComp elt [⟨target,iter,ifs,0⟩] scope pos) 0 it acc env).onRaise (fun x=>do noteFrame x env;theTreesLotGoes x)) _ _ s
 refine wpAny_noted ?_
 rw[compTurn_list]
 refine wpAny_bind (wpAny_standAt (wpAny_bind (wpAny_mono (turn n s hI) (fun r s₁ h₁=>?_) fun _ _ h'=>h')))
 cases r with
 |none=>exact wpAny_pure h₁
 |some v=>
  refine wpAny_bind (wpAny_mono h₁ (fun _ s₁' h₁'=>?_) fun _ _ h'=>h')
  refine wpAny_bind (wpAny_mono h₁' (fun _ s₂ h₂=>wpAny_bind (wpAny_mono h₂ (fun ok s₃ h₃=>?_) fun _ _ h'=>h')) fun _ _ h'=>h')
  cases ok with
  |false=>exact wpAny_pure ⟨rfl,h₃⟩
  |true=>
   exact wpAny_bind (wpAny_bind (wpAny_mono h₃ (fun x s₄ h₄=>wpAny_bind (wpAny_mono h₄ (fun _ s₅ h₅=>wpAny_pure (wpAny_pure ⟨rfl,h₅⟩)) fun _ _ h'=>h')) fun _ _ h'=>h'))
section
variable {X:Cx}
noncomputable def tLc (wi:TI) (g:TG) (tt:TT) (te:TE) (vs:List Nat):TE:=fun σ H Q=>wi σ H fun J H1=>∀D,H1 D=none→∃W:Nat→Nat→Hp→Prop,(∃m,W 0 m (upd H1 D (.lst [])))∧∀i m H,W i m H→
 (J.stop i H∧Q (.ref D) H)∨(J.go i H∧∃Nx:Hp→Prop,(∀H',Nx H'→∃m',m'<m∧W (i+1) m' H')∧∀x H',J.yld i H x H'→g x (JaU σ vs) H' fun σ2 H2=>JaU σ2 vs=JaU σ vs∧tt σ2 H2 fun b H3=>
  if b=true then te σ2 H3 fun y H4=>∃acc,H4 D=some (.lst acc)∧acc.length<sizeLine∧Nx (upd H4 D (.lst (acc++[y]))) else Nx H3)
theorem JrB {pins:List (Addr×Obj)} {s:Shared} {σ:St} {H:Hp} {Q:VK} {elt tg iter:Expr} {ifs:List Expr} {scope:Scope} {own:List (Str×Nat)} {pos pos':Pos} {wi:TI} {g:TG} {tt:TT} {te:TE} {use:Option (Value→Sem Unit)} {Qf:Value→Shared→Prop}
  (hc:X.calm=true) (hN:X.N.Nodup) (I:Inv X pins σ H s) (hi:PI X tg iter wi) (ok:Jp1 X.N X.env.scope scope own)
  (hg:∀(s:Shared) (H:Hp) (C:Addr) (cl:List (Str×Addr)) (fp:List Addr),PG (X.blk s H scope (compEnvC scope cl C X.env) fp) tg g) (ht:∀(s:Shared) (H:Hp) (C:Addr) (cl:List (Str×Addr)) (fp:List Addr),PTs (X.blk s H scope (compEnvC scope cl C X.env) fp) ifs tt)
  (he:∀(s:Shared) (H:Hp) (C:Addr) (cl:List (Str×Addr)) (fp:List Addr),PE (X.blk s H scope (compEnvC scope cl C X.env) fp) elt te) (hs:∀x,foldedSetIterable iter X.env x=pure x)
  (h:tLc wi g tt te (own.map (·.2)) σ H Q)
  (hRR:∀D C s' m H',Inv X pins σ H' s'→Q (.ref D) H'→s'.heap.Ns C m→Jj8 X pins H' C→compPost (model X.prog X.w) X.A X.xe use Qf (.ref D) C (.ok .next) s'):
  wpAny (model X.prog X.w) X.A (comprehension (.ListComp elt [⟨tg,iter,ifs,0⟩] scope pos) scope X.env pos' (newList []) false (eval iter X.env) use) Qf X.xe s:=by
 have hfree:∀y∈scope.names,y.2=.free→∃c,X.env.cells.lookup y.1=some c:=fun y hy e=>by
  rcases ok.free y hy e with k|k
  ·exact I.ok.has _ (.inl k)
  ·exact I.ok.has _ (.inr k)
 refine wpAny_comprehension_free (use:=use) rfl hs (JqU hfree) ok.kind (fun y hy e=>by rw[ok.uniq y hy,e])
  (thn (hi pins s σ H _ I h) fun xv s1 hx=>thn hx fun itv s2 h2=>?_)
 obtain⟨it,fp,tn,J,H2,e,I2,T,st2,f2,q⟩:=h2
 subst e
 refine wpAny_newObj_type (Jpk ?_) (by show 0≤sizeLine;decide)
 generalize hD:s2.heap.objs.size=D
 have hDn:H2 D=none:=I2.hok.fresh (Nat.le_of_eq hD)
 obtain⟨W,⟨m0,w0⟩,turn⟩:=q D hDn
 generalize hs3:({s2 with heap:=s2.heap.push {cls:=.type "list",data:=.seq ([]:List Value).toArray}}:Shared)=s3
 have I3:Inv X pins σ (upd H2 D (.lst [])) s3:=by
  rw[←hs3]
  refine I2.laid (t':=s2.toks) (fun b o e=>Heap.get?_push_of_some _ e) (Nat.le_of_eq hD) ⟨Nat.zero_le _,[],0,.nil,?_⟩
  rw[←hD]
  exact Heap.get?_push_size _ rfl
 have h3:s3.heap=s2.heap.push {cls:=.type "list",data:=.seq ([]:List Value).toArray}:=by rw[←hs3]
 have sz:∀b∈fp,b<s2.heap.objs.size:=fun b hb=>by
  obtain⟨o,e,_⟩:=T.obj _ _ st2 b hb
  exact Heap.lt_size e
 have f3:∀b∈fp,Jj8 X pins (upd H2 D (.lst [])) b∧b<s3.heap.objs.size:=fun b hb=>by
  have hlt:=sz b hb
  refine⟨⟨?_,(f2 b hb).2⟩,by rw[h3,Heap.size_push];exact Nat.lt_succ_of_lt hlt⟩
  rw[Jh (by rw[←hD];exact Nat.ne_of_lt hlt)]
  exact(f2 b hb).1
 have st3:tn 0 s3.heap:=T.keep _ _ _ st2 fun b _ o e=>by rw[h3];exact Heap.get?_push_of_some _ e
 have I4:=JpJ I3 ok hN f3
 have pg:=hg s3 (upd H2 D (.lst [])) s3.heap.objs.size (cellsFrom (s3.heap.objs.size+1) scope.names (QK X.env.cells scope.names [])) fp
 have pt:=ht s3 (upd H2 D (.lst [])) s3.heap.objs.size (cellsFrom (s3.heap.objs.size+1) scope.names (QK X.env.cells scope.names [])) fp
 have pe:=he s3 (upd H2 D (.lst [])) s3.heap.objs.size (cellsFrom (s3.heap.objs.size+1) scope.names (QK X.env.cells scope.names [])) fp
 show codeAny _ _ (.compStart (.ListComp elt [⟨tg,iter,ifs,0⟩] scope pos) 0 (.ref it) (.ref D) (compEnvC scope (cellsFrom (s3.heap.objs.size+1) scope.names (QK X.env.cells scope.names [])) s3.heap.objs.size X.env)) (compPost (model X.prog X.w) X.A X.xe use Qf (.ref D) s3.heap.objs.size) {s3 with heap:=pushCells (s3.heap.push {cls:=.type "dict",data:=.dict #[]}) scope.names}
 have nfp:∀b∈fp,(upd H2 D (.lst [])) b=none:=fun b hb=>(f3 b hb).1.1
 generalize hce:compEnvC scope (cellsFrom (s3.heap.objs.size+1) scope.names (QK X.env.cells scope.names [])) s3.heap.objs.size X.env=ce at I4 pg pt pe⊢
 have cL:ce.locals=s3.heap.objs.size:=by subst hce;rfl
 generalize hH3:upd H2 D (.lst [])=H3 at I3 I4 pg pt pe w0 nfp f3
 generalize hs4:({s3 with heap:=pushCells (s3.heap.push {cls:=.type "dict",data:=.dict #[]}) scope.names}:Shared)=s4 at I4⊢
 have st4:tn 0 s4.heap:=T.keep _ _ _ st3 fun b _ o e=>by rw[←hs4];exact pushCells_keeps _ _ _ _ (Heap.get?_push_of_some _ e)
 have stat:∀{σ':St} {H':Hp} {s':Shared},Inv (X.blk s3 H3 scope ce fp) [] σ' H' s'→(∀b∈fp,H' b=none)→∀b∈fp,Jj8 (X.blk s3 H3 scope ce fp) [] H' b:=fun {σ' H' s'} I' hn b hb=>
  ⟨hn b hb,(I'.ok.exf b hb).1,I'.ok.exfs b hb,.inl hb,fun x c e=>(I'.ok.exf b hb).2 x c e,fun p hp=>absurd (show p∈([]:List (Addr×Obj))++[] from hp) (by simp)⟩
 have loop:codeAny (model X.prog X.w) X.A (.compLoop (.ListComp elt [⟨tg,iter,ifs,0⟩] scope pos) 0 (.ref it) (.ref D) ce) (compPost (model X.prog X.w) X.A X.xe use Qf (.ref D) s3.heap.objs.size) s4:=by
  refine Joa (fun n s'=>∃i H',Inv (X.blk s3 H3 scope ce fp) [] (JaU σ (own.map (·.2))) H' s'∧tn i s'.heap∧(∀b∈fp,H' b=none)∧W i n H') ?_ m0 ⟨0,H3,I4,st4,nfp,w0⟩
  rintro n s5 ⟨i,H5,I5,st5,n5,w5⟩
  rcases turn i n H5 w5 with⟨stop,qq⟩|⟨go,Nx,hNx,step⟩
  ·have td:=T.done (X.blk s3 H3 scope ce fp) rfl rfl rfl hc i [] s5 _ H5 (fun _ _=>False) I5 (stat I5 n5) st5 stop
   refine Jr7 td fun r s6 ⟨hr,I6⟩=>?_
   subst hr
   have I7:Inv X pins σ H5 s6:=I3.call' (ch:=fp) I6.os I6.base I6.hok I6.bare fun b hb=>⟨(f3 b hb).1.2.2.2.1,(f3 b hb).1.2.1,(f3 b hb).1.2.2.2.2.1,(f3 b hb).1.2.2.2.2.2⟩
   have nC:H5 s3.heap.objs.size=none:=by
    have z:H5 ce.locals=none:=I6.free
    rw[cL] at z
    exact z
   obtain⟨m,hn,_⟩:=I6.loc
   have hn:s6.heap.Ns ce.locals m:=hn
   rw[cL] at hn
   exact hRR D s3.heap.objs.size s6 m H5 I7 qq hn (I3.fpOk (Nat.le_refl _) nC)
  ·have ti:=T.item (X.blk s3 H3 scope ce fp) rfl rfl rfl hc i [] s5 _ H5 (fun _ _=>False) I5 (stat I5 n5) st5 go
   refine Jr7 ti fun r s6 ⟨u,hr,h6⟩=>?_
   subst hr
   refine Jr7 h6 fun _ s7 ⟨x,H7,I7,r7,y7,st7,n7⟩=>?_
   have I7':=I7.pinned (stat I7 n7) (T.obj _ _ st7)
   refine Jr7 (pg _ s7 _ H7 x u _ I7' r7 (step x H7 y7)) fun _ s8 ⟨σ8,H8,I8,hw8,q8⟩=>?_
   refine Jr7 (pt _ s8 σ8 H8 _ I8 q8) fun b s9 ⟨H9,I9,q9⟩=>?_
   have fin:∀{s':Shared} {H':Hp},Inv (X.blk s3 H3 scope ce fp) ([]++Jk1 fp s7.heap) σ8 H' s'→Nx H'→∃m,m<n∧∃i H',Inv (X.blk s3 H3 scope ce fp) [] (JaU σ (own.map (·.2))) H' s'∧tn i s'.heap∧(∀b∈fp,H' b=none)∧W i m H':=fun {s' H'} I' nx=>by
    obtain⟨m',hm,w'⟩:=hNx H' nx
    have pin':∀b∈fp,∀o,s7.heap.get? b=some o→s'.heap.get? b=some o∧H' b=none:=fun b hb o e=>
     let z:=I'.pin (b,o) (List.mem_append_right _ (List.mem_append_right _ (JgY hb e)))
     ⟨z.1,z.2.1⟩
    have hl:(JaU σ (own.map (·.2))).length=σ8.length:=by rw[←hw8,JeE]
    refine⟨m',hm,i+1,H',(I'.unpinned (pins:=[])).weak hl (fun j v e=>?_),T.keep _ _ _ st7 fun b hb o e=>(pin' b hb o e).1,fun b hb=>?_,w'⟩
    ·rw[←hw8] at e
     exact(Jie e).1
    ·obtain⟨o,e,_⟩:=T.obj _ _ st7 b hb
     exact(pin' b hb o e).2
   cases b with
   |false=>
    simp only[Bool.false_eq_true,if_false] at q9⊢
    exact fin I9 q9
   |true=>
    simp only[if_true] at q9⊢
    refine Jr7 (pe _ s9 σ8 H9 _ I9 q9) fun z s10 ⟨yv,H10,I10,r10,acc,hD10,hz10,nx⟩=>?_
    exact Jwt (X:=X.blk s3 H3 scope ce fp) I10 hD10 hz10 r10 fun s11 I11=>fin I11 nx
 exact codeAny_compStart_list loop (T.self X.A 0 _ _ _ st4 loop)
theorem WH {elt tg iter:Expr} {ifs:List Expr} {scope:Scope} {own:List (Str×Nat)} {pos:Pos} {wi:TI} {g:TG} {tt:TT} {te:TE} (hc:X.calm=true) (hN:X.N.Nodup) (hi:PI X tg iter wi) (ok:Jp1 X.N X.env.scope scope own)
  (hg:∀(s:Shared) (H:Hp) (C:Addr) (cl:List (Str×Addr)) (fp:List Addr),PG (X.blk s H scope (compEnvC scope cl C X.env) fp) tg g) (ht:∀(s:Shared) (H:Hp) (C:Addr) (cl:List (Str×Addr)) (fp:List Addr),PTs (X.blk s H scope (compEnvC scope cl C X.env) fp) ifs tt)
  (he:∀(s:Shared) (H:Hp) (C:Addr) (cl:List (Str×Addr)) (fp:List Addr),PE (X.blk s H scope (compEnvC scope cl C X.env) fp) elt te) (hs:∀x,foldedSetIterable iter X.env x=pure x:=by intro _;rfl):
  PE X (.ListComp elt [⟨tg,iter,ifs,0⟩] scope pos) (tLc wi g tt te (own.map (·.2))):=by
 intro pins s σ H Q I h
 rw[eval_ListComp]
 refine JrB hc hN I hi ok hg ht he hs h fun D C s' m H' I' q hn f=>⟨m,hn,fun h'' sb=>?_⟩
 obtain⟨f0,f1,f2,f3,f4,f5⟩:=f
 exact⟨.ref D,H',I'.turned (t':=s'.toks) (fun b o hb e=>(sb.2 b hb).trans e) f0 f1 f3 f4 f5,rfl,q⟩
theorem JaA {i:Nat} {y:Str} {py:Pos} {elt tg iter:Expr} {ifs:List Expr} {scope:Scope} {own:List (Str×Nat)} {pos spos:Pos} {wi:TI} {g:TG} {tt:TT} {te:TE} (hc:X.calm=true) (hN:X.N.Nodup) (hy:X.N[i]? =some y) (hyl:X.env.scope.names.lookup y=some .local)
  (hsw:swapsWith (.ListComp elt [⟨tg,iter,ifs,0⟩] scope pos) (some (.Name y py)) spos.line X.env=pure true) (hi:PI X tg iter wi) (ok:Jp1 X.N X.env.scope scope own)
  (hg:∀(s:Shared) (H:Hp) (C:Addr) (cl:List (Str×Addr)) (fp:List Addr),PG (X.blk s H scope (compEnvC scope cl C X.env) fp) tg g) (ht:∀(s:Shared) (H:Hp) (C:Addr) (cl:List (Str×Addr)) (fp:List Addr),PTs (X.blk s H scope (compEnvC scope cl C X.env) fp) ifs tt)
  (he:∀(s:Shared) (H:Hp) (C:Addr) (cl:List (Str×Addr)) (fp:List Addr),PE (X.blk s H scope (compEnvC scope cl C X.env) fp) elt te) (hs:∀x,foldedSetIterable iter X.env x=pure x:=by intro _;rfl):
  PS X (.Assign [.Name y py] (.ListComp elt [⟨tg,iter,ifs,0⟩] scope pos) spos) (Jti (tLc wi g tt te (own.map (·.2))) (JmX i)):=by
 intro pins s σ H D I h
 rw[exec_Assign_Name_used _ _ _ _ hsw]
 refine wpAny_bind (wpAny_standAt (wpAny_bind ?_))
 show wpAny _ X.A (do let _←comprehension (.ListComp elt [⟨tg,iter,ifs,0⟩] scope pos) scope X.env (firstIterPos [⟨tg,iter,ifs,0⟩] pos) (newList []) false (eval iter X.env) (some (assign (.Name y py) X.env))) _ _ s
 have h:tLc wi g tt te (own.map (·.2)) σ H (fun x H1=>JmX i x σ H1 D.nx):=h
 refine wpAny_bind (thn (JrB (Qf:=fun _ s'=>SP X pins D .next s') hc hN I hi ok hg ht he hs h fun L C s' m H' I' q hn f=>?_) fun _ s' hq=>wpAny_pure (wpAny_pure hq))
 show wpAny _ _ (assign (.Name y py) X.env (.ref L)) _ _ _
 refine wpAny_assign_Name (JmC (v:=V.ref L) I' hN hy (.inl hyl) rfl (fun s2 I2 ⟨a,sb,ha⟩=>?_) (.inr hyl))
 obtain⟨f0,f1,f2,f3,f4,f5⟩:=f
 have haC:C≠a:=by
  rcases ha with z|z
  ·rw[z];exact f1
  ·exact fun e=>f4 y a z e.symm
 refine⟨m,hn.sameBut sb haC,fun h3 sb3=>?_⟩
 exact⟨_,H',I2.turned (t':=s2.toks) (fun b o hb e=>(sb3.2 b hb).trans e) f0 f1 f3 f4 f5,q⟩
end
end L2
namespace L2
open PySem PySem.Spec PyProof.Rows
end L2
namespace L2
open PySem PySem.Spec PyProof.Rows
section
variable {κ:Type} [DecidableEq κ]
noncomputable def Jni (kvs:List (κ×V)) (k:κ):Option V:=(kvs.find? fun kv=>decide (kv.1=k)).map (·.2)
theorem Js6 {p:κ×V} {r:List (κ×V)} {k:κ} (e:p.1=k):Jni (p::r) k=some p.2:=by simp[Jni,List.find?_cons,e]
theorem Js7 {p:κ×V} {r:List (κ×V)} {k:κ} (e:¬p.1=k):Jni (p::r) k=Jni r k:=by simp[Jni,List.find?_cons,e]
theorem Jh2.getD {o:Option V} {u:Option Value} {d:V} {d':Value} (r:Jh2 o u) (rd:JX d d'):JX (o.getD d) (u.getD d'):=by
 cases o with
 |none=>cases u with
  |none=>exact rd
  |some _=>exact(show False from r).elim
 |some _=>cases u with
  |none=>exact(show False from r).elim
  |some _=>exact r
theorem KV.val {kvs:List (κ×V)} {vs:List (κ×Value)} (r:KV kvs vs) (k:κ):Jh2 (Jni kvs k) (valueAt vs k):=by
 unfold KV at r
 induction r with
 |nil=>exact True.intro
 |@cons p q ps qs h t ih=>
  obtain⟨h1,h2⟩:=h
  by_cases e:p.1=k
  ·have e':q.1=k:=h1.symm.trans e
   have b:valueAt (q::qs) k=some q.2:=by simp[valueAt,List.find?_cons,e']
   rw[Js6 e,b];exact h2
  ·have e':¬q.1=k:=fun z=>e (h1.trans z)
   have b:valueAt (q::qs) k=valueAt qs k:=by simp[valueAt,List.find?_cons,e']
   rw[Js7 e,b];exact ih
end
theorem JvD {P:Program} {w:World} {k:Key} {u:Value} (r:JX (kV k) u):(Vg P w).is k u=true:=by
 cases k with
 |inl i=>obtain⟨t,e⟩:=(show∃t,u=Value.int i t from r);subst e;exact Je4 P w i t
 |inr x=>obtain⟨t,e⟩:=(show∃t,u=Value.str x t from r);subst e;exact Je3 P w x t
noncomputable def Jxb (i:Expr):Prop:=∀ov iv,subscripted i false ov iv=operate [ov,iv] (getItem ov iv)
theorem Juv {prog:Program} {w:World} {A:Around} {E:Value→Shared→Prop} {s:Shared} {env:Env} {value slice:Expr} {pos:Pos} {T id:String} {Q:Value→Shared→Prop}
  (hl:typeLookup (.type T) "__getitem__"=pure (some (.builtin id))) (hs:Jxb slice)
  (h:wpAny (model prog w) A (eval value env) (fun o s₁=>wpAny (model prog w) A (eval slice env) (fun i s₂=>s₂.TypeIs o T∧wpAny (model prog w) A (getItem o i) Q E s₂) E s₁) E s):
  wpAny (model prog w) A (eval (.Subscript value slice pos) env) Q E s:=by
 refine Subscript_ (wpAny_mono h (fun o s₁ h₁=>wpAny_mono h₁ (fun i s₂ h₂=>?_) fun _ _ x=>x) fun _ _ x=>x)
 obtain⟨hT,h₂⟩:=h₂
 unfold subscriptTail
 refine wpAny_bind ?_
 rw[getitemInPython_of_ne hT.not_modules]
 refine wpAny_bind (wpAny_specialOf hT hl ?_)
 have fin:wpAny (model prog w) A (subscripted slice false o i) (fun r s₃=>wpAny (model prog w) A (letTemporaryGo value o r>>= fun _=>pure r) Q E s₃) E s₂:=by
  rw[hs o i]
  exact wpAny_operating (wpAny_mono h₂ (fun r s₃ h₃=>wpAny_bind (wpAny_letTemporaryGo (wpAny_pure h₃))) fun _ _ x=>x)
 first
  |exact wpAny_pure (wpAny_bind fin)
  |exact wpAny_bind (wpAny_pure (wpAny_bind fin))
  |exact wpAny_bind fin
structure M2 (X:Cx) (o:Expr) (m:Str) (apos:Pos) (e f:Expr) (cpos:Pos):Prop where
 base:attributeBase o m X.env (eval o X.env)=eval o X.env
 few:((backTo cpos (starEach [e,f] X.env)).all (fun x=>!x.1)&&(backToKw cpos (keywordEach [] X.env)).all (fun x=>x.1.isSome)
  &&decide (([e,f]:List Expr).length+([]:List Keyword).length+(if([]:List Keyword).isEmpty then 0 else 1)<30))=true
 line:(apos.endLine==cpos.line)=true
 trees:backTo cpos (starEach [e,f] X.env)=[(false,eval e X.env),(false,eval f X.env)]
end L2
namespace L2
open PySem PySem.Spec PyProof.Rows
end L2
namespace L2
open PySem PySem.Spec PyProof.Rows
theorem Jlx:bootBuiltins "reversed"=some (.type "reversed"):=by decide+kernel
section
variable {X:Cx} {pins:List (Addr×Obj)} {σ:St} {H:Hp} {s:Shared} {h':Heap}
theorem Inv.turnedL {t':Nat} {ch:List Addr} (I:Inv X pins σ H s) (k:∀b o,b∉ch→s.heap.get? b=some o→h'.get? b=some o) (hf:∀b∈ch,Jj8 X pins H b):Inv X pins σ H {s with heap:=h',toks:=t'}:=by
 have nit:∀b u,H b=some u→b∉ch:=fun b u e z=>by
  have q:=(hf b z).1
  rw[q] at e;cases e
 refine I.step (g':=s.gens) (d':=s.drawn) (ch:=ch) (fun b hb=>⟨(hf b hb).2.2.2.1,(hf b hb).2.1,(hf b hb).2.2.2.2.1,(hf b hb).2.2.2.2.2⟩) (fun b o _ _ hc e _=>k b o hc e) (fun b o _ _ hc e _=>⟨o.slots,k b o hc e⟩)
  (fun _ _ _ _ n=>n) (fun b o hc e=>⟨o,k b o hc e⟩) (fun _ _ e=>e) (fun _ _ _ e=>e) (fun b ps e=>⟨#[],by rw[e];simp⟩) (fun m hm=>?_) (fun b u e=>?_) I.bare
 ·obtain⟨o,es,ep,ho,r⟩:=hm
  exact⟨o,es,ep,k _ o (fun z=>(hf _ z).2.1 rfl) ho,r⟩
 ·refine(I.hok b u e).stay (fun c v hc q=>k c v ?_ q) (fun _ q=>q) fun _ _ q=>q
  rcases hc with z|z
  ·rw[z];exact nit b u e
  ·exact nit c _ z
theorem Inv.turnedNew {t':Nat} {ch:List Addr} {T:Addr} {ob:HO} (I:Inv X pins σ H s) (k:∀b o,b∉ch→s.heap.get? b=some o→h'.get? b=some o) (hf:∀b∈ch,Jj8 X pins H b) (hT:s.heap.objs.size≤T)
  (new:YZ X.prog X.w (upd H T ob) h' T ob):Inv X pins σ (upd H T ob) {s with heap:=h',toks:=t'}:=by
 have hn:H T=none:=I.hok.fresh hT
 have nit:∀b u,H b=some u→b∉ch:=fun b u e z=>by
  have q:=(hf b z).1
  rw[q] at e;cases e
 refine I.step (g':=s.gens) (d':=s.drawn) (ch:=ch) (fun b hb=>⟨(hf b hb).2.2.2.1,(hf b hb).2.1,(hf b hb).2.2.2.2.1,(hf b hb).2.2.2.2.2⟩) (fun b o _ _ hc e _=>k b o hc e) (fun b o _ _ hc e _=>⟨o.slots,k b o hc e⟩)
  (fun b o _ e n=>?_) (fun b o hc e=>⟨o,k b o hc e⟩) (fun b xs e=>?_) (fun b o u e=>?_) (fun b ps e=>⟨#[],?_⟩) (fun m hm=>?_) (fun b u e=>?_) I.bare
 ·rw[Jh (Nat.ne_of_lt (Nat.lt_of_lt_of_le (Heap.lt_size e) hT))];exact n
 ·rw[Jh (Jn e hn)];exact e
 ·rw[Jh (Jn e hn)];exact e
 ·rw[Jh (Jn e hn),e];simp
 ·obtain⟨o,es,ep,ho,r⟩:=hm
  exact⟨o,es,ep,k _ o (fun z=>(hf _ z).2.1 rfl) ho,r⟩
 ·by_cases hb:b=T
  ·subst hb
   rw[Jb] at e
   cases e
   exact new
  ·rw[Jh hb] at e
   refine(I.hok b u e).stay (fun c v hc q=>k c v ?_ q) (fun c q=>by rw[Jh (Jn q hn)];exact q) fun c xs q=>by rw[Jh (Jn q hn)];exact q
   rcases hc with z|z
   ·rw[z];exact nit b u e
   ·exact nit c _ z
end
section
variable {X:Cx}
theorem Jv2 {tg:Expr} {pins:List (Addr×Obj)} {σ:St} {H:Hp} {s:Shared} {R:It→Hp→Prop} {J:It} {tn:Nat→Heap→Prop} {tk:Nat} (I:Inv X pins σ H s) (o:Obj)
  (T:JpO X.prog X.w X.K tg J [s.heap.objs.size] s.heap.objs.size tn) (st:tn 0 (s.heap.push o)) (q:R J H):PIE X pins σ tg R (.ref s.heap.objs.size) {s with heap:=s.heap.push o,toks:=tk}:=by
 refine⟨s.heap.objs.size,[s.heap.objs.size],tn,J,H,rfl,I.kept fun b ob e=>Heap.get?_push_of_some _ e,T,st,fun b hb=>?_,q⟩
 have e:b=s.heap.objs.size:=by simpa using hb
 subst e
 exact I.fpOk (Nat.le_refl _) (I.hok.fresh (Nat.le_refl _))
end
noncomputable def Itv (K:PySem.W.Frag) (a:Addr) (n:Nat):It:=
 ⟨fun i H=>i<n∧∃(xs:List V) (x:V),SqL K H a xs∧xs[n-1-i]? =some x,fun i H x H'=>H'=H∧∀xs,SqL K H a xs→xs[n-1-i]? =some x,fun i _=>n≤i⟩
theorem Js8 {P:Program} {w:World} {K:PySem.W.Frag} {tg:Expr} (a it:Addr) (n:Nat):JpO P w K tg (Itv K a n) [it] it (fun i h=>i≤n∧h.IsRevIter it a ((n:Int)-1-(i:Nat))) where
 mem:=by simp
 obj:=fun i h st b hb=>by
  have e:b=it:=by simpa using hb
  subst e
  obtain⟨_,o,e,c,d⟩:=st
  exact⟨o,e,fun v z=>by rw[d] at z;cases z⟩
 keep:=fun i h h' st k=>⟨st.1,st.2.at fun o e=>k it (by simp) o e⟩
 item:=by
  intro X hP hw hK hc i pins s σ H E I hf st hg
  subst hP hw hK
  obtain⟨hin,xs,x,hq,hx⟩:=hg
  obtain⟨its,rv,p,hz⟩:=I.list hq
  obtain⟨u,hu,ru⟩:=rv.get hx
  obtain⟨f0,f1,f2,f3,f4,f5⟩:=hf it (by simp)
  obtain⟨_,hit⟩:=st
  have e1:(n:Int)-1-((i:Nat):Int)=((n-1-i:Nat):Int):=by omega
  rw[e1] at hit
  refine wpAny_pyNext_rev_item hit p.isList (x:=u) (by simpa using hu) fun h' st' sb=>?_
  have e2:((n-1-i:Nat):Int)-1=(n:Int)-1-((i+1:Nat):Int):=by omega
  rw[e2] at st'
  have I1:Inv X pins σ H {s with heap:=h'}:=I.turned (t':=s.toks) (fun b o hb e=>(sb.2 b hb).trans e) f0 f1 f3 f4 f5
  obtain⟨o,e,c,d⟩:=id st'
  exact⟨u,rfl,JtQ (s:={s with heap:=h'}) e c d (by decide) ⟨x,H,I1,ru,⟨rfl,fun ys hy=>by rw[I.list_inj hy hq];exact hx⟩,⟨hin,st'⟩,fun b hb=>(hf b hb).1⟩⟩
 done:=by
  intro X hP hw hK hc i pins s σ H E I hf st hg
  subst hP hw hK
  obtain⟨f0,f1,f2,f3,f4,f5⟩:=hf it (by simp)
  obtain⟨hin,hit⟩:=st
  have hge:n≤i:=hg
  have e1:(n:Int)-1-((i:Nat):Int)=-1:=by omega
  rw[e1] at hit
  exact wpAny_pyNext_rev_end (I.ok.hd hc) hit fun h' eb=>⟨rfl,I.turned (t':=s.toks) (fun b o hb e=>eb b o hb e) f0 f1 f3 f4 f5⟩
 self:=fun A i s Q E st h=>wpAny_pyIter_revIter st.2 h
noncomputable def Jxt (K:PySem.W.Frag) (ta:TA):TI:=fun σ H R=>ta σ H fun vs H1=>∃(a:Addr) (xs:List V),vs=[.ref a]∧SqL K H1 a xs∧R (Itv K a xs.length) H1
section
variable {X:Cx} {tg:Expr}
theorem Jpb {e:Expr} {ta:TA} {p pos:Pos} (hg:Gl X "reversed") (hm:X.mg "reversed"=none) (ha:PA X [e] ta) (hs:starEach [e] X.env=[(false,eval e X.env)]:=by rfl):PI X tg (.Call (.Name "reversed" p) [e] [] pos) (Jxt X.K ta):=by
 intro pins s σ H R I h
 refine Call_ (Jg1 I hg hm Jlx (PyProof.Rows.callWith_type1 (thn (ha pos pins s σ H _ I h) fun us s1 ⟨vs,H1,I1,r1,q1⟩=>?_) hs rfl))
 obtain⟨a,xs,e,hq,q⟩:=q1
 subst e
 cases r1 with
 |cons r rr=>
  cases rr
  cases r
  obtain⟨its,rv,p',hz⟩:=I1.list hq
  have hl:=rv.length
  have e1:((its.toArray.size:Nat):Int)-1=(xs.length:Int)-1-((0:Nat):Int):=by simp only[List.size_toArray];omega
  refine call_reversed_list p'.isList (wpAny_pyIter_revIter (l:=a) (i:=((its.toArray.size:Nat):Int)-1) ⟨_,Heap.get?_push_size _ rfl,rfl,rfl⟩ ?_)
  refine Jv2 (tk:=s1.toks) I1 _ (Js8 a _ xs.length) ⟨Nat.zero_le _,?_⟩ q
  rw[←e1]
  exact⟨_,Heap.get?_push_size _ rfl,rfl,rfl⟩
end
noncomputable def Ite (K:PySem.W.Frag) (a:Addr):It:=
 ⟨fun i H=>∃(xs:List V) (x:V),SqL K H a xs∧xs[i]? =some x,fun i H v H'=>∃T x,v=.ref T∧H T=none∧H'=upd H T (.tup [.int (i:Nat),x])∧∀xs,SqL K H a xs→xs[i]? =some x,fun i H=>∃xs:List V,SqL K H a xs∧xs.length≤i⟩
theorem Jr4 {P:Program} {w:World} {K:PySem.W.Frag} {elts:List Expr} {kk:Nat} {tpos:Pos} (a e it:Addr):
  JpO P w K (.Tuple elts kk tpos) (Ite K a) [e,it] e (fun i h=>(∃old,IsEnum h e it ((i:Nat):Int) old)∧h.IsListIter it a i∧e≠it) where
 mem:=by simp
 obj:=fun i h st b hb=>by
  obtain⟨⟨old,he⟩,⟨o,ho,hc,hd⟩,_⟩:=st
  have e':b=e∨b=it:=by simpa using hb
  rcases e' with z|z
  ·rw[z];exact⟨_,he,fun v q=>nomatch q⟩
  ·rw[z];exact⟨o,ho,fun v q=>by rw[hd] at q;cases q⟩
 keep:=fun i h h' st k=>let⟨⟨old,he⟩,hi,hne⟩:=st;⟨⟨old,k e (by simp) _ he⟩,hi.at fun o q=>k it (by simp) o q,hne⟩
 item:=by
  intro X hP hw hK hc i pins s σ H E I hf st hg
  subst hP hw hK
  obtain⟨⟨old,he⟩,hit,hne⟩:=st
  obtain⟨xs,x,hq,hx⟩:=hg
  obtain⟨its,rv,p,hz⟩:=I.list hq
  obtain⟨u,hu,ru⟩:=rv.get hx
  have hel:e<s.heap.objs.size:=Heap.lt_size he
  have hil:it<s.heap.objs.size:=by obtain⟨_,q,_⟩:=hit;exact Heap.lt_size q
  refine wpAny_pyNext_enum_item he hit p.isList (x:=u) (by simpa using hu) hne fun h' ho hit' hT hsz hk=>?_
  refine⟨_,rfl,wpAny_letOwnedTupleGo_enum (s:={s with heap:=h',toks:=s.toks+1}) ho fun h'' he' sb=>?_⟩
  have hT2:h''.get? s.heap.objs.size=some {cls:=.type "tuple",data:=.seq #[.int i s.toks,u]}:=(sb.2 _ (Nat.ne_of_gt hel)).trans hT
  have new:YZ X.prog X.w (upd H s.heap.objs.size (.tup [.int (i:Nat),x])) h'' s.heap.objs.size (.tup [.int (i:Nat),x]):=
   ⟨by show 2≤sizeLine;decide,[.int i s.toks,u],.cons ⟨_,rfl⟩ (.cons ru .nil),⟨_,hT2,rfl,_,rfl⟩⟩
  have I1:Inv X pins σ (upd H s.heap.objs.size (.tup [.int (i:Nat),x])) {s with heap:=h'',toks:=s.toks+1}:=
   I.turnedNew (ch:=[e,it]) (fun b ob hb q=>(sb.2 b (fun z=>hb (by simp[z]))).trans (hk b ob (fun z=>hb (by simp[z])) (fun z=>hb (by simp[z])) q)) hf (Nat.le_refl _) new
  refine⟨.ref s.heap.objs.size,_,I1,rfl,⟨_,x,rfl,I.hok.fresh (Nat.le_refl _),rfl,fun ys hy=>by rw[I.list_inj hy hq];exact hx⟩,⟨⟨u,?_⟩,hit'.at fun o q=>(sb.2 it (Ne.symm hne)).trans q,hne⟩,fun b hb=>?_⟩
  ·have e1:((i+1:Nat):Int)=(i:Int)+1:=by omega
   rw[e1];exact he'
  ·have hb':b<s.heap.objs.size:=by
    have e':b=e∨b=it:=by simpa using hb
    rcases e' with z|z
    ·rw[z];exact hel
    ·rw[z];exact hil
   rw[Jh (Nat.ne_of_lt hb')]
   exact(hf b hb).1
 done:=by
  intro X hP hw hK hc i pins s σ H E I hf st hg
  subst hP hw hK
  obtain⟨⟨old,he⟩,hit,hne⟩:=st
  obtain⟨xs,hq,hx⟩:=hg
  obtain⟨its,rv,p,hz⟩:=I.list hq
  obtain⟨f0,f1,f2,f3,f4,f5⟩:=hf it (by simp)
  have hl:=rv.length
  exact wpAny_pyNext_enum_end (I.ok.hd hc) he hit p.isList (by simp;omega) fun h' eb=>⟨rfl,I.turned (t':=s.toks) (fun b o hb q=>eb b o hb q) f0 f1 f3 f4 f5⟩
 self:=fun A i s Q E st h=>let⟨⟨_,he⟩,_⟩:=st;wpAny_pyIter_enum he h
noncomputable def JvE (K:PySem.W.Frag) (ta:TA):TI:=fun σ H R=>ta σ H fun vs H1=>∃a xs,vs=[.ref a]∧SqL K H1 a xs∧R (Ite K a) H1
theorem JuF {X:Cx} {e:Expr} {ta:TA} {p pos tpos:Pos} {elts:List Expr} {kk:Nat} (hg:Gl X "enumerate") (hm:X.mg "enumerate"=none) (ha:PA X [e] ta) (hs:starEach [e] X.env=[(false,eval e X.env)]:=by rfl):
  PI X (.Tuple elts kk tpos) (.Call (.Name "enumerate" p) [e] [] pos) (JvE X.K ta):=by
 intro pins s σ H R I h
 refine Call_ (Jg1 I hg hm boot_enumerate (PyProof.Rows.callWith_type1 (thn (ha pos pins s σ H _ I h) fun us s1 ⟨vs,H1,I1,r1,q1⟩=>?_) hs rfl))
 obtain⟨a,xs,ex,hq,q⟩:=q1
 subst ex
 cases r1 with
 |cons r rr=>
  cases rr
  cases r
  obtain⟨its,rv,p',hz⟩:=I1.list hq
  refine call_enumerate_list p'.isList fun h' he hit hsz hk=>wpAny_pyIter_enum he ?_
  have I2:Inv X pins σ H1 {s1 with heap:=h'}:=I1.kept (t':=s1.toks) hk
  refine⟨s1.heap.objs.size+1,[s1.heap.objs.size+1,s1.heap.objs.size],_,_,H1,rfl,I2,Jr4 a (s1.heap.objs.size+1) s1.heap.objs.size,⟨⟨.none,he⟩,hit,Nat.succ_ne_self _⟩,fun b hb=>?_,q⟩
  have e':b=s1.heap.objs.size+1∨b=s1.heap.objs.size:=by simpa using hb
  have hle:s1.heap.objs.size≤b:=by
   rcases e' with z|z
   ·rw[z];exact Nat.le_add_right _ _
   ·rw[z];exact Nat.le_refl _
  exact I1.fpOk hle (I1.hok.fresh hle)
theorem JsV:bootBuiltins "zip"=some (.type "zip"):=by decide+kernel
end L2
section
namespace Bits
open PySem PyProof.Rows
end Bits
end
section
namespace TL
open PySem PySem.Builtin PySem.Builtin.Str PySem.StrLaws
end TL
end
namespace L2
open PySem PySem.Spec PyProof.Rows
section
variable {X:Cx}
end
end L2
namespace L2
open PySem PySem.Spec PyProof.Rows
end L2
namespace Att
open PySem PySem.W PySem.Calls PyProof.Rows
section
variable {prog:Program} {w:World} {A:Around} {E:Value→Shared→Prop} {s:Shared} {K:Frag}
end
end Att
namespace L2
open PySem PySem.Spec PyProof.Rows
end L2
namespace L2
open PySem PySem.Spec PyProof.Rows
end L2
namespace L2
open PySem PySem.Spec PyProof.Rows
noncomputable def Uh (s:Stmt) (j:Nat):Stmt:=match s with
 | .ClassDef _ _ _ body _ _ _ _ _ _ _=>body.getD j (.Pass ⟨0,0,0,0⟩)
 |_=>.Pass ⟨0,0,0,0⟩
noncomputable def W1 (s:Stmt):Arguments:=match s with
 | .FunctionDef _ a _ _ _ _ _ _ _ _=>a
 |_=>{posonlyargs:=[],args:=[],vararg:=none,kwonlyargs:=[],kw_defaults:=[],kwarg:=none,defaults:=[]}
noncomputable def WB (s:Stmt):List Stmt:=match s with
 | .FunctionDef _ _ b _ _ _ _ _ _ _=>b
 |_=>[]
noncomputable def Je (s:Stmt):Scope:=match s with
 | .FunctionDef _ _ _ _ _ _ sc _ _ _=>sc
 |_=>{kind:=.function,names:=[],isGenerator:=false,isCoroutine:=false}
noncomputable abbrev CX0:CXT:=fun _ _ _ _ _ _=>False
noncomputable abbrev E0:XK:=fun _ _ _=>False
theorem JbJ {X:Cx}:Jfh CX0 X E0:=fun _ _ _ _ _ _ _ h=>h.elim
structure Fun (K:PySem.W.Frag) (x qual:Str) (st:Stmt) (f:Addr) (fd:FuncData):Prop where
 ex:∃(oc:Value) (od:Option Addr) (kV doc pm:Value) (an:Option Addr) (cdv ct:Value) (osl:Array (Option Value)),
  fd=PySem.W.fnOf x qual (W1 st) (WB st) (Je st) .none kV doc pm an cdv ct∧K.lookup f=some ⟨oc,od,.func fd,osl⟩∧PySem.W.codeIn K cdv qual=true
 kp:PySem.W.keepIn K (.ref f)=true
section
variable {P:Program} {w:World} {K:PySem.W.Frag} {mg:Str→Option Value} {base:Heap}
theorem Fun.ok {x qual:Str} {st:Stmt} {f:Addr} {fd:FuncData} {N ps:List Str} {k:Nat} {sp:Sp} (F:Fun K x qual st f fd) (S:Ji N ps (Je st)) (len:∀vs H Q E,sp vs H Q E→vs.length=ps.length)
  (hbody:∀(cdv:Value) (A:Around) (outer:List Env) (s:Shared) (H:Hp) (vs:List V) (Q:VK) (E:XK),JaR k (A.deeper (envOfC qual (Je st) s.heap.objs.size f cdv))→sp vs H Q E→
   ∃t,PSs (JsM CX0 P w K mg base N qual (Je st) f cdv A outer s H E).nox (WB st) t∧t {nx:=fun _ H'=>Q .non H',rt:=Q} (start N vs) H):JF P w K mg base CX0 (k+1) f fd ps sp:=by
 obtain⟨oc,od,kV,doc,pm,an,cdv,ct,osl,rfl,lk,hcd⟩:=F.ex
 refine Jw4 lk hcd S len fun A outer s H vs Q E hr hsp=>?_
 obtain⟨t,h,q⟩:=hbody cdv A outer s H vs Q E hr hsp
 exact⟨t,h.nox,q⟩
theorem Fun.binds {x qual:Str} {st:Stmt} {f:Addr} {fd:FuncData} {ps:List Str} (F:Fun K x qual st f fd)
  (h:∀(kV doc pm:Value) (an:Option Addr) (cdv ct:Value) (us:List Value),us.length=ps.length→bindArgs (PySem.W.fnOf x qual (W1 st) (WB st) (Je st) .none kV doc pm an cdv ct) ⟨us,[]⟩=pure (ps.zip us)):JcR K fd ps []:=by
 obtain⟨oc,od,kV,doc,pm,an,cdv,ct,osl,rfl,lk,hcd⟩:=F.ex
 exact .all (h kV doc pm an cdv ct)
theorem JiE {x qual:Str} {st:Stmt} {f:Addr} {oc:Value} {od an:Option Addr} {osl:Array (Option Value)} {kV doc pm cdv ct:Value} (l:K.lookup f=some ⟨oc,od,.func (PySem.W.fnOf x qual (W1 st) (WB st) (Je st) .none kV doc pm an cdv ct),osl⟩)
  (c:PySem.W.codeIn K cdv qual=true) (k:PySem.W.keepIn K (.ref f)=true):Fun K x qual st f (PySem.W.fnOf x qual (W1 st) (WB st) (Je st) .none kV doc pm an cdv ct):=⟨⟨oc,od,kV,doc,pm,an,cdv,ct,osl,rfl,l,c⟩,k⟩
end
section
variable {X:Cx}
theorem pv (i:Nat) {x:Str} {pos:Pos} (hN:X.N[i]? =some x:=by rfl) (hv:Vis X.env.scope x:=by first|exact Or.inl rfl|exact Or.inr (Or.inl rfl)|exact Or.inr (Or.inr rfl)) (hd:(x==("__debug__":Str))=false:=by decide)
  (hcd:(x==("__classdict__":Str))=false:=by decide):PE X (.Name x pos) (Jnk i):=Jv4 hN hv hd hcd
end
noncomputable def Jg (H H':Hp):Prop:=∀b o,H b=some o→H' b=some o
theorem Jg.refl (H:Hp):Jg H H:=fun _ _ h=>h
theorem Jg.trans {H H1 H2:Hp} (a:Jg H H1) (b:Jg H1 H2):Jg H H2:=fun c o h=>b c o (a c o h)
theorem Jg.free {H H':Hp} (e:Jg H H') {l:Addr} (h:H' l=Option.none):H l=Option.none:=by
 cases q:H l with
 |none=>rfl
 |some o=>
  rw[e l o q] at h
  cases h
theorem Jg.seq {K:PySem.W.Frag} {H H':Hp} {a:Addr} {xs:List V} (e:Jg H H') (h:SqL K H a xs):SqL K H' a xs:=by
 rcases h with(h|⟨o,h⟩)|h
 ·exact .inl (.inl (e _ _ h))
 ·exact .inl (.inr ⟨o,e _ _ h⟩)
 ·exact .inr h
theorem JwS {α:Type} {l:List α} (hN:l.Nodup) {i j:Nat} {x:α} (a:l[i]? =some x) (b:l[j]? =some x):i=j:=by
 obtain⟨h1,e1⟩:=List.getElem?_eq_some_iff.mp a
 obtain⟨h2,e2⟩:=List.getElem?_eq_some_iff.mp b
 exact(List.getElem_inj hN).mp (e1.trans e2.symm)
theorem Jg.made {H H1:Hp} {x dx C:Addr} (nx:H x=Option.none) (nd:H dx=Option.none) (k:∀b o,(upd (upd H dx (.own x)) x (.ins C dx [])) b=some o→b≠x→H1 b=some o):Jg H H1:=fun b o e=>
 k b o (by rw[Jh (Jn e nx),Jh (Jn e nd)];exact e) (Jn e nx)
end L2
namespace ZS
open PySem
noncomputable def Jf7 (l:List Nat):Prop:=l.Pairwise (fun a b=>a<b)
theorem Ju8 (xs:Array Nat) (j:Nat) (hr:Jf7 xs.toList):∀(fuel lo hi:Nat),hi-lo≤fuel→lo≤hi→hi≤xs.size→
  (∀i,i<lo→xs.getD i j<j)→(∀i,hi≤i→i<xs.size→j≤xs.getD i j)→
  (∀i,i<SetTable.below.go xs j fuel lo hi→xs.getD i j<j)∧(∀i,SetTable.below.go xs j fuel lo hi≤i→i<xs.size→j≤xs.getD i j)∧SetTable.below.go xs j fuel lo hi≤xs.size:=by
 intro fuel
 induction fuel with
 |zero=>
  intro lo hi hf hle hs h1 h2
  have e:hi=lo:=by omega
  subst e
  exact⟨h1,h2,hs⟩
 |succ fuel ih=>
  intro lo hi hf hle hs h1 h2
  unfold SetTable.below.go
  by_cases hlt:lo<hi
  ·rw[if_pos hlt]
   have mono:∀a b,a≤b→b<xs.size→xs.getD a j≤xs.getD b j:=fun a b hab hb=>by
    have ha:a<xs.size:=by omega
    rw[Array.getD_eq_getD_getElem?,Array.getD_eq_getD_getElem?,Array.getElem?_eq_getElem ha,Array.getElem?_eq_getElem hb]
    show xs[a]≤xs[b]
    rcases Nat.lt_or_eq_of_le hab with h|h
    ·have:=List.pairwise_iff_getElem.mp hr a b (by simpa using ha) (by simpa using hb) h
     simp only[Array.getElem_toList] at this
     exact Nat.le_of_lt this
    ·subst h;exact Nat.le_refl _
   show _∧_∧_
   by_cases hm:xs.getD ((lo+hi)/2) j<j
   ·simp only[hm,if_true]
    refine ih ((lo+hi)/2+1) hi (by omega) (by omega) hs (fun i hi'=>?_) h2
    exact Nat.lt_of_le_of_lt (mono i ((lo+hi)/2) (by omega) (by omega)) hm
   ·simp only[hm,if_false]
    refine ih lo ((lo+hi)/2) (by omega) (by omega) (by omega) h1 (fun i h3 h4=>?_)
    exact Nat.le_trans (Nat.le_of_not_lt hm) (mono ((lo+hi)/2) i h3 h4)
  ·rw[if_neg hlt]
   have e:hi=lo:=by omega
   subst e
   exact⟨h1,h2,hs⟩
theorem Jha {xs:Array Nat} (hr:Jf7 xs.toList) (j:Nat):
  (∀i,i<SetTable.below xs j→xs.getD i j<j)∧(∀i,SetTable.below xs j≤i→i<xs.size→j≤xs.getD i j)∧SetTable.below xs j≤xs.size:=by
 unfold SetTable.below
 exact Ju8 xs j hr xs.size 0 xs.size (by omega) (Nat.zero_le _) (Nat.le_refl _) (fun i h=>absurd h (by omega)) (fun i h1 h2=>absurd h2 (by omega))
theorem Jto {xs:Array Nat} {j:Nat} (hr:Jf7 xs.toList) (hn:¬xs[SetTable.below xs j]? =some j):Jf7 (SetTable.insertAt xs (SetTable.below xs j) j).toList:=by
 obtain⟨h1,h2,h3⟩:=Jha hr j
 unfold SetTable.insertAt
 generalize SetTable.below xs j=p at*
 have e:((xs.extract 0 p).push j++xs.extract p xs.size).toList=xs.toList.take p++j::xs.toList.drop p:=by
  simp[List.extract_eq_take_drop]
  exact List.take_of_length_le (by simp)
 rw[e]
 have hd:∀i (hi:i<xs.size),xs.getD i j=xs[i]:=fun i hi=>by simp[Array.getD,hi]
 unfold Jf7
 rw[List.pairwise_append]
 refine⟨List.Pairwise.take hr,List.pairwise_cons.mpr ⟨fun a ha=>?_,List.Pairwise.drop hr⟩,fun a ha b hb=>?_⟩
 ·obtain⟨k,hk,rfl⟩:=List.getElem_of_mem ha
  rw[List.getElem_drop,Array.getElem_toList]
  have hk':p+k<xs.size:=by simp at hk;omega
  have g:=h2 (p+k) (by omega) hk'
  rw[hd _ hk'] at g
  rcases Nat.lt_or_eq_of_le g with g|g
  ·exact g
  ·exfalso
   have hp:p<xs.size:=by omega
   have g0:=h2 p (Nat.le_refl _) hp
   rw[hd _ hp] at g0
   have:xs[p]≤xs[p+k]:=by
    rcases Nat.eq_zero_or_pos k with z|z
    ·subst z;exact Nat.le_refl _
    ·have:=List.pairwise_iff_getElem.mp hr p (p+k) (by simpa using hp) (by simpa using hk') (by omega)
     simp only[Array.getElem_toList] at this
     exact Nat.le_of_lt this
   exact hn (by rw[Array.getElem?_eq_getElem hp];congr 1;omega)
 ·obtain⟨k,hk,rfl⟩:=List.getElem_of_mem ha
  rw[List.getElem_take,Array.getElem_toList]
  have hk':k<p∧k<xs.size:=by simp at hk;omega
  have g1:=h1 k hk'.1
  rw[hd _ hk'.2] at g1
  rcases List.mem_cons.mp hb with rfl|hb
  ·exact g1
  ·obtain⟨m,hm,rfl⟩:=List.getElem_of_mem hb
   rw[List.getElem_drop,Array.getElem_toList]
   have hm':p+m<xs.size:=by simp at hm;omega
   have g2:=h2 (p+m) (by omega) hm'
   rw[hd _ hm'] at g2
   omega
theorem JdP (n:Nat):Jf7 (Array.range n).toList:=by
 rw[Array.toList_range]
 exact List.pairwise_lt_range
theorem JmF {t:SetTable} {j:Nat} (h:∀i,t.slot j≠.live i):¬t.place[SetTable.below t.place j]? =some j:=fun e=>by
 have:=h (SetTable.below t.place j)
 unfold SetTable.slot at this
 simp[e] at this
theorem Jqu {t:SetTable} {f:Nat→Int} {h:Int}:∀(fuel:Nat) (p:SetTable.Probe),(∀d,p.dummy=some d→∀i,t.slot d≠.live i)→∀j d,SetTable.probe.go t f h fuel p=some (.empty j d)→
  (∀i,t.slot j≠.live i)∧∀d',d=some d'→∀i,t.slot d'≠.live i:=by
 intro fuel
 induction fuel with
 |zero=>intro p _ j d e;simp[SetTable.probe.go] at e
 |succ fuel ih=>
  intro p hp j d e
  unfold SetTable.probe.go at e
  have adv:∀q:SetTable.Probe,(t.advance q).dummy=q.dummy:=fun q=>by
   unfold SetTable.advance
   split<;>rfl
  cases hs:t.slot p.j with
  |empty=>
   rw[hs] at e
   simp only[Option.some.injEq,SetTable.Met.empty.injEq] at e
   obtain⟨rfl,rfl⟩:=e
   exact⟨fun i=>by rw[hs];simp,hp⟩
  |dummy=>
   rw[hs] at e
   refine ih _ (fun d' hd' i=>?_) j d e
   rw[adv] at hd'
   have:p.j=d':=Option.some.inj hd'
   rw[←this,hs];simp
  |live i=>
   rw[hs] at e
   simp only at e
   split at e
   ·simp at e
   ·exact ih _ (fun d' hd'=>hp d' (by rw[adv] at hd';exact hd')) j d e
theorem Jmj {t:SetTable} {h:Int} {j:Nat} {b:Bool} (e:t.freeSlot h=some (j,b)):¬t.place[SetTable.below t.place j]? =some j:=by
 unfold SetTable.freeSlot at e
 cases hp:t.probe (fun _=>h+1) h (t.probeStart h) with
 |none=>rw[hp] at e;simp at e
 |some m=>
  rw[hp] at e
  cases m with
  |candidate _ _ _=>simp at e
  |empty j' d=>
   obtain⟨g1,g2⟩:=Jqu (f:=fun _=>h+1) (10*SetTable.turns t.mask) (t.probeStart h) (fun d hd=>by simp[SetTable.probeStart] at hd) j' d hp
   simp only[Option.some.injEq,Prod.mk.injEq] at e
   obtain⟨rfl,_⟩:=e
   cases d with
   |none=>exact JmF g1
   |some d'=>exact JmF (g2 d' rfl)
theorem Jn1 {t:SetTable} (es:Array (Int×Value)) (h:Int) (x:Value) (hr:Jf7 t.place.toList):Jf7 (layNew t es h x).2.1.place.toList∧(layNew t es h x).2.1.led=t.led:=by
 unfold layNew
 cases e:t.freeSlot h with
 |none=>exact⟨JdP _,rfl⟩
 |some p=>
  obtain⟨j,b⟩:=p
  have g:=Jto hr (Jmj e)
  have key:∀(u:SetTable) (n:Nat),Jf7 u.place.toList→u.led=t.led→Jf7 (u.orStandIn n).place.toList∧(u.orStandIn n).led=t.led:=fun u n g hl=>by
   unfold SetTable.orStandIn
   split
   ·exact⟨g,hl⟩
   ·exact⟨JdP _,hl⟩
  exact key _ _ g rfl
theorem JqI {mask finger moves:Nat} {led plain:Bool} {hs:Array Int} {t':SetTable} {o:Array Nat} (e:SetTable.laid mask finger moves led plain hs=some (t',o)):Jf7 t'.place.toList∧t'.led=led:=by
 unfold SetTable.laid at e
 cases q:SetTable.layClean mask hs with
 |none=>rw[q] at e;simp at e
 |some owner=>
  rw[q] at e
  simp only[Option.bind_eq_bind,Option.bind_some,Option.pure_def,Option.some.injEq,Prod.mk.injEq] at e
  obtain⟨rfl,_⟩:=e
  refine⟨?_,rfl⟩
  show List.Pairwise _ _
  simp only[List.pairwise_map]
  refine List.Pairwise.filterMap _ ?_ (List.pairwise_lt_range (n:=mask+1))
  intro a a' haa b hb b' hb'
  simp only[Option.map_eq_some_iff] at hb hb'
  obtain⟨_,_,rfl⟩:=hb
  obtain⟨_,_,rfl⟩:=hb'
  exact haa
theorem JkZ {t:SetTable} (es:Array (Int×Value)) (wanted:Nat):Jf7 (relayAll t es wanted).2.1.place.toList∧(relayAll t es wanted).2.1.led=t.led:=by
 unfold relayAll
 cases e:t.relaid (es.map (·.1)) wanted with
 |none=>exact⟨JdP _,rfl⟩
 |some p=>
  obtain⟨t',o⟩:=p
  simp only
  split
  ·exact JqI e
  ·exact⟨JdP _,rfl⟩
end ZS
namespace ZS
open PySem
noncomputable def num:Value→Int
 | .int n _=>n
 |_=>0
noncomputable abbrev JjY (l:List (Int×Value)):List Int:=l.map fun e=>num e.2
noncomputable def Led (w:World) (t:SetTable):Prop:=w.params.followText "set-order"=true∨t.led=true
structure Tab (prog:Program) (w:World) (es:Array (Int×Value)) (t:SetTable) (ks:List Int):Prop where
 el:ElemsOf (PySem.intKind prog w) es.toList
 pm:(JjY es.toList).Perm ks
 fits:t.fits es.size=true
 rise:Jf7 t.place.toList
 led:Led w t
noncomputable def Jhb (prog:Program) (w:World) (h:Heap) (a:Addr) (ks:List Int):Prop:=
 ∃o es ep t,h.get? a=some o∧o.ExactSet∧o.data=.set es ep t∧Tab prog w es t ks∧ks.length<scanBound
theorem Tab.size {prog:Program} {w:World} {es:Array (Int×Value)} {t:SetTable} {ks:List Int} (T:Tab prog w es t ks):es.size=ks.length:=by
 rw[←T.pm.length_eq,List.length_map,Array.length_toList]
theorem Jhb.at' {prog:Program} {w:World} {h h':Heap} {a:Addr} {ks:List Int} (x:Jhb prog w h a ks) (k:∀o,h.get? a=some o→h'.get? a=some o):Jhb prog w h' a ks:=by
 obtain⟨o,es,ep,t,ho,r⟩:=x
 exact⟨o,es,ep,t,k o ho,r⟩
theorem JmT {k:Int} {v:Value} (h:Value.isInt k v=true):num v=k:=by
 obtain⟨t,rfl⟩:=Value.isInt_shape h
 rfl
theorem JqK (k:Int) (t:Tok):Value.isInt k (.int k t)=true:=by simp[Value.isInt]
theorem JtI {prog:Program} {w:World} {l:List (Int×Value)} (h:ElemsOf (PySem.intKind prog w) l) (k:Int):k∈JjY l↔∃e∈l,Value.isInt k e.2=true:=by
 constructor
 ·intro hk
  obtain⟨e,he,q⟩:=List.mem_map.mp hk
  obtain⟨⟨k',hk',_⟩,_⟩:=h e he
  have:num e.2=k':=JmT hk'
  refine⟨e,he,?_⟩
  rw[←q,this];exact hk'
 ·rintro⟨e,he,q⟩
  exact List.mem_map.mpr ⟨e,he,JmT q⟩
section
variable {prog:Program} {w:World} {A:Around} {E:Value→Shared→Prop} {s:Shared} {a:Addr} {o:Obj} {es:Array (Int×Value)} {ep:Nat} {t:SetTable} {ks:List Int}
theorem Jtj (h:Heap) (ho:h.get? a=some o) (hex:o.ExactSet) (hd:o.data=.set es ep t) {es':Array (Int×Value)} {t':SetTable}:
  (h.update a (Obj.putSet es' t')).get? a=some {o with data:=.set es' (ep+1) t'}:=by
 have g:=Heap.get?_update_self (Obj.putSet es' t') ho (by rw[putSet_of es' t' hd];rfl)
 rw[putSet_of es' t' hd] at g
 exact g
theorem Jrm {g:Bool→Sem Unit} (hg:∀(b:Bool) (s1:Shared) (Q':Unit→Shared→Prop),Q' () s1→wpAny (model prog w) A (g b) Q' E s1)
  (ho:s.heap.get? a=some o) (hex:o.ExactSet) (hd:o.data=.set es ep t) {es1:Array (Int×Value)} {t1:SetTable} (T:Tab prog w es1 t1 ks) (hb:ks.length<scanBound) {wd:Bool} {R:Option Bool→Shared→Prop}
  (h:∀h',Heap.SameBut a s.heap h'→Jhb prog w h' a ks→R (some true) {s with heap:=h'}):
  wpAny (model prog w) A (do
    storeSet a es1 t1
    if(!wd&&t1.tooFull)=true then do
      g (relayAll t1 es1 (SetTable.grown es1.size)).2.2
      storeSet a (relayAll t1 es1 (SetTable.grown es1.size)).1 (relayAll t1 es1 (SetTable.grown es1.size)).2.1
      pure (some true)
     else pure (some true)) R E s:=by
 have hz:es1.size≤sizeLine:=fits_of_scanBound (by rw[T.size];exact hb)
 refine wpAny_bind (wpAny_storeSet_of ho hd ?_ hz)
 have g1:=Jtj (es':=es1) (t':=t1) s.heap ho hex hd
 have sb1:=Heap.SameBut.update s.heap a (Obj.putSet es1 t1)
 split
 ·have p2:=relayAll_perm t1 es1 (SetTable.grown es1.size)
  have f2:=relayAll_fits t1 es1 (SetTable.grown es1.size)
  have k2:=JkZ (t:=t1) es1 (SetTable.grown es1.size)
  generalize relayAll t1 es1 (SetTable.grown es1.size)=Z at p2 f2 k2⊢
  obtain⟨es2,t2,gave⟩:=Z
  dsimp only at p2 f2 k2⊢
  have T2:Tab prog w es2 t2 ks:=⟨T.el.perm p2,(p2.map _).trans T.pm,f2,k2.1,by have:=T.led;unfold Led at this⊢;rw[k2.2];exact this⟩
  have hz2:es2.size≤sizeLine:=fits_of_scanBound (by rw[T2.size];exact hb)
  refine wpAny_bind (hg _ _ _ (wpAny_bind (wpAny_storeSet_of g1 rfl ?_ hz2)))
  have g2:=Jtj (es':=es2) (t':=t2) _ g1 hex rfl
  exact wpAny_pure (h _ (sb1.trans (Heap.SameBut.update _ a _)) ⟨_,es2,_,t2,g2,hex,rfl,T2,hb⟩)
 ·exact wpAny_pure (h _ sb1 ⟨_,es1,_,t1,g1,hex,rfl,T,hb⟩)
theorem Jww {k:Int} {tk:Tok} {Q:Bool→Shared→Prop} (hS:Jhb prog w s.heap a ks) (hroom:ks.length+1<scanBound)
  (h:∀(b:Bool) h',Heap.SameBut a s.heap h'→Jhb prog w h' a (if k∈ks then ks else ks++[k])→Q b {s with heap:=h'}):
  wpAny (model prog w) A (setAddHashed a (.int k tk) (hashInt k)) Q E s:=by
 obtain⟨o,es,ep,t,ho,hex,hd,T,hb⟩:=hS
 have hkey:(PySem.intKind prog w).is k (.int k tk)=true:=JqK k tk
 have hsc:(Value.int k tk).scannable=true:=rfl
 have hbe:es.size<scanBound:=by rw[T.size];exact hb
 unfold setAddHashed setAddHashedIn
 refine wpAny_holding (wpAny_bind (wpAny_setState_of ho hd T.fits ?_))
 dsimp only
 rw[byScan_of (knd:=PySem.intKind prog w) hsc hbe T.el,if_pos rfl]
 unfold setAddByScan
 refine wpAny_bind (wpAny_bind (wpAny_rule (wpAny_bind (wpAny_setScan_of (knd:=PySem.intKind prog w) (k:=k) hkey ho hd T.fits T.el ?_))))
 have mem:k∈ks↔∃e∈es.toList,Value.isInt k e.2=true:=(T.pm.mem_iff).symm.trans (JtI T.el k)
 cases hr:es.toList.findIdx? (fun e=>(PySem.intKind prog w).is k e.2) with
 |some j=>
  dsimp only
  obtain⟨hj,hpj,_⟩:=List.findIdx?_eq_some_iff_getElem.mp hr
  have hk:k∈ks:=mem.mpr ⟨es.toList[j],List.getElem_mem hj,hpj⟩
  refine wpAny_pure (wpAny_pure ?_)
  have g:=h false s.heap (Heap.SameBut.refl a s.heap) (by rw[if_pos hk];exact⟨o,es,ep,t,ho,hex,hd,T,hb⟩)
  cases s;exact g
 |none=>
  dsimp only
  have hk:¬k∈ks:=fun q=>by
   obtain⟨e,he,hp⟩:=mem.mp q
   have z:=List.findIdx?_eq_none_iff.mp hr e he
   have z':Value.isInt k e.2=false:=z
   rw[hp] at z';cases z'
  have hgw:∀(b:Bool) {s1:Shared} {Q':Unit→Shared→Prop},Q' () s1→wpAny (model prog w) A (match b with|true=>rule "set.scan.the-table-gave-way"|false=>pure ()) Q' E s1:=
   fun b s1 Q' hq=>by cases b<;>first|exact wpAny_pure hq|exact wpAny_rule hq
  have p1:=layNew_perm t es ((PySem.intKind prog w).hash k) (.int k tk)
  have f1:=layNew_fits t es ((PySem.intKind prog w).hash k) (.int k tk)
  have k1:=Jn1 es ((PySem.intKind prog w).hash k) (.int k tk) T.rise
  have eh:(PySem.intKind prog w).hash k=hashInt k:=rfl
  rw[eh] at p1 f1 k1
  generalize layNew t es (hashInt k) (.int k tk)=Z at p1 f1 k1⊢
  obtain⟨es1,t1,wd,gave⟩:=Z
  dsimp only at p1 f1 k1⊢
  rw[Array.toList_push] at p1
  have T1:Tab prog w es1 t1 (ks++[k]):=by
   refine⟨(T.el.push (k:=k) hkey hsc).perm p1,(p1.map _).trans ?_,f1,k1.1,?_⟩
   ·rw[List.map_append]
    exact List.Perm.append T.pm (List.Perm.refl _)
   ·have:=T.led;unfold Led at this⊢;rw[k1.2];exact this
  have hb1:(ks++[k]).length<scanBound:=by simpa using hroom
  refine wpAny_bind (hgw _ ?_)
  have fin:∀h',Heap.SameBut a s.heap h'→Jhb prog w h' a (ks++[k])→Q true {s with heap:=h'}:=fun h' sb x=>h true h' sb (by rw[if_neg hk];exact x)
  split
  ·refine wpAny_bind ?_
   rw[hashByValue_scannable 8 hsc]
   refine wpAny_pure ?_
   refine Jrm (ks:=ks++[k]) ?_ ho hex hd ?_ hb1 ?_
   ·intro b s1 Q' hq;cases b<;>first|exact wpAny_pure hq|exact wpAny_rule hq
   ·exact T1
   ·intro h' sb x;exact wpAny_pure (fin h' sb x)
  ·refine wpAny_bind (wpAny_pure ?_)
   simp only[↓reduceIte]
   refine Jrm (ks:=ks++[k]) ?_ ho hex hd T1 hb1 ?_
   ·intro b s1 Q' hq;cases b<;>first|exact wpAny_pure hq|exact wpAny_rule hq
   ·intro h' sb x;exact wpAny_pure (fin h' sb x)
end
noncomputable def Yl:List Int→List Int→List Int
 |acc,[]=>acc
 |acc,k::r=>Yl (if k∈acc then acc else acc++[k]) r
theorem JiI:∀(r acc:List Int),(Yl acc r).length≤acc.length+r.length
 |[],acc=>Nat.le_refl _
 |k::r,acc=>by
  unfold Yl
  have h1:=JiI r (if k∈acc then acc else acc++[k])
  have h2:(if k∈acc then acc else acc++[k]).length≤acc.length+1:=by split<;>simp
  rw[List.length_cons];omega
theorem Jjr:∀(r acc:List Int),acc.Nodup→(Yl acc r).Nodup
 |[],acc,h=>h
 |k::r,acc,h=>by
  unfold Yl
  refine Jjr r _ ?_
  split
  ·exact h
  ·rename_i hk
   exact List.nodup_append.mpr ⟨h,by simp,fun x hx y hy=>by
    rw[List.mem_singleton] at hy;subst hy
    exact fun e=>hk (e▸hx)⟩
theorem Jm0:∀(r acc:List Int) (x:Int),x∈Yl acc r↔x∈acc∨x∈r
 |[],acc,x=>by simp[Yl]
 |k::r,acc,x=>by
  unfold Yl
  rw[Jm0 r]
  split
  ·rename_i hk
   constructor
   ·rintro(h|h)
    ·exact .inl h
    ·exact .inr (List.mem_cons_of_mem _ h)
   ·rintro(h|h)
    ·exact .inl h
    ·rcases List.mem_cons.mp h with rfl|h
     ·exact .inl hk
     ·exact .inr h
  ·simp[or_assoc]
end ZS
namespace ZS
open PySem
section
variable {prog:Program} {w:World} {A:Around} {R:Result→Shared→Prop} {I:Addr} {fp wr:List Addr} {G:Array GenState→Array GenState→Prop} {n:Nat} {P:Nat→Value→Prop} {St:Nat→Shared→Prop}
theorem Jvd (W:WalksS prog w A.in1 I fp wr G n P St) (S:Addr) (hSf:S∉fp) (val:Nat→Int) (hval:∀i v,P i v→∃t,v=.int (val i) t) (hb:n+1<scanBound)
  (ded:Nat→List Int) (hlen:∀i,(ded i).length≤i) (hded:∀i,i<n→ded (i+1)=if val i∈ded i then ded i else ded i++[val i]):
  ∀(k i:Nat) (s:Shared),n-i=k→i≤n→St i s→Jhb prog w s.heap S (ded i)→
   (∀s',Moved (S::wr) G s s'→Jhb prog w s'.heap S (ded n)→R (.ok (.ret .none)) s')→
   codeAny (model prog w) A (.builtin "set.update.loop" ⟨[.ref S,.ref I],[]⟩) R s:=by
 have hSw:S∉wr:=fun h=>hSf (W.sub _ h)
 have up:∀b∈wr,b∈S::wr:=fun b h=>List.mem_cons_of_mem _ h
 intro k
 induction k with
 |zero=>
  intro i s hk hi st hS hR
  obtain rfl:i=n:=by omega
  refine codeAny_builtin PyProof.Rows.F.entry_set_update_loop ?_
  rw[Around.under_plainId PyProof.Rows.F.plain_set_update_loop _]
  refine wpAny_bind (m:=pyNext (.ref I)) (W.done s _ _ st fun s' hm=>?_)
  exact wpAny_pure (hR s' (hm.mono up) (hS.at' fun o e=>hm.heap S o hSw e))
 |succ k ih=>
  intro i s hk hi st hS hR
  have hlt:i<n:=by omega
  refine codeAny_builtin PyProof.Rows.F.entry_set_update_loop ?_
  rw[Around.under_plainId PyProof.Rows.F.plain_set_update_loop _]
  refine wpAny_bind (m:=pyNext (.ref I)) (W.item i s _ _ hlt st fun v s' hP st' hm=>?_)
  obtain⟨t,rfl⟩:=hval i v hP
  have hS':=hS.at' fun o e=>hm.heap S o hSw e
  refine wpAny_bind (m:=holding [Value.int (val i) t] (setAdd S (.int (val i) t))) (wpAny_holding ?_)
  unfold setAdd
  refine wpAny_holding (wpAny_bind (wpAny_pyHash_int ?_))
  have room:(ded i).length+1<scanBound:=by have:=hlen i;omega
  refine Jww (s:={s' with toks:=s'.toks+1}) hS' room fun b h' sb S2=>?_
  rw[←hded i hlt] at S2
  refine wpAny_pure ⟨plainId_quiet PyProof.Rows.F.plain_set_update_loop _,ih (i+1) _ (by omega) hlt (W.frame _ s' _ _ st' (Nat.le_succ _) fun b hb o e=>?_) S2 fun s'' m2 S3=>?_⟩
  ·rw[sb.2 b (fun h:b=S=>hSf (h▸hb))];exact e
  ·refine hR s'' (Moved.trans W.gtrans ((hm.mono up).then_heap (Nat.le_succ _) fun b o hb e=>?_) m2) S3
   rw[sb.2 b (fun h:b=S=>hb (h▸List.mem_cons_self))];exact e
end
theorem Jlv:∀(l acc:List Int) (k:Int),Yl acc (l++[k])=if k∈Yl acc l then Yl acc l else Yl acc l++[k]
 |[],acc,k=>rfl
 |a::l,acc,k=>by
  show Yl _ (l++[k])=_
  rw[Jlv l]
  rfl
section
variable {prog:Program} {w:World} {A:Around} {E:Value→Shared→Prop} {s:Shared}
noncomputable abbrev Jbz (led:Bool):Obj:={cls:=.type "set",dict:=none,data:=.set #[] 0 (.fresh 0 0 led)}
theorem JtV {h:Heap} {a:Addr} {led:Bool} (ho:h.get? a=some (Jbz led)) (hl:w.params.followText "set-order"=true∨led=true):Jhb prog w h a []:=
 ⟨_,#[],0,_,ho,⟨rfl,rfl,rfl⟩,rfl,⟨fun e he=>by simp at he,List.Perm.refl _,rfl,List.Pairwise.nil,hl⟩,by decide⟩
theorem Jwa (a:Value) {Q1:Value→Shared→Prop}
  (h:∀led:Bool,(w.params.followText "set-order"=true∨led=true)→Q1 (.ref s.heap.objs.size) {s with heap:=s.heap.push (Jbz led)}):
  codeAny (model prog w) A (.call (.builtin "set.__new__") ⟨[.type "set",a],[]⟩) (wants Q1 E) s:=by
 refine codeAny_of_tree ?_
 show wpAny _ A.in1 (do checkBuiltinCall "set.__new__" ⟨[.type "set",a],[]⟩;again (.builtin "set.__new__" ⟨[.type "set",a],[]⟩)) _ _ s
 refine wpAny_bind (wpAny_of_eq (F.newCall_set_1 a) (wpAny_pure ⟨plainId_quiet F.plain_set_new _,codeAny_builtin F.entry_set_new ?_⟩))
 rw[Around.under_plainId F.plain_set_new _]
 unfold Builtin.«set.__new__» Builtin.Frozenset.newClass
 have hsub:=sub_set_self
 obtain⟨hp,g,d,tk,os⟩:=s
 dsimp only
 wp_walk
 refine wpAny_askSetting (wpAny_pure ?_)
 dsimp only
 simp only[newObj]
 refine wpAny_bind (wpAny_alloc (wpAny_pure (wpAny_pure ?_)))
 refine h _ ?_
 show w.params.followText "set-order"=true∨(!w.params.followText "set-order")=true
 cases w.params.followText "set-order"<;>simp
set_option maxRecDepth 100000 in
set_option maxHeartbeats 3200000 in
theorem JvV {l:Addr} {items:Array Value} {ns:List Int} {Q:Value→Shared→Prop} (hh:A.handled=none) (hl:s.heap.IsList l items) (hi:PyProof.Rows.IntsAre items.toList ns) (hb:ns.length+1<scanBound)
  (h:∀(h':Heap) (tk:Nat),Jhb prog w h' s.heap.objs.size (Yl [] ns)→(∀b o,b<s.heap.objs.size→s.heap.get? b=some o→h'.get? b=some o)→Q (.ref s.heap.objs.size) {s with heap:=h',toks:=tk}):
  wpAny (model prog w) A (call (.type "set") [.ref l]) Q E s:=by
 have hn:items.size=ns.length:=by rw[←Array.length_toList];exact PyProof.Rows.IntsAre.length hi
 obtain⟨c,tl,hmro⟩:=F.called_set.mro
 have hmade:=F.called_set.made
 have hsub:=F.called_set.sub
 refine wpAny_call (codeAny_of_tree ?_)
 show wpAny _ _ (callAny (.type "set") _) _ _ _
 refine wpAny_pure ⟨Code.quiet_builtin _ (by decide+kernel),codeAny_builtin F.entry_type_call ?_⟩
 rw[Around.under_plain (weight_type_call_type "set" [.ref l] []) rfl]
 have h1:=F.called_set.notType
 have h2:=F.called_set.canCreate
 have hct:=F.typeCall_set_1 (.ref l)
 repeat (any_goals (first|assumption|wp_step))
 refine codeAny_mono (Jwa (.ref l) (E:=E) (Q1:=fun obj s1=>∃led:Bool,(w.params.followText "set-order"=true∨led=true)∧obj=.ref s.heap.objs.size∧s1={s with heap:=s.heap.push (Jbz led)}) fun led hL=>⟨led,hL,rfl,rfl⟩) fun r s1 hr=>?_
 cases r with
 |error e=>exact hr
 |ok fl=>
  cases fl with
  |ret obj=>
   obtain⟨led,hL,rfl,rfl⟩:=hr
   have g0:(s.heap.push (Jbz led)).get? s.heap.objs.size=some (Jbz led):=Heap.get?_push_size _ rfl
   have hT:Shared.TypeIs {s with heap:=s.heap.push (Jbz led)} (.ref s.heap.objs.size) "set":=⟨_,g0,rfl⟩
   have hli:=F.called_set.init.lookup
   have hbi:=F.called_set.init.bind (.ref s.heap.objs.size)
   repeat (any_goals (first|assumption|wp_step))
   refine codeAny_mono (codeAny_call_builtin (R:=wants (fun r s2=>r=.none∧∃h' tk,s2={s with heap:=h',toks:=tk}∧Jhb prog w h' s.heap.objs.size (Yl [] ns)∧
     (∀b o,b<s.heap.objs.size→s.heap.get? b=some o→h'.get? b=some o)) E) F.called_set.init.plain F.entry_set_init (check_set_init_1 hT ?_)) fun r2 s2 hr2=>?_
   ·obtain⟨ol,hol,hcl,nl,hdl⟩:=hl
    obtain⟨ocls,odict,odata,oslots⟩:=ol
    simp only at hcl hdl
    subst hcl;subst hdl
    have hol':(s.heap.push (Jbz led)).get? l=some {cls:=.type "list",dict:=odict,data:=.seq items nl,slots:=oslots}:=Heap.get?_push_of_some _ hol
    have hsls:=F.sub_list_set
    have hslf:=F.sub_list_frozenset
    have hne:(Value.type "list"==Value.type "dict")=false:=by decide
    have hl1:(s.heap.push (Jbz led)).IsList l items:=⟨_,hol',rfl,nl,rfl⟩
    unfold Builtin.«set.__init__» noKeywords Builtin.Frozenset.updateFrom
    generalize hPI:pyIter=PI
    wp_walk
    subst hPI
    refine wpAny_pyIter_list hl1 (wpAny_bind (wpAny_runValue ?_))
    have hlS:l<s.heap.objs.size:=Heap.lt_size hol
    have sz:(s.heap.push (Jbz led)).objs.size=s.heap.objs.size+1:=Heap.size_push ..
    have hneI:l≠(s.heap.push (Jbz led)).objs.size:=by rw[sz];exact Nat.ne_of_lt (Nat.lt_succ_of_lt hlS)
    have hSf:s.heap.objs.size∉[(s.heap.push (Jbz led)).objs.size,l]:=by
     rw[sz];simp only[List.mem_cons,List.not_mem_nil,or_false,not_or];exact⟨Nat.ne_of_lt (Nat.lt_succ_self _),Nat.ne_of_gt hlS⟩
    have hval:∀(i:Nat) (v:Value),items[i]? =some v→∃t,v=.int ((fun i=>ns.getD i 0) i) t:=fun i v hv=>
     PyProof.Rows.IntsAre.int_at hi i v (by rw[Array.getElem?_toList];exact hv)
    have hh3:A.in1.in1.in1.handled=none:=by simp[hh]
    refine Jvd ((Walks.list hh3 _ l hneI items).toS) s.heap.objs.size hSf (fun i=>ns.getD i 0) hval (by rw[hn];exact hb) (fun i=>Yl [] (ns.take i))
     (fun i=>by have:=JiI (ns.take i) [];rw[List.length_take] at this;simp at this;omega) (fun i hi'=>?hd) (items.size-0) 0 _ (by omega) (Nat.zero_le _) ⟨⟨_,Heap.get?_push_size _ rfl,rfl,rfl⟩,(hl1.push _)⟩ ?hS0 ?hR
    case hd=>
     have hi2:i<ns.length:=by omega
     show Yl [] (ns.take (i+1))=_
     rw[List.take_add_one,List.getElem?_eq_getElem hi2]
     show Yl [] (ns.take i++[ns[i]])=_
     rw[Jlv]
     simp[List.getD,List.getElem?_eq_getElem hi2]
    case hS0=>exact JtV (Heap.get?_push_of_some _ g0) hL
    case hR=>
     intro s' hm hS'
     obtain⟨h',g',d',tk',os'⟩:=s'
     have eg:g'=s.gens:=hm.gens
     have ed:d'=s.drawn:=hm.drawn
     have eo:os'=s.os:=hm.os
     subst eg;subst ed;subst eo
     rw[hn,List.take_length] at hS'
     refine wpAny_pure (wpAny_pure ⟨rfl,h',tk',rfl,hS',fun b o hb e=>?_⟩)
     refine hm.heap b o ?_ (Heap.get?_push_of_some _ (Heap.get?_push_of_some _ e))
     rw[sz];simp only[List.mem_cons,List.not_mem_nil,or_false,not_or];exact⟨Nat.ne_of_lt hb,Nat.ne_of_lt (Nat.lt_succ_of_lt hb)⟩
   ·cases r2 with
    |error e=>exact hr2
    |ok fl2=>
     cases fl2 with
     |ret r=>
      obtain⟨rfl,h',tk,rfl,hS',hk'⟩:=hr2
      repeat (any_goals (first|assumption|wp_step))
      exact h _ _ hS' hk'
     |_=>exact hr2.elim
  |_=>exact hr.elim
end
end ZS
namespace ZS
open PySem
theorem WS:Slot "set_iterator" "__next__" "set_iterator.__next__":=
 .of (owner:="set_iterator") (n:="__next__") (by rw[typeLookup_type,builtinLookup_eq_fast];kernel_rfl) (by decide+kernel) (by decide+kernel) (by decide+kernel) (by first|exact .inl (by decide+kernel)|exact .inr (by decide+kernel)) (by rw[isSubtype_type];kernel_rfl)
theorem Jlt:entryFor table "set_iterator.__next__"=some Builtin.«set_iterator.__next__»:=entryFor_of_tree (by kernel_rfl)
theorem Jpd:Manifest.owners.lookup (String.ofList ("set_iterator".toList.reverse).reverse)=some Manifest.sig_set_iterator:=by kernel_rfl
theorem Jnd (a:Value):argsOk "set_iterator.__next__" ⟨[a],[]⟩:=by
 unfold argsOk;rw[signature?_of (id:="set_iterator.__next__") (n:=['_','_','t','x','e','n','_','_']) (o:=['r','o','t','a','r','e','t','i','_','t','e','s']) (by kernel_rfl) Jpd];kernel_rfl
theorem JqS:entryFor table "set.__iter__"=some Builtin.«frozenset.__iter__»:=
 entryFor_alias (id':="frozenset.__iter__") (by kernel_rfl) rfl (by decide+kernel) (by kernel_rfl)
theorem YV:Slot "set_iterator" "__iter__" "set_iterator.__iter__":=
 .of (owner:="set_iterator") (n:="__iter__") (by rw[typeLookup_type,builtinLookup_eq_fast];kernel_rfl) (by decide+kernel) (by decide+kernel) (by decide+kernel) (by first|exact .inl (by decide+kernel)|exact .inr (by decide+kernel)) (by rw[isSubtype_type];kernel_rfl)
theorem Jfg (a:Value):argsOk "set_iterator.__iter__" ⟨[a],[]⟩:=by
 unfold argsOk;rw[signature?_of (id:="set_iterator.__iter__") (n:=['_','_','r','e','t','i','_','_']) (o:=['r','o','t','a','r','e','t','i','_','t','e','s']) (by kernel_rfl) Jpd];kernel_rfl
theorem Jg7 {α:Type}:∀(l:List α) (i:Nat) (hi:i<l.length),(l[i]::l.eraseIdx i).Perm l
 |x::l,0,_=>List.Perm.refl _
 |x::l,i+1,hi=>by
  have ih:=Jg7 l i (by simpa using hi)
  show(l[i]'(by simpa using hi)::x::l.eraseIdx i).Perm (x::l)
  exact(List.Perm.swap _ _ _).trans (ih.cons x)
theorem JfO {α:Type} (next:Nat→Nat):∀(fuel k:Nat) (left:List α) (out:Array α),left.length=fuel→(pickOrder.go next fuel k left out).toList.Perm (out.toList++left)
 |0,k,left,out,hl=>by
  have e:left=[]:=List.eq_nil_of_length_eq_zero hl
  subst e
  unfold pickOrder.go
  rw[List.append_nil]
 |fuel+1,k,left,out,hl=>by
  unfold pickOrder.go
  have hi:next k%left.length<left.length:=Nat.mod_lt _ (by omega)
  rw[List.getElem?_eq_getElem hi]
  dsimp only
  refine(JfO next fuel (k+1) _ _ (by rw[List.length_eraseIdx_of_lt hi];omega)).trans ?_
  rw[Array.toList_push,List.append_assoc]
  exact List.Perm.append_left _ (Jg7 left _ hi)
section
variable {M:Model} {A:Around} {E:Value→Shared→Prop} {s:Shared}
theorem Jnh {src:Source} {n:Nat} {Q:Nat→Shared→Prop} (hn:n≠0) (h:∀i d,i<n→Q i {s with drawn:=d}):wpAny M A (choose src n) Q E s:=fun _ _ hΓ=>by
 unfold choose
 rw[Sem.wp_choose]
 exact⟨hn,wpAny_pure (h _ _ (Nat.mod_lt _ (Nat.pos_of_ne_zero hn))) _ _ hΓ⟩
theorem JrL {α:Type}:∀(n:Nat) (xs:List α) (s:Shared) (Q:List α→Shared→Prop),xs.length=n→(∀ys d,ys.Perm xs→Q ys {s with drawn:=d})→wpAny M A (drawOrder n xs) Q E s
 |0,xs,s,Q,hl,h=>by
  have e:xs=[]:=List.eq_nil_of_length_eq_zero hl
  subst e
  unfold drawOrder
  have:=h [] s.drawn (List.Perm.refl _)
  exact wpAny_pure (by cases s;exact this)
 |n+1,[],s,Q,hl,h=>by simp at hl
 |n+1,x::xs,s,Q,hl,h=>by
  unfold drawOrder
  refine wpAny_bind (Jnh (by simp) fun i d hi=>?_)
  rw[List.getElem?_eq_getElem hi]
  dsimp only
  refine wpAny_bind (JrL n ((x::xs).eraseIdx i) _ _ (by rw[List.length_eraseIdx_of_lt hi];simpa using hl) fun ys d' hp=>wpAny_pure ?_)
  refine h _ d' ?_
  exact(hp.cons _).trans (Jg7 _ i hi)
end
structure Src (prog:Program) (w:World) (h:Heap) (a:Addr) (es:Array (Int×Value)) (ep:Nat) (t:SetTable):Prop where
 at_:∃o,h.get? a=some o∧o.ExactSet∧o.data=.set es ep t
 fits:t.fits es.size=true
 rise:Jf7 t.place.toList
 led:Led w t
theorem Src.keep {prog:Program} {w:World} {h h':Heap} {a:Addr} {es:Array (Int×Value)} {ep:Nat} {t:SetTable} (x:Src prog w h a es ep t) (k:∀o,h.get? a=some o→h'.get? a=some o):Src prog w h' a es ep t:=
 ⟨let⟨o,ho,r⟩:=x.at_;⟨o,k o ho,r⟩,x.fits,x.rise,x.led⟩
end ZS
namespace ZS
open PySem
noncomputable def Jj7 (h:Heap) (I:Addr) (first:Value) (i:Nat) (a:Addr) (n ep:Nat):Prop:=∃o,h.get? I=some o∧o.cls=.type "set_iterator"∧o.data=.fields #[first,.int i 0,.ref a,.int n 0,.int ep 0]
theorem Jj7.typeIs {s:Shared} {I a:Addr} {first:Value} {i n ep:Nat} (x:Jj7 s.heap I first i a n ep):s.TypeIs (.ref I) "set_iterator":=let⟨o,ho,hc,_⟩:=x;⟨o,ho,hc⟩
theorem Jj7.at' {h h':Heap} {I a:Addr} {first:Value} {i n ep:Nat} (x:Jj7 h I first i a n ep) (k:∀o,h.get? I=some o→h'.get? I=some o):Jj7 h' I first i a n ep:=let⟨o,ho,r⟩:=x;⟨o,k o ho,r⟩
section
variable {prog:Program} {w:World} {A:Around} {E:Value→Shared→Prop} {s:Shared} {I a:Addr} {first:Value} {i ep:Nat} {es:Array (Int×Value)} {t:SetTable}
theorem Jrp {A':Around} {s':Shared} (hh:A'.handled=none) {Q:Option Value→Shared→Prop} (hQ:∀h',(∀b o,s'.heap.get? b=some o→h'.get? b=some o)→Q none {s' with heap:=h'}):
  wpAny (model prog w) A' (newExc (.type "StopIteration") []>>= fun e=>raiseNew (α:=Fin) e) (fun _ _=>False)
   (fun e s2=>wpAny (model prog w) A (isInstance e (.type "StopIteration")>>= fun b=>if b=true then pure none else throw e) Q E s2) s':=by
 refine wpAny_bind ?_
 simp only[newExc,newTuple]
 refine wpAny_bind (wpAny_newObj_type ?_ (by size_fits))
 refine wpAny_bind (m:=firstArgMember _ _) (wpAny_of_eq (a:=Value.none) (by first|rfl|(simp only[firstArgMember];rfl)) ?_)
 refine wpAny_newObj_type ?_ (by size_fits)
 simp only[raiseNew]
 refine wpAny_bind (wpAny_handled ?_)
 rw[hh]
 refine wpAny_bind (wpAny_pure (wpAny_throw ?_))
 refine wpAny_bind (wpAny_isInstance (T:="StopIteration") (b:=true) ⟨_,Heap.get?_push_size _ rfl,rfl⟩ isSubtype_stop ?_)
 exact wpAny_pure (hQ _ fun b o e=>Heap.get?_push_of_some _ (Heap.get?_push_of_some _ e))
theorem JhN {slot:Nat} {r:Option (Value×Nat)} {Q:Option Value→Shared→Prop} (hh:A.handled=none) (hit:Jj7 s.heap I (.int slot 0) i a es.size ep) (hS:Src prog w s.heap a es ep t)
  (hnext:∀(A':Around) (E':Value→Shared→Prop) (Q':Option (Value×Nat)→Shared→Prop),Q' r s→wpAny (model prog w) A' (setNext a slot i ep) Q' E' s)
  (hQ:match r with
   |some (x,nx)=>∀h',Jj7 h' I (.int nx 0) (i+1) a es.size ep→(∀b o,b≠I→s.heap.get? b=some o→h'.get? b=some o)→Q (some x) {s with heap:=h'}
   |none=>∀h',(∀b o,b≠I→s.heap.get? b=some o→h'.get? b=some o)→Q none {s with heap:=h'}):
  wpAny (model prog w) A (pyNext (.ref I)) Q E s:=by
 obtain⟨o,ho,hc,hd⟩:=id hit
 obtain⟨⟨oa,hoa,hex,hda⟩,hf,hr,hl⟩:=hS
 unfold pyNext
 refine wpAny_bind (wpAny_attempt (wpAny_callSpecial?_slot (name:=Str.ofString "__next__") hit.typeIs WS (wpAny_call_entry WS hit.typeIs Jlt ?_ (Jnd _))))
 unfold Builtin.«set_iterator.__next__»
 refine wpAny_bind (wpAny_pure (wpAny_bind (wpAny_fieldsOf ho hd ?_)))
 show wpAny _ _ (setEntries a>>= _) _ _ s
 refine wpAny_bind (wpAny_setEntries_of hoa hda hf ?_)
 rw[if_neg (by simp)]
 show wpAny _ _ (setNext a slot i ep>>= _) _ _ s
 refine wpAny_bind (hnext _ _ _ ?_)
 cases r with
 |some p=>
  obtain⟨x,nx⟩:=p
  show wpAny _ _ (setField (.ref I) 0 (rawInt nx)>>= fun _=>setField (.ref I) 1 (rawInt ((i:Int)+1))>>= fun _=>ret x) _ _ s
  refine wpAny_bind (wpAny_setField ho hd (by simp) ?_)
  have g1:=Heap.get?_update_self (Obj.mapFields (·.setIfInBounds 0 (rawInt nx))) ho (Obj.isFreed_of_fields (Obj.data_mapFields hd _))
  have d1:=Obj.data_mapFields hd (fun v:Array Value=>v.setIfInBounds 0 (rawInt nx))
  refine wpAny_bind (wpAny_setField g1 d1 (by simp) ?_)
  have g2:=Heap.get?_update_self (Obj.mapFields (·.setIfInBounds 1 (rawInt ((i:Int)+1)))) g1 (Obj.isFreed_of_fields (Obj.data_mapFields d1 _))
  have d2:=Obj.data_mapFields d1 (fun v:Array Value=>v.setIfInBounds 1 (rawInt ((i:Int)+1)))
  refine wpAny_pure ⟨_,rfl,wpAny_pure (hQ _ ⟨_,g2,(Obj.cls_mapFields ..).trans ((Obj.cls_mapFields ..).trans hc),?_⟩ fun b o' hb e=>?_)⟩
  ·rw[d2];simp[rawInt]
  ·exact(Heap.get?_update_other _ _ (Ne.symm hb)).trans ((Heap.get?_update_other _ _ (Ne.symm hb)).trans e)
 |none=>
  show wpAny _ _ (setField (.ref I) 2 .none>>= fun _=>newExc (.type "StopIteration") []>>= fun e=>raiseNew e) _ _ s
  refine wpAny_bind (wpAny_setField ho hd (by simp) ?_)
  refine wpAny_mono (Jrp (A:=A) (E:=E) (Q:=Q) (by exact hh) fun h' k=>hQ h' fun b o' hb e=>k b o' ((Heap.get?_update_other _ _ (Ne.symm hb)).trans e)) (fun _ _ q=>q.elim) (fun e s2 q=>q)
theorem Jld {T:Addr} {js:List Nat} {Q:Option Value→Shared→Prop} (hh:A.handled=none) (hit:Jj7 s.heap I (.ref T) i a es.size ep) (hS:Src prog w s.heap a es ep t)
  (hT:∃o,s.heap.get? T=some o∧∃n,o.data=.seq (js.map fun(j:Nat)=>Value.int j 0).toArray n)
  (hQ:match js[i]? with
   |some j=>∃e,es[j]? =some e∧∀h',Jj7 h' I (.ref T) (i+1) a es.size ep→(∀b o,b≠I→s.heap.get? b=some o→h'.get? b=some o)→Q (some e.2) {s with heap:=h'}
   |none=>∀h',(∀b o,b≠I→s.heap.get? b=some o→h'.get? b=some o)→Q none {s with heap:=h'}):
  wpAny (model prog w) A (pyNext (.ref I)) Q E s:=by
 obtain⟨o,ho,hc,hd⟩:=id hit
 obtain⟨⟨oa,hoa,hex,hda⟩,hf,hr,hl⟩:=hS
 obtain⟨oT,hoT,nT,hdT⟩:=hT
 unfold pyNext
 refine wpAny_bind (wpAny_attempt (wpAny_callSpecial?_slot (name:=Str.ofString "__next__") hit.typeIs WS (wpAny_call_entry WS hit.typeIs Jlt ?_ (Jnd _))))
 unfold Builtin.«set_iterator.__next__»
 refine wpAny_bind (wpAny_pure (wpAny_bind (wpAny_fieldsOf ho hd ?_)))
 show wpAny _ _ (setEntries a>>= _) _ _ s
 refine wpAny_bind (wpAny_setEntries_of hoa hda hf ?_)
 rw[if_neg (by simp)]
 show wpAny _ _ (seqItems? (.ref T)>>= _) _ _ s
 have e1:∀{Q':Option (Array Value)→Shared→Prop} {E':Value→Shared→Prop} {A':Around},Q' (some (js.map fun(j:Nat)=>Value.int j 0).toArray) s→wpAny (model prog w) A' (seqItems? (.ref T)) Q' E' s:=fun {Q' E' A'} q=>by
  unfold seqItems?
  refine wpAny_bind (wpAny_load hoT ?_)
  rw[hdT]
  exact wpAny_pure q
 refine wpAny_bind (e1 ?_)
 dsimp only
 have e2:(js.map fun(j:Nat)=>Value.int j 0).toArray[(i:Int).toNat]? =(js[i]?).map fun(j:Nat)=>Value.int j 0:=by simp
 rw[e2]
 cases hj:js[i]? with
 |some j=>
  rw[hj] at hQ
  obtain⟨e,he,hQ⟩:=hQ
  show wpAny _ _ (setNextDrawn a j ep>>= fun x=>setField (.ref I) 1 (rawInt ((i:Int)+1))>>= fun _=>ret x) _ _ s
  unfold setNextDrawn
  refine wpAny_bind (wpAny_bind (wpAny_setState_of hoa hda hf ?_))
  dsimp only
  rw[if_neg (by simp),he]
  refine wpAny_pure ?_
  refine wpAny_bind (wpAny_setField ho hd (by simp) ?_)
  have g2:=Heap.get?_update_self (Obj.mapFields (·.setIfInBounds 1 (rawInt ((i:Int)+1)))) ho (Obj.isFreed_of_fields (Obj.data_mapFields hd _))
  have d2:=Obj.data_mapFields hd (fun v:Array Value=>v.setIfInBounds 1 (rawInt ((i:Int)+1)))
  refine wpAny_pure ⟨_,rfl,wpAny_pure (hQ _ ⟨_,g2,(Obj.cls_mapFields ..).trans hc,?_⟩ fun b o' hb e=>?_)⟩
  ·rw[d2];simp[rawInt]
  ·exact(Heap.get?_update_other _ _ (Ne.symm hb)).trans e
 |none=>
  rw[hj] at hQ
  show wpAny _ _ (setField (.ref I) 0 (rawInt 0)>>= fun _=>setField (.ref I) 2 .none>>= fun _=>newExc (.type "StopIteration") []>>= fun e=>raiseNew e) _ _ s
  refine wpAny_bind (wpAny_setField ho hd (by simp) ?_)
  have g1:=Heap.get?_update_self (Obj.mapFields (·.setIfInBounds 0 (rawInt 0))) ho (Obj.isFreed_of_fields (Obj.data_mapFields hd _))
  have d1:=Obj.data_mapFields hd (fun v:Array Value=>v.setIfInBounds 0 (rawInt 0))
  refine wpAny_bind (wpAny_setField g1 d1 (by simp) ?_)
  refine wpAny_mono (Jrp (A:=A) (E:=E) (Q:=Q) (by exact hh) fun h' k=>hQ h' fun b o' hb e=>k b o' ((Heap.get?_update_other _ _ (Ne.symm hb)).trans ((Heap.get?_update_other _ _ (Ne.symm hb)).trans e))) (fun _ _ q=>q.elim) (fun e s2 q=>q)
end
end ZS
namespace ZS
open PySem
theorem JdX:entryFor table "set_iterator.__iter__"=some Builtin.«dict_keyiterator.__iter__»:=
 entryFor_alias (id':="dict_keyiterator.__iter__") (by kernel_rfl) rfl (by decide+kernel) (by kernel_rfl)
theorem JqY {xs:Array Nat} (hr:Jf7 xs.toList):SetTable.below xs 0=0:=by
 obtain⟨h1,_,_⟩:=Jha hr 0
 rcases Nat.eq_zero_or_pos (SetTable.below xs 0) with h|h
 ·exact h
 ·exact absurd (h1 0 h) (by omega)
theorem JqZ {xs:Array Nat} (hr:Jf7 xs.toList) {i x:Nat} (h:xs[i]? =some x):SetTable.below xs (x+1)=i+1:=by
 obtain⟨h1,h2,h3⟩:=Jha hr (x+1)
 obtain⟨hi,e⟩:=Array.getElem?_eq_some_iff.mp h
 have hd:∀k (hk:k<xs.size),xs.getD k (x+1)=xs[k]:=fun k hk=>by simp[Array.getD,hk]
 have a:i<SetTable.below xs (x+1):=Nat.lt_of_not_le fun q=>by
  have:=h2 i q hi
  rw[hd i hi,e] at this;omega
 have b:SetTable.below xs (x+1)≤i+1:=Nat.le_of_not_lt fun q=>by
  have hk:i+1<xs.size:=by omega
  have g:=h1 (i+1) q
  rw[hd _ hk] at g
  have m:=List.pairwise_iff_getElem.mp hr i (i+1) (by simpa using hi) (by simpa using hk) (by omega)
  simp only[Array.getElem_toList] at m
  omega
 omega
section
variable {prog:Program} {w:World} {A:Around} {E:Value→Shared→Prop} {s:Shared} {I a:Addr} {i ep:Nat} {es:Array (Int×Value)} {t:SetTable}
theorem Jhs {slot:Nat} {Q:Option (Value×Nat)→Shared→Prop} (hS:Src prog w s.heap a es ep t) (ht:w.params.followText "set-order"=true)
  (h:Q ((pickOrder (w.params.setOrder a ep) es)[i]?.map fun e=>(e.2,slot)) s):wpAny (model prog w) A (setNext a slot i ep) Q E s:=by
 obtain⟨⟨oa,hoa,hex,hda⟩,hf,hr,hl⟩:=hS
 unfold setNext setsByText
 refine wpAny_bind (wpAny_setState_of hoa hda hf ?_)
 dsimp only
 refine wpAny_bind (wpAny_bind (wpAny_askSetting (wpAny_pure ?_)))
 rw[if_pos (show(model prog w).w.params.followText "set-order"=true from ht),if_neg (by simp)]
 unfold setWalk setsByText
 refine wpAny_bind (wpAny_bind (wpAny_setState_of hoa hda hf ?_))
 dsimp only
 refine wpAny_bind (wpAny_bind (wpAny_askSetting (wpAny_pure ?_)))
 rw[if_pos (show(model prog w).w.params.followText "set-order"=true from ht)]
 refine wpAny_bind (wpAny_askSetting (wpAny_pure (wpAny_pure ?_)))
 exact h
theorem Jgc {slot:Nat} {Q:Option (Value×Nat)→Shared→Prop} (hS:Src prog w s.heap a es ep t) (ht:w.params.followText "set-order"=false) (hp:t.plain=true∨es.size≤1) (hi:SetTable.below t.place slot=i)
  (h:Q (match es[i]?,t.place[i]? with|some (_,x),some j=>some (x,j+1)|_,_=>none) s):wpAny (model prog w) A (setNext a slot i ep) Q E s:=by
 obtain⟨⟨oa,hoa,hex,hda⟩,hf,hr,hl⟩:=hS
 unfold setNext setsByText
 refine wpAny_bind (wpAny_setState_of hoa hda hf ?_)
 dsimp only
 refine wpAny_bind (wpAny_bind (wpAny_askSetting (wpAny_pure ?_)))
 rw[if_neg (show¬(model prog w).w.params.followText "set-order"=true from by rw[show(model prog w).w.params.followText "set-order"=false from ht];decide)]
 refine wpAny_ite_split (fun hc=>?_) (fun _=>?_)
 ·have hc':(!t.plain&&decide (es.size>1))=true:=hc
  exfalso
  rcases hp with hp|hp
  ·rw[hp] at hc';simp at hc'
  ·simp at hc';omega
 ·refine wpAny_bind (wpAny_ite_split (fun hc=>?_) (fun _=>wpAny_pure ?_))
  ·exfalso
   rcases hl with hl|hl
   ·rw[ht] at hl;cases hl
   ·rw[hl] at hc;simp at hc
  ·rw[hi]
   exact wpAny_pure h
theorem JrW (hh:A.handled=none) (hne:a≠I) (ht:w.params.followText "set-order"=true):
  Walks prog w A I [I,a] [I] es.size (fun j v=>∃e,(pickOrder (w.params.setOrder a ep) es)[j]? =some e∧v=e.2) (fun j h=>Jj7 h I (.int 0 0) j a es.size ep∧Src prog w h a es ep t) where
 sub:=fun b hb=>by simp at hb;simp[hb]
 frame:=fun _ _ _ st k=>⟨st.1.at' fun o e=>k I (by simp) o e,st.2.keep fun o e=>k a (by simp) o e⟩
 item:=fun j s Q E hj st hQ=>by
  have sz:(pickOrder (w.params.setOrder a ep) es).size=es.size:=by
   have:=(JfO (w.params.setOrder a ep) es.size 0 es.toList #[] (by simp)).length_eq
   simpa [pickOrder] using this
  have hj':j<(pickOrder (w.params.setOrder a ep) es).size:=by rw[sz];exact hj
  refine JhN (slot:=0) (r:=some ((pickOrder (w.params.setOrder a ep) es)[j].2,0)) hh st.1 st.2 (fun A' E' Q' q=>Jhs st.2 ht (by rw[Array.getElem?_eq_getElem hj'];exact q)) fun h' it k=>?_
  exact hQ _ h' s.toks ⟨_,Array.getElem?_eq_getElem hj',rfl⟩ ⟨it,st.2.keep fun o e=>k a o hne e⟩ fun b o hb e=>k b o (fun q=>hb (by simp[q])) e
 done:=fun s Q E st hQ=>by
  have sz:(pickOrder (w.params.setOrder a ep) es).size=es.size:=by
   have:=(JfO (w.params.setOrder a ep) es.size 0 es.toList #[] (by simp)).length_eq
   simpa [pickOrder] using this
  refine JhN (slot:=0) (r:=none) hh st.1 st.2 (fun A' E' Q' q=>Jhs st.2 ht (by rw[Array.getElem?_eq_none (by omega)];exact q)) fun h' k=>?_
  exact hQ h' s.toks fun b o hb e=>k b o (fun q=>hb (by simp[q])) e
 self:=fun _ _ _ _ st hQ=>by
  refine wpAny_pyIter_slot st.1.typeIs YV (wpAny_call_entry YV st.1.typeIs JdX ?_ (Jfg _))
  exact wpAny_pure ⟨_,rfl,"set_iterator",_,st.1.typeIs,WS.lookup,hQ⟩
theorem Jp3 (hh:A.handled=none) (hne:a≠I) (ht:w.params.followText "set-order"=false) (hp:t.plain=true∨es.size≤1):
  Walks prog w A I [I,a] [I] es.size (fun j v=>∃e,es[j]? =some e∧v=e.2) (fun j h=>∃slot:Nat,SetTable.below t.place slot=j∧Jj7 h I (.int slot 0) j a es.size ep∧Src prog w h a es ep t) where
 sub:=fun b hb=>by simp at hb;simp[hb]
 frame:=fun _ _ _ ⟨sl,hb,st⟩ k=>⟨sl,hb,st.1.at' fun o e=>k I (by simp) o e,st.2.keep fun o e=>k a (by simp) o e⟩
 item:=fun j s Q E hj ⟨sl,hb,st⟩ hQ=>by
  have hps:t.place.size=es.size:=by have:=st.2.fits;simp[SetTable.fits] at this;exact this.1
  have hj':j<t.place.size:=by rw[hps];exact hj
  refine JhN (slot:=sl) (r:=some (es[j].2,t.place[j]+1)) hh st.1 st.2 (fun A' E' Q' q=>Jgc st.2 ht hp hb (by rw[Array.getElem?_eq_getElem hj,Array.getElem?_eq_getElem hj'];exact q)) fun h' it k=>?_
  exact hQ _ h' s.toks ⟨_,Array.getElem?_eq_getElem hj,rfl⟩ ⟨_,JqZ st.2.rise (Array.getElem?_eq_getElem hj'),it,st.2.keep fun o e=>k a o hne e⟩ fun b o hb e=>k b o (fun q=>hb (by simp[q])) e
 done:=fun s Q E ⟨sl,hb,st⟩ hQ=>by
  refine JhN (slot:=sl) (r:=none) hh st.1 st.2 (fun A' E' Q' q=>Jgc st.2 ht hp hb (by rw[Array.getElem?_eq_none (Nat.le_refl _)];exact q)) fun h' k=>?_
  exact hQ h' s.toks fun b o hb e=>k b o (fun q=>hb (by simp[q])) e
 self:=fun _ _ _ _ ⟨sl,hb,st⟩ hQ=>by
  refine wpAny_pyIter_slot st.1.typeIs YV (wpAny_call_entry YV st.1.typeIs JdX ?_ (Jfg _))
  exact wpAny_pure ⟨_,rfl,"set_iterator",_,st.1.typeIs,WS.lookup,hQ⟩
theorem Jp4 {T:Addr} {js:List Nat} (hh:A.handled=none) (hne:a≠I) (hT:T≠I) (hp:js.Perm (List.range es.size)):
  Walks prog w A I [I,a,T] [I] es.size (fun j v=>∃k e,js[j]? =some k∧es[k]? =some e∧v=e.2)
   (fun j h=>Jj7 h I (.ref T) j a es.size ep∧Src prog w h a es ep t∧∃o,h.get? T=some o∧∃n,o.data=.seq (js.map fun(j:Nat)=>Value.int j 0).toArray n) where
 sub:=fun b hb=>by simp at hb;simp[hb]
 frame:=fun _ _ _ st k=>⟨st.1.at' fun o e=>k I (by simp) o e,st.2.1.keep fun o e=>k a (by simp) o e,let⟨o,ho,r⟩:=st.2.2;⟨o,k T (by simp) o ho,r⟩⟩
 item:=fun j s Q E hj st hQ=>by
  have hjl:j<js.length:=by rw[hp.length_eq];simpa using hj
  have hk:js[j]<es.size:=List.mem_range.mp (hp.mem_iff.mp (List.getElem_mem hjl))
  refine Jld hh st.1 st.2.1 st.2.2 ?_
  rw[List.getElem?_eq_getElem hjl]
  refine⟨_,Array.getElem?_eq_getElem hk,fun h' it k=>?_⟩
  exact hQ _ h' s.toks ⟨_,_,List.getElem?_eq_getElem hjl,Array.getElem?_eq_getElem hk,rfl⟩ ⟨it,st.2.1.keep fun o e=>k a o hne e,let⟨o,ho,r⟩:=st.2.2;⟨o,k T o hT ho,r⟩⟩ fun b o hb e=>k b o (fun q=>hb (by simp[q])) e
 done:=fun s Q E st hQ=>by
  refine Jld hh st.1 st.2.1 st.2.2 ?_
  rw[List.getElem?_eq_none (by rw[hp.length_eq];simp)]
  exact fun h' k=>hQ h' s.toks fun b o hb e=>k b o (fun q=>hb (by simp[q])) e
 self:=fun _ _ _ _ st hQ=>by
  refine wpAny_pyIter_slot st.1.typeIs YV (wpAny_call_entry YV st.1.typeIs JdX ?_ (Jfg _))
  exact wpAny_pure ⟨_,rfl,"set_iterator",_,st.1.typeIs,WS.lookup,hQ⟩
end
end ZS
namespace ZS
open PySem
section
variable {prog:Program} {w:World} {A:Around} {E:Value→Shared→Prop} {s:Shared} {a:Addr} {ks:List Int}
noncomputable def Jui (prog:Program) (w:World) (A:Around) (s:Shared) (a:Addr) (es:Array (Int×Value)) (itv:Value) (s2:Shared):Prop:=
 ∃(I:Addr) (fp:List Addr) (P:Nat→Value→Prop) (St:Nat→Heap→Prop) (h2:Heap) (d:Drawn),itv=.ref I∧s2={s with heap:=h2,drawn:=d}∧(∀b o,s.heap.get? b=some o→h2.get? b=some o)∧s.heap.objs.size≤I∧
  (∀A',A'.handled=none→Walks prog w A' I fp [I] es.size P St)∧St 0 h2∧(∀b∈fp,b=a∨s.heap.objs.size≤b)∧(∀b∈fp,b<h2.objs.size)∧
  ∀acc:Array Value,ItemsOf P acc es.size→(acc.toList.map num).Perm (JjY es.toList)∧∀v∈acc.toList,∃e∈es.toList,v=e.2
theorem Jg2 {es ord:Array (Int×Value)} (hp:ord.toList.Perm es.toList) {acc:Array Value} (h:ItemsOf (fun j v=>∃e,ord[j]? =some e∧v=e.2) acc es.size):
  (acc.toList.map num).Perm (JjY es.toList)∧∀v∈acc.toList,∃e∈es.toList,v=e.2:=by
 have hl:ord.size=es.size:=by have:=hp.length_eq;simpa using this
 have e:acc.toList=ord.toList.map (·.2):=by
  refine List.ext_getElem? fun j=>?_
  rw[List.getElem?_map,Array.getElem?_toList,Array.getElem?_toList]
  by_cases hj:j<acc.size
  ·obtain⟨e,h1,h2⟩:=h.2 j acc[j] (Array.getElem?_eq_getElem hj)
   rw[Array.getElem?_eq_getElem hj,h1,h2];rfl
  ·rw[Array.getElem?_eq_none (by omega),Array.getElem?_eq_none (by have:=h.1;omega)];rfl
 refine⟨?_,fun v hv=>?_⟩
 ·rw[e,List.map_map]
  exact hp.map _
 ·rw[e] at hv
  obtain⟨x,hx,rfl⟩:=List.mem_map.mp hv
  exact⟨x,hp.mem_iff.mp hx,rfl⟩
theorem Ju2 {es:Array (Int×Value)} {ep:Nat} {t:SetTable} {Q:Value→Shared→Prop} (hS:Src prog w s.heap a es ep t) (hz:es.size<scanBound) (h:∀itv s2,Jui prog w A s a es itv s2→Q itv s2):wpAny (model prog w) A (pyIter (.ref a)) Q E s:=by
 obtain⟨⟨o,ho,hex,hd⟩,hf,hr,hl⟩:=id hS
 have hT:s.TypeIs (.ref a) "set":=⟨o,ho,hex.1⟩
 have hlt:a<s.heap.objs.size:=Heap.lt_size ho
 refine wpAny_pyIter_slot hT F.slot_set_iter (wpAny_call_entry F.slot_set_iter hT JqS ?_ (F.args_set_iter_1 _))
 unfold Builtin.«frozenset.__iter__» Builtin.Frozenset.slot0 slotArgs
 simp only[List.isEmpty_nil,Bool.not_true,Bool.false_eq_true,↓reduceIte,bind_assoc,List.length_nil,bne_self_eq_false]
 unfold Builtin.Frozenset.addrOf Builtin.Frozenset.sizeOf setDrawn setsByText
 refine wpAny_bind (wpAny_pure ?_)
 try dsimp only
 refine wpAny_bind (wpAny_pure ?_)
 refine wpAny_bind (wpAny_bind (wpAny_setEntries_of ho hd hf (wpAny_pure ?_)))
 refine wpAny_bind (wpAny_bind (wpAny_setState_of ho hd hf ?_))
 dsimp only
 refine wpAny_bind (wpAny_bind (wpAny_askSetting (wpAny_pure (wpAny_pure ?_))))
 refine wpAny_ite_split (fun hc=>?_) (fun hc=>?_)
 ·
  refine wpAny_bind (JrL es.size (List.range es.size) s _ (by simp) fun js d hp=>?_)
  have hjl:js.length=es.size:=by rw[hp.length_eq];simp
  have hzt:sizeOk (.seq (js.map fun(i:Nat)=>rawInt (i:Int)).toArray 0):=by
   show(js.map fun(i:Nat)=>rawInt (i:Int)).toArray.size≤sizeLine
   simp only[List.size_toArray,List.length_map,hjl]
   exact fits_of_scanBound hz
  refine wpAny_bind (wpAny_newObj_type (T:="tuple") ?_ hzt)
  refine wpAny_bind (wpAny_bind (wpAny_setState_of (Heap.get?_push_of_some _ ho) hd hf (wpAny_pure ?_)))
  refine wpAny_bind (wpAny_newObj_type (wpAny_pure ⟨_,rfl,"set_iterator",_,⟨_,Heap.get?_push_size _ rfl,rfl⟩,WS.lookup,h _ _ ?_⟩))
  have sz:∀o',(s.heap.push o').objs.size=s.heap.objs.size+1:=fun o'=>Heap.size_push ..
  have up:∀b o',s.heap.get? b=some o'→∀x y,((s.heap.push x).push y).get? b=some o':=fun b o' e x y=>Heap.get?_push_of_some _ (Heap.get?_push_of_some _ e)
  refine⟨_,[_,a,s.heap.objs.size],_,_,_,d,rfl,rfl,fun b o' e=>up b o' e _ _,?_,fun A' hh=>Jp4 (T:=s.heap.objs.size) (js:=js) hh ?_ ?_ hp,⟨⟨_,Heap.get?_push_size _ rfl,rfl,rfl⟩,hS.keep fun o' e=>up a o' e _ _,?_⟩,?_,?_,?_⟩
  ·show s.heap.objs.size≤(s.heap.push _).objs.size
   rw[sz];exact Nat.le_succ _
  ·show a≠(s.heap.push _).objs.size
   rw[sz];exact Nat.ne_of_lt (Nat.lt_succ_of_lt hlt)
  ·show s.heap.objs.size≠(s.heap.push _).objs.size
   rw[sz];exact Nat.ne_of_lt (Nat.lt_succ_self _)
  ·exact⟨_,Heap.get?_push_of_some _ (Heap.get?_push_size _ rfl),0,rfl⟩
  ·intro b hb
   simp only[List.mem_cons,List.not_mem_nil,or_false] at hb
   rcases hb with rfl|rfl|rfl
   ·right;show s.heap.objs.size≤(s.heap.push _).objs.size;rw[sz];exact Nat.le_succ _
   ·left;rfl
   ·right;exact Nat.le_refl _
  ·intro b hb
   simp only[List.mem_cons,List.not_mem_nil,or_false] at hb
   show b<((s.heap.push _).push _).objs.size
   rw[Heap.size_push]
   rcases hb with rfl|rfl|rfl
   ·exact Nat.lt_succ_self _
   ·rw[sz];exact Nat.lt_succ_of_lt (Nat.lt_succ_of_lt hlt)
   ·rw[sz];exact Nat.lt_succ_of_lt (Nat.lt_succ_self _)
  ·intro acc hacc
   refine Jg2 (ord:=(js.filterMap (es[·]?)).toArray) ?_ ⟨hacc.1,fun j v hv=>?_⟩
   ·show(js.filterMap (es[·]?)).Perm es.toList
    refine(hp.filterMap _).trans ?_
    have e1:=List.filterMap_getElem?_range_length es.toList
    have e2:(fun(i:Nat)=>es.toList[i]?)=fun(i:Nat)=>es[i]? :=by funext i;rw[Array.getElem?_toList]
    rw[e2,Array.length_toList] at e1
    rw[e1]
   ·obtain⟨k,e,h1,h2,h3⟩:=hacc.2 j v hv
    refine⟨e,?_,h3⟩
    have all:js.filterMap (es[·]?)=js.map fun k=>(es[k]?).getD e:=by
     have gen:∀l:List Nat,(∀k∈l,k<es.size)→l.filterMap (es[·]?)=l.map fun k=>(es[k]?).getD e:=fun l=>by
      induction l with
      |nil=>intro _;rfl
      |cons x l ih=>
       intro hl
       rw[List.filterMap_cons,Array.getElem?_eq_getElem (hl x List.mem_cons_self),List.map_cons,ih fun k hk=>hl k (List.mem_cons_of_mem _ hk),Array.getElem?_eq_getElem (hl x List.mem_cons_self)]
       rfl
     exact gen js fun k hk=>List.mem_range.mp (hp.mem_iff.mp hk)
    rw[List.getElem?_toArray,all,List.getElem?_map,h1]
    simp[h2]
 ·refine wpAny_bind (wpAny_pure ?_)
  refine wpAny_bind (wpAny_bind (wpAny_setState_of ho hd hf (wpAny_pure ?_)))
  refine wpAny_bind (wpAny_newObj_type (wpAny_pure ⟨_,rfl,"set_iterator",_,⟨_,Heap.get?_push_size _ rfl,rfl⟩,WS.lookup,h _ _ ?_⟩))
  have up:∀b o',s.heap.get? b=some o'→∀x,(s.heap.push x).get? b=some o':=fun b o' e x=>Heap.get?_push_of_some _ e
  have fpl:∀b∈[s.heap.objs.size,a],b=a∨s.heap.objs.size≤b:=fun b hb=>by
   simp only[List.mem_cons,List.not_mem_nil,or_false] at hb
   rcases hb with rfl|rfl
   ·right;exact Nat.le_refl _
   ·left;rfl
  have fps:∀o',∀b∈[s.heap.objs.size,a],b<(s.heap.push o').objs.size:=fun o' b hb=>by
   simp only[List.mem_cons,List.not_mem_nil,or_false] at hb
   rw[Heap.size_push]
   rcases hb with rfl|rfl
   ·exact Nat.lt_succ_self _
   ·exact Nat.lt_succ_of_lt hlt
  cases hb:w.params.followText "set-order" with
  |true=>
   refine⟨_,[_,a],_,_,_,s.drawn,rfl,rfl,fun b o' e=>up b o' e _,Nat.le_refl _,fun A' hh=>JrW (t:=t) (ep:=ep) hh (Nat.ne_of_lt hlt) hb,⟨⟨_,Heap.get?_push_size _ rfl,rfl,rfl⟩,hS.keep fun o' e=>up a o' e _⟩,fpl,fps _,fun acc hacc=>Jg2 (ord:=pickOrder (w.params.setOrder a ep) es) ?_ hacc⟩
   have:=JfO (w.params.setOrder a ep) es.size 0 es.toList #[] (by simp)
   simpa [pickOrder] using this
  |false=>
   have hpl:t.plain=true∨es.size≤1:=by
    have hc':¬((!w.params.followText "set-order"&&(!t.plain&&decide (es.size>1)))=true):=hc
    rw[hb] at hc'
    simp at hc'
    cases hp:t.plain with
    |true=>exact .inl rfl
    |false=>exact .inr (hc' hp)
   refine⟨_,[_,a],_,_,_,s.drawn,rfl,rfl,fun b o' e=>up b o' e _,Nat.le_refl _,fun A' hh=>Jp3 (t:=t) (ep:=ep) hh (Nat.ne_of_lt hlt) hb hpl,⟨0,JqY hr,⟨_,Heap.get?_push_size _ rfl,rfl,rfl⟩,hS.keep fun o' e=>up a o' e _⟩,fpl,fps _,fun acc hacc=>Jg2 (ord:=es) (List.Perm.refl _) hacc⟩
end
end ZS
namespace ZS
open PySem PyProof.Rows
section
variable {prog:Program} {w:World} {A:Around} {E:Value→Shared→Prop} {s:Shared} {a:Addr} {ks:List Int}
theorem Ju6 {r:Addr} {Q:Bool→Shared→Prop} (hT:s.TypeIs (.ref r) "set") (h:Q false s):wpAny (model prog w) A (Builtin.List.listLengthHint (.ref r)) Q E s:=by
 unfold Builtin.List.listLengthHint
 refine wpAny_bind (wpAny_specialOf hT PySem.F.slot_set_len.lookup ?_)
 generalize hid:("set.__len__":String)=id0
 wp_delta
 rw[show splitId id0=some ("set","__len__") from by subst hid;decide+kernel]
 subst hid
 refine wpAny_bind (wpAny_isInstance (T:="set") (b:=true) hT (by rw[isSubtype_type];kernel_rfl) ?_)
 refine wpAny_ite_split (fun hab=>absurd hab (by decide)) (fun _=>wpAny_ite_split (fun _=>?_) (fun hab=>absurd (by decide+kernel) hab))
 exact wpAny_bind (wpAny_typeOf hT (wpAny_pure h))
theorem JqT {es:Array (Int×Value)} {ep:Nat} {t:SetTable} {R:List Value→Shared→Prop} (hh:A.handled=none) (hS:Src prog w s.heap a es ep t) (hz:es.size<scanBound)
  (h:∀(h':Heap) (tk:Nat) (d:Drawn) (vs:List Value),(∀b o,s.heap.get? b=some o→h'.get? b=some o)→s.heap.objs.size<h'.objs.size→(vs.map num).Perm (JjY es.toList)→(∀v∈vs,∃e∈es.toList,v=e.2)→R vs {s with heap:=h',toks:=tk,drawn:=d}):
  wpAny (model prog w) A (collect (.ref a)) R E s:=by
 obtain⟨⟨o,ho,hex,hd⟩,hf,hr,hl⟩:=id hS
 have hT:s.TypeIs (.ref a) "set":=⟨o,ho,hex.1⟩
 have hlt:a<s.heap.objs.size:=Heap.lt_size ho
 unfold collect
 refine wpAny_bind (wpAny_runValue (codeAny_builtin entry_proto_collect' ?_))
 rw[Around.under_plainId PySem.F.plain_proto_collect _]
 show wpAny _ A.in1 (newList []>>= fun l=>again (.builtin "list.__iadd__" ⟨[l,.ref a],[]⟩)) _ _ s
 refine wpAny_bind (wpAny_newObj_type (wpAny_pure ⟨plainId_quiet PySem.F.plain_list_iadd _,codeAny_builtin entry_list_iadd' ?_⟩))
 rw[Around.under_plainId PySem.F.plain_list_iadd _]
 have g0:(s.heap.push {cls:=.type "list",data:=.seq ([]:List Value).toArray}).get? s.heap.objs.size=some {cls:=.type "list",data:=.seq #[]}:=Heap.get?_push_size _ rfl
 show wpAny _ A.in1 (Builtin.List.listExtendWith (.ref s.heap.objs.size) (.ref a) (.ref s.heap.objs.size)) _ _ _
 generalize hs1:({s with heap:=s.heap.push {cls:=.type "list",data:=.seq ([]:List Value).toArray}}:Shared)=s1
 have sz1:s1.heap.objs.size=s.heap.objs.size+1:=by subst hs1;exact Heap.size_push ..
 have up1:∀b o',s.heap.get? b=some o'→s1.heap.get? b=some o':=fun b o' e=>by subst hs1;exact Heap.get?_push_of_some _ e
 have g1:s1.heap.get? s.heap.objs.size=some {cls:=.type "list",data:=.seq #[]}:=by subst hs1;exact g0
 have hT1:s1.TypeIs (.ref a) "set":=⟨o,up1 a o ho,hex.1⟩
 have hS1:Src prog w s1.heap a es ep t:=hS.keep fun o' e=>up1 a o' e
 unfold Builtin.List.listExtendWith
 refine wpAny_bind (wpAny_typeOf hT1 ?_)
 rw[if_neg (by
  have:(s.heap.objs.size==a)=false:=by simpa using (Nat.ne_of_gt hlt)
  simp[Builtin.List.listSameRef,this])]
 refine wpAny_bind (Ju2 (A:=A.in1) hS1 hz fun itv s2 hW=>?_)
 obtain⟨I,fp,P,St,h2,d,rfl,rfl,up2,hI,W,st,hfp,hfs,hacc⟩:=hW
 refine wpAny_bind (wpAny_holding (Ju6 ⟨o,up2 a o (up1 a o ho),hex.1⟩ ?_))
 have g2:h2.get? s.heap.objs.size=some {cls:=.type "list",data:=.seq #[]}:=up2 _ _ g1
 have hSf:s.heap.objs.size∉fp:=fun hm=>by
  rcases hfp _ hm with e|e
  ·exact absurd e (Nat.ne_of_gt hlt)
  ·rw[sz1] at e;exact absurd e (Nat.not_succ_le_self _)
 have key:∀(h3:Heap) (c1:Nat),St 0 h3→(∀b o',b≠s.heap.objs.size→h2.get? b=some o'→h3.get? b=some o')→h3.get? s.heap.objs.size=some {cls:=.type "list",data:=.seq #[] c1}→
   ∀(R':Result→Shared→Prop),(∀(h':Heap) (tk:Nat) (acc:Array Value) (c:Nat),(∀b o',s.heap.get? b=some o'→h'.get? b=some o')→h'.get? s.heap.objs.size=some {cls:=.type "list",dict:=none,data:=.seq acc c,slots:=#[]}→ItemsOf P acc es.size→R' (.ok (.ret (.ref s.heap.objs.size))) {s1 with heap:=h',toks:=tk,drawn:=d})→
   codeAny (model prog w) A (.builtin "list.extend.loop" ⟨[.ref s.heap.objs.size,.ref I,.ref s.heap.objs.size],[]⟩) R' {s1 with heap:=h3,drawn:=d}:=by
  intro h3 c1 st3 k3 g3 R' hR'
  refine codeAny_extend_loopS (W A.in1 hh).toS (fits_of_scanBound hz) s.heap.objs.size hSf _ es.size 0 _ #[] c1 rfl (Nat.zero_le _) st3 g3 (ItemsOf.nil _) fun s' acc' c' hm gS hac=>?_
  rw[Moved.eq_with hm]
  refine hR' s'.heap s'.toks acc' c' (fun b o' e=>?_) gS hac
  have hb:b≠s.heap.objs.size:=Nat.ne_of_lt (Heap.lt_size e)
  refine hm.heap b o' (fun hmem=>?_) (k3 b o' hb (up2 b o' (up1 b o' e)))
  rcases List.mem_cons.mp hmem with e'|e'
  ·exact hb e'
  ·have:b=I:=by simpa using e'
   rw[this] at e
   have q:=Heap.lt_size e
   rw[sz1] at hI
   exact absurd (Nat.lt_of_lt_of_le q (Nat.le_of_succ_le hI)) (Nat.lt_irrefl _)
 have fin:∀(h3:Heap) (c1:Nat),St 0 h3→(∀b o',b≠s.heap.objs.size→h2.get? b=some o'→h3.get? b=some o')→h3.get? s.heap.objs.size=some {cls:=.type "list",data:=.seq #[] c1}→
   codeAny (model prog w) A (.builtin "list.extend.loop" ⟨[.ref s.heap.objs.size,.ref I,.ref s.heap.objs.size],[]⟩)
    (fun r s'=>∃(h':Heap) (tk:Nat) (acc:Array Value) (c:Nat),r=.ok (.ret (.ref s.heap.objs.size))∧s'={s1 with heap:=h',toks:=tk,drawn:=d}∧(∀b o',s.heap.get? b=some o'→h'.get? b=some o')∧h'.get? s.heap.objs.size=some {cls:=.type "list",dict:=none,data:=.seq acc c,slots:=#[]}∧ItemsOf P acc es.size) {s1 with heap:=h3,drawn:=d}:=
  fun h3 c1 a1 a2 a3=>key h3 c1 a1 a2 a3 _ fun h' tk acc c b1 b2 b3=>⟨h',tk,acc,c,rfl,rfl,b1,b2,b3⟩
 refine wpAny_ite_split (fun _=>?_) (fun hab=>absurd (by decide+kernel) hab)
 refine wpAny_bind (wpAny_rule (wpAny_bind ?_))
 show wpAny _ _ (updateSeq s.heap.objs.size (·.push .none)>>= fun _=>updateSeq s.heap.objs.size (·.pop)) _ _ _
 refine wpAny_bind (wpAny_updateSeq g2 rfl ?_)
 have g3:=Heap.get?_update_self (Obj.mapSeq (·.push Value.none)) g2 rfl
 refine wpAny_updateSeq (hz:=by seq_fits) g3 rfl ?_
 have g4:=Heap.get?_update_self (Obj.mapSeq (·.pop)) g3 rfl
 have oth:∀b o',b≠s.heap.objs.size→h2.get? b=some o'→((h2.update s.heap.objs.size (Obj.mapSeq (·.push Value.none))).update s.heap.objs.size (Obj.mapSeq (·.pop))).get? b=some o':=fun b o' hb e=>
  (Heap.get?_update_other _ _ (Ne.symm hb)).trans ((Heap.get?_update_other _ _ (Ne.symm hb)).trans e)
 refine wpAny_pure ⟨plainId_quiet PySem.F.plain_extend_loop _,codeAny_mono (fin _ _ ((W A.in1 hh).frame 0 _ _ st fun b hb o' e=>oth b o' (fun q=>hSf (q▸hb)) e) oth g4) fun q s2 y=>?_⟩
 obtain⟨h',tk,acc,c,rfl,rfl,hk,gS,hac⟩:=y
 show wpAny _ A (load s.heap.objs.size>>= _) _ _ _
 refine wpAny_bind (wpAny_load gS ?_)
 obtain⟨p1,p2⟩:=hacc acc hac
 subst hs1
 exact wpAny_pure (h h' tk d acc.toList hk (Heap.lt_size gS) p1 p2)
theorem Ju3 {vs:List Value}:(∀v∈vs,∃n t,v=Value.int n t)→IntsAre vs (vs.map num):=by
 induction vs with
 |nil=>intro _;exact .nil
 |cons v vs ih=>
  intro h
  obtain⟨n,t,rfl⟩:=h v List.mem_cons_self
  exact .cons n t (ih fun x hx=>h x (List.mem_cons_of_mem _ hx))
theorem Jsh {Q:Value→Shared→Prop} (hh:A.handled=none) (hS:Jhb prog w s.heap a ks)
  (h:∀(h':Heap) (tk:Nat) (d:Drawn) (D:Addr) (out:Array Value) (ns:List Int) (e:Nat),(∀b o,s.heap.get? b=some o→h'.get? b=some o)→s.heap.objs.size≤D→h'.get? D=some {cls:=.type "list",data:=.seq out e}→
   IntsAre out.toList ns→ns.Perm ks→ns.Pairwise (·≤·)→Q (.ref D) {s with heap:=h',toks:=tk,drawn:=d}):
  wpAny (model prog w) A (call (.builtin "sorted") [.ref a]) Q E s:=by
 obtain⟨o,es,ep,t,ho,hex,hd,T,hb⟩:=hS
 have hbe:es.size<scanBound:=by rw[T.size];exact hb
 refine Calls.call_function_entry kind_sorted plain_sorted entry_sorted (args_sorted1 _) ?_
 unfold Builtin.«sorted»
 refine wpAny_bind (m:=checkCount "sorted" 1 1 _) (wpAny_pure ?_)
 refine wpAny_bind (JqT (es:=es) (ep:=ep) (t:=t) (by exact hh) ⟨⟨o,ho,hex,hd⟩,T.fits,T.rise,T.led⟩ hbe fun h1 tk d vs k1 lt1 p1 m1=>?_)
 have hint:∀v∈vs,∃n t,v=Value.int n t:=fun v hv=>by
  obtain⟨e,he,rfl⟩:=m1 v hv
  obtain⟨⟨k,hk,_⟩,_⟩:=T.el e he
  obtain⟨t,q⟩:=Value.isInt_shape (show Value.isInt k e.2=true from hk)
  exact⟨k,t,q⟩
 have hI:=Ju3 hint
 have hlv:vs.length=es.size:=by have:=p1.length_eq;simpa using this
 have hz:vs.length≤sizeLine:=by rw[hlv];exact fits_of_scanBound hbe
 refine wpAny_bind (wpAny_newObj_type (T:="list") ?_ (show vs.toArray.size≤sizeLine by simpa using hz))
 have gL:(h1.push {cls:=.type "list",data:=.seq vs.toArray}).get? h1.objs.size=some (seqObj "list" vs.toArray 0):=Heap.get?_push_size _ rfl
 have le:s.heap.objs.size≤h1.objs.size:=Nat.le_of_lt lt1
 refine wpAny_bind (wpAny_holding (wpAny_call_entry slot_list_sort ⟨_,gL,rfl⟩ entry_list_sort (list_sort_treeAny gL hI hz fun out ns h3 h4 h5=>⟨_,rfl,?_⟩) (args_list_sort _)))
 obtain⟨e,ge⟩:=sortedHeap_at (h:=h1.push {cls:=.type "list",data:=.seq vs.toArray}) (a:=h1.objs.size) (vs:=vs) (n:=0) (out:=out) gL
 refine wpAny_pure ⟨_,rfl,h _ tk d h1.objs.size out ns e (fun b o' q=>?_) le ge h3 ((h4.trans p1).trans T.pm) h5⟩
 have hlb:b<h1.objs.size:=Heap.lt_size (k1 b o' q)
 rw[sortedHeap_old (Nat.ne_of_lt hlb) (by rw[Heap.size_push];exact Nat.lt_succ_of_lt hlb)]
 exact Heap.get?_push_of_some _ (k1 b o' q)
end
end ZS
namespace L2
open PySem PySem.Spec PyProof.Rows
theorem Je8:∀{ns:List Int} {its:List Value},JY (ns.map V.int) its→IntsAre its ns
 |[],_,.nil=>.nil
 |n::ns,_,.cons r t=>by
  obtain⟨k,rfl⟩:=r
  exact .cons n k (Je8 t)
theorem Jr8 (ns:List Int) (k:Nat) (hk:k<ns.length):(ns.take (k+1)).sum=(ns.take k).sum+ns[k]:=by
 rw[List.take_succ_eq_append_getElem hk,List.sum_append];simp
theorem JmU:∀{ns:List Int} {its:List Value},IntsAre its ns→JY (ns.map V.int) its
 |_,_,.nil=>.nil
 |_,_,.cons n k t=>.cons ⟨k,rfl⟩ (JmU t)
section
variable {X:Cx}
theorem JsS (hc:X.calm=true):VV X (.builtin "max") (fun xs H Q=>∃(p:Addr) (ns:List Int),xs=[.ref p]∧SqL X.K H p (ns.map V.int)∧0<ns.length∧∀M,M∈ns→(∀a,a∈ns→a≤M)→Q (.int M) H):=by
 intro pins s σ H xs us Q I r h
 obtain⟨p,ns,rfl,hq,hne,q⟩:=h
 obtain⟨u,rfl,rx⟩:=JeF r
 cases rx
 obtain⟨its,rv,pl,hz⟩:=I.list hq
 have hi:=Je8 rv
 obtain⟨zs,e⟩:=hi.allInts.items
 have hns:ns=zs.toList.map (·.1):=by rw[←hi.numsOf,←nums_intItems,←e]
 have hsz:0<zs.size:=by rw[hns,List.length_map,Array.length_toList] at hne;exact hne
 refine max_intList (I.ok.hd hc) (e▸pl.isList) hsz fun v h' tk hv hk=>?_
 obtain⟨t,rfl⟩:=intItems_at hv
 obtain⟨h1,h2⟩:=argBest_gt (numAt zs) (zs.size-1)
 refine⟨.int _,H,I.kept hk,⟨t,rfl⟩,q _ ?_ fun a ha=>?_⟩
 ·rw[hns,numAt_eq];exact getD_mem (by rw[List.length_map,Array.length_toList];omega)
 ·rw[hns] at ha
  obtain⟨j,hj,rfl⟩:=mem_getD ha
  rw[List.length_map,Array.length_toList] at hj
  rw[←numAt_eq];exact h2 j (by omega)
theorem JsR (hc:X.calm=true):VV X (.builtin "min") (fun xs H Q=>∃(p:Addr) (ns:List Int),xs=[.ref p]∧SqL X.K H p (ns.map V.int)∧0<ns.length∧∀M,M∈ns→(∀a,a∈ns→M≤a)→Q (.int M) H):=by
 intro pins s σ H xs us Q I r h
 obtain⟨p,ns,rfl,hq,hne,q⟩:=h
 obtain⟨u,rfl,rx⟩:=JeF r
 cases rx
 obtain⟨its,rv,pl,hz⟩:=I.list hq
 have hi:=Je8 rv
 obtain⟨zs,e⟩:=hi.allInts.items
 have hns:ns=zs.toList.map (·.1):=by rw[←hi.numsOf,←nums_intItems,←e]
 have hsz:0<zs.size:=by rw[hns,List.length_map,Array.length_toList] at hne;exact hne
 refine min_intList (I.ok.hd hc) (e▸pl.isList) hsz fun v h' tk hv hk=>?_
 obtain⟨t,rfl⟩:=intItems_at hv
 obtain⟨h1,h2⟩:=argBest_lt (numAt zs) (zs.size-1)
 refine⟨.int _,H,I.kept hk,⟨t,rfl⟩,q _ ?_ fun a ha=>?_⟩
 ·rw[hns,numAt_eq];exact getD_mem (by rw[List.length_map,Array.length_toList];omega)
 ·rw[hns] at ha
  obtain⟨j,hj,rfl⟩:=mem_getD ha
  rw[List.length_map,Array.length_toList] at hj
  rw[←numAt_eq];exact h2 j (by omega)
theorem Jsr:∀(ns:List Int) (val:Nat→Int),(∀i,i<ns.length→val i=ns.getD i 0)→preSum val ns.length=ns.sum:=by
 have gen:∀(k:Nat) (ns:List Int) (val:Nat→Int),k≤ns.length→(∀i,i<ns.length→val i=ns.getD i 0)→preSum val k=(ns.take k).sum:=by
  intro k
  induction k with
  |zero=>intro ns val _ _;simp[preSum]
  |succ k ih=>
   intro ns val hk h
   rw[preSum,ih ns val (by omega) h,h k (by omega),Jr8 ns k (by omega)]
   simp[List.getD,List.getElem?_eq_getElem (show k<ns.length by omega)]
 intro ns val h
 rw[gen ns.length ns val (Nat.le_refl _) h,List.take_length]
theorem JsP (hc:X.calm=true):VV X (.builtin "sum") (fun xs H Q=>∃(p:Addr) (ns:List Int),xs=[.ref p]∧SqL X.K H p (ns.map V.int)∧Q (.int ns.sum) H):=by
 intro pins s σ H xs us Q I r h
 obtain⟨p,ns,rfl,hq,q⟩:=h
 obtain⟨u,rfl,rx⟩:=JeF r
 cases rx
 obtain⟨its,rv,pl,hz⟩:=I.list hq
 have hi:=Je8 rv
 have hln:its.toArray.size=ns.length:=by rw[List.size_toArray,←rv.length,List.length_map]
 have hl:=pl.isList
 have hlt:p<s.heap.objs.size:=by obtain⟨_,e,_⟩:=hl;exact Heap.lt_size e
 refine call_sum_walkAnyS (wpAny_pyIter_list hl ⟨_,_,_,_,_,_,_,fun i=>ns.getD i 0,rfl,(Walks.list (A:=X.A.in1) (I.ok.hd hc) _ p (Nat.ne_of_lt hlt) its.toArray).toS,⟨⟨_,Heap.get?_push_size _ rfl,rfl,rfl⟩,hl.push _⟩,fun b hb=>?_,fun i v hv=>IntsAre.int_at hi i v (by simpa using hv),fun s' t' hm=>?_⟩)
 ·show b<(s.heap.push _).objs.size
  rw[Heap.size_push]
  rcases List.mem_cons.mp hb with rfl|hb
  ·exact Nat.lt_succ_self _
  ·rw[List.mem_singleton.mp hb];exact Nat.lt_succ_of_lt hlt
 ·have e:preSum (fun i=>ns.getD i 0) its.toArray.size=ns.sum:=by rw[hln];exact Jsr ns _ fun _ _=>rfl
  rw[e,Moved.eq_with hm]
  refine⟨.int ns.sum,H,I.kept fun b o e=>hm.heap b o (fun hI=>?_) (Heap.get?_push_of_some _ e),⟨t',rfl⟩,q⟩
  have:=Heap.lt_size e
  rw[List.mem_singleton.mp hI] at this
  exact absurd this (Nat.lt_irrefl _)
noncomputable def JnM (K:PySem.W.Frag):R2:=fun x y H Q=>∃a b xs ys,x=.ref a∧y=.ref b∧SqT K H a xs∧SqT K H b ys∧ys≠[]∧xs.length+ys.length≤sizeLine∧
 (xs=[]→Q (.ref b) H)∧(xs≠[]→∀p,H p=none→Q (.ref p) (upd H p (.tup (xs++ys))))
theorem JtE:OpR X (binaryOp .Add) (JnM X.K):=by
 intro pins s σ H x y v u Q I rx ry h
 obtain⟨a,b,xs,ys,rfl,rfl,ha,hb,hy,hz,q1,q2⟩:=h
 by_cases hx:xs=[]
 ·subst hx
  cases rx
  cases ry
  obtain⟨its,r1,p1,_⟩:=I.tuple ha
  obtain⟨its2,r2,p2,_⟩:=I.tuple hb
  cases r1
  obtain⟨⟨cls,dd,data,sl⟩,ho,hc,n,hd⟩:=id p1
  obtain⟨⟨cls2,dd2,data2,sl2⟩,ho2,hc2,n2,hd2⟩:=id p2
  simp only at hc hd hc2 hd2
  subst hc hd hc2 hd2
  exact concat_meets ⟨_,ho,rfl⟩ ⟨_,ho2,rfl⟩ noFill_tuple_add seq_tuple_add PySem.F.slot_tuple_add PySem.F.entry_tuple_add (PySem.F.args_tuple_add_2 _ _) (tuple_addW0 a b _ _ n n2 dd dd2 sl sl2 (by simp)) ⟨ho,ho2,⟨.ref b,H,I,rfl,q1 rfl⟩⟩
 ·exact JuN pins s σ H _ _ v u Q I rx ry ⟨a,b,xs,ys,rfl,rfl,ha,hb,hx,hz,fun e=>absurd e hy,fun _=>q2 hx⟩
noncomputable def Jvq (P:Program) (w:World) (a:Addr) (ks:List Int):HO:=.ext fun h=>ZS.Jhb P w h a ks
theorem JsQ (hc:X.calm=true):VV X (.type "set") (fun xs H Q=>∃(p:Addr) (ns:List Int),xs=[.ref p]∧SqL X.K H p (ns.map V.int)∧ns.length+1<scanBound∧∀a,H a=none→Q (.ref a) (upd H a (Jvq X.prog X.w a (ZS.Yl [] ns)))):=by
 intro pins s σ H xs us Q I r h
 obtain⟨p,ns,rfl,hq,hb,q⟩:=h
 obtain⟨u,rfl,rx⟩:=JeF r
 cases rx
 obtain⟨its,rv,pl,hz⟩:=I.list hq
 refine ZS.JvV (I.ok.hd hc) pl.isList (by simpa using Je8 rv) hb fun h' tk hS hk=>?_
 refine⟨.ref s.heap.objs.size,_,I.laid (t':=tk) (o:=Jvq X.prog X.w s.heap.objs.size (ZS.Yl [] ns)) (fun b ob e=>hk b ob (Heap.lt_size e) e) (Nat.le_refl _) ⟨hS,?_,fun h1 h2 x k=>x.at' k⟩,rfl,q _ (I.hok.fresh (Nat.le_refl _))⟩
 obtain⟨o,es,ep,t,ho,_⟩:=hS
 exact⟨o,ho⟩
theorem Inv.laidD {pins:List (Addr×Obj)} {σ:St} {H:Hp} {s:Shared} {h':Heap} {a:Addr} {o:HO} {t':Nat} {d':Drawn} (I:Inv X pins σ H s) (k:∀b u,s.heap.get? b=some u→h'.get? b=some u) (hp:s.heap.objs.size≤a) (new:YZ X.prog X.w (upd H a o) h' a o):
  Inv X pins σ (upd H a o) {s with heap:=h',drawn:=d',toks:=t'}:=
 have I1:=I.laid (t':=t') k hp new
 ⟨I1.ok,I1.os,I1.bare,I1.base,I1.loc,I1.cell,I1.free,I1.freeC,I1.pin,I1.hok,I1.len⟩
theorem Jof (hc:X.calm=true):VV X (.builtin "sorted") (fun xs H Q=>∃(a:Addr) (ks:List Int),xs=[.ref a]∧H a=some (Jvq X.prog X.w a ks)∧ks.length≤sizeLine∧∀(p:Addr) (ns:List Int),H p=none→ns.Perm ks→ns.Pairwise (·≤·)→Q (.ref p) (upd H p (.lst (ns.map V.int)))):=by
 intro pins s σ H xs us Q I r h
 obtain⟨a,ks,rfl,ha,hz,q⟩:=h
 obtain⟨u,rfl,rx⟩:=JeF r
 cases rx
 have hS:ZS.Jhb X.prog X.w s.heap a ks:=(I.hok a _ ha).1
 refine ZS.Jsh (I.ok.hd hc) hS fun h' tk d D out ns e k hD gD hI hp hs=>?_
 refine⟨.ref D,_,I.laidD (t':=tk) (d':=d) (o:=.lst (ns.map V.int)) k hD ?_,rfl,q D ns (I.hok.fresh hD) hp hs⟩
 exact⟨by rw[List.length_map,hp.length_eq];exact hz,out.toList,e,JmU hI,by simpa using gD⟩
end
end L2
namespace L2
open PySem PySem.Spec PyProof.Rows
theorem fld {K:PySem.W.Frag} {H:Hp} {a C dx:Addr} {fs:List (Str×V)} {f:Str} {v:V} {Q:V→Prop} (h:H a=some (.ins C dx fs)) (c:Cls K C) (n:JO K C f) (l:fs.lookup f=some v) (q:Q v):
  ∃a' C' dx' fs' v',V.ref a=.ref a'∧H a'=some (.ins C' dx' fs')∧Cls K C'∧JO K C' f∧fs'.lookup f=some v'∧Q v':=⟨_,_,_,_,_,rfl,h,c,n,l,q⟩
theorem JtS {X:Cx}:Jwy X (Jsq X.K):=by
 intro pins s σ H o i ov iv Q I ro ri h
 obtain⟨p,xs,k,z,rfl,rfl,hq,he,q⟩:=h
 cases ro
 obtain⟨t,rfl⟩:=ri
 obtain⟨its,r,pl,hz⟩:=I.list hq
 obtain⟨j,h1,h2,h3,h4,h5⟩:=Jok he
 obtain⟨w,ew,rw'⟩:=r.get h2
 have hl:=r.length
 have hn:=Jiy
 have fin:EP X pins σ Q w s:=⟨z,H,I,rw',q⟩
 by_cases h0:0≤k
 ·have hj:k.toNat=j:=by
   rw[seqIndex_of h0 h5] at h1
   exact Option.some.inj h1
  exact wpAny_getItem_list pl.isList h0 (by omega) (by rw[hj];simpa using ew) fin
 ·have hj:(k+(its.toArray.size:Int)).toNat=j:=by
   rw[seqIndex_neg (by omega) h4] at h1
   rw[List.size_toArray,←hl]
   exact Option.some.inj h1
  exact wpAny_getItem_list_neg pl.isList (by omega) (by rw[List.size_toArray]<;>omega) (by omega) (by rw[hj];simpa using ew) fin
theorem Jk {H H':Hp} {D:Addr} {o:HO} (s:Jg H H') (h:H D=none):Jg H (upd H' D o):=fun b u e=>by
 rw[Jh (Jn e h)];exact s b u e
theorem Jj {H:Hp} {D:Addr} {o:HO} (h:H D=none):Jg H (upd H D o):=Jk (Jg.refl H) h
theorem Jdv (c:Nat→Option V) (i:Nat):(List.range (i+1)).filterMap c=(List.range i).filterMap c++(match c i with|some y=>[y]|none=>[]):=by
 rw[List.range_succ,List.filterMap_append]
 cases h:c i<;>simp[h]
theorem JtZ (c:Nat→Option V) (i:Nat):((List.range i).filterMap c).length≤i:=by
 have:=List.length_filterMap_le c (List.range i)
 simpa using this
section
variable {K:PySem.W.Frag} {a b:Addr} {xs ys:List V} {g:TG} {tt:TT} {te:TE} {vs:List Nat} {σ:St} {H1:Hp} {D:Addr} {Qd:Hp→Prop}
theorem UQ (c:Nat→Option V) (n:Nat) (J:It) (hD:H1 D=none) (hz:n≤sizeLine)
  (go:∀i H,i<n→Jg H1 H→J.go i H) (stop:∀H,Jg H1 H→J.stop n H)
  (hs:∀i x H H',i<n→Jg H1 H→H D=some (.lst ((List.range i).filterMap c))→J.yld i H x H'→
   g x (JaU σ vs) H' fun σ2 H2=>JaU σ2 vs=JaU σ vs∧tt σ2 H2 fun b H3=>if b=true then te σ2 H3 fun y H4=>∃acc,H4 D=some (.lst acc)∧acc.length<sizeLine∧(fun H=>Jg H1 H∧H D=some (.lst ((List.range (i+1)).filterMap c))) (upd H4 D (.lst (acc++[y]))) else(fun H=>Jg H1 H∧H D=some (.lst ((List.range (i+1)).filterMap c))) H3)
  (hd:∀H,Jg H1 H→H D=some (.lst ((List.range n).filterMap c))→Qd H):
  ∃W:Nat→Nat→Hp→Prop,(∃m,W 0 m (upd H1 D (.lst [])))∧∀i m H,W i m H→
   (J.stop i H∧Qd H)∨(J.go i H∧∃Nx:Hp→Prop,(∀H',Nx H'→∃m',m'<m∧W (i+1) m' H')∧∀x H',J.yld i H x H'→g x (JaU σ vs) H' fun σ2 H2=>JaU σ2 vs=JaU σ vs∧tt σ2 H2 fun b H3=>
    if b=true then te σ2 H3 fun y H4=>∃acc,H4 D=some (.lst acc)∧acc.length<sizeLine∧Nx (upd H4 D (.lst (acc++[y]))) else Nx H3):=by
 refine⟨fun i m H=>m=n-i∧i≤n∧Jg H1 H∧H D=some (.lst ((List.range i).filterMap c)),⟨n,by simp,Nat.zero_le _,Jj hD,Jb⟩,?_⟩
 rintro i m H ⟨rfl,hi,s,hD'⟩
 by_cases hlt:i<n
 ·exact .inr ⟨go i H hlt s,fun H=>Jg H1 H∧H D=some (.lst ((List.range (i+1)).filterMap c)),fun H' p'=>⟨n-(i+1),by omega,rfl,hlt,p'⟩,fun x H' y=>hs i x H H' hlt s hD' y⟩
 ·have e:i=n:=by omega
  subst e
  exact .inl ⟨stop H s,hd H s hD'⟩
end
theorem J8 {H1 H4:Hp} {D:Addr} {c:Nat→Option V} {i:Nat} {y:V} (hD:H1 D=none) (hz:i<sizeLine) (s:Jg H1 H4) (h:H4 D=some (.lst ((List.range i).filterMap c))) (e:c i=some y):
  ∃acc,H4 D=some (.lst acc)∧acc.length<sizeLine∧(Jg H1 (upd H4 D (.lst (acc++[y])))∧(upd H4 D (.lst (acc++[y]))) D=some (.lst ((List.range (i+1)).filterMap c))):=
 ⟨_,h,Nat.lt_of_le_of_lt (JtZ c i) hz,Jk s hD,by rw[Jb,Jdv,e]⟩
theorem Jcv {H1 H3:Hp} {D:Addr} {c:Nat→Option V} {i:Nat} (s:Jg H1 H3) (h:H3 D=some (.lst ((List.range i).filterMap c))) (e:c i=none):
  Jg H1 H3∧H3 D=some (.lst ((List.range (i+1)).filterMap c)):=⟨s,by rw[Jdv,e,h];simp⟩
theorem UR {α:Type} (f:α→V) (c:Nat→Option V):∀(l:List α),(∀i x,l[i]? =some x→c i=some (f x))→(List.range l.length).filterMap c=l.map f:=by
 intro l
 have gen:∀n,n≤l.length→(∀i x,l[i]? =some x→c i=some (f x))→(List.range n).filterMap c=(l.take n).map f:=by
  intro n
  induction n with
  |zero=>intro _ _;simp
  |succ n ih=>
   intro hn h
   have hx:l[n]? =some l[n]:=List.getElem?_eq_getElem (by omega)
   rw[Jdv,ih (by omega) h,h n _ hx,List.take_succ_eq_append_getElem (by omega),List.map_append]
   rfl
 intro h
 have:=gen l.length (Nat.le_refl _) h
 rw[List.take_length] at this
 exact this
theorem Jvc {K:PySem.W.Frag} {a:Addr} {xs:List V} {g:TG} {tb:TS} {D:JlQ} {σ:St} {H:Hp} (Pv:Nat→St→Hp→Prop) (h0:Pv 0 σ H) (hl:∀i σ H,i≤xs.length→Pv i σ H→SqL K H a xs)
  (hs:∀i x σ H,i<xs.length→xs[xs.length-1-i]? =some x→Pv i σ H→g x σ H fun σ2 H2=>tb {D with nx:=Pv (i+1),ct:=Pv (i+1),bk:=D.nx} σ2 H2) (hd:∀σ H,Pv xs.length σ H→D.nx σ H):
  ∃W:Nat→Nat→St→Hp→Prop,(∃m,W 0 m σ H)∧∀i m σ H,W i m σ H→
   ((Itv K a xs.length).stop i H∧D.nx σ H)∨((Itv K a xs.length).go i H∧∃N:St→Hp→Prop,(∀σ' H',N σ' H'→∃m',m'<m∧W (i+1) m' σ' H')∧∀x H',(Itv K a xs.length).yld i H x H'→g x σ H' fun σ2 H2=>tb {D with nx:=N,ct:=N,bk:=D.nx} σ2 H2):=by
 refine⟨fun i m σ H=>m=xs.length-i∧i≤xs.length∧Pv i σ H,⟨xs.length,by simp,Nat.zero_le _,h0⟩,?_⟩
 rintro i m σ H ⟨rfl,hi,p⟩
 have q:=hl i σ H hi p
 by_cases hlt:i<xs.length
 ·refine .inr ⟨⟨hlt,xs,xs[xs.length-1-i],q,List.getElem?_eq_getElem (by omega)⟩,Pv (i+1),fun σ' H' p'=>⟨xs.length-(i+1),by omega,rfl,hlt,p'⟩,fun x H' y=>?_⟩
  obtain⟨e,y⟩:=y
  subst e
  exact hs i x σ _ hlt (y xs q) p
 ·have e:i=xs.length:=by omega
  subst e
  exact .inl ⟨Nat.le_refl _,hd σ H p⟩
section
variable {X:Cx} (K:PySem.W.Frag)
noncomputable def JwO (K:PySem.W.Frag):List V→Hp→VK→Prop:=fun xs H Q=>∃p ys,xs=[.ref p]∧(SqL K H p ys∨SqT K H p ys)∧Q (.int ys.length) H
noncomputable def JwN (K:PySem.W.Frag):List V→Hp→VK→Prop:=fun xs H Q=>∃(p:Addr) (ns:List Int),xs=[.ref p]∧SqL K H p (ns.map V.int)∧0<ns.length∧∀M,M∈ns→(∀a,a∈ns→a≤M)→Q (.int M) H
noncomputable def JwM (K:PySem.W.Frag):List V→Hp→VK→Prop:=fun xs H Q=>∃(p:Addr) (ns:List Int),xs=[.ref p]∧SqL K H p (ns.map V.int)∧0<ns.length∧∀M,M∈ns→(∀a,a∈ns→M≤a)→Q (.int M) H
noncomputable def JwL (K:PySem.W.Frag):List V→Hp→VK→Prop:=fun xs H Q=>∃(p:Addr) (ns:List Int),xs=[.ref p]∧SqL K H p (ns.map V.int)∧Q (.int ns.sum) H
theorem Jpw (h:X.K=K):IxR X (Jsq K):=h▸Ju1
theorem JrC (h:X.K=K):IxR X (JvY K):=h▸Jwi
theorem JmM (h:X.K=K):OpR X (binaryOp .Add) (JnM K):=h▸JtE
theorem JsT (h:X.K=K):VV X (.builtin "len") (JwO K):=h▸Jog
theorem Jm5 (h:X.K=K) (hc:X.calm=true):VV X (.builtin "max") (JwN K):=h▸JsS hc
theorem Jm4 (h:X.K=K) (hc:X.calm=true):VV X (.builtin "min") (JwM K):=h▸JsR hc
theorem V1 (h:X.K=K) (hc:X.calm=true):VV X (.builtin "sum") (JwL K):=h▸JsP hc
theorem JmV (h:X.K=K):Jwy X (Jsq K):=h▸JtS
theorem JuK {e:Expr} {ta:TE} {f:Str} {pos:Pos} (h:X.K=K) (he:PE X e ta) (hb:attributeBase e f X.env (eval e X.env)=eval e X.env):PE X (.Attribute e f pos) (Juu K ta f):=h▸Jv5 he hb
theorem JuG {es:List Expr} {k:Nat} {t:TGs} {n:Nat} {pos:Pos} (h':X.K=K) (hc:X.calm=true) (h:PGs X es t)
  (hn:(assignEach es X.env).length=n:=by rfl) (hst:(assignEach es X.env).findIdx? (·.1)=none:=by rfl):PG X (.Tuple es k pos) (Jwl K n t):=h'▸Jv3 hc h hn hst
end
end L2
namespace L2
open PySem PySem.Spec PyProof.Rows
inductive Jid (w:World):List DictEntry→List (Key×V)→Prop
 |nil:Jid w [] []
 |int {h i:Int} {t:Tok} {u:Value} {v:V} {es:List DictEntry} {kvs:List (Key×V)}:hashInt i=h→JX v u→Jid w es kvs→Jid w (⟨h,.int i t,u⟩::es) ((.inl i,v)::kvs)
 |str {h:Int} {x:Str} {t:Tok} {u:Value} {v:V} {es:List DictEntry} {kvs:List (Key×V)}:hashStr w x=h→JX v u→Jid w es kvs→Jid w (⟨h,.str x t,u⟩::es) ((.inr x,v)::kvs)
theorem Jid.of {w:World} (P:Program) {es:List DictEntry} {kvs:List (Key×V)} (E:Jid w es kvs):∃vs,KV kvs vs∧Pairs (Vg P w) es vs∧kvs.map (·.1)=vs.map (·.1)∧∀e∈es,∃k,(Vg P w).is k e.key=true∧e.hash=(Vg P w).hash k:=by
 induction E with
 |nil=>exact⟨[],.nil,.nil,rfl,fun e h=>nomatch h⟩
 |@int h i t u v es kvs hh rv _ ih=>
  obtain⟨vs,h1,h2,h3,h4⟩:=ih
  refine⟨(.inl i,u)::vs,.cons ⟨rfl,rv⟩ h1,.cons (Je4 P w i t) rfl h2,by simp only[List.map_cons,h3],fun e he=>?_⟩
  rcases List.mem_cons.mp he with rfl|he
  ·exact⟨.inl i,Je4 P w i t,hh.symm⟩
  ·exact h4 e he
 |@str h x t u v es kvs hh rv _ ih=>
  obtain⟨vs,h1,h2,h3,h4⟩:=ih
  refine⟨(.inr x,u)::vs,.cons ⟨rfl,rv⟩ h1,.cons (Je3 P w x t) rfl h2,by simp only[List.map_cons,h3],fun e he=>?_⟩
  rcases List.mem_cons.mp he with rfl|he
  ·exact⟨.inr x,Je3 P w x t,hh.symm⟩
  ·exact h4 e he
noncomputable def Jjz (w:World) (K:PySem.W.Frag) (a:Addr) (kvs:List (Key×V)):Prop:=
 ∃es n,K.lookup a=some ⟨.type "dict",none,.dict es n,#[]⟩∧Jid w es.toList kvs∧(kvs.map (·.1)).Nodup∧(a==sysModules)=false
theorem Jjz.at {w:World} {K:PySem.W.Frag} {a:Addr} {kvs:List (Key×V)} (D:Jjz w K a kvs) (P:Program) {h:Heap} (X:K.In h):(a==sysModules)=false∧∃vs,KV kvs vs∧h.DictOf (Vg P w) a vs:=by
 obtain⟨es,n,h1,h2,h3,h4⟩:=D
 obtain⟨vs,q1,q2,q3,q4⟩:=h2.of P
 exact⟨h4,vs,q1,_,es,n,X _ _ h1,⟨rfl,rfl,rfl⟩,rfl,fun e he=>q4 e (Array.mem_toList_iff.mpr he),q2,by rw[←q3];exact h3⟩
noncomputable def UV (K:PySem.W.Frag) (a:Addr) (xs:List V):Prop:=∃(o:Obj) (its:Array Value) (n:Nat),K.lookup a=some o∧o.cls=.type "tuple"∧o.data=.seq its n∧its.size≤sizeLine∧JY xs its.toList
theorem UV.sq {K:PySem.W.Frag} {a:Addr} {xs:List V} (h:UV K a xs) {H:Hp}:SqT K H a xs:=.inr h
noncomputable def Jvv (kvs:List (Key×V)) (ty:TE):TE:=fun σ H Q=>ty σ H fun y H1=>∃k v,y=kV k∧Jni kvs k=some v∧Q v H1
noncomputable def Jtg (kvs:List (Key×V)) (ty tx:TE):TE:=fun σ H Q=>ty σ H fun y H1=>tx σ H1 fun z H2=>∃k,y=kV k∧Q ((Jni kvs k).getD z) H2
section
variable {X:Cx} {o i e f:Expr} {pos apos cpos:Pos} {ty tx tf:TE} {a:Addr} {kvs:List (Key×V)}
theorem JnO (D:Jjz X.w X.K a kvs) (ho:PE X o (tC (.ref a))) (hi:PE X i ty) (hs:Jxb i):PE X (.Subscript o i pos) (Jvv kvs ty):=by
 intro pins s σ H Q I h
 refine Juv PySem.F.slot_dict_getitem.lookup hs (thn (ho pins s σ H (fun x H1=>x=.ref a∧Jvv kvs ty σ H1 Q) I ⟨rfl,h⟩) fun u s1 ⟨x,H1,I1,rx,ex,q1⟩=>thn (hi pins s1 σ H1 _ I1 q1) fun iv s2 ⟨y,H2,I2,ry,k,v,ey,l,q2⟩=>?_)
 subst ex ey
 obtain rfl:u=Value.ref a:=rx
 obtain⟨hd,vs,rel,dd⟩:=D.at X.prog I2.kIn
 obtain⟨w',hw,rw'⟩:=Jh2.some_of (v:=v) (o:=valueAt vs k) (by rw[←l];exact rel.val k)
 exact⟨dd.typeIs,wpAny_getItem_of (JvD ry) dd.mapOf hw ⟨v,H2,I2.tok _,rw',q2⟩⟩
theorem JtA (D:Jjz X.w X.K a kvs) (ho:PE X o (tC (.ref a))) (he:PE X e ty) (hf:PE X f tx) (m:M2 X o "get" apos e f cpos):PE X (.Call (.Attribute o "get" apos) [e,f] [] cpos) (Jtg kvs ty tx):=by
 intro pins s σ H Q I h
 refine wpAny_Call_method m.base m.few m.line PySem.F.plainAttrs_dict PySem.F.slot_dict_get PySem.F.type_dict_get (thn (ho pins s σ H (fun x H1=>x=.ref a∧Jtg kvs ty tx σ H1 Q) I ⟨rfl,h⟩) fun u s1 ⟨x,H1,I1,rx,ex,q1⟩=>?_)
 subst ex
 obtain rfl:u=Value.ref a:=rx
 obtain⟨hd,vs,rel,dd⟩:=D.at X.prog I1.kIn
 refine⟨dd.typeIs,fun b q=>?_,?_⟩
 ·cases q
  obtain⟨ob,_,_,h1,h2,_⟩:=dd
  exact⟨ob,h1,h2.2.1⟩
 rw[m.trees]
 refine Calls.callWith_builtin rfl (Calls.evalArgs_plain (Calls.spliced_cons (thn (he pins s1 σ H1 _ I1 q1) fun iv s2 ⟨y,H2,I2,ry,q2⟩=>
  Calls.spliced_cons (thn (hf pins s2 σ H2 _ I2 q2) fun fv s3 ⟨z,H3,I3,rz,k,ey,q3⟩=>Calls.spliced_nil ?_))))
 subst ey
 obtain⟨hd,vs,rel,dd⟩:=D.at X.prog I3.kIn
 refine call_meetsIn PySem.F.slot_dict_get dd.typeIs PySem.F.entry_dict_get (PySem.F.args_dict_get_3 _ _ _) (meets_dict_get_default (Vg X.prog X.w) a (JvD ry) hd fv) ⟨_,dd.mapOf,⟨_,H3,I3.tok _,(rel.val k).getD rz,q3⟩⟩
noncomputable def JvR (Has:Addr→Sp→Prop) (E:XK) (tf:TE) (t:TA):TE:=fun σ H Q=>tf σ H fun x H1=>∃a sp,x=.ref a∧Has a sp∧t σ H1 fun vs H2=>sp vs H2 Q E
theorem JhX (o i:Expr) (p:Pos) (args:List Expr) (keywords:List Keyword) (pos:Pos) (env:Env):eval (.Call (.Subscript o i p) args keywords pos) env=(do
  callWith pos (←eval (.Subscript o i p) env) [] (backTo pos (starEach args env)) (backToKw pos (keywordEach keywords env))):=rfl
theorem JtB {CX:CXT} {kk:Nat} {E:XK} {Has:Addr→Sp→Prop} {es:List Expr} {t:TA} {p:Pos}
  (hF:∀a sp,Has a sp→∃k fd ps,k≤kk∧JF X.prog X.w X.K X.mg X.base CX k a fd ps sp∧PySem.W.keepIn X.K (.ref a)=true∧JcR X.K fd ps [])
  (hr:JaR kk X.A) (hx:Jfh CX X E) (hf:PE X (.Subscript o i p) tf) (ha:PA X (e::es) t)
  (he:starEach (e::es) X.env=(false,eval e X.env)::starEach es X.env:=by rfl) (hpl:(backTo pos (starEach es X.env)).any (·.1)=false:=by rfl):
  PE X (.Call (.Subscript o i p) (e::es) [] pos) (JvR Has E tf t):=by
 intro pins s σ H Q I h
 rw[JhX]
 refine wpAny_bind (thn (hf pins s σ H _ I h) fun u s1 ⟨x,H1,I1,rx,a,sp,ex,hs,q1⟩=>?_)
 subst ex
 obtain rfl:u=Value.ref a:=rx
 obtain⟨k,fd,ps,hk,F,kp,hb⟩:=hF a sp hs
 refine PySem.W.callWith_K (h₀:=X.base) I.ok.mod.kin kp (thn (ha pos pins s1 σ H1 _ I1 q1) fun us s2 ⟨vs,H2,I2,r,q⟩=>⟨I2.kIn,?_⟩) he hpl
 exact Jqq F (hr.mono hk) hb .nil hx I2 r (by rw[List.append_nil];exact q)
end
end L2
namespace ZZ
open PySem
inductive Knd where
 |lst
 |tup
noncomputable def cn:Knd→String
 | .lst=>"list_iterator"
 | .tup=>"tuple_iterator"
noncomputable def JaQ:Knd→Heap→Addr→Array Value→Prop
 | .lst,h,l,xs=>h.IsList l xs
 | .tup,h,l,xs=>h.IsTuple l xs
noncomputable def US (k:Knd) (h:Heap) (i l:Addr) (n:Nat):Prop:=∃o,h.get? i=some o∧o.cls=.type (cn k)∧o.data=.fields #[.ref l,.int n 0]
theorem US.at' {k:Knd} {h h':Heap} {i l:Addr} {n:Nat} (x:US k h i l n) (e:∀o,h.get? i=some o→h'.get? i=some o):US k h' i l n:=let⟨o,ho,r⟩:=x;⟨o,e o ho,r⟩
theorem US.ext {k:Knd} {h h':Heap} {i l b:Addr} {n:Nat} (x:US k h i l n) (s:Heap.SameBut b h h') (e:i≠b):US k h' i l n:=x.at' fun o q=>s.extBut _ _ e q
theorem JaQ.at' {k:Knd} {h h':Heap} {l:Addr} {xs:Array Value} (x:JaQ k h l xs) (e:∀o,h.get? l=some o→h'.get? l=some o):JaQ k h' l xs:=by
 cases k with
 |lst=>obtain⟨o,ho,r⟩:=x;exact⟨o,e o ho,r⟩
 |tup=>obtain⟨o,ho,r⟩:=x;exact⟨o,e o ho,r⟩
theorem JaQ.ext {k:Knd} {h h':Heap} {l b:Addr} {xs:Array Value} (x:JaQ k h l xs) (s:Heap.SameBut b h h') (e:l≠b):JaQ k h' l xs:=x.at' fun o q=>s.extBut _ _ e q
section
variable {prog:Program} {w:World} {A:Around} {E:Value→Shared→Prop} {s:Shared}
theorem Jpx {k:Knd} {l:Addr} {xs:Array Value} {Q:Value→Shared→Prop} (h:JaQ k s.heap l xs) (q:Q (.ref s.heap.objs.size) {s with heap:=s.heap.push {cls:=.type (cn k),data:=.fields #[.ref l,.int 0 0]}}):wpAny (model prog w) A (pyIter (.ref l)) Q E s:=by
 cases k with
 |lst=>exact wpAny_pyIter_list h q
 |tup=>exact wpAny_pyIter_tuple h q
theorem JgX {k:Knd} {it l:Addr} {i:Nat} {xs:Array Value} {x:Value} {Q:Value→Shared→Prop} (hit:US k s.heap it l i) (hl:JaQ k s.heap l xs) (hx:xs[i]? =some x)
  (hQ:∀h',US k h' it l (i+1)→Heap.SameBut it s.heap h'→Q x {s with heap:=h'}):wpAny (model prog w) A (Builtin.SmallTypes.nextOf (.ref it)) Q E s:=by
 cases k with
 |lst=>exact wpAny_nextOf_list_item hit hl hx hQ
 |tup=>
  have hT:s.TypeIs (.ref it) "tuple_iterator":=let⟨o,ho,hc,_⟩:=hit;⟨o,ho,hc⟩
  obtain⟨o,ho,hc,hd⟩:=id hit
  obtain⟨ol,hol,_,nl,hdl⟩:=hl
  unfold Builtin.SmallTypes.nextOf
  refine wpAny_bind (wpAny_callSpecial?_slot (name:=Str.ofString "__next__") hT F.slot_tuple_iterator_next (wpAny_call_entry F.slot_tuple_iterator_next hT F.entry_tuple_iterator_next ?_ (F.args_tuple_iterator_next_1 _)))
  refine wpAny_bind (m:=field (.ref it) 0) (wpAny_field ho hd (x:=.ref l) rfl ?_)
  show wpAny _ _ (if(Value.ref l==Value.none)=true then _ else _) _ _ s
  rw[if_neg (show¬((Value.ref l==Value.none)=true) from Bool.false_ne_true)]
  refine wpAny_bind (m:=field (.ref it) 1) (wpAny_field ho hd (x:=.int i 0) rfl ?_)
  refine wpAny_bind (m:=seqItems? (.ref l)) (wpAny_seqItems hol hdl ?_)
  simp only[Int.toNat_natCast,hx]
  refine wpAny_bind (wpAny_setField ho hd (by simp) (wpAny_pure ⟨x,rfl,wpAny_pure (hQ _ ⟨_,Heap.get?_update_self _ ho (Obj.isFreed_of_fields (Obj.data_mapFields hd _)),(Obj.cls_mapFields ..).trans hc,?_⟩ (Heap.SameBut.update ..))⟩))
  rw[Obj.data_mapFields hd];simp[rawInt]
theorem JmO {k:Knd} {it l:Addr} {i:Nat} {xs:Array Value} {Q:Value→Shared→Prop} (hh:A.handled=none) (hit:US k s.heap it l i) (hl:JaQ k s.heap l xs) (hx:xs[i]? =none)
  (hE:∀h' e,Heap.ExtBut it s.heap h'→(∃o,h'.get? e=some o∧o.cls=.type "StopIteration")→E (.ref e) {s with heap:=h'}):wpAny (model prog w) A (Builtin.SmallTypes.nextOf (.ref it)) Q E s:=by
 cases k with
 |lst=>exact wpAny_nextOf_list_end hh hit hl hx hE
 |tup=>
  have hT:s.TypeIs (.ref it) "tuple_iterator":=let⟨o,ho,hc,_⟩:=hit;⟨o,ho,hc⟩
  obtain⟨o,ho,hc,hd⟩:=id hit
  obtain⟨ol,hol,_,nl,hdl⟩:=hl
  unfold Builtin.SmallTypes.nextOf
  refine wpAny_bind (wpAny_callSpecial?_slot (name:=Str.ofString "__next__") hT F.slot_tuple_iterator_next (wpAny_call_entry F.slot_tuple_iterator_next hT F.entry_tuple_iterator_next ?_ (F.args_tuple_iterator_next_1 _)))
  refine wpAny_bind (m:=field (.ref it) 0) (wpAny_field ho hd (x:=.ref l) rfl ?_)
  show wpAny _ _ (if(Value.ref l==Value.none)=true then _ else _) _ _ s
  rw[if_neg (show¬((Value.ref l==Value.none)=true) from Bool.false_ne_true)]
  refine wpAny_bind (m:=field (.ref it) 1) (wpAny_field ho hd (x:=.int i 0) rfl ?_)
  refine wpAny_bind (m:=seqItems? (.ref l)) (wpAny_seqItems hol hdl ?_)
  simp only[Int.toNat_natCast,hx]
  refine wpAny_bind (wpAny_rule (wpAny_bind (wpAny_setField ho hd (by simp) ?_)))
  refine wpAny_bind (m:=newExc (.type "StopIteration") []) ?_
  simp only[newExc,newTuple]
  refine wpAny_bind (wpAny_newObj_type ?_ (by size_fits))
  refine wpAny_bind (m:=firstArgMember _ _) (wpAny_of_eq (a:=Value.none) (by first|rfl|(simp only[firstArgMember];rfl)) ?_)
  refine wpAny_newObj_type ?_ (by size_fits)
  simp only[raiseNew]
  refine wpAny_bind (wpAny_handled ?_)
  first|rw[show A.in1.handled=none from hh]|rw[hh]
  exact wpAny_bind (wpAny_pure (wpAny_throw (hE _ _ (((Heap.SameBut.update ..).extBut.push _).push _) ⟨_,Heap.get?_push_size _ rfl,rfl⟩)))
theorem JrV {k1 k2:Knd} {z TI TO i1 i2 l1 l2:Addr} {n1 n2:Nat} {xs ys:Array Value} {x y a b:Value} {Q:Value→Shared→Prop} (D:ZipApart z TI TO i1 i2 l1 l2)
  (hz:IsZip s.heap z TI TO .none) (hTI:IsPair s.heap TI (.ref i1) (.ref i2)) (hTO:IsPair s.heap TO a b) (h1:US k1 s.heap i1 l1 n1) (h2:US k2 s.heap i2 l2 n2) (hl1:JaQ k1 s.heap l1 xs) (hl2:JaQ k2 s.heap l2 ys) (hx:xs[n1]? =some x) (hy:ys[n2]? =some y)
  (hQ:∀h',IsZip h' z TI TO (rawInt s.heap.objs.size)→IsPair h' TO x y→US k1 h' i1 l1 (n1+1)→US k2 h' i2 l2 (n2+1)→IsPair h' s.heap.objs.size x y→h'.objs.size=s.heap.objs.size+1→
   (∀c o,c≠z→c≠TO→c≠i1→c≠i2→s.heap.get? c=some o→h'.get? c=some o)→Q (.ref s.heap.objs.size) {s with heap:=h'}):
  wpAny (model prog w) A (Builtin.«zip.__next__» ⟨[.ref z],[]⟩) (fun fin s'=>∃v,fin=.done (.ret v)∧Q v s') E s:=by
 refine wpAny_bind (m:=field (.ref z) 2) (wpAny_field hz rfl (x:=.bool false) rfl ?_)
 refine wpAny_bind (m:=field (.ref z) 3) (wpAny_field hz rfl (x:=.ref TI) rfl (wpAny_bind (wpAny_seqItems hTI rfl ?_)))
 refine wpAny_bind (m:=Builtin.SmallTypes.ownedTupleIsFree (.ref z)) ?_
 unfold Builtin.SmallTypes.ownedTupleIsFree
 refine wpAny_bind (wpAny_field hz rfl (x:=.none) rfl (wpAny_pure ?_))
 simp only[if_true]
 refine wpAny_bind (wpAny_rule (wpAny_bind (wpAny_field hz rfl (x:=.ref TO) rfl (wpAny_bind (wpAny_setField_rec hz (by simp) fun g1 hz1 s1=>?_)))))
 replace hz1:IsZip g1 z TI TO .ellipsis:=hz1
 refine wpAny_bind ?_
 simp only[List.zipIdx_cons,List.zipIdx_nil,List.forIn_cons,List.forIn_nil]
 refine wpAny_bind (wpAny_bind (wpAny_onRaise (wpAny_bind (m:=Builtin.SmallTypes.nextOf (.ref i1)) (JgX (h1.ext s1 D.i1z) (hl1.ext s1 D.l1z) hx fun g2 q2 s2=>wpAny_pure ?_))))
 have t2:IsPair g2 TO a b:=s2.extBut _ _ D.TOi1 (s1.extBut _ _ D.TOz hTO)
 refine wpAny_bind (wpAny_seqItems t2 rfl (wpAny_bind (wpAny_updateSeq_pair t2 fun g3 t3 s3=>?_)))
 replace t3:IsPair g3 TO x b:=t3
 refine wpAny_bind (wpAny_letGo (wpAny_pure ?_))
 refine wpAny_bind (wpAny_bind (wpAny_onRaise (wpAny_bind (m:=Builtin.SmallTypes.nextOf (.ref i2)) (JgX (((h2.ext s1 D.i2z).ext s2 D.i12.symm).ext s3 D.TOi2.symm) (((hl2.ext s1 D.l2z).ext s2 D.l2i1).ext s3 D.l2TO) hy fun g4 q4 s4=>wpAny_pure ?_))))
 have t4:IsPair g4 TO x b:=s4.extBut _ _ D.TOi2 t3
 refine wpAny_bind (wpAny_seqItems t4 rfl (wpAny_bind (wpAny_updateSeq_pair t4 fun g5 t5 s5=>?_)))
 replace t5:IsPair g5 TO x y:=t5
 refine wpAny_bind (wpAny_letGo (wpAny_pure (wpAny_pure ?_)))
 refine wpAny_bind (wpAny_seqItems t5 rfl (wpAny_bind (wpAny_newTuple ?_)))
 have hsz:g5.objs.size=s.heap.objs.size:=by rw[s5.1,s4.1,s3.1,s2.1,s1.1]
 have z5:IsZip g5 z TI TO .ellipsis:=s5.extBut _ _ D.TOz.symm (s4.extBut _ _ D.i2z.symm (s3.extBut _ _ D.TOz.symm (s2.extBut _ _ D.i1z.symm hz1)))
 have kk:∀c o,c≠z→c≠TO→c≠i1→c≠i2→s.heap.get? c=some o→g5.get? c=some o:=fun c o c1 c2 c3 c4 e=>s5.extBut _ _ c2 (s4.extBut _ _ c4 (s3.extBut _ _ c2 (s2.extBut _ _ c3 (s1.extBut _ _ c1 e))))
 have p1:US k1 g5 i1 l1 (n1+1):=((q2.ext s3 D.TOi1.symm).ext s4 D.i12).ext s5 D.TOi1.symm
 have p2:US k2 g5 i2 l2 (n2+1):=q4.ext s5 D.TOi2.symm
 have zl:z<g5.objs.size:=Heap.lt_size z5
 refine wpAny_bind (m:=Builtin.SmallTypes.ownedTupleHandOut (.ref z) (.ref g5.objs.size)) ?_
 unfold Builtin.SmallTypes.ownedTupleHandOut
 have z6:IsZip (g5.push {cls:=.type "tuple",data:=.seq #[x,y]}) z TI TO .ellipsis:=Heap.get?_push_of_some _ z5
 refine wpAny_bind (wpAny_setField_rec z6 (by simp) fun g7 z7 s7=>?_)
 replace z7:IsZip g7 z TI TO (rawInt g5.objs.size):=z7
 refine wpAny_setField_rec z7 (by simp) fun g8 z8 s8=>?_
 replace z8:IsZip g8 z TI TO (rawInt g5.objs.size):=z8
 have up:∀c o,c≠z→g5.get? c=some o→g8.get? c=some o:=fun c o c1 e=>s8.extBut _ _ c1 (s7.extBut _ _ c1 (Heap.get?_push_of_some _ e))
 have t8:IsPair g8 g5.objs.size x y:=s8.extBut _ _ (Nat.ne_of_gt zl) (s7.extBut _ _ (Nat.ne_of_gt zl) (Heap.get?_push_size _ rfl))
 have e8:g8.objs.size=g5.objs.size+1:=by rw[s8.1,s7.1,Heap.size_push]
 rw[hsz] at z8 t8 e8
 refine wpAny_pure ⟨_,rfl,?_⟩
 show Q (.ref g5.objs.size) _
 rw[hsz]
 exact hQ g8 z8 (up _ _ D.TOz t5) (p1.at' fun o e=>up _ o D.i1z e) (p2.at' fun o e=>up _ o D.i2z e) t8 e8 fun c o c1 c2 c3 c4 e=>up c o c1 (kk c o c1 c2 c3 c4 e)
theorem Js3 {k1 k2:Knd} {z TI TO i1 i2 l1 l2:Addr} {n1 n2:Nat} {xs ys:Array Value} {a b:Value} {Q:Fin→Shared→Prop} (hh:A.handled=none) (D:ZipApart z TI TO i1 i2 l1 l2)
  (hz:IsZip s.heap z TI TO .none) (hTI:IsPair s.heap TI (.ref i1) (.ref i2)) (hTO:IsPair s.heap TO a b) (h1:US k1 s.heap i1 l1 n1) (h2:US k2 s.heap i2 l2 n2) (hl1:JaQ k1 s.heap l1 xs) (hl2:JaQ k2 s.heap l2 ys) (hend:xs[n1]? =none∨ys[n2]? =none)
  (hE:∀h' e,(∀c o,c≠z→c≠TO→c≠i1→c≠i2→s.heap.get? c=some o→h'.get? c=some o)→(∃o,h'.get? e=some o∧o.cls=.type "StopIteration")→E (.ref e) {s with heap:=h'}):
  wpAny (model prog w) A (Builtin.«zip.__next__» ⟨[.ref z],[]⟩) Q E s:=by
 refine wpAny_bind (m:=field (.ref z) 2) (wpAny_field hz rfl (x:=.bool false) rfl ?_)
 refine wpAny_bind (m:=field (.ref z) 3) (wpAny_field hz rfl (x:=.ref TI) rfl (wpAny_bind (wpAny_seqItems hTI rfl ?_)))
 refine wpAny_bind (m:=Builtin.SmallTypes.ownedTupleIsFree (.ref z)) ?_
 unfold Builtin.SmallTypes.ownedTupleIsFree
 refine wpAny_bind (wpAny_field hz rfl (x:=.none) rfl (wpAny_pure ?_))
 simp only[if_true]
 refine wpAny_bind (wpAny_rule (wpAny_bind (wpAny_field hz rfl (x:=.ref TO) rfl (wpAny_bind (wpAny_setField_rec hz (by simp) fun g1 hz1 s1=>?_)))))
 replace hz1:IsZip g1 z TI TO .ellipsis:=hz1
 refine wpAny_bind ?_
 simp only[List.zipIdx_cons,List.zipIdx_nil,List.forIn_cons,List.forIn_nil]
 cases hx:xs[n1]? with
 |none=>
  refine wpAny_bind (wpAny_bind (wpAny_onRaise (wpAny_bind (m:=Builtin.SmallTypes.nextOf (.ref i1)) (JmO hh (h1.ext s1 D.i1z) (hl1.ext s1 D.l1z) hx fun g2 e s2 he=>?_))))
  obtain⟨oe,hoe,hce⟩:=he
  have z2:IsZip g2 z TI TO .ellipsis:=s2 _ _ D.i1z.symm hz1
  have hez:e≠z:=fun x=>by subst x;rw[z2] at hoe;cases hoe;simp at hce
  refine wpAny_setField_rec z2 (by simp) fun g3 _ s3=>hE g3 e (fun c o c1 _ c3 _ x=>s3.extBut _ _ c1 (s2 _ _ c3 (s1.extBut _ _ c1 x))) ⟨oe,s3.extBut _ _ hez hoe,hce⟩
 |some x=>
  have hy:ys[n2]? =none:=by rcases hend with h|h;rw[hx] at h;cases h;exact h
  refine wpAny_bind (wpAny_bind (wpAny_onRaise (wpAny_bind (m:=Builtin.SmallTypes.nextOf (.ref i1)) (JgX (h1.ext s1 D.i1z) (hl1.ext s1 D.l1z) hx fun g2 q2 s2=>wpAny_pure ?_))))
  have t2:IsPair g2 TO a b:=s2.extBut _ _ D.TOi1 (s1.extBut _ _ D.TOz hTO)
  refine wpAny_bind (wpAny_seqItems t2 rfl (wpAny_bind (wpAny_updateSeq_pair t2 fun g3 t3 s3=>(wpAny_bind (wpAny_letGo (wpAny_pure ?_))))))
  refine wpAny_bind (wpAny_bind (wpAny_onRaise (wpAny_bind (m:=Builtin.SmallTypes.nextOf (.ref i2)) (JmO hh (((h2.ext s1 D.i2z).ext s2 D.i12.symm).ext s3 D.TOi2.symm) (((hl2.ext s1 D.l2z).ext s2 D.l2i1).ext s3 D.l2TO) hy fun g4 e s4 he=>?_))))
  obtain⟨oe,hoe,hce⟩:=he
  have z4:IsZip g4 z TI TO .ellipsis:=s4 _ _ D.i2z.symm (s3.extBut _ _ D.TOz.symm (s2.extBut _ _ D.i1z.symm hz1))
  have hez:e≠z:=fun x=>by subst x;rw[z4] at hoe;cases hoe;simp at hce
  refine wpAny_setField_rec z4 (by simp) fun g5 _ s5=>hE g5 e (fun c o c1 c2 c3 c4 x=>s5.extBut _ _ c1 (s4 _ _ c4 (s3.extBut _ _ c2 (s2.extBut _ _ c3 (s1.extBut _ _ c1 x))))) ⟨oe,s5.extBut _ _ hez hoe,hce⟩
theorem Jo8 {k1 k2:Knd} {z TI TO i1 i2 l1 l2:Addr} {n1 n2:Nat} {xs ys:Array Value} {x y a b:Value} {Q:Option Value→Shared→Prop} (D:ZipApart z TI TO i1 i2 l1 l2)
  (hz:IsZip s.heap z TI TO .none) (hTI:IsPair s.heap TI (.ref i1) (.ref i2)) (hTO:IsPair s.heap TO a b) (h1:US k1 s.heap i1 l1 n1) (h2:US k2 s.heap i2 l2 n2) (hl1:JaQ k1 s.heap l1 xs) (hl2:JaQ k2 s.heap l2 ys) (hx:xs[n1]? =some x) (hy:ys[n2]? =some y)
  (hQ:∀h',IsZip h' z TI TO (rawInt s.heap.objs.size)→IsPair h' TO x y→US k1 h' i1 l1 (n1+1)→US k2 h' i2 l2 (n2+1)→IsPair h' s.heap.objs.size x y→h'.objs.size=s.heap.objs.size+1→
   (∀c o,c≠z→c≠TO→c≠i1→c≠i2→s.heap.get? c=some o→h'.get? c=some o)→Q (some (.ref s.heap.objs.size)) {s with heap:=h'}):wpAny (model prog w) A (pyNext (.ref z)) Q E s:=by
 have hT:s.TypeIs (.ref z) "zip":=⟨_,hz,rfl⟩
 unfold pyNext
 exact wpAny_bind (wpAny_attempt (wpAny_callSpecial?_slot (name:=Str.ofString "__next__") hT F.slot_zip_next (wpAny_call_entry F.slot_zip_next hT F.entry_zip_next (JrV D hz hTI hTO h1 h2 hl1 hl2 hx hy fun h' a1 a2 a3 a4 a5 a6 a7=>wpAny_pure (hQ h' a1 a2 a3 a4 a5 a6 a7)) (F.args_zip_next_1 _))))
theorem Jqs {k1 k2:Knd} {z TI TO i1 i2 l1 l2:Addr} {n1 n2:Nat} {xs ys:Array Value} {a b:Value} {Q:Option Value→Shared→Prop} (hh:A.handled=none) (D:ZipApart z TI TO i1 i2 l1 l2)
  (hz:IsZip s.heap z TI TO .none) (hTI:IsPair s.heap TI (.ref i1) (.ref i2)) (hTO:IsPair s.heap TO a b) (h1:US k1 s.heap i1 l1 n1) (h2:US k2 s.heap i2 l2 n2) (hl1:JaQ k1 s.heap l1 xs) (hl2:JaQ k2 s.heap l2 ys) (hend:xs[n1]? =none∨ys[n2]? =none)
  (hQ:∀h',(∀c o,c≠z→c≠TO→c≠i1→c≠i2→s.heap.get? c=some o→h'.get? c=some o)→Q none {s with heap:=h'}):wpAny (model prog w) A (pyNext (.ref z)) Q E s:=by
 have hT:s.TypeIs (.ref z) "zip":=⟨_,hz,rfl⟩
 unfold pyNext
 refine wpAny_bind (wpAny_attempt (wpAny_callSpecial?_slot (name:=Str.ofString "__next__") hT F.slot_zip_next (wpAny_call_entry F.slot_zip_next hT F.entry_zip_next (Js3 hh D hz hTI hTO h1 h2 hl1 hl2 hend fun h' e hk he=>?_) (F.args_zip_next_1 _))))
 obtain⟨o,ho,hc⟩:=he
 exact wpAny_bind (wpAny_isInstance (T:="StopIteration") (b:=true) ⟨o,ho,hc⟩ isSubtype_stop (wpAny_pure (hQ _ hk)))
end
noncomputable abbrev zH1 (k:Knd) (h:Heap) (l1:Addr):Heap:=h.push {cls:=.type (cn k),data:=.fields #[.ref l1,.int 0 0]}
noncomputable abbrev zH2 (k k':Knd) (h:Heap) (l1 l2:Addr):Heap:=(zH1 k h l1).push {cls:=.type (cn k'),data:=.fields #[.ref l2,.int 0 0]}
noncomputable abbrev zH3 (k k':Knd) (h:Heap) (l1 l2:Addr):Heap:=(zH2 k k' h l1 l2).push {cls:=.type "tuple",data:=.seq #[.ref h.objs.size,.ref (zH1 k h l1).objs.size]}
noncomputable abbrev zH4 (k k':Knd) (h:Heap) (l1 l2:Addr):Heap:=(zH3 k k' h l1 l2).push {cls:=.type "tuple",data:=.seq #[.none,.none]}
noncomputable abbrev zH5 (k k':Knd) (h:Heap) (l1 l2:Addr):Heap:=(zH4 k k' h l1 l2).push {cls:=.type "zip",data:=.fields #[.none,.bool false,.bool false,.ref (zH2 k k' h l1 l2).objs.size,.ref (zH3 k k' h l1 l2).objs.size]}
theorem Jst (k k':Knd) (l1 l2:Addr) (xs ys:Array Value):
  Meets (Builtin.«zip.__new__» ⟨[.type "zip",.ref l1,.ref l2],[]⟩) (fun _ R s=>JaQ k s.heap l1 xs∧JaQ k' s.heap l2 ys∧R (.ok (.ret (.ref (zH4 k k' s.heap l1 l2).objs.size))) {s with heap:=zH5 k k' s.heap l1 l2}):=
 .of_wp fun prog w A R s h=>by
  obtain⟨hp,g,d,tk,os⟩:=s;obtain⟨hl1,hl2,h⟩:=h
  have hsub:=sub_zip
  have a1:JaQ k (Shared.heap ⟨hp,g,d,tk,os⟩) l1 xs:=hl1
  have a2:JaQ k' (Shared.heap ⟨hp.push {cls:=.type (cn k),data:=.fields #[.ref l1,.int 0 0]},g,d,tk,os⟩) l2 ys:=JaQ.at' hl2 fun o e=>Heap.get?_push_of_some _ e
  wp_walk using Jpx a1,Jpx a2
  exact⟨_,rfl,h⟩
section
variable {prog:Program} {w:World} {A:Around} {E:Value→Shared→Prop} {s:Shared}
theorem JsO {k k':Knd} {l1 l2:Addr} {xs ys:Array Value} {Q:Value→Shared→Prop} (hl1:JaQ k s.heap l1 xs) (hl2:JaQ k' s.heap l2 ys)
  (h:∀h',IsZip h' (s.heap.objs.size+4) (s.heap.objs.size+2) (s.heap.objs.size+3) .none→IsPair h' (s.heap.objs.size+2) (.ref s.heap.objs.size) (.ref (s.heap.objs.size+1))→
   IsPair h' (s.heap.objs.size+3) .none .none→US k h' s.heap.objs.size l1 0→US k' h' (s.heap.objs.size+1) l2 0→h'.objs.size=s.heap.objs.size+5→
   (∀c o,s.heap.get? c=some o→h'.get? c=some o)→Q (.ref (s.heap.objs.size+4)) {s with heap:=h'}):wpAny (model prog w) A (call (.type "zip") [.ref l1,.ref l2]) Q E s:=by
 refine callType_new F.called_zip (by decide) (F.typeCall_zip_2 _ _) (F.newCall_zip_2 _ _) (fun obj=>F.args_object_init_3 obj _ _) F.entry_zip_new (Jst k k' l1 l2 xs ys) ⟨hl1,hl2,?_⟩
 have z1:(zH1 k s.heap l1).objs.size=s.heap.objs.size+1:=Heap.size_push ..
 have z2:(zH2 k k' s.heap l1 l2).objs.size=s.heap.objs.size+2:=by rw[Heap.size_push,z1]
 have z3:(zH3 k k' s.heap l1 l2).objs.size=s.heap.objs.size+3:=by rw[Heap.size_push,z2]
 have z4:(zH4 k k' s.heap l1 l2).objs.size=s.heap.objs.size+4:=by rw[Heap.size_push,z3]
 have z5:(zH5 k k' s.heap l1 l2).objs.size=s.heap.objs.size+5:=by rw[Heap.size_push,z4]
 have g5:(zH5 k k' s.heap l1 l2).get? (zH4 k k' s.heap l1 l2).objs.size=some _:=Heap.get?_push_size _ rfl
 have g4:(zH5 k k' s.heap l1 l2).get? (zH3 k k' s.heap l1 l2).objs.size=some _:=Heap.get?_push_of_some _ (Heap.get?_push_size _ rfl)
 have g3:(zH5 k k' s.heap l1 l2).get? (zH2 k k' s.heap l1 l2).objs.size=some _:=Heap.get?_push_of_some _ (Heap.get?_push_of_some _ (Heap.get?_push_size _ rfl))
 have g2:(zH5 k k' s.heap l1 l2).get? (zH1 k s.heap l1).objs.size=some _:=Heap.get?_push_of_some _ (Heap.get?_push_of_some _ (Heap.get?_push_of_some _ (Heap.get?_push_size _ rfl)))
 have g1:(zH5 k k' s.heap l1 l2).get? s.heap.objs.size=some _:=Heap.get?_push_of_some _ (Heap.get?_push_of_some _ (Heap.get?_push_of_some _ (Heap.get?_push_of_some _ (Heap.get?_push_size _ rfl))))
 show _∧_
 rw[z2,z3,z4] at g5
 rw[z1,z2] at g3
 rw[z3] at g4
 rw[z1] at g2
 rw[z4]
 exact⟨⟨_,g5,rfl⟩,h _ g5 g3 g4 ⟨_,g1,rfl,rfl⟩ ⟨_,g2,rfl,rfl⟩ z5 fun c o x=>Heap.get?_push_of_some _ (Heap.get?_push_of_some _ (Heap.get?_push_of_some _ (Heap.get?_push_of_some _ (Heap.get?_push_of_some _ x))))⟩
end
end ZZ
namespace L2
open PySem PySem.Spec PyProof.Rows ZZ
noncomputable def SqK:Knd→PySem.W.Frag→Hp→Addr→List V→Prop
 | .lst,K,H,a,xs=>SqL K H a xs
 | .tup,K,H,a,xs=>SqT K H a xs
theorem Jg.seqT {K:PySem.W.Frag} {H H':Hp} {a:Addr} {xs:List V} (e:Jg H H') (h:SqT K H a xs):SqT K H' a xs:=by
 rcases h with(h|⟨o,h⟩)|h
 ·exact .inl (.inl (e _ _ h))
 ·exact .inl (.inr ⟨o,e _ _ h⟩)
 ·exact .inr h
theorem Jg.seqK {k:Knd} {K:PySem.W.Frag} {H H':Hp} {a:Addr} {xs:List V} (e:Jg H H') (h:SqK k K H a xs):SqK k K H' a xs:=by
 cases k with
 |lst=>exact e.seq h
 |tup=>exact e.seqT h
theorem Inv.seqK {X:Cx} {pins:List (Addr×Obj)} {σ:St} {H:Hp} {s:Shared} {k:Knd} {a:Addr} {xs:List V} (I:Inv X pins σ H s) (h:SqK k X.K H a xs):∃its:List Value,JY xs its∧JaQ k s.heap a its.toArray∧xs.length≤sizeLine:=by
 cases k with
 |lst=>obtain⟨its,r,p,z⟩:=I.list h;exact⟨its,r,p.isList,z⟩
 |tup=>obtain⟨its,r,p,z⟩:=I.tuple h;exact⟨its,r,p,z⟩
theorem Inv.seqK_inj {X:Cx} {pins:List (Addr×Obj)} {σ:St} {H:Hp} {s:Shared} {k:Knd} {a:Addr} {xs ys:List V} (I:Inv X pins σ H s) (h:SqK k X.K H a xs) (h':SqK k X.K H a ys):xs=ys:=by
 cases k with
 |lst=>exact I.list_inj h h'
 |tup=>exact I.tuple_inj h h'
noncomputable def Jec (k k':Knd) (K:PySem.W.Frag) (a b:Addr):It:=
 ⟨fun i H=>∃(xs ys:List V) (x y:V),SqK k K H a xs∧SqK k' K H b ys∧xs[i]? =some x∧ys[i]? =some y,
  fun i H v H'=>∃T x y,v=.ref T∧H T=none∧H'=upd H T (.tup [x,y])∧(∀xs,SqK k K H a xs→xs[i]? =some x)∧∀ys,SqK k' K H b ys→ys[i]? =some y,
  fun i H=>∃xs ys:List V,SqK k K H a xs∧SqK k' K H b ys∧(xs.length≤i∨ys.length≤i)⟩
theorem Jr2 {P:Program} {w:World} {K:PySem.W.Frag} {elts:List Expr} {kk:Nat} {tpos:Pos} {k k':Knd} {a b z TI TO i1 i2:Addr} (D:ZipApart z TI TO i1 i2 a b):
  JpO P w K (.Tuple elts kk tpos) (Jec k k' K a b) [z,TI,TO,i1,i2] z (fun i h=>IsZip h z TI TO .none∧IsPair h TI (.ref i1) (.ref i2)∧(∃x y,IsPair h TO x y)∧US k h i1 a i∧US k' h i2 b i) where
 mem:=by simp
 obj:=fun i h st c hc=>by
  obtain⟨hz,hTI,⟨x,y,hTO⟩,⟨o1,e1,_,d1⟩,⟨o2,e2,_,d2⟩⟩:=st
  have e':c=z∨c=TI∨c=TO∨c=i1∨c=i2:=by simpa using hc
  rcases e' with q|q|q|q|q
  ·rw[q];exact⟨_,hz,fun v q=>nomatch q⟩
  ·rw[q];exact⟨_,hTI,fun v q=>nomatch q⟩
  ·rw[q];exact⟨_,hTO,fun v q=>nomatch q⟩
  ·rw[q];exact⟨o1,e1,fun v q=>by rw[d1] at q;cases q⟩
  ·rw[q];exact⟨o2,e2,fun v q=>by rw[d2] at q;cases q⟩
 keep:=fun i h h' st q=>by
  obtain⟨hz,hTI,⟨x,y,hTO⟩,h1,h2⟩:=st
  exact⟨q z (by simp) _ hz,q TI (by simp) _ hTI,⟨x,y,q TO (by simp) _ hTO⟩,h1.at' fun o r=>q i1 (by simp) o r,h2.at' fun o r=>q i2 (by simp) o r⟩
 item:=by
  intro X hP hw hK hc i pins s σ H E I hf st hg
  subst hP hw hK
  obtain⟨hz,hTI,⟨x0,y0,hTO⟩,h1,h2⟩:=st
  obtain⟨xs,ys,x,y,hqx,hqy,hx,hy⟩:=hg
  obtain⟨its,rv,p,_⟩:=I.seqK hqx
  obtain⟨its2,rv2,p2,_⟩:=I.seqK hqy
  obtain⟨u,hu,ru⟩:=rv.get hx
  obtain⟨u2,hu2,ru2⟩:=rv2.get hy
  have hzl:z<s.heap.objs.size:=Heap.lt_size hz
  refine Jo8 D hz hTI hTO h1 h2 p p2 (x:=u) (y:=u2) (by simpa using hu) (by simpa using hu2) fun h' z' TO' h1' h2' hT hsz hk=>?_
  refine⟨_,rfl,wpAny_letOwnedTupleGo_zip (s:={s with heap:=h'}) z' fun h'' z'' sb=>?_⟩
  have hT2:h''.get? s.heap.objs.size=some {cls:=.type "tuple",data:=.seq #[u,u2]}:=(sb.2 _ (Nat.ne_of_gt hzl)).trans hT
  have new:YZ X.prog X.w (upd H s.heap.objs.size (.tup [x,y])) h'' s.heap.objs.size (.tup [x,y]):=⟨by show 2≤sizeLine;decide,[u,u2],.cons ru (.cons ru2 .nil),⟨_,hT2,rfl,_,rfl⟩⟩
  have I1:Inv X pins σ (upd H s.heap.objs.size (.tup [x,y])) {s with heap:=h''}:=
   I.turnedNew (t':=s.toks) (ch:=[z,TI,TO,i1,i2]) (fun c o hb q=>(sb.2 c (fun q'=>hb (by simp[q']))).trans (hk c o (fun q'=>hb (by simp[q'])) (fun q'=>hb (by simp[q'])) (fun q'=>hb (by simp[q'])) (fun q'=>hb (by simp[q'])) q)) hf (Nat.le_refl _) new
  refine⟨.ref s.heap.objs.size,_,I1,rfl,⟨_,x,y,rfl,I.hok.fresh (Nat.le_refl _),rfl,fun l hl=>by rw[I.seqK_inj hl hqx];exact hx,fun l hl=>by rw[I.seqK_inj hl hqy];exact hy⟩,⟨z'',?_,⟨u,u2,?_⟩,?_,?_⟩,fun c hcm=>?_⟩
  ·exact(sb.2 _ D.TIz).trans (hk _ _ D.TIz D.TITO D.TIi1 D.TIi2 hTI)
  ·exact(sb.2 _ D.TOz).trans TO'
  ·exact h1'.at' fun o q=>(sb.2 _ D.i1z).trans q
  ·exact h2'.at' fun o q=>(sb.2 _ D.i2z).trans q
  ·have hlt:c<s.heap.objs.size:=by
    have e':c=z∨c=TI∨c=TO∨c=i1∨c=i2:=by simpa using hcm
    rcases e' with q|q|q|q|q
    ·rw[q];exact hzl
    ·rw[q];exact Heap.lt_size hTI
    ·rw[q];exact Heap.lt_size hTO
    ·rw[q];obtain⟨_,e1,_⟩:=h1;exact Heap.lt_size e1
    ·rw[q];obtain⟨_,e2,_⟩:=h2;exact Heap.lt_size e2
   rw[Jh (Nat.ne_of_lt hlt)]
   exact(hf c hcm).1
 done:=by
  intro X hP hw hK hc i pins s σ H E I hf st hg
  subst hP hw hK
  obtain⟨hz,hTI,⟨x0,y0,hTO⟩,h1,h2⟩:=st
  obtain⟨xs,ys,hqx,hqy,hend⟩:=hg
  obtain⟨its,rv,p,_⟩:=I.seqK hqx
  obtain⟨its2,rv2,p2,_⟩:=I.seqK hqy
  have l1:=rv.length
  have l2:=rv2.length
  have he:its.toArray[i]? =none∨its2.toArray[i]? =none:=by
   rcases hend with q|q
   ·exact .inl (by simp;omega)
   ·exact .inr (by simp;omega)
  exact Jqs (I.ok.hd hc) D hz hTI hTO h1 h2 p p2 he fun h' hk=>⟨rfl,I.turnedL (t':=s.toks) (ch:=[z,TI,TO,i1,i2]) (fun c o hb q=>
   hk c o (fun q'=>hb (by simp[q'])) (fun q'=>hb (by simp[q'])) (fun q'=>hb (by simp[q'])) (fun q'=>hb (by simp[q'])) q) hf⟩
 self:=fun A i s Q E st h=>wpAny_pyIter_zip st.1 h
noncomputable def JwW (k k':Knd) (K:PySem.W.Frag) (ta:TA):TI:=fun σ H R=>ta σ H fun vs H1=>∃a b xs ys,vs=[.ref a,.ref b]∧SqK k K H1 a xs∧SqK k' K H1 b ys∧R (Jec k k' K a b) H1
theorem Uu (k k':Knd) (K:PySem.W.Frag) {X:Cx} {e e2:Expr} {ta:TA} {p pos tpos:Pos} {elts:List Expr} {kk:Nat} (hK:X.K=K) (hg:Gl X "zip") (hm:X.mg "zip"=none) (ha:PA X [e,e2] ta)
  (hs:starEach [e,e2] X.env=(false,eval e X.env)::starEach [e2] X.env:=by rfl) (hpl:(backTo pos (starEach [e2] X.env)).any (·.1)=false:=by rfl):
  PI X (.Tuple elts kk tpos) (.Call (.Name "zip" p) [e,e2] [] pos) (JwW k k' K ta):=by
 subst hK
 intro pins s σ H R I h
 refine Call_ (Jg1 I hg hm JsV (PyProof.Rows.callWith_type1 (thn (ha pos pins s σ H _ I h) fun us s1 ⟨vs,H1,I1,r1,q1⟩=>?_) hs hpl))
 obtain⟨a,b,xs,ys,ex,hqx,hqy,q⟩:=q1
 subst ex
 cases r1 with
 |cons r rr=>
  cases rr with
  |cons r' rr=>
   cases rr
   cases r
   cases r'
   obtain⟨its,rv,p1,_⟩:=I1.seqK hqx
   obtain⟨its2,rv2,p2,_⟩:=I1.seqK hqy
   have ltk:∀{k:Knd} {l:Addr} {zs:Array Value},JaQ k s1.heap l zs→l<s1.heap.objs.size:=fun {k l zs} h=>by
    cases k with
    |lst=>obtain⟨_,e,_⟩:=h;exact Heap.lt_size e
    |tup=>obtain⟨_,e,_⟩:=h;exact Heap.lt_size e
   refine JsO p1 p2 fun h' hz hTI hTO h1 h2 hsz hk=>wpAny_pyIter_zip hz ?_
   have I2:Inv X pins σ H1 {s1 with heap:=h'}:=I1.kept (t':=s1.toks) hk
   refine⟨s1.heap.objs.size+4,[s1.heap.objs.size+4,s1.heap.objs.size+2,s1.heap.objs.size+3,s1.heap.objs.size,s1.heap.objs.size+1],_,_,H1,rfl,I2,Jr2 (PySem.W.ktu_apart s1.heap.objs.size a b (ltk p1) (ltk p2)),⟨hz,hTI,⟨_,_,hTO⟩,h1,h2⟩,fun c hcm=>?_,q⟩
   have e':c=s1.heap.objs.size+4∨c=s1.heap.objs.size+2∨c=s1.heap.objs.size+3∨c=s1.heap.objs.size∨c=s1.heap.objs.size+1:=by simpa using hcm
   have hle:s1.heap.objs.size≤c:=by
    rcases e' with z|z|z|z|z
    ·rw[z];exact Nat.le_add_right _ _
    ·rw[z];exact Nat.le_add_right _ _
    ·rw[z];exact Nat.le_add_right _ _
    ·rw[z];exact Nat.le_refl _
    ·rw[z];exact Nat.le_add_right _ _
   exact I1.fpOk hle (I1.hok.fresh hle)
theorem Je9 {k k':Knd} {K:PySem.W.Frag} {a b:Addr} {xs ys:List V} {g:TG} {tb:TS} {D:JlQ} {σ:St} {H:Hp} (hxy:xs.length=ys.length) (Pv:Nat→St→Hp→Prop) (h0:Pv 0 σ H) (hl:∀i σ H,i≤xs.length→Pv i σ H→SqK k K H a xs∧SqK k' K H b ys)
  (hs:∀i x y T σ H,xs[i]? =some x→ys[i]? =some y→H T=none→Pv i σ H→g (.ref T) σ (upd H T (.tup [x,y])) fun σ2 H2=>tb {D with nx:=Pv (i+1),ct:=Pv (i+1),bk:=D.nx} σ2 H2) (hd:∀σ H,Pv xs.length σ H→D.nx σ H):
  ∃W:Nat→Nat→St→Hp→Prop,(∃m,W 0 m σ H)∧∀i m σ H,W i m σ H→
   ((Jec k k' K a b).stop i H∧D.nx σ H)∨((Jec k k' K a b).go i H∧∃N:St→Hp→Prop,(∀σ' H',N σ' H'→∃m',m'<m∧W (i+1) m' σ' H')∧∀x H',(Jec k k' K a b).yld i H x H'→g x σ H' fun σ2 H2=>tb {D with nx:=N,ct:=N,bk:=D.nx} σ2 H2):=by
 refine⟨fun i m σ H=>m=xs.length-i∧i≤xs.length∧Pv i σ H,⟨xs.length,by simp,Nat.zero_le _,h0⟩,?_⟩
 rintro i m σ H ⟨rfl,hi,p⟩
 obtain⟨q1,q2⟩:=hl i σ H hi p
 by_cases hlt:i<xs.length
 ·have hlt2:i<ys.length:=by omega
  refine .inr ⟨⟨xs,ys,xs[i],ys[i],q1,q2,by simp[hlt],by simp[hlt2]⟩,Pv (i+1),fun σ' H' p'=>⟨xs.length-(i+1),by omega,rfl,hlt,p'⟩,fun x H' y=>?_⟩
  obtain⟨T,x',y',rfl,hT,rfl,h1,h2⟩:=y
  exact hs i x' y' T σ H (h1 xs q1) (h2 ys q2) hT p
 ·have e:i=xs.length:=by omega
  subst e
  exact .inl ⟨⟨xs,ys,q1,q2,.inl (Nat.le_refl _)⟩,hd σ H p⟩
theorem Yr {k k':Knd} {K:PySem.W.Frag} {a b:Addr} {xs ys:List V} {H1:Hp} (h:SqK k K H1 a xs) (h':SqK k' K H1 b ys) (e:xs.length=ys.length):∀i H,i<xs.length→Jg H1 H→(Jec k k' K a b).go i H:=fun i H hi s=>⟨xs,ys,xs[i],ys[i]'(by omega),s.seqK h,s.seqK h',List.getElem?_eq_getElem hi,List.getElem?_eq_getElem (by omega)⟩
theorem Ut {k k':Knd} {K:PySem.W.Frag} {a b:Addr} {xs ys:List V} {H1:Hp} (h:SqK k K H1 a xs) (h':SqK k' K H1 b ys):∀H,Jg H1 H→(Jec k k' K a b).stop xs.length H:=fun H s=>⟨xs,ys,s.seqK h,s.seqK h',.inl (Nat.le_refl _)⟩
end L2
namespace L2
open PySem PySem.Spec PyProof.Rows ZZ
section
variable {X:Cx} (K:PySem.W.Frag)
noncomputable def JvA (K:PySem.W.Frag):List V→Hp→VK→Prop:=fun xs H Q=>∃(p:Addr) (bs:List Bool),xs=[.ref p]∧SqL K H p (bs.map V.bl)∧Q (.bl (bs.all id)) H
theorem Jqr:∀bs:List Bool,((List.range bs.length).all fun i=>bs.getD i true)=bs.all id:=by
 intro bs
 rw[Bool.eq_iff_iff]
 simp only[List.all_eq_true,List.mem_range,id]
 constructor
 ·intro h b hb
  obtain⟨i,hi,e⟩:=List.mem_iff_getElem.mp hb
  have:=h i hi
  rw[List.getD_eq_getElem?_getD,List.getElem?_eq_getElem hi] at this
  rw[←e];exact this
 ·intro h i hi
  rw[List.getD_eq_getElem?_getD,List.getElem?_eq_getElem hi]
  exact h _ (List.getElem_mem hi)
theorem JsU (hc:X.calm=true):VV X (.builtin "all") (JvA X.K):=by
 intro pins s σ H xs us Q I r h
 obtain⟨p,bs,rfl,hq,q⟩:=h
 obtain⟨u,rfl,rx⟩:=JeF r
 cases rx
 obtain⟨its,rv,pl,hz⟩:=I.list hq
 have hl:=pl.isList
 have hlen:=rv.length
 rw[List.length_map] at hlen
 have hlt:p<s.heap.objs.size:=by obtain⟨_,e,_⟩:=hl;exact Heap.lt_size e
 refine call_all_walk (wpAny_pyIter_list hl ⟨_,_,_,_,_,_,fun i=>bs.getD i true,rfl,Walks.list (A:=X.A.in1) (I.ok.hd hc) _ p (Nat.ne_of_lt hlt) its.toArray,⟨⟨_,Heap.get?_push_size _ rfl,rfl,rfl⟩,hl.push _⟩,fun i v s' Q' E' hP hQ=>?_,fun h' tk hk=>?_⟩)
 ·have hP':its[i]? =some v:=by simpa using hP
  have hi:i<bs.length:=by rw[hlen];exact(List.getElem?_eq_some_iff.mp hP').1
  obtain⟨u,hu,ru⟩:=rv.get (i:=i) (x:=.bl bs[i]) (by rw[List.getElem?_map,List.getElem?_eq_getElem hi];rfl)
  rw[hP'] at hu
  cases ru
  cases hu
  dsimp only at hQ
  rw[List.getD_eq_getElem?_getD,List.getElem?_eq_getElem hi] at hQ
  exact wpAny_truthy_bool hQ
 ·rw[List.size_toArray,←hlen,Jqr]
  refine⟨.bl (bs.all id),H,I.kept fun b o e=>hk b o (fun hI=>?_) (Heap.get?_push_of_some _ e),rfl,q⟩
  have:=Heap.lt_size e
  rw[List.mem_singleton.mp hI] at this
  exact absurd this (Nat.lt_irrefl _)
theorem Jdy (h:X.K=K) (hc:X.calm=true):VV X (.builtin "all") (JvA K):=h▸JsU hc
noncomputable def Jq2 (a:Addr) (n:Nat):HO:=.ext fun h=>∃t u v,IsRange h a 0 n 1 t u v
theorem JpH:VV X (.type "range") (fun xs H Q=>∃n:Nat,xs=[.int n]∧∀a,H a=none→Q (.ref a) (upd H a (Jq2 a n))):=by
 intro pins s σ H xs us Q I r h
 obtain⟨n,rfl,q⟩:=h
 obtain⟨u,rfl,rx⟩:=JeF r
 obtain⟨t,rfl⟩:=rx
 refine call_range_1 ?_
 refine⟨.ref s.heap.objs.size,_,I.laid (o:=Jq2 s.heap.objs.size n) (fun b ob e=>Heap.get?_push_of_some _ e) (Nat.le_refl _) ⟨⟨_,_,_,Heap.get?_push_size _ rfl⟩,⟨_,Heap.get?_push_size _ rfl⟩,fun h1 h2 x k=>?_⟩,rfl,q _ (I.hok.fresh (Nat.le_refl _))⟩
 obtain⟨t,u,v,e⟩:=x
 exact⟨t,u,v,k _ e⟩
theorem Jrh {α:Type} (f:α→V):∀(l:List α) (its:List Value),l.length=its.length→(∀(i:Nat) a v,l[i]? =some a→its[i]? =some v→JX (f a) v)→JY (l.map f) its
 |[],[],_,_=>.nil
 |[],_::_,h,_=>by simp at h
 |_::_,[],h,_=>by simp at h
 |a::l,v::its,h,k=>.cons (k 0 a v rfl rfl) (Jrh f l its (by simpa using h) fun i b u e e'=>k (i+1) b u e e')
theorem JqV (hc:X.calm=true):VV X (.type "list") (fun xs H Q=>∃(a:Addr) (n:Nat),xs=[.ref a]∧H a=some (Jq2 a n)∧n≤100∧∀l,H l=none→Q (.ref l) (upd H l (.lst ((List.range n).map fun i:Nat=>V.int i)))):=by
 intro pins s σ H xs us Q I r h
 obtain⟨a,n,rfl,ha,hn,q⟩:=h
 obtain⟨u,rfl,rx⟩:=JeF r
 cases rx
 obtain⟨t,u,v,hR⟩:∃t u v,IsRange s.heap a 0 n 1 t u v:=(I.hok a _ ha).1
 refine call_list_range (n:=n) (I.ok.hd hc) hR (small_one (by omega) (by omega) (by omega) (by omega)) (by rw[rangeSize_one];split<;>omega) (by omega) fun h' tk acc c' hk hS hit=>?_
 have hv:JY ((List.range n).map fun i:Nat=>V.int i) acc.toList:=Jrh _ _ _ (by rw[List.length_range,Array.length_toList,hit.1]) fun i x y e e'=>by
  obtain⟨t',rfl⟩:=hit.2 i y (by simpa using e')
  have:x=i:=by
   have h3:=List.getElem?_eq_some_iff.mp e
   rw[←h3.2];simp
  subst this
  exact⟨t',by simp⟩
 refine⟨.ref s.heap.objs.size,_,I.laid (t':=tk) (o:=.lst ((List.range n).map fun i:Nat=>V.int i)) hk (Nat.le_refl _) ⟨?_,acc.toList,c',hv,by simpa using hS⟩,rfl,q _ (I.hok.fresh (Nat.le_refl _))⟩
 rw[List.length_map,List.length_range]
 exact Nat.le_trans hn (by decide)
noncomputable def JwC (K:PySem.W.Frag) (t:TE):TT:=fun σ H Q=>t σ H fun x H1=>∃a xs,x=.ref a∧SqL K H1 a xs∧Q (!xs.isEmpty) H1
theorem JuC {e:Expr} {t:TE} (hK:X.K=K) (h:PE X e t) (he:∀whole,isTrue e X.env whole=(do let v←whole;standAt e.pos;holding [v] (truthy v)):=by intro _;rfl):PT X e (JwC K t):=by
 subst hK
 intro pins s σ H Q I hw
 refine isTrue_plain (thn (h pins s σ H _ I hw) fun v s1 ⟨x,H1,I1,r1,q1⟩=>?_) (he _)
 obtain⟨a,xs,rfl,hx,q⟩:=q1
 exact JvN pins s1 σ H1 _ v Q I1 r1 ⟨_,.inl ⟨xs,hx,rfl⟩,q⟩
noncomputable def Jxq (k:Knd) (K:PySem.W.Frag):R2:=fun x y H Q=>∃p xs i v,x=.ref p∧y=.int i∧SqK k K H p xs∧atI xs i=some v∧Q v H
theorem JrD (k:Knd) (h:X.K=K):IxR X (Jxq k K):=by
 cases k with
 |lst=>exact Jpw K h
 |tup=>exact JrC K h
theorem Jpc {e:Expr} {ta:TA} {p pos tpos:Pos} {elts:List Expr} {kk:Nat} (hK:X.K=K) (hg:Gl X "enumerate") (hm:X.mg "enumerate"=none) (ha:PA X [e] ta) (hs:starEach [e] X.env=[(false,eval e X.env)]:=by rfl):
  PI X (.Tuple elts kk tpos) (.Call (.Name "enumerate" p) [e] [] pos) (JvE K ta):=by
 subst hK;exact JuF hg hm ha hs
end
theorem JtO {K:PySem.W.Frag} {a:Addr} {xs:List V} {H1:Hp} (h:SqL K H1 a xs):∀i H,i<xs.length→Jg H1 H→(Ite K a).go i H:=fun i H hi s=>⟨xs,xs[i],s.seq h,List.getElem?_eq_getElem hi⟩
theorem Jpy {K:PySem.W.Frag} {a:Addr} {xs:List V} {H1:Hp} (h:SqL K H1 a xs):∀H,Jg H1 H→(Ite K a).stop xs.length H:=fun H s=>⟨xs,s.seq h,Nat.le_refl _⟩
end L2
namespace ZE
open PySem PySem.Spec PyProof.Rows L2
open AutoSeq1 (wpAny_loadPart')
section
variable {prog:Program} {w:World} {A:Around} {E:Value→Shared→Prop} {s:Shared}
theorem JvL {α:Type} {M:Model} {c:Prop} [Decidable c] {a b:Sem α} {Q:α→Shared→Prop} (h1:c→wpAny M A a Q E s) (h2:¬c→wpAny M A b Q E s):wpAny M A (if c then a else b) Q E s:=by
 split
 ·exact h1 ‹_›
 ·exact h2 ‹_›
theorem Ju4 {self a:Value} {kw:List (Str×Value)}:Meets (Builtin.«object.__init__» ⟨[self,a],kw⟩) (fun _ R z=>z.TypeIs self "enumerate"∧R (.ok (.ret .none)) z):=by
 refine .of_wp fun _ _ _ _ _ hs=>?_
 obtain⟨hT,hq⟩:=hs
 have hl:=F.called_enumerate.init.lookup
 have hm:=F.called_enumerate.made
 have hne:(some "enumerate.__new__" !=some "object.__new__")=true:=by decide
 repeat (any_goals (first|assumption|wp_step))
 exact⟨_,rfl,hq⟩
theorem Jwb (l:Addr) (items:Array Value) (n:Nat) (dct:Option Addr) (sl:Array (Option Value)) (t:Tok):
  Meets (Builtin.«enumerate.__new__» ⟨[.type "enumerate",.ref l],[("start",.int 1 t)]⟩) (fun _ R z=>z.heap.get? l=some ⟨.type "list",dct,.seq items n,sl⟩∧
   R (.ok (.ret (.ref (z.heap.push {cls:=.type "list_iterator",data:=.fields #[.ref l,.int 0 0]}).objs.size)))
    {z with heap:=(z.heap.push {cls:=.type "list_iterator",data:=.fields #[.ref l,.int 0 0]}).push {cls:=.type "enumerate",data:=.fields #[.none,.bool false,.ref z.heap.objs.size,rawInt 1,.none,.none]}}):=by
 refine .of_wp fun _ _ _ _ z h=>?_
 obtain⟨hp,g,d,tk,os⟩:=z
 obtain⟨hl,h⟩:=h
 have hsub:=sub_enumerate
 have hL:Heap.IsList (Shared.heap ⟨hp,g,d,tk,os⟩) l items:=⟨_,hl,rfl,n,rfl⟩
 wp_walk using wpAny_loadPart' hl
 refine wpAny_stack_any fun st=>wpAny_pure ?_
 dsimp only
 refine JvL (fun _=>?_) (fun _=>?_)
 ·refine wpAny_bind (wpAny_of_eq (a:=(Value.ref l,some (Value.int 1 t))) (by kernel_rfl) ?_)
  wp_walk using wpAny_loadPart' hl,wpAny_pyIter_list hL
  exact⟨_,rfl,h⟩
 ·refine wpAny_bind (wpAny_of_eq (a:=(Value.ref l,some (Value.int 1 t))) (by kernel_rfl) ?_)
  wp_walk using wpAny_loadPart' hl,wpAny_pyIter_list hL
  exact⟨_,rfl,h⟩
theorem Jxx (a b:Value):checkTypeCall "enumerate" ⟨[a],[("start",b)]⟩=pure ():=by kernel_rfl
theorem Jxw (a b:Value):checkBuiltinCall "enumerate.__new__" ⟨[.type "enumerate",a],[("start",b)]⟩=pure ():=by kernel_rfl
theorem Jxv (o a b:Value):argsOk "object.__init__" ⟨[o,a],[("start",b)]⟩:=by unfold argsOk;kernel_rfl
theorem Jve {l:Addr} {items:Array Value} {t:Tok} {Q:Value→Shared→Prop} (hL:s.heap.IsList l items)
  (h:∀h',IsEnum h' (s.heap.objs.size+1) s.heap.objs.size 1 .none→h'.IsListIter s.heap.objs.size l 0→(∀b o,s.heap.get? b=some o→h'.get? b=some o)→Q (.ref (s.heap.objs.size+1)) {s with heap:=h'}):
  wpAny (model prog w) A (call (.type "enumerate") [.ref l] [("start",.int 1 t)]) Q E s:=by
 obtain⟨⟨c,dct,dt,sl⟩,hl,hc,n,hd⟩:=hL
 dsimp only at hc hd
 subst hc hd
 have hz:(s.heap.push {cls:=.type "list_iterator",data:=.fields #[.ref l,.int 0 0]}).objs.size=s.heap.objs.size+1:=Heap.size_push ..
 have he:IsEnum ((s.heap.push ⟨.type "list_iterator",none,.fields #[.ref l,.int 0 0],#[]⟩).push ⟨.type "enumerate",none,.fields #[.none,.bool false,.ref s.heap.objs.size,rawInt 1,.none,.none],#[]⟩) (s.heap.objs.size+1) s.heap.objs.size 1 .none:=by
  rw[←hz];exact Heap.get?_push_size _ rfl
 have fin:=h _ he ⟨_,Heap.get?_push_of_some _ (Heap.get?_push_size _ rfl),rfl,rfl⟩ fun b o x=>Heap.get?_push_of_some _ (Heap.get?_push_of_some _ x)
 have ft:=F.called_enumerate
 obtain⟨c,tl,hmro⟩:=ft.mro
 have hmade:=ft.made
 have hsub:=ft.sub
 have h1:=ft.notType
 have h2:=ft.canCreate
 have hct:=Jxx (.ref l) (.int 1 t)
 refine wpAny_call (codeAny_of_tree ?_)
 show wpAny _ _ (callAny (.type "enumerate") _) _ _ _
 refine wpAny_pure ⟨Code.quiet_builtin _ (by decide+kernel),codeAny_builtin F.entry_type_call ?_⟩
 rw[Around.under_plain (weight_type_call_type "enumerate" [.ref l] [("start",.int 1 t)]) (units_type_call_type "enumerate" [.ref l] [("start",.int 1 t)])]
 repeat (any_goals (first|assumption|wp_step))
 generalize hB:(s.heap.push ⟨.type "list_iterator",none,.fields #[.ref l,.int 0 0],#[]⟩).push ⟨.type "enumerate",none,.fields #[.none,.bool false,.ref s.heap.objs.size,rawInt 1,.none,.none],#[]⟩=hB' at he fin
 refine codeAny_mono (codeAny_call_builtin ft.plain F.entry_enumerate_new (wpAny_of_eq (Jxw _ _) (Jwb l items n dct sl t prog w A.in1 (wants (fun v z=>v=.ref (s.heap.objs.size+1)∧z={s with heap:=hB'}) E) s ⟨hl,by rw[hz,hB];exact⟨rfl,rfl⟩⟩))) fun r z hr=>?_
 cases r with
 |error e=>exact hr
 |ok fl=>
  cases fl with
  |ret obj=>
   obtain⟨rfl,rfl⟩:=hr
   have hT:Shared.TypeIs {s with heap:=hB'} (.ref (s.heap.objs.size+1)) "enumerate":=⟨_,he,rfl⟩
   have hli:=ft.init.lookup
   have hbi:=ft.init.bind (.ref (s.heap.objs.size+1))
   repeat (any_goals (first|assumption|wp_step))
   refine codeAny_mono (codeAny_call_builtin ft.init.plain F.entry_object_init (ft.init.check _ _ _ _ _ _ _ _ hT (Jxv _ _ _) (Ju4 prog w A.in1 (wants (fun v z=>v=.none∧z={s with heap:=hB'}) E) _ ⟨hT,rfl,rfl⟩))) fun r2 z2 hr2=>?_
   cases r2 with
   |error e=>exact hr2
   |ok fl2=>
    cases fl2 with
    |ret r=>
     obtain⟨rfl,rfl⟩:=hr2
     repeat (any_goals (first|assumption|wp_step))
    |_=>exact hr2.elim
  |_=>exact hr.elim
theorem Jt0 (hh:A.handled=none) (it l:Addr) (hne:l≠it) (items:Array Value):
  Draws prog w A it [it,l] (items.size+1) (fun i v=>items[i-1]? =some v) (fun i h=>∃j,i=j+1∧h.IsListIter it l j∧h.IsList l items) where
 live:=fun i h ⟨j,_,a,_⟩=>let⟨o,e,_⟩:=a;⟨o,e⟩
 frame:=fun i h h' ⟨j,e,st⟩ k=>⟨j,e,(Draws.list (prog:=prog) (w:=w) (A:=A) hh it l hne items).frame j h h' st k⟩
 item:=by
  intro i z Q E hi st hQ
  obtain⟨j,rfl,st⟩:=st
  exact(Draws.list (prog:=prog) (w:=w) (A:=A) hh it l hne items).item j z Q E (by omega) st fun x h' tk a b c=>hQ x h' tk a ⟨j+1,rfl,b⟩ c
 done:=by
  intro z Q E st hE
  obtain⟨j,e,st⟩:=st
  have:j=items.size:=by omega
  subst this
  exact(Draws.list (prog:=prog) (w:=w) (A:=A) hh it l hne items).done z Q E st hE
end
end ZE
namespace L2
open PySem PySem.Spec PyProof.Rows ZE
noncomputable def Juo (K:PySem.W.Frag) (a:Addr):It:=
 ⟨(Ite K a).go,fun i H v H'=>∃T x,v=.ref T∧H T=none∧H'=upd H T (.tup [.int ((i+1:Nat):Int),x])∧∀xs,SqL K H a xs→xs[i]? =some x,fun i H=>∃xs:List V,SqL K H a xs∧xs.length=i⟩
theorem Jp7 {P:Program} {w:World} {K:PySem.W.Frag} {elts:List Expr} {kk:Nat} {tpos:Pos} (a e it:Addr):
  JpO P w K (.Tuple elts kk tpos) (Juo K a) [e,it] e (fun i h=>(∃old,IsEnum h e it ((i+1:Nat):Int) old)∧h.IsListIter it a i∧e≠it∧e≠a∧a≠it) where
 mem:=List.mem_cons_self
 obj:=fun i h ⟨⟨old,he⟩,⟨o,ho,hc,hd⟩,_⟩ b hb=>by
  have e':b=e∨b=it:=by simpa using hb
  rcases e' with rfl|rfl
  ·exact⟨_,he,fun v q=>nomatch q⟩
  ·exact⟨o,ho,fun v q=>by rw[hd] at q;cases q⟩
 keep:=fun i h h' ⟨⟨old,he⟩,hi,hne⟩ k=>⟨⟨old,k e List.mem_cons_self _ he⟩,hi.at fun o q=>k it (by simp) o q,hne⟩
 item:=by
  intro X hP hw hK hc i pins s σ H E I hf st hg
  subst hP hw hK
  obtain⟨⟨old,he⟩,hit,hne,hea,hai⟩:=st
  obtain⟨xs,x,hq,hx⟩:=hg
  obtain⟨its,rv,p,hz⟩:=I.list hq
  obtain⟨u,hu,ru⟩:=rv.get hx
  have hel:=Heap.lt_size he
  have hil:it<s.heap.objs.size:=by obtain⟨_,q,_⟩:=hit;exact Heap.lt_size q
  have hi:i<its.length:=(List.getElem?_eq_some_iff.mp hu).1
  refine wpAny_pyNext_enum_itemD (Jt0 (A:=X.A.in1) (I.ok.hd hc) it a hai its.toArray) he ⟨i,rfl,hit,p.isList⟩ (by rw[List.size_toArray];omega) hne (by simp[hne,hea]) fun u' h' tk hu' ho st' hT hsz hk=>?_
  obtain⟨j,ej,hit',_⟩:=st'
  have ej':j=i+1:=by omega
  subst ej'
  have eu:u'=u:=by
   have:its[i]? =some u':=by simpa using hu'
   rw[hu] at this;exact(Option.some.inj this).symm
  subst eu
  refine⟨_,rfl,wpAny_letOwnedTupleGo_enum (s:={s with heap:=h',toks:=tk+1}) ho fun h'' he' sb=>?_⟩
  have hT2:=(sb.2 _ (Nat.ne_of_gt hel)).trans hT
  have new:YZ X.prog X.w (upd H s.heap.objs.size (.tup [.int ((i+1:Nat):Int),x])) h'' s.heap.objs.size (.tup [.int ((i+1:Nat):Int),x]):=
   ⟨by show 2≤sizeLine;decide,[_,u'],.cons ⟨_,rfl⟩ (.cons ru .nil),⟨_,hT2,rfl,_,rfl⟩⟩
  have kept:∀b ob,b∉[e,it]→s.heap.get? b=some ob→h''.get? b=some ob:=fun b ob hb q=>
   (sb.2 b (fun z=>hb (by simp[z]))).trans (hk b ob (fun z=>hb (by simp[z])) (fun z=>hb (by simp[z])) q)
  refine⟨.ref s.heap.objs.size,_,I.turnedNew (t':=tk+1) (ch:=[e,it]) kept hf (Nat.le_refl _) new,rfl,⟨_,x,rfl,I.hok.fresh (Nat.le_refl _),rfl,fun ys hy=>by rw[I.list_inj hy hq];exact hx⟩,⟨⟨u',?_⟩,hit'.at fun o q=>(sb.2 it (Ne.symm hne)).trans q,hne,hea,hai⟩,fun b hb=>?_⟩
  ·have e1:((i+1+1:Nat):Int)=((i+1:Nat):Int)+1:=by omega
   rw[e1];exact he'
  ·rw[Jh]
   ·exact(hf b hb).1
   ·have e':b=e∨b=it:=by simpa using hb
    rcases e' with rfl|rfl
    ·exact Nat.ne_of_lt hel
    ·exact Nat.ne_of_lt hil
 done:=by
  intro X hP hw hK hc i pins s σ H E I hf st hg
  subst hP hw hK
  obtain⟨⟨old,he⟩,hit,hne,hea,hai⟩:=st
  obtain⟨xs,hq,hx⟩:=hg
  obtain⟨its,rv,p,hz⟩:=I.list hq
  obtain⟨f0,f1,f2,f3,f4,f5⟩:=hf it (by simp)
  have hl:=rv.length
  have hi:i=its.length:=by rw[←hx,hl]
  subst hi
  exact wpAny_pyNext_enum_endD (Jt0 (A:=X.A.in1) (I.ok.hd hc) it a hai its.toArray) he ⟨its.length,by simp,hit,p.isList⟩ fun h' eb=>⟨rfl,I.turned (t':=s.toks) (fun b o hb q=>eb b o hb q) f0 f1 f3 f4 f5⟩
 self:=fun A i s Q E ⟨⟨_,he⟩,_⟩ h=>wpAny_pyIter_enum he h
noncomputable def Jwj (K:PySem.W.Frag) (ta tk:TA):TI:=fun σ H R=>ta σ H fun vs H1=>tk σ H1 fun zs H2=>∃a xs,vs=[.ref a]∧zs=[.int 1]∧SqL K H2 a xs∧R (Juo K a) H2
theorem Jtv (K:PySem.W.Frag) {X:Cx} {e e2:Expr} {ta tk:TA} {p pos tpos kpos:Pos} {elts:List Expr} {kk:Nat} (hK:X.K=K) (hg:Gl X "enumerate") (hm:X.mg "enumerate"=none) (ha:PA X [e] ta) (hkw:PK X [⟨some "start",e2,kpos⟩] tk)
  (hs:starEach [e] X.env=[(false,eval e X.env)]:=by rfl) (hk2:backToKw pos (keywordEach [⟨some "start",e2,kpos⟩] X.env)=[((some "start":Option Str),do let v←eval e2 X.env;standAt pos;pure v)]:=by rfl):
  PI X (.Tuple elts kk tpos) (.Call (.Name "enumerate" p) [e] [⟨some "start",e2,kpos⟩] pos) (Jwj K ta tk):=by
 subst hK
 intro pins s σ H R I h
 refine wpAny_Call_Name_kw (Jg1 I hg hm boot_enumerate ?_)
 have ha':=ha pos
 have hkw':=hkw pos
 rw[hs] at ha'⊢
 rw[hk2] at hkw'⊢
 refine PySem.W.callWith_of (P:=fun _=>True) rfl (fun _ _=>⟨.machine,.inr (.inl rfl),PySem.W.Looks.of_pure rfl⟩) (evalArgs_kwB rfl (thn (ha' pins s σ H _ I h) fun us s1 ⟨vs,H1,I1,r1,q1⟩=>thn (hkw' pins s1 σ H1 _ I1 q1) fun ws s2 ⟨zs,H2,I2,r2,q2⟩=>⟨trivial,?_⟩))
 obtain⟨a,xs,rfl,rfl,hq,q⟩:=q2
 obtain⟨u,rfl,ru⟩:=JeF r1
 obtain⟨u2,rfl,ru2⟩:=JeF r2
 cases ru
 obtain⟨t,rfl⟩:=ru2
 obtain⟨its,rv,p',hz⟩:=I2.list hq
 have hlt:a<s2.heap.objs.size:=by obtain⟨_,e,_⟩:=p'.isList;exact Heap.lt_size e
 refine Jve p'.isList fun h' he hit hk=>wpAny_pyIter_enum he ?_
 refine⟨s2.heap.objs.size+1,[s2.heap.objs.size+1,s2.heap.objs.size],_,_,H2,rfl,I2.kept (t':=s2.toks) hk,Jp7 a (s2.heap.objs.size+1) s2.heap.objs.size,⟨⟨.none,he⟩,hit,Nat.succ_ne_self _,Nat.ne_of_gt (Nat.lt_succ_of_lt hlt),Nat.ne_of_lt hlt⟩,fun b hb=>?_,q⟩
 have e':b=s2.heap.objs.size+1∨b=s2.heap.objs.size:=by simpa using hb
 have hle:s2.heap.objs.size≤b:=by
  rcases e' with rfl|rfl
  ·exact Nat.le_succ _
  ·exact Nat.le_refl _
 exact I2.fpOk hle (I2.hok.fresh hle)
theorem JsJ {K:PySem.W.Frag} {a:Addr} {xs:List V} {g:TG} {tb:TS} {D:JlQ} {σ:St} {H:Hp} (Pv:Nat→St→Hp→Prop) (h0:Pv 0 σ H) (hl:∀i σ H,i≤xs.length→Pv i σ H→SqL K H a xs)
  (hs:∀i x T σ H,xs[i]? =some x→H T=none→Pv i σ H→g (.ref T) σ (upd H T (.tup [.int ((i+1:Nat):Int),x])) fun σ2 H2=>tb {D with nx:=Pv (i+1),ct:=Pv (i+1),bk:=D.nx} σ2 H2) (hd:∀σ H,Pv xs.length σ H→D.nx σ H):
  ∃W:Nat→Nat→St→Hp→Prop,(∃m,W 0 m σ H)∧∀i m σ H,W i m σ H→
   ((Juo K a).stop i H∧D.nx σ H)∨((Juo K a).go i H∧∃N:St→Hp→Prop,(∀σ' H',N σ' H'→∃m',m'<m∧W (i+1) m' σ' H')∧∀x H',(Juo K a).yld i H x H'→g x σ H' fun σ2 H2=>tb {D with nx:=N,ct:=N,bk:=D.nx} σ2 H2):=by
 refine⟨fun i m σ H=>m=xs.length-i∧i≤xs.length∧Pv i σ H,⟨xs.length,by simp,Nat.zero_le _,h0⟩,?_⟩
 rintro i m σ H ⟨rfl,hi,p⟩
 have q:=hl i σ H hi p
 by_cases hlt:i<xs.length
 ·refine .inr ⟨⟨xs,xs[i],q,List.getElem?_eq_getElem hlt⟩,Pv (i+1),fun σ' H' p'=>⟨xs.length-(i+1),by omega,rfl,hlt,p'⟩,fun x H' y=>?_⟩
  obtain⟨T,v,rfl,hT,rfl,hy⟩:=y
  exact hs i v T σ H (hy xs q) hT p
 ·have e:i=xs.length:=by omega
  subst e
  exact .inl ⟨⟨xs,q,rfl⟩,hd σ H p⟩
end L2
namespace L2
open PySem PySem.Spec PyProof.Rows ZZ
structure Fx (K:PySem.W.Frag) (mg:Str→Option Value) (x q:Str) (st:Stmt) (f:Addr) (fd:FuncData) (ps:List Str):Prop where
 F:Fun K x q st f fd
 b:JcR K fd ps []
 m:mg x=some (.ref f)
structure Ix (K:PySem.W.Frag) (C:Addr) (q:Str) (st:Stmt) (f:Addr) (fd:FuncData) (ps:List Str):Prop where
 F:Fun K "__init__" q st f fd
 b:JcR K fd ps []
 md:Mk K C f
structure Mx (K:PySem.W.Frag) (C:Addr) (x q:Str) (st:Stmt) (f:Addr) (fd:FuncData) (ps:List Str):Prop where
 F:Fun K x q st f fd
 b:JcR K fd ps []
 me:Jwz K C x f
section
variable {X:Cx} {n k i:Nat} {f C:Addr} {fd:FuncData} {ps N:List Str} {sp:Sp} {x q m:Str} {st:Stmt} {p pos apos:Pos} {a b c e o:Expr} {es:List Expr} {ta tb tc te:TE} {t:TA} {v:V} {u:Value}
theorem cL (F:JF X.prog X.w X.K X.mg X.base CX0 k f fd ps sp) (hr:JaR n X.A) (D:Fx X.K X.mg x q st f fd ps) (ha:PA X (e::es) t) (hk:k≤n:=by decide) (hg:Gl X x:=by rfl) (hdb:(x==("__debug__":Str))=false:=by decide)
  (he:starEach (e::es) X.env=(false,eval e X.env)::starEach es X.env:=by rfl) (hpl:(backTo pos (starEach es X.env)).any (·.1)=false:=by rfl):PE X (.Call (.Name x p) (e::es) [] pos) (Jvw sp [] E0 t):=
 JuL F (hr.mono hk) hg D.m D.F.kp D.b .nil JbJ ha hdb he hpl
theorem mA (F:JF X.prog X.w X.K X.mg X.base CX0 k f fd ps sp) (hr:JaR n X.A) (D:Ix X.K C q st f fd ps) (hm:X.mg x=some (.ref C)) (ha:PA X (e::es) t) (hk:k+1≤n:=by decide) (hg:Gl X x:=by rfl) (hdb:(x==("__debug__":Str))=false:=by decide)
  (he:starEach (e::es) X.env=(false,eval e X.env)::starEach es X.env:=by rfl) (hpl:(backTo pos (starEach es X.env)).any (·.1)=false:=by rfl):PE X (.Call (.Name x p) (e::es) [] pos) (Jtf C sp [] E0 t):=
 JuI D.md F (hr.mono hk) hg hm D.b .nil JbJ ha hdb he hpl
theorem fL (K:PySem.W.Frag) {g:Str} (he:PE X e ta) (h:X.K=K:=by rfl) (hb:attributeBase e g X.env (eval e X.env)=eval e X.env:=by rfl):PE X (.Attribute e g pos) (Juu K ta g):=JuK K h he hb
theorem gL (h:∃u,X.mg x=some u∧JX v u) (hg:Gl X x:=by rfl) (hd:(x==("__debug__":Str))=false:=by decide):PE X (.Name x pos) (tC v):=JuJ hg h.choose_spec.1 h.choose_spec.2 hd
theorem iL (K:PySem.W.Frag) (ha:PE X a ta) (hb:PE X b tb) (h:X.K=K:=by rfl) (hs:Jom b:=by exact fun _ _=>rfl):PE X (.Subscript a b pos) (tOp (Jsq K) ta tb):=Jrt (Jpw K h) ha hb hs
theorem iT (K:PySem.W.Frag) (ha:PE X a ta) (hb:PE X b tb) (h:X.K=K:=by rfl) (hs:Jom b:=by exact fun _ _=>rfl):PE X (.Subscript a b pos) (tOp (JvY K) ta tb):=Jrt (JrC K h) ha hb hs
theorem sA (i:Nat) {pos':Pos} (hN:X.N.Nodup) (he:PE X e te) (hi:X.N[i]? =some x:=by rfl) (hx:Loc X.env.scope x:=by first|exact Or.inl rfl|exact Or.inr rfl) (hs:swapsWith e (some (.Name x pos')) pos.line X.env=pure false:=by rfl)
  (hf:X.fn x=true∨X.env.scope.names.lookup x=some .local:=by first|exact .inl rfl|exact .inr rfl):PS X (.Assign [.Name x pos'] e pos) (Jti te (JmX i)):=Jv0 hN hi hx he hs hf
theorem gA (i:Nat) (hN:X.N.Nodup) (hi:X.N[i]? =some x:=by rfl) (hx:Loc X.env.scope x:=by first|exact Or.inl rfl|exact Or.inr rfl) (hf:X.fn x=true∨X.env.scope.names.lookup x=some .local:=by first|exact .inl rfl|exact .inr rfl):PG X (.Name x pos) (JmX i):=JuH hN hi hx hf
theorem gB (K:PySem.W.Frag) {k:Nat} {t:TGs} (h:PGs X es t) (h':X.K=K:=by rfl) (hc:X.calm=true:=by rfl) (ha:(assignEach es X.env).length=2:=by rfl) (hst:(assignEach es X.env).findIdx? (·.1)=none:=by rfl):PG X (.Tuple es k pos) (Jwl K 2 t):=JuG K h' hc h ha hst
theorem lN (K:PySem.W.Frag) (hm:X.mg "len"=none) (ha:PA X (e::es) t) (h:X.K=K:=by rfl) (hg:Gl X "len":=by rfl) (he:starEach (e::es) X.env=(false,eval e X.env)::starEach es X.env:=by rfl) (hpl:(backTo pos (starEach es X.env)).any (·.1)=false:=by rfl):
  PE X (.Call (.Name "len" p) (e::es) [] pos) (tCB (JwO K) t):=JV (JsT K h) hg hm PySem.boot_len ha (by decide) (by decide) he hpl
noncomputable def blk (N:List Str) (sc scope:Scope) (own:List (Str×Nat)):Bool:=
 (match scope.kind with| .function=>true|_=>false)&&(scope.names.all (fun y=>scope.names.lookup y.1==some y.2)&&(own.all (fun p=>N[p.2]? ==some p.1)&&
  (scope.names.all (fun y=>!(y.2== .free)||(sc.names.lookup y.1==some .cell||sc.names.lookup y.1==some .free))&&scope.names.all (fun y=>!(y.2== .local||y.2== .cell)||((own.map (·.1)).contains y.1||!N.contains y.1)))))
theorem lK (N:List Str) (sc:Scope) {scope:Scope} {own:List (Str×Nat)} (h:blk N sc scope own=true):Jp1 N sc scope own:=by
 unfold blk at h
 simp only[Bool.and_eq_true,List.all_eq_true,beq_iff_eq,Bool.or_eq_true,Bool.not_eq_true'] at h
 obtain⟨h1,h2,h3,h4,h5⟩:=h
 refine⟨?_,h2,h3,fun y hy e=>?_,fun y hy e=>?_⟩
 ·cases hk:scope.kind<;>simp_all
 ·rcases h4 y hy with q|q
  ·rw[e] at q;simp at q
  ·exact q
 ·rcases h5 y hy with q|q|q
  ·rcases e with e|e<;>rw[e] at q<;>simp at q
  ·exact .inl (by simpa using q)
  ·exact .inr (by simpa using q)
noncomputable def scb (N P:List Str) (sc:Scope):Bool:=
 (match sc.kind with| .function=>true|_=>false)&&(!sc.isCoroutine&&(!sc.isGenerator&&(decide N.Nodup&&(N.take P.length==P&&(P.all (fun x=>sc.names.lookup x==some .local||sc.names.lookup x==some .cell)&&sc.names.all fun y=>!(y.2== .free))))))
theorem sK {N P:List Str} {sc:Scope} (h:scb N P sc=true):Ji N P sc:=by
 unfold scb at h
 simp only[Bool.and_eq_true,List.all_eq_true,beq_iff_eq,Bool.or_eq_true,Bool.not_eq_true',decide_eq_true_eq] at h
 obtain⟨h1,h2,h3,h4,h5,h6,h7⟩:=h
 refine⟨?_,h2,h3,h4,h5,h6,fun y hy e=>?_⟩
 ·cases hk:sc.kind<;>simp_all
 ·have:=h7 y hy
  rw[e] at this;simp at this
end
section
variable {w:World} {K:PySem.W.Frag} {h:Heap} {mg:Str→Option Value} {x qual:Str} {st:Stmt} {f C:Addr} {oc:Value} {od an:Option Addr} {osl:Array (Option Value)} {kV doc pm cdv ct:Value} {ps:List Str}
theorem Jw3 (X:K.In h) (G:h.Ns mainGlobals mg) (m:PySem.W.nsIn K mainGlobals x=some (some (.ref f))) (l:K.lookup f=some ⟨oc,od,.func (PySem.W.fnOf x qual (W1 st) (WB st) (Je st) .none kV doc pm an cdv ct),osl⟩) (hc:PySem.W.codeIn K cdv qual=true) (hk:PySem.W.keepIn K (.ref f)=true)
  (hb:∀(kV doc pm:Value) (an:Option Addr) (cdv ct:Value) (us:List Value),us.length=ps.length→bindArgs (PySem.W.fnOf x qual (W1 st) (WB st) (Je st) .none kV doc pm an cdv ct) ⟨us,[]⟩=pure (ps.zip us)):Fx K mg x qual st f (PySem.W.fnOf x qual (W1 st) (WB st) (Je st) .none kV doc pm an cdv ct) ps:=
 ⟨JiE l hc hk,(JiE l hc hk).binds hb,PySem.W.mg_of X G m⟩
theorem JwV (m:PySem.W.findIn K (.ref C) "__init__"=some (some (.ref f))) (i:PySem.W.isFn K (.ref f)=true) (ma:PySem.W.makesIn K C=true) (kc:PySem.W.keepIn K (.ref C)=true) (l:K.lookup f=some ⟨oc,od,.func (PySem.W.fnOf "__init__" qual (W1 st) (WB st) (Je st) .none kV doc pm an cdv ct),osl⟩) (hc:PySem.W.codeIn K cdv qual=true) (hk:PySem.W.keepIn K (.ref f)=true)
  (hb:∀(kV doc pm:Value) (an:Option Addr) (cdv ct:Value) (us:List Value),us.length=ps.length→bindArgs (PySem.W.fnOf "__init__" qual (W1 st) (WB st) (Je st) .none kV doc pm an cdv ct) ⟨us,[]⟩=pure (ps.zip us)):Ix K C qual st f (PySem.W.fnOf "__init__" qual (W1 st) (WB st) (Je st) .none kV doc pm an cdv ct) ps:=
 ⟨JiE l hc hk,(JiE l hc hk).binds hb,⟨ma,m,i,kc⟩⟩
theorem JwU (m:PySem.W.findIn K (.ref C) x=some (some (.ref f))) (i:PySem.W.isFn K (.ref f)=true) (l:K.lookup f=some ⟨oc,od,.func (PySem.W.fnOf x qual (W1 st) (WB st) (Je st) .none kV doc pm an cdv ct),osl⟩) (hc:PySem.W.codeIn K cdv qual=true) (hk:PySem.W.keepIn K (.ref f)=true)
  (hb:∀(kV doc pm:Value) (an:Option Addr) (cdv ct:Value) (us:List Value),us.length=ps.length→bindArgs (PySem.W.fnOf x qual (W1 st) (WB st) (Je st) .none kV doc pm an cdv ct) ⟨us,[]⟩=pure (ps.zip us)):Mx K C x qual st f (PySem.W.fnOf x qual (W1 st) (WB st) (Je st) .none kV doc pm an cdv ct) ps:=
 ⟨JiE l hc hk,(JiE l hc hk).binds hb,⟨m,i,hk⟩⟩
theorem Jw0 {v:Int} {t:Tok} (X:K.In h) (G:h.Ns mainGlobals mg) (e:PySem.W.nsIn K mainGlobals x=some (some (.int v t))):∃u,mg x=some u∧JX (.int v) u:=⟨_,PySem.W.mg_of X G e,_,rfl⟩
theorem JwZ (X:K.In h) (G:h.Ns mainGlobals mg) (e:PySem.W.nsIn K mainGlobals x=some (some (.ref f))):∃u,mg x=some u∧JX (.ref f) u:=⟨_,PySem.W.mg_of X G e,rfl⟩
theorem JwT (e:PySem.W.findIn K (.ref C) x=some none):JO K C x:=e
theorem JwB {its:Array Value} {n:Nat} {xs:List V} (l:K.lookup f=some ⟨.type "tuple",none,.seq its n,#[]⟩) (z:its.size≤sizeLine) (v:JY xs its.toList):UV K f xs:=⟨_,_,_,l,rfl,rfl,z,v⟩
theorem Jw5 {es:Array DictEntry} {n:Nat} {kvs:List (Key×V)} (l:K.lookup f=some ⟨.type "dict",none,.dict es n,#[]⟩) (z:(f==sysModules)=false) (v:Jid w es.toList kvs) (d:(kvs.map (·.1)).Nodup):Jjz w K f kvs:=⟨_,_,l,v,d,z⟩
end
end L2
namespace Zm
open PySem PySem.Spec PyProof.Rows L2
noncomputable def top (i:Nat):Stmt:=PySem.Challenge.pw_zonemarket_s01_answers.main.body.getD i (.Pass ⟨0,0,0,0⟩)
noncomputable abbrev JkR:Stmt:=top 1
noncomputable abbrev JdO:Stmt:=top 2
noncomputable abbrev Jjb:Stmt:=Uh (top 6) 0
noncomputable abbrev JhD:Stmt:=Uh (top 7) 0
noncomputable abbrev JkV:Stmt:=Uh (top 8) 0
noncomputable abbrev JhB:Stmt:=top 9
noncomputable abbrev Ji9:Stmt:=top 10
noncomputable abbrev Jge:Stmt:=top 12
noncomputable abbrev Jgi:Stmt:=top 13
noncomputable abbrev JkP:Stmt:=top 14
noncomputable abbrev JeO:Stmt:=top 15
noncomputable abbrev Jdh:Stmt:=top 16
noncomputable abbrev Vb:Stmt:=top 17
noncomputable abbrev JbE:Stmt:=top 18
noncomputable abbrev JdN:Stmt:=top 19
noncomputable abbrev Ja6:Stmt:=top 21
noncomputable abbrev JoT:Stmt:=top 22
noncomputable abbrev JbI:Stmt:=top 23
noncomputable abbrev JbH:Stmt:=top 24
noncomputable abbrev Jdf:Stmt:=top 26
noncomputable abbrev Ji7:Stmt:=top 27
noncomputable abbrev JcW:Stmt:=top 28
noncomputable abbrev Jdj:Stmt:=top 29
noncomputable abbrev Jdk:Stmt:=Uh (top 30) 0
noncomputable abbrev VX:Stmt:=Uh (top 31) 0
noncomputable abbrev Ue:Stmt:=Uh (top 31) 1
noncomputable abbrev JcX:Stmt:=Uh (top 33) 0
noncomputable abbrev WT:Stmt:=top 34
noncomputable abbrev Jgh:Stmt:=top 35
noncomputable abbrev U2:Stmt:=top 37
noncomputable abbrev JeL:Stmt:=top 38
noncomputable abbrev Jep:Stmt:=top 39
noncomputable abbrev Jhw:Stmt:=top 40
noncomputable abbrev JbB:Stmt:=top 44
noncomputable abbrev JcV:Stmt:=top 45
noncomputable abbrev Jgf:Stmt:=top 46
noncomputable abbrev YM:Stmt:=top 47
noncomputable abbrev JeR:Stmt:=top 48
noncomputable abbrev JkW:Stmt:=Uh (top 50) 0
noncomputable abbrev Jgg:Stmt:=top 51
noncomputable abbrev YN:Stmt:=Uh (top 52) 0
noncomputable abbrev Uo:Stmt:=Uh (top 52) 1
noncomputable abbrev VS:Stmt:=Uh (top 52) 2
noncomputable abbrev Jaz:Stmt:=Uh (top 52) 3
noncomputable abbrev Jay:Stmt:=Uh (top 52) 4
noncomputable abbrev JeU:Stmt:=Uh (top 54) 0
noncomputable abbrev Ji8:Stmt:=top 55
noncomputable abbrev JkQ:Stmt:=top 56
noncomputable abbrev JdM:Stmt:=top 57
noncomputable abbrev JeQ:Stmt:=top 58
noncomputable abbrev Jdi:Stmt:=top 59
noncomputable abbrev YW:Stmt:=top 60
noncomputable abbrev JeS:Stmt:=top 61
noncomputable abbrev JbG:Stmt:=top 62
noncomputable abbrev Jvy:Stmt:=top 71
noncomputable abbrev JkU:Stmt:=top 72
noncomputable abbrev Jja:Stmt:=top 73
noncomputable abbrev JeT:Stmt:=top 74
noncomputable abbrev Jgk:Stmt:=top 75
noncomputable abbrev Jes:Stmt:=top 76
noncomputable abbrev Ja2:Stmt:=top 77
noncomputable abbrev Ji5:Stmt:=top 78
noncomputable abbrev Jhy:Stmt:=top 79
noncomputable abbrev JeM:Stmt:=top 80
noncomputable abbrev JbC:Stmt:=top 81
noncomputable abbrev JeN:Stmt:=top 82
noncomputable abbrev JbD:Stmt:=top 83
noncomputable abbrev Jcm:Stmt:=top 84
noncomputable abbrev Jhz:Stmt:=top 85
noncomputable abbrev Jeq:Stmt:=top 86
noncomputable abbrev Jdg:Stmt:=top 87
noncomputable abbrev Jer:Stmt:=top 88
noncomputable abbrev Ji6:Stmt:=top 89
noncomputable abbrev Jhx:Stmt:=top 90
noncomputable abbrev Jgj:Stmt:=top 92
noncomputable abbrev Jjc:Stmt:=Uh (top 98) 0
noncomputable abbrev JkT:Stmt:=top 99
noncomputable abbrev JeP:Stmt:=top 100
noncomputable abbrev JhC:Stmt:=top 101
noncomputable abbrev JhA:Stmt:=top 102
noncomputable abbrev JdL:Stmt:=top 103
noncomputable abbrev JkS:Stmt:=top 104
noncomputable abbrev JbF:Stmt:=top 105
noncomputable abbrev JfM:Stmt:=top 106
noncomputable abbrev Jgl:Stmt:=Uh (top 111) 0
noncomputable abbrev Jet:Stmt:=Uh (top 111) 1
noncomputable abbrev Jcn:Stmt:=Uh (top 111) 2
noncomputable abbrev JmG:Stmt:=top 112
set_option genInjectivity false in
structure Adr where
 Wg:Addr
 Um:Addr
 Y1:Addr
 JZ:Addr
 Ju:Addr
 J9:Addr
 WE:Addr
 Jq:Addr
 Qw:Addr
 YU:Addr
 UB:Addr
 Jd5:Addr
 Jcz:FuncData
 Jbq:Addr
 Jah:FuncData
 JcN:Addr
 Jbh:FuncData
 Jbs:Addr
 Jaj:FuncData
 Jd8:Addr
 JcD:FuncData
 Jbm:Addr
 Jad:FuncData
 JcL:Addr
 Jbe:FuncData
 Jak:Addr
 Vs:FuncData
 Jaq:Addr
 Vy:FuncData
 Jd3:Addr
 Jcx:FuncData
 JcJ:Addr
 Jbc:FuncData
 W4:Addr
 Ww:FuncData
 WC:Addr
 U8:FuncData
 VF:Addr
 Yy:FuncData
 Jbp:Addr
 Jag:FuncData
 Jbr:Addr
 Jai:FuncData
 JhZ:Addr
 JfV:FuncData
 VL:Addr
 YD:FuncData
 VJ:Addr
 YC:FuncData
 W2:Addr
 Wt:FuncData
 JcI:Addr
 Jbb:FuncData
 Jam:Addr
 Vu:FuncData
 W6:Addr
 Wy:FuncData
 W7:Addr
 Wz:FuncData
 W8:Addr
 WA:FuncData
 Uk:Addr
 QY:FuncData
 Jas:Addr
 VB:FuncData
 W3:Addr
 Wu:FuncData
 Jap:Addr
 Vx:FuncData
 We:Addr
 UN:FuncData
 VE:Addr
 Yu:FuncData
 YI:Addr
 WW:FuncData
 Jbj:Addr
 V7:FuncData
 VD:Addr
 Yt:FuncData
 Jal:Addr
 Vt:FuncData
 Jan:Addr
 Vv:FuncData
 Wa:Addr
 UL:FuncData
 VM:Addr
 YE:FuncData
 Jd9:Addr
 JcE:FuncData
 Jao:Addr
 Vw:FuncData
 Wf:Addr
 UO:FuncData
 QC:Addr
 Qr:FuncData
 Ul:Addr
 QZ:FuncData
 UA:Addr
 Uj:FuncData
 Uz:Addr
 Ui:FuncData
 VO:Addr
 YH:FuncData
 JcK:Addr
 Jbd:FuncData
 Jd4:Addr
 Jcy:FuncData
 Jbn:Addr
 Jae:FuncData
 JcM:Addr
 Jbf:FuncData
 W5:Addr
 Wx:FuncData
 QR:Addr
 QJ:FuncData
 VN:Addr
 YF:FuncData
 VI:Addr
 YB:FuncData
 JrS:Addr
 Jn8:FuncData
 YQ:Addr
 JcC:FuncData
 WN:Addr
 Jbg:FuncData
 Ud:Addr
 YG:FuncData
 UH:Addr
 VA:FuncData
 QU:Addr
 WZ:FuncData
 J7:Addr
 Uy:FuncData
 WL:Addr
 Ja9:FuncData
 Wc:Addr
 V9:FuncData
 Ua:Addr
 Yv:FuncData
 Uc:Addr
 Yx:FuncData
 Ub:Addr
 Yw:FuncData
 Qc:Addr
 UM:FuncData
 Qs:Addr
 U7:FuncData
 Wd:Addr
 Jaa:FuncData
 QS:Addr
 WX:FuncData
 QG:Addr
 Wv:FuncData
 QT:Addr
 WY:FuncData
 WM:Addr
 Jba:FuncData
 Wb:Addr
 V8:FuncData
 Jar:Addr
 Vz:FuncData
 JcO:Addr
 Jbi:FuncData
 Jd7:Addr
 JcB:FuncData
 VG:Addr
 Yz:FuncData
 Jbo:Addr
 Jaf:FuncData
 Jbk:Addr
 Jab:FuncData
 Jbl:Addr
 Jac:FuncData
 Jd6:Addr
 JcA:FuncData
 VH:Addr
 YA:FuncData
 JfZ:Addr
 JdW:FuncData
 Jat:Addr
 VC:FuncData
 YJ:Addr
 W0:FuncData
 WD:Addr
 U9:FuncData
 Jf0:Addr
 Jb4:FuncData
 Jkg:Addr
 JhP:Addr
 Jb2:Addr
 Jb1:Addr
 Jb0:Addr
 JbZ:Addr
 JbY:Addr
 JbX:Addr
 JbW:Addr
 JbV:Addr
 JbU:Addr
 JbT:Addr
 JaC:Addr
 Jbx:Addr
 JaM:Addr
 JaL:Addr
 JaK:Addr
 JaJ:Addr
 JaI:Addr
 JaH:Addr
 JaG:Addr
 JaF:Addr
 JaE:Addr
 JaD:Addr
 Vq:Addr
 Vp:Addr
 Vo:Addr
 Vn:Addr
 Vm:Addr
 Vl:Addr
 Vk:Addr
 Vj:Addr
 Vi:Addr
 Vh:Addr
 Jkf:Addr
 JfS:Addr
 JfR:Addr
 JfQ:Addr
structure Txt (w:World) (K:PySem.W.Frag) (mg:Str→Option Value) (A:Adr):Prop where
 Jlz:mg "all"=none
 Jd1:mg "enumerate"=none
 Q9:mg "len"=none
 Jvj:mg "list"=none
 Jg9:mg "max"=none
 Jly:mg "min"=none
 Jdz:mg "range"=none
 JpK:mg "reversed"=none
 Jws:mg "set"=none
 JsX:mg "sorted"=none
 Jg8:mg "sum"=none
 WK:mg "zip"=none
 JfT:∃u,mg "SELLS"=some u∧JX (.int (0)) u
 Jb3:∃u,mg "BUYS"=some u∧JX (.int (1)) u
 JsI:∃u,mg "AS_GOOD"=some u∧JX (.int (0)) u
 Jlr:∃u,mg "LESS_WELFARE"=some u∧JX (.int (4)) u
 WV:∃u,mg "UNKNOWN"=some u∧JX (.int (-3)) u
 JdV:∃u,mg "MISCOUNTED"=some u∧JX (.int (-3)) u
 JiD:∃u,mg "OUTSIDE_BOUNDS"=some u∧JX (.int (-4)) u
 Jg5:∃u,mg "FLOWS_MISCOUNTED"=some u∧JX (.int (-4)) u
 JtU:∃u,mg "FULL"=some u∧JX (.int (-5)) u
 Jn6:∃u,mg "MOST_LINES"=some u∧JX (.int (12)) u
 Jmi:∃u,mg "MOST_ORDERS"=some u∧JX (.int (40)) u
 Jvb:∃u,mg "CALLS"=some u∧JX (V.ref A.Jkg) u
 Jvh:Jjz w K A.Jkg [(.inl (1),V.ref A.YQ),(.inl (2),V.ref A.WN),(.inl (3),V.ref A.Ud),(.inl (4),V.ref A.UH),(.inl (5),V.ref A.QU),(.inl (6),V.ref A.J7),(.inl (7),V.ref A.WL),(.inl (8),V.ref A.Wc),(.inl (9),V.ref A.Ua),(.inl (10),V.ref A.Uc),(.inl (11),V.ref A.Ub),(.inl (12),V.ref A.Qc),(.inl (13),V.ref A.Qs),(.inl (14),V.ref A.Wd),(.inl (15),V.ref A.QS),(.inl (16),V.ref A.QG),(.inl (17),V.ref A.QT),(.inl (18),V.ref A.WM),(.inl (19),V.ref A.Wb)]
 JpC:∃u,mg "RANGES"=some u∧JX (V.ref A.JhP) u
 JpE:Jjz w K A.JhP [(.inr "price",V.ref A.Jb2),(.inr "zones",V.ref A.Jb1),(.inr "zone",V.ref A.Jb0),(.inr "side",V.ref A.JbZ),(.inr "room",V.ref A.JbY),(.inr "first amount",V.ref A.JbX),(.inr "amount",V.ref A.JbW),(.inr "line",V.ref A.JbV),(.inr "order",V.ref A.JbU),(.inr "share or flow",V.ref A.JbT),(.inr "member",V.ref A.JaC)]
 Jqp:UV K A.Jb2 [V.int (-1000000),V.int (1000000)]
 Jqo:UV K A.Jb1 [V.int (1),V.int (6)]
 Jqn:UV K A.Jb0 [V.int (0),V.int (5)]
 Jqm:UV K A.JbZ [V.int (0),V.int (1)]
 Jql:UV K A.JbY [V.int (0),V.int (1000000000)]
 Jqk:UV K A.JbX [V.int (1),V.int (1000000000)]
 Jqj:UV K A.JbW [V.int (0),V.int (1000000000)]
 Jqi:UV K A.JbV [V.int (0),V.int (11)]
 Jqh:UV K A.JbU [V.int (0),V.int (39)]
 Jqg:UV K A.JbT [V.int (-2000000000),V.int (2000000000)]
 JoU:UV K A.JaC [V.int (0),V.int (1)]
 JmW:∃u,mg "NUMBERS"=some u∧JX (V.ref A.Jbx) u
 JmH:UV K A.Jbx [V.ref A.JaM,V.ref A.JaL,V.ref A.JaK,V.ref A.JaJ,V.ref A.JaI,V.ref A.JaH,V.ref A.JaG,V.ref A.JaF,V.ref A.JaE,V.ref A.JaD,V.ref A.Vq,V.ref A.Vp,V.ref A.Vo,V.ref A.Vn,V.ref A.Vm,V.ref A.Vl,V.ref A.Vk,V.ref A.Vj,V.ref A.Vi,V.ref A.Vh]
 Jo4:UV K A.JaM [V.str "price",V.str "price",V.str "zones"]
 Jo3:UV K A.JaL [V.str "zone",V.str "zone",V.str "room",V.str "room"]
 Jo2:UV K A.JaK [V.str "zone",V.str "side",V.str "price",V.str "first amount"]
 Jo1:UV K A.JaJ [V.str "line",V.str "room",V.str "room"]
 Jo0:UV K A.JaI [V.str "order",V.str "amount"]
 JoZ:UV K A.JaH []
 JoY:UV K A.JaG []
 JoX:UV K A.JaF [V.str "zone"]
 JoW:UV K A.JaE []
 JoV:UV K A.JaD []
 JnI:UV K A.Vq []
 JnH:UV K A.Vp []
 JnG:UV K A.Vo [V.str "order"]
 JnF:UV K A.Vn [V.str "line"]
 JnE:UV K A.Vm []
 JnD:UV K A.Vl [V.str "zone",V.str "price"]
 JnC:UV K A.Vk [V.str "price"]
 JnB:UV K A.Vj [V.str "price"]
 JnA:UV K A.Vi [V.str "zone"]
 Jnz:UV K A.Vh []
 Jva:∃u,mg "LISTS"=some u∧JX (V.ref A.Jkf) u
 Jvg:Jjz w K A.Jkf [(.inl (10),V.ref A.JfS),(.inl (11),V.ref A.JfR),(.inl (17),V.ref A.JfQ)]
 Jso:UV K A.JfS [V.str "price"]
 Jsn:UV K A.JfR [V.str "share or flow",V.str "share or flow"]
 Jsm:UV K A.JfQ [V.str "member"]
 Jlq:∃u,mg "LONGEST_LIST"=some u∧JX (.int (64)) u
 Jgt:∃u,mg "NOT_AS_TOLD"=some u∧JX (.int (-1)) u
 JtT:∃u,mg "NO_NET"=some u∧JX (.int (-2)) u
 JsH:∃u,mg "OPENING"=some u∧JX (.int (0)) u
 Jwc:mg "Line"=some (.ref A.Wg)
 JN:Cls K A.Wg
 J3:JO K A.Wg "first"
 JT:JO K A.Wg "second"
 Qk:JO K A.Wg "forth"
 Qq:JO K A.Wg "back"
 JnZ:mg "Order"=some (.ref A.Um)
 Jy:Cls K A.Um
 Qj:JO K A.Um "zone"
 JL:JO K A.Um "side"
 QL:JO K A.Um "price"
 JP:JO K A.Um "amount"
 Jrz:mg "Net"=some (.ref A.Y1)
 Jt:Cls K A.Y1
 UE:JO K A.Y1 "low"
 Qy:JO K A.Y1 "high"
 Jw:JO K A.Y1 "zones"
 JE:JO K A.Y1 "lines"
 Jv:JO K A.Y1 "orders"
 Jpq:mg "Tightness"=some (.ref A.JZ)
 UX:Cls K A.JZ
 Jct:JO K A.JZ "most"
 UD:JO K A.JZ "least_group"
 QX:JO K A.JZ "greatest_group"
 Jjk:mg "Shortages"=some (.ref A.Ju)
 Qz:Cls K A.Ju
 WU:JO K A.Ju "net"
 UK:JO K A.Ju "groups"
 JbP:JO K A.Ju "rooms"
 JtL:mg "Prices"=some (.ref A.J9)
 Jb5:Cls K A.J9
 Jew:JO K A.J9 "least"
 JbR:JO K A.J9 "greatest"
 JbQ:JO K A.J9 "told"
 JmQ:mg "Arc"=some (.ref A.WE)
 Q3:Cls K A.WE
 Uv:JO K A.WE "tail"
 Uw:JO K A.WE "head"
 U6:JO K A.WE "least"
 WJ:JO K A.WE "most"
 Jmg:mg "Circulation"=some (.ref A.Jq)
 JQ:Cls K A.Jq
 Ug:JO K A.Jq "groups"
 Uf:JO K A.Jq "spares"
 Jsu:mg "Outcome"=some (.ref A.Qw)
 JW:Cls K A.Qw
 Us:JO K A.Qw "told"
 JU:JO K A.Qw "shares"
 Q4:JO K A.Qw "flows"
 Jwd:mg "Call"=some (.ref A.YU)
 Jz:Cls K A.YU
 Jr:JO K A.YU "place"
 Jo:JO K A.YU "numbers"
 Wl:JO K A.YU "lists"
 JtM:mg "Market"=some (.ref A.UB)
 Jb6:Cls K A.UB
 Yk:JO K A.UB "net"
 JlN:Fx K mg "is_slack" "is_slack" JkR A.Jd5 A.Jcz ["line","flow"]
 Jib:Fx K mg "find_areas" "find_areas" JdO A.Jbq A.Jah ["net","flows"]
 Jjx:Ix K A.Wg "Line.__init__" Jjb A.JcN A.Jbh ["self","first","second","forth","back"]
 Jbw:Ix K A.Um "Order.__init__" JhD A.Jbs A.Jaj ["self","zone","side","price","amount"]
 Jcg:Ix K A.Y1 "Net.__init__" JkV A.Jd8 A.JcD ["self","low","high","zones","lines","orders"]
 Jbu:Fx K mg "order_gain" "order_gain" JhB A.Jbm A.Jad ["order","prices"]
 JaS:Fx K mg "line_gain" "line_gain" Ji9 A.JcL A.Jbe ["line","prices"]
 Yn:Fx K mg "zone_shares" "zone_shares" Jge A.Jak A.Vs ["net","shares","zone","side"]
 Jc6:Fx K mg "carried_out" "carried_out" Jgi A.Jaq A.Vy ["net","flows","zone"]
 Jhe:Fx K mg "payments" "payments" JkP A.Jd3 A.Jcx ["net","outcome","side"]
 Jfw:Fx K mg "own_value" "own_value" JeO A.JcJ A.Jbc ["net","shares","side"]
 UU:Fx K mg "shares_welfare" "shares_welfare" Jdh A.W4 A.Ww ["net","shares"]
 VQ:Fx K mg "order_surpluses" "order_surpluses" Vb A.WC A.U8 ["net","outcome"]
 Jcd:Fx K mg "side_surplus" "side_surplus" JbE A.VF A.Yy ["net","outcome","side"]
 Jbv:Fx K mg "line_rents" "line_rents" JdN A.Jbp A.Jag ["net","outcome"]
 Jej:Fx K mg "all_groups" "all_groups" Ja6 A.Jbr A.Jai ["places"]
 JaT:Fx K mg "enters" "enters" JoT A.JhZ A.JfV ["group","tail","head"]
 JfB:Fx K mg "held_by_each" "held_by_each" JbI A.VL A.YD ["groups","places"]
 JfA:Fx K mg "held_by_some" "held_by_some" JbH A.VJ A.YC ["groups","places"]
 UT:Fx K mg "zone_shortages" "zone_shortages" Jdf A.W2 A.Wt ["net","t"]
 Jfv:Fx K mg "room_into" "room_into" Ji7 A.JcI A.Jbb ["net","group"]
 Jc5:Fx K mg "lack_within" "lack_within" JcW A.Jam A.Vu ["group","lacks"]
 JdF:Fx K mg "group_shortage" "group_shortage" Jdj A.W6 A.Wy ["net","group","t"]
 JdG:Ix K A.JZ "Tightness.__init__" Jdk A.W7 A.Wz ["self","most","least_group","greatest_group"]
 V4:Ix K A.Ju "Shortages.__init__" VX A.W8 A.WA ["self","net"]
 QD:Mx K A.Ju "tightness" "Shortages.tightness" Ue A.Uk A.QY ["self","t"]
 JgF:Ix K A.J9 "Prices.__init__" JcX A.Jas A.VB ["self","least","greatest"]
 JdD:Fx K mg "turning_points" "turning_points" WT A.W3 A.Wu ["net"]
 Jau:Fx K mg "find_prices" "find_prices" Jgh A.Jap A.Vx ["net"]
 Qe:Fx K mg "greatest_welfare" "greatest_welfare" U2 A.We A.UN ["net"]
 Jfs:Fx K mg "without_line" "without_line" JeL A.VE A.Yu ["net","number"]
 Jex:Fx K mg "without_order" "without_order" Jep A.YI A.WW ["net","number"]
 Jed:Fx K mg "with_order" "with_order" Jhw A.Jbj A.V7 ["net","order"]
 Jfr:Fx K mg "wrong_shares" "wrong_shares" JbB A.VD A.Yt ["net","shares"]
 JgB:Fx K mg "wrong_flows" "wrong_flows" JcV A.Jal A.Vt ["net","flows"]
 JgC:Fx K mg "is_balanced" "is_balanced" Jgf A.Jan A.Vv ["net","shares","flows","zone"]
 Jb9:Fx K mg "unbalanced_zones" "unbalanced_zones" YM A.Wa A.UL ["net","shares","flows"]
 JfC:Fx K mg "find_verdict" "find_verdict" JeR A.VM A.YE ["net","shares","flows"]
 YT:Ix K A.WE "Arc.__init__" JkW A.Jd9 A.JcE ["self","tail","head","least","most"]
 JgD:Fx K mg "group_spare" "group_spare" Jgg A.Jao A.Vw ["group","arcs"]
 Jch:Ix K A.Jq "Circulation.__init__" YN A.Wf A.UO ["self","nodes","arcs"]
 J6:Mx K A.Jq "least_spare" "Circulation.least_spare" Uo A.QC A.Qr ["self","tail","head"]
 QE:Mx K A.Jq "highest" "Circulation.highest" VS A.Ul A.QZ ["self","arc"]
 WO:Mx K A.Jq "lowest" "Circulation.lowest" Jaz A.UA A.Uj ["self","arc"]
 QO:Mx K A.Jq "settle" "Circulation.settle" Jay A.Uz A.Ui ["self","arc","flow"]
 JfF:Ix K A.Qw "Outcome.__init__" JeU A.VO A.YH ["self","told","shares","flows"]
 Jjv:Fx K mg "order_arc" "order_arc" Ji8 A.JcK A.Jbd ["order","prices","outside"]
 JlM:Fx K mg "line_arc" "line_arc" JkQ A.Jd4 A.Jcy ["line","prices"]
 Jeh:Fx K mg "order_arcs" "order_arcs" JdM A.Jbn A.Jae ["net","prices"]
 Jfy:Fx K mg "line_arcs" "line_arcs" JeQ A.JcM A.Jbf ["net","prices"]
 JdE:Fx K mg "highest_shares" "highest_shares" Jdi A.W5 A.Wx ["circulation","arcs"]
 Y0:Fx K mg "flows_nearest_to_zero" "flows_nearest_to_zero" YW A.QR A.QJ ["circulation","arcs"]
 Qt:Fx K mg "find_outcome" "find_outcome" JeS A.VN A.YF ["net"]
 Jfz:Fx K mg "is_supported" "is_supported" JbG A.VI A.YB ["net","outcome","prices"]
 Jey:Fx K mg "row" "row" Jvy A.JrS A.Jn8 ["numbers"]
 Jhh:Fx K mg "add_line" "add_line" JkU A.YQ A.JcC ["net","call"]
 JfD:Fx K mg "add_order" "add_order" Jja A.WN A.Jbg ["net","call"]
 Jcf:Fx K mg "change_rooms" "change_rooms" JeT A.Ud A.YG ["net","call"]
 Jc7:Fx K mg "amend_order" "amend_order" Jgk A.UH A.VA ["net","call"]
 Ja0:Fx K mg "tell_clearing" "tell_clearing" Jes A.QU A.WZ ["net","call"]
 Yf:Fx K mg "tell_price_ranges" "tell_price_ranges" Ja2 A.J7 A.Uy ["net","call"]
 Jft:Fx K mg "tell_zone" "tell_zone" Ji5 A.WL A.Ja9 ["net","call"]
 Jef:Fx K mg "tell_money" "tell_money" Jhy A.Wc A.V9 ["net","call"]
 Jca:Fx K mg "tell_welfare" "tell_welfare" JeM A.Ua A.Yv ["net","call"]
 Jcc:Fx K mg "tell_support" "tell_support" JbC A.Uc A.Yx ["net","call"]
 Jcb:Fx K mg "tell_verdict" "tell_verdict" JeN A.Ub A.Yw ["net","call"]
 YS:Fx K mg "tell_order_worth" "tell_order_worth" JbD A.Qc A.UM ["net","call"]
 VP:Fx K mg "tell_line_worth" "tell_line_worth" Jcm A.Qs A.U7 ["net","call"]
 Jeg:Fx K mg "tell_areas" "tell_areas" Jhz A.Wd A.Jaa ["net","call"]
 JaY:Fx K mg "tell_zone_net" "tell_zone_net" Jeq A.QS A.WX ["net","call"]
 V3:Fx K mg "tell_tightness" "tell_tightness" Jdg A.QG A.Wv ["net","call"]
 JaZ:Fx K mg "tell_shortage" "tell_shortage" Jer A.QT A.WY ["net","call"]
 Jfu:Fx K mg "tell_unit" "tell_unit" Ji6 A.WM A.Jba ["net","call"]
 Jee:Fx K mg "tell_state" "tell_state" Jhx A.Wb A.V8 ["net","call"]
 JgE:Fx K mg "answer_call" "answer_call" Jgj A.Jar A.Vz ["net","call"]
 Jjy:Ix K A.YU "Call.__init__" Jjc A.JcO A.Jbi ["self","place","numbers","lists"]
 Jhg:Fx K mg "has_form" "has_form" JkT A.Jd7 A.JcB ["place"]
 Jce:Fx K mg "number_names" "number_names" JeP A.VG A.Yz ["place"]
 Jei:Fx K mg "list_names" "list_names" JhC A.Jbo A.Jaf ["place"]
 Jh9:Fx K mg "read_lists" "read_lists" JhA A.Jbk A.Jab ["numbers","place","start"]
 Jia:Fx K mg "read_calls" "read_calls" JdL A.Jbl A.Jac ["numbers"]
 Jhf:Fx K mg "in_range" "in_range" JkS A.Jd6 A.JcA ["name","number"]
 Jfx:Fx K mg "list_as_told" "list_as_told" JbF A.VH A.YA ["name","numbers"]
 Jnf:Fx K mg "as_told" "as_told" JfM A.JfZ A.JdW ["call"]
 Jc8:Ix K A.UB "Market.__init__" Jgl A.Jat A.VC ["self"]
 Ja1:Mx K A.UB "answer" "Market.answer" Jet A.YJ A.W0 ["self","call"]
 VR:Mx K A.UB "make_net" "Market.make_net" Jcn A.WD A.U9 ["self","low","high","zones"]
 JiW:Fx K mg "answers" "answers" JmG A.Jf0 A.Jb4 ["calls"]
noncomputable abbrev Jq7:List Str:=["line","flow"]
theorem JoO:Ji Jq7 ["line","flow"] (Je JkR):=sK (by decide+kernel)
noncomputable abbrev Jh7:List Str:=["net","flows","areas","line","flow","kept","given_up","area"]
theorem Q0:Ji Jh7 ["net","flows"] (Je JdO):=sK (by decide+kernel)
noncomputable abbrev JpY:List Str:=["self","first","second","forth","back"]
theorem Jnx:Ji JpY ["self","first","second","forth","back"] (Je Jjb):=sK (by decide+kernel)
noncomputable abbrev Jou:List Str:=["self","zone","side","price","amount"]
theorem Jl8:Ji Jou ["self","zone","side","price","amount"] (Je JhD):=sK (by decide+kernel)
noncomputable abbrev Jrb:List Str:=["self","low","high","zones","lines","orders"]
theorem JoR:Ji Jrb ["self","low","high","zones","lines","orders"] (Je JkV):=sK (by decide+kernel)
noncomputable abbrev Jos:List Str:=["order","prices"]
theorem Jl6:Ji Jos ["order","prices"] (Je JhB):=sK (by decide+kernel)
noncomputable abbrev JpW:List Str:=["line","prices"]
theorem Jnw:Ji JpW ["line","prices"] (Je Ji9):=sK (by decide+kernel)
noncomputable abbrev Jmm:List Str:=["net","shares","zone","side","total","order","share"]
theorem WF:Ji Jmm ["net","shares","zone","side"] (Je Jge):=sK (by decide+kernel)
noncomputable abbrev Jmq:List Str:=["net","flows","zone","carried","line","flow"]
theorem UP:Ji Jmq ["net","flows","zone"] (Je Jgi):=sK (by decide+kernel)
noncomputable abbrev Jq5:List Str:=["net","outcome","side","paid","order","share"]
theorem Jax:Ji Jq5 ["net","outcome","side"] (Je JkP):=sK (by decide+kernel)
noncomputable abbrev Jjt:List Str:=["net","shares","side","order","share"]
theorem Ja4:Ji Jjt ["net","shares","side"] (Je JeO):=sK (by decide+kernel)
noncomputable abbrev JiQ:List Str:=["net","shares"]
theorem Jht:Ji JiQ ["net","shares"] (Je Jdh):=sK (by decide+kernel)
noncomputable abbrev JcP:List Str:=["net","outcome","order","share"]
theorem U1:Ji JcP ["net","outcome"] (Je Vb):=sK (by decide+kernel)
noncomputable abbrev Jfk:List Str:=["net","outcome","side","order","gain"]
theorem Yq:Ji Jfk ["net","outcome","side"] (Je JbE):=sK (by decide+kernel)
noncomputable abbrev Jh6:List Str:=["net","outcome","line","flow"]
theorem V6:Ji Jh6 ["net","outcome"] (Je JdN):=sK (by decide+kernel)
noncomputable abbrev Jea:List Str:=["places","groups","place","without","group"]
theorem Q2:Ji Jea ["places"] (Je Ja6):=sK (by decide+kernel)
noncomputable abbrev Jun:List Str:=["group","tail","head"]
theorem Jsl:Ji Jun ["group","tail","head"] (Je JoT):=sK (by decide+kernel)
noncomputable abbrev Jfo:List Str:=["groups","places","held","place","group"]
theorem Wj:Ji Jfo ["groups","places"] (Je JbI):=sK (by decide+kernel)
noncomputable abbrev Jfn:List Str:=["groups","places","held","place","group"]
theorem Wi:Ji Jfn ["groups","places"] (Je JbH):=sK (by decide+kernel)
noncomputable abbrev JiO:List Str:=["net","t","lacks","order"]
theorem Y3:Ji JiO ["net","t"] (Je Jdf):=sK (by decide+kernel)
noncomputable abbrev JpU:List Str:=["net","group","room","line"]
theorem Y7:Ji JpU ["net","group"] (Je Ji7):=sK (by decide+kernel)
noncomputable abbrev Jgy:List Str:=["group","lacks","amount","inside"]
theorem Y8:Ji Jgy ["group","lacks"] (Je JcW):=sK (by decide+kernel)
noncomputable abbrev JiS:List Str:=["net","group","t"]
theorem Jhu:Ji JiS ["net","group","t"] (Je Jdj):=sK (by decide+kernel)
noncomputable abbrev JiU:List Str:=["self","most","least_group","greatest_group"]
theorem Jhv:Ji JiU ["self","most","least_group","greatest_group"] (Je Jdk):=sK (by decide+kernel)
noncomputable abbrev JdC:List Str:=["self","net","group"]
theorem Y9:Ji JdC ["self","net"] (Je VX):=sK (by decide+kernel)
noncomputable abbrev Wo:List Str:=["self","t","lacks","shortages","most","short","group","room","shortage"]
theorem JI:Ji Wo ["self","t"] (Je Ue):=sK (by decide+kernel)
noncomputable abbrev Jgz:List Str:=["self","least","greatest","low","high"]
theorem Va:Ji Jgz ["self","least","greatest"] (Je JcX):=sK (by decide+kernel)
noncomputable abbrev V2:List Str:=["net","prices","order","price"]
theorem QP:Ji V2 ["net"] (Je WT):=sK (by decide+kernel)
noncomputable abbrev Jmp:List Str:=["net","shortages","least","greatest","t","tight","zone"]
theorem Q6:Ji Jmp ["net"] (Je Jgh):=sK (by decide+kernel)
noncomputable abbrev YR:List Str:=["net","told","surpluses","rents","order","line"]
theorem Qu:Ji YR ["net"] (Je U2):=sK (by decide+kernel)
noncomputable abbrev JlE:List Str:=["net","number","lines"]
theorem Jen:Ji JlE ["net","number"] (Je JeL):=sK (by decide+kernel)
noncomputable abbrev Jj2:List Str:=["net","number","orders"]
theorem Jdc:Ji Jj2 ["net","number"] (Je Jep):=sK (by decide+kernel)
noncomputable abbrev Jon:List Str:=["net","order"]
theorem Jl4:Ji Jon ["net","order"] (Je Jhw):=sK (by decide+kernel)
noncomputable abbrev Jfi:List Str:=["net","shares","k","order"]
theorem Yo:Ji Jfi ["net","shares"] (Je JbB):=sK (by decide+kernel)
noncomputable abbrev Jgx:List Str:=["net","flows","k","line"]
theorem Y4:Ji Jgx ["net","flows"] (Je JcV):=sK (by decide+kernel)
noncomputable abbrev Jmn:List Str:=["net","shares","flows","zone","left"]
theorem JeI:Ji Jmn ["net","shares","flows","zone"] (Je Jgf):=sK (by decide+kernel)
noncomputable abbrev Jb7:List Str:=["net","shares","flows","zone"]
theorem Yb:Ji Jb7 ["net","shares","flows"] (Je YM):=sK (by decide+kernel)
noncomputable abbrev JlI:List Str:=["net","shares","flows","faults","lack","verdict","places"]
theorem Wk:Ji JlI ["net","shares","flows"] (Je JeR):=sK (by decide+kernel)
noncomputable abbrev Jrc:List Str:=["self","tail","head","least","most"]
theorem JoS:Ji Jrc ["self","tail","head","least","most"] (Je JkW):=sK (by decide+kernel)
noncomputable abbrev Jmo:List Str:=["group","arcs","spare","arc"]
theorem WG:Ji Jmo ["group","arcs"] (Je Jgg):=sK (by decide+kernel)
noncomputable abbrev Jb8:List Str:=["self","nodes","arcs","group"]
theorem Yc:Ji Jb8 ["self","nodes","arcs"] (Je YN):=sK (by decide+kernel)
noncomputable abbrev W9:List Str:=["self","tail","head","group","spare"]
theorem Qm:Ji W9 ["self","tail","head"] (Je Uo):=sK (by decide+kernel)
noncomputable abbrev JeD:List Str:=["self","arc"]
theorem JdK:Ji JeD ["self","arc"] (Je VS):=sK (by decide+kernel)
noncomputable abbrev Jfq:List Str:=["self","arc"]
theorem JeB:Ji Jfq ["self","arc"] (Je Jaz):=sK (by decide+kernel)
noncomputable abbrev Jfp:List Str:=["self","arc","flow","spares","group","spare","change"]
theorem J0:Ji Jfp ["self","arc","flow"] (Je Jay):=sK (by decide+kernel)
noncomputable abbrev JlL:List Str:=["self","told","shares","flows"]
theorem JjK:Ji JlL ["self","told","shares","flows"] (Je JeU):=sK (by decide+kernel)
noncomputable abbrev JpV:List Str:=["order","prices","outside","tail","head","gain"]
theorem Ja5:Ji JpV ["order","prices","outside"] (Je Ji8):=sK (by decide+kernel)
noncomputable abbrev Jq6:List Str:=["line","prices","gain"]
theorem Ji4:Ji Jq6 ["line","prices"] (Je JkQ):=sK (by decide+kernel)
noncomputable abbrev Jh5:List Str:=["net","prices","order"]
theorem JcU:Ji Jh5 ["net","prices"] (Je JdM):=sK (by decide+kernel)
noncomputable abbrev Jju:List Str:=["net","prices","line"]
theorem JdI:Ji Jju ["net","prices"] (Je JeQ):=sK (by decide+kernel)
noncomputable abbrev JiR:List Str:=["circulation","arcs","shares","arc","share"]
theorem Wp:Ji JiR ["circulation","arcs"] (Je Jdi):=sK (by decide+kernel)
noncomputable abbrev JdB:List Str:=["circulation","arcs","flows","arc","flow"]
theorem QI:Ji JdB ["circulation","arcs"] (Je YW):=sK (by decide+kernel)
noncomputable abbrev JlJ:List Str:=["net","told","share_arcs","flow_arcs","circulation","shares"]
theorem Ur:Ji JlJ ["net"] (Je JeS):=sK (by decide+kernel)
noncomputable abbrev Jfm:List Str:=["net","outcome","prices","arcs","arc","flow"]
theorem Wh:Ji Jfm ["net","outcome","prices"] (Je JbG):=sK (by decide+kernel)
noncomputable abbrev Jxc:List Str:=["numbers"]
theorem JvW:Ji Jxc ["numbers"] (Je Jvy):=sK (by decide+kernel)
noncomputable abbrev Jra:List Str:=["net","call","first","second"]
theorem JeK:Ji Jra ["net","call"] (Je JkU):=sK (by decide+kernel)
noncomputable abbrev JpX:List Str:=["net","call","zone","price"]
theorem JdJ:Ji JpX ["net","call"] (Je Jja):=sK (by decide+kernel)
noncomputable abbrev JlK:List Str:=["net","call","line"]
theorem Jeo:Ji JlK ["net","call"] (Je JeT):=sK (by decide+kernel)
noncomputable abbrev Jms:List Str:=["net","call","order"]
theorem JeJ:Ji Jms ["net","call"] (Je Jgk):=sK (by decide+kernel)
noncomputable abbrev Jj5:List Str:=["net","call","outcome"]
theorem Jde:Ji Jj5 ["net","call"] (Je Jes):=sK (by decide+kernel)
noncomputable abbrev Jf8:List Str:=["net","call","prices"]
theorem Jaw:Ji Jf8 ["net","call"] (Je Ja2):=sK (by decide+kernel)
noncomputable abbrev JpS:List Str:=["net","call","zone","outcome","sold","bought"]
theorem Y5:Ji JpS ["net","call"] (Je Ji5):=sK (by decide+kernel)
noncomputable abbrev Jop:List Str:=["net","call","outcome"]
theorem Jgd:Ji Jop ["net","call"] (Je Jhy):=sK (by decide+kernel)
noncomputable abbrev JlF:List Str:=["net","call","outcome","surpluses"]
theorem JaV:Ji JlF ["net","call"] (Je JeM):=sK (by decide+kernel)
noncomputable abbrev Jfj:List Str:=["net","call","prices","price"]
theorem Yp:Ji Jfj ["net","call"] (Je JbC):=sK (by decide+kernel)
noncomputable abbrev JlG:List Str:=["net","call","shares","flows"]
theorem JaW:Ji JlG ["net","call"] (Je JeN):=sK (by decide+kernel)
noncomputable abbrev Jhc:List Str:=["net","call","number","outcome","worth"]
theorem UJ:Ji Jhc ["net","call"] (Je JbD):=sK (by decide+kernel)
noncomputable abbrev Jh3:List Str:=["net","call","number","outcome","worth"]
theorem U0:Ji Jh3 ["net","call"] (Je Jcm):=sK (by decide+kernel)
noncomputable abbrev Joq:List Str:=["net","call"]
theorem Jl5:Ji Joq ["net","call"] (Je Jhz):=sK (by decide+kernel)
noncomputable abbrev Jj3:List Str:=["net","call","zone","price"]
theorem VW:Ji Jj3 ["net","call"] (Je Jeq):=sK (by decide+kernel)
noncomputable abbrev JiP:List Str:=["net","call","tight"]
theorem Jcl:Ji JiP ["net","call"] (Je Jdg):=sK (by decide+kernel)
noncomputable abbrev Jj4:List Str:=["net","call","group"]
theorem Jdd:Ji Jj4 ["net","call"] (Je Jer):=sK (by decide+kernel)
noncomputable abbrev JpT:List Str:=["net","call","zone","welfare","bought","sold"]
theorem Y6:Ji JpT ["net","call"] (Je Ji6):=sK (by decide+kernel)
noncomputable abbrev Joo:List Str:=["net","call","lines","line","orders","order"]
theorem Yh:Ji Joo ["net","call"] (Je Jhx):=sK (by decide+kernel)
noncomputable abbrev Jmr:List Str:=["net","call"]
theorem JkN:Ji Jmr ["net","call"] (Je Jgj):=sK (by decide+kernel)
noncomputable abbrev JpZ:List Str:=["self","place","numbers","lists"]
theorem Jny:Ji JpZ ["self","place","numbers","lists"] (Je Jjc):=sK (by decide+kernel)
noncomputable abbrev Jq9:List Str:=["place"]
theorem JoQ:Ji Jq9 ["place"] (Je JkT):=sK (by decide+kernel)
noncomputable abbrev JlH:List Str:=["place"]
theorem JjJ:Ji JlH ["place"] (Je JeP):=sK (by decide+kernel)
noncomputable abbrev Jot:List Str:=["place"]
theorem Jl7:Ji Jot ["place"] (Je JhC):=sK (by decide+kernel)
noncomputable abbrev Jor:List Str:=["numbers","place","start","lists","count_place","end"]
theorem Yi:Ji Jor ["numbers","place","start"] (Je JhA):=sK (by decide+kernel)
noncomputable abbrev Jh4:List Str:=["numbers","calls","start","place","end","lists","each"]
theorem QH:Ji Jh4 ["numbers"] (Je JdL):=sK (by decide+kernel)
noncomputable abbrev Jq8:List Str:=["name","number"]
theorem JoP:Ji Jq8 ["name","number"] (Je JkS):=sK (by decide+kernel)
noncomputable abbrev Jfl:List Str:=["name","numbers","number"]
theorem JaX:Ji Jfl ["name","numbers"] (Je JbF):=sK (by decide+kernel)
noncomputable abbrev JiT:List Str:=["call","numbers","lists","name","number","each"]
theorem YL:Ji JiT ["call"] (Je JfM):=sK (by decide+kernel)
noncomputable abbrev Jmt:List Str:=["self"]
theorem JkO:Ji Jmt ["self"] (Je Jgl):=sK (by decide+kernel)
noncomputable abbrev Jj6:List Str:=["self","call"]
theorem Jij:Ji Jj6 ["self","call"] (Je Jet):=sK (by decide+kernel)
noncomputable abbrev Jh8:List Str:=["self","low","high","zones"]
theorem JgQ:Ji Jh8 ["self","low","high","zones"] (Je Jcn):=sK (by decide+kernel)
noncomputable abbrev Js0:List Str:=["calls","market","told","call","answer"]
theorem JbA:Ji Js0 ["calls"] (Je JmG):=sK (by decide+kernel)
theorem Jwv {w:World} {K:PySem.W.Frag} {mg:Str→Option Value} {Wg Um Y1 JZ Ju J9 WE Jq Qw YU UB Jd5 Jbq JcN Jbs Jd8 Jbm JcL Jak Jaq Jd3 JcJ W4 WC VF Jbp Jbr JhZ VL VJ W2 JcI Jam W6 W7 W8 Uk Jas W3 Jap We VE YI Jbj VD Jal Jan Wa VM Jd9 Jao Wf QC Ul UA Uz VO JcK Jd4 Jbn JcM W5 QR VN VI JrS YQ WN Ud UH QU J7 WL Wc Ua Uc Ub Qc Qs Wd QS QG QT WM Wb Jar JcO Jd7 VG Jbo Jbk Jbl Jd6 VH JfZ Jat YJ WD Jf0 Jkg JhP Jb2 Jb1 Jb0 JbZ JbY JbX JbW JbV JbU JbT JaC Jbx JaM JaL JaK JaJ JaI JaH JaG JaF JaE JaD Vq Vp Vo Vn Vm Vl Vk Vj Vi Vh Jkf JfS JfR JfQ:Addr} {Jcz Jah Jbh Jaj JcD Jad Jbe Vs Vy Jcx Jbc Ww U8 Yy Jag Jai JfV YD YC Wt Jbb Vu Wy Wz WA QY VB Wu Vx UN Yu WW V7 Yt Vt Vv UL YE JcE Vw UO Qr QZ Uj Ui YH Jbd Jcy Jae Jbf Wx QJ YF YB Jn8 JcC Jbg YG VA WZ Uy Ja9 V9 Yv Yx Yw UM U7 Jaa WX Wv WY Jba V8 Vz Jbi JcB Yz Jaf Jab Jac JcA YA JdW VC W0 U9 Jb4:FuncData} (h:Txt w K mg ⟨Wg,Um,Y1,JZ,Ju,J9,WE,Jq,Qw,YU,UB,Jd5,Jcz,Jbq,Jah,JcN,Jbh,Jbs,Jaj,Jd8,JcD,Jbm,Jad,JcL,Jbe,Jak,Vs,Jaq,Vy,Jd3,Jcx,JcJ,Jbc,W4,Ww,WC,U8,VF,Yy,Jbp,Jag,Jbr,Jai,JhZ,JfV,VL,YD,VJ,YC,W2,Wt,JcI,Jbb,Jam,Vu,W6,Wy,W7,Wz,W8,WA,Uk,QY,Jas,VB,W3,Wu,Jap,Vx,We,UN,VE,Yu,YI,WW,Jbj,V7,VD,Yt,Jal,Vt,Jan,Vv,Wa,UL,VM,YE,Jd9,JcE,Jao,Vw,Wf,UO,QC,Qr,Ul,QZ,UA,Uj,Uz,Ui,VO,YH,JcK,Jbd,Jd4,Jcy,Jbn,Jae,JcM,Jbf,W5,Wx,QR,QJ,VN,YF,VI,YB,JrS,Jn8,YQ,JcC,WN,Jbg,Ud,YG,UH,VA,QU,WZ,J7,Uy,WL,Ja9,Wc,V9,Ua,Yv,Uc,Yx,Ub,Yw,Qc,UM,Qs,U7,Wd,Jaa,QS,WX,QG,Wv,QT,WY,WM,Jba,Wb,V8,Jar,Vz,JcO,Jbi,Jd7,JcB,VG,Yz,Jbo,Jaf,Jbk,Jab,Jbl,Jac,Jd6,JcA,VH,YA,JfZ,JdW,Jat,VC,YJ,W0,WD,U9,Jf0,Jb4,Jkg,JhP,Jb2,Jb1,Jb0,JbZ,JbY,JbX,JbW,JbV,JbU,JbT,JaC,Jbx,JaM,JaL,JaK,JaJ,JaI,JaH,JaG,JaF,JaE,JaD,Vq,Vp,Vo,Vn,Vm,Vl,Vk,Vj,Vi,Vh,Jkf,JfS,JfR,JfQ⟩):∃A,Txt w K mg A:=⟨_,h⟩
end Zm
namespace Zm
open PySem PySem.Spec PyProof.Rows L2
noncomputable def JlO (v_first v_second v_forth v_back:V):List (Str×V):=[("first",v_first),("second",v_second),("forth",v_forth),("back",v_back)]
noncomputable def Jns (A:Adr):Sp:=fun vs H Q _=>∃(p dx:Addr) (v_first v_second v_forth v_back:V),vs=[.ref p,v_first,v_second,v_forth,v_back]∧H p=some (.ins A.Wg dx [])∧∀H':Hp,(∀b o,H b=some o→b≠p→H' b=some o)→H' p=some (.ins A.Wg dx (JlO v_first v_second v_forth v_back))→Q .non H'
theorem JnU {P:Program} {w:World} {K:PySem.W.Frag} {mg:Str→Option Value} {base:Heap} {A:Adr} (T:Txt w K mg A):JF P w K mg base CX0 1 A.JcN A.Jbh ["self","first","second","forth","back"] (Jns A):=by
 refine T.Jjx.F.ok Jnx (fun vs H Q E h=>?_) (fun cdv AA outer s H vs Q E hr h=>?_)
 ·obtain⟨p,dx,v_first,v_second,v_forth,v_back,rfl,_⟩:=h
  rfl
 ·obtain⟨p,dx,v_first,v_second,v_forth,v_back,rfl,hp,k⟩:=h
  refine⟨_,(Jd (JS (pv 0) (pv 1) rfl) (Jd (JS (pv 0) (pv 2) rfl) (Jd (JS (pv 0) (pv 3) rfl) (Jf (JS (pv 0) (pv 4) rfl))))),?_⟩
  refine⟨_,rfl,_,rfl,p,A.Wg,dx,_,rfl,hp,T.JN,T.J3,(by show 0<1000;decide),?_⟩
  refine⟨_,rfl,_,rfl,p,A.Wg,dx,_,rfl,Jb,T.JN,T.JT,(by show 1<1000;decide),?_⟩
  refine⟨_,rfl,_,rfl,p,A.Wg,dx,_,rfl,Jb,T.JN,T.Qk,(by show 2<1000;decide),?_⟩
  refine⟨_,rfl,_,rfl,p,A.Wg,dx,_,rfl,Jb,T.JN,T.Qq,(by show 3<1000;decide),?_⟩
  refine k _ (fun b o e hb=>?_) (Eq.trans Jb rfl)
  rw[Jh hb,Jh hb,Jh hb,Jh hb]
  exact e
noncomputable def Jku (v_zone v_side v_price v_amount:V):List (Str×V):=[("zone",v_zone),("side",v_side),("price",v_price),("amount",v_amount)]
noncomputable def Jl2 (A:Adr):Sp:=fun vs H Q _=>∃(p dx:Addr) (v_zone v_side v_price v_amount:V),vs=[.ref p,v_zone,v_side,v_price,v_amount]∧H p=some (.ins A.Um dx [])∧∀H':Hp,(∀b o,H b=some o→b≠p→H' b=some o)→H' p=some (.ins A.Um dx (Jku v_zone v_side v_price v_amount))→Q .non H'
theorem Jc1 {P:Program} {w:World} {K:PySem.W.Frag} {mg:Str→Option Value} {base:Heap} {A:Adr} (T:Txt w K mg A):JF P w K mg base CX0 1 A.Jbs A.Jaj ["self","zone","side","price","amount"] (Jl2 A):=by
 refine T.Jbw.F.ok Jl8 (fun vs H Q E h=>?_) (fun cdv AA outer s H vs Q E hr h=>?_)
 ·obtain⟨p,dx,v_zone,v_side,v_price,v_amount,rfl,_⟩:=h
  rfl
 ·obtain⟨p,dx,v_zone,v_side,v_price,v_amount,rfl,hp,k⟩:=h
  refine⟨_,(Jd (JS (pv 0) (pv 1) rfl) (Jd (JS (pv 0) (pv 2) rfl) (Jd (JS (pv 0) (pv 3) rfl) (Jf (JS (pv 0) (pv 4) rfl))))),?_⟩
  refine⟨_,rfl,_,rfl,p,A.Um,dx,_,rfl,hp,T.Jy,T.Qj,(by show 0<1000;decide),?_⟩
  refine⟨_,rfl,_,rfl,p,A.Um,dx,_,rfl,Jb,T.Jy,T.JL,(by show 1<1000;decide),?_⟩
  refine⟨_,rfl,_,rfl,p,A.Um,dx,_,rfl,Jb,T.Jy,T.QL,(by show 2<1000;decide),?_⟩
  refine⟨_,rfl,_,rfl,p,A.Um,dx,_,rfl,Jb,T.Jy,T.JP,(by show 3<1000;decide),?_⟩
  refine k _ (fun b o e hb=>?_) (Eq.trans Jb rfl)
  rw[Jh hb,Jh hb,Jh hb,Jh hb]
  exact e
noncomputable def Jur (v_low v_high v_zones v_lines v_orders:V):List (Str×V):=[("low",v_low),("high",v_high),("zones",v_zones),("lines",v_lines),("orders",v_orders)]
noncomputable def Ji1 (A:Adr):Sp:=fun vs H Q _=>∃(p dx:Addr) (v_low v_high v_zones v_lines v_orders:V),vs=[.ref p,v_low,v_high,v_zones,v_lines,v_orders]∧H p=some (.ins A.Y1 dx [])∧∀H':Hp,(∀b o,H b=some o→b≠p→H' b=some o)→H' p=some (.ins A.Y1 dx (Jur v_low v_high v_zones v_lines v_orders))→Q .non H'
theorem Jcs {P:Program} {w:World} {K:PySem.W.Frag} {mg:Str→Option Value} {base:Heap} {A:Adr} (T:Txt w K mg A):JF P w K mg base CX0 1 A.Jd8 A.JcD ["self","low","high","zones","lines","orders"] (Ji1 A):=by
 refine T.Jcg.F.ok JoR (fun vs H Q E h=>?_) (fun cdv AA outer s H vs Q E hr h=>?_)
 ·obtain⟨p,dx,v_low,v_high,v_zones,v_lines,v_orders,rfl,_⟩:=h
  rfl
 ·obtain⟨p,dx,v_low,v_high,v_zones,v_lines,v_orders,rfl,hp,k⟩:=h
  refine⟨_,(Jd (JS (pv 0) (pv 1) rfl) (Jd (JS (pv 0) (pv 2) rfl) (Jd (JS (pv 0) (pv 3) rfl) (Jd (JS (pv 0) (pv 4) rfl) (Jf (JS (pv 0) (pv 5) rfl)))))),?_⟩
  refine⟨_,rfl,_,rfl,p,A.Y1,dx,_,rfl,hp,T.Jt,T.UE,(by show 0<1000;decide),?_⟩
  refine⟨_,rfl,_,rfl,p,A.Y1,dx,_,rfl,Jb,T.Jt,T.Qy,(by show 1<1000;decide),?_⟩
  refine⟨_,rfl,_,rfl,p,A.Y1,dx,_,rfl,Jb,T.Jt,T.Jw,(by show 2<1000;decide),?_⟩
  refine⟨_,rfl,_,rfl,p,A.Y1,dx,_,rfl,Jb,T.Jt,T.JE,(by show 3<1000;decide),?_⟩
  refine⟨_,rfl,_,rfl,p,A.Y1,dx,_,rfl,Jb,T.Jt,T.Jv,(by show 4<1000;decide),?_⟩
  refine k _ (fun b o e hb=>?_) (Eq.trans Jb rfl)
  rw[Jh hb,Jh hb,Jh hb,Jh hb,Jh hb]
  exact e
theorem Jlj {A:Adr} {H1:Hp} {Q:VK} {E:XK} {v_low v_high v_zones v_lines v_orders:V} (k:∀(x dx:Addr) (H':Hp),H1 x=none→Jg H1 H'→H' x=some (.ins A.Y1 dx (Jur v_low v_high v_zones v_lines v_orders))→Q (.ref x) H'):
  ∀x dx,H1 x=none→H1 dx=none→dx≠x→Ji1 A (.ref x::([v_low,v_high,v_zones,v_lines,v_orders]++[])) (upd (upd H1 dx (.own x)) x (.ins A.Y1 dx [])) (fun v H2=>v=.non∧Q (.ref x) H2) E:=
 fun x dx n1 n2 _=>⟨x,dx,v_low,v_high,v_zones,v_lines,v_orders,rfl,Jb,fun H' k1 h=>⟨rfl,k x dx H' n1 (Jg.made n1 n2 k1) h⟩⟩
noncomputable def JfE (v_most v_least_group v_greatest_group:V):List (Str×V):=[("most",v_most),("least_group",v_least_group),("greatest_group",v_greatest_group)]
noncomputable def Jcj (A:Adr):Sp:=fun vs H Q _=>∃(p dx:Addr) (v_most v_least_group v_greatest_group:V),vs=[.ref p,v_most,v_least_group,v_greatest_group]∧H p=some (.ins A.JZ dx [])∧∀H':Hp,(∀b o,H b=some o→b≠p→H' b=some o)→H' p=some (.ins A.JZ dx (JfE v_most v_least_group v_greatest_group))→Q .non H'
theorem JhM {P:Program} {w:World} {K:PySem.W.Frag} {mg:Str→Option Value} {base:Heap} {A:Adr} (T:Txt w K mg A):JF P w K mg base CX0 1 A.W7 A.Wz ["self","most","least_group","greatest_group"] (Jcj A):=by
 refine T.JdG.F.ok Jhv (fun vs H Q E h=>?_) (fun cdv AA outer s H vs Q E hr h=>?_)
 ·obtain⟨p,dx,v_most,v_least_group,v_greatest_group,rfl,_⟩:=h
  rfl
 ·obtain⟨p,dx,v_most,v_least_group,v_greatest_group,rfl,hp,k⟩:=h
  refine⟨_,(Jd (JS (pv 0) (pv 1) rfl) (Jd (JS (pv 0) (pv 2) rfl) (Jf (JS (pv 0) (pv 3) rfl)))),?_⟩
  refine⟨_,rfl,_,rfl,p,A.JZ,dx,_,rfl,hp,T.UX,T.Jct,(by show 0<1000;decide),?_⟩
  refine⟨_,rfl,_,rfl,p,A.JZ,dx,_,rfl,Jb,T.UX,T.UD,(by show 1<1000;decide),?_⟩
  refine⟨_,rfl,_,rfl,p,A.JZ,dx,_,rfl,Jb,T.UX,T.QX,(by show 2<1000;decide),?_⟩
  refine k _ (fun b o e hb=>?_) (Eq.trans Jb rfl)
  rw[Jh hb,Jh hb,Jh hb]
  exact e
theorem Jli {A:Adr} {H1:Hp} {Q:VK} {E:XK} {v_most v_least_group v_greatest_group:V} (k:∀(x dx:Addr) (H':Hp),H1 x=none→Jg H1 H'→H' x=some (.ins A.JZ dx (JfE v_most v_least_group v_greatest_group))→Q (.ref x) H'):
  ∀x dx,H1 x=none→H1 dx=none→dx≠x→Jcj A (.ref x::([v_most,v_least_group,v_greatest_group]++[])) (upd (upd H1 dx (.own x)) x (.ins A.JZ dx [])) (fun v H2=>v=.non∧Q (.ref x) H2) E:=
 fun x dx n1 n2 _=>⟨x,dx,v_most,v_least_group,v_greatest_group,rfl,Jb,fun H' k1 h=>⟨rfl,k x dx H' n1 (Jg.made n1 n2 k1) h⟩⟩
noncomputable def Jjw (v_net v_groups v_rooms:V):List (Str×V):=[("net",v_net),("groups",v_groups),("rooms",v_rooms)]
noncomputable def Jp0 (v_least v_greatest v_told:V):List (Str×V):=[("least",v_least),("greatest",v_greatest),("told",v_told)]
noncomputable def JlP (v_tail v_head v_least v_most:V):List (Str×V):=[("tail",v_tail),("head",v_head),("least",v_least),("most",v_most)]
noncomputable def Jck (A:Adr):Sp:=fun vs H Q _=>∃(p dx:Addr) (v_tail v_head v_least v_most:V),vs=[.ref p,v_tail,v_head,v_least,v_most]∧H p=some (.ins A.WE dx [])∧∀H':Hp,(∀b o,H b=some o→b≠p→H' b=some o)→H' p=some (.ins A.WE dx (JlP v_tail v_head v_least v_most))→Q .non H'
theorem YY {P:Program} {w:World} {K:PySem.W.Frag} {mg:Str→Option Value} {base:Heap} {A:Adr} (T:Txt w K mg A):JF P w K mg base CX0 1 A.Jd9 A.JcE ["self","tail","head","least","most"] (Jck A):=by
 refine T.YT.F.ok JoS (fun vs H Q E h=>?_) (fun cdv AA outer s H vs Q E hr h=>?_)
 ·obtain⟨p,dx,v_tail,v_head,v_least,v_most,rfl,_⟩:=h
  rfl
 ·obtain⟨p,dx,v_tail,v_head,v_least,v_most,rfl,hp,k⟩:=h
  refine⟨_,(Jd (JS (pv 0) (pv 1) rfl) (Jd (JS (pv 0) (pv 2) rfl) (Jd (JS (pv 0) (pv 3) rfl) (Jf (JS (pv 0) (pv 4) rfl))))),?_⟩
  refine⟨_,rfl,_,rfl,p,A.WE,dx,_,rfl,hp,T.Q3,T.Uv,(by show 0<1000;decide),?_⟩
  refine⟨_,rfl,_,rfl,p,A.WE,dx,_,rfl,Jb,T.Q3,T.Uw,(by show 1<1000;decide),?_⟩
  refine⟨_,rfl,_,rfl,p,A.WE,dx,_,rfl,Jb,T.Q3,T.U6,(by show 2<1000;decide),?_⟩
  refine⟨_,rfl,_,rfl,p,A.WE,dx,_,rfl,Jb,T.Q3,T.WJ,(by show 3<1000;decide),?_⟩
  refine k _ (fun b o e hb=>?_) (Eq.trans Jb rfl)
  rw[Jh hb,Jh hb,Jh hb,Jh hb]
  exact e
theorem Jpp {A:Adr} {H1:Hp} {Q:VK} {E:XK} {v_tail v_head v_least v_most:V} (k:∀(x dx:Addr) (H':Hp),H1 x=none→Jg H1 H'→H' x=some (.ins A.WE dx (JlP v_tail v_head v_least v_most))→Q (.ref x) H'):
  ∀x dx,H1 x=none→H1 dx=none→dx≠x→Jck A (.ref x::([v_tail,v_head,v_least,v_most]++[])) (upd (upd H1 dx (.own x)) x (.ins A.WE dx [])) (fun v H2=>v=.non∧Q (.ref x) H2) E:=
 fun x dx n1 n2 _=>⟨x,dx,v_tail,v_head,v_least,v_most,rfl,Jb,fun H' k1 h=>⟨rfl,k x dx H' n1 (Jg.made n1 n2 k1) h⟩⟩
noncomputable def Jav (v_groups v_spares:V):List (Str×V):=[("groups",v_groups),("spares",v_spares)]
noncomputable def JiX (v_told v_shares v_flows:V):List (Str×V):=[("told",v_told),("shares",v_shares),("flows",v_flows)]
noncomputable def Jem (A:Adr):Sp:=fun vs H Q _=>∃(p dx:Addr) (v_told v_shares v_flows:V),vs=[.ref p,v_told,v_shares,v_flows]∧H p=some (.ins A.Qw dx [])∧∀H':Hp,(∀b o,H b=some o→b≠p→H' b=some o)→H' p=some (.ins A.Qw dx (JiX v_told v_shares v_flows))→Q .non H'
theorem JjX {P:Program} {w:World} {K:PySem.W.Frag} {mg:Str→Option Value} {base:Heap} {A:Adr} (T:Txt w K mg A):JF P w K mg base CX0 1 A.VO A.YH ["self","told","shares","flows"] (Jem A):=by
 refine T.JfF.F.ok JjK (fun vs H Q E h=>?_) (fun cdv AA outer s H vs Q E hr h=>?_)
 ·obtain⟨p,dx,v_told,v_shares,v_flows,rfl,_⟩:=h
  rfl
 ·obtain⟨p,dx,v_told,v_shares,v_flows,rfl,hp,k⟩:=h
  refine⟨_,(Jd (JS (pv 0) (pv 1) rfl) (Jd (JS (pv 0) (pv 2) rfl) (Jf (JS (pv 0) (pv 3) rfl)))),?_⟩
  refine⟨_,rfl,_,rfl,p,A.Qw,dx,_,rfl,hp,T.JW,T.Us,(by show 0<1000;decide),?_⟩
  refine⟨_,rfl,_,rfl,p,A.Qw,dx,_,rfl,Jb,T.JW,T.JU,(by show 1<1000;decide),?_⟩
  refine⟨_,rfl,_,rfl,p,A.Qw,dx,_,rfl,Jb,T.JW,T.Q4,(by show 2<1000;decide),?_⟩
  refine k _ (fun b o e hb=>?_) (Eq.trans Jb rfl)
  rw[Jh hb,Jh hb,Jh hb]
  exact e
theorem JnY {A:Adr} {H1:Hp} {Q:VK} {E:XK} {v_told v_shares v_flows:V} (k:∀(x dx:Addr) (H':Hp),H1 x=none→Jg H1 H'→H' x=some (.ins A.Qw dx (JiX v_told v_shares v_flows))→Q (.ref x) H'):
  ∀x dx,H1 x=none→H1 dx=none→dx≠x→Jem A (.ref x::([v_told,v_shares,v_flows]++[])) (upd (upd H1 dx (.own x)) x (.ins A.Qw dx [])) (fun v H2=>v=.non∧Q (.ref x) H2) E:=
 fun x dx n1 n2 _=>⟨x,dx,v_told,v_shares,v_flows,rfl,Jb,fun H' k1 h=>⟨rfl,k x dx H' n1 (Jg.made n1 n2 k1) h⟩⟩
noncomputable def Jre (v_place v_numbers v_lists:V):List (Str×V):=[("place",v_place),("numbers",v_numbers),("lists",v_lists)]
noncomputable def Jnt (A:Adr):Sp:=fun vs H Q _=>∃(p dx:Addr) (v_place v_numbers v_lists:V),vs=[.ref p,v_place,v_numbers,v_lists]∧H p=some (.ins A.YU dx [])∧∀H':Hp,(∀b o,H b=some o→b≠p→H' b=some o)→H' p=some (.ins A.YU dx (Jre v_place v_numbers v_lists))→Q .non H'
theorem JnV {P:Program} {w:World} {K:PySem.W.Frag} {mg:Str→Option Value} {base:Heap} {A:Adr} (T:Txt w K mg A):JF P w K mg base CX0 1 A.JcO A.Jbi ["self","place","numbers","lists"] (Jnt A):=by
 refine T.Jjy.F.ok Jny (fun vs H Q E h=>?_) (fun cdv AA outer s H vs Q E hr h=>?_)
 ·obtain⟨p,dx,v_place,v_numbers,v_lists,rfl,_⟩:=h
  rfl
 ·obtain⟨p,dx,v_place,v_numbers,v_lists,rfl,hp,k⟩:=h
  refine⟨_,(Jd (JS (pv 0) (pv 1) rfl) (Jd (JS (pv 0) (pv 2) rfl) (Jf (JS (pv 0) (pv 3) rfl)))),?_⟩
  refine⟨_,rfl,_,rfl,p,A.YU,dx,_,rfl,hp,T.Jz,T.Jr,(by show 0<1000;decide),?_⟩
  refine⟨_,rfl,_,rfl,p,A.YU,dx,_,rfl,Jb,T.Jz,T.Jo,(by show 1<1000;decide),?_⟩
  refine⟨_,rfl,_,rfl,p,A.YU,dx,_,rfl,Jb,T.Jz,T.Wl,(by show 2<1000;decide),?_⟩
  refine k _ (fun b o e hb=>?_) (Eq.trans Jb rfl)
  rw[Jh hb,Jh hb,Jh hb]
  exact e
noncomputable def Jic (v_net:V):List (Str×V):=[("net",v_net)]
end Zm
namespace Zm
open Vbemae
theorem Jmz:total []=0:=rfl
theorem JG (a:Int) (l:List Int):total (a::l)=a+total l:=rfl
theorem Ql:∀(l r:List Int),total (l++r)=total l+total r
 |[],r=>by rw[List.nil_append,Jmz];omega
 |a::l,r=>by rw[List.cons_append,JG,JG,Ql l r];omega
theorem Jkw {α:Type} {f g:α→Int}:∀(l:List α),(∀a∈l,f a≤g a)→total (l.map f)≤total (l.map g)
 |[],_=>Int.le_refl _
 |a::l,h=>by
  have h1:=h a (List.mem_cons_self ..)
  have h2:=Jkw l fun b hb=>h b (List.mem_cons_of_mem _ hb)
  simp only[List.map_cons,JG];omega
theorem JfI {α:Type} {f g h k:α→Int}:∀(l:List α),(∀a∈l,f a+g a≤h a+k a)→total (l.map f)+total (l.map g)≤total (l.map h)+total (l.map k)
 |[],_=>Int.le_refl _
 |a::l,q=>by
  have h1:=q a (List.mem_cons_self ..)
  have h2:=JfI l fun b hb=>q b (List.mem_cons_of_mem _ hb)
  simp only[List.map_cons,JG];omega
theorem Ja3 {α:Type} {f g h:α→Int}:∀(l:List α),(∀a∈l,f a=g a+h a)→total (l.map f)=total (l.map g)+total (l.map h)
 |[],_=>by simp only[List.map_nil,Jmz];omega
 |a::l,q=>by
  have h1:=q a (List.mem_cons_self ..)
  have h2:=Ja3 l fun b hb=>q b (List.mem_cons_of_mem _ hb)
  simp only[List.map_cons,JG];omega
theorem JC {α:Type} {f g:α→Int} (l:List α) (h:∀a∈l,f a=g a):total (l.map f)=total (l.map g):=by
 rw[List.map_congr_left h]
theorem Jby {α:Type}:∀(l:List α),total (l.map fun _=>(0:Int))=0
 |[]=>rfl
 |_::l=>by rw[List.map_cons,JG,Jby l];rfl
structure JrT (N:Net) (o:Order):Prop where
 zone:o.zone<N.zones
 lo:N.lo≤o.price
 hi:o.price≤N.hi
 am:0≤o.amount
structure Jum (N:Net) (l:Line):Prop where
 a:l.a<N.zones
 b:l.b<N.zones
 ne:l.a≠l.b
 forth:0≤l.forth
 back:0≤l.back
structure Ok (N:Net):Prop where
 bounds:N.lo≤N.hi
 orders:∀o∈N.orders,JrT N o
 lines:∀l∈N.lines,Jum N l
noncomputable def hO (o:Order) (q:Int):Int:=if o.buy=true then o.amount*max 0 (o.price-q) else o.amount*max 0 (q-o.price)
noncomputable def hL (l:Line) (pa pb:Int):Int:=l.forth*max 0 (pb-pa)+l.back*max 0 (pa-pb)
noncomputable def F (N:Net) (p:Nat→Int):Int:=total (N.orders.map fun o=>hO o (p o.zone))+total (N.lines.map fun l=>hL l (p l.a) (p l.b))
theorem Jow {N:Net} (K:Ok N) {p q:Nat→Int} (h:∀z,z<N.zones→p z=q z):F N p=F N q:=by
 unfold F
 rw[JC N.orders fun o ho=>by show hO o (p o.zone)=hO o (q o.zone);rw[h _ (K.orders o ho).zone],
  JC N.lines fun l hl=>by show hL l (p l.a) (p l.b)=hL l (q l.a) (q l.b);rw[h _ (K.lines l hl).a,h _ (K.lines l hl).b]]
theorem JfP {c x y z w:Int} (hc:0≤c) (h:x+y≤z+w):c*x+c*y≤c*z+c*w:=by
 rw[←Int.mul_add,←Int.mul_add]
 exact Int.mul_le_mul_of_nonneg_left h hc
theorem mz1 {x t:Int} (h:t<x):max 0 (x-(t+1))=max 0 (x-t)-1:=by omega
theorem mz2 {x t:Int} (h:¬t<x):max 0 (x-(t+1))=max 0 (x-t):=by omega
theorem mz3 {x t:Int} (h:t<x):max 0 (t+1-x)=max 0 (t-x):=by omega
theorem mz4 {x t:Int} (h:¬t<x):max 0 (t+1-x)=max 0 (t-x)+1:=by omega
theorem mn1 {x t:Int} (h:t<x):min x t=t:=Int.min_eq_right (Int.le_of_lt h)
theorem mn2 {x t:Int} (h:t<x):min x (t+1)=t+1:=Int.min_eq_right h
theorem mn3 {x t:Int} (h:¬t<x):min x t=x:=Int.min_eq_left (Int.not_lt.mp h)
theorem mn4 {x t:Int} (h:¬t<x):min x (t+1)=x:=Int.min_eq_left (Int.le_trans (Int.not_lt.mp h) (Int.le_add_one (Int.le_refl t)))
theorem sh0 (w u k:Int):w+k-(u+k)=w-u:=by omega
theorem sh1 (w u k:Int):w+(k-1)-(u+(k-0))=w-(u+1):=by omega
theorem sh2 (w u k:Int):w+(k-0)-(u+(k-1))=w+1-u:=by omega
theorem so1 (w p:Int):w-1-p=w-(p+1):=by omega
theorem so2 (w p:Int):p-(w-1)=p+1-w:=by omega
theorem cvx {x y u v:Int} (h:u+v=x+y) (h1:u≤x∨u≤y) (h2:v≤x∨v≤y):max 0 u+max 0 v≤max 0 x+max 0 y:=by omega
theorem Ju7 (p q r s:Int):max 0 ((q+s)/2-(p+r)/2)+max 0 ((q+s-(q+s)/2)-(p+r-(p+r)/2))≤max 0 (q-p)+max 0 (s-r):=cvx (by omega) (by omega) (by omega)
theorem dbl (q:Int):(q+q)/2=q:=by omega
theorem clp {a b:Int} (h:a≤b) (p q:Int):max 0 (max a (min q b)-max a (min p b))≤max 0 (q-p):=by omega
theorem Jxa {a b q:Int} (h1:a≤q) (h2:q≤b):max a (min q b)=q:=by rw[Int.min_eq_left h2,Int.max_eq_right h1]
theorem Jxd {N:Net} (K:Ok N) (p q:Nat→Int):
  F N (fun z=>(p z+q z)/2)+F N (fun z=>p z+q z-(p z+q z)/2)≤F N p+F N q:=by
 dsimp only[F]
 have h1:=JfI (f:=fun o=>hO o ((p o.zone+q o.zone)/2)) (g:=fun o=>hO o (p o.zone+q o.zone-(p o.zone+q o.zone)/2))
  (h:=fun o=>hO o (p o.zone)) (k:=fun o=>hO o (q o.zone)) N.orders fun o ho=>by
   have am:=(K.orders o ho).am
   show hO o _+hO o _≤hO o _+hO o _
   unfold hO
   have d:=dbl o.price
   split
   ·have:=Ju7 (p o.zone) o.price (q o.zone) o.price
    rw[d,Int.add_sub_cancel] at this
    exact JfP am this
   ·have:=Ju7 o.price (p o.zone) o.price (q o.zone)
    rw[d,Int.add_sub_cancel] at this
    exact JfP am this
 have h2:=JfI (f:=fun l=>hL l ((p l.a+q l.a)/2) ((p l.b+q l.b)/2)) (g:=fun l=>hL l (p l.a+q l.a-(p l.a+q l.a)/2) (p l.b+q l.b-(p l.b+q l.b)/2))
  (h:=fun l=>hL l (p l.a) (p l.b)) (k:=fun l=>hL l (q l.a) (q l.b)) N.lines fun l hl=>by
   have hf:=(K.lines l hl).forth
   have hb:=(K.lines l hl).back
   show hL l _ _+hL l _ _≤hL l _ _+hL l _ _
   unfold hL
   have e1:=JfP hf (Ju7 (p l.a) (p l.b) (q l.a) (q l.b))
   have e2:=JfP hb (Ju7 (p l.b) (p l.a) (q l.b) (q l.a))
   omega
 omega
theorem Je2 (c x:Int):c*(x-1)=c*x-c:=by rw[Int.mul_sub,Int.mul_one]
theorem V0 (c x:Int):c*(x+1)=c*x+c:=by rw[Int.mul_add,Int.mul_one]
theorem JrU {N:Net} (p:Nat→Int) (t:Int) (X:Nat) (K:Ok N) (hX:∀z,z<N.zones→X.testBit z=decide (t<p z)):
  F N (fun z=>min (p z) (t+1))=F N (fun z=>min (p z) t)-shortage N t X:=by
 dsimp only[F,shortage]
 have h1:=Ja3 (f:=fun o:Order=>hO o (min (p o.zone) t)) (g:=fun o:Order=>hO o (min (p o.zone) (t+1)))
  (h:=fun(o:Order)=>if X.testBit o.zone=true then(if o.buy=true then(if t<o.price then o.amount else 0) else(if o.price≤t then-o.amount else 0)) else 0) N.orders fun o ho=>by
   have hz:=hX _ (K.orders o ho).zone
   show hO o _=hO o _+_
   unfold hO
   rw[hz]
   cases hb:o.buy<;>by_cases c:t<p o.zone
   ·simp only[c,decide_true,if_true,Bool.false_eq_true,if_false]
    rw[mn1 c,mn2 c]
    split
    case isTrue g=>rw[mz4 (Int.not_lt.mpr g),V0,Int.add_neg_cancel_right]
    case isFalse g=>rw[mz3 (Int.not_le.mp g),Int.add_zero]
   ·simp only[c,decide_false,Bool.false_eq_true,if_false]
    rw[mn3 c,mn4 c,Int.add_zero]
   ·simp only[c,decide_true,if_true]
    rw[mn1 c,mn2 c]
    split
    case isTrue g=>rw[mz1 g,Je2,Int.sub_add_cancel]
    case isFalse g=>rw[mz2 g,Int.add_zero]
   ·simp only[c,decide_false,Bool.false_eq_true,if_false,if_true]
    rw[mn3 c,mn4 c,Int.add_zero]
 have h2:=Ja3 (f:=fun l:Line=>hL l (min (p l.a) (t+1)) (min (p l.b) (t+1))) (g:=fun l:Line=>hL l (min (p l.a) t) (min (p l.b) t))
  (h:=fun(l:Line)=>if X.testBit l.b=true∧X.testBit l.a=false then l.forth else if X.testBit l.a=true∧X.testBit l.b=false then l.back else 0) N.lines fun l hl=>by
   have ha:=hX _ (K.lines l hl).a
   have hb:=hX _ (K.lines l hl).b
   show hL l _ _=hL l _ _+_
   unfold hL
   rw[ha,hb]
   by_cases c:t<p l.a<;>by_cases d:t<p l.b
   ·rw[if_neg (by simp[c]),if_neg (by simp[d]),mn1 c,mn2 c,mn1 d,mn2 d,Int.sub_self,Int.sub_self,Int.add_zero]
   ·rw[if_neg (by simp[d]),if_pos (by simp[c,d]),mn1 c,mn2 c,mn3 d,mn4 d,mz2 d,mz4 d,V0,Int.add_assoc]
   ·rw[if_pos (by simp[c,d]),mn3 c,mn4 c,mn1 d,mn2 d,mz2 c,mz4 c,V0,Int.add_right_comm]
   ·rw[if_neg (by simp[d]),if_neg (by simp[c]),mn3 c,mn4 c,mn3 d,mn4 d,Int.add_zero]
 omega
theorem Jvr {N:Net} (K:Ok N) (p:Nat→Int):F N (fun z=>max N.lo (min (p z) N.hi))≤F N p:=by
 dsimp only[F]
 have h1:=Jkw (f:=fun o:Order=>hO o (max N.lo (min (p o.zone) N.hi))) (g:=fun o:Order=>hO o (p o.zone)) N.orders fun o ho=>by
  have q:=K.orders o ho
  show hO o _≤hO o _
  unfold hO
  have e:=Jxa q.lo q.hi
  split
  ·have:=clp K.bounds (p o.zone) o.price
   rw[e] at this
   exact Int.mul_le_mul_of_nonneg_left this q.am
  ·have:=clp K.bounds o.price (p o.zone)
   rw[e] at this
   exact Int.mul_le_mul_of_nonneg_left this q.am
 have h2:=Jkw (f:=fun l:Line=>hL l (max N.lo (min (p l.a) N.hi)) (max N.lo (min (p l.b) N.hi))) (g:=fun l:Line=>hL l (p l.a) (p l.b)) N.lines fun l hl=>by
  have q:=K.lines l hl
  show hL l _ _≤hL l _ _
  unfold hL
  exact Int.add_le_add (Int.mul_le_mul_of_nonneg_left (clp K.bounds _ _) q.forth) (Int.mul_le_mul_of_nonneg_left (clp K.bounds _ _) q.back)
 omega
noncomputable def Jc4 (N:Net) (t:Int) (X:Nat):Prop:=∀Y,shortage N t Y≤shortage N t X
theorem JoM {N:Net} (K:Ok N) {t:Int} {X Y:Nat} (h:∀z,z<N.zones→X.testBit z=Y.testBit z):shortage N t X=shortage N t Y:=by
 unfold shortage
 rw[JC N.orders fun o ho=>by rw[h _ (K.orders o ho).zone],JC N.lines fun l hl=>by rw[h _ (K.lines l hl).a,h _ (K.lines l hl).b]]
theorem Jsi {N:Net} (K:Ok N) (t:Int) (X:Nat):shortage N t (X%2^N.zones)=shortage N t X:=
 JoM K fun z hz=>by rw[Nat.testBit_mod_two_pow];simp[hz]
theorem Ji3 {N:Net} (K:Ok N) {s t:Int} (hst:s≤t) (X Y:Nat):
  shortage N s X+shortage N t Y≤shortage N s (X|||Y)+shortage N t (X&&& Y):=by
 unfold shortage
 have h1:=JfI
  (f:=fun(o:Order)=>if X.testBit o.zone=true then(if o.buy=true then(if s<o.price then o.amount else 0) else(if o.price≤s then-o.amount else 0)) else 0)
  (g:=fun(o:Order)=>if Y.testBit o.zone=true then(if o.buy=true then(if t<o.price then o.amount else 0) else(if o.price≤t then-o.amount else 0)) else 0)
  (h:=fun(o:Order)=>if(X|||Y).testBit o.zone=true then(if o.buy=true then(if s<o.price then o.amount else 0) else(if o.price≤s then-o.amount else 0)) else 0)
  (k:=fun(o:Order)=>if(X&&& Y).testBit o.zone=true then(if o.buy=true then(if t<o.price then o.amount else 0) else(if o.price≤t then-o.amount else 0)) else 0)
  N.orders fun o ho=>by
   have am:=(K.orders o ho).am
   rw[Nat.testBit_or,Nat.testBit_and]
   cases X.testBit o.zone<;>cases Y.testBit o.zone<;>cases o.buy<;>simp only[Bool.or_true,Bool.or_false,Bool.and_true,Bool.and_false,Bool.false_eq_true,if_true,if_false]<;>(repeat' split)<;>omega
 have h2:=JfI
  (f:=fun(l:Line)=>if(X|||Y).testBit l.b=true∧(X|||Y).testBit l.a=false then l.forth else if(X|||Y).testBit l.a=true∧(X|||Y).testBit l.b=false then l.back else 0)
  (g:=fun(l:Line)=>if(X&&& Y).testBit l.b=true∧(X&&& Y).testBit l.a=false then l.forth else if(X&&& Y).testBit l.a=true∧(X&&& Y).testBit l.b=false then l.back else 0)
  (h:=fun(l:Line)=>if X.testBit l.b=true∧X.testBit l.a=false then l.forth else if X.testBit l.a=true∧X.testBit l.b=false then l.back else 0)
  (k:=fun(l:Line)=>if Y.testBit l.b=true∧Y.testBit l.a=false then l.forth else if Y.testBit l.a=true∧Y.testBit l.b=false then l.back else 0)
  N.lines fun l hl=>by
   have hf:=(K.lines l hl).forth
   have hb:=(K.lines l hl).back
   rw[Nat.testBit_or,Nat.testBit_and,Nat.testBit_or,Nat.testBit_and]
   cases X.testBit l.a<;>cases X.testBit l.b<;>cases Y.testBit l.a<;>cases Y.testBit l.b<;>simp<;>omega
 omega
theorem Jc4.meet {N:Net} (K:Ok N) {s t:Int} (hst:s≤t) {X Y:Nat} (hX:Jc4 N s X) (hY:Jc4 N t Y):Jc4 N t (X&&& Y):=fun Z=>by
 have h1:=Ji3 K hst X Y
 have h2:=hX (X|||Y)
 have h3:=hY Z
 omega
theorem Jc4.join {N:Net} (K:Ok N) {t:Int} {X Y:Nat} (hX:Jc4 N t X) (hY:Jc4 N t Y):Jc4 N t (X|||Y):=fun Z=>by
 have h1:=Ji3 K (Int.le_refl t) X Y
 have h2:=hY (X&&& Y)
 have h3:=hX Z
 omega
theorem JhT {α:Type} (f:α→Int):∀(l:List α) (m:Int),m≤l.foldl (fun m x=>max m (f x)) m
 |[],m=>Int.le_refl _
 |a::l,m=>by
  have:=JhT f l (max m (f a))
  rw[List.foldl_cons];omega
theorem Jgu {α:Type} (f:α→Int):∀(l:List α) (m:Int) (a:α),a∈l→f a≤l.foldl (fun m x=>max m (f x)) m
 |b::l,m,a,h=>by
  rw[List.foldl_cons]
  cases h with
  |head=>have:=JhT f l (max m (f b));omega
  |tail _ h=>exact Jgu f l _ a h
theorem JhS {α:Type} (f:α→Int):∀(l:List α) (m:Int),l.foldl (fun m x=>max m (f x)) m=m∨∃a∈l,l.foldl (fun m x=>max m (f x)) m=f a
 |[],m=>.inl rfl
 |b::l,m=>by
  rw[List.foldl_cons]
  rcases JhS f l (max m (f b)) with h|⟨a,ha,h⟩
  ·rw[h]
   by_cases c:m≤f b
   ·exact .inr ⟨b,List.mem_cons_self ..,by omega⟩
   ·exact .inl (by omega)
  ·exact .inr ⟨a,List.mem_cons_of_mem _ ha,h⟩
theorem Jqe {N:Net} (t:Int):shortage N t 0=0:=by
 unfold shortage
 rw[JC N.orders (g:=fun _=>0) fun o _=>by simp,JC N.lines (g:=fun _=>0) fun l _=>by simp,Jby,Jby];rfl
theorem YO {n X:Nat}:X∈groups n↔X<2^n:=List.mem_range
theorem Jkx (N:Net) (t:Int):tight N t=(groups N.zones).filter fun X=>shortage N t X==mostShort N t:=by
 unfold tight mostShort
 simp only[List.foldl_map]
 rw[List.filter_map,List.map_map]
 have e1:((fun x:Nat×Int=>x.1)∘fun X=>(X,shortage N t X))=id:=rfl
 rw[e1,List.map_id];rfl
theorem Ja8 {N:Net} (K:Ok N) (t:Int) (Y:Nat):shortage N t Y≤mostShort N t:=by
 rw[←Jsi K t Y]
 exact Jgu _ _ _ _ (YO.mpr (Nat.mod_lt _ (Nat.two_pow_pos _)))
theorem JdS {N:Net} (t:Int):∃X,X<2^N.zones∧mostShort N t=shortage N t X:=by
 rcases JhS (shortage N t) (groups N.zones) 0 with h|⟨a,ha,h⟩
 ·exact⟨0,Nat.two_pow_pos _,by rw[Jqe];exact h⟩
 ·exact⟨a,YO.mp ha,h⟩
theorem Jdq {N:Net} (K:Ok N) {t:Int} {X:Nat}:X∈tight N t↔X<2^N.zones∧Jc4 N t X:=by
 rw[Jkx,List.mem_filter,YO,beq_iff_eq]
 obtain⟨Z,hZ,eZ⟩:=JdS (N:=N) t
 constructor
 ·rintro⟨h1,h2⟩
  exact⟨h1,fun Y=>by rw[h2];exact Ja8 K t Y⟩
 ·rintro⟨h1,h2⟩
  refine⟨h1,?_⟩
  have:=h2 Z
  have:=Ja8 K t X
  omega
theorem JgK {N:Net} (K:Ok N) (t:Int):∃X,X∈tight N t:=by
 obtain⟨Z,hZ,eZ⟩:=JdS (N:=N) t
 exact⟨Z,(Jdq K).mpr ⟨hZ,fun Y=>by rw[←eZ];exact Ja8 K t Y⟩⟩
theorem Jlh {N:Net} (K:Ok N) {t:Int}:∀(l:List Nat) (Y:Nat),Jc4 N t Y→(∀X∈l,∃s,s≤t∧Jc4 N s X)→∃Z,Jc4 N t Z∧∀z,Z.testBit z=(Y.testBit z&&l.all fun X=>X.testBit z)
 |[],Y,hY,_=>⟨Y,hY,fun z=>by simp⟩
 |X::l,Y,hY,h=>by
  obtain⟨s,hs,hX⟩:=h X (List.mem_cons_self ..)
  obtain⟨Z,hZ,e⟩:=Jlh K l (X&&& Y) (hX.meet K hs hY) fun X' hX'=>h X' (List.mem_cons_of_mem _ hX')
  refine⟨Z,hZ,fun z=>?_⟩
  rw[e z,Nat.testBit_and,List.all_cons]
  cases X.testBit z<;>cases Y.testBit z<;>simp
theorem Jpv {N:Net} (K:Ok N) {t:Int}:∀(l:List Nat) (Y:Nat),Jc4 N t Y→(∀X∈l,Jc4 N t X)→∃Z,Jc4 N t Z∧∀z,Z.testBit z=(Y.testBit z||l.any fun X=>X.testBit z)
 |[],Y,hY,_=>⟨Y,hY,fun z=>by simp⟩
 |X::l,Y,hY,h=>by
  obtain⟨Z,hZ,e⟩:=Jpv K l (X|||Y) ((h X (List.mem_cons_self ..)).join K hY) fun X' hX'=>h X' (List.mem_cons_of_mem _ hX')
  refine⟨Z,hZ,fun z=>?_⟩
  rw[e z,Nat.testBit_or,List.any_cons]
  cases X.testBit z<;>cases Y.testBit z<;>simp
theorem JbS {N:Net} {t:Int}:t∈levels N↔(t=N.lo∨∃o∈N.orders,o.price=t)∧N.lo≤t∧t<N.hi:=by
 unfold levels
 rw[List.mem_filter,List.mem_eraseDups,List.mem_cons,List.mem_map]
 simp
theorem Jr5 (l:List Int) (t:Int):(∀s∈l,¬s≤t)∨∃s∈l,s≤t∧∀r∈l,r≤t→r≤s:=by
 induction l with
 |nil=>exact .inl fun s h=>by simp at h
 |cons a l ih=>
  rcases ih with h|⟨s,hs,h1,h2⟩
  ·by_cases c:a≤t
   ·refine .inr ⟨a,List.mem_cons_self ..,c,fun r hr hrt=>?_⟩
    cases hr with
    |head=>exact Int.le_refl _
    |tail _ hr=>exact absurd hrt (h r hr)
   ·refine .inl fun s hs=>?_
    cases hs with
    |head=>exact c
    |tail _ hs=>exact h s hs
  ·by_cases c:a≤t∧s≤a
   ·refine .inr ⟨a,List.mem_cons_self ..,c.1,fun r hr hrt=>?_⟩
    cases hr with
    |head=>exact Int.le_refl _
    |tail _ hr=>have:=h2 r hr hrt;omega
   ·refine .inr ⟨s,List.mem_cons_of_mem _ hs,h1,fun r hr hrt=>?_⟩
    cases hr with
    |head=>omega
    |tail _ hr=>exact h2 r hr hrt
theorem JtN {N:Net} (K:Ok N) {t:Int} (h1:N.lo≤t) (h2:t<N.hi):∃s∈levels N,s≤t∧∀X,shortage N t X=shortage N s X:=by
 have hlo:N.lo∈levels N:=JbS.mpr ⟨.inl rfl,Int.le_refl _,by omega⟩
 rcases Jr5 (levels N) t with h|⟨s,hs,hst,hmax⟩
 ·exact absurd h1 (h _ hlo)
 ·refine⟨s,hs,hst,fun X=>?_⟩
  unfold shortage
  rw[JC N.orders fun o ho=>?_]
  have q:=K.orders o ho
  have hp:o.price≤t→o.price≤s:=fun hpt=>hmax _ (JbS.mpr ⟨.inr ⟨o,ho,rfl⟩,q.lo,by omega⟩) hpt
  have e1:(t<o.price)=(s<o.price):=by apply propext;constructor<;>intro h<;>omega
  have e2:(o.price≤t)=(o.price≤s):=by apply propext;constructor<;>intro h<;>omega
  simp only[e1,e2]
theorem Jc4.level {N:Net} {s t:Int} {X:Nat} (e:∀X,shortage N t X=shortage N s X) (h:Jc4 N s X):Jc4 N t X:=fun Y=>by
 rw[e,e];exact h Y
theorem JdQ (hi:Int) (holds:List Nat→Bool) (t:Int):∀(lad:List (Int×List Nat)),t<priceBy hi lad holds↔t<hi∧∀x∈lad,x.1≤t→holds x.2=true:=by
 suffices h:∀(lad:List (Int×List Nat)) (p:Int),t<lad.foldl (fun(p:Int) x=>if holds x.2=true then p else min p x.1) p↔t<p∧∀x∈lad,x.1≤t→holds x.2=true from fun lad=>h lad hi
 intro lad
 induction lad with
 |nil=>intro p;simp
 |cons x lad ih=>
  intro p
  rw[List.foldl_cons,ih]
  by_cases c:holds x.2=true
  ·simp[c]
  ·simp only[c,List.forall_mem_cons]
   constructor
   ·rintro⟨h1,h2⟩
    exact⟨by simp at h1;omega,fun h=>by simp at h1;omega,h2⟩
   ·rintro⟨h1,h2,h3⟩
    refine⟨?_,h3⟩
    have:¬x.1≤t:=fun q=>absurd (h2 q) (by simp)
    simp;omega
noncomputable def QM (N:Net) (holds:List Nat→Nat→Bool) (z:Nat):Int:=priceBy N.hi (ladder N) fun g=>holds g z
noncomputable def JlB (N:Net) (holds:List Nat→Nat→Bool):Prop:=∀s,∃U,Jc4 N s U∧∀z,U.testBit z=holds (tight N s) z
theorem Jhk {N:Net} (K:Ok N):JlB N inLeast:=fun s=>by
 obtain⟨Y,hY⟩:=JgK K s
 obtain⟨U,hU,e⟩:=Jlh K (t:=s) (tight N s) Y ((Jdq K).mp hY).2 fun X hX=>⟨s,Int.le_refl _,((Jdq K).mp hX).2⟩
 refine⟨U,hU,fun z=>?_⟩
 rw[e z]
 show(Y.testBit z&&(tight N s).all fun X=>X.testBit z)=(tight N s).all fun X=>X.testBit z
 cases h:(tight N s).all fun X=>X.testBit z
 ·simp
 ·rw[List.all_eq_true.mp h Y hY];rfl
theorem JjA {N:Net} (K:Ok N):JlB N inGreatest:=fun s=>by
 obtain⟨Y,hY⟩:=JgK K s
 obtain⟨U,hU,e⟩:=Jpv K (t:=s) (tight N s) Y ((Jdq K).mp hY).2 fun X hX=>((Jdq K).mp hX).2
 refine⟨U,hU,fun z=>?_⟩
 rw[e z]
 show(Y.testBit z||(tight N s).any fun X=>X.testBit z)=(tight N s).any fun X=>X.testBit z
 cases h:(tight N s).any fun X=>X.testBit z
 ·cases hy:Y.testBit z
  ·rfl
  ·have:((tight N s).any fun X=>X.testBit z)=true:=List.any_eq_true.mpr ⟨Y,hY,hy⟩
   rw[h] at this;cases this
 ·simp
theorem Jjm {N:Net} {holds:List Nat→Nat→Bool} (S:JlB N holds) (t:Int):∀(ls:List Int),∃l:List Nat,(∀X∈l,∃s,s≤t∧Jc4 N s X)∧∀z,(l.all fun X=>X.testBit z)=ls.all fun s=>!decide (s≤t)||holds (tight N s) z
 |[]=>⟨[],fun X h=>by simp at h,fun z=>rfl⟩
 |s::ls=>by
  obtain⟨l,h1,h2⟩:=Jjm S t ls
  by_cases c:s≤t
  ·obtain⟨U,hU,e⟩:=S s
   refine⟨U::l,fun X hX=>?_,fun z=>?_⟩
   ·cases hX with
    |head=>exact⟨s,c,hU⟩
    |tail _ hX=>exact h1 X hX
   ·rw[List.all_cons,List.all_cons,h2 z,e z];simp[c]
  ·exact⟨l,h1,fun z=>by rw[List.all_cons,h2 z];simp[c]⟩
theorem Jsx {N:Net} (K:Ok N) {holds:List Nat→Nat→Bool} (S:JlB N holds) {t:Int} (h1:N.lo≤t) (h2:t<N.hi):
  ∃Z,Jc4 N t Z∧∀z,Z.testBit z=decide (t<QM N holds z):=by
 obtain⟨s,hs,hst,es⟩:=JtN K h1 h2
 obtain⟨Y,hY,eY⟩:=S s
 obtain⟨l,hl,el⟩:=Jjm S t (levels N)
 obtain⟨Z,hZ,eZ⟩:=Jlh K l Y (hY.level es) hl
 refine⟨Z,hZ,fun z=>?_⟩
 rw[eZ z,el z,eY z]
 have key:((levels N).all fun s=>!decide (s≤t)||holds (tight N s) z)=decide (t<QM N holds z):=by
  rw[Bool.eq_iff_iff,decide_eq_true_iff,QM,JdQ,List.all_eq_true]
  constructor
  ·intro h
   refine⟨h2,fun x hx hxt=>?_⟩
   obtain⟨r,hr,rfl⟩:=List.mem_map.mp hx
   have:=h r hr
   have hxt':r≤t:=hxt
   simpa [hxt'] using this
  ·rintro⟨_,h⟩ r hr
   by_cases c:r≤t
   ·have:=h (r,tight N r) (List.mem_map.mpr ⟨r,hr,rfl⟩) c
    simp[this]
   ·simp[c]
 rw[key]
 cases hd:decide (t<QM N holds z)
 ·simp
 ·rw[hd] at key
  have:=List.all_eq_true.mp key s hs
  simp[hst] at this
  rw[this];rfl
theorem JiA (N:Net) (holds:List Nat→Nat→Bool) (z:Nat):QM N holds z≤N.hi:=by
 have:=JdQ N.hi (fun g=>holds g z) N.hi (ladder N)
 by_cases c:N.hi<QM N holds z
 ·have:=(this.mp c).1;omega
 ·omega
theorem Jiz {N:Net} (K:Ok N) (holds:List Nat→Nat→Bool) (z:Nat):N.lo≤QM N holds z:=by
 have h:=(JdQ N.hi (fun g=>holds g z) (N.lo-1) (ladder N)).mpr ⟨by have:=K.bounds;omega,fun x hx hxt=>by
  obtain⟨r,hr,rfl⟩:=List.mem_map.mp hx
  have:=(JbS.mp hr).2.1
  have hxt':r≤N.lo-1:=hxt
  omega⟩
 have h':N.lo-1<QM N holds z:=h
 omega
theorem Jov {N:Net} (K:Ok N) {holds:List Nat→Nat→Bool} (S:JlB N holds) (q:Nat→Int):F N (QM N holds)≤F N q:=by
 have hb:=K.bounds
 refine Int.le_trans ?_ (Jvr K q)
 have step:∀(k:Nat),N.lo+k≤N.hi→F N (fun z=>min (QM N holds z) (N.lo+k))≤F N (fun z=>min (max N.lo (min (q z) N.hi)) (N.lo+k)):=by
  intro k
  induction k with
  |zero=>
   intro _
   refine Int.le_of_eq (Jow K fun z _=>?_)
   exact(Int.min_eq_right (Int.le_trans (Int.le_of_eq (Int.add_zero _)) (Jiz K holds z))).trans (Int.min_eq_right (Int.le_trans (Int.le_of_eq (Int.add_zero _)) (Int.le_max_left _ _))).symm
  |succ k ih=>
   intro hk
   have ih':=ih (by omega)
   obtain⟨Z,hZ,eZ⟩:=Jsx K S (t:=N.lo+k) (by omega) (by omega)
   obtain⟨Y,eY⟩:∃Y:Nat,∀z,z<N.zones→Y.testBit z=decide (N.lo+k<max N.lo (min (q z) N.hi)):=by
    suffices h:∀(f:Nat→Bool) (n:Nat),∃Y:Nat,∀z,z<n→Y.testBit z=f z from h _ _
    intro f n
    induction n with
    |zero=>exact⟨0,fun z hz=>by omega⟩
    |succ n ih=>
     obtain⟨Y,hY⟩:=ih
     cases hf:f n
     ·refine⟨Y%2^n,fun z hz=>?_⟩
      rw[Nat.testBit_mod_two_pow]
      by_cases c:z<n
      ·simp[c,hY z c]
      ·have:z=n:=by omega
       subst this;simp[hf]
     ·refine⟨Y|||2^n,fun z hz=>?_⟩
      rw[Nat.testBit_or]
      by_cases c:z<n
      ·rw[hY z c,Nat.testBit_two_pow];simp;omega
      ·have:z=n:=by omega
       subst this;simp[hf]
   have e1:=JrU (QM N holds) (N.lo+k) Z K fun z _=>eZ z
   have e2:=JrU (fun z=>max N.lo (min (q z) N.hi)) (N.lo+k) Y K eY
   have h3:=hZ Y
   have c1:((k+1:Nat):Int)=(k:Int)+1:=by omega
   rw[c1,←Int.add_assoc,e1,e2]
   omega
 have h:=step (N.hi-N.lo).toNat (by omega)
 have e:N.lo+((N.hi-N.lo).toNat:Int)=N.hi:=by omega
 rw[e] at h
 have a1:F N (fun z=>min (QM N holds z) N.hi)=F N (QM N holds):=Jow K fun z _=>by
  exact Int.min_eq_left (JiA N holds z)
 have a2:F N (fun z=>min (max N.lo (min (q z) N.hi)) N.hi)=F N (fun z=>max N.lo (min (q z) N.hi)):=Jow K fun z _=>by
  exact Int.min_eq_left (Int.max_le.mpr ⟨hb,Int.min_le_right _ _⟩)
 rw[a1,a2] at h
 exact h
noncomputable def told (N:Net) (z:Nat):Int:=(QM N inLeast z+QM N inGreatest z)/2
theorem JmR (N:Net):leasts N=(List.range N.zones).map (QM N inLeast):=rfl
theorem JhR (N:Net):greatests N=(List.range N.zones).map (QM N inGreatest):=rfl
theorem Jhj {α:Type} (f g:α→Int) (m:Int→Int→Int):∀(l:List α),List.zipWith m (l.map f) (l.map g)=l.map fun a=>m (f a) (g a)
 |[]=>rfl
 |a::l=>by rw[List.map_cons,List.map_cons,List.zipWith_cons_cons,Jhj f g m l,List.map_cons]
theorem JmJ (N:Net):prices N=(List.range N.zones).map (told N):=by
 show List.zipWith middle (leasts N) (greatests N)=_
 rw[JmR,JhR,Jhj]
 refine List.map_congr_left fun z _=>?_
 show(_+_:Int).fdiv 2=_
 rw[Int.fdiv_eq_ediv_of_nonneg _ (by decide)];rfl
theorem Qp {N:Net} {z:Nat} (h:z<N.zones):priceAt (prices N) z=told N z:=by
 unfold priceAt
 rw[JmJ,List.getD_eq_getElem?_getD,List.getElem?_map,List.getElem?_range h];rfl
theorem Jrd {N:Net} (K:Ok N) (q:Nat→Int):F N (told N)≤F N q:=by
 have h1:=Jxd K (QM N inLeast) (QM N inGreatest)
 have h2:=Jov K (Jhk K) (fun z=>QM N inLeast z+QM N inGreatest z-(QM N inLeast z+QM N inGreatest z)/2)
 have h3:=Jov K (JjA K) (QM N inLeast)
 have h4:=Jov K (Jhk K) q
 have h5:F N (told N)=F N (fun z=>(QM N inLeast z+QM N inGreatest z)/2):=rfl
 omega
noncomputable def sp1 (X:Nat) (e:Arc):Int:=(if X.testBit e.tail=true∧X.testBit e.head=false then e.hi else 0)-(if X.testBit e.head=true∧X.testBit e.tail=false then e.lo else 0)
noncomputable def JH (l:List Arc) (X:Nat):Int:=total (l.map (sp1 X))
theorem JkB (l:List Arc) (X:Nat):outMost l X-inLeastSum l X=JH l X:=by
 have h:=Ja3 (f:=fun(e:Arc)=>if X.testBit e.tail=true∧X.testBit e.head=false then e.hi else 0) (g:=fun(e:Arc)=>if X.testBit e.head=true∧X.testBit e.tail=false then e.lo else 0) (h:=sp1 X) l fun e _=>by unfold sp1;omega
 unfold outMost inLeastSum JH
 omega
theorem UC (e:Arc) (l:List Arc) (X:Nat):JH (e::l) X=sp1 X e+JH l X:=rfl
theorem Jnl (l r:List Arc) (X:Nat):JH (l++r) X=JH l X+JH r X:=by
 unfold JH
 rw[List.map_append,Ql]
theorem Jlw {N:Net} (K:Ok N) {X:Nat} (hX:X.testBit N.zones=false):
  total (N.orders.map fun o=>sp1 X (orderArc N (prices N) o))=total (N.orders.map fun o=>hO o (told N o.zone-if X.testBit o.zone=true then 1 else 0))-total (N.orders.map fun o=>hO o (told N o.zone)):=by
 have h:=Ja3 (f:=fun o=>hO o (told N o.zone-if X.testBit o.zone=true then 1 else 0)) (g:=fun o=>hO o (told N o.zone)) (h:=fun o=>sp1 X (orderArc N (prices N) o)) N.orders fun o ho=>by
  have q:=K.orders o ho
  unfold sp1 orderArc hO
  simp only[Qp q.zone]
  generalize told N o.zone=w
  cases hb:o.buy
  ·simp only[Bool.false_eq_true,if_false,hX,false_and,true_and,and_true]
   cases hz:X.testBit o.zone
   ·simp
   ·simp only[if_true,Bool.true_eq_false,Bool.false_eq_true,if_false,and_self]
    by_cases c:o.price<w
    ·rw[so1,mz1 c,Je2];simp[c];omega
    ·rw[so1,mz2 c];simp[c]
  ·simp only[Bool.false_eq_true,if_false,if_true,hX,false_and,true_and,and_true]
   cases hz:X.testBit o.zone
   ·simp
   ·simp only[if_true,Bool.true_eq_false,Bool.false_eq_true,if_false,and_self]
    by_cases c:o.price<w
    ·rw[so2,mz3 c];simp[c]
    ·rw[so2,mz4 c,V0];simp[c]
 omega
theorem Jml {N:Net} (K:Ok N) {X:Nat} (hX:X.testBit N.zones=true):
  total (N.orders.map fun o=>sp1 X (orderArc N (prices N) o))=total (N.orders.map fun o=>hO o (told N o.zone+if X.testBit o.zone=true then 0 else 1))-total (N.orders.map fun o=>hO o (told N o.zone)):=by
 have h:=Ja3 (f:=fun o=>hO o (told N o.zone+if X.testBit o.zone=true then 0 else 1)) (g:=fun o=>hO o (told N o.zone)) (h:=fun o=>sp1 X (orderArc N (prices N) o)) N.orders fun o ho=>by
  have q:=K.orders o ho
  unfold sp1 orderArc hO
  simp only[Qp q.zone]
  generalize told N o.zone=w
  cases hb:o.buy
  ·simp only[Bool.false_eq_true,if_false,hX,false_and,true_and,and_true]
   cases hz:X.testBit o.zone
   ·simp only[if_true,Bool.true_eq_false,Bool.false_eq_true,if_false,and_self]
    by_cases c:w<o.price
    ·rw[mz3 c];simp[c]
    ·rw[mz4 c,V0];simp[c]
   ·simp
  ·simp only[Bool.false_eq_true,if_false,if_true,hX,false_and,true_and,and_true]
   cases hz:X.testBit o.zone
   ·simp only[if_true,Bool.true_eq_false,Bool.false_eq_true,if_false,and_self]
    by_cases c:w<o.price
    ·rw[mz1 c,Je2];simp[c];omega
    ·rw[mz2 c];simp[c]
   ·simp
 omega
theorem Jm1 {N:Net} (K:Ok N) {X:Nat} (d:Nat→Int) (k:Int) (hd:∀z,z<N.zones→d z=k-if X.testBit z=true then 1 else 0):
  total (N.lines.map fun l=>sp1 X (lineArc (prices N) l))=total (N.lines.map fun l=>hL l (told N l.a+d l.a) (told N l.b+d l.b))-total (N.lines.map fun l=>hL l (told N l.a) (told N l.b)):=by
 have h:=Ja3 (f:=fun l=>hL l (told N l.a+d l.a) (told N l.b+d l.b)) (g:=fun l=>hL l (told N l.a) (told N l.b)) (h:=fun l=>sp1 X (lineArc (prices N) l)) N.lines fun l hl=>by
  have q:=K.lines l hl
  rw[hd _ q.a,hd _ q.b]
  unfold lineArc hL
  simp only[Qp q.a,Qp q.b]
  generalize told N l.a=u
  generalize told N l.b=w
  cases ha:X.testBit l.a<;>cases hb:X.testBit l.b
  ·simp only[Bool.false_eq_true,if_false,sh0]
   unfold sp1
   split
   ·simp[ha,hb]
   ·split<;>simp[ha,hb]
  ·simp only[Bool.false_eq_true,if_false,if_true,sh1,sh2]
   by_cases c:u<w
   ·rw[mz1 c,mz3 c,Je2,if_pos c];simp[sp1,ha,hb];omega
   ·rw[mz2 c,mz4 c,V0,if_neg c]
    split<;>simp[sp1,ha,hb]<;>omega
  ·simp only[Bool.false_eq_true,if_false,if_true,sh1,sh2]
   by_cases c:w<u
   ·rw[mz1 c,mz3 c,Je2,if_neg (by omega),if_pos c];simp[sp1,ha,hb];omega
   ·rw[mz2 c,mz4 c,V0]
    simp only[if_neg c]
    split<;>simp[sp1,ha,hb]<;>omega
  ·simp only[if_true,sh0]
   unfold sp1
   split
   ·simp[ha,hb]
   ·split<;>simp[ha,hb]
 omega
theorem Juc {N:Net} (K:Ok N) (X:Nat):0≤JH (arcs N (prices N)) X:=by
 unfold arcs
 rw[Jnl]
 unfold JH
 rw[List.map_map,List.map_map]
 show 0≤total (N.orders.map fun o=>sp1 X (orderArc N (prices N) o))+total (N.lines.map fun l=>sp1 X (lineArc (prices N) l))
 cases hX:X.testBit N.zones
 ·rw[Jlw K hX,Jm1 K (X:=X) (fun z=>0-if X.testBit z=true then 1 else 0) 0 fun _ _=>rfl]
  have h:=Jrd K (fun z=>told N z+(0-if X.testBit z=true then 1 else 0))
  dsimp only[F] at h
  have e:∀z,told N z+(0-if X.testBit z=true then(1:Int) else 0)=told N z-if X.testBit z=true then 1 else 0:=fun z=>by omega
  simp only[e] at h⊢
  omega
 ·rw[Jml K hX,Jm1 K (X:=X) (fun z=>1-if X.testBit z=true then 1 else 0) 1 fun _ _=>rfl]
  have h:=Jrd K (fun z=>told N z+(1-if X.testBit z=true then 1 else 0))
  dsimp only[F] at h
  have e:∀z,told N z+(1-if X.testBit z=true then(1:Int) else 0)=told N z+if X.testBit z=true then 0 else 1:=fun z=>by split<;>omega
  simp only[e] at h⊢
  omega
noncomputable def JdY (X:Nat) (e:Arc):Prop:=X.testBit e.head=true∧X.testBit e.tail=false
noncomputable def JdT (X:Nat) (e:Arc):Prop:=X.testBit e.tail=true∧X.testBit e.head=false
theorem JgP {X:Nat} {e:Arc} (h:JdY X e):sp1 X e=-e.lo:=by unfold sp1;simp[h.1,h.2]
theorem JgO {X:Nat} {e:Arc} (h:JdT X e):sp1 X e=e.hi:=by unfold sp1;simp[h.1,h.2]
theorem Jhq {X:Nat} {e:Arc} (h1:¬JdY X e) (h2:¬JdT X e):sp1 X e=0:=by
 unfold sp1
 rw[if_neg (show¬(X.testBit e.tail=true∧X.testBit e.head=false) from h2),if_neg (show¬(X.testBit e.head=true∧X.testBit e.tail=false) from h1)];rfl
theorem Juw {X Y:Nat} {e:Arc} (h:e.lo≤e.hi):sp1 (X|||Y) e+sp1 (X&&& Y) e≤sp1 X e+sp1 Y e:=by
 unfold sp1
 simp only[Nat.testBit_or,Nat.testBit_and]
 cases X.testBit e.tail<;>cases X.testBit e.head<;>cases Y.testBit e.tail<;>cases Y.testBit e.head<;>simp<;>omega
theorem Jsd {l:List Arc} (h:∀e∈l,e.lo≤e.hi) (X Y:Nat):JH l (X|||Y)+JH l (X&&& Y)≤JH l X+JH l Y:=
 JfI l fun e he=>Juw (h e he)
theorem Jjo {α:Type} (c:α→Prop) [DecidablePred c] (f:α→Int):∀(l:List α) (m:Int),
  (l.foldl (fun m X=>if c X then min m (f X) else m) m≤m)∧(∀a∈l,c a→l.foldl (fun m X=>if c X then min m (f X) else m) m≤f a)∧
  (l.foldl (fun m X=>if c X then min m (f X) else m) m=m∨∃a∈l,c a∧l.foldl (fun m X=>if c X then min m (f X) else m) m=f a)
 |[],m=>⟨Int.le_refl _,fun a h=>by simp at h,.inl rfl⟩
 |b::l,m=>by
  rw[List.foldl_cons]
  obtain⟨h1,h2,h3⟩:=Jjo c f l (if c b then min m (f b) else m)
  have hm:(if c b then min m (f b) else m)≤m:=by split<;>omega
  refine⟨Int.le_trans h1 hm,fun a ha hc=>?_,?_⟩
  ·cases ha with
   |head=>exact Int.le_trans h1 (by rw[if_pos hc];exact Int.min_le_right _ _)
   |tail _ ha=>exact h2 a ha hc
  ·rcases h3 with h|⟨a,ha,hc,h⟩
   ·rw[h]
    by_cases cb:c b
    ·rw[if_pos cb]
     by_cases d:m≤f b
     ·exact .inl (by omega)
     ·exact .inr ⟨b,List.mem_cons_self ..,cb,by omega⟩
    ·rw[if_neg cb];exact .inl rfl
   ·exact .inr ⟨a,List.mem_cons_of_mem _ ha,hc,h⟩
theorem Jjp {α:Type} (c:α→Prop) [DecidablePred c] (f:α→Int):∀(l:List α) (m:Int),
  (m≤l.foldl (fun m X=>if c X then max m (f X) else m) m)∧(∀a∈l,c a→f a≤l.foldl (fun m X=>if c X then max m (f X) else m) m)∧
  (l.foldl (fun m X=>if c X then max m (f X) else m) m=m∨∃a∈l,c a∧l.foldl (fun m X=>if c X then max m (f X) else m) m=f a)
 |[],m=>⟨Int.le_refl _,fun a h=>by simp at h,.inl rfl⟩
 |b::l,m=>by
  rw[List.foldl_cons]
  obtain⟨h1,h2,h3⟩:=Jjp c f l (if c b then max m (f b) else m)
  have hm:m≤(if c b then max m (f b) else m):=by split<;>omega
  refine⟨Int.le_trans hm h1,fun a ha hc=>?_,?_⟩
  ·cases ha with
   |head=>exact Int.le_trans (by rw[if_pos hc];exact Int.le_max_right _ _) h1
   |tail _ ha=>exact h2 a ha hc
  ·rcases h3 with h|⟨a,ha,hc,h⟩
   ·rw[h]
    by_cases cb:c b
    ·rw[if_pos cb]
     by_cases d:f b≤m
     ·exact .inl (by omega)
     ·exact .inr ⟨b,List.mem_cons_self ..,cb,by omega⟩
    ·rw[if_neg cb];exact .inl rfl
   ·exact .inr ⟨a,List.mem_cons_of_mem _ ha,hc,h⟩
theorem JmE {n:Nat} {l:List Arc} (h:∀e∈l,e.tail<n∧e.head<n) (X:Nat):JH l (X%2^n)=JH l X:=
 JC l fun e he=>by
  unfold sp1
  rw[Nat.testBit_mod_two_pow,Nat.testBit_mod_two_pow]
  simp[(h e he).1,(h e he).2]
theorem JqA {n:Nat} {e:Arc} (h:e.tail<n∧e.head<n) (X:Nat):JdY (X%2^n) e↔JdY X e:=by
 unfold JdY
 rw[Nat.testBit_mod_two_pow,Nat.testBit_mod_two_pow];simp[h.1,h.2]
theorem Jqz {n:Nat} {e:Arc} (h:e.tail<n∧e.head<n) (X:Nat):JdT (X%2^n) e↔JdT X e:=by
 unfold JdT
 rw[Nat.testBit_mod_two_pow,Nat.testBit_mod_two_pow];simp[h.1,h.2]
structure JlD (n:Nat) (e:Arc):Prop where
 tail:e.tail<n+1
 head:e.head<n+1
 ne:e.tail≠e.head
 le:e.lo≤e.hi
structure Uq (n:Nat) (l:List Arc):Prop where
 all:∀e∈l,JlD n e
 cut:∀X,0≤JH l X
theorem Jkd (n:Nat) (others:List Arc) (e:Arc):most n others e≤e.hi∧(∀X,X<2^(n+1)→JdY X e→most n others e≤JH others X)∧
  (most n others e=e.hi∨∃X,X<2^(n+1)∧JdY X e∧most n others e=JH others X):=by
 have h:=Jjo (fun X:Nat=>X.testBit e.head=true∧X.testBit e.tail=false) (fun X=>outMost others X-inLeastSum others X) (groups (n+1)) e.hi
 refine⟨h.1,fun X hX c=>by rw[←JkB];exact h.2.1 X (YO.mpr hX) c,?_⟩
 rcases h.2.2 with h|⟨X,hX,c,h⟩
 ·exact .inl h
 ·exact .inr ⟨X,YO.mp hX,c,by rw[←JkB];exact h⟩
theorem JhO (n:Nat) (others:List Arc) (e:Arc):e.lo≤least n others e∧(∀X,X<2^(n+1)→JdT X e→-JH others X≤least n others e)∧
  (least n others e=e.lo∨∃X,X<2^(n+1)∧JdT X e∧least n others e=-JH others X):=by
 have h:=Jjp (fun X:Nat=>X.testBit e.tail=true∧X.testBit e.head=false) (fun X=>inLeastSum others X-outMost others X) (groups (n+1)) e.lo
 have q:∀X,inLeastSum others X-outMost others X=-JH others X:=fun X=>by rw[←JkB];omega
 refine⟨h.1,fun X hX c=>by rw[←q];exact h.2.1 X (YO.mpr hX) c,?_⟩
 rcases h.2.2 with h|⟨X,hX,c,h⟩
 ·exact .inl h
 ·exact .inr ⟨X,YO.mp hX,c,by rw[←q];exact h⟩
theorem Jgr {n:Nat} {others:List Arc} {e:Arc} (G:Uq n (e::others)):least n others e≤most n others e:=by
 have he:=G.all e (List.mem_cons_self ..)
 rcases(JhO n others e).2.2 with hl|⟨Y,hY,cY,hl⟩<;>rcases(Jkd n others e).2.2 with hm|⟨X,hX,cX,hm⟩
 ·rw[hl,hm];exact he.le
 ·have:=G.cut X
  rw[UC,JgP cX] at this
  omega
 ·have:=G.cut Y
  rw[UC,JgO cY] at this
  omega
 ·have h1:=G.cut (X|||Y)
  have h2:=G.cut (X&&& Y)
  have h3:=Jsd (l:=others) (fun e he=>(G.all e (List.mem_cons_of_mem _ he)).le) X Y
  rw[UC,Jhq (by rintro⟨a,b⟩;rw[Nat.testBit_or,cX.2,cY.1] at b;cases b) (by rintro⟨a,b⟩;rw[Nat.testBit_or,cX.1] at b;cases b)] at h1
  rw[UC,Jhq (by rintro⟨a,b⟩;rw[Nat.testBit_and,cX.1,cY.2] at a;cases a) (by rintro⟨a,b⟩;rw[Nat.testBit_and,cX.2] at a;cases a)] at h2
  omega
theorem Jv9 {n:Nat} {others:List Arc} {e:Arc} (G:Uq n (e::others)) {v:Int} (h1:least n others e≤v) (h2:v≤most n others e):Uq n ({e with lo:=v,hi:=v}::others):=by
 have he:=G.all e (List.mem_cons_self ..)
 have ho:∀e∈others,e.tail<n+1∧e.head<n+1:=fun x hx=>⟨(G.all x (List.mem_cons_of_mem _ hx)).tail,(G.all x (List.mem_cons_of_mem _ hx)).head⟩
 refine⟨fun x hx=>?_,fun X=>?_⟩
 ·cases hx with
  |head=>exact⟨he.tail,he.head,he.ne,Int.le_refl _⟩
  |tail _ hx=>exact G.all x (List.mem_cons_of_mem _ hx)
 ·rw[UC]
  by_cases c:JdY X e
  ·rw[JgP (X:=X) (e:={e with lo:=v,hi:=v}) c]
   have:=(Jkd n others e).2.1 (X%2^(n+1)) (Nat.mod_lt _ (Nat.two_pow_pos _)) ((JqA ⟨he.tail,he.head⟩ X).mpr c)
   rw[JmE ho] at this
   show 0≤-v+JH others X
   omega
  ·by_cases d:JdT X e
   ·rw[JgO (X:=X) (e:={e with lo:=v,hi:=v}) d]
    have:=(JhO n others e).2.1 (X%2^(n+1)) (Nat.mod_lt _ (Nat.two_pow_pos _)) ((Jqz ⟨he.tail,he.head⟩ X).mpr d)
    rw[JmE ho] at this
    show 0≤v+JH others X
    omega
   ·rw[Jhq (X:=X) (e:={e with lo:=v,hi:=v}) c d]
    have:=G.cut X
    rw[UC,Jhq c d] at this
    exact this
theorem Uq.perm {n:Nat} {l r:List Arc} (h:l.Perm r) (G:Uq n l):Uq n r:=by
 refine⟨fun e he=>G.all e (h.mem_iff.mpr he),fun X=>?_⟩
 have e:JH r X=JH l X:=by
  unfold JH
  have h2:(r.map (sp1 X)).Perm (l.map (sp1 X)):=(h.map _).symm
  generalize r.map (sp1 X)=a at h2
  generalize l.map (sp1 X)=b at h2
  induction h2 with
  |nil=>rfl
  |cons x _ ih=>rw[JG,JG,ih]
  |swap x y l=>simp only[JG];omega
  |trans _ _ i1 i2=>rw[i1,i2]
 rw[e];exact G.cut X
noncomputable def Joe (n:Nat) (others:List Arc) (e:Arc):Int:=if e.line=true then min (max 0 (least n others e)) (most n others e) else most n others e
theorem JsN {n:Nat} {others:List Arc} {e:Arc} (G:Uq n (e::others)):choose n others e=Joe n others e:=by
 have:=Jgr G
 unfold choose Joe
 split
 ·omega
 ·rfl
theorem JiJ {n:Nat} {others:List Arc} {e:Arc} (G:Uq n (e::others)):least n others e≤choose n others e∧choose n others e≤most n others e:=by
 have:=Jgr G
 unfold choose
 split<;>constructor<;>omega
theorem Jrw {n:Nat} {fixed rest:List Arc} {e:Arc} (G:Uq n (fixed++e::rest)):
  Uq n (e::(fixed++rest))∧Uq n (({e with lo:=choose n (fixed++rest) e,hi:=choose n (fixed++rest) e}::fixed)++rest):=by
 have G1:Uq n (e::(fixed++rest)):=G.perm List.perm_middle
 exact⟨G1,Jv9 G1 (JiJ G1).1 (JiJ G1).2⟩
theorem Jrx {N:Net} (K:Ok N):Uq N.zones (arcs N (prices N)):=by
 refine⟨fun e he=>?_,Juc K⟩
 unfold arcs at he
 rcases List.mem_append.mp he with h|h
 ·obtain⟨o,ho,rfl⟩:=List.mem_map.mp h
  have q:=K.orders o ho
  have:=q.zone
  have:=q.am
  unfold orderArc
  dsimp only
  generalize priceAt (prices N) o.zone=w
  cases o.buy
  ·refine⟨?_,?_,?_,?_⟩<;>simp<;>omega
  ·refine⟨?_,?_,?_,?_⟩<;>simp<;>omega
 ·obtain⟨l,hl,rfl⟩:=List.mem_map.mp h
  have q:=K.lines l hl
  have:=q.a;have:=q.b;have:=q.ne;have:=q.forth;have:=q.back
  unfold lineArc
  split
  ·exact⟨by show l.a<_;omega,by show l.b<_;omega,by show l.a≠l.b;omega,Int.le_refl _⟩
  ·split
   ·exact⟨by show l.a<_;omega,by show l.b<_;omega,by show l.a≠l.b;omega,Int.le_refl _⟩
   ·exact⟨by show l.a<_;omega,by show l.b<_;omega,by show l.a≠l.b;omega,by show-l.back≤l.forth;omega⟩
end Zm
namespace Zm
open Vbemae
theorem UW {α β:Type} (f:α→β→Int):∀(l:List α) (r:List β),total (List.zipWith f l r)=total ((l.zip r).map fun a=>f a.1 a.2)
 |[],_=>rfl
 |_::_,[]=>rfl
 |a::l,b::r=>by simp only[List.zipWith_cons_cons,List.zip_cons_cons,List.map_cons,JG,UW f l r]
theorem JfJ {α:Type} (f g:α→Int) (l:List α):total (l.map fun a=>f a+g a)=total (l.map f)+total (l.map g):=Ja3 l fun _ _=>rfl
theorem V5 {α:Type} (f:α→Int):∀l:List α,total (l.map fun a=>-f a)=-total (l.map f)
 |[]=>rfl
 |a::l=>by simp only[List.map_cons,JG,V5 f l];omega
theorem JvO (p:Nat→Int) (c:Int) (z:Nat):∀n,z<n→total ((List.range n).map fun i=>p i*(if z=i then c else 0))=p z*c:=by
 intro n
 induction n with
 |zero=>intro h;omega
 |succ n ih=>
  intro h
  rw[List.range_succ,List.map_append,Ql]
  by_cases e:z=n
  ·subst e
   have hz:total ((List.range z).map fun i=>p i*(if z=i then c else 0))=0:=by
    rw[JC (g:=fun _=>0) _ fun i hi=>by rw[if_neg (by have:=List.mem_range.mp hi;omega),Int.mul_zero]]
    exact Jby _
   rw[hz];simp[total]
  ·rw[ih (by omega)];simp[total,e]
theorem JfH {α:Type} (zn:α→Nat) (g:α→Int) (p:Nat→Int) (n:Nat):∀l:List α,(∀a∈l,zn a<n)→total ((List.range n).map fun z=>p z*total (l.map fun a=>if zn a=z then g a else 0))=total (l.map fun a=>p (zn a)*g a)
 |[],_=>by
  rw[JC (g:=fun _=>0) _ fun i _=>by simp[total]]
  exact Jby _
 |a::l,h=>by
  have ih:=JfH zn g p n l fun b hb=>h b (List.mem_cons_of_mem _ hb)
  rw[JC (g:=fun z=>p z*(if zn a=z then g a else 0)+p z*total (l.map fun a=>if zn a=z then g a else 0)) _ fun z _=>by rw[List.map_cons,JG,Int.mul_add],JfJ,ih,JvO p (g a) (zn a) n (h a List.mem_cons_self),List.map_cons,JG]
theorem Jc2 {α:Type} (bad:α→Int→Bool):∀(k:Nat) (l:List α) (r:List Int),firstBad bad k l r=none→∀a∈l.zip r,bad a.1 a.2=false
 |_,[],_,_=>fun a h=>by simp at h
 |_,_::_,[],_=>fun a h=>by simp at h
 |k,x::l,v::r,h=>fun a ha=>by
  unfold firstBad at h
  cases hb:bad x v with
  |true=>rw[hb] at h;simp at h
  |false=>
   rw[hb] at h
   rw[List.zip_cons_cons] at ha
   rcases List.mem_cons.mp ha with rfl|ha
   ·exact hb
   ·exact Jc2 bad (k+1) l r h a ha
theorem Jng {α β:Type}:∀(l:List α) (r:List β),l.length=r.length→(l.zip r).map (·.1)=l
 |[],[],_=>rfl
 |a::l,b::r,h=>by simp only[List.zip_cons_cons,List.map_cons,Jng l r (by simpa using h)]
noncomputable def JiZ (p:Nat→Int) (o:Order) (s:Int):Int:=if o.buy=true then(o.price-p o.zone)*s else(p o.zone-o.price)*s
noncomputable def Jky (p:Nat→Int) (l:Line) (f:Int):Int:=f*(p l.b-p l.a)
theorem Jlf {d s A:Int} (h0:0≤s) (h1:s≤A):d*s≤A*max 0 d:=by
 by_cases hd:d≤0
 ·rw[show max 0 d=0 by omega,Int.mul_zero]
  exact Int.mul_nonpos_of_nonpos_of_nonneg hd h0
 ·rw[show max 0 d=d by omega,Int.mul_comm]
  exact Int.mul_le_mul_of_nonneg_right h1 (by omega)
theorem Js9 {p:Nat→Int} {o:Order} {s:Int} (h0:0≤s) (h1:s≤o.amount):JiZ p o s≤hO o (p o.zone):=by
 unfold JiZ hO
 split
 ·exact Jlf h0 h1
 ·exact Jlf h0 h1
theorem Jtb {p:Nat→Int} {l:Line} {f:Int} (h0:-l.back≤f) (h1:f≤l.forth) (hf:0≤l.forth) (hb:0≤l.back):Jky p l f≤hL l (p l.a) (p l.b):=by
 unfold Jky hL
 by_cases h:p l.a≤p l.b
 ·rw[show max 0 (p l.a-p l.b)=0 by omega,Int.mul_zero,Int.add_zero,show max 0 (p l.b-p l.a)=p l.b-p l.a by omega]
  exact Int.mul_le_mul_of_nonneg_right h1 (by omega)
 ·rw[show max 0 (p l.b-p l.a)=0 by omega,Int.mul_zero,Int.zero_add,show max 0 (p l.a-p l.b)=p l.a-p l.b by omega]
  have:=Int.mul_le_mul_of_nonneg_right (c:=p l.a-p l.b) (show-f≤l.back by omega) (by omega)
  have e:f*(p l.b-p l.a)=-f*(p l.a-p l.b):=by rw[Int.neg_mul,←Int.mul_neg];congr 1;omega
  rw[e];exact this
theorem Jf9 {N:Net} (K:Ok N) {x y:List Int} (h3:∀z,z<N.zones→sold N x z-bought N x z=carried N y z) (p:Nat→Int):
  welfare N x=total ((N.orders.zip x).map fun a=>JiZ p a.1 a.2)+total ((N.lines.zip y).map fun a=>Jky p a.1 a.2):=by
 have zo:∀a∈N.orders.zip x,a.1.zone<N.zones:=fun a ha=>(K.orders a.1 (List.of_mem_zip ha).1).zone
 have za:∀a∈N.lines.zip y,a.1.a<N.zones:=fun a ha=>(K.lines a.1 (List.of_mem_zip ha).1).a
 have zb:∀a∈N.lines.zip y,a.1.b<N.zones:=fun a ha=>(K.lines a.1 (List.of_mem_zip ha).1).b
 have e1:welfare N x=total ((N.orders.zip x).map fun a=>JiZ p a.1 a.2)+total ((N.orders.zip x).map fun a=>if a.1.buy=true then p a.1.zone*a.2 else-(p a.1.zone*a.2)):=by
  unfold welfare overOrders
  rw[UW]
  refine Ja3 _ fun a _=>?_
  unfold JiZ
  split
  ·rw[Int.sub_mul];omega
  ·rw[Int.sub_mul];omega
 have e2:total ((N.orders.zip x).map fun a=>if a.1.buy=true then p a.1.zone*a.2 else-(p a.1.zone*a.2))=total ((List.range N.zones).map fun z=>p z*(bought N x z-sold N x z)):=by
  rw[JC (g:=fun a=>p a.1.zone*(if a.1.buy=true then a.2 else-a.2)) _ fun a _=>by split<;>simp[Int.mul_neg]]
  rw[←JfH (fun a:Order×Int=>a.1.zone) (fun a=>if a.1.buy=true then a.2 else-a.2) p N.zones _ zo]
  refine JC _ fun z _=>?_
  congr 1
  unfold bought sold overOrders
  rw[UW,UW,Int.sub_eq_add_neg,←V5,←JfJ]
  refine JC _ fun a _=>?_
  by_cases hz:a.1.zone=z<;>cases a.1.buy<;>simp[hz]
 have e3:total ((List.range N.zones).map fun z=>p z*(bought N x z-sold N x z))=-total ((List.range N.zones).map fun z=>p z*carried N y z):=by
  rw[←V5]
  refine JC _ fun z hz=>?_
  rw[←h3 z (List.mem_range.mp hz),←Int.mul_neg]
  congr 1
  omega
 have e4:total ((List.range N.zones).map fun z=>p z*carried N y z)=total ((N.lines.zip y).map fun a=>p a.1.a*a.2)-total ((N.lines.zip y).map fun a=>p a.1.b*a.2):=by
  rw[←JfH (fun a:Line×Int=>a.1.a) (fun a=>a.2) p N.zones _ za,←JfH (fun a:Line×Int=>a.1.b) (fun a=>a.2) p N.zones _ zb,Int.sub_eq_add_neg,←V5,←JfJ]
  refine JC _ fun z _=>?_
  unfold carried overLines
  rw[UW,←Int.mul_neg,←Int.mul_add]
  congr 1
  rw[←V5,←JfJ]
  exact JC _ fun a _=>by omega
 rw[e1,e2,e3,e4]
 congr 1
 rw[show∀a b:Int,-(a-b)=b+ -a from fun a b=>by omega,←V5,←JfJ]
 refine JC _ fun a _=>?_
 unfold Jky
 rw[Int.mul_sub,Int.mul_comm a.2,Int.mul_comm a.2];omega
theorem JvK {N:Net} {x y:List Int} (hx:x.length=N.orders.length) (hy:y.length=N.lines.length) (p:Nat→Int):
  F N p=total ((N.orders.zip x).map fun a=>hO a.1 (p a.1.zone))+total ((N.lines.zip y).map fun a=>hL a.1 (p a.1.a) (p a.1.b)):=by
 unfold F
 congr 1
 ·conv=>lhs;rw[←Jng N.orders x hx.symm]
  rw[List.map_map];rfl
 ·conv=>lhs;rw[←Jng N.lines y hy.symm]
  rw[List.map_map];rfl
theorem weak {N:Net} (K:Ok N) {x y:List Int} (hx:x.length=N.orders.length) (hy:y.length=N.lines.length) (h1:badShare N x=none) (h2:badFlow N y=none) (h3:badZone N x y=none) (p:Nat→Int):welfare N x≤F N p:=by
 have b1:=Jc2 _ _ _ _ h1
 have b2:=Jc2 _ _ _ _ h2
 have b3:∀z,z<N.zones→sold N x z-bought N x z=carried N y z:=fun z hz=>by
  have:=List.find?_eq_none.mp h3 z (List.mem_range.mpr hz)
  simpa using this
 rw[Jf9 K b3 p,JvK hx hy p]
 have i1:=Jkw (f:=fun a:Order×Int=>JiZ p a.1 a.2) (g:=fun a=>hO a.1 (p a.1.zone)) (N.orders.zip x) fun a ha=>by
  have:=b1 a ha
  simp only[Bool.or_eq_false_iff,decide_eq_false_iff_not] at this
  exact Js9 (by omega) (by omega)
 have i2:=Jkw (f:=fun a:Line×Int=>Jky p a.1 a.2) (g:=fun a=>hL a.1 (p a.1.a) (p a.1.b)) (N.lines.zip y) fun a ha=>by
  have:=b2 a ha
  have q:=K.lines a.1 (List.of_mem_zip ha).1
  simp only[Bool.or_eq_false_iff,decide_eq_false_iff_not] at this
  exact Jtb (by omega) (by omega) q.forth q.back
 omega
end Zm
namespace Zm
open Vbemae
noncomputable def Jn7 (a:Arc×Int):Arc:={a.1 with lo:=a.2,hi:=a.2}
theorem Jnc {n:Nat}:∀(rest fixed:List Arc),Uq n (fixed++rest)→
  (assign n fixed rest).length=rest.length∧(∀a∈rest.zip (assign n fixed rest),a.1.lo≤a.2∧a.2≤a.1.hi)∧Uq n ((rest.zip (assign n fixed rest)).map Jn7++fixed)
 |[],fixed,G=>⟨rfl,fun a h=>by simp at h,by simpa using G⟩
 |e::rest,fixed,G=>by
  obtain⟨G1,G2⟩:=Jrw G
  obtain⟨h1,h2,h3⟩:=Jnc rest ({e with lo:=choose n (fixed++rest) e,hi:=choose n (fixed++rest) e}::fixed) G2
  have hc:=JiJ G1
  have hm:=Jkd n (fixed++rest) e
  have hl:=JhO n (fixed++rest) e
  refine⟨by show(_::_).length=_;rw[List.length_cons,h1,List.length_cons],fun a ha=>?_,?_⟩
  ·unfold assign at ha
   rw[List.zip_cons_cons] at ha
   rcases List.mem_cons.mp ha with rfl|ha
   ·exact⟨Int.le_trans hl.1 hc.1,Int.le_trans hc.2 hm.1⟩
   ·exact h2 a ha
  ·unfold assign
   rw[List.zip_cons_cons,List.map_cons,List.cons_append]
   exact h3.perm List.perm_middle
noncomputable def Jdu (z:Nat) (a:Arc×Int):Int:=(if a.1.tail=z then a.2 else 0)-(if a.1.head=z then a.2 else 0)
theorem Jux {z:Nat} {a:Arc×Int} (h:a.1.tail≠a.1.head):sp1 (2^z) (Jn7 a)=Jdu z a:=by
 unfold sp1 Jdu Jn7
 simp only[Nat.testBit_two_pow]
 by_cases h1:a.1.tail=z<;>by_cases h2:a.1.head=z<;>simp[h1,h2,eq_comm]<;>omega
theorem Jqc {n z:Nat} {a:Arc×Int} (h:a.1.tail≠a.1.head) (ht:a.1.tail<n+1) (hh:a.1.head<n+1):sp1 ((2^(n+1)-1)^^^2^z) (Jn7 a)=-Jdu z a:=by
 obtain⟨⟨t,hd,lo,hi,ln⟩,v⟩:=a
 dsimp only at h ht hh
 unfold sp1 Jdu Jn7
 dsimp only
 have b:∀i,i<n+1→((2^(n+1)-1)^^^2^z).testBit i=!decide (z=i):=fun i hi=>by
  rw[Nat.testBit_xor,Nat.testBit_two_pow,Nat.testBit_two_pow_sub_one]
  simp[hi]
 rw[b t ht,b hd hh]
 by_cases h1:t=z
 ·subst h1
  rw[if_neg (fun q=>h q.symm) (c:=hd=t)]
  simp[h]
 ·by_cases h2:hd=z
  ·subst h2
   rw[if_neg h1]
   simp[Ne.symm h]
  ·simp[h1,h2,Ne.symm h1,Ne.symm h2]
theorem Jvl {n z:Nat} {l:List (Arc×Int)} (G:Uq n (l.map Jn7)):total (l.map (Jdu z))=0:=by
 have ok:∀a∈l,JlD n (Jn7 a):=fun a ha=>G.all _ (List.mem_map.mpr ⟨a,ha,rfl⟩)
 have e1:JH (l.map Jn7) (2^z)=total (l.map (Jdu z)):=by
  unfold JH
  rw[List.map_map]
  exact JC _ fun a ha=>Jux (ok a ha).ne
 have e2:JH (l.map Jn7) ((2^(n+1)-1)^^^2^z)=-total (l.map (Jdu z)):=by
  unfold JH
  rw[List.map_map,←V5]
  exact JC _ fun a ha=>Jqc (ok a ha).ne (ok a ha).tail (ok a ha).head
 have g1:=G.cut (2^z)
 have g2:=G.cut ((2^(n+1)-1)^^^2^z)
 omega
theorem Jmv {α β:Type} (l r:List α) (v:List β) (h:l.length≤v.length):(l++r).zip v=l.zip (v.take l.length)++r.zip (v.drop l.length):=by
 conv=>lhs;rw[←List.take_append_drop l.length v]
 exact List.zip_append (by rw[List.length_take];omega)
theorem Js2 {N:Net} {p v:List Int} (h:v.length=(arcs N p).length):(arcs N p).zip v=((N.orders.zip (v.take N.orders.length)).map fun a=>(orderArc N p a.1,a.2))++((N.lines.zip (v.drop N.orders.length)).map fun a=>(lineArc p a.1,a.2)):=by
 unfold arcs at h⊢
 rw[Jmv _ _ _ (by rw[h,List.length_append];omega),List.length_map,List.zip_map_left,List.zip_map_left]
 rfl
structure JxF (N:Net):Prop where
 len1:(cleared N).shares.length=N.orders.length
 len2:(cleared N).flows.length=N.lines.length
 bal:∀z,z<N.zones→sold N (cleared N).shares z-bought N (cleared N).shares z=carried N (cleared N).flows z
 inO:∀a∈N.orders.zip (cleared N).shares,(orderArc N (prices N) a.1).lo≤a.2∧a.2≤(orderArc N (prices N) a.1).hi
 inL:∀a∈N.lines.zip (cleared N).flows,(lineArc (prices N) a.1).lo≤a.2∧a.2≤(lineArc (prices N) a.1).hi
theorem JqR {N:Net} {p:List Int} {o:Order} {s:Int} {z:Nat} (hz:z<N.zones):Jdu z (orderArc N p o,s)=(if o.zone=z∧o.buy=true then s else 0)-(if o.zone=z∧o.buy=false then s else 0):=by
 unfold Jdu orderArc
 have:N.zones≠z:=by omega
 cases o.buy<;>simp[this]
theorem JsK {p:List Int} {l:Line} {f:Int} {z:Nat}:Jdu z (lineArc p l,f)=(if l.a=z then f else 0)-(if l.b=z then f else 0):=by
 unfold Jdu lineArc
 split
 ·rfl
 ·split<;>rfl
theorem Joi {N:Net} (K:Ok N):JxF N:=by
 obtain⟨h1,h2,h3⟩:=Jnc (n:=N.zones) (arcs N (prices N)) [] (Jrx K)
 rw[List.append_nil] at h3
 have hl:(arcs N (prices N)).length=N.orders.length+N.lines.length:=by unfold arcs;simp
 rw[Js2 h1] at h2 h3
 have es:(cleared N).shares=(assign N.zones [] (arcs N (prices N))).take N.orders.length:=rfl
 have ef:(cleared N).flows=(assign N.zones [] (arcs N (prices N))).drop N.orders.length:=rfl
 rw[←es,←ef] at h2 h3
 refine⟨by rw[es,List.length_take,h1,hl];omega,by rw[ef,List.length_drop,h1,hl];omega,fun z hz=>?_,fun a ha=>h2 (orderArc N (prices N) a.1,a.2) (List.mem_append_left _ (List.mem_map.mpr ⟨a,ha,rfl⟩)),fun a ha=>h2 (lineArc (prices N) a.1,a.2) (List.mem_append_right _ (List.mem_map.mpr ⟨a,ha,rfl⟩))⟩
 have b:=Jvl (z:=z) h3
 rw[List.map_append,Ql,List.map_map,List.map_map] at b
 have e1:total ((N.orders.zip (cleared N).shares).map (Jdu z∘fun a=>(orderArc N (prices N) a.1,a.2)))=bought N (cleared N).shares z-sold N (cleared N).shares z:=by
  unfold bought sold overOrders
  rw[UW,UW,Int.sub_eq_add_neg,←V5,←JfJ]
  exact JC _ fun a _=>(JqR hz).trans (Int.sub_eq_add_neg)
 have e2:total ((N.lines.zip (cleared N).flows).map (Jdu z∘fun a=>(lineArc (prices N) a.1,a.2)))=carried N (cleared N).flows z:=by
  unfold carried overLines
  rw[UW]
  exact JC _ fun a _=>JsK
 omega
theorem Jta {N:Net} {p:List Int} {q:Nat→Int} {o:Order} {s:Int} (hp:priceAt p o.zone=q o.zone) (h:(orderArc N p o).lo≤s∧s≤(orderArc N p o).hi):JiZ q o s=hO o (q o.zone):=by
 unfold orderArc at h
 rw[hp] at h
 unfold JiZ hO
 generalize q o.zone=w at h⊢
 cases hb:o.buy with
 |true=>
  simp only[hb,if_true] at h⊢
  rcases Int.lt_trichotomy w o.price with c|c|c
  ·rw[if_pos (by simpa using c),if_neg (by simp;omega)] at h
   rw[show s=o.amount by omega,show max 0 (o.price-w)=o.price-w by omega,Int.mul_comm]
  ·rw[c];simp
  ·rw[if_neg (by simp;omega),if_pos (by simpa using c)] at h
   rw[show s=0 by omega,show max 0 (o.price-w)=0 by omega];simp
 |false=>
  simp only[hb,Bool.false_eq_true,if_false] at h⊢
  rcases Int.lt_trichotomy w o.price with c|c|c
  ·rw[if_neg (by simp;omega),if_pos (by simpa using c)] at h
   rw[show s=0 by omega,show max 0 (w-o.price)=0 by omega];simp
  ·rw[c];simp
  ·rw[if_pos (by simpa using c),if_neg (by simp;omega)] at h
   rw[show s=o.amount by omega,show max 0 (w-o.price)=w-o.price by omega,Int.mul_comm]
theorem Jtc {p:List Int} {q:Nat→Int} {l:Line} {f:Int} (ha:priceAt p l.a=q l.a) (hb:priceAt p l.b=q l.b) (h:(lineArc p l).lo≤f∧f≤(lineArc p l).hi):Jky q l f=hL l (q l.a) (q l.b):=by
 unfold lineArc at h
 rw[ha,hb] at h
 unfold Jky hL
 generalize q l.a=u at h⊢
 generalize q l.b=w at h⊢
 rcases Int.lt_trichotomy u w with c|c|c
 ·rw[if_pos c] at h
  rw[show f=l.forth by have:=h.1;have:=h.2;dsimp only at*;omega,show max 0 (w-u)=w-u by omega,show max 0 (u-w)=0 by omega];simp
 ·rw[c];simp
 ·rw[if_neg (by omega),if_pos c] at h
  rw[show f=-l.back by have:=h.1;have:=h.2;dsimp only at*;omega,show max 0 (w-u)=0 by omega,show max 0 (u-w)=u-w by omega]
  rw[Int.mul_zero,Int.zero_add,Int.neg_mul,←Int.mul_neg];congr 1;omega
theorem JhW {N:Net} (K:Ok N):bestWelfare N=F N (told N):=by
 have B:=Joi K
 unfold bestWelfare
 rw[Jf9 K B.bal (told N),JvK B.len1 B.len2 (told N)]
 congr 1
 ·exact JC _ fun a ha=>Jta (Qp (K.orders a.1 (List.of_mem_zip ha).1).zone) (B.inO a ha)
 ·exact JC _ fun a ha=>Jtc (Qp (K.lines a.1 (List.of_mem_zip ha).1).a) (Qp (K.lines a.1 (List.of_mem_zip ha).1).b) (B.inL a ha)
theorem JrR {N:Net} (K:Ok N) (q:Nat→Int):bestWelfare N≤F N q:=by rw[JhW K];exact Jrd K q
theorem Jvk {N:Net} (K:Ok N) {x y:List Int} (hx:x.length=N.orders.length) (hy:y.length=N.lines.length) (h1:badShare N x=none) (h2:badFlow N y=none) (h3:badZone N x y=none):welfare N x≤bestWelfare N:=by
 rw[JhW K];exact weak K hx hy h1 h2 h3 _
end Zm
namespace Zm
open Vbemae
noncomputable def JdR (N:Net) (k:Nat):Net:={N with orders:=N.orders.eraseIdx k}
noncomputable def JgW (N:Net) (k:Nat):Net:={N with lines:=N.lines.eraseIdx k}
theorem Jk4 {N:Net} (K:Ok N) (k:Nat):Ok (JdR N k):=
 ⟨K.bounds,fun o ho=>let q:=K.orders o (List.mem_of_mem_eraseIdx ho);⟨q.zone,q.lo,q.hi,q.am⟩,fun l hl=>let q:=K.lines l hl;⟨q.a,q.b,q.ne,q.forth,q.back⟩⟩
theorem JmN {N:Net} (K:Ok N) (k:Nat):Ok (JgW N k):=
 ⟨K.bounds,fun o ho=>let q:=K.orders o ho;⟨q.zone,q.lo,q.hi,q.am⟩,fun l hl=>let q:=K.lines l (List.mem_of_mem_eraseIdx hl);⟨q.a,q.b,q.ne,q.forth,q.back⟩⟩
theorem JgJ {α:Type} (f:α→Int) (g:α→α) (hg:∀a,f (g a)=0):∀(l:List α) (k:Nat),total ((l.modify k g).map f)=total ((l.eraseIdx k).map f)
 |[],k=>by cases k<;>rfl
 |a::l,0=>by simp[JG,hg]
 |a::l,k+1=>by
  have ih:=JgJ f g hg l k
  simp only[List.modify_succ_cons,List.eraseIdx_cons_succ,List.map_cons,JG,ih]
theorem Js1 (N:Net) (k:Nat) (q:Nat→Int):F (withAmount N k 0) q=F (JdR N k) q:=by
 unfold F withAmount JdR
 dsimp only
 rw[JgJ (fun o:Order=>hO o (q o.zone)) (fun o=>{o with amount:=0}) (fun o=>by unfold hO;simp)]
theorem Juq (N:Net) (k:Nat) (q:Nat→Int):F (withRooms N k 0 0) q=F (JgW N k) q:=by
 unfold F withRooms JgW
 dsimp only
 rw[JgJ (fun l:Line=>hL l (q l.a) (q l.b)) (fun l=>{l with forth:=0,back:=0}) (fun l=>by unfold hL;simp)]
theorem Jnb {N M:Net} (K:Ok N) (L:Ok M) (h:∀q,F N q=F M q):bestWelfare N=bestWelfare M:=by
 have a:=JrR K (told M)
 have b:=JrR L (told N)
 rw[h,←JhW L] at a
 rw[←h,←JhW K] at b
 omega
theorem Jwk {o:Order} {q:Int}:(max 0 (if o.buy=true then o.price-q else q-o.price))*o.amount=hO o q:=by
 unfold hO
 split<;>rw[Int.mul_comm]
theorem JvX {l:Line} {a b:Int} (hf:0≤l.forth) (hb:0≤l.back):max (l.forth*(b-a)) (-l.back*(b-a))=hL l a b:=by
 unfold hL
 rcases Int.le_total a b with h|h
 ·have h1:=Int.mul_nonneg hf (show 0≤b-a by omega)
  have h2:=Int.mul_nonneg hb (show 0≤b-a by omega)
  rw[show max 0 (b-a)=b-a by omega,show max 0 (a-b)=0 by omega,Int.neg_mul]
  omega
 ·have h1:=Int.mul_nonneg hf (show 0≤a-b by omega)
  have h2:=Int.mul_nonneg hb (show 0≤a-b by omega)
  have e1:l.forth*(b-a)=-(l.forth*(a-b)):=by rw[←Int.mul_neg];congr 1;omega
  have e2:-l.back*(b-a)=l.back*(a-b):=by rw[Int.neg_mul,←Int.mul_neg];congr 1;omega
  rw[show max 0 (b-a)=0 by omega,show max 0 (a-b)=a-b by omega,e1,e2]
  omega
end Zm
namespace Zm
open Vbemae
noncomputable def Jdr (e:Arc) (v:Int):Bool:=decide (e.lo≤v)&&decide (v≤e.hi)
theorem Jpz {N:Net} {p:List Int} {o:Order} {s:Int} (h0:0≤s) (h1:s≤o.amount):Jdr (orderArc N p o) s=
  (let q:=priceAt p o.zone;let gains:Bool:=if o.buy=true then decide (q<o.price) else decide (o.price<q);let loses:Bool:=if o.buy=true then decide (o.price<q) else decide (q<o.price);(!gains||s==o.amount)&&(!loses||s==0)):=by
 unfold Jdr orderArc
 dsimp only
 generalize priceAt p o.zone=q
 rw[Bool.eq_iff_iff]
 cases o.buy
 ·rcases Int.lt_trichotomy q o.price with c|c|c
  ·simp[c,show¬o.price<q by omega];omega
  ·simp[c];omega
  ·simp[c,show¬q<o.price by omega];omega
 ·rcases Int.lt_trichotomy q o.price with c|c|c
  ·simp[c,show¬o.price<q by omega];omega
  ·simp[c];omega
  ·simp[c,show¬q<o.price by omega];omega
theorem JqN {p:List Int} {l:Line} {f:Int} (h0:-l.back≤f) (h1:f≤l.forth):Jdr (lineArc p l) f=
  ((!decide (f<l.forth)||decide (priceAt p l.b≤priceAt p l.a))&&(!decide (-l.back<f)||decide (priceAt p l.a≤priceAt p l.b))):=by
 unfold Jdr lineArc
 generalize priceAt p l.a=a
 generalize priceAt p l.b=b
 rw[Bool.eq_iff_iff]
 split
 ·simp;omega
 ·split
  ·simp;omega
  ·simp;omega
theorem Jol {α:Type} {f g:α→Bool}:∀(l:List α),(∀a∈l,f a=g a)→l.all f=l.all g
 |[],_=>rfl
 |a::l,h=>by rw[List.all_cons,List.all_cons,h a List.mem_cons_self,Jol l fun b hb=>h b (List.mem_cons_of_mem _ hb)]
theorem JlR {N:Net} {p x y:List Int} (hx:x.length=N.orders.length) (bo:∀a∈N.orders.zip x,0≤a.2∧a.2≤a.1.amount) (bl:∀a∈N.lines.zip y,-a.1.back≤a.2∧a.2≤a.1.forth):
  ((arcs N p).zip (x++y)).all (fun a=>Jdr a.1 a.2)=supports N p x y:=by
 unfold arcs supports
 rw[Jmv _ _ _ (by rw[List.length_map,List.length_append];omega),List.length_map,←hx,List.take_left,List.drop_left,List.all_append,List.zip_map_left,List.zip_map_left,List.all_map,List.all_map]
 congr 1
 ·refine Jol _ fun a ha=>?_
  exact Jpz (bo a ha).1 (bo a ha).2
 ·refine Jol _ fun a ha=>?_
  exact JqN (bl a ha).1 (bl a ha).2
theorem Jv6 {N:Net} (K:Ok N):∀a∈N.orders.zip (cleared N).shares,0≤a.2∧a.2≤a.1.amount:=fun a ha=>by
 have h:=(Joi K).inO a ha
 have am:=(K.orders a.1 (List.of_mem_zip ha).1).am
 unfold orderArc at h
 dsimp only at h
 generalize priceAt (prices N) a.1.zone=q at h
 cases hb:a.1.buy<;>simp only[hb,Bool.false_eq_true,if_false,if_true] at h
 ·rcases Int.lt_trichotomy q a.1.price with c|c|c
  ·simp[c,show¬a.1.price<q by omega] at h;omega
  ·simp[c] at h;omega
  ·simp[c,show¬q<a.1.price by omega] at h;omega
 ·rcases Int.lt_trichotomy q a.1.price with c|c|c
  ·simp[c,show¬a.1.price<q by omega] at h;omega
  ·simp[c] at h;omega
  ·simp[c,show¬q<a.1.price by omega] at h;omega
theorem Jv7 {N:Net} (K:Ok N):∀a∈N.lines.zip (cleared N).flows,-a.1.back≤a.2∧a.2≤a.1.forth:=fun a ha=>by
 have h:=(Joi K).inL a ha
 have q:=K.lines a.1 (List.of_mem_zip ha).1
 have:=q.forth
 have:=q.back
 unfold lineArc at h
 split at h
 ·dsimp only at h;omega
 ·split at h
  ·dsimp only at h;omega
  ·exact h
end Zm
namespace Zm
open Vbemae
noncomputable def JdA {α:Type} (bad:α→Int→Bool) (l:List α) (r:List Int) (i:Nat):Bool:=match l[i]?,r[i]? with
 |some a,some v=>bad a v
 |_,_=>false
theorem Jgw {α:Type} (bad:α→Int→Bool):∀(l:List α) (r:List Int) (k:Nat),l.length=r.length→firstBad bad k l r=((List.range l.length).find? (JdA bad l r)).map (·+k)
 |[],[],_,_=>rfl
 |a::l,v::r,k,h=>by
  have ih:=Jgw bad l r (k+1) (by simpa using h)
  unfold firstBad
  rw[List.length_cons,List.range_succ_eq_map,List.find?_cons]
  have e0:JdA bad (a::l) (v::r) 0=bad a v:=rfl
  rw[e0]
  cases bad a v with
  |true=>simp
  |false=>
   simp only[Bool.false_eq_true,if_false,List.find?_map]
   rw[ih]
   have e1:(JdA bad (a::l) (v::r)∘Nat.succ)=JdA bad l r:=funext fun i=>rfl
   rw[e1,Option.map_map]
   congr 1
   funext i
   show i+(k+1)=i+1+k
   omega
theorem Jgv {α:Type} (bad:α→Int→Bool) {l:List α} {r:List Int} (h:l.length=r.length):firstBad bad 0 l r=((List.range l.length).filter (JdA bad l r)).head? :=by
 rw[Jgw bad l r 0 h,List.head?_filter]
 simp
noncomputable def wO (N:Net) (x:List Int):List Nat:=(List.range N.orders.length).filter (JdA (fun(o:Order) s=>decide (s<0)||decide (o.amount<s)) N.orders x)
noncomputable def wL (N:Net) (y:List Int):List Nat:=(List.range N.lines.length).filter (JdA (fun(l:Line) f=>decide (f< -l.back)||decide (l.forth<f)) N.lines y)
noncomputable def wZ (N:Net) (x y:List Int):List Nat:=(List.range N.zones).filter fun z=>sold N x z-bought N x z !=carried N y z
theorem JoA {N:Net} {x:List Int} (h:x.length=N.orders.length):badShare N x=(wO N x).head? :=Jgv _ h.symm
theorem Jrg {N:Net} {y:List Int} (h:y.length=N.lines.length):badFlow N y=(wL N y).head? :=Jgv _ h.symm
theorem Js5 (N:Net) (x y:List Int):badZone N x y=(wZ N x y).head? :=by unfold wZ;rw[List.head?_filter];rfl
theorem JhU {α β:Type} (p:α→Bool) (f:α→β):∀l:List α,(l.filterMap fun j=>if p j=true then some (f j) else none)=(l.filter p).map f
 |[]=>rfl
 |a::l=>by
  rw[List.filterMap_cons,List.filter_cons]
  cases h:p a with
  |true=>simp only[if_true,List.map_cons,JhU p f l]
  |false=>simp only[Bool.false_eq_true,if_false,JhU p f l]
theorem JrZ {N:Net} {x y:List Int} {k:Nat} (hx:x.length=N.orders.length) (h:(wO N x).head? =some k):verdict N x y=[1,(k:Int)]:=by
 unfold verdict;rw[JoA hx,h]
theorem Jr0 {N:Net} {x y:List Int} {k:Nat} (hx:x.length=N.orders.length) (hy:y.length=N.lines.length) (h:(wO N x).head? =none) (h2:(wL N y).head? =some k):verdict N x y=[2,(k:Int)]:=by
 unfold verdict;rw[JoA hx,h,Jrg hy,h2]
theorem JrY {N:Net} {x y:List Int} {k:Nat} (hx:x.length=N.orders.length) (hy:y.length=N.lines.length) (h:(wO N x).head? =none) (h2:(wL N y).head? =none) (h3:(wZ N x y).head? =some k):verdict N x y=[3,(k:Int)]:=by
 unfold verdict;rw[JoA hx,h,Jrg hy,h2,Js5,h3]
theorem Jr1 {N:Net} (K:Ok N) {x y:List Int} (hx:x.length=N.orders.length) (hy:y.length=N.lines.length) (h:(wO N x).head? =none) (h2:(wL N y).head? =none) (h3:(wZ N x y).head? =none):
  verdict N x y=if bestWelfare N-welfare N x>0 then [4,bestWelfare N-welfare N x] else [0,0]:=by
 have g:=Jvk K hx hy (by rw[JoA hx,h]) (by rw[Jrg hy,h2]) (by rw[Js5,h3])
 unfold verdict
 rw[JoA hx,h,Jrg hy,h2,Js5,h3]
 dsimp only
 by_cases e:bestWelfare N-welfare N x=0
 ·rw[if_pos e,if_neg (by omega)]
 ·rw[if_neg e,if_pos (by omega)]
end Zm
namespace Zm
open Vbemae
noncomputable def wAt (N:Net) (x y:List Int):Nat→List Nat
 |0=>wO N x
 |1=>wL N y
 |_=>wZ N x y
theorem Jp5 {N:Net} {x y:List Int} (hx:x.length=N.orders.length) (hy:y.length=N.lines.length) {i k:Nat} (hi:i<3) (h:∀j,j<i→wAt N x y j=[]) (h2:(wAt N x y i).head? =some k):verdict N x y=[((i+1:Nat):Int),(k:Int)]:=by
 match i,hi with
 |0,_=>exact JrZ hx h2
 |1,_=>exact Jr0 hx hy (by rw[show wO N x=[] from h 0 (by omega)];rfl) h2
 |2,_=>exact JrY hx hy (by rw[show wO N x=[] from h 0 (by omega)];rfl) (by rw[show wL N y=[] from h 1 (by omega)];rfl) h2
theorem JoB {N:Net} (K:Ok N) {x y:List Int} (hx:x.length=N.orders.length) (hy:y.length=N.lines.length) (h:∀j,j<3→wAt N x y j=[]):
  verdict N x y=if bestWelfare N-welfare N x>0 then [4,bestWelfare N-welfare N x] else [0,0]:=
 Jr1 K hx hy (by rw[show wO N x=[] from h 0 (by omega)];rfl) (by rw[show wL N y=[] from h 1 (by omega)];rfl) (by rw[show wZ N x y=[] from h 2 (by omega)];rfl)
end Zm
namespace L2
open PySem PySem.Spec PyProof.Rows
theorem J1 {gs:List Addr} {j:Nat} {x:V} (h:(gs.map V.ref)[j]? =some x):∃g,gs[j]? =some g∧x=.ref g:=by
 rw[List.getElem?_map] at h
 cases e:gs[j]? with
 |none=>rw[e] at h;cases h
 |some g=>rw[e] at h;exact⟨g,rfl,(Option.some.inj h).symm⟩
theorem int_at {ns:List Int} {j:Nat} {x:V} (h:(ns.map V.int)[j]? =some x):∃n,ns[j]? =some n∧x=.int n:=by
 rw[List.getElem?_map] at h
 cases e:ns[j]? with
 |none=>rw[e] at h;cases h
 |some g=>rw[e] at h;exact⟨g,rfl,(Option.some.inj h).symm⟩
theorem Ju0 {K:PySem.W.Frag} {g:TG} {tt:TT} {te:TE} {vs:List Nat} {σ:L2.St} {H1:Hp} {D:Addr} {Qd:Hp→Prop} (R:Nat→Hp→List V→Prop) (n:Nat) (J:It) (hD:H1 D=none) (h0:R 0 (upd H1 D (.lst [])) [])
  (go:∀i H,i<n→Jg H1 H→J.go i H) (stop:∀H,Jg H1 H→J.stop n H)
  (hs:∀i x H H' acc,i<n→Jg H1 H→H D=some (.lst acc)→R i H acc→J.yld i H x H'→
   g x (JaU σ vs) H' fun σ2 H2=>JaU σ2 vs=JaU σ vs∧tt σ2 H2 fun b H3=>if b=true then te σ2 H3 fun y H4=>∃acc,H4 D=some (.lst acc)∧acc.length<sizeLine∧(fun H=>Jg H1 H∧∃acc,H D=some (.lst acc)∧R (i+1) H acc) (upd H4 D (.lst (acc++[y]))) else(fun H=>Jg H1 H∧∃acc,H D=some (.lst acc)∧R (i+1) H acc) H3)
  (hd:∀H acc,Jg H1 H→H D=some (.lst acc)→R n H acc→Qd H):
  ∃W:Nat→Nat→Hp→Prop,(∃m,W 0 m (upd H1 D (.lst [])))∧∀i m H,W i m H→
   (J.stop i H∧Qd H)∨(J.go i H∧∃Nx:Hp→Prop,(∀H',Nx H'→∃m',m'<m∧W (i+1) m' H')∧∀x H',J.yld i H x H'→g x (JaU σ vs) H' fun σ2 H2=>JaU σ2 vs=JaU σ vs∧tt σ2 H2 fun b H3=>
    if b=true then te σ2 H3 fun y H4=>∃acc,H4 D=some (.lst acc)∧acc.length<sizeLine∧Nx (upd H4 D (.lst (acc++[y]))) else Nx H3):=by
 refine⟨fun i m H=>m=n-i∧i≤n∧Jg H1 H∧∃acc,H D=some (.lst acc)∧R i H acc,⟨n,by simp,Nat.zero_le _,Jj hD,_,Jb,h0⟩,?_⟩
 rintro i m H ⟨rfl,hi,s,acc,hD',r⟩
 by_cases hlt:i<n
 ·exact .inr ⟨go i H hlt s,fun H=>Jg H1 H∧∃acc,H D=some (.lst acc)∧R (i+1) H acc,fun H' p'=>⟨n-(i+1),by omega,rfl,hlt,p'⟩,fun x H' y=>hs i x H H' acc hlt s hD' r y⟩
 ·have e:i=n:=by omega
  subst e
  exact .inl ⟨stop H s,hd H acc s hD' r⟩
theorem Ye {K:PySem.W.Frag} {a:Addr} {xs:List V} {H1:Hp} (h:SqL K H1 a xs):∀i H,i<xs.length→Jg H1 H→(Itl K a).go i H:=fun i H hi s=>⟨xs,xs[i],s.seq h,List.getElem?_eq_getElem hi⟩
theorem QW {K:PySem.W.Frag} {a:Addr} {xs:List V} {H1:Hp} (h:SqL K H1 a xs):∀H,Jg H1 H→(Itl K a).stop xs.length H:=fun H s=>⟨xs,s.seq h,Nat.le_refl _⟩
end L2
namespace Zm
open PySem PySem.Spec PyProof.Rows L2
noncomputable def bit (X z:Nat):Int:=if X.testBit z then 1 else 0
noncomputable def UY (n X:Nat):List V:=(List.range n).map fun z=>V.int (bit X z)
theorem Jff {n X z:Nat} (h:z<n):(UY n X)[z]? =some (.int (bit X z)):=by
 unfold UY
 rw[List.getElem?_map,List.getElem?_range h]
 rfl
theorem Jm6 (n X:Nat):(UY n X).length=n:=by simp[UY]
theorem JqX (n k:Nat) (hk:k<2^n):UY n k++[V.int 0]=UY (n+1) k:=by
 unfold UY
 rw[List.range_succ,List.map_append]
 have e:bit k n=0:=by unfold bit;rw[Nat.testBit_lt_two_pow hk];rfl
 simp[e]
theorem JsW (n k:Nat) (hk:k<2^n):UY n k++[V.int 1]=UY (n+1) (2^n+k):=by
 unfold UY
 rw[List.range_succ,List.map_append]
 have e:bit (2^n+k) n=1:=by unfold bit;rw[Nat.testBit_two_pow_add_eq,Nat.testBit_lt_two_pow hk];rfl
 have e2:(List.range n).map (fun z=>V.int (bit k z))=(List.range n).map fun z=>V.int (bit (2^n+k) z):=List.map_congr_left fun z hz=>by
  unfold bit
  rw[Nat.testBit_two_pow_add_gt (List.mem_range.mp hz)]
 rw[e2]
 simp[e]
noncomputable def JgA (kd:ZZ.Knd) (H:Hp) (g:Addr) (n X:Nat):Prop:=match kd with
 | .lst=>H g=some (.lst (UY n X))
 | .tup=>H g=some (.tup (UY n X))
theorem JgA.sq {kd:ZZ.Knd} {K:PySem.W.Frag} {H:Hp} {g:Addr} {n X:Nat} (h:JgA kd H g n X):SqK kd K H g (UY n X):=by
 cases kd with
 |lst=>exact SqL.of h
 |tup=>exact SqT.of h
theorem JgA.same {kd:ZZ.Knd} {H H':Hp} {g:Addr} {n X:Nat} (s:Jg H H') (h:JgA kd H g n X):JgA kd H' g n X:=by
 cases kd with
 |lst=>exact s _ _ h
 |tup=>exact s _ _ h
noncomputable def Jsg:Sp:=fun vs H Q _=>∃(kd:ZZ.Knd) (g:Addr) (n X t h:Nat),vs=[.ref g,.int t,.int h]∧JgA kd H g n X∧t<n∧h<n∧Q (.bl (X.testBit h&&!X.testBit t)) H
section
variable {P:Program} {w:World} {K:PySem.W.Frag} {mg:Str→Option Value} {base:Heap} {A:Adr}
theorem VZ (T:Txt w K mg A):JF P w K mg base CX0 1 A.JhZ A.JfV ["group","tail","head"] Jsg:=by
 refine T.JaT.F.ok Jsl (fun vs H Q E h=>?_) (fun cdv AA outer s H vs Q E hr h=>?_)
 ·obtain⟨kd,g,n,X,t,h,rfl,_⟩:=h
  rfl
 ·obtain⟨kd,g,n,X,t,h,rfl,hg,ht,hh,k⟩:=h
  refine⟨_,(Jf (Jl (JnP JmL (Jrt (JrD K kd rfl) (pv 0) (pv 2) (fun _ _=>rfl)) (Jrt (JrD K kd rfl) (pv 0) (pv 1) (fun _ _=>rfl)) (JJ _)))),?_⟩
  refine⟨_,rfl,_,rfl,g,_,_,_,rfl,rfl,hg.sq,Jp (Jff hh),_,rfl,_,rfl,g,_,_,_,rfl,rfl,hg.sq,Jp (Jff ht),_,_,rfl,rfl,?_⟩
  show Q (.bl (decide (bit X t<bit X h))) H
  have e:decide (bit X t<bit X h)=(X.testBit h&&!X.testBit t):=by
   unfold bit
   cases X.testBit t<;>cases X.testBit h<;>simp
  rw[e]
  exact k
noncomputable def Ym (H:Hp) (l:Addr) (n m:Nat):Prop:=∃gs:List Addr,H l=some (.lst (gs.map V.ref))∧gs.length=m∧∀k g,gs[k]? =some g→H g=some (.tup (UY n k))
theorem Ym.same {H H':Hp} {l:Addr} {n m:Nat} (h:Ym H l n m) (s:Jg H H'):Ym H' l n m:=by
 obtain⟨gs,h1,h2,h3⟩:=h
 exact⟨gs,s _ _ h1,h2,fun k g e=>s _ _ (h3 k g e)⟩
noncomputable def Jl1:Sp:=fun vs H Q _=>∃n:Nat,vs=[.int n]∧n≤10∧∀l H',Jg H H'→H l=none→Ym H' l n (2^n)→Q (.ref l) H'
theorem Juz {σ:L2.St} {H:Hp} {Q:VK} {i:Nat} {g:Addr} {xs:List V} {b:Int} (e:σ[i]? =some (some (.ref g))) (hg:H g=some (.tup xs)) (hz:xs.length<sizeLine)
  (k:∀r H4,Jg H H4→H4 r=some (.tup (xs++[.int b]))→Q (.ref r) H4):tOp (JnM K) (Jnk i) (JvQ (Jrn (tC (.int b)) Jte)) σ H Q:=by
 refine⟨_,e,(by show 1≤sizeLine;decide),fun p hp=>⟨g,p,xs,[.int b],rfl,rfl,SqT.of ?_,SqT.of Jb,by simp,?_,fun e=>?_,fun ne q hq=>?_⟩⟩
 ·rw[Jh (Jn hg hp)];exact hg
 ·exact hz
 ·subst e
  exact k p _ (Jj hp) Jb
 ·exact k q _ (Jk (Jj hp) (Jg.free (Jj hp) hq)) Jb
noncomputable def GR (n off:Nat) (i:Nat) (H:Hp) (acc:List V):Prop:=∃gs:List Addr,acc=gs.map V.ref∧gs.length=i∧∀k g,gs[k]? =some g→H g=some (.tup (UY (n+1) (off+k)))
theorem GR.put {n off i:Nat} {H H4:Hp} {acc:List V} {D r:Addr} {l:List V} (h:GR n off i H acc) (s:Jg H H4) (hD:H D=some (.lst l)) (hr:H4 r=some (.tup (UY (n+1) (off+i)))):
  GR n off (i+1) (upd H4 D (.lst (acc++[.ref r]))) (acc++[.ref r]):=by
 obtain⟨gs,rfl,h2,h3⟩:=h
 refine⟨gs++[r],by simp,by simp[h2],fun k g e=>?_⟩
 have hD4:=s _ _ hD
 rw[List.getElem?_append] at e
 split at e
 ·have:=s _ _ (h3 k g e)
  rw[Jh (Q8 this hD4 (by intro z;cases z))];exact this
 ·have hk:k-gs.length=0:=by
   rcases Nat.eq_zero_or_pos (k-gs.length) with z|z
   ·exact z
   ·rw[List.getElem?_eq_none (by simp;omega)] at e;cases e
  rw[hk] at e
  have:r=g:=Option.some.inj e
  subst this
  rw[Jh (Q8 hr hD4 (by intro z;cases z)),hr]
  congr 3
  omega
theorem JrH {n off b i D g:Nat} {H1 H:Hp} {acc:List V} {σ:L2.St} {j:Nat} (hn:n≤10) (e:σ[j]? =some (some (.ref g))) (hD1:H1 D=none) (s:Jg H1 H) (hD:H D=some (.lst acc)) (hr:GR n off i H acc) (hg:H g=some (.tup (UY n i))) (hi:i<2^n)
  (hb:∀k,k<2^n→UY n k++[V.int b]=UY (n+1) (off+k)):
  tOp (JnM K) (Jnk j) (JvQ (Jrn (tC (.int b)) Jte)) σ H fun y H4=>∃acc,H4 D=some (.lst acc)∧acc.length<sizeLine∧(fun H=>Jg H1 H∧∃acc,H D=some (.lst acc)∧GR n off (i+1) H acc) (upd H4 D (.lst (acc++[y]))):=by
 refine Juz e hg (by rw[Jm6];exact Nat.lt_of_le_of_lt hn (by decide)) fun r H4 s4 hr4=>⟨acc,s4 _ _ hD,?_,Jk (s.trans s4) hD1,_,Jb,hr.put s4 hD ?_⟩
 ·obtain⟨gs,rfl,h2,_⟩:=hr
  rw[List.length_map,h2]
  exact Nat.lt_of_lt_of_le hi (Nat.le_trans (Nat.pow_le_pow_right (by decide) hn) (by decide))
 ·rw[hr4,hb i hi]
theorem Jgq (T:Txt w K mg A):JF P w K mg base CX0 1 A.Jbr A.Jai ["places"] Jl1:=by
 refine T.Jej.F.ok Q2 (fun vs H Q E h=>?_) (fun cdv AA outer s H vs Q E hr h=>?_)
 ·obtain⟨n,rfl,_⟩:=h
  rfl
 ·obtain⟨n,rfl,hn,k⟩:=h
  refine⟨_,(Jd (sA 1 Q2.nd (Js (Ja (Jk2 Jc) Jc)))
   (Jd (U3 PassesOwn.never rfl (Jdm (by rfl) T.Jdz (Ja (pv 0) Jc)) (gA 2 Q2.nd)
   (Jd (JaA (i:=3) rfl Q2.nd rfl rfl rfl (Qi (pv 1)) (own:=[("group",4)]) (lK Jea (Je Ja6) (by decide+kernel)) (fun _ _ _ _ _=>(gA 4 Q2.nd)) (fun _ _ _ _ _=>Qo) (fun _ _ _ _ _=>(JB (JmM K rfl) (pv 4) (Jk2 (Ja Jm Jc)))))
   (Jf (sA 1 Q2.nd (JB Q7 (pv 3) (WH rfl Q2.nd (Qi (pv 1)) (own:=[("group",4)]) (lK Jea (Je Ja6) (by decide+kernel)) (fun _ _ _ _ _=>(gA 4 Q2.nd)) (fun _ _ _ _ _=>Qo) (fun _ _ _ _ _=>(JB (JmM K rfl) (pv 4) (Jk2 (Ja Jm Jc))))))))))
   (Jf (Jl (pv 1))))),?_⟩
  refine⟨Nat.zero_le _,fun p0 hp0=>⟨(by show 1≤sizeLine;decide),fun l0 hl0=>?_⟩⟩
  have s0:Jg H (upd (upd H p0 (.tup [])) l0 (.lst [.ref p0])):=Jk (Jj hp0) (Jg.free (Jj hp0) hl0)
  have G0:Ym (upd (upd H p0 (.tup [])) l0 (.lst [.ref p0])) l0 0 (2^0):=by
   refine⟨[p0],Jb,rfl,fun k g e=>?_⟩
   cases k with
   |zero=>
    have:p0=g:=Option.some.inj e
    subst this
    rw[Jh (Jn (H:=upd H p0 (.tup [])) Jb hl0),Jb];rfl
   |succ k=>simp at e
  refine⟨_,rfl,n,rfl,by omega,by omega,JfU (n:=n) (fun i σ H'=>∃(v2 v3 v4:Option V) (l:Addr),σ=[some (.int n),some (.ref l),v2,v3,v4]∧Jg H H'∧H l=none∧Ym H' l i (2^i)) ⟨none,none,none,l0,rfl,s0,Jg.free (Jj hp0) hl0,G0⟩ ?_ ?_⟩
  ·rintro i σ H' hi ⟨v2,v3,v4,l,rfl,s1,hl,G⟩
   obtain⟨gs,hL,hlen,hgs⟩:=id G
   have hi10:i≤10:=by omega
   have hml:(gs.map V.ref).length=2^i:=by rw[List.length_map,hlen]
   have z0:∀k,k<2^i→UY i k++[V.int 0]=UY (i+1) (0+k):=fun k hk=>by rw[Nat.zero_add];exact JqX i k hk
   refine⟨_,rfl,l,rfl,⟨_,SqL.of hL⟩,fun D hD=>?_⟩
   refine Ju0 (K:=K) (GR i 0) (gs.map V.ref).length (Itl K l) hD ⟨[],rfl,rfl,fun k g e=>by simp at e⟩ (Ye (SqL.of hL)) (QW (SqL.of hL)) ?_ ?_
   ·intro j x H2 H3 acc hj s2 hD2 r y
    obtain⟨rfl,y⟩:=y
    obtain⟨g,hg,rfl⟩:=J1 (y _ (s2.seq (SqL.of hL)))
    exact⟨rfl,JrH hi10 rfl hD s2 hD2 r (s2 _ _ (hgs j g hg)) (by rw[←hml];exact hj) z0⟩
   ·intro H2 acc s2 hD2 r
    have hL2:=s2 _ _ hL
    refine⟨_,rfl,_,rfl,l,rfl,⟨_,SqL.of hL2⟩,fun D2 hD3=>?_⟩
    refine Ju0 (K:=K) (GR i (2^i)) (gs.map V.ref).length (Itl K l) hD3 ⟨[],rfl,rfl,fun k g e=>by simp at e⟩ (Ye (SqL.of hL2)) (QW (SqL.of hL2)) ?_ ?_
    ·intro j x H4 H5 acc2 hj s3 hD4 r2 y
     obtain⟨rfl,y⟩:=y
     obtain⟨g,hg,rfl⟩:=J1 (y _ (s3.seq (SqL.of hL2)))
     exact⟨rfl,JrH hi10 rfl hD3 s3 hD4 r2 (s3 _ _ (s2 _ _ (hgs j g hg))) (by rw[←hml];exact hj) (JsW i)⟩
    ·intro H4 acc2 s3 hD4 r2
     obtain⟨g0,rfl,l0',k0⟩:=r
     obtain⟨g1,rfl,l1',k1⟩:=r2
     rw[hml] at l0' l1'
     have pz:2^i≤2^10:=Nat.pow_le_pow_right (by decide) hi10
     refine⟨D,D2,_,_,rfl,rfl,s3 _ _ hD2,hD4,?_,fun p hp=>?_⟩
     ·rw[List.length_map,List.length_map,l0',l1']
      exact Nat.le_trans (Nat.add_le_add pz pz) (by decide)
     ·have sT:Jg H H4:=(s1.trans s2).trans s3
      refine⟨_,_,_,p,rfl,Jk sT (Jg.free sT hp),Jg.free sT hp,g0++g1,?_,?_,fun k g e=>?_⟩
      ·rw[Jb,List.map_append]
      ·rw[List.length_append,l0',l1',Nat.pow_succ];omega
      ·have hne:∀o,H4 g=some o→upd H4 p (.lst (g0.map V.ref++g1.map V.ref)) g=some o:=fun o ho=>by rw[Jh (Jn ho hp)];exact ho
       rw[List.getElem?_append] at e
       split at e
       ·have:=k0 k g e
        rw[Nat.zero_add] at this
        exact hne _ (s3 _ _ this)
       ·have:=k1 _ g e
        rw[show 2^i+(k-g0.length)=k by omega] at this
        exact hne _ this
  ·rintro σ H' ⟨v2,v3,v4,l,rfl,s1,hl,G⟩
   exact⟨_,rfl,k l H' s1 hl G⟩
end
end Zm
namespace Zm
open PySem PySem.Spec PyProof.Rows L2
theorem JrF {n j:Nat} (h:j<n):ixN n (j:Int)=some j:=by
 unfold ixN
 rw[if_pos (by omega),if_pos (by omega),Int.toNat_natCast]
theorem Jg3 {b:Bool} {X Y:Prop} (h:b=true) (x:X):if b=true then X else Y:=by rw[if_pos h];exact x
theorem JjZ {b:Bool} {X Y:Prop} (h:b=false) (y:Y):if b=true then X else Y:=by rw[h];exact y
theorem J4 {b:Bool} {X Y:Prop} (x:b=true→X) (y:b=false→Y):if b=true then X else Y:=by
 cases b with
 |true=>exact Jg3 rfl (x rfl)
 |false=>exact JjZ rfl (y rfl)
structure Q5 {α β:Type} (R:α→β→Prop) (xs:List α) (ys:List β):Prop where
 len:xs.length=ys.length
 at_:∀(i:Nat) x y,xs[i]? =some x→ys[i]? =some y→R x y
theorem Q5.imp {α β:Type} {R S:α→β→Prop} {xs:List α} {ys:List β} (h:Q5 R xs ys) (f:∀x y,R x y→S x y):Q5 S xs ys:=⟨h.len,fun i x y a b=>f x y (h.at_ i x y a b)⟩
theorem Q5.get {α β:Type} {R:α→β→Prop} {xs:List α} {ys:List β} (h:Q5 R xs ys) {i:Nat} {x:α} (e:xs[i]? =some x):∃y,ys[i]? =some y∧R x y:=by
 have hi:i<ys.length:=by rw[←h.len];exact(List.getElem?_eq_some_iff.mp e).1
 exact⟨ys[i],List.getElem?_eq_getElem hi,h.at_ i x _ e (List.getElem?_eq_getElem hi)⟩
noncomputable def Y2 (b:Bool):Int:=if b=true then 1 else 0
noncomputable def Jeb (A:Adr) (H:Hp) (p:Addr) (l:Vbemae.Line):Prop:=∃dx,H p=some (.ins A.Wg dx (JlO (.int l.a) (.int l.b) (.int l.forth) (.int l.back)))
noncomputable def Jbt (A:Adr) (H:Hp) (p:Addr) (o:Vbemae.Order):Prop:=∃dx,H p=some (.ins A.Um dx (Jku (.int o.zone) (.int (Y2 o.buy)) (.int o.price) (.int o.amount)))
structure JpR (A:Adr) (H:Hp) (p:Addr) (N:Vbemae.Net) (lp op:Addr) (ls os:List Addr):Prop where
 net:∃dx,H p=some (.ins A.Y1 dx (Jur (.int N.lo) (.int N.hi) (.int N.zones) (.ref lp) (.ref op)))
 lls:H lp=some (.lst (ls.map V.ref))
 los:H op=some (.lst (os.map V.ref))
 ln:Q5 (Jeb A H) ls N.lines
 od:Q5 (Jbt A H) os N.orders
theorem Jeb.same {A:Adr} {H H':Hp} {p:Addr} {l:Vbemae.Line} (s:Jg H H') (h:Jeb A H p l):Jeb A H' p l:=let⟨dx,e⟩:=h;⟨dx,s _ _ e⟩
theorem Jbt.same {A:Adr} {H H':Hp} {p:Addr} {o:Vbemae.Order} (s:Jg H H') (h:Jbt A H p o):Jbt A H' p o:=let⟨dx,e⟩:=h;⟨dx,s _ _ e⟩
theorem JpR.same {A:Adr} {H H':Hp} {p:Addr} {N:Vbemae.Net} {lp op:Addr} {ls os:List Addr} (s:Jg H H') (h:JpR A H p N lp op ls os):JpR A H' p N lp op ls os:=
 ⟨let⟨dx,e⟩:=h.net;⟨dx,s _ _ e⟩,s _ _ h.lls,s _ _ h.los,h.ln.imp fun _ _ q=>q.same s,h.od.imp fun _ _ q=>q.same s⟩
noncomputable def UI (A:Adr) (H:Hp) (p:Addr) (N:Vbemae.Net):Prop:=∃lp op ls os,JpR A H p N lp op ls os
theorem UI.same {A:Adr} {H H':Hp} {p:Addr} {N:Vbemae.Net} (s:Jg H H') (h:UI A H p N):UI A H' p N:=let⟨lp,op,ls,os,q⟩:=h;⟨lp,op,ls,os,q.same s⟩
structure QN (N:Vbemae.Net):Prop where
 ok:Ok N
 z1:1≤N.zones
 z6:N.zones≤6
 l12:N.lines.length≤12
 o41:N.orders.length≤41
 lo6:-1000000≤N.lo
 hi6:N.hi≤1000000
noncomputable def Jcw (t:Int) (o:Vbemae.Order):Int:=if o.buy=true then(if t<o.price then o.amount else 0) else(if o.price≤t then-o.amount else 0)
noncomputable def Up (os:List Vbemae.Order) (t:Int) (z:Nat):Int:=Vbemae.total (os.map fun o=>if o.zone=z then Jcw t o else 0)
noncomputable def QB (n:Nat) (os:List Vbemae.Order) (t:Int):List Int:=(List.range n).map fun z=>Up os t z
theorem JaB (n:Nat) (os:List Vbemae.Order) (t:Int):(QB n os t).length=n:=by simp[QB]
theorem Je7 (os:List Vbemae.Order) (o:Vbemae.Order) (t:Int) (z:Nat):Up (os++[o]) t z=Up os t z+if o.zone=z then Jcw t o else 0:=by
 unfold Up;rw[List.map_append,Ql];simp[Vbemae.total]
theorem Jsz {n:Nat} (os:List Vbemae.Order) {o:Vbemae.Order} {t x:Int} (h:o.zone<n) (hx:Up os t o.zone+Jcw t o=x):(QB n os t).set o.zone x=QB n (os++[o]) t:=by
 subst hx
 refine List.ext_getElem? fun i=>?_
 rw[List.getElem?_set,JaB]
 unfold QB
 rw[List.getElem?_map,List.getElem?_map]
 by_cases hi:i<n
 ·rw[List.getElem?_range hi]
  by_cases e:o.zone=i
  ·subst e;simp[h,Je7]
  ·simp[e,Je7]
 ·rw[List.getElem?_eq_none (by simpa using hi)]
  by_cases e:o.zone=i
  ·omega
  ·simp[e]
theorem JqJ {n:Nat} (os:List Vbemae.Order) {o:Vbemae.Order} {t:Int} (h:Jcw t o=0):QB n (os++[o]) t=QB n os t:=by
 unfold QB
 refine List.map_congr_left fun z _=>?_
 rw[Je7,h]
 split<;>simp
theorem JdU {n:Nat} (os:List Vbemae.Order) (t:Int) {z:Nat} (h:z<n):((QB n os t).map V.int)[z]? =some (.int (Up os t z)):=by
 rw[List.getElem?_map];unfold QB;rw[List.getElem?_map,List.getElem?_range h];rfl
theorem Jps (n:Nat) (t:Int):QB n [] t=List.replicate n 0:=by
 unfold QB
 refine List.ext_getElem? fun i=>?_
 rw[List.getElem?_map,List.getElem?_replicate]
 by_cases hi:i<n
 ·rw[List.getElem?_range hi,if_pos hi];rfl
 ·rw[List.getElem?_eq_none (by simpa using hi),if_neg hi];rfl
noncomputable def Jhl (A:Adr):Sp:=fun vs H Q _=>∃(p:Addr) (N:Vbemae.Net) (t:Int),vs=[.ref p,.int t]∧UI A H p N∧QN N∧
 ∀l H',Jg H H'→H l=none→H' l=some (.lst ((QB N.zones N.orders t).map V.int))→Q (.ref l) H'
section
variable {P:Program} {w:World} {K:PySem.W.Frag} {mg:Str→Option Value} {base:Heap} {A:Adr}
theorem Wq (T:Txt w K mg A):JF P w K mg base CX0 1 A.W2 A.Wt ["net","t"] (Jhl A):=by
 refine T.UT.F.ok Y3 (fun vs H Q E h=>?_) (fun cdv AA outer s H vs Q E hr h=>?_)
 ·obtain⟨p,N,t,rfl,_⟩:=h
  rfl
 ·obtain⟨p,N,t,rfl,⟨lp,op,ls,os,hN⟩,ok,k⟩:=h
  obtain⟨dx,hnet⟩:=hN.net
  refine⟨_,(Jd (sA 2 Y3.nd (JB Jqw (Js (Ja Jm Jc)) (fL K (pv 0))))
   (Jd (U3 PassesOwn.never rfl (Qi (fL K (pv 0))) (gA 3 Y3.nd)
   (Jd (Qa (Jqt (JA YX (fL K (pv 3)) (gL T.Jb3) (JJ _)) (JnN (JA JmL (fL K (pv 3)) (pv 1) (JJ _)))).pt (Jf (Jrs (pv 2) (fL K (pv 3)) (JmV K rfl) (fL K (pv 3)) Jg4 Jhr)) JD)
   (Jf (Qa (Jqt (JA Jpe (fL K (pv 3)) (gL T.Jb3) (JJ _)) (JnN (JA JbK (fL K (pv 3)) (pv 1) (JJ _)))).pt (Jf (Jrs (pv 2) (fL K (pv 3)) (JmV K rfl) (fL K (pv 3)) JqM Jhr)) JD))))
   (Jf (Jl (pv 2))))),?_⟩
  refine⟨(by show 1≤sizeLine;decide),fun l0 hl0=>?_⟩
  have s0:Jg H (upd H l0 (.lst [.int 0])):=Jj hl0
  refine⟨_,rfl,fld (s0 _ _ hnet) T.Jt T.Jw rfl ⟨l0,N.zones,_,rfl,rfl,Jb,by omega,by have:=ok.z6;omega,?_,fun l hl=>?_⟩⟩
  ·have:=ok.z6
   show 1*(N.zones:Int).toNat≤sizeLine
   exact Nat.le_trans (show 1*(N.zones:Int).toNat≤6 by omega) (by decide)
  have s1:Jg H (upd (upd H l0 (.lst [.int 0])) l (.lst (List.replicate (N.zones:Int).toNat [V.int 0]).flatten)):=Jk s0 (Jg.free s0 hl)
  have hl':H l=none:=Jg.free s0 hl
  have e0:(List.replicate (N.zones:Int).toNat [V.int 0]).flatten=(QB N.zones (N.orders.take 0) t).map V.int:=by
   rw[List.take_zero,Jps,Int.toNat_natCast]
   simp
  refine⟨_,rfl,fld (s1 _ _ hnet) T.Jt T.Jv rfl ⟨op,rfl,⟨_,SqL.of (s1 _ _ hN.los)⟩,JaN (K:=K) (a:=op) (xs:=os.map V.ref) (fun i σ H'=>∃v,σ=[some (.ref p),some (.int t),some (.ref l),v]∧Jg H H'∧H' l=some (.lst ((QB N.zones (N.orders.take i) t).map V.int))) ⟨none,rfl,s1,by rw[Jb,e0]⟩ (fun i σ H' _ ⟨_,_,s2,_⟩=>SqL.of (s2 _ _ hN.los)) ?_ ?_⟩⟩
  ·rintro i x σ H' hi ⟨v,rfl,s2,hl2⟩
   obtain⟨q,hq,rfl⟩:=J1 hi
   obtain⟨o,ho,dxo,hoA⟩:=hN.od.get hq
   have hO:=s2 _ _ hoA
   have hoz:=(ok.ok.orders o (List.mem_of_getElem? ho)).zone
   have hlz:ixN (List.length ((QB N.zones (N.orders.take i) t).map V.int)) (o.zone:Int)=some o.zone:=JrF (by rw[List.length_map,JaB];exact hoz)
   have et:N.orders.take (i+1)=N.orders.take i++[o]:=by
    have hi2:=List.getElem?_eq_some_iff.mp ho
    rw[List.take_succ_eq_append_getElem hi2.1,hi2.2]
   have up:∀x,Up (N.orders.take i) t o.zone+Jcw t o=x→(((QB N.zones (N.orders.take i) t).map V.int).set o.zone (.int x))=(QB N.zones (N.orders.take (i+1)) t).map V.int:=fun x hx=>by
    rw[et,←Jsz (N.orders.take i) hoz hx,List.map_set]
   have no:Jcw t o=0→QB N.zones (N.orders.take i) t=QB N.zones (N.orders.take (i+1)) t:=fun h=>by rw[et,JqJ _ h]
   have hg:=JdU (N.orders.take i) t hoz
   have hlq:q≠l:=Q8 hO hl2 (by intro z;cases z)
   cases hb:o.buy with
   |true=>
    have es:Y2 o.buy=1:=by rw[hb];rfl
    rw[es] at hO
    refine⟨_,rfl,fld hO T.Jy T.JL rfl ⟨rfl,_,rfl,Jg3 (by decide) ?_⟩⟩
    refine⟨_,rfl,fld hO T.Jy T.QL rfl ⟨_,rfl,_,_,rfl,rfl,_,rfl,J4 (fun hc=>?_) (fun hc=>?_)⟩⟩
    ·have hlt:t<o.price:=of_decide_eq_true hc
     refine⟨_,rfl,_,rfl,fld hO T.Jy T.Qj rfl ⟨l,_,_,_,rfl,rfl,SqL.of hl2,Jp hg,_,rfl,fld hO T.Jy T.JP rfl ⟨_,_,rfl,rfl,l,_,_,o.zone,rfl,rfl,hl2,hlz,?_⟩⟩⟩
     have hO2:∀u,upd H' l u q=_:=fun u=>(Jh hlq).trans hO
     refine⟨_,rfl,fld (hO2 _) T.Jy T.JL rfl ⟨rfl,_,rfl,JjZ (by decide) (JjZ rfl ?_)⟩⟩
     refine⟨_,rfl,Jk s2 hl',?_⟩
     rw[Jb,up _ (by unfold Jcw;rw[hb,if_pos rfl,if_pos hlt])]
    ·have hlt:¬t<o.price:=of_decide_eq_false hc
     refine⟨_,rfl,fld hO T.Jy T.JL rfl ⟨rfl,_,rfl,JjZ (by decide) (JjZ rfl ?_)⟩⟩
     refine⟨_,rfl,s2,?_⟩
     rw[hl2,no (by unfold Jcw;rw[hb,if_pos rfl,if_neg hlt])]
   |false=>
    have es:Y2 o.buy=0:=by rw[hb];rfl
    rw[es] at hO
    refine⟨_,rfl,fld hO T.Jy T.JL rfl ⟨rfl,_,rfl,JjZ (by decide) (JjZ rfl ?_)⟩⟩
    refine⟨_,rfl,fld hO T.Jy T.JL rfl ⟨rfl,_,rfl,Jg3 (by decide) ?_⟩⟩
    refine⟨_,rfl,fld hO T.Jy T.QL rfl ⟨_,rfl,_,_,rfl,rfl,_,rfl,J4 (fun hc=>?_) (fun hc=>?_)⟩⟩
    ·have hle:o.price≤t:=of_decide_eq_true hc
     refine⟨_,rfl,_,rfl,fld hO T.Jy T.Qj rfl ⟨l,_,_,_,rfl,rfl,SqL.of hl2,Jp hg,_,rfl,fld hO T.Jy T.JP rfl ⟨_,_,rfl,rfl,l,_,_,o.zone,rfl,rfl,hl2,hlz,?_⟩⟩⟩
     refine⟨_,rfl,Jk s2 hl',?_⟩
     rw[Jb,up _ (by unfold Jcw;rw[hb,if_neg (by decide),if_pos hle];exact Int.sub_eq_add_neg.symm)]
    ·have hle:¬o.price≤t:=of_decide_eq_false hc
     refine⟨_,rfl,s2,?_⟩
     rw[hl2,no (by unfold Jcw;rw[hb,if_neg (by decide),if_neg hle])]
  ·rintro σ H' ⟨v,rfl,s2,hl2⟩
   refine⟨_,rfl,k l H' s2 hl' ?_⟩
   rw[hl2,List.length_map,hN.od.len,List.take_length]
end
end Zm
namespace Zm
open PySem PySem.Spec PyProof.Rows L2
noncomputable def JkY (X:Nat) (l:Vbemae.Line):Int:=(if(X.testBit l.b&&!X.testBit l.a)=true then l.forth else 0)+(if(X.testBit l.a&&!X.testBit l.b)=true then l.back else 0)
noncomputable def Yj (ls:List Vbemae.Line) (X:Nat):Int:=Vbemae.total (ls.map (JkY X))
theorem YK {α:Type} (f:α→Int) {l:List α} {i:Nat} {x:α} (h:l[i]? =some x):Vbemae.total ((l.take (i+1)).map f)=Vbemae.total ((l.take i).map f)+f x:=by
 have h2:=List.getElem?_eq_some_iff.mp h
 rw[List.take_succ_eq_append_getElem h2.1,h2.2,List.map_append,Ql]
 simp[Vbemae.total]
theorem st4 {a b d:Option V} {x y:Int} (h:x=y):[a,b,some (V.int x),d]=[a,b,some (V.int y),d]:=by rw[h]
noncomputable def Jnn (A:Adr):Sp:=fun vs H Q _=>∃(kd:ZZ.Knd) (p g:Addr) (N:Vbemae.Net) (X:Nat),vs=[.ref p,.ref g]∧UI A H p N∧QN N∧JgA kd H g N.zones X∧Q (.int (Yj N.lines X)) H
noncomputable def Ya (A:Adr) (H:Hp) (p:Addr) (e:Vbemae.Arc):Prop:=∃dx,H p=some (.ins A.WE dx (JlP (.int e.tail) (.int e.head) (.int e.lo) (.int e.hi)))
theorem Ya.same {A:Adr} {H H':Hp} {p:Addr} {e:Vbemae.Arc} (s:Jg H H') (h:Ya A H p e):Ya A H' p e:=let⟨dx,q⟩:=h;⟨dx,s _ _ q⟩
noncomputable def JkH (A:Adr):Sp:=fun vs H Q _=>∃(g ap:Addr) (n X:Nat) (as:List Addr) (es:List Vbemae.Arc),vs=[.ref g,.ref ap]∧H g=some (.tup (UY n X))∧H ap=some (.lst (as.map V.ref))∧Q5 (Ya A H) as es∧(∀e∈es,e.tail<n∧e.head<n)∧Q (.int (JH es X)) H
section
variable {P:Program} {w:World} {K:PySem.W.Frag} {mg:Str→Option Value} {base:Heap} {A:Adr}
theorem JhH (T:Txt w K mg A):JF P w K mg base CX0 2 A.JcI A.Jbb ["net","group"] (Jnn A):=by
 refine T.Jfv.F.ok Y7 (fun vs H Q E h=>?_) (fun cdv AA outer s H vs Q E hr h=>?_)
 ·obtain⟨kd,p,g,N,X,rfl,_⟩:=h
  rfl
 ·obtain⟨kd,p,g,N,X,rfl,⟨lp,op,ls,os,hN⟩,ok,hg,k⟩:=h
  obtain⟨dx,hnet⟩:=hN.net
  refine⟨_,(Jd (sA 2 Y7.nd Jm)
   (Jd (U3 PassesOwn.never rfl (Qi (fL K (pv 0))) (gA 3 Y7.nd)
   (Jd (Qa (VY (cL (VZ T) hr T.JaT (Ja (pv 1) (Ja (fL K (pv 3)) (Ja (fL K (pv 3)) Jc))))) (Jf (JeV (i:=2) Y7.nd rfl (Or.inl rfl) (fL K (pv 3)) Jg4)) JD)
   (Jf (Qa (VY (cL (VZ T) hr T.JaT (Ja (pv 1) (Ja (fL K (pv 3)) (Ja (fL K (pv 3)) Jc))))) (Jf (JeV (i:=2) Y7.nd rfl (Or.inl rfl) (fL K (pv 3)) Jg4)) JD))))
   (Jf (Jl (pv 2))))),?_⟩
  refine⟨_,rfl,fld hnet T.Jt T.JE rfl ⟨lp,rfl,⟨_,SqL.of hN.lls⟩,JaN (K:=K) (a:=lp) (xs:=ls.map V.ref) (fun i σ H'=>∃v,σ=[some (.ref p),some (.ref g),some (.int (Vbemae.total ((N.lines.take i).map (JkY X)))),v]∧H'=H) ⟨none,rfl,rfl⟩ (fun i σ H' _ ⟨_,_,e⟩=>e▸SqL.of hN.lls) ?_ ?_⟩⟩
  ·rintro i x σ H' hi ⟨v,rfl,rfl⟩
   obtain⟨q,hq,rfl⟩:=J1 hi
   obtain⟨l,hl,dxl,hL⟩:=hN.ln.get hq
   have okl:=ok.ok.lines l (List.mem_of_getElem? hl)
   refine⟨_,rfl,_,rfl,fld hL T.JN T.J3 rfl ⟨_,rfl,fld hL T.JN T.JT rfl ⟨kd,g,N.zones,X,l.a,l.b,rfl,hg,okl.a,okl.b,_,rfl,J4 (fun hc=>?_) (fun hc=>?_)⟩⟩⟩
   ·refine⟨_,rfl,_,rfl,fld hL T.JN T.Qk rfl ⟨_,_,rfl,rfl,?_⟩⟩
    refine⟨_,rfl,_,rfl,fld hL T.JN T.JT rfl ⟨_,rfl,fld hL T.JN T.J3 rfl ⟨kd,g,N.zones,X,l.b,l.a,rfl,hg,okl.b,okl.a,_,rfl,J4 (fun hd=>?_) (fun hd=>?_)⟩⟩⟩
    ·refine⟨_,rfl,_,rfl,fld hL T.JN T.Qq rfl ⟨_,_,rfl,rfl,?_⟩⟩
     exact⟨some (.ref q),st4 (by rw[YK _ hl];unfold JkY;simp only[hc,hd,↓reduceIte,Bool.false_eq_true];omega),rfl⟩
    ·exact⟨some (.ref q),st4 (by rw[YK _ hl];unfold JkY;simp only[hc,hd,↓reduceIte,Bool.false_eq_true];omega),rfl⟩
   ·refine⟨_,rfl,_,rfl,fld hL T.JN T.JT rfl ⟨_,rfl,fld hL T.JN T.J3 rfl ⟨kd,g,N.zones,X,l.b,l.a,rfl,hg,okl.b,okl.a,_,rfl,J4 (fun hd=>?_) (fun hd=>?_)⟩⟩⟩
    ·refine⟨_,rfl,_,rfl,fld hL T.JN T.Qq rfl ⟨_,_,rfl,rfl,?_⟩⟩
     exact⟨some (.ref q),st4 (by rw[YK _ hl];unfold JkY;simp only[hc,hd,↓reduceIte,Bool.false_eq_true];omega),rfl⟩
    ·exact⟨some (.ref q),st4 (by rw[YK _ hl];unfold JkY;simp only[hc,hd,↓reduceIte,Bool.false_eq_true];omega),rfl⟩
  ·rintro σ H' ⟨v,rfl,rfl⟩
   refine⟨_,rfl,?_⟩
   have e:(ls.map V.ref).length=N.lines.length:=by rw[List.length_map,hN.ln.len]
   rw[e,List.take_length]
   exact k
theorem JkM (X:Nat) (e:Vbemae.Arc):sp1 X e=(if(X.testBit e.tail&&!X.testBit e.head)=true then e.hi else 0)-(if(X.testBit e.head&&!X.testBit e.tail)=true then e.lo else 0):=by
 unfold sp1
 cases X.testBit e.tail<;>cases X.testBit e.head<;>simp
theorem Jk6 (T:Txt w K mg A):JF P w K mg base CX0 2 A.Jao A.Vw ["group","arcs"] (JkH A):=by
 refine T.JgD.F.ok WG (fun vs H Q E h=>?_) (fun cdv AA outer s H vs Q E hr h=>?_)
 ·obtain⟨g,ap,n,X,as,es,rfl,_⟩:=h
  rfl
 ·obtain⟨g,ap,n,X,as,es,rfl,hg,hap,hA,hb,k⟩:=h
  refine⟨_,(Jd (sA 2 WG.nd Jm)
   (Jd (U3 PassesOwn.never rfl (Qi (pv 1)) (gA 3 WG.nd)
   (Jd (Qa (VY (cL (VZ T) hr T.JaT (Ja (pv 0) (Ja (fL K (pv 3)) (Ja (fL K (pv 3)) Jc))))) (Jf (JeV (i:=2) WG.nd rfl (Or.inl rfl) (fL K (pv 3)) JqM)) JD)
   (Jf (Qa (VY (cL (VZ T) hr T.JaT (Ja (pv 0) (Ja (fL K (pv 3)) (Ja (fL K (pv 3)) Jc))))) (Jf (JeV (i:=2) WG.nd rfl (Or.inl rfl) (fL K (pv 3)) Jg4)) JD))))
   (Jf (Jl (pv 2))))),?_⟩
  refine⟨_,rfl,ap,rfl,⟨_,SqL.of hap⟩,JaN (K:=K) (a:=ap) (xs:=as.map V.ref) (fun i σ H'=>∃v,σ=[some (.ref g),some (.ref ap),some (.int (Vbemae.total ((es.take i).map (sp1 X)))),v]∧H'=H) ⟨none,rfl,rfl⟩ (fun i σ H' _ ⟨_,_,e⟩=>e▸SqL.of hap) ?_ ?_⟩
  ·rintro i x σ H' hi ⟨v,rfl,rfl⟩
   obtain⟨q,hq,rfl⟩:=J1 hi
   obtain⟨e,he,dxl,hL⟩:=hA.get hq
   obtain⟨okt,okh⟩:=hb e (List.mem_of_getElem? he)
   refine⟨_,rfl,_,rfl,fld hL T.Q3 T.Uv rfl ⟨_,rfl,fld hL T.Q3 T.Uw rfl ⟨.tup,g,n,X,e.tail,e.head,rfl,hg,okt,okh,_,rfl,J4 (fun hc=>?_) (fun hc=>?_)⟩⟩⟩
   ·refine⟨_,rfl,_,rfl,fld hL T.Q3 T.U6 rfl ⟨_,_,rfl,rfl,?_⟩⟩
    refine⟨_,rfl,_,rfl,fld hL T.Q3 T.Uw rfl ⟨_,rfl,fld hL T.Q3 T.Uv rfl ⟨.tup,g,n,X,e.head,e.tail,rfl,hg,okh,okt,_,rfl,J4 (fun hd=>?_) (fun hd=>?_)⟩⟩⟩
    ·exfalso
     simp at hc hd
     rw[hc.1] at hd;exact absurd hd.2 (by decide)
    ·exact⟨some (.ref q),st4 (by rw[YK _ he,JkM];simp only[hc,hd,↓reduceIte,Bool.false_eq_true];omega),rfl⟩
   ·refine⟨_,rfl,_,rfl,fld hL T.Q3 T.Uw rfl ⟨_,rfl,fld hL T.Q3 T.Uv rfl ⟨.tup,g,n,X,e.head,e.tail,rfl,hg,okh,okt,_,rfl,J4 (fun hd=>?_) (fun hd=>?_)⟩⟩⟩
    ·refine⟨_,rfl,_,rfl,fld hL T.Q3 T.WJ rfl ⟨_,_,rfl,rfl,?_⟩⟩
     exact⟨some (.ref q),st4 (by rw[YK _ he,JkM];simp only[hc,hd,↓reduceIte,Bool.false_eq_true];omega),rfl⟩
    ·exact⟨some (.ref q),st4 (by rw[YK _ he,JkM];simp only[hc,hd,↓reduceIte,Bool.false_eq_true];omega),rfl⟩
  ·rintro σ H' ⟨v,rfl,rfl⟩
   refine⟨_,rfl,?_⟩
   have e:(as.map V.ref).length=es.length:=by rw[List.length_map,hA.len]
   rw[e,List.take_length]
   exact k
end
end Zm
namespace Zm
open PySem PySem.Spec PyProof.Rows L2
theorem WR:∀l:List Int,l.sum=Vbemae.total l
 |[]=>rfl
 |a::l=>by rw[List.sum_cons,JG,WR l]
theorem Jnj (c:Int) (f:Nat→Int) (z:Nat):∀n,z<n→Vbemae.total ((List.range n).map fun i=>(if z=i then c else 0)*f i)=c*f z:=by
 intro n
 induction n with
 |zero=>intro h;omega
 |succ n ih=>
  intro h
  rw[List.range_succ,List.map_append,Ql]
  by_cases e:z=n
  ·subst e
   have hz:Vbemae.total ((List.range z).map fun i=>(if z=i then c else 0)*f i)=0:=by
    rw[JC (g:=fun _=>0) _ fun i hi=>by rw[if_neg (by have:=List.mem_range.mp hi;omega),Int.zero_mul]]
    exact Jby _
   rw[hz];simp[Vbemae.total]
  ·rw[ih (by omega)];simp[Vbemae.total,e]
theorem JmA {α:Type} (f g:α→Int):∀l:List α,Vbemae.total (l.map fun a=>f a+g a)=Vbemae.total (l.map f)+Vbemae.total (l.map g)
 |[]=>rfl
 |a::l=>by simp only[List.map_cons,JG,JmA f g l];omega
theorem Jpt (n X:Nat) (t:Int):∀os:List Vbemae.Order,(∀o∈os,o.zone<n)→Vbemae.total ((List.range n).map fun z=>Up os t z*bit X z)=Vbemae.total (os.map fun o=>if X.testBit o.zone=true then Jcw t o else 0)
 |[],_=>by
  rw[JC (g:=fun _=>0) _ fun i _=>by unfold Up;simp[Vbemae.total]]
  exact Jby _
 |o::os,h=>by
  have ih:=Jpt n X t os fun x hx=>h x (List.mem_cons_of_mem _ hx)
  have e:(List.range n).map (fun z=>Up (o::os) t z*bit X z)=(List.range n).map fun z=>(if o.zone=z then Jcw t o else 0)*bit X z+Up os t z*bit X z:=List.map_congr_left fun z _=>by
   unfold Up;rw[List.map_cons,JG,Int.add_mul]
  rw[e,JmA,ih,Jnj _ _ _ n (h o List.mem_cons_self),List.map_cons,JG]
  congr 1
  unfold bit
  cases X.testBit o.zone<;>simp
theorem Ji2 {N:Vbemae.Net} (ok:QN N) (t:Int) (X:Nat):Vbemae.total ((List.range N.zones).map fun z=>Up N.orders t z*bit X z)-Yj N.lines X=Vbemae.shortage N t X:=by
 rw[Jpt N.zones X t N.orders fun o ho=>(ok.ok.orders o ho).zone]
 unfold Vbemae.shortage Yj
 congr 1
 refine congrArg Vbemae.total (List.map_congr_left fun l _=>?_)
 unfold JkY
 cases X.testBit l.a<;>cases X.testBit l.b<;>simp
noncomputable def JdH (N:Vbemae.Net) (t:Int) (m:Nat):List Int:=(List.range m).map fun X=>Vbemae.shortage N t X
noncomputable def JgR (N:Vbemae.Net) (m:Nat):List Int:=(List.range m).map fun X=>Yj N.lines X
theorem Jsj {N:Vbemae.Net} {t:Int} {m i:Nat} (h:i<m):(JdH N t m)[i]? =some (Vbemae.shortage N t i):=by
 unfold JdH;rw[List.getElem?_map,List.getElem?_range h];rfl
theorem Jsp {N:Vbemae.Net} {m i:Nat} (h:i<m):(JgR N m)[i]? =some (Yj N.lines i):=by
 unfold JgR;rw[List.getElem?_map,List.getElem?_range h];rfl
noncomputable def JkF (A:Adr):Sp:=fun vs H Q _=>∃(kd:ZZ.Knd) (g l:Addr) (N:Vbemae.Net) (t:Int) (X:Nat),vs=[.ref g,.ref l]∧QN N∧JgA kd H g N.zones X∧H l=some (.lst ((QB N.zones N.orders t).map V.int))∧
 ∀H',Jg H H'→Q (.int (Vbemae.total ((List.range N.zones).map fun j=>Up N.orders t j*bit X j))) H'
noncomputable def Jho (A:Adr):Sp:=fun vs H Q _=>∃(kd:ZZ.Knd) (p g:Addr) (N:Vbemae.Net) (t:Int) (X:Nat),vs=[.ref p,.ref g,.int t]∧UI A H p N∧QN N∧JgA kd H g N.zones X∧
 ∀H',Jg H H'→Q (.int (Vbemae.shortage N t X)) H'
theorem JuD {n:Nat} (h:n≤6):2^n≤64:=Nat.le_trans (Nat.pow_le_pow_right (by decide) h) (by decide)
section
variable {P:Program} {w:World} {K:PySem.W.Frag} {mg:Str→Option Value} {base:Heap} {A:Adr}
theorem Je0 (T:Txt w K mg A):JF P w K mg base CX0 1 A.Jam A.Vu ["group","lacks"] (JkF A):=by
 refine T.Jc5.F.ok Y8 (fun vs H Q E h=>?_) (fun cdv AA outer s H vs Q E hr h=>?_)
 ·obtain⟨kd,g,l,N,t,X,rfl,_⟩:=h
  rfl
 ·obtain⟨kd,g,l1,N,t,i,rfl,ok,hgt,hl1,k⟩:=h
  refine⟨_,(Jf (Jl (JV (V1 K rfl rfl) (by rfl) T.Jg8 PyProof.Rows.boot_sum (Ja (WH rfl Y8.nd (Uu ZZ.Knd.lst kd K rfl (by rfl) T.WK (Ja (pv 1) (Ja (pv 0) Jc))) (own:=[("amount",2),("inside",3)]) (lK Jgy (Je JcW) (by decide+kernel)) (fun _ _ _ _ _=>(gB K (Jx (gA 2 Y8.nd) (Jx (gA 3 Y8.nd) QQ)))) (fun _ _ _ _ _=>Qo) (fun _ _ _ _ _=>(JB JeY (pv 2) (pv 3)))) Jc)))),?_⟩
  refine⟨_,rfl,_,rfl,l1,g,_,_,rfl,SqL.of hl1,hgt.sq,fun D hD=>?_⟩
  have e1:((QB N.zones N.orders t).map V.int).length=(UY N.zones i).length:=by rw[List.length_map,JaB,Jm6]
  refine UQ (fun j=>some (.int (Up N.orders t j*bit i j))) N.zones (Jec .lst kd K l1 g) hD (Nat.le_trans ok.z6 (by decide))
   (fun j H hj s=>Yr (k:=.lst) (k':=kd) (SqL.of hl1) hgt.sq e1 j H (by rw[List.length_map,JaB];exact hj) s)
   (fun H s=>by have:=Ut (k:=.lst) (k':=kd) (K:=K) (SqL.of hl1) hgt.sq H s;rw[List.length_map,JaB] at this;exact this) ?_ ?_
  ·intro j x H5 H6 hj s5 hD5 y
   obtain⟨T2,a,b,rfl,hT2,rfl,ha,hb⟩:=y
   have ea:=ha _ (SqL.of (s5 _ _ hl1))
   have eb:=hb _ (hgt.same s5).sq
   rw[JdU _ _ hj] at ea
   rw[Jff hj] at eb
   have ea':=Option.some.inj ea
   have eb':=Option.some.inj eb
   subst ea' eb'
   refine⟨T2,_,rfl,SqT.of Jb,rfl,_,_,rfl,_,_,rfl,rfl,rfl,?_⟩
   refine⟨_,rfl,_,rfl,_,_,rfl,rfl,.inr ?_,?_⟩
   ·unfold bit;split<;>decide
   ·refine J8 (c:=fun j=>some (.int (Up N.orders t j*bit i j))) hD (Nat.lt_of_lt_of_le hj (Nat.le_trans ok.z6 (by decide))) (Jk s5 (Jg.free s5 hT2)) ((Jh (Jn hD5 hT2)).trans hD5) rfl
  ·intro H5 s5 hD5
   have e2:(List.range N.zones).filterMap (fun j=>some (V.int (Up N.orders t j*bit i j)))=((List.range N.zones).map fun j=>Up N.orders t j*bit i j).map V.int:=by
    rw[List.map_map,←List.filterMap_eq_map];rfl
   rw[e2] at hD5
   refine⟨D,_,rfl,SqL.of hD5,?_⟩
   rw[WR]
   exact k H5 s5
theorem JhL (T:Txt w K mg A):JF P w K mg base CX0 3 A.W6 A.Wy ["net","group","t"] (Jho A):=by
 refine T.JdF.F.ok Jhu (fun vs H Q E h=>?_) (fun cdv AA outer s H vs Q E hr h=>?_)
 ·obtain⟨kd,p,g,N,t,X,rfl,_⟩:=h
  rfl
 ·obtain⟨kd,p,g,N,t,X,rfl,hN,ok,hg,k⟩:=h
  refine⟨_,(Jf (Jl (JB U5 (cL (Je0 T) hr T.Jc5 (Ja (pv 1) (Ja (cL (Wq T) hr T.UT (Ja (pv 0) (Ja (pv 2) Jc))) Jc))) (cL (JhH T) hr T.Jfv (Ja (pv 0) (Ja (pv 1) Jc)))))),?_⟩
  refine⟨_,rfl,_,rfl,_,rfl,p,N,t,rfl,hN,ok,fun l1 H1 s1 n1 hl1=>?_⟩
  refine⟨kd,g,l1,N,t,X,rfl,ok,hg.same s1,hl1,fun H2 s2=>?_⟩
  have s12:=s1.trans s2
  refine⟨_,rfl,_,rfl,kd,p,g,N,X,rfl,hN.same s12,ok,hg.same s12,?_⟩
  refine⟨_,_,rfl,rfl,?_⟩
  have:=k H2 s12
  rw[←Ji2 ok] at this
  exact this
end
end Zm
namespace Zm
open PySem PySem.Spec PyProof.Rows L2
theorem Q5.nil {α β:Type} {R:α→β→Prop}:Q5 R [] []:=⟨rfl,fun i x y h=>by simp at h⟩
theorem Q5.cons {α β:Type} {R:α→β→Prop} {x:α} {y:β} {xs:List α} {ys:List β} (h:R x y) (t:Q5 R xs ys):Q5 R (x::xs) (y::ys):=by
 refine⟨by rw[List.length_cons,List.length_cons,t.len],fun i a b ha hb=>?_⟩
 cases i with
 |zero=>simp at ha hb;subst ha hb;exact h
 |succ i=>exact t.at_ i a b (by simpa using ha) (by simpa using hb)
theorem Q5.filt {R:Addr→Nat→Prop} {gs:List Addr} (p:Nat→Bool):∀l:List Nat,(∀j∈l,∃g,gs[j]? =some g∧R g j)→Q5 R (l.filterMap fun j=>if p j=true then gs[j]? else none) (l.filter p)
 |[],_=>.nil
 |j::l,h=>by
  have ih:=Q5.filt p l fun i hi=>h i (List.mem_cons_of_mem _ hi)
  obtain⟨g,hg,r⟩:=h j List.mem_cons_self
  cases hp:p j with
  |true=>simp only[List.filterMap_cons,hp,if_true,hg,List.filter_cons];exact .cons r ih
  |false=>simp only[List.filterMap_cons,hp,Bool.false_eq_true,if_false,List.filter_cons];exact ih
noncomputable def Jh0 (H:Hp) (l:Addr) (N:Vbemae.Net) (t:Int):Prop:=∃gs:List Addr,H l=some (.lst (gs.map V.ref))∧Q5 (fun g X=>H g=some (.tup (UY N.zones X))) gs (Vbemae.tight N t)
theorem Jh0.same {H H':Hp} {l:Addr} {N:Vbemae.Net} {t:Int} (s:Jg H H') (h:Jh0 H l N t):Jh0 H' l N t:=by
 obtain⟨gs,h1,h2⟩:=h
 exact⟨gs,s _ _ h1,h2.imp fun _ _ e=>s _ _ e⟩
theorem Jpo {N:Vbemae.Net} (ok:QN N) {t M:Int} (h1:M∈JdH N t (2^N.zones)) (h2:∀a,a∈JdH N t (2^N.zones)→a≤M):M=Vbemae.mostShort N t:=by
 obtain⟨X,hX,e⟩:=JdS (N:=N) t
 obtain⟨Y,_,rfl⟩:=List.mem_map.mp h1
 have a:=h2 _ (List.mem_map.mpr ⟨X,List.mem_range.mpr hX,rfl⟩)
 have b:=Ja8 ok.ok t Y
 rw[←e] at a
 omega
noncomputable def Ws (N:Vbemae.Net) (t:Int) (j:Nat):List Int:=(Vbemae.tight N t).map fun X=>bit X j
theorem Joh (X j:Nat):bit X j=0∨bit X j=1:=by unfold bit;split<;>simp
theorem JqB {N:Vbemae.Net} {t M:Int} {j:Nat} (h1:M∈Ws N t j) (h2:∀a,a∈Ws N t j→M≤a):Vbemae.inLeast (Vbemae.tight N t) j=!decide (M=0):=by
 unfold Vbemae.inLeast
 by_cases e:M=0
 ·rw[decide_eq_true e]
  obtain⟨X,hX,hx⟩:=List.mem_map.mp h1
  show _=false
  rw[List.all_eq_false]
  refine⟨X,hX,?_⟩
  intro hb
  simp only[bit,hb,if_true] at hx
  omega
 ·rw[decide_eq_false e]
  show _=true
  rw[List.all_eq_true]
  intro X hX
  have a:=h2 _ (List.mem_map.mpr ⟨X,hX,rfl⟩)
  obtain⟨Y,_,hy⟩:=List.mem_map.mp h1
  rcases Joh Y j with q|q
  ·exact absurd (hy.symm.trans q) e
  ·rcases Joh X j with r|r
   ·rw[r] at a;omega
   ·unfold bit at r
    cases hb:X.testBit j with
    |true=>rfl
    |false=>rw[hb] at r;simp at r
theorem JqE {N:Vbemae.Net} {t M:Int} {j:Nat} (h1:M∈Ws N t j) (h2:∀a,a∈Ws N t j→a≤M):Vbemae.inGreatest (Vbemae.tight N t) j=!decide (M=0):=by
 unfold Vbemae.inGreatest
 by_cases e:M=0
 ·rw[decide_eq_true e]
  show _=false
  rw[List.any_eq_false]
  intro X hX hb
  have a:=h2 _ (List.mem_map.mpr ⟨X,hX,rfl⟩)
  simp only[bit,hb,if_true] at a
  omega
 ·rw[decide_eq_false e]
  show _=true
  rw[List.any_eq_true]
  obtain⟨Y,hY,hy⟩:=List.mem_map.mp h1
  refine⟨Y,hY,?_⟩
  cases hb:Y.testBit j with
  |true=>rfl
  |false=>simp only[bit,hb,Bool.false_eq_true,if_false] at hy;exact absurd hy.symm e
structure FB (A:Adr) (H:Hp) (p gp rp:Addr) (N:Vbemae.Net):Prop where
 net:UI A H p N
 grp:Ym H gp N.zones (2^N.zones)
 rms:H rp=some (.lst ((JgR N (2^N.zones)).map V.int))
theorem FB.same {A:Adr} {H H':Hp} {p gp rp:Addr} {N:Vbemae.Net} (s:Jg H H') (h:FB A H p gp rp N):FB A H' p gp rp N:=⟨h.net.same s,h.grp.same s,s _ _ h.rms⟩
theorem Jlo {N:Vbemae.Net} (ok:QN N) (t:Int) (j:Nat):0<(Ws N t j).length:=by
 obtain⟨X,hX⟩:=JgK ok.ok t
 unfold Ws;rw[List.length_map];exact List.length_pos_of_mem hX
theorem JoE {N:Vbemae.Net} (ok:QN N) (t:Int):(Vbemae.tight N t).length≤64:=by
 rw[Jkx]
 refine Nat.le_trans (List.length_filter_le _ _) ?_
 unfold Vbemae.groups;rw[List.length_range];exact JuD ok.z6
theorem JuU {N:Vbemae.Net} {t M:Int} {j:Nat} (h1:M∈Ws N t j) (h2:∀a,a∈Ws N t j→M≤a):M=Vbemae.bit (Vbemae.inLeast (Vbemae.tight N t) j):=by
 rw[JqB h1 h2]
 obtain⟨X,_,rfl⟩:=List.mem_map.mp h1
 rcases Joh X j with q|q<;>rw[q]<;>rfl
theorem JuV {N:Vbemae.Net} {t M:Int} {j:Nat} (h1:M∈Ws N t j) (h2:∀a,a∈Ws N t j→a≤M):M=Vbemae.bit (Vbemae.inGreatest (Vbemae.tight N t) j):=by
 rw[JqE h1 h2]
 obtain⟨X,_,rfl⟩:=List.mem_map.mp h1
 rcases Joh X j with q|q<;>rw[q]<;>rfl
noncomputable def JqD (n:Nat) (f:Nat→Bool):List Int:=(List.range n).map fun z=>Vbemae.bit (f z)
theorem JmP (n:Nat) (f:Nat→Bool):(JqD n f).map V.int++[V.int (Vbemae.bit (f n))]=(JqD (n+1) f).map V.int:=by
 unfold JqD;rw[List.range_succ];simp
noncomputable def Jrq (holds:List Nat→Nat→Bool):Sp:=fun vs H Q _=>∃(l:Addr) (N:Vbemae.Net) (t:Int),vs=[.ref l,.int N.zones]∧QN N∧Jh0 H l N t∧∀r H',Jg H H'→H r=none→H' r=some (.lst ((Vbemae.members N (holds (Vbemae.tight N t))).map V.int))→Q (.ref r) H'
section
variable {P:Program} {w:World} {K:PySem.W.Frag} {mg:Str→Option Value} {base:Heap} {A:Adr}
theorem JjU (T:Txt w K mg A):JF P w K mg base CX0 1 A.VL A.YD ["groups","places"] (Jrq Vbemae.inLeast):=by
 refine T.JfB.F.ok Wj (fun vs H Q E h=>?_) (fun cdv AA outer s H vs Q E hr h=>?_)
 ·obtain⟨l,N,t,rfl,_⟩:=h
  rfl
 ·obtain⟨l,N,t,rfl,ok,hT,k⟩:=h
  obtain⟨gt,hgt,hA⟩:=id hT
  have z6:=ok.z6
  have htl:=JoE ok t
  have hgl:(gt.map V.ref).length=(Vbemae.tight N t).length:=by rw[List.length_map,hA.len]
  refine⟨_,(Jd (sA 2 Wj.nd (Js Jc))
   (Jd (U3 PassesOwn.never rfl (Jdm (by rfl) T.Jdz (Ja (pv 1) Jc)) (gA 3 Wj.nd)
   (Jf (U4 (Jdp PySem.F.plainAttrs_list PySem.F.slot_list_append PySem.F.type_list_append Wm (pv 2) (Ja (JV (Jm4 K rfl rfl) (by rfl) T.Jly PyProof.Rows.boot_min (Ja (WH rfl Wj.nd (Qi (pv 0)) (own:=[("group",4)]) (lK Jfo (Je JbI) (by decide+kernel)) (fun _ _ _ _ _=>(gA 4 Wj.nd)) (fun _ _ _ _ _=>Qo) (fun _ _ _ _ _=>(iT K (pv 4) (pv 3)))) Jc)) Jc)))))
   (Jf (Jl (pv 2))))),?_⟩
  refine⟨Nat.zero_le _,fun r nr=>?_⟩
  have s0:Jg H (upd H r (.lst [])):=Jj nr
  refine⟨_,rfl,N.zones,rfl,by omega,by omega,JfU (n:=N.zones) (fun j σ H'=>∃v3 v4,σ=[some (.ref l),some (.int N.zones),some (.ref r),v3,v4]∧Jg H H'∧H' r=some (.lst ((JqD j (Vbemae.inLeast (Vbemae.tight N t))).map V.int))) ⟨none,none,rfl,s0,Jb⟩ ?_ ?_⟩
  ·rintro j σ H9 hj ⟨v3,v4,rfl,s9,hr9⟩
   have hg9:=s9 _ _ hgt
   refine⟨_,rfl,.inl ⟨rfl,_,SqL.of hr9⟩,_,rfl,l,rfl,⟨_,SqL.of hg9⟩,fun ins nins=>?_⟩
   refine UQ (fun k=>((Vbemae.tight N t)[k]?).map fun X=>V.int (bit X j)) (gt.map V.ref).length (Itl K l) nins (by rw[hgl];exact Nat.le_trans htl (by decide)) (Ye (SqL.of hg9)) (QW (SqL.of hg9)) ?_ ?_
   ·intro q x HA HB hq sA hDA y
    obtain⟨rfl,y⟩:=y
    obtain⟨g,hg,rfl⟩:=J1 (y _ (SqL.of (sA _ _ hg9)))
    obtain⟨X,hX,hgX⟩:=hA.get hg
    refine⟨rfl,_,rfl,_,rfl,g,_,_,.int (bit X j),rfl,rfl,SqT.of (sA _ _ (s9 _ _ hgX)),?_,J8 (i:=q) nins ?_ sA hDA (by simp[hX])⟩
    ·rw[Int.zero_add];exact Jp (Jff hj)
    ·rw[hgl] at hq;exact Nat.lt_of_lt_of_le hq (Nat.le_trans htl (by decide))
   ·intro HA sA hDA
    have e2:(List.range (gt.map V.ref).length).filterMap (fun k=>((Vbemae.tight N t)[k]?).map fun X=>V.int (bit X j))=(Ws N t j).map V.int:=by
     rw[hgl];unfold Ws;rw[List.map_map];exact UR _ _ _ fun i x hx=>by rw[hx];rfl
    rw[e2] at hDA
    refine⟨ins,_,rfl,SqL.of hDA,Jlo ok t j,fun M hM1 hM2=>?_⟩
    have eM:=JuU hM1 hM2
    subst eM
    have hrA:=sA _ _ hr9
    refine⟨r,_,_,rfl,rfl,hrA,?_,?_⟩
    ·rw[List.length_map];unfold JqD;rw[List.length_map,List.length_range];exact Nat.lt_of_lt_of_le hj (Nat.le_trans z6 (by decide))
    ·exact⟨_,_,rfl,Jk (s9.trans sA) nr,by rw[Jb,JmP]⟩
  ·rintro σ H9 ⟨v3,v4,rfl,s9,hr9⟩
   exact⟨_,rfl,k r H9 s9 nr hr9⟩
theorem JjT (T:Txt w K mg A):JF P w K mg base CX0 1 A.VJ A.YC ["groups","places"] (Jrq Vbemae.inGreatest):=by
 refine T.JfA.F.ok Wi (fun vs H Q E h=>?_) (fun cdv AA outer s H vs Q E hr h=>?_)
 ·obtain⟨l,N,t,rfl,_⟩:=h
  rfl
 ·obtain⟨l,N,t,rfl,ok,hT,k⟩:=h
  obtain⟨gt,hgt,hA⟩:=id hT
  have z6:=ok.z6
  have htl:=JoE ok t
  have hgl:(gt.map V.ref).length=(Vbemae.tight N t).length:=by rw[List.length_map,hA.len]
  refine⟨_,(Jd (sA 2 Wi.nd (Js Jc))
   (Jd (U3 PassesOwn.never rfl (Jdm (by rfl) T.Jdz (Ja (pv 1) Jc)) (gA 3 Wi.nd)
   (Jf (U4 (Jdp PySem.F.plainAttrs_list PySem.F.slot_list_append PySem.F.type_list_append Wm (pv 2) (Ja (JV (Jm5 K rfl rfl) (by rfl) T.Jg9 PyProof.Rows.boot_max (Ja (WH rfl Wi.nd (Qi (pv 0)) (own:=[("group",4)]) (lK Jfn (Je JbH) (by decide+kernel)) (fun _ _ _ _ _=>(gA 4 Wi.nd)) (fun _ _ _ _ _=>Qo) (fun _ _ _ _ _=>(iT K (pv 4) (pv 3)))) Jc)) Jc)))))
   (Jf (Jl (pv 2))))),?_⟩
  refine⟨Nat.zero_le _,fun r nr=>?_⟩
  have s0:Jg H (upd H r (.lst [])):=Jj nr
  refine⟨_,rfl,N.zones,rfl,by omega,by omega,JfU (n:=N.zones) (fun j σ H'=>∃v3 v4,σ=[some (.ref l),some (.int N.zones),some (.ref r),v3,v4]∧Jg H H'∧H' r=some (.lst ((JqD j (Vbemae.inGreatest (Vbemae.tight N t))).map V.int))) ⟨none,none,rfl,s0,Jb⟩ ?_ ?_⟩
  ·rintro j σ H9 hj ⟨v3,v4,rfl,s9,hr9⟩
   have hg9:=s9 _ _ hgt
   refine⟨_,rfl,.inl ⟨rfl,_,SqL.of hr9⟩,_,rfl,l,rfl,⟨_,SqL.of hg9⟩,fun ins nins=>?_⟩
   refine UQ (fun k=>((Vbemae.tight N t)[k]?).map fun X=>V.int (bit X j)) (gt.map V.ref).length (Itl K l) nins (by rw[hgl];exact Nat.le_trans htl (by decide)) (Ye (SqL.of hg9)) (QW (SqL.of hg9)) ?_ ?_
   ·intro q x HA HB hq sA hDA y
    obtain⟨rfl,y⟩:=y
    obtain⟨g,hg,rfl⟩:=J1 (y _ (SqL.of (sA _ _ hg9)))
    obtain⟨X,hX,hgX⟩:=hA.get hg
    refine⟨rfl,_,rfl,_,rfl,g,_,_,.int (bit X j),rfl,rfl,SqT.of (sA _ _ (s9 _ _ hgX)),?_,J8 (i:=q) nins ?_ sA hDA (by simp[hX])⟩
    ·rw[Int.zero_add];exact Jp (Jff hj)
    ·rw[hgl] at hq;exact Nat.lt_of_lt_of_le hq (Nat.le_trans htl (by decide))
   ·intro HA sA hDA
    have e2:(List.range (gt.map V.ref).length).filterMap (fun k=>((Vbemae.tight N t)[k]?).map fun X=>V.int (bit X j))=(Ws N t j).map V.int:=by
     rw[hgl];unfold Ws;rw[List.map_map];exact UR _ _ _ fun i x hx=>by rw[hx];rfl
    rw[e2] at hDA
    refine⟨ins,_,rfl,SqL.of hDA,Jlo ok t j,fun M hM1 hM2=>?_⟩
    have eM:=JuV hM1 hM2
    subst eM
    have hrA:=sA _ _ hr9
    refine⟨r,_,_,rfl,rfl,hrA,?_,?_⟩
    ·rw[List.length_map];unfold JqD;rw[List.length_map,List.length_range];exact Nat.lt_of_lt_of_le hj (Nat.le_trans z6 (by decide))
    ·exact⟨_,_,rfl,Jk (s9.trans sA) nr,by rw[Jb,JmP]⟩
  ·rintro σ H9 ⟨v3,v4,rfl,s9,hr9⟩
   exact⟨_,rfl,k r H9 s9 nr hr9⟩
end
end Zm
namespace Zm
open PySem PySem.Spec PyProof.Rows L2
theorem UI.keep {A:Adr} {H H':Hp} {p q dx C:Addr} {N:Vbemae.Net} (h:UI A H p N) (hq:H q=some (.ins C dx [])) (k:∀b o,H b=some o→b≠q→H' b=some o):UI A H' p N:=by
 obtain⟨lp,op,ls,os,⟨dn,h1⟩,h2,h3,h4,h5⟩:=h
 have kk:∀b o,H b=some o→o≠.ins C dx []→H' b=some o:=fun b o e n=>k b o e (Q8 e hq n)
 have ki:∀b c d (x:Str×V) f,H b=some (.ins c d (x::f))→H' b=some (.ins c d (x::f)):=fun b c d x f e=>kk b _ e (by intro z;injection z with _ _ z;cases z)
 exact⟨lp,op,ls,os,⟨dn,ki _ _ _ _ _ h1⟩,kk _ _ h2 (by intro z;cases z),kk _ _ h3 (by intro z;cases z),h4.imp fun _ _ ⟨d,e⟩=>⟨d,ki _ _ _ _ _ e⟩,h5.imp fun _ _ ⟨d,e⟩=>⟨d,ki _ _ _ _ _ e⟩⟩
noncomputable def Jhp (A:Adr):Sp:=fun vs H Q _=>∃(q dx p:Addr) (N:Vbemae.Net),vs=[.ref q,.ref p]∧H q=some (.ins A.Ju dx [])∧UI A H p N∧QN N∧
 ∀(H':Hp) (gp rp:Addr),(∀b o,H b=some o→b≠q→H' b=some o)→H' q=some (.ins A.Ju dx (Jjw (.ref p) (.ref gp) (.ref rp)))→FB A H' p gp rp N→Q .non H'
noncomputable def Jh1 (A:Adr) (H:Hp) (q:Addr) (N:Vbemae.Net):Prop:=∃dx p gp rp,H q=some (.ins A.Ju dx (Jjw (.ref p) (.ref gp) (.ref rp)))∧FB A H p gp rp N
theorem Jh1.same {A:Adr} {H H':Hp} {q:Addr} {N:Vbemae.Net} (s:Jg H H') (h:Jh1 A H q N):Jh1 A H' q N:=let⟨dx,p,gp,rp,a,b⟩:=h;⟨dx,p,gp,rp,s _ _ a,b.same s⟩
noncomputable def Jvp (A:Adr) (H:Hp) (x:Addr) (N:Vbemae.Net) (t:Int) (l1 l2:Addr):Prop:=(∃dx,H x=some (.ins A.JZ dx (JfE (.int (Vbemae.mostShort N t)) (.ref l1) (.ref l2))))∧
 H l1=some (.lst ((Vbemae.members N (Vbemae.inLeast (Vbemae.tight N t))).map V.int))∧H l2=some (.lst ((Vbemae.members N (Vbemae.inGreatest (Vbemae.tight N t))).map V.int))
noncomputable def Jnm (A:Adr):Sp:=fun vs H Q _=>∃(q:Addr) (N:Vbemae.Net) (t:Int),vs=[.ref q,.int t]∧Jh1 A H q N∧QN N∧∀x l1 l2 H',Jg H H'→H x=none→H l1=none→H l2=none→Jvp A H' x N t l1 l2→Q (.ref x) H'
section
variable {P:Program} {w:World} {K:PySem.W.Frag} {mg:Str→Option Value} {base:Heap} {A:Adr}
theorem Jcr (T:Txt w K mg A):JF P w K mg base CX0 3 A.W8 A.WA ["self","net"] (Jhp A):=by
 refine T.V4.F.ok Y9 (fun vs H Q E h=>?_) (fun cdv AA outer s H vs Q E hr h=>?_)
 ·obtain⟨q,dx,p,N,rfl,_⟩:=h
  rfl
 ·obtain⟨q,dx,p,N,rfl,hq,hN,ok,k⟩:=h
  have p64:=JuD ok.z6
  refine⟨_,(Jd (JS (pv 0) (pv 1) rfl)
   (Jd (JS (pv 0) (cL (Jgq T) hr T.Jej (Ja (fL K (pv 1)) Jc)) rfl)
   (Jf (JS (pv 0) (WH rfl Y9.nd (Qi (fL K (pv 0))) (own:=[("group",2)]) (lK JdC (Je VX) (by decide+kernel)) (fun _ _ _ _ _=>(gA 2 Y9.nd)) (fun _ _ _ _ _=>Qo) (fun _ _ _ _ _=>(cL (JhH T) hr T.Jfv (Ja (pv 1) (Ja (pv 2) Jc))))) rfl)))),?_⟩
  refine⟨_,rfl,_,rfl,q,A.Ju,dx,_,rfl,hq,T.Qz,T.WU,(by show 0<1000;decide),?_⟩
  have k0:∀b o,H b=some o→b≠q→(upd H q (.ins A.Ju dx (Qg "net" (.ref p) []))) b=some o:=fun b o e hb=>by rw[Jh hb];exact e
  have hq0:(upd H q (.ins A.Ju dx (Qg "net" (.ref p) []))) q=some (.ins A.Ju dx (Qg "net" (.ref p) [])):=Jb
  generalize upd H q (.ins A.Ju dx (Qg "net" (.ref p) []))=H0 at k0 hq0⊢
  obtain⟨lp,op,ls,os,hN0⟩:=hN.keep hq k0
  obtain⟨dn,hnet⟩:=hN0.net
  refine⟨_,rfl,fld hnet T.Jt T.Jw rfl ⟨N.zones,rfl,by have:=ok.z6;omega,fun gp H1 s1 ngp G=>⟨_,rfl,q,A.Ju,dx,_,rfl,s1 _ _ hq0,T.Qz,T.UK,(by show 1<1000;decide),?_⟩⟩⟩
  have k1:∀b o,H b=some o→b≠q→(upd H1 q (.ins A.Ju dx (Qg "groups" (.ref gp) (Qg "net" (.ref p) [])))) b=some o:=fun b o e hb=>by rw[Jh hb];exact s1 b o (k0 b o e hb)
  have hq1:(upd H1 q (.ins A.Ju dx (Qg "groups" (.ref gp) (Qg "net" (.ref p) [])))) q=some (.ins A.Ju dx (Qg "groups" (.ref gp) (Qg "net" (.ref p) []))):=Jb
  have ngpp:gp≠q:=fun e=>by rw[e,hq0] at ngp;cases ngp
  have G1:Ym (upd H1 q (.ins A.Ju dx (Qg "groups" (.ref gp) (Qg "net" (.ref p) [])))) gp N.zones (2^N.zones):=by
   obtain⟨gs,hG,hl,hg⟩:=G
   refine⟨gs,by rw[Jh ngpp];exact hG,hl,fun i g e=>?_⟩
   have:=hg i g e
   rw[Jh (Q8 this (s1 _ _ hq0) (by intro z;cases z))];exact this
  generalize upd H1 q (.ins A.Ju dx (Qg "groups" (.ref gp) (Qg "net" (.ref p) [])))=H2 at k1 hq1 G1⊢
  have hN2:=hN.keep hq k1
  obtain⟨gs,hG,hglen,hgs⟩:=id G1
  have hl1:(gs.map V.ref).length=2^N.zones:=by simp[hglen]
  refine⟨_,rfl,fld hq1 T.Qz T.UK rfl ⟨gp,rfl,⟨_,SqL.of hG⟩,fun D nD=>?_⟩⟩
  refine UQ (fun j=>some (V.int (Yj N.lines j))) (gs.map V.ref).length (Itl K gp) nD (by rw[hl1];exact Nat.le_trans p64 (by decide)) (Ye (SqL.of hG)) (QW (SqL.of hG)) ?_ ?_
  ·intro j x H3 H4 hj s3 hD3 y
   obtain⟨rfl,y⟩:=y
   obtain⟨g,hg,rfl⟩:=J1 (y _ (SqL.of (s3 _ _ hG)))
   refine⟨rfl,_,rfl,_,rfl,.tup,p,g,N,j,rfl,hN2.same s3,ok,s3 _ _ (hgs j g hg),J8 (i:=j) (c:=fun j=>some (V.int (Yj N.lines j))) nD ?_ s3 hD3 rfl⟩
   rw[hl1] at hj;exact Nat.lt_of_lt_of_le hj (Nat.le_trans p64 (by decide))
  ·intro H3 s3 hD3
   have e1:(List.range (gs.map V.ref).length).filterMap (fun j=>some (V.int (Yj N.lines j)))=(JgR N (2^N.zones)).map V.int:=by
    rw[hl1];unfold JgR;rw[List.map_map,←List.filterMap_eq_map];rfl
   rw[e1] at hD3
   have hq3:=s3 _ _ hq1
   refine⟨_,rfl,q,A.Ju,dx,_,rfl,hq3,T.Qz,T.JbP,(by show 2<1000;decide),?_⟩
   have k3:∀b o,H b=some o→b≠q→(upd H3 q (.ins A.Ju dx (Qg "rooms" (.ref D) (Qg "groups" (.ref gp) (Qg "net" (.ref p) []))))) b=some o:=fun b o e hb=>by rw[Jh hb];exact s3 _ _ (k1 b o e hb)
   have np:∀{b:Addr} {o:HO},H3 b=some o→(∀f,o≠.ins A.Ju dx f)→(upd H3 q (.ins A.Ju dx (Qg "rooms" (.ref D) (Qg "groups" (.ref gp) (Qg "net" (.ref p) []))))) b=some o:=fun {b o} e ho=>by rw[Jh (Q8 e hq3 (ho _))];exact e
   exact k _ gp D k3 (Eq.trans Jb rfl) ⟨hN.keep hq k3,⟨gs,np (s3 _ _ hG) (by intro f z;cases z),hglen,fun i g e=>np (s3 _ _ (hgs i g e)) (by intro f z;cases z)⟩,np hD3 (by intro f z;cases z)⟩
theorem Ve (T:Txt w K mg A):JF P w K mg base CX0 3 A.Uk A.QY ["self","t"] (Jnm A):=by
 refine T.QD.F.ok JI (fun vs H Q E h=>?_) (fun cdv AA outer s H vs Q E hr h=>?_)
 ·obtain⟨q,N,t,rfl,_⟩:=h
  rfl
 ·obtain⟨q,N,t,rfl,⟨dx,p,gp,rp,hq,B⟩,ok,k⟩:=h
  have p64:=JuD ok.z6
  obtain⟨gs,hG,hglen,hgs⟩:=id B.grp
  have hR:=B.rms
  obtain⟨lp,op,ls,os,hN⟩:=id B.net
  obtain⟨dn,hnet⟩:=hN.net
  have hl1:(gs.map V.ref).length=2^N.zones:=by simp[hglen]
  refine⟨_,(Jd (sA 2 JI.nd (cL (Wq T) hr T.UT (Ja (fL K (pv 0)) (Ja (pv 1) Jc))))
   (Jd (JaA (i:=3) rfl JI.nd rfl rfl rfl (Uu ZZ.Knd.lst ZZ.Knd.lst K rfl (by rfl) T.WK (Ja (fL K (pv 0)) (Ja (fL K (pv 0)) Jc))) (own:=[("group",6),("room",7)]) (lK Wo (Je Ue) (by decide+kernel)) (fun _ _ _ _ _=>(gB K (Jx (gA 6 JI.nd) (Jx (gA 7 JI.nd) QQ)))) (fun _ _ _ _ _=>Qo) (fun _ _ _ _ _=>(JB U5 (cL (Je0 T) hr T.Jc5 (Ja (pv 6) (Ja (pv 2) Jc))) (pv 7))))
   (Jd (sA 4 JI.nd (JV (Jm5 K rfl rfl) (by rfl) T.Jg9 PyProof.Rows.boot_max (Ja (pv 3) Jc)))
   (Jd (JaA (i:=5) rfl JI.nd rfl rfl rfl (Uu ZZ.Knd.lst ZZ.Knd.lst K rfl (by rfl) T.WK (Ja (fL K (pv 0)) (Ja (pv 3) Jc))) (own:=[("group",6),("shortage",8)]) (lK Wo (Je Ue) (by decide+kernel)) (fun _ _ _ _ _=>(gB K (Jx (gA 6 JI.nd) (Jx (gA 8 JI.nd) QQ)))) (fun _ _ _ _ _=>(Jcp (JA YX (pv 8) (pv 4) (JJ _)))) (fun _ _ _ _ _=>(pv 6)))
   (Jf (Jl (mA (JhM T) hr T.JdG T.Jpq (Ja (pv 4) (Ja (cL (JjU T) hr T.JfB (Ja (pv 5) (Ja (fL K (fL K (pv 0))) Jc))) (Ja (cL (JjT T) hr T.JfA (Ja (pv 5) (Ja (fL K (fL K (pv 0))) Jc))) Jc)))))))))),?_⟩
  refine⟨_,rfl,fld hq T.Qz T.WU rfl ⟨_,rfl,p,N,t,rfl,B.net,ok,fun l1 H1 s1 n1 hl=>?_⟩⟩
  have hlen:(gs.map V.ref).length=((JgR N (2^N.zones)).map V.int).length:=by simp[JgR,hglen]
  have hG1:=s1 _ _ hG
  have hR1:=s1 _ _ hR
  refine⟨_,rfl,fld (s1 _ _ hq) T.Qz T.UK rfl ⟨_,rfl,fld (s1 _ _ hq) T.Qz T.JbP rfl ⟨gp,rp,_,_,rfl,SqL.of hG1,SqL.of hR1,fun D nD=>?_⟩⟩⟩
  refine UQ (fun j=>some (V.int (Vbemae.shortage N t j))) (2^N.zones) (Jec .lst .lst K gp rp) nD (Nat.le_trans p64 (by decide))
   (fun j H hj s=>Yr (k:=.lst) (k':=.lst) (SqL.of hG1) (SqL.of hR1) hlen j H (by rw[hl1];exact hj) s)
   (fun H s=>by have:=Ut (k:=.lst) (k':=.lst) (K:=K) (SqL.of hG1) (SqL.of hR1) H s;rw[hl1] at this;exact this) ?_ ?_
  ·intro j x H5 H6 hj s5 hD5 y
   obtain⟨T2,a,b,rfl,hT2,rfl,ha,hb⟩:=y
   obtain⟨g,hg,rfl⟩:=J1 (ha _ (SqL.of (s5 _ _ hG1)))
   obtain⟨v,hv,rfl⟩:=int_at (hb _ (SqL.of (s5 _ _ hR1)))
   rw[Jsp hj] at hv
   have ev:=Option.some.inj hv
   subst ev
   have s6:=Jk (o:=.tup [.ref g,.int (Yj N.lines j)]) s5 (Jg.free s5 hT2)
   have hD6:(upd H5 T2 (.tup [.ref g,.int (Yj N.lines j)])) D=_:=(Jh (Jn hD5 hT2)).trans hD5
   refine⟨T2,_,rfl,SqT.of Jb,rfl,_,_,rfl,_,_,rfl,rfl,rfl,?_⟩
   refine⟨_,rfl,_,rfl,.tup,g,l1,N,t,j,rfl,ok,s6 _ _ (s1 _ _ (hgs j g hg)),s6 _ _ hl,fun H7 s7=>?_⟩
   refine⟨_,rfl,_,_,rfl,rfl,J8 (i:=j) (c:=fun j=>some (V.int (Vbemae.shortage N t j))) nD (Nat.lt_of_lt_of_le hj (Nat.le_trans p64 (by decide))) (s6.trans s7) (s7 _ _ hD6) ?_⟩
   show some (V.int (Vbemae.shortage N t j))=some (V.int (_-_))
   rw[Ji2 ok]
  ·intro H2 s2 hD2
   have e1:(List.range (2^N.zones)).filterMap (fun j=>some (V.int (Vbemae.shortage N t j)))=(JdH N t (2^N.zones)).map V.int:=by
    unfold JdH;rw[List.map_map,←List.filterMap_eq_map];rfl
   rw[e1] at hD2
   have s12:=s1.trans s2
   have hsl:(JdH N t (2^N.zones)).length=2^N.zones:=by simp[JdH]
   refine⟨_,rfl,D,_,rfl,SqL.of hD2,by rw[hsl];exact Nat.pos_of_ne_zero (by simp),fun M hM1 hM2=>?_⟩
   have eM:=Jpo ok hM1 hM2
   subst eM
   have hl2:(gs.map V.ref).length=((JdH N t (2^N.zones)).map V.int).length:=by rw[hl1,List.length_map,hsl]
   have hG2:=s2 _ _ hG1
   refine⟨_,rfl,fld (s12 _ _ hq) T.Qz T.UK rfl ⟨_,rfl,gp,D,_,_,rfl,SqL.of hG2,SqL.of hD2,fun D2 nD2=>?_⟩⟩
   refine UQ (fun j=>if(Vbemae.shortage N t j==Vbemae.mostShort N t)=true then(gs[j]?).map V.ref else none) (2^N.zones) (Jec .lst .lst K gp D) nD2 (Nat.le_trans p64 (by decide))
    (fun j H hj s=>Yr (k:=.lst) (k':=.lst) (SqL.of hG2) (SqL.of hD2) hl2 j H (by rw[hl1];exact hj) s)
    (fun H s=>by have:=Ut (k:=.lst) (k':=.lst) (K:=K) (SqL.of hG2) (SqL.of hD2) H s;rw[hl1] at this;exact this) ?_ ?_
   ·intro j x H5 H6 hj s5 hD5 y
    obtain⟨T2,a,b,rfl,hT2,rfl,ha,hb⟩:=y
    obtain⟨g,hg,rfl⟩:=J1 (ha _ (SqL.of (s5 _ _ hG2)))
    obtain⟨v,hv,rfl⟩:=int_at (hb _ (SqL.of (s5 _ _ hD2)))
    rw[Jsj hj] at hv
    have ev:=Option.some.inj hv
    subst ev
    have s6:=Jk (o:=.tup [.ref g,.int (Vbemae.shortage N t j)]) s5 (Jg.free s5 hT2)
    have hD6:(upd H5 T2 (.tup [.ref g,.int (Vbemae.shortage N t j)])) D2=_:=(Jh (Jn hD5 hT2)).trans hD5
    refine⟨T2,_,rfl,SqT.of Jb,rfl,_,_,rfl,_,_,rfl,rfl,rfl,?_⟩
    refine⟨_,rfl,_,rfl,rfl,_,rfl,J4 (fun hc=>?_) (fun hc=>?_)⟩
    ·have e:Vbemae.shortage N t j=Vbemae.mostShort N t:=by have:=of_decide_eq_true hc;injection this
     refine⟨_,rfl,J8 (i:=j) nD2 (Nat.lt_of_lt_of_le hj (Nat.le_trans p64 (by decide))) s6 hD6 ?_⟩
     simp[e,hg]
    ·have e:¬Vbemae.shortage N t j=Vbemae.mostShort N t:=fun e=>of_decide_eq_false hc (by rw[e])
     refine Jcv s6 hD6 ?_
     simp[e]
   ·intro H5 s5 hD5
    have hTi:Jh0 H5 D2 N t:=by
     refine⟨(List.range (2^N.zones)).filterMap fun j=>if(Vbemae.shortage N t j==Vbemae.mostShort N t)=true then gs[j]? else none,?_,?_⟩
     ·rw[hD5,List.map_filterMap]
      congr 3
      funext j
      split<;>rfl
     ·rw[Jkx]
      refine Q5.filt (fun X=>Vbemae.shortage N t X==Vbemae.mostShort N t) (List.range (2^N.zones)) fun j hj=>?_
      have hj':j<gs.length:=by rw[hglen];exact List.mem_range.mp hj
      exact⟨gs[j],List.getElem?_eq_getElem hj',s5 _ _ (s12 _ _ (hgs j _ (List.getElem?_eq_getElem hj')))⟩
    have s15:=s12.trans s5
    refine⟨_,rfl,_,rfl,_,rfl,fld (s15 _ _ hq) T.Qz T.WU rfl (fld (s15 _ _ hnet) T.Jt T.Jw rfl ⟨D2,N,t,rfl,ok,hTi,fun r1 H6 s6 nr1 hr1=>?_⟩)⟩
    have s16:=s15.trans s6
    refine⟨_,rfl,_,rfl,fld (s16 _ _ hq) T.Qz T.WU rfl (fld (s16 _ _ hnet) T.Jt T.Jw rfl ⟨D2,N,t,rfl,ok,hTi.same s6,fun r2 H7 s7 nr2 hr2=>?_⟩)⟩
    refine Jli fun x dx' H8 nx s8 hx=>?_
    have s17:=s16.trans s7
    exact k x r1 r2 H8 (s17.trans s8) (Jg.free s17 nx) (Jg.free s15 nr1) (Jg.free s16 nr2) ⟨⟨dx',hx⟩,s8 _ _ (s7 _ _ hr1),s8 _ _ hr2⟩
end
end Zm
namespace L2
open PySem PySem.Spec PyProof.Rows
theorem Jjq {α:Type} (p:α→Bool) (f:α→V) (c:Nat→Option V) (l:List α) (h:∀(i:Nat) x,l[i]? =some x→c i=if p x=true then some (f x) else none):(List.range l.length).filterMap c=(l.filter p).map f:=by
 have gen:∀n,n≤l.length→(List.range n).filterMap c=((l.take n).filter p).map f:=by
  intro n
  induction n with
  |zero=>intro _;simp
  |succ n ih=>
   intro hn
   have hx:l[n]? =some l[n]:=List.getElem?_eq_getElem (by omega)
   rw[Jdv,ih (by omega),h n _ hx,List.take_succ_eq_append_getElem (by omega),List.filter_append,List.map_append]
   cases hp:p l[n]<;>simp[hp]
 have:=gen l.length (Nat.le_refl _)
 rw[List.take_length] at this
 exact this
end L2
namespace Zm
open PySem PySem.Spec PyProof.Rows L2
noncomputable def Jhm (A:Adr):Sp:=fun vs H Q _=>∃(p:Addr) (N:Vbemae.Net),vs=[.ref p]∧UI A H p N∧QN N∧
 ∀l H' (ts:List Int),Jg H H'→H l=none→H' l=some (.lst (ts.map V.int))→ts.Pairwise (·<·)→(∀t,t∈ts↔t∈Vbemae.levels N)→ts.length≤64→Q (.ref l) H'
theorem JwQ {ts:List Int} (h:ts.Pairwise (·≤·)) (hn:ts.Nodup):ts.Pairwise (·<·):=by
 induction ts with
 |nil=>exact .nil
 |cons a l ih=>
  rw[List.pairwise_cons] at h⊢
  rw[List.nodup_cons] at hn
  exact⟨fun b hb=>by have h1:=h.1 b hb;have h2:a≠b:=fun e=>hn.1 (e▸hb);omega,ih h.2 hn.2⟩
section
variable {P:Program} {w:World} {K:PySem.W.Frag} {mg:Str→Option Value} {base:Heap} {A:Adr}
theorem JhF (T:Txt w K mg A):JF P w K mg base CX0 1 A.W3 A.Wu ["net"] (Jhm A):=by
 refine T.JdD.F.ok QP (fun vs H Q E h=>?_) (fun cdv AA outer s H vs Q E hr h=>?_)
 ·obtain⟨p,N,rfl,_⟩:=h
  rfl
 ·obtain⟨p,N,rfl,⟨lp,op,ls,os,hN⟩,ok,k⟩:=h
  obtain⟨dx,hnet⟩:=hN.net
  have o41:=ok.o41
  refine⟨_,(Jd (sA 1 QP.nd (JB Q7 (Js (Ja (fL K (pv 0)) Jc)) (WH rfl QP.nd (Qi (fL K (pv 0))) (own:=[("order",2)]) (lK V2 (Je WT) (by decide+kernel)) (fun _ _ _ _ _=>(gA 2 QP.nd)) (fun _ _ _ _ _=>Qo) (fun _ _ _ _ _=>(fL K (pv 2))))))
   (Jf (Jl (JV (Jof rfl) (by rfl) T.JsX PyProof.Rows.boot_sorted (Ja (Jio (JsQ rfl) (by rfl) T.Jws PyProof.Rows.boot_set (Ja (WH rfl QP.nd (Qi (pv 1)) (own:=[("price",3)]) (lK V2 (Je WT) (by decide+kernel)) (fun _ _ _ _ _=>(gA 3 QP.nd)) (fun _ _ _ _ _=>(Jcp (JA Jjg (pv 3) (fL K (pv 0)) (JJ _)))) (fun _ _ _ _ _=>(pv 3))) Jc)) Jc))))),?_⟩
  refine⟨_,rfl,fld hnet T.Jt T.UE rfl ⟨(by show 1≤sizeLine;decide),fun l0 n0=>?_⟩⟩
  have s0:Jg H (upd H l0 (.lst [.int N.lo])):=Jj n0
  refine⟨_,rfl,fld (s0 _ _ hnet) T.Jt T.Jv rfl ⟨op,rfl,⟨_,SqL.of (s0 _ _ hN.los)⟩,fun D hD=>?_⟩⟩
  have hol:(os.map V.ref).length=N.orders.length:=by rw[List.length_map,hN.od.len]
  refine UQ (fun j=>(N.orders[j]?).map fun o=>V.int o.price) (os.map V.ref).length (Itl K op) hD (by rw[hol];exact Nat.le_trans o41 (by decide)) (Ye (SqL.of (s0 _ _ hN.los))) (QW (SqL.of (s0 _ _ hN.los))) ?_ ?_
  ·intro j x H2 H3 hj s2 hD2 y
   obtain⟨rfl,y⟩:=y
   obtain⟨q,hq,rfl⟩:=J1 (y _ (SqL.of (s2 _ _ (s0 _ _ hN.los))))
   obtain⟨o,ho,dxo,hO⟩:=hN.od.get hq
   refine⟨rfl,_,rfl,fld (s2 _ _ (s0 _ _ hO)) T.Jy T.QL rfl (J8 (i:=j) hD ?_ s2 hD2 (by simp[ho]))⟩
   rw[hol] at hj;exact Nat.lt_of_lt_of_le hj (Nat.le_trans o41 (by decide))
  ·intro H2 s2 hD2
   have e1:(List.range (os.map V.ref).length).filterMap (fun j=>(N.orders[j]?).map fun o=>V.int o.price)=N.orders.map fun o=>V.int o.price:=by
    rw[hol];exact UR _ _ _ fun i x hx=>by rw[hx];rfl
   rw[e1] at hD2
   have hl0:=s2 l0 _ (Jb (H:=H) (o:=.lst [.int N.lo]))
   refine⟨l0,D,_,_,rfl,rfl,hl0,hD2,?_,fun l1 n1=>?_⟩
   ·show 1+(N.orders.map fun o=>V.int o.price).length≤sizeLine
    rw[List.length_map];exact Nat.le_trans (show 1+N.orders.length≤42 by omega) (by decide)
   have hps:([V.int N.lo]++N.orders.map fun o=>V.int o.price)=(N.lo::N.orders.map fun o=>o.price).map V.int:=by simp
   rw[hps]
   generalize hPS:(N.lo::N.orders.map fun o=>o.price)=ps
   have hpl:ps.length≤42:=by rw[←hPS];simp;omega
   have s3:Jg H (upd H2 l1 (.lst (ps.map V.int))):=Jk (s0.trans s2) (Jg.free (s0.trans s2) n1)
   have hl1:(upd H2 l1 (.lst (ps.map V.int))) l1=some (.lst (ps.map V.int)):=Jb
   generalize upd H2 l1 (.lst (ps.map V.int))=H4 at s3 hl1⊢
   refine⟨_,rfl,l1,rfl,⟨_,SqL.of hl1⟩,fun D2 hD3=>?_⟩
   refine UQ (fun j=>(ps[j]?).bind fun x=>if decide (x<N.hi)=true then some (V.int x) else none) (ps.map V.int).length (Itl K l1) hD3 (by rw[List.length_map];exact Nat.le_trans hpl (by decide)) (Ye (SqL.of hl1)) (QW (SqL.of hl1)) ?_ ?_
   ·intro j x H5 H6 hj s5 hD5 y
    obtain⟨rfl,y⟩:=y
    obtain⟨v,hv,rfl⟩:=int_at (y _ (SqL.of (s5 _ _ hl1)))
    refine⟨rfl,_,rfl,_,rfl,fld (s5 _ _ (s3 _ _ hnet)) T.Jt T.Qy rfl ⟨_,_,rfl,rfl,_,rfl,J4 (fun hc=>?_) (fun hc=>?_)⟩⟩
    ·refine⟨_,rfl,J8 (i:=j) hD3 ?_ s5 hD5 ?_⟩
     ·rw[List.length_map] at hj;exact Nat.lt_of_lt_of_le hj (Nat.le_trans hpl (by decide))
     ·show(ps[j]?).bind _=_
      rw[hv];exact if_pos hc
    ·refine Jcv s5 hD5 ?_
     show(ps[j]?).bind _=_
     rw[hv];exact if_neg (by rw[hc];decide)
   ·intro H5 s5 hD5
    have e2:(List.range (ps.map V.int).length).filterMap (fun j=>(ps[j]?).bind fun x=>if decide (x<N.hi)=true then some (V.int x) else none)=(ps.filter fun x=>decide (x<N.hi)).map V.int:=by
     rw[List.length_map];exact Jjq _ _ _ _ fun i x hx=>by rw[hx];rfl
    rw[e2] at hD5
    have hfl:(ps.filter fun x=>decide (x<N.hi)).length≤42:=Nat.le_trans (List.length_filter_le _ _) hpl
    refine⟨D2,_,rfl,SqL.of hD5,?_,fun a na=>?_⟩
    ·exact Nat.lt_of_le_of_lt (Nat.succ_le_succ hfl) (by decide)
    have dl:=ZS.JiI (ps.filter fun x=>decide (x<N.hi)) []
    refine⟨a,_,rfl,Jb,?_,fun q ts nq hp hs=>?_⟩
    ·exact Nat.le_trans dl (Nat.le_trans (by simpa using hfl) (by decide))
    have sF:Jg H (upd H5 a (Jvq P w a (ZS.Yl [] (ps.filter fun x=>decide (x<N.hi))))):=Jk (s3.trans s5) (Jg.free (s3.trans s5) na)
    refine k q _ ts (Jk sF (Jg.free sF nq)) (Jg.free sF nq) Jb (JwQ hs (hp.nodup_iff.mpr (ZS.Jjr _ _ List.nodup_nil))) (fun t=>?_) ?_
    ·rw[hp.mem_iff,ZS.Jm0,JbS,←hPS]
     simp only[List.not_mem_nil,false_or,List.mem_filter,List.mem_cons,List.mem_map,decide_eq_true_eq]
     constructor
     ·rintro⟨h1,h2⟩
      refine⟨h1,?_,h2⟩
      rcases h1 with rfl|⟨o,ho,rfl⟩
      ·exact Int.le_refl _
      ·exact(ok.ok.orders o ho).lo
     ·rintro⟨h1,_,h2⟩
      exact⟨h1,h2⟩
    ·rw[hp.length_eq]
     exact Nat.le_trans dl (Nat.le_trans (by simpa using hfl) (by decide))
end
end Zm
namespace Zm
open PySem PySem.Spec PyProof.Rows L2
noncomputable def JkK (A:Adr):Sp:=fun vs H Q _=>∃(p dx l1 l2:Addr) (xs ys:List Int),vs=[.ref p,.ref l1,.ref l2]∧H p=some (.ins A.J9 dx [])∧H l1=some (.lst (xs.map V.int))∧H l2=some (.lst (ys.map V.int))∧xs.length=ys.length∧xs.length≤64∧
 ∀(H':Hp) (l3:Addr),(∀b o,H b=some o→b≠p→H' b=some o)→H' p=some (.ins A.J9 dx (Jp0 (.ref l1) (.ref l2) (.ref l3)))→H' l3=some (.lst ((List.zipWith Vbemae.middle xs ys).map V.int))→Q .non H'
theorem JtY (f:Int→Int→Int) (c:Nat→Option V) (xs ys:List Int) (h:xs.length=ys.length) (hc:∀(i:Nat) x y,xs[i]? =some x→ys[i]? =some y→c i=some (V.int (f x y))):(List.range xs.length).filterMap c=(List.zipWith f xs ys).map V.int:=by
 have e:(List.zipWith f xs ys).length=xs.length:=by rw[List.length_zipWith];omega
 rw[←e]
 refine UR V.int c _ fun i v hv=>?_
 rw[List.getElem?_zipWith] at hv
 cases hx:xs[i]? with
 |none=>rw[hx] at hv;cases hv
 |some x=>
  cases hy:ys[i]? with
  |none=>rw[hx,hy] at hv;cases hv
  |some y=>
   rw[hx,hy] at hv
   have:f x y=v:=Option.some.inj hv
   rw[←this];exact hc i x y hx hy
section
variable {P:Program} {w:World} {K:PySem.W.Frag} {mg:Str→Option Value} {base:Heap} {A:Adr}
theorem Jk9 (T:Txt w K mg A):JF P w K mg base CX0 1 A.Jas A.VB ["self","least","greatest"] (JkK A):=by
 refine T.JgF.F.ok Va (fun vs H Q E h=>?_) (fun cdv AA outer s H vs Q E hr h=>?_)
 ·obtain⟨p,dx,l1,l2,xs,ys,rfl,_⟩:=h
  rfl
 ·obtain⟨p,dx,l1,l2,xs,ys,rfl,hp,h1,h2,hlen,h64,k⟩:=h
  refine⟨_,(Jd (JS (pv 0) (pv 1) rfl)
   (Jd (JS (pv 0) (pv 2) rfl)
   (Jf (JS (pv 0) (WH rfl Va.nd (Uu ZZ.Knd.lst ZZ.Knd.lst K rfl (by rfl) T.WK (Ja (pv 1) (Ja (pv 2) Jc))) (own:=[("low",3),("high",4)]) (lK Jgz (Je JcX) (by decide+kernel)) (fun _ _ _ _ _=>(gB K (Jx (gA 3 Va.nd) (Jx (gA 4 Va.nd) QQ)))) (fun _ _ _ _ _=>Qo) (fun _ _ _ _ _=>(JB JuM (JB Yd (pv 3) (pv 4)) Jm))) rfl)))),?_⟩
  refine⟨_,rfl,_,rfl,p,A.J9,dx,_,rfl,hp,T.Jb5,T.Jew,(by show 0<1000;decide),?_⟩
  refine⟨_,rfl,_,rfl,p,A.J9,dx,_,rfl,Jb,T.Jb5,T.JbR,(by show 1<1000;decide),?_⟩
  have n1:l1≠p:=Q8 h1 hp (by intro z;cases z)
  have n2:l2≠p:=Q8 h2 hp (by intro z;cases z)
  have kp:∀b o,H b=some o→b≠p→(upd (upd H p (.ins A.J9 dx (Qg "least" (.ref l1) []))) p (.ins A.J9 dx (Qg "greatest" (.ref l2) (Qg "least" (.ref l1) [])))) b=some o:=fun b o e hb=>by rw[Jh hb,Jh hb];exact e
  have hp2:(upd (upd H p (.ins A.J9 dx (Qg "least" (.ref l1) []))) p (.ins A.J9 dx (Qg "greatest" (.ref l2) (Qg "least" (.ref l1) [])))) p=some (.ins A.J9 dx (Qg "greatest" (.ref l2) (Qg "least" (.ref l1) []))):=Jb
  generalize upd (upd H p (.ins A.J9 dx (Qg "least" (.ref l1) []))) p (.ins A.J9 dx (Qg "greatest" (.ref l2) (Qg "least" (.ref l1) [])))=H1 at kp hp2⊢
  have g1:=kp _ _ h1 n1
  have g2:=kp _ _ h2 n2
  have hl:(xs.map V.int).length=(ys.map V.int).length:=by simp[hlen]
  refine⟨_,rfl,_,rfl,l1,l2,_,_,rfl,SqL.of g1,SqL.of g2,fun D hD=>?_⟩
  refine UQ (fun j=>(xs[j]?).bind fun x=>(ys[j]?).map fun y=>V.int (Vbemae.middle x y)) (xs.map V.int).length (Jec .lst .lst K l1 l2) hD (by rw[List.length_map];exact Nat.le_trans h64 (by decide)) (Yr (k:=.lst) (k':=.lst) (SqL.of g1) (SqL.of g2) hl) (Ut (k:=.lst) (k':=.lst) (SqL.of g1) (SqL.of g2)) ?_ ?_
  ·intro j x H5 H6 hj s5 hD5 y
   obtain⟨T2,a,b,rfl,hT2,rfl,ha,hb⟩:=y
   obtain⟨u,hu,rfl⟩:=int_at (ha _ (SqL.of (s5 _ _ g1)))
   obtain⟨v,hv,rfl⟩:=int_at (hb _ (SqL.of (s5 _ _ g2)))
   refine⟨T2,_,rfl,SqT.of Jb,rfl,_,_,rfl,_,_,rfl,rfl,rfl,?_⟩
   refine⟨_,rfl,_,rfl,_,_,rfl,rfl,_,_,rfl,rfl,⟨by decide,by decide⟩,J8 (i:=j) hD ?_ (Jk s5 (Jg.free s5 hT2)) ((Jh (Jn hD5 hT2)).trans hD5) ?_⟩
   ·rw[List.length_map] at hj;exact Nat.lt_of_lt_of_le hj (Nat.le_trans h64 (by decide))
   ·simp only[hu,hv,Option.bind_some,Option.map_some]
    unfold Vbemae.middle
    rw[Int.fdiv_eq_ediv_of_nonneg _ (by decide)]
  ·intro H5 s5 hD5
   have e2:(List.range (xs.map V.int).length).filterMap (fun j=>(xs[j]?).bind fun x=>(ys[j]?).map fun y=>V.int (Vbemae.middle x y))=(List.zipWith Vbemae.middle xs ys).map V.int:=by
    rw[List.length_map]
    exact JtY _ _ _ _ hlen fun i x y hx hy=>by simp[hx,hy]
   rw[e2] at hD5
   have hp5:=s5 _ _ hp2
   refine⟨_,rfl,p,A.J9,dx,_,rfl,hp5,T.Jb5,T.JbQ,(by show 2<1000;decide),?_⟩
   refine k _ D (fun b o e hb=>?_) (Eq.trans Jb rfl) ?_
   ·rw[Jh hb];exact s5 _ _ (kp b o e hb)
   ·rw[Jh (Q8 hD5 hp5 (by intro z;cases z))];exact hD5
end
noncomputable def Juk (A:Adr) (H:Hp) (p:Addr) (N:Vbemae.Net):Prop:=∃dx l1 l2 l3,H p=some (.ins A.J9 dx (Jp0 (.ref l1) (.ref l2) (.ref l3)))∧H l1=some (.lst ((Vbemae.leasts N).map V.int))∧H l2=some (.lst ((Vbemae.greatests N).map V.int))∧H l3=some (.lst ((Vbemae.prices N).map V.int))
noncomputable def JkI (A:Adr):Sp:=fun vs H Q _=>∃(p:Addr) (N:Vbemae.Net),vs=[.ref p]∧UI A H p N∧QN N∧∀q H',Jg H H'→Juk A H' q N→Q (.ref q) H'
noncomputable def Jmk (N:Vbemae.Net) (holds:List Nat→Nat→Bool) (z:Nat) (l:List Int):Int:=l.foldl (fun p t=>if holds (Vbemae.tight N t) z=true then p else t) N.hi
theorem JiH (N:Vbemae.Net) (holds:List Nat→Nat→Bool) (z:Nat) (l:List Int) (t:Int):Jmk N holds z (l++[t])=if holds (Vbemae.tight N t) z=true then Jmk N holds z l else t:=by
 unfold Jmk;rw[List.foldl_append];rfl
theorem Jvf (N:Vbemae.Net) (holds:List Nat→Nat→Bool) (z:Nat) (t:Int):∀m:List Int,m.Pairwise (·<·)→(∀s∈m,s<N.hi)→(t<Jmk N holds z m.reverse↔t<N.hi∧∀s∈m,s≤t→holds (Vbemae.tight N s) z=true):=by
 intro m
 induction m with
 |nil=>intro _ _;simp[Jmk]
 |cons s m ih=>
  intro hp hh
  rw[List.pairwise_cons] at hp
  have ih':=ih hp.2 fun r hr=>hh r (List.mem_cons_of_mem _ hr)
  have hs:=hh s List.mem_cons_self
  rw[List.reverse_cons,JiH]
  by_cases hd:holds (Vbemae.tight N s) z=true
  ·rw[if_pos hd,ih']
   constructor
   ·rintro⟨h1,h2⟩
    refine⟨h1,fun r hr hrt=>?_⟩
    rcases List.mem_cons.mp hr with hr|hr
    ·rw[hr];exact hd
    ·exact h2 r hr hrt
   ·rintro⟨h1,h2⟩
    exact⟨h1,fun r hr hrt=>h2 r (List.mem_cons_of_mem _ hr) hrt⟩
  ·rw[if_neg hd]
   constructor
   ·intro hts
    refine⟨by omega,fun r hr hrt=>?_⟩
    rcases List.mem_cons.mp hr with hr|hr
    ·rw[hr] at hrt;omega
    ·have:=hp.1 r hr;omega
   ·rintro⟨h1,h2⟩
    apply Int.lt_of_not_ge
    intro hge
    exact hd (h2 s List.mem_cons_self hge)
theorem Jt1 {N:Vbemae.Net} {ts:List Int} (holds:List Nat→Nat→Bool) (z:Nat) (hp:ts.Pairwise (·<·)) (hm:∀t,t∈ts↔t∈Vbemae.levels N):Jmk N holds z ts.reverse=Vbemae.priceBy N.hi (Vbemae.ladder N) fun g=>holds g z:=by
 have key:∀t,t<Jmk N holds z ts.reverse↔t<Vbemae.priceBy N.hi (Vbemae.ladder N) fun g=>holds g z:=fun t=>by
  rw[Jvf N holds z t ts hp (fun s hs=>(JbS.mp ((hm s).mp hs)).2.2),JdQ]
  constructor
  ·rintro⟨h1,h2⟩
   refine⟨h1,fun x hx hxt=>?_⟩
   obtain⟨s,hs,rfl⟩:=List.mem_map.mp hx
   exact h2 s ((hm s).mpr hs) hxt
  ·rintro⟨h1,h2⟩
   exact⟨h1,fun s hs hst=>h2 (s,Vbemae.tight N s) (List.mem_map.mpr ⟨s,(hm s).mp hs,rfl⟩) hst⟩
 have a:=key (Jmk N holds z ts.reverse)
 have b:=key (Vbemae.priceBy N.hi (Vbemae.ladder N) fun g=>holds g z)
 omega
end Zm
namespace Zm
open PySem PySem.Spec PyProof.Rows L2
noncomputable def mix (N:Vbemae.Net) (holds:List Nat→Nat→Bool) (D:List Int) (i j:Nat):List Int:=(List.range N.zones).map fun z=>Jmk N holds z (if z<j then D.take (i+1) else D.take i)
theorem Jcu (N:Vbemae.Net) (holds:List Nat→Nat→Bool) (D:List Int) (i j:Nat):(mix N holds D i j).length=N.zones:=by simp[mix]
theorem JnX {N:Vbemae.Net} {holds:List Nat→Nat→Bool} {D:List Int} {i j z:Nat} (h:z<N.zones):(mix N holds D i j)[z]? =some (Jmk N holds z (if z<j then D.take (i+1) else D.take i)):=by
 unfold mix;rw[List.getElem?_map,List.getElem?_range h];rfl
theorem JuT (N:Vbemae.Net) (holds:List Nat→Nat→Bool) (D:List Int) (i:Nat):mix N holds D i N.zones=mix N holds D (i+1) 0:=by
 unfold mix
 refine List.map_congr_left fun z hz=>?_
 rw[if_pos (List.mem_range.mp hz),if_neg (by omega)]
theorem JuS {N:Vbemae.Net} {holds:List Nat→Nat→Bool} {D:List Int} {i j:Nat} {t:Int} (hj:j<N.zones) (ht:D[i]? =some t) (h:holds (Vbemae.tight N t) j=false):(mix N holds D i j).set j t=mix N holds D i (j+1):=by
 refine List.ext_getElem? fun z=>?_
 rw[List.getElem?_set,Jcu]
 by_cases hz:z<N.zones
 ·rw[JnX hz,JnX hz]
  by_cases e:j=z
  ·subst e
   have h2:=List.getElem?_eq_some_iff.mp ht
   rw[if_pos rfl,if_pos hz,if_pos (by omega),List.take_succ_eq_append_getElem h2.1,h2.2,JiH,if_neg (by rw[h];decide)]
  ·rw[if_neg e]
   by_cases hlt:z<j
   ·rw[if_pos hlt,if_pos (by omega)]
   ·rw[if_neg hlt,if_neg (by omega)]
 ·rw[List.getElem?_eq_none (by rw[Jcu];omega),List.getElem?_eq_none (by rw[Jcu];omega),if_neg (by omega)]
theorem JtH {N:Vbemae.Net} {holds:List Nat→Nat→Bool} {D:List Int} {i j:Nat} {t:Int} (hj:j<N.zones) (ht:D[i]? =some t) (h:holds (Vbemae.tight N t) j=true):mix N holds D i j=mix N holds D i (j+1):=by
 refine List.ext_getElem? fun z=>?_
 by_cases hz:z<N.zones
 ·rw[JnX hz,JnX hz]
  by_cases e:j=z
  ·subst e
   have h2:=List.getElem?_eq_some_iff.mp ht
   rw[if_neg (by omega),if_pos (by omega),List.take_succ_eq_append_getElem h2.1,h2.2,JiH,if_pos h]
  ·by_cases hlt:z<j
   ·rw[if_pos hlt,if_pos (by omega)]
   ·rw[if_neg hlt,if_neg (by omega)]
 ·rw[List.getElem?_eq_none (by rw[Jcu];omega),List.getElem?_eq_none (by rw[Jcu];omega)]
section
variable {K:PySem.W.Frag} {N:Vbemae.Net} {t:Int} {i j:Nat} {σ:L2.St} {H:Hp} {E:JlQ} {tx gl l C dx:Addr} {D:List Int} {fs:List (Str×V)}
theorem JqC {N:Vbemae.Net} {f:Nat→Bool} {z:Nat} (h:z<N.zones):((Vbemae.members N f).map V.int)[z]? =some (.int (Vbemae.bit (f z))):=by
 unfold Vbemae.members;rw[List.getElem?_map,List.getElem?_map,List.getElem?_range h];rfl
theorem JtW (holds:List Nat→Nat→Bool) (f:Str) (sl:Nat) (hj:j<N.zones) (ht:D[i]? =some t) (e5:σ[5]? =some (some (.ref tx))) (e4:σ[4]? =some (some (.int t))) (eL:σ[sl]? =some (some (.ref l))) (e6:σ[6]? =some (some (.int (0+(j:Int)))))
  (hT:H tx=some (.ins C dx fs)) (cC:Cls K C) (na:JO K C f) (lk:fs.lookup f=some (.ref gl)) (hg:H gl=some (.lst ((Vbemae.members N (holds (Vbemae.tight N t))).map V.int))) (hl:H l=some (.lst ((mix N holds D i j).map V.int)))
  (k:∀H',H' l=some (.lst ((mix N holds D i (j+1)).map V.int))→(∀b o,b≠l→H b=some o→H' b=some o)→E.nx σ H'):
  JwF (Jtd (tOp rEq (tOp (Jsq K) (Juu K (Jnk 5) f) (Jnk 6)) (tC (.int 0)))) (Jti (Jnk 4) (Jw1 (Jnk sl) (Jnk 6) Jvz)) Jvu E σ H:=by
 refine⟨_,e5,tx,C,dx,fs,_,rfl,hT,cC,na,lk,_,e6,gl,_,_,_,rfl,rfl,SqL.of hg,(by rw[Int.zero_add];exact Jp (JqC hj)),rfl,_,rfl,J4 (fun hc=>?_) (fun hc=>?_)⟩
 ·have e0:holds (Vbemae.tight N t) j=false:=by
   have:=of_decide_eq_true hc
   injection this with this
   cases hh:holds (Vbemae.tight N t) j with
   |true=>rw[hh] at this;cases this
   |false=>rfl
  refine⟨_,e4,_,eL,_,e6,l,_,_,j,rfl,rfl,hl,?_,k _ ?_ fun b o hb e=>by rw[Jh hb];exact e⟩
  ·rw[Int.zero_add];exact JrF (by rw[List.length_map,Jcu];exact hj)
  ·rw[Jb,←List.map_set,JuS hj ht e0]
 ·have e0:holds (Vbemae.tight N t) j=true:=by
   have:=of_decide_eq_false hc
   cases hh:holds (Vbemae.tight N t) j with
   |true=>rfl
   |false=>exact absurd (by rw[hh];rfl) this
  exact k H (by rw[hl,JtH hj ht e0]) fun b o _ e=>e
end
section
variable {P:Program} {w:World} {K:PySem.W.Frag} {mg:Str→Option Value} {base:Heap} {A:Adr}
theorem Jtp (n:Nat) (x:Int):(List.replicate (n:Int).toNat [V.int x]).flatten=((List.range n).map fun _=>x).map V.int:=by
 rw[Int.toNat_natCast]
 have:(List.range n).map (fun _=>x)=List.replicate n x:=by rw[List.map_const'];simp
 rw[this]
 simp
theorem JbN (T:Txt w K mg A):JF P w K mg base CX0 5 A.Jap A.Vx ["net"] (JkI A):=by
 refine T.Jau.F.ok Q6 (fun vs H Q E h=>?_) (fun cdv AA outer s H vs Q E hr h=>?_)
 ·obtain⟨p,N,rfl,_⟩:=h
  rfl
 ·obtain⟨p,N,rfl,hNI,ok,k⟩:=h
  obtain⟨lp,op,ls,os,hN⟩:=id hNI
  obtain⟨dx,hnet⟩:=hN.net
  have z6:=ok.z6
  have p64:=JuD z6
  refine⟨_,(Jd (sA 1 Q6.nd (mA (Jcr T) hr T.V4 T.Jjk (Ja (pv 0) Jc)))
   (Jd (sA 2 Q6.nd (JB Jqw (Js (Ja (fL K (pv 0)) Jc)) (fL K (pv 0))))
   (Jd (sA 3 Q6.nd (JB Jqw (Js (Ja (fL K (pv 0)) Jc)) (fL K (pv 0))))
   (Jd (U3 PassesOwn.never rfl (Jpb (by rfl) T.JpK (Ja (cL (JhF T) hr T.JdD (Ja (pv 0) Jc)) Jc)) (gA 4 Q6.nd)
   (Jd (sA 5 Q6.nd (Vc (pv 1) T.Qz T.QD.me (Ve T) (hr.mono (by decide)) T.QD.b .nil JbJ (Ja (pv 4) Jc)))
   (Jf (U3 PassesOwn.never rfl (Jdm (by rfl) T.Jdz (Ja (fL K (pv 0)) Jc)) (gA 6 Q6.nd)
   (Jd (Qa (JA YX (iL K (fL K (pv 5)) (pv 6)) Jm (JJ _)) (Jf (Jtt (pv 4) (Jtw (pv 2) (pv 6) Jhr))) JD)
   (Jf (Qa (JA YX (iL K (fL K (pv 5)) (pv 6)) Jm (JJ _)) (Jf (Jtt (pv 4) (Jtw (pv 3) (pv 6) Jhr))) JD)))))))
   (Jf (Jl (mA (Jk9 T) hr T.JgF T.JtL (Ja (pv 2) (Ja (pv 3) Jc))))))))),?_⟩
  refine⟨_,rfl,fun q dq nq ndq nqd=>?_⟩
  have hNq:UI A (upd (upd H dq (.own q)) q (.ins A.Ju dq [])) p N:=hNI.same (Jk (Jj ndq) nq)
  refine⟨q,dq,p,N,rfl,Jb,hNq,ok,fun H2 gp rp k2 hq2 B2=>⟨rfl,?_⟩⟩
  have s12:Jg H H2:=Jg.made nq ndq k2
  have S2:Jh1 A H2 q N:=⟨dq,p,gp,rp,hq2,B2⟩
  refine⟨_,rfl,fld (s12 _ _ hnet) T.Jt T.Qy rfl ⟨(by show 1≤sizeLine;decide),fun a0 n0=>?_⟩⟩
  have t0:Jg H2 (upd H2 a0 (.lst [.int N.hi])):=Jj n0
  refine⟨_,rfl,fld (t0 _ _ (s12 _ _ hnet)) T.Jt T.Jw rfl ⟨a0,N.zones,_,rfl,rfl,Jb,by omega,by omega,?_,fun l3 n3=>?_⟩⟩
  ·show 1*(N.zones:Int).toNat≤sizeLine
   exact Nat.le_trans (show 1*(N.zones:Int).toNat≤6 by omega) (by decide)
  have t1:Jg H2 (upd (upd H2 a0 (.lst [.int N.hi])) l3 (.lst (List.replicate (N.zones:Int).toNat [V.int N.hi]).flatten)):=Jk t0 (Jg.free t0 n3)
  have hl3:(upd (upd H2 a0 (.lst [.int N.hi])) l3 (.lst (List.replicate (N.zones:Int).toNat [V.int N.hi]).flatten)) l3=some (.lst (((List.range N.zones).map fun _=>N.hi).map V.int)):=by rw[Jb,Jtp]
  have f3:=Jg.free t0 n3
  generalize upd (upd H2 a0 (.lst [.int N.hi])) l3 (.lst (List.replicate (N.zones:Int).toNat [V.int N.hi]).flatten)=H3 at t1 hl3⊢
  refine⟨_,rfl,fld (t1 _ _ (s12 _ _ hnet)) T.Jt T.Qy rfl ⟨(by show 1≤sizeLine;decide),fun a1 n1=>?_⟩⟩
  have u0:Jg H3 (upd H3 a1 (.lst [.int N.hi])):=Jj n1
  refine⟨_,rfl,fld (u0 _ _ (t1 _ _ (s12 _ _ hnet))) T.Jt T.Jw rfl ⟨a1,N.zones,_,rfl,rfl,Jb,by omega,by omega,?_,fun l4 n4=>?_⟩⟩
  ·show 1*(N.zones:Int).toNat≤sizeLine
   exact Nat.le_trans (show 1*(N.zones:Int).toNat≤6 by omega) (by decide)
  have u1:Jg H3 (upd (upd H3 a1 (.lst [.int N.hi])) l4 (.lst (List.replicate (N.zones:Int).toNat [V.int N.hi]).flatten)):=Jk u0 (Jg.free u0 n4)
  have hl4:(upd (upd H3 a1 (.lst [.int N.hi])) l4 (.lst (List.replicate (N.zones:Int).toNat [V.int N.hi]).flatten)) l4=some (.lst (((List.range N.zones).map fun _=>N.hi).map V.int)):=by rw[Jb,Jtp]
  have f4:=Jg.free u0 n4
  have d34:l3≠l4:=Jn hl3 f4
  generalize upd (upd H3 a1 (.lst [.int N.hi])) l4 (.lst (List.replicate (N.zones:Int).toNat [V.int N.hi]).flatten)=H4 at u1 hl4⊢
  have f4':=Jg.free t1 f4
  have t2:=t1.trans u1
  refine⟨_,rfl,p,N,rfl,hNI.same (s12.trans t2),ok,fun tp H5 ts s5 ntp htp hpw hmem h64=>⟨tp,ts.map V.int,rfl,SqL.of htp,?_⟩⟩
  have d3:tp≠l3:=fun e=>by rw[e,u1 _ _ hl3] at ntp;cases ntp
  have d4:tp≠l4:=fun e=>by rw[e,hl4] at ntp;cases ntp
  have m0:∀holds:List Nat→Nat→Bool,(List.range N.zones).map (fun _=>N.hi)=mix N holds ts.reverse 0 0:=fun holds=>by
   unfold mix
   refine List.map_congr_left fun z _=>?_
   rw[if_neg (by omega),List.take_zero];rfl
  refine Jvc (K:=K) (a:=tp) (xs:=ts.map V.int) (fun i σ H'=>∃v4 v5 v6,σ=[some (.ref p),some (.ref q),some (.ref l3),some (.ref l4),v4,v5,v6]∧Jg H2 H'∧H' tp=some (.lst (ts.map V.int))∧H' l3=some (.lst ((mix N Vbemae.inLeast ts.reverse i 0).map V.int))∧H' l4=some (.lst ((mix N Vbemae.inGreatest ts.reverse i 0).map V.int)))
   ⟨none,none,none,rfl,t2.trans s5,htp,by rw[s5 _ _ (u1 _ _ hl3),m0],by rw[s5 _ _ hl4,m0]⟩ (fun i σ H' _ ⟨_,_,_,_,_,h,_⟩=>SqL.of h) ?_ ?_
  ·rintro i x σ H' hi hx ⟨v4,v5,v6,rfl,s6,htp6,hl36,hl46⟩
   obtain⟨t,ht,rfl⟩:=int_at hx
   rw[List.length_map] at hi ht
   have htr:ts.reverse[i]? =some t:=by rw[List.getElem?_reverse hi];exact ht
   refine⟨_,rfl,q,_,_,rfl,s6 _ _ hq2,rfl,_,rfl,q,N,t,rfl,S2.same s6,ok,fun tx g1 g2 H8 s78 ntx n1 n2 ⟨⟨dt,hTx⟩,hg1,hg2⟩=>?_⟩
   have w3:∀{b:Addr},H' b=none→b≠l3:=fun {b} n e=>by rw[e,hl36] at n;cases n
   have w4:∀{b:Addr},H' b=none→b≠l4:=fun {b} n e=>by rw[e,hl46] at n;cases n
   refine⟨_,rfl,fld (s78 _ _ (s6 _ _ (s12 _ _ hnet))) T.Jt T.Jw rfl ⟨N.zones,rfl,by omega,by omega,JfU (n:=N.zones) (fun j σ H'=>∃v6,σ=[some (.ref p),some (.ref q),some (.ref l3),some (.ref l4),some (.int t),some (.ref tx),v6]∧Jg H2 H'∧H' tp=some (.lst (ts.map V.int))∧(∀b o,b≠l3→b≠l4→H8 b=some o→H' b=some o)∧H' l3=some (.lst ((mix N Vbemae.inLeast ts.reverse i j).map V.int))∧H' l4=some (.lst ((mix N Vbemae.inGreatest ts.reverse i j).map V.int)))
    ⟨v6,rfl,s6.trans s78,s78 _ _ htp6,fun b o _ _ e=>e,s78 _ _ hl36,s78 _ _ hl46⟩ ?_ ?_⟩⟩
   ·rintro j σ H9 hj ⟨v6,rfl,s9,htp9,k9,h39,h49⟩
    refine JtW (K:=K) (N:=N) (t:=t) (i:=i) (j:=j) (D:=ts.reverse) Vbemae.inLeast "least_group" 2 hj htr rfl rfl rfl rfl (k9 _ _ (w3 ntx) (w4 ntx) hTx) T.UX T.UD rfl (k9 _ _ (w3 n1) (w4 n1) hg1) h39 fun HC h3C kC=>?_
    refine JtW (K:=K) (N:=N) (t:=t) (i:=i) (j:=j) (D:=ts.reverse) Vbemae.inGreatest "greatest_group" 3 hj htr rfl rfl rfl rfl (kC _ _ (w3 ntx) (k9 _ _ (w3 ntx) (w4 ntx) hTx)) T.UX T.QX rfl (kC _ _ (w3 n2) (k9 _ _ (w3 n2) (w4 n2) hg2)) (kC _ _ d34.symm h49) fun HD h4D kD=>?_
    have b3:∀b o,H2 b=some o→b≠l3:=fun b o e q=>by rw[q,f3] at e;cases e
    have b4:∀b o,H2 b=some o→b≠l4:=fun b o e q=>by rw[q,f4'] at e;cases e
    have kk:∀b o,b≠l3→b≠l4→H9 b=some o→HD b=some o:=fun b o q3 q4 e=>kD b o q4 (kC b o q3 e)
    refine⟨_,rfl,fun b o e=>kk b o (b3 b o e) (b4 b o e) (s9 b o e),kk _ _ d3 d4 htp9,fun b o q3 q4 e=>kk b o q3 q4 (k9 b o q3 q4 e),?_,h4D⟩
    exact kD _ _ d34 h3C
   ·rintro σ H9 ⟨v6,rfl,s9,htp9,k9,h39,h49⟩
    rw[JuT] at h39 h49
    exact⟨_,_,_,rfl,s9,htp9,h39,h49⟩
  ·rintro σ H' ⟨v4,v5,v6,rfl,s6,htp6,hl36,hl46⟩
   have fin:∀holds:List Nat→Nat→Bool,mix N holds ts.reverse (ts.map V.int).length 0=(List.range N.zones).map fun z=>Vbemae.priceBy N.hi (Vbemae.ladder N) fun g=>holds g z:=fun holds=>by
    unfold mix
    refine List.map_congr_left fun z _=>?_
    rw[if_neg (by omega),List.length_map,←Jt1 holds z hpw hmem]
    rw[List.take_of_length_le (by simp)]
   have eL:mix N Vbemae.inLeast ts.reverse (ts.map V.int).length 0=Vbemae.leasts N:=fin _
   have eG:mix N Vbemae.inGreatest ts.reverse (ts.map V.int).length 0=Vbemae.greatests N:=fin _
   rw[eL] at hl36
   rw[eG] at hl46
   have ll:(Vbemae.leasts N).length=N.zones:=by rw[←eL,Jcu]
   have lg:(Vbemae.greatests N).length=N.zones:=by rw[←eG,Jcu]
   refine⟨_,rfl,_,rfl,fun x dx' nx ndx ne=>?_⟩
   have n3x:l3≠x:=Jn hl36 nx
   have n3d:l3≠dx':=Jn hl36 ndx
   have n4x:l4≠x:=Jn hl46 nx
   have n4d:l4≠dx':=Jn hl46 ndx
   refine⟨x,dx',l3,l4,Vbemae.leasts N,Vbemae.greatests N,rfl,Jb,(by rw[Jh n3x,Jh n3d];exact hl36),(by rw[Jh n4x,Jh n4d];exact hl46),by rw[ll,lg],by rw[ll];omega,fun H7 l5 k7 h7 h75=>⟨rfl,?_⟩⟩
   have s7:Jg H' H7:=Jg.made nx ndx k7
   exact k x H7 ((s12.trans s6).trans s7) ⟨dx',l3,l4,l5,h7,s7 _ _ hl36,s7 _ _ hl46,h75⟩
end
end Zm
namespace Zm
open PySem PySem.Spec PyProof.Rows L2
noncomputable def UZ (es:List Vbemae.Arc) (m:Nat):List Int:=(List.range m).map fun X=>JH es X
theorem JkA {es:List Vbemae.Arc} {m i:Nat} (h:i<m):(UZ es m)[i]? =some (JH es i):=by
 unfold UZ;rw[List.getElem?_map,List.getElem?_range h];rfl
theorem JeH (es:List Vbemae.Arc) (m:Nat):(UZ es m).length=m:=by simp[UZ]
structure WP (A:Adr) (H:Hp) (c gp sp:Addr) (m:Nat) (es:List Vbemae.Arc):Prop where
 obj:∃dx,H c=some (.ins A.Jq dx (Jav (.ref gp) (.ref sp)))
 grp:Ym H gp m (2^m)
 spr:H sp=some (.lst ((UZ es (2^m)).map V.int))
theorem WP.same {A:Adr} {H H':Hp} {c gp sp:Addr} {m:Nat} {es:List Vbemae.Arc} (s:Jg H H') (h:WP A H c gp sp m es):WP A H' c gp sp m es:=⟨let⟨dx,e⟩:=h.obj;⟨dx,s _ _ e⟩,h.grp.same s,s _ _ h.spr⟩
theorem JgL {l r:List Vbemae.Arc} (h:l.Perm r) (X:Nat):JH l X=JH r X:=by
 unfold JH
 induction h with
 |nil=>rfl
 |cons a _ ih=>simp only[List.map_cons,JG,ih]
 |swap a b l=>simp only[List.map_cons,JG];omega
 |trans _ _ h1 h2=>exact h1.trans h2
theorem Jtu {n:Nat} (h:n≤10):2^n≤1024:=Nat.le_trans (Nat.pow_le_pow_right (by decide) h) (by decide)
noncomputable def Jf3 (A:Adr):Sp:=fun vs H Q _=>∃(p dx ap:Addr) (m:Nat) (as:List Addr) (es:List Vbemae.Arc),vs=[.ref p,.int m,.ref ap]∧H p=some (.ins A.Jq dx [])∧H ap=some (.lst (as.map V.ref))∧Q5 (Ya A H) as es∧(∀e∈es,e.tail<m∧e.head<m)∧p∉as∧m≤10∧
 ∀(H':Hp) (gp sp:Addr),(∀b o,H b=some o→b≠p→H' b=some o)→WP A H' p gp sp m es→Q .non H'
noncomputable def JkE (A:Adr):Sp:=fun vs H Q _=>∃(c gp sp:Addr) (m t h:Nat) (es:List Vbemae.Arc),vs=[.ref c,.int t,.int h]∧WP A H c gp sp m es∧t<m∧h<m∧t≠h∧m≤10∧
 ∀(M:Int) (H':Hp),Jg H H'→(∃X,X<2^m∧X.testBit h=true∧X.testBit t=false∧M=JH es X)→(∀X,X<2^m→X.testBit h=true→X.testBit t=false→M≤JH es X)→Q (.int M) H'
noncomputable def Jqa (A:Adr):Sp:=fun vs H Q _=>∃(c gp sp a:Addr) (z:Nat) (es others:List Vbemae.Arc) (e:Vbemae.Arc),vs=[.ref c,.ref a]∧WP A H c gp sp (z+1) es∧Ya A H a e∧es.Perm (e::others)∧JlD z e∧z≤6∧∀H':Hp,Jg H H'→Q (.int (Vbemae.most z others e)) H'
noncomputable def Jsf (A:Adr):Sp:=fun vs H Q _=>∃(c gp sp a:Addr) (z:Nat) (es others:List Vbemae.Arc) (e:Vbemae.Arc),vs=[.ref c,.ref a]∧WP A H c gp sp (z+1) es∧Ya A H a e∧es.Perm (e::others)∧JlD z e∧z≤6∧∀H':Hp,Jg H H'→Q (.int (Vbemae.least z others e)) H'
section
variable {P:Program} {w:World} {K:PySem.W.Frag} {mg:Str→Option Value} {base:Heap} {A:Adr}
theorem Jf6 (T:Txt w K mg A):JF P w K mg base CX0 3 A.Wf A.UO ["self","nodes","arcs"] (Jf3 A):=by
 refine T.Jch.F.ok Yc (fun vs H Q E h=>?_) (fun cdv AA outer s H vs Q E hr h=>?_)
 ·obtain⟨p,dx,ap,m,as,es,rfl,_⟩:=h
  rfl
 ·obtain⟨p,dx,ap,m,as,es,rfl,hp,hap,hA,hb,hpa,hm,k⟩:=h
  have p10:=Jtu hm
  refine⟨_,(Jd (JS (pv 0) (cL (Jgq T) hr T.Jej (Ja (pv 1) Jc)) rfl)
   (Jf (JS (pv 0) (WH rfl Yc.nd (Qi (fL K (pv 0))) (own:=[("group",3)]) (lK Jb8 (Je YN) (by decide+kernel)) (fun _ _ _ _ _=>(gA 3 Yc.nd)) (fun _ _ _ _ _=>Qo) (fun _ _ _ _ _=>(cL (Jk6 T) hr T.JgD (Ja (pv 3) (Ja (pv 2) Jc))))) rfl))),?_⟩
  refine⟨_,rfl,m,rfl,hm,fun gp H1 s1 ngp G=>⟨_,rfl,p,A.Jq,dx,_,rfl,s1 _ _ hp,T.JQ,T.Ug,(by show 0<1000;decide),?_⟩⟩
  have k1:∀b o,H b=some o→b≠p→(upd H1 p (.ins A.Jq dx (Qg "groups" (.ref gp) []))) b=some o:=fun b o e hb=>by rw[Jh hb];exact s1 b o e
  have hp1:(upd H1 p (.ins A.Jq dx (Qg "groups" (.ref gp) []))) p=some (.ins A.Jq dx (Qg "groups" (.ref gp) [])):=Jb
  have ngpp:gp≠p:=fun e=>by rw[e,hp] at ngp;cases ngp
  have G1:Ym (upd H1 p (.ins A.Jq dx (Qg "groups" (.ref gp) []))) gp m (2^m):=by
   obtain⟨gs,hG,hl,hg⟩:=G
   refine⟨gs,by rw[Jh ngpp];exact hG,hl,fun i g e=>?_⟩
   have:=hg i g e
   rw[Jh (Q8 this (s1 _ _ hp) (by intro z;cases z))];exact this
  generalize upd H1 p (.ins A.Jq dx (Qg "groups" (.ref gp) []))=H2 at k1 hp1 G1⊢
  obtain⟨gs,hG,hglen,hgs⟩:=id G1
  have hl1:(gs.map V.ref).length=2^m:=by simp[hglen]
  have nap:ap≠p:=Q8 hap hp (by intro z;cases z)
  have hap2:=k1 _ _ hap nap
  have hA2:Q5 (Ya A H2) as es:=⟨hA.len,fun i x y hx hy=>by
   obtain⟨d,q⟩:=hA.at_ i x y hx hy
   exact⟨d,k1 _ _ q fun e=>hpa (e▸List.mem_of_getElem? hx)⟩⟩
  refine⟨_,rfl,fld hp1 T.JQ T.Ug rfl ⟨gp,rfl,⟨_,SqL.of hG⟩,fun D nD=>?_⟩⟩
  refine UQ (fun j=>some (V.int (JH es j))) (gs.map V.ref).length (Itl K gp) nD (by rw[hl1];exact Nat.le_trans p10 (by decide)) (Ye (SqL.of hG)) (QW (SqL.of hG)) ?_ ?_
  ·intro j x H3 H4 hj s3 hD3 y
   obtain⟨rfl,y⟩:=y
   obtain⟨g,hg,rfl⟩:=J1 (y _ (SqL.of (s3 _ _ hG)))
   refine⟨rfl,_,rfl,_,rfl,g,ap,m,j,as,es,rfl,s3 _ _ (hgs j g hg),s3 _ _ hap2,hA2.imp fun _ _ q=>q.same s3,hb,J8 (i:=j) (c:=fun j=>some (V.int (JH es j))) nD ?_ s3 hD3 rfl⟩
   rw[hl1] at hj;exact Nat.lt_of_lt_of_le hj (Nat.le_trans p10 (by decide))
  ·intro H3 s3 hD3
   have e1:(List.range (gs.map V.ref).length).filterMap (fun j=>some (V.int (JH es j)))=(UZ es (2^m)).map V.int:=by
    rw[hl1];unfold UZ;rw[List.map_map,←List.filterMap_eq_map];rfl
   rw[e1] at hD3
   have hp3:=s3 _ _ hp1
   refine⟨_,rfl,p,A.Jq,dx,_,rfl,hp3,T.JQ,T.Uf,(by show 1<1000;decide),?_⟩
   have np:∀{b:Addr} {o:HO},H3 b=some o→(∀f,o≠.ins A.Jq dx f)→(upd H3 p (.ins A.Jq dx (Qg "spares" (.ref D) (Qg "groups" (.ref gp) [])))) b=some o:=fun {b o} e ho=>by rw[Jh (Q8 e hp3 (ho _))];exact e
   refine k _ gp D (fun b o e hb=>by rw[Jh hb];exact s3 _ _ (k1 b o e hb)) ⟨⟨dx,Eq.trans Jb rfl⟩,⟨gs,np (s3 _ _ hG) (by intro f z;cases z),hglen,fun i g e=>np (s3 _ _ (hgs i g e)) (by intro f z;cases z)⟩,np hD3 (by intro f z;cases z)⟩
theorem WI (T:Txt w K mg A):JF P w K mg base CX0 2 A.QC A.Qr ["self","tail","head"] (JkE A):=by
 refine T.J6.F.ok Qm (fun vs H Q E h=>?_) (fun cdv AA outer s H vs Q E hr h=>?_)
 ·obtain⟨c,gp,sp,m,t,h,es,rfl,_⟩:=h
  rfl
 ·obtain⟨c,gp,sp,m,t,h,es,rfl,C,ht,hh,hne,hm,k⟩:=h
  have p10:=Jtu hm
  obtain⟨dx,hc⟩:=C.obj
  obtain⟨gs,hG,hglen,hgs⟩:=C.grp
  have hS:=C.spr
  have hl1:(gs.map V.ref).length=2^m:=by simp[hglen]
  have hl2:(gs.map V.ref).length=((UZ es (2^m)).map V.int).length:=by rw[hl1,List.length_map,JeH]
  refine⟨_,(Jf (Jl (JV (Jm4 K rfl rfl) (by rfl) T.Jly PyProof.Rows.boot_min (Ja (WH rfl Qm.nd (Uu ZZ.Knd.lst ZZ.Knd.lst K rfl (by rfl) T.WK (Ja (fL K (pv 0)) (Ja (fL K (pv 0)) Jc))) (own:=[("group",3),("spare",4)]) (lK W9 (Je Uo) (by decide+kernel)) (fun _ _ _ _ _=>(gB K (Jx (gA 3 Qm.nd) (Jx (gA 4 Qm.nd) QQ)))) (fun _ _ _ _ _=>(Jcp (VY (cL (VZ T) hr T.JaT (Ja (pv 3) (Ja (pv 1) (Ja (pv 2) Jc))))))) (fun _ _ _ _ _=>(pv 4))) Jc)))),?_⟩
  refine⟨_,rfl,fld hc T.JQ T.Ug rfl ⟨_,rfl,fld hc T.JQ T.Uf rfl ⟨gp,sp,_,_,rfl,SqL.of hG,SqL.of hS,fun D nD=>?_⟩⟩⟩
  refine UQ (fun j=>if(j.testBit h&&!j.testBit t)=true then some (V.int (JH es j)) else none) (2^m) (Jec .lst .lst K gp sp) nD (Nat.le_trans p10 (by decide))
   (fun j H hj s=>Yr (k:=.lst) (k':=.lst) (SqL.of hG) (SqL.of hS) hl2 j H (by rw[hl1];exact hj) s)
   (fun H s=>by have:=Ut (k:=.lst) (k':=.lst) (K:=K) (SqL.of hG) (SqL.of hS) H s;rw[hl1] at this;exact this) ?_ ?_
  ·intro j x H5 H6 hj s5 hD5 y
   obtain⟨T2,a,b,rfl,hT2,rfl,ha,hb⟩:=y
   obtain⟨g,hg,rfl⟩:=J1 (ha _ (SqL.of (s5 _ _ hG)))
   obtain⟨v,hv,rfl⟩:=int_at (hb _ (SqL.of (s5 _ _ hS)))
   rw[JkA hj] at hv
   have ev:=Option.some.inj hv
   subst ev
   have s6:=Jk (o:=.tup [.ref g,.int (JH es j)]) s5 (Jg.free s5 hT2)
   have hD6:(upd H5 T2 (.tup [.ref g,.int (JH es j)])) D=_:=(Jh (Jn hD5 hT2)).trans hD5
   refine⟨T2,_,rfl,SqT.of Jb,rfl,_,_,rfl,_,_,rfl,rfl,rfl,?_⟩
   refine⟨_,rfl,_,rfl,_,rfl,.tup,g,m,j,t,h,rfl,s6 _ _ (hgs j g hg),ht,hh,_,rfl,J4 (fun hcd=>?_) (fun hcd=>?_)⟩
   ·exact⟨_,rfl,J8 (i:=j) nD (Nat.lt_of_lt_of_le hj (Nat.le_trans p10 (by decide))) s6 hD6 (if_pos hcd)⟩
   ·exact Jcv s6 hD6 (if_neg (by rw[hcd];decide))
  ·intro H5 s5 hD5
   have e2:(List.range (2^m)).filterMap (fun j=>if(j.testBit h&&!j.testBit t)=true then some (V.int (JH es j)) else none)=(((List.range (2^m)).filter fun j=>j.testBit h&&!j.testBit t).map (JH es)).map V.int:=by
    have:=Jjq (fun j:Nat=>j.testBit h&&!j.testBit t) (fun j=>V.int (JH es j)) (fun j=>if(j.testBit h&&!j.testBit t)=true then some (V.int (JH es j)) else none) (List.range (2^m)) fun i x hx=>by
     have:i<(List.range (2^m)).length:=(List.getElem?_eq_some_iff.mp hx).1
     rw[List.length_range] at this
     rw[List.getElem?_range this] at hx
     have:=Option.some.inj hx
     subst this;rfl
    rw[List.length_range] at this
    rw[this,List.map_map];rfl
   rw[e2] at hD5
   have wit:2^h<2^m∧(2^h).testBit h=true∧(2^h).testBit t=false:=⟨Nat.pow_lt_pow_right (by decide) hh,Nat.testBit_two_pow_self,Nat.testBit_two_pow_of_ne (fun e=>hne e.symm)⟩
   have memf:∀X,X<2^m→X.testBit h=true→X.testBit t=false→JH es X∈((List.range (2^m)).filter fun j=>j.testBit h&&!j.testBit t).map (JH es):=fun X a b c=>List.mem_map.mpr ⟨X,List.mem_filter.mpr ⟨List.mem_range.mpr a,by rw[b,c];rfl⟩,rfl⟩
   refine⟨D,_,rfl,SqL.of hD5,List.length_pos_of_mem (memf _ wit.1 wit.2.1 wit.2.2),fun M hM1 hM2=>?_⟩
   refine k M H5 s5 ?_ fun X a b c=>hM2 _ (memf X a b c)
   obtain⟨X,hX,rfl⟩:=List.mem_map.mp hM1
   obtain⟨h1,h2⟩:=List.mem_filter.mp hX
   rw[Bool.and_eq_true,Bool.not_eq_true'] at h2
   exact⟨X,List.mem_range.mp h1,h2.1,h2.2,rfl⟩
theorem JtG {z:Nat} {es others:List Vbemae.Arc} {e:Vbemae.Arc} {M:Int} (p:es.Perm (e::others)) (h1:∃X,X<2^(z+1)∧X.testBit e.head=true∧X.testBit e.tail=false∧M=JH es X) (h2:∀X,X<2^(z+1)→X.testBit e.head=true→X.testBit e.tail=false→M≤JH es X):
  (if e.lo+M<e.hi then e.lo+M else e.hi)=Vbemae.most z others e:=by
 obtain⟨a,b,c⟩:=Jkd z others e
 have sp:∀X,JdY X e→JH es X=-e.lo+JH others X:=fun X h=>by rw[JgL p,UC,JgP h]
 obtain⟨X,x1,x2,x3,x4⟩:=h1
 have hx:=b X x1 ⟨x2,x3⟩
 have hs:=sp X ⟨x2,x3⟩
 rcases c with c|⟨Y,y1,y2,y3⟩
 ·split<;>omega
 ·have hy:=h2 Y y1 y2.1 y2.2
  have hy2:=sp Y y2
  split<;>omega
theorem Jsy {z:Nat} {es others:List Vbemae.Arc} {e:Vbemae.Arc} {M:Int} (p:es.Perm (e::others)) (h1:∃X,X<2^(z+1)∧X.testBit e.tail=true∧X.testBit e.head=false∧M=JH es X) (h2:∀X,X<2^(z+1)→X.testBit e.tail=true→X.testBit e.head=false→M≤JH es X):
  (if e.hi-M>e.lo then e.hi-M else e.lo)=Vbemae.least z others e:=by
 obtain⟨a,b,c⟩:=JhO z others e
 have sp:∀X,JdT X e→JH es X=e.hi+JH others X:=fun X h=>by rw[JgL p,UC,JgO h]
 obtain⟨X,x1,x2,x3,x4⟩:=h1
 have hx:=b X x1 ⟨x2,x3⟩
 have hs:=sp X ⟨x2,x3⟩
 rcases c with c|⟨Y,y1,y2,y3⟩
 ·split<;>omega
 ·have hy:=h2 Y y1 y2.1 y2.2
  have hy2:=sp Y y2
  split<;>omega
theorem Vf (T:Txt w K mg A):JF P w K mg base CX0 3 A.Ul A.QZ ["self","arc"] (Jqa A):=by
 refine T.QE.F.ok JdK (fun vs H Q E h=>?_) (fun cdv AA outer s H vs Q E hr h=>?_)
 ·obtain⟨c,gp,sp,a,z,es,others,e,rfl,_⟩:=h
  rfl
 ·obtain⟨c,gp,sp,a,z,es,others,e,rfl,C,⟨da,ha⟩,hp,oke,hz,k⟩:=h
  obtain⟨dx,hc⟩:=C.obj
  refine⟨_,(Jf (Jl (JV (JiM rfl) (by rfl) T.Jly PyProof.Rows.boot_min (Ja (fL K (pv 1)) (Ja (JB Yd (fL K (pv 1)) (Vc (pv 0) T.JQ T.J6.me (WI T) (hr.mono (by decide)) T.J6.b .nil JbJ (Ja (fL K (pv 1)) (Ja (fL K (pv 1)) Jc)))) Jc))))),?_⟩
  refine⟨_,rfl,fld ha T.Q3 T.WJ rfl ⟨_,rfl,fld ha T.Q3 T.U6 rfl ⟨_,rfl,c,dx,_,rfl,hc,rfl,_,rfl,fld ha T.Q3 T.Uv rfl ⟨_,rfl,fld ha T.Q3 T.Uw rfl ⟨c,gp,sp,z+1,e.tail,e.head,es,rfl,C,oke.tail,oke.head,oke.ne,by omega,fun M H' s' h1 h2=>⟨_,_,rfl,rfl,_,_,rfl,?_⟩⟩⟩⟩⟩⟩
  rw[JtG hp h1 h2]
  exact k H' s'
theorem JeC (T:Txt w K mg A):JF P w K mg base CX0 3 A.UA A.Uj ["self","arc"] (Jsf A):=by
 refine T.WO.F.ok JeB (fun vs H Q E h=>?_) (fun cdv AA outer s H vs Q E hr h=>?_)
 ·obtain⟨c,gp,sp,a,z,es,others,e,rfl,_⟩:=h
  rfl
 ·obtain⟨c,gp,sp,a,z,es,others,e,rfl,C,⟨da,ha⟩,hp,oke,hz,k⟩:=h
  obtain⟨dx,hc⟩:=C.obj
  refine⟨_,(Jf (Jl (JV (Jdx rfl) (by rfl) T.Jg9 PyProof.Rows.boot_max (Ja (fL K (pv 1)) (Ja (JB U5 (fL K (pv 1)) (Vc (pv 0) T.JQ T.J6.me (WI T) (hr.mono (by decide)) T.J6.b .nil JbJ (Ja (fL K (pv 1)) (Ja (fL K (pv 1)) Jc)))) Jc))))),?_⟩
  refine⟨_,rfl,fld ha T.Q3 T.U6 rfl ⟨_,rfl,fld ha T.Q3 T.WJ rfl ⟨_,rfl,c,dx,_,rfl,hc,rfl,_,rfl,fld ha T.Q3 T.Uw rfl ⟨_,rfl,fld ha T.Q3 T.Uv rfl ⟨c,gp,sp,z+1,e.head,e.tail,es,rfl,C,oke.head,oke.tail,oke.ne.symm,by omega,fun M H' s' h1 h2=>⟨_,_,rfl,rfl,_,_,rfl,?_⟩⟩⟩⟩⟩⟩
  rw[Jsy hp h1 h2]
  exact k H' s'
end
end Zm
namespace Zm
open PySem PySem.Spec PyProof.Rows L2
noncomputable def Vr (e:Vbemae.Arc) (v:Int):Vbemae.Arc:={e with lo:=v,hi:=v}
noncomputable def Jse (A:Adr):Sp:=fun vs H Q _=>∃(c gp sp a:Addr) (z:Nat) (es others:List Vbemae.Arc) (e:Vbemae.Arc) (v:Int),vs=[.ref c,.ref a,.int v]∧WP A H c gp sp (z+1) es∧Ya A H a e∧es.Perm (e::others)∧JlD z e∧z≤6∧
 ∀(H':Hp) (sp':Addr),(∀b o,H b=some o→b≠c→b≠a→H' b=some o)→H sp'=none→WP A H' c gp sp' (z+1) (Vr e v::others)→Q .non H'
theorem Jnu (X:Nat) (e:Vbemae.Arc) (v:Int):sp1 X (Vr e v)=(if(X.testBit e.tail&&!X.testBit e.head)=true then v else 0)-(if(X.testBit e.head&&!X.testBit e.tail)=true then v else 0):=JkM X (Vr e v)
section
variable {P:Program} {w:World} {K:PySem.W.Frag} {mg:Str→Option Value} {base:Heap} {A:Adr}
theorem VT (T:Txt w K mg A):JF P w K mg base CX0 2 A.Uz A.Ui ["self","arc","flow"] (Jse A):=by
 refine T.QO.F.ok J0 (fun vs H Q E h=>?_) (fun cdv AA outer s H vs Q E hr h=>?_)
 ·obtain⟨c,gp,sp,a,z,es,others,e,v,rfl,_⟩:=h
  rfl
 ·obtain⟨c,gp,sp,a,z,es,others,e,v,rfl,C,⟨da,ha⟩,hp,oke,hz,k⟩:=h
  have p10:=Jtu (show z+1≤10 by omega)
  obtain⟨dx,hc⟩:=C.obj
  obtain⟨gs,hG,hglen,hgs⟩:=C.grp
  have hS:=C.spr
  have hl1:(gs.map V.ref).length=2^(z+1):=by simp[hglen]
  have hl2:(gs.map V.ref).length=((UZ es (2^(z+1))).map V.int).length:=by rw[hl1,List.length_map,JeH]
  refine⟨_,(Jd (sA 3 J0.nd (Js Jc))
   (Jd (U3 PassesOwn.never rfl (Uu ZZ.Knd.lst ZZ.Knd.lst K rfl (by rfl) T.WK (Ja (fL K (pv 0)) (Ja (fL K (pv 0)) Jc))) (gB K (Jx (gA 4 J0.nd) (Jx (gA 5 J0.nd) QQ)))
   (Jd (sA 6 J0.nd Jm)
   (Jd (Qa (VY (cL (VZ T) hr T.JaT (Ja (pv 4) (Ja (fL K (pv 1)) (Ja (fL K (pv 1)) Jc))))) (Jf (sA 6 J0.nd (JB U5 (fL K (pv 1)) (pv 2)))) JD)
   (Jd (Qa (VY (cL (VZ T) hr T.JaT (Ja (pv 4) (Ja (fL K (pv 1)) (Ja (fL K (pv 1)) Jc))))) (Jf (sA 6 J0.nd (JB U5 (pv 2) (fL K (pv 1))))) JD)
   (Jf (U4 (Jdp PySem.F.plainAttrs_list PySem.F.slot_list_append PySem.F.type_list_append Wm (pv 3) (Ja (JB Yd (pv 5) (pv 6)) Jc))))))))
   (Jd (JS (pv 0) (pv 3) rfl)
   (Jd (JS (pv 1) (pv 2) rfl)
   (Jf (JS (pv 1) (pv 2) rfl)))))),?_⟩
  refine⟨Nat.zero_le _,fun l nl=>?_⟩
  have s1:Jg H (upd H l (.lst [])):=Jj nl
  have nx:∀X,JH (Vr e v::others) X=JH es X+(sp1 X (Vr e v)-sp1 X e):=fun X=>by rw[JgL hp,UC,UC];omega
  refine⟨_,rfl,fld (s1 _ _ hc) T.JQ T.Ug rfl ⟨_,rfl,fld (s1 _ _ hc) T.JQ T.Uf rfl ⟨gp,sp,_,_,rfl,SqL.of (s1 _ _ hG),SqL.of (s1 _ _ hS),Je9 (k:=.lst) (k':=.lst) (K:=K) hl2 (fun i σ H'=>∃v4 v5 v6,σ=[some (.ref c),some (.ref a),some (.int v),some (.ref l),v4,v5,v6]∧Jg H H'∧H' l=some (.lst ((UZ (Vr e v::others) i).map V.int)))
   ⟨none,none,none,rfl,s1,Jb⟩ (fun i σ H' _ ⟨_,_,_,_,s3,_⟩=>⟨SqL.of (s3 _ _ hG),SqL.of (s3 _ _ hS)⟩) ?_ ?_⟩⟩⟩
  ·rintro i x y T1 σ H' hx hy hT ⟨v4,v5,v6,rfl,s3,hl⟩
   obtain⟨g,hg,rfl⟩:=J1 hx
   have hi:i<2^(z+1):=by rw[←hl1];exact(List.getElem?_eq_some_iff.mp hx).1
   obtain⟨u,hu,rfl⟩:=int_at hy
   rw[JkA hi] at hu
   have eu:=Option.some.inj hu
   subst eu
   have s4:Jg H (upd H' T1 (.tup [.ref g,.int (JH es i)])):=Jk s3 (Jg.free s3 hT)
   have hl4:(upd H' T1 (.tup [.ref g,.int (JH es i)])) l=_:=(Jh (Jn hl hT)).trans hl
   refine⟨T1,_,rfl,SqT.of Jb,rfl,_,_,rfl,_,_,rfl,rfl,?_⟩
   generalize upd H' T1 (.tup [.ref g,.int (JH es i)])=H4 at s4 hl4⊢
   have ha4:=s4 _ _ ha
   have hg4:=s4 _ _ (hgs i g hg)
   have llt:((UZ (Vr e v::others) i).map V.int).length<sizeLine:=by
    rw[List.length_map,JeH];exact Nat.lt_of_lt_of_le hi (Nat.le_trans p10 (by decide))
   have fin:∀ch:Int,ch=sp1 i (Vr e v)-sp1 i e→Jg H (upd H4 l (.lst ((UZ (Vr e v::others) i).map V.int++[.int (JH es i+ch)])))∧(upd H4 l (.lst ((UZ (Vr e v::others) i).map V.int++[.int (JH es i+ch)]))) l=some (.lst ((UZ (Vr e v::others) (i+1)).map V.int)):=fun ch hch=>by
    refine⟨Jk s4 nl,?_⟩
    rw[Jb,hch,←nx]
    unfold UZ
    rw[List.range_succ,List.map_append,List.map_append]
    rfl
   refine⟨_,rfl,_,rfl,fld ha4 T.Q3 T.Uv rfl ⟨_,rfl,fld ha4 T.Q3 T.Uw rfl ⟨.tup,g,z+1,i,e.tail,e.head,rfl,hg4,oke.tail,oke.head,_,rfl,J4 (fun h1=>?_) (fun h1=>?_)⟩⟩⟩
   ·refine⟨_,rfl,fld ha4 T.Q3 T.U6 rfl ⟨_,rfl,_,_,rfl,rfl,?_⟩⟩
    refine⟨_,rfl,_,rfl,fld ha4 T.Q3 T.Uw rfl ⟨_,rfl,fld ha4 T.Q3 T.Uv rfl ⟨.tup,g,z+1,i,e.head,e.tail,rfl,hg4,oke.head,oke.tail,_,rfl,J4 (fun h2=>?_) (fun h2=>?_)⟩⟩⟩
    ·exfalso
     simp at h1 h2
     rw[h1.1] at h2;exact absurd h2.2 (by decide)
    ·refine⟨_,rfl,.inl ⟨rfl,_,SqL.of hl4⟩,_,rfl,_,rfl,_,_,rfl,rfl,l,_,_,rfl,rfl,hl4,llt,_,_,_,rfl,fin _ ?_⟩
     rw[Jnu,JkM];simp only[h1,h2,↓reduceIte,Bool.false_eq_true];omega
   ·refine⟨_,rfl,_,rfl,fld ha4 T.Q3 T.Uw rfl ⟨_,rfl,fld ha4 T.Q3 T.Uv rfl ⟨.tup,g,z+1,i,e.head,e.tail,rfl,hg4,oke.head,oke.tail,_,rfl,J4 (fun h2=>?_) (fun h2=>?_)⟩⟩⟩
    ·refine⟨_,rfl,_,rfl,fld ha4 T.Q3 T.WJ rfl ⟨_,_,rfl,rfl,?_⟩⟩
     refine⟨_,rfl,.inl ⟨rfl,_,SqL.of hl4⟩,_,rfl,_,rfl,_,_,rfl,rfl,l,_,_,rfl,rfl,hl4,llt,_,_,_,rfl,fin _ ?_⟩
     rw[Jnu,JkM];simp only[h1,h2,↓reduceIte,Bool.false_eq_true];omega
    ·refine⟨_,rfl,.inl ⟨rfl,_,SqL.of hl4⟩,_,rfl,_,rfl,_,_,rfl,rfl,l,_,_,rfl,rfl,hl4,llt,_,_,_,rfl,fin _ ?_⟩
     rw[Jnu,JkM];simp only[h1,h2,↓reduceIte,Bool.false_eq_true];omega
  ·rintro σ H' ⟨v4,v5,v6,rfl,s3,hl⟩
   rw[hl1] at hl
   have hc3:=s3 _ _ hc
   have ha3:=s3 _ _ ha
   have nca:c≠a:=Q8 hc ha (by intro q;injection q with q1 q2 q3;exact absurd q3 (by intro q;simp[Jav,JlP] at q))
   refine⟨_,rfl,_,rfl,c,A.Jq,dx,_,rfl,hc3,T.JQ,T.Uf,(by show 2<1000;decide),?_⟩
   refine⟨_,rfl,_,rfl,a,A.WE,da,_,rfl,(Jh nca.symm).trans ha3,T.Q3,T.U6,(by show 4<1000;decide),?_⟩
   refine⟨_,rfl,_,rfl,a,A.WE,da,_,rfl,Jb,T.Q3,T.WJ,(by show 4<1000;decide),?_⟩
   have kb:∀{b:Addr} {o:HO},b≠c→b≠a→H' b=some o→(upd (upd (upd H' c (.ins A.Jq dx (Qg "spares" (.ref l) (Jav (.ref gp) (.ref sp))))) a (.ins A.WE da (Qg "least" (.int v) (JlP (.int e.tail) (.int e.head) (.int e.lo) (.int e.hi))))) a (.ins A.WE da (Qg "most" (.int v) (Qg "least" (.int v) (JlP (.int e.tail) (.int e.head) (.int e.lo) (.int e.hi)))))) b=some o:=fun {b o} q1 q2 e=>by rw[Jh q2,Jh q2,Jh q1];exact e
   have lt:∀{b:Addr} {o:HO},H' b=some o→(∀C d f,o≠.ins C d f)→b≠c∧b≠a:=fun {b o} e ho=>⟨Q8 e hc3 (ho _ _ _),Q8 e ha3 (ho _ _ _)⟩
   have kl:∀{b:Addr} {o:HO},H' b=some o→(∀C d f,o≠.ins C d f)→_:=fun {b o} e ho=>kb (lt e ho).1 (lt e ho).2 e
   refine k _ l (fun b o e q1 q2=>kb q1 q2 (s3 b o e)) nl ⟨⟨dx,?_⟩,⟨gs,kl (s3 _ _ hG) (by intro _ _ _ q;cases q),hglen,fun i g e=>kl (s3 _ _ (hgs i g e)) (by intro _ _ _ q;cases q)⟩,kl hl (by intro _ _ _ q;cases q)⟩
   rw[Jh nca,Jh nca,Jb];rfl
noncomputable def Jnp (A:Adr):Sp:=fun vs H Q _=>∃(q pr:Addr) (N:Vbemae.Net) (ps:List Int) (o:Vbemae.Order),vs=[.ref q,.ref pr,.int N.zones]∧Jbt A H q o∧H pr=some (.lst (ps.map V.int))∧o.zone<ps.length∧∀x H',Jg H H'→H x=none→Ya A H' x (Vbemae.orderArc N ps o)→Q (.ref x) H'
theorem JhQ {ps:List Int} {z:Nat} (h:z<ps.length):(ps.map V.int)[z]? =some (.int (Vbemae.priceAt ps z)):=by
 rw[List.getElem?_map,List.getElem?_eq_getElem h]
 unfold Vbemae.priceAt
 rw[List.getD,List.getElem?_eq_getElem h];rfl
noncomputable def Jds (ps:List Int) (o:Vbemae.Order):Int:=if o.buy=true then o.price-Vbemae.priceAt ps o.zone else Vbemae.priceAt ps o.zone-o.price
noncomputable def VU (ps:List Int) (l:Vbemae.Line):Int:=Vbemae.priceAt ps l.b-Vbemae.priceAt ps l.a
noncomputable def JlW (A:Adr):Sp:=fun vs H Q _=>∃(q pr:Addr) (ps:List Int) (o:Vbemae.Order),vs=[.ref q,.ref pr]∧Jbt A H q o∧H pr=some (.lst (ps.map V.int))∧o.zone<ps.length∧Q (.int (Jds ps o)) H
noncomputable def Jnq (A:Adr):Sp:=fun vs H Q _=>∃(q pr:Addr) (ps:List Int) (l:Vbemae.Line),vs=[.ref q,.ref pr]∧Jeb A H q l∧H pr=some (.lst (ps.map V.int))∧l.a<ps.length∧l.b<ps.length∧Q (.int (VU ps l)) H
theorem JcY (T:Txt w K mg A):JF P w K mg base CX0 1 A.Jbm A.Jad ["order","prices"] (JlW A):=by
 refine T.Jbu.F.ok Jl6 (fun vs H Q E h=>?_) (fun cdv AA outer s H vs Q E hr h=>?_)
 ·obtain⟨q,pr,ps,o,rfl,_⟩:=h
  rfl
 ·obtain⟨q,pr,ps,o,rfl,⟨dq,hO⟩,hpr,hz,k⟩:=h
  refine⟨_,(Jd (Qa (JA YX (fL K (pv 0)) (gL T.Jb3) (JJ _)) (Jf (Jl (JB U5 (fL K (pv 0)) (iL K (pv 1) (fL K (pv 0)))))) JD)
   (Jf (Jl (JB U5 (iL K (pv 1) (fL K (pv 0))) (fL K (pv 0)))))),?_⟩
  have hpz:=Jp (JhQ hz)
  unfold Jds at k
  cases hb:o.buy with
  |true=>
   rw[hb] at hO k
   refine⟨_,rfl,fld hO T.Jy T.JL rfl ⟨rfl,_,rfl,Jg3 (by decide) ?_⟩⟩
   exact⟨_,rfl,fld hO T.Jy T.QL rfl ⟨_,rfl,_,rfl,fld hO T.Jy T.Qj rfl ⟨pr,_,_,_,rfl,rfl,SqL.of hpr,hpz,_,_,rfl,rfl,k⟩⟩⟩
  |false=>
   rw[hb] at hO k
   refine⟨_,rfl,fld hO T.Jy T.JL rfl ⟨rfl,_,rfl,JjZ (by decide) ?_⟩⟩
   exact⟨_,rfl,_,rfl,fld hO T.Jy T.Qj rfl ⟨pr,_,_,_,rfl,rfl,SqL.of hpr,hpz,_,rfl,fld hO T.Jy T.QL rfl ⟨_,_,rfl,rfl,k⟩⟩⟩
theorem Ja7 (T:Txt w K mg A):JF P w K mg base CX0 1 A.JcL A.Jbe ["line","prices"] (Jnq A):=by
 refine T.JaS.F.ok Jnw (fun vs H Q E h=>?_) (fun cdv AA outer s H vs Q E hr h=>?_)
 ·obtain⟨q,pr,ps,l,rfl,_⟩:=h
  rfl
 ·obtain⟨q,pr,ps,l,rfl,⟨dq,hL⟩,hpr,ha,hb,k⟩:=h
  refine⟨_,(Jf (Jl (JB U5 (iL K (pv 1) (fL K (pv 0))) (iL K (pv 1) (fL K (pv 0)))))),?_⟩
  exact⟨_,rfl,_,rfl,fld hL T.JN T.JT rfl ⟨pr,_,_,_,rfl,rfl,SqL.of hpr,Jp (JhQ hb),_,rfl,_,rfl,fld hL T.JN T.J3 rfl ⟨pr,_,_,_,rfl,rfl,SqL.of hpr,Jp (JhQ ha),_,_,rfl,rfl,k⟩⟩⟩
theorem JnS (T:Txt w K mg A):JF P w K mg base CX0 3 A.JcK A.Jbd ["order","prices","outside"] (Jnp A):=by
 refine T.Jjv.F.ok Ja5 (fun vs H Q E h=>?_) (fun cdv AA outer s H vs Q E hr h=>?_)
 ·obtain⟨q,pr,N,ps,o,rfl,_⟩:=h
  rfl
 ·obtain⟨q,pr,N,ps,o,rfl,hO0,hpr,hz,k⟩:=h
  obtain⟨dq,hO⟩:=id hO0
  refine⟨_,(Jd (sA 3 Ja5.nd (Jdo (JA YX (fL K (pv 0)) (gL T.Jb3) (JJ _)) (fL K (pv 0)) (pv 2)))
   (Jd (sA 4 Ja5.nd (Jdo (JA YX (fL K (pv 0)) (gL T.Jb3) (JJ _)) (pv 2) (fL K (pv 0))))
   (Jd (sA 5 Ja5.nd (cL (JcY T) hr T.Jbu (Ja (pv 0) (Ja (pv 1) Jc))))
   (Jd (Qa (JA JmL (pv 5) Jm (JJ _)) (Jf (Jl (mA (YY T) hr T.YT T.JmQ (Ja (pv 3) (Ja (pv 4) (Ja (fL K (pv 0)) (Ja (fL K (pv 0)) Jc))))))) JD)
   (Jd (Qa (JA Jjg (pv 5) Jm (JJ _)) (Jf (Jl (mA (YY T) hr T.YT T.JmQ (Ja (pv 3) (Ja (pv 4) (Ja Jm (Ja Jm Jc))))))) JD)
   (Jf (Jl (mA (YY T) hr T.YT T.JmQ (Ja (pv 3) (Ja (pv 4) (Ja Jm (Ja (fL K (pv 0)) Jc)))))))))))),?_⟩
  have fin:∀(tl hd lo hi:Int) (E':XK),(Vbemae.orderArc N ps o).tail=tl→((Vbemae.orderArc N ps o).head:Int)=hd→(Vbemae.orderArc N ps o).lo=lo→(Vbemae.orderArc N ps o).hi=hi→
    ∀x dx,H x=none→H dx=none→dx≠x→Jck A (.ref x::([.int tl,.int hd,.int lo,.int hi]++[])) (upd (upd H dx (.own x)) x (.ins A.WE dx [])) (fun v H2=>v=.non∧Q (.ref x) H2) E':=fun tl hd lo hi E' e1 e2 e3 e4=>
   Jpp fun x dx H' nx s' hx=>k x H' s' nx ⟨dx,by rw[hx,e1,e2,e3,e4]⟩
  cases hb:o.buy with
  |true=>
   have es:Y2 o.buy=1:=by rw[hb];rfl
   rw[es] at hO
   refine⟨_,rfl,fld hO T.Jy T.JL rfl ⟨rfl,_,rfl,Jg3 (by decide) ⟨_,rfl,fld hO T.Jy T.Qj rfl ?_⟩⟩⟩
   refine⟨_,rfl,fld hO T.Jy T.JL rfl ⟨rfl,_,rfl,Jg3 (by decide) ⟨_,rfl,?_⟩⟩⟩
   refine⟨_,rfl,_,rfl,q,pr,ps,o,rfl,hO0,hpr,hz,?_⟩
   have eg:Jds ps o=o.price-Vbemae.priceAt ps o.zone:=by unfold Jds;rw[hb];rfl
   rw[eg]
   refine⟨_,rfl,_,_,rfl,rfl,_,rfl,J4 (fun hc=>?_) (fun hc=>?_)⟩
   ·have hlt:=of_decide_eq_true hc
    refine⟨_,rfl,_,rfl,_,rfl,fld hO T.Jy T.JP rfl ⟨_,rfl,fld hO T.Jy T.JP rfl (fin _ _ _ _ _ ?_ ?_ ?_ ?_)⟩⟩
    all_goals (simp only[Vbemae.orderArc,hb,if_true];try (simp;try omega))
   ·have hge:=of_decide_eq_false hc
    refine⟨_,rfl,_,_,rfl,rfl,_,rfl,J4 (fun hd=>?_) (fun hd=>?_)⟩
    ·have hlt:=of_decide_eq_true hd
     refine⟨_,rfl,_,rfl,fin _ _ _ _ _ ?_ ?_ ?_ ?_⟩
     all_goals (simp only[Vbemae.orderArc,hb,if_true];try (simp;try omega))
    ·have hge2:=of_decide_eq_false hd
     refine⟨_,rfl,_,rfl,_,rfl,fld hO T.Jy T.JP rfl (fin _ _ _ _ _ ?_ ?_ ?_ ?_)⟩
     all_goals (simp only[Vbemae.orderArc,hb,if_true];try (simp;try omega))
  |false=>
   have es:Y2 o.buy=0:=by rw[hb];rfl
   rw[es] at hO
   refine⟨_,rfl,fld hO T.Jy T.JL rfl ⟨rfl,_,rfl,JjZ (by decide) ⟨_,rfl,?_⟩⟩⟩
   refine⟨_,rfl,fld hO T.Jy T.JL rfl ⟨rfl,_,rfl,JjZ (by decide) ⟨_,rfl,fld hO T.Jy T.Qj rfl ?_⟩⟩⟩
   refine⟨_,rfl,_,rfl,q,pr,ps,o,rfl,hO0,hpr,hz,?_⟩
   have eg:Jds ps o=Vbemae.priceAt ps o.zone-o.price:=by unfold Jds;rw[hb];rfl
   rw[eg]
   refine⟨_,rfl,_,_,rfl,rfl,_,rfl,J4 (fun hc=>?_) (fun hc=>?_)⟩
   ·have hlt:=of_decide_eq_true hc
    refine⟨_,rfl,_,rfl,_,rfl,fld hO T.Jy T.JP rfl ⟨_,rfl,fld hO T.Jy T.JP rfl (fin _ _ _ _ _ ?_ ?_ ?_ ?_)⟩⟩
    all_goals (simp only[Vbemae.orderArc,hb,Bool.false_eq_true,if_false];try (simp;try omega))
   ·have hge:=of_decide_eq_false hc
    refine⟨_,rfl,_,_,rfl,rfl,_,rfl,J4 (fun hd=>?_) (fun hd=>?_)⟩
    ·have hlt:=of_decide_eq_true hd
     refine⟨_,rfl,_,rfl,fin _ _ _ _ _ ?_ ?_ ?_ ?_⟩
     all_goals (simp only[Vbemae.orderArc,hb,Bool.false_eq_true,if_false];try (simp;try omega))
    ·have hge2:=of_decide_eq_false hd
     refine⟨_,rfl,_,rfl,_,rfl,fld hO T.Jy T.JP rfl (fin _ _ _ _ _ ?_ ?_ ?_ ?_)⟩
     all_goals (simp only[Vbemae.orderArc,hb,Bool.false_eq_true,if_false];try (simp;try omega))
noncomputable def JoI (A:Adr):Sp:=fun vs H Q _=>∃(q pr:Addr) (ps:List Int) (l:Vbemae.Line),vs=[.ref q,.ref pr]∧Jeb A H q l∧H pr=some (.lst (ps.map V.int))∧l.a<ps.length∧l.b<ps.length∧∀x H',Jg H H'→H x=none→Ya A H' x (Vbemae.lineArc ps l)→Q (.ref x) H'
theorem Jpf (T:Txt w K mg A):JF P w K mg base CX0 3 A.Jd4 A.Jcy ["line","prices"] (JoI A):=by
 refine T.JlM.F.ok Ji4 (fun vs H Q E h=>?_) (fun cdv AA outer s H vs Q E hr h=>?_)
 ·obtain⟨q,pr,ps,l,rfl,_⟩:=h
  rfl
 ·obtain⟨q,pr,ps,l,rfl,hL0,hpr,ha,hb,k⟩:=h
  obtain⟨dq,hL⟩:=id hL0
  refine⟨_,(Jd (sA 2 Ji4.nd (cL (Ja7 T) hr T.JaS (Ja (pv 0) (Ja (pv 1) Jc))))
   (Jd (Qa (JA JmL (pv 2) Jm (JJ _)) (Jf (Jl (mA (YY T) hr T.YT T.JmQ (Ja (fL K (pv 0)) (Ja (fL K (pv 0)) (Ja (fL K (pv 0)) (Ja (fL K (pv 0)) Jc))))))) JD)
   (Jd (Qa (JA Jjg (pv 2) Jm (JJ _)) (Jf (Jl (mA (YY T) hr T.YT T.JmQ (Ja (fL K (pv 0)) (Ja (fL K (pv 0)) (Ja (Jjf JeG (fL K (pv 0))) (Ja (Jjf JeG (fL K (pv 0))) Jc))))))) JD)
   (Jf (Jl (mA (YY T) hr T.YT T.JmQ (Ja (fL K (pv 0)) (Ja (fL K (pv 0)) (Ja (Jjf JeG (fL K (pv 0))) (Ja (fL K (pv 0)) Jc)))))))))),?_⟩
  have fin:∀(lo hi:Int) (E':XK),Vbemae.lineArc ps l=⟨l.a,l.b,lo,hi,true⟩→
    ∀x dx,H x=none→H dx=none→dx≠x→Jck A (.ref x::([.int l.a,.int l.b,.int lo,.int hi]++[])) (upd (upd H dx (.own x)) x (.ins A.WE dx [])) (fun v H2=>v=.non∧Q (.ref x) H2) E':=fun lo hi E' e1=>
   Jpp fun x dx H' nx s' hx=>k x H' s' nx ⟨dx,by rw[hx,e1]⟩
  refine⟨_,rfl,_,rfl,q,pr,ps,l,rfl,hL0,hpr,ha,hb,?_⟩
  refine⟨_,rfl,_,_,rfl,rfl,_,rfl,J4 (fun hc=>?_) (fun hc=>?_)⟩
  ·have hlt:Vbemae.priceAt ps l.a<Vbemae.priceAt ps l.b:=by have:=of_decide_eq_true hc;unfold VU at this;omega
   refine⟨_,rfl,fld hL T.JN T.J3 rfl ⟨_,rfl,fld hL T.JN T.JT rfl ⟨_,rfl,fld hL T.JN T.Qk rfl ⟨_,rfl,fld hL T.JN T.Qk rfl (fin _ _ _ ?_)⟩⟩⟩⟩
   unfold Vbemae.lineArc;rw[if_pos hlt]
  ·have hge:¬Vbemae.priceAt ps l.a<Vbemae.priceAt ps l.b:=by have:=of_decide_eq_false hc;unfold VU at this;omega
   refine⟨_,rfl,_,_,rfl,rfl,_,rfl,J4 (fun hd=>?_) (fun hd=>?_)⟩
   ·have hlt:Vbemae.priceAt ps l.b<Vbemae.priceAt ps l.a:=by have:=of_decide_eq_true hd;unfold VU at this;omega
    refine⟨_,rfl,fld hL T.JN T.J3 rfl ⟨_,rfl,fld hL T.JN T.JT rfl ⟨_,rfl,fld hL T.JN T.Qq rfl ⟨_,rfl,_,rfl,fld hL T.JN T.Qq rfl ⟨_,rfl,fin _ _ _ ?_⟩⟩⟩⟩⟩
    unfold Vbemae.lineArc;rw[if_neg hge,if_pos hlt]
   ·have hge2:¬Vbemae.priceAt ps l.b<Vbemae.priceAt ps l.a:=by have:=of_decide_eq_false hd;unfold VU at this;omega
    refine⟨_,rfl,fld hL T.JN T.J3 rfl ⟨_,rfl,fld hL T.JN T.JT rfl ⟨_,rfl,fld hL T.JN T.Qq rfl ⟨_,rfl,_,rfl,fld hL T.JN T.Qk rfl (fin _ _ _ ?_)⟩⟩⟩⟩
    unfold Vbemae.lineArc;rw[if_neg hge,if_neg hge2]
end
end Zm
namespace Zm
open PySem PySem.Spec PyProof.Rows L2
noncomputable def fxs (z:Nat) (F0 l tl:List Vbemae.Arc):Nat→List Vbemae.Arc×List Int
 |0=>(F0,[])
 |i+1=>match l[i]? with
  |some e=>(Vr e (Vbemae.choose z ((fxs z F0 l tl i).1++(l.drop (i+1)++tl)) e)::(fxs z F0 l tl i).1,(fxs z F0 l tl i).2++[Vbemae.choose z ((fxs z F0 l tl i).1++(l.drop (i+1)++tl)) e])
  |none=>fxs z F0 l tl i
theorem Jdt {z:Nat} {F0 l tl:List Vbemae.Arc} {i:Nat} {e:Vbemae.Arc} (h:l[i]? =some e):
  fxs z F0 l tl (i+1)=(Vr e (Vbemae.choose z ((fxs z F0 l tl i).1++(l.drop (i+1)++tl)) e)::(fxs z F0 l tl i).1,(fxs z F0 l tl i).2++[Vbemae.choose z ((fxs z F0 l tl i).1++(l.drop (i+1)++tl)) e]):=by
 show(match l[i]? with|some e=>_|none=>_)=_
 rw[h]
theorem JfW {α:Type} {l:List α} {i:Nat} {e:α} (h:l[i]? =some e):l.drop i=e::l.drop (i+1):=by
 obtain⟨hi,rfl⟩:=List.getElem?_eq_some_iff.mp h
 exact List.drop_eq_getElem_cons hi
theorem JlA (z:Nat) (F0 l tl:List Vbemae.Arc):∀i,i≤l.length→Vbemae.assign z F0 (l++tl)=(fxs z F0 l tl i).2++Vbemae.assign z (fxs z F0 l tl i).1 (l.drop i++tl):=by
 intro i
 induction i with
 |zero=>intro _;rfl
 |succ i ih=>
  intro hi
  have he:l[i]? =some l[i]:=List.getElem?_eq_getElem (by omega)
  rw[ih (by omega),Jdt he,JfW he,List.cons_append]
  show _++(_::Vbemae.assign z _ _)=(_++[_])++_
  rw[List.append_assoc]
  rfl
theorem JqQ {z:Nat} {F0 l tl:List Vbemae.Arc} (G:Uq z (F0++(l++tl))):∀i,i≤l.length→Uq z ((fxs z F0 l tl i).1++(l.drop i++tl)):=by
 intro i
 induction i with
 |zero=>intro _;exact G
 |succ i ih=>
  intro hi
  have he:l[i]? =some l[i]:=List.getElem?_eq_getElem (by omega)
  have G1:=ih (by omega)
  rw[JfW he,List.cons_append] at G1
  rw[Jdt he]
  exact(Jrw G1).2
theorem JrJ (z:Nat) (F0 l tl:List Vbemae.Arc):∀i,(fxs z F0 l tl i).2.length≤i:=by
 intro i
 induction i with
 |zero=>exact Nat.le_refl _
 |succ i ih=>
  cases h:l[i]? with
  |none=>
   have e:fxs z F0 l tl (i+1)=fxs z F0 l tl i:=by
    show(match l[i]? with|some e=>_|none=>_)=_
    rw[h]
   rw[e];exact Nat.le_succ_of_le ih
  |some e=>rw[Jdt h,List.length_append];exact Nat.succ_le_succ ih
theorem JpN {A:Adr} {H:Hp} {c a:Addr} {gp sp:Addr} {m:Nat} {es:List Vbemae.Arc} {e:Vbemae.Arc} (C:WP A H c gp sp m es) (h:Ya A H a e):a≠c:=by
 obtain⟨dx,hc⟩:=C.obj
 obtain⟨da,ha⟩:=h
 exact Q8 ha hc (by intro q;injection q with q1 q2 q3;exact absurd q3 (by intro q;simp[Jav,JlP] at q))
theorem WP.put {A:Adr} {H:Hp} {c gp sp l:Addr} {m:Nat} {es:List Vbemae.Arc} {x y:List V} (C:WP A H c gp sp m es) (hl:H l=some (.lst x)) (n1:gp≠l) (n2:sp≠l):WP A (upd H l (.lst y)) c gp sp m es:=by
 obtain⟨dx,hc⟩:=C.obj
 obtain⟨gs,hG,h2,h3⟩:=C.grp
 refine⟨⟨dx,by rw[Jh (Q8 hc hl (by intro q;cases q))];exact hc⟩,⟨gs,by rw[Jh n1];exact hG,h2,fun k g e=>?_⟩,by rw[Jh n2];exact C.spr⟩
 rw[Jh (Q8 (h3 k g e) hl (by intro q;cases q))];exact h3 k g e
structure Jne (A:Adr) (H:Hp) (c gp sp ap:Addr) (z:Nat) (F0 l tl:List Vbemae.Arc) (as:List Addr):Prop where
 circ:WP A H c gp sp (z+1) (F0++(l++tl))
 lst:H ap=some (.lst (as.map V.ref))
 arcs:Q5 (Ya A H) as l
 nd:as.Nodup
 ok:Uq z (F0++(l++tl))
 z6:z≤6
 short:l.length≤64
structure Jjs (A:Adr) (H H':Hp) (c gp sp lr:Addr) (z:Nat) (F0 l tl:List Vbemae.Arc) (as:List Addr) (i:Nat):Prop where
 circ:WP A H' c gp sp (z+1) ((fxs z F0 l tl i).1++(l.drop i++tl))
 arcs:∀j a e,i≤j→as[j]? =some a→l[j]? =some e→Ya A H' a e
 keep:∀b o,H b=some o→b≠c→b∉as→H' b=some o
 out:H' lr=some (.lst ((fxs z F0 l tl i).2.map V.int))
 nsp:sp≠lr
theorem Jjs.next {A:Adr} {H H' H1 H2:Hp} {c gp sp sp2 lr q:Addr} {z:Nat} {F0 l tl:List Vbemae.Arc} {as:List Addr} {i:Nat} {e:Vbemae.Arc} (R:Jjs A H H' c gp sp lr z F0 l tl as i) (I:Jne A H c gp sp0 ap z F0 l tl as) (hq:as[i]? =some q) (he:l[i]? =some e) (nlr:H lr=none)
  (s1:Jg H' H1) (k2:∀b o,H1 b=some o→b≠c→b≠q→H2 b=some o) (n2:H1 sp2=none) (C2:WP A H2 c gp sp2 (z+1) (Vr e (Vbemae.choose z ((fxs z F0 l tl i).1++(l.drop (i+1)++tl)) e)::((fxs z F0 l tl i).1++(l.drop (i+1)++tl)))):
  H2 lr=some (.lst ((fxs z F0 l tl i).2.map V.int))∧Jjs A H (upd H2 lr (.lst ((fxs z F0 l tl i).2.map V.int++[.int (Vbemae.choose z ((fxs z F0 l tl i).1++(l.drop (i+1)++tl)) e)]))) c gp sp2 lr z F0 l tl as (i+1):=by
 have C1:=R.circ.same s1
 have hA1:=(R.arcs i q e (Nat.le_refl _) hq he).same s1
 obtain⟨dc,hc1⟩:=C1.obj
 obtain⟨dq,hq1⟩:=id hA1
 have hlr1:=s1 _ _ R.out
 have l1:lr≠c:=Q8 hlr1 hc1 (by intro z;cases z)
 have l2:lr≠q:=Q8 hlr1 hq1 (by intro z;cases z)
 have hlr2:=k2 _ _ hlr1 l1 l2
 have gl:gp≠lr:=by
  obtain⟨gs,hG,_⟩:=I.circ.grp
  exact Jn hG nlr
 refine⟨hlr2,?_,fun j a e' hj ha he'=>?_,fun b o eb hb hbs=>?_,?_,?_⟩
 ·have:=C2.put (y:=(fxs z F0 l tl i).2.map V.int++[.int (Vbemae.choose z ((fxs z F0 l tl i).1++(l.drop (i+1)++tl)) e)]) hlr2 gl (fun e=>by rw[e,hlr1] at n2;cases n2)
  rw[Jdt he]
  exact this
 ·obtain⟨da,h⟩:=R.arcs j a e' (by omega) ha he'
  have h1:=s1 _ _ h
  have n1:a≠c:=JpN C1 ⟨da,h1⟩
  have n3:a≠q:=fun x=>by
   subst x
   have:=JwS I.nd ha hq
   omega
  refine⟨da,?_⟩
  rw[Jh (Q8 (k2 _ _ h1 n1 n3) hlr2 (by intro z;cases z))]
  exact k2 _ _ h1 n1 n3
 ·rw[Jh (Jn eb nlr)]
  exact k2 _ _ (s1 _ _ (R.keep b o eb hb hbs)) hb fun x=>hbs (x▸List.mem_of_getElem? hq)
 ·rw[Jb,Jdt he,List.map_append];rfl
 ·exact fun e=>by rw[e,hlr1] at n2;cases n2
noncomputable def Jvx (A:Adr) (ln:Bool):Sp:=fun vs H Q _=>∃(c gp sp ap:Addr) (z:Nat) (F0 l tl:List Vbemae.Arc) (as:List Addr),vs=[.ref c,.ref ap]∧Jne A H c gp sp ap z F0 l tl as∧(∀e∈l,e.line=ln)∧
 ∀(lr sp':Addr) (H':Hp),H lr=none→Jjs A H H' c gp sp' lr z F0 l tl as l.length→Q (.ref lr) H'
section
variable {P:Program} {w:World} {K:PySem.W.Frag} {mg:Str→Option Value} {base:Heap} {A:Adr}
theorem JmI {A:Adr} {H:Hp} {c gp sp ap lr:Addr} {z:Nat} {F0 l tl:List Vbemae.Arc} {as:List Addr} (I:Jne A H c gp sp ap z F0 l tl as) (n:H lr=none):Jjs A H (upd H lr (.lst [])) c gp sp lr z F0 l tl as 0:=by
 have s:=Jj (o:=.lst []) n
 exact⟨I.circ.same s,fun j a e _ ha he=>(I.arcs.at_ j a e ha he).same s,fun b o e _ _=>s b o e,Jb,Jn I.circ.spr n⟩
theorem Jtn {A:Adr} {H H':Hp} {c gp sp sp' ap lr:Addr} {z:Nat} {F0 l tl:List Vbemae.Arc} {as:List Addr} {i:Nat} (I:Jne A H c gp sp ap z F0 l tl as) (R:Jjs A H H' c gp sp' lr z F0 l tl as i):H' ap=some (.lst (as.map V.ref)):=by
 obtain⟨dc,hc⟩:=I.circ.obj
 refine R.keep _ _ I.lst (Q8 I.lst hc (by intro z;cases z)) fun hm=>?_
 obtain⟨j,hj,e⟩:=List.getElem_of_mem hm
 obtain⟨x,hx,d,h⟩:=I.arcs.get (List.getElem?_eq_getElem hj)
 rw[e] at h
 rw[I.lst] at h;cases h
theorem JhK (T:Txt w K mg A):JF P w K mg base CX0 4 A.W5 A.Wx ["circulation","arcs"] (Jvx A false):=by
 refine T.JdE.F.ok Wp (fun vs H Q E h=>?_) (fun cdv AA outer s H vs Q E hr h=>?_)
 ·obtain⟨c,gp,sp,ap,z,F0,l,tl,as,rfl,_⟩:=h
  rfl
 ·obtain⟨c,gp,sp,ap,z,F0,l,tl,as,rfl,I,hln,k⟩:=h
  refine⟨_,(Jd (sA 2 Wp.nd (Js Jc))
   (Jd (U3 PassesOwn.never rfl (Qi (pv 1)) (gA 3 Wp.nd)
   (Jd (sA 4 Wp.nd (Vc (pv 0) T.JQ T.QE.me (Vf T) (hr.mono (by decide)) T.QE.b .nil JbJ (Ja (pv 3) Jc)))
   (Jd (U4 (Vc (pv 0) T.JQ T.QO.me (VT T) (hr.mono (by decide)) T.QO.b .nil JbJ (Ja (pv 3) (Ja (pv 4) Jc))))
   (Jf (U4 (Jdp PySem.F.plainAttrs_list PySem.F.slot_list_append PySem.F.type_list_append Wm (pv 2) (Ja (pv 4) Jc)))))))
   (Jf (Jl (pv 2))))),?_⟩
  refine⟨Nat.zero_le _,fun lr nlr=>?_⟩
  have hll:(as.map V.ref).length=l.length:=by rw[List.length_map,I.arcs.len]
  refine⟨_,rfl,ap,rfl,⟨_,SqL.of (Jj nlr _ _ I.lst)⟩,JaN (K:=K) (a:=ap) (xs:=as.map V.ref) (fun i σ H'=>∃v3 v4 sp',σ=[some (.ref c),some (.ref ap),some (.ref lr),v3,v4]∧Jjs A H H' c gp sp' lr z F0 l tl as i) ⟨none,none,sp,rfl,JmI I nlr⟩ (fun i σ H' _ ⟨_,_,_,_,R⟩=>SqL.of (Jtn I R)) ?_ ?_⟩
  ·rintro i x σ H' hi ⟨v3,v4,sp',rfl,R⟩
   obtain⟨q,hq,rfl⟩:=J1 hi
   obtain⟨e,he,_⟩:=I.arcs.get hq
   have hil:i<l.length:=(List.getElem?_eq_some_iff.mp he).1
   have hA:=R.arcs i q e (Nat.le_refl _) hq he
   obtain⟨dc,hc⟩:=R.circ.obj
   have perm:((fxs z F0 l tl i).1++(l.drop i++tl)).Perm (e::((fxs z F0 l tl i).1++(l.drop (i+1)++tl))):=by rw[JfW he,List.cons_append];exact List.perm_middle
   have okA:=JqQ I.ok i (by omega)
   have oke:JlD z e:=okA.all e (perm.mem_iff.mpr List.mem_cons_self)
   refine⟨_,rfl,c,dc,_,rfl,hc,rfl,_,rfl,c,gp,sp',q,z,_,_,e,rfl,R.circ,hA,perm,oke,I.z6,fun H1 s1=>?_⟩
   have ev:Vbemae.most z ((fxs z F0 l tl i).1++(l.drop (i+1)++tl)) e=Vbemae.choose z ((fxs z F0 l tl i).1++(l.drop (i+1)++tl)) e:=by
    unfold Vbemae.choose;rw[if_neg (by rw[hln e (List.mem_of_getElem? he)];decide)]
   rw[ev]
   refine⟨_,rfl,c,dc,_,rfl,s1 _ _ hc,rfl,_,rfl,_,rfl,c,gp,sp',q,z,_,_,e,_,rfl,R.circ.same s1,hA.same s1,perm,oke,I.z6,fun H2 sp2 k2 n2 C2=>?_⟩
   obtain⟨hlr2,R2⟩:=R.next I hq he nlr s1 k2 n2 C2
   refine⟨_,rfl,.inl ⟨rfl,_,SqL.of hlr2⟩,_,rfl,lr,_,_,rfl,rfl,hlr2,?_,_,_,sp2,rfl,R2⟩
   rw[List.length_map]
   exact Nat.lt_of_le_of_lt (JrJ z F0 l tl i) (Nat.lt_of_lt_of_le hil (Nat.le_trans I.short (by decide)))
  ·rintro σ H' ⟨v3,v4,sp',rfl,R⟩
   rw[hll] at R
   exact⟨_,rfl,k lr sp' H' nlr R⟩
theorem Jc0 (T:Txt w K mg A):JF P w K mg base CX0 4 A.QR A.QJ ["circulation","arcs"] (Jvx A true):=by
 refine T.Y0.F.ok QI (fun vs H Q E h=>?_) (fun cdv AA outer s H vs Q E hr h=>?_)
 ·obtain⟨c,gp,sp,ap,z,F0,l,tl,as,rfl,_⟩:=h
  rfl
 ·obtain⟨c,gp,sp,ap,z,F0,l,tl,as,rfl,I,hln,k⟩:=h
  refine⟨_,(Jd (sA 2 QI.nd (Js Jc))
   (Jd (U3 PassesOwn.never rfl (Qi (pv 1)) (gA 3 QI.nd)
   (Jd (sA 4 QI.nd (JV (JiM rfl) (by rfl) T.Jly PyProof.Rows.boot_min (Ja (JV (Jdx rfl) (by rfl) T.Jg9 PyProof.Rows.boot_max (Ja Jm (Ja (Vc (pv 0) T.JQ T.WO.me (JeC T) (hr.mono (by decide)) T.WO.b .nil JbJ (Ja (pv 3) Jc)) Jc))) (Ja (Vc (pv 0) T.JQ T.QE.me (Vf T) (hr.mono (by decide)) T.QE.b .nil JbJ (Ja (pv 3) Jc)) Jc))))
   (Jd (U4 (Vc (pv 0) T.JQ T.QO.me (VT T) (hr.mono (by decide)) T.QO.b .nil JbJ (Ja (pv 3) (Ja (pv 4) Jc))))
   (Jf (U4 (Jdp PySem.F.plainAttrs_list PySem.F.slot_list_append PySem.F.type_list_append Wm (pv 2) (Ja (pv 4) Jc)))))))
   (Jf (Jl (pv 2))))),?_⟩
  refine⟨Nat.zero_le _,fun lr nlr=>?_⟩
  have hll:(as.map V.ref).length=l.length:=by rw[List.length_map,I.arcs.len]
  refine⟨_,rfl,ap,rfl,⟨_,SqL.of (Jj nlr _ _ I.lst)⟩,JaN (K:=K) (a:=ap) (xs:=as.map V.ref) (fun i σ H'=>∃v3 v4 sp',σ=[some (.ref c),some (.ref ap),some (.ref lr),v3,v4]∧Jjs A H H' c gp sp' lr z F0 l tl as i) ⟨none,none,sp,rfl,JmI I nlr⟩ (fun i σ H' _ ⟨_,_,_,_,R⟩=>SqL.of (Jtn I R)) ?_ ?_⟩
  ·rintro i x σ H' hi ⟨v3,v4,sp',rfl,R⟩
   obtain⟨q,hq,rfl⟩:=J1 hi
   obtain⟨e,he,_⟩:=I.arcs.get hq
   have hil:i<l.length:=(List.getElem?_eq_some_iff.mp he).1
   have hA:=R.arcs i q e (Nat.le_refl _) hq he
   obtain⟨dc,hc⟩:=R.circ.obj
   have perm:((fxs z F0 l tl i).1++(l.drop i++tl)).Perm (e::((fxs z F0 l tl i).1++(l.drop (i+1)++tl))):=by rw[JfW he,List.cons_append];exact List.perm_middle
   have okA:=JqQ I.ok i (by omega)
   have oke:JlD z e:=okA.all e (perm.mem_iff.mpr List.mem_cons_self)
   refine⟨_,rfl,c,dc,_,rfl,hc,rfl,_,rfl,c,gp,sp',q,z,_,_,e,rfl,R.circ,hA,perm,oke,I.z6,fun H0 s0=>⟨_,_,rfl,?_⟩⟩
   refine⟨_,rfl,c,dc,_,rfl,s0 _ _ hc,rfl,_,rfl,c,gp,sp',q,z,_,_,e,rfl,R.circ.same s0,hA.same s0,perm,oke,I.z6,fun H1 s01=>⟨_,_,rfl,?_⟩⟩
   have s1:=s0.trans s01
   have ev:(if Vbemae.most z ((fxs z F0 l tl i).1++(l.drop (i+1)++tl)) e<(if Vbemae.least z ((fxs z F0 l tl i).1++(l.drop (i+1)++tl)) e>0 then Vbemae.least z ((fxs z F0 l tl i).1++(l.drop (i+1)++tl)) e else 0) then Vbemae.most z ((fxs z F0 l tl i).1++(l.drop (i+1)++tl)) e else(if Vbemae.least z ((fxs z F0 l tl i).1++(l.drop (i+1)++tl)) e>0 then Vbemae.least z ((fxs z F0 l tl i).1++(l.drop (i+1)++tl)) e else 0))=Vbemae.choose z ((fxs z F0 l tl i).1++(l.drop (i+1)++tl)) e:=by
    have G1:Uq z (e::((fxs z F0 l tl i).1++(l.drop (i+1)++tl))):=okA.perm perm
    rw[JsN G1]
    unfold Joe
    rw[if_pos (hln e (List.mem_of_getElem? he))]
    generalize Vbemae.most z ((fxs z F0 l tl i).1++(l.drop (i+1)++tl)) e=a
    generalize Vbemae.least z ((fxs z F0 l tl i).1++(l.drop (i+1)++tl)) e=b
    omega
   rw[ev]
   refine⟨_,rfl,c,dc,_,rfl,s1 _ _ hc,rfl,_,rfl,_,rfl,c,gp,sp',q,z,_,_,e,_,rfl,R.circ.same s1,hA.same s1,perm,oke,I.z6,fun H2 sp2 k2 n2 C2=>?_⟩
   obtain⟨hlr2,R2⟩:=R.next I hq he nlr s1 k2 n2 C2
   refine⟨_,rfl,.inl ⟨rfl,_,SqL.of hlr2⟩,_,rfl,lr,_,_,rfl,rfl,hlr2,?_,_,_,sp2,rfl,R2⟩
   rw[List.length_map]
   exact Nat.lt_of_le_of_lt (JrJ z F0 l tl i) (Nat.lt_of_lt_of_le hil (Nat.le_trans I.short (by decide)))
  ·rintro σ H' ⟨v3,v4,sp',rfl,R⟩
   rw[hll] at R
   exact⟨_,rfl,k lr sp' H' nlr R⟩
end
end Zm
namespace Zm
open PySem PySem.Spec PyProof.Rows L2
noncomputable def JpP (A:Adr) (H:Hp) (q:Addr) (O:Vbemae.Outcome):Prop:=∃dx l1 l2 l3,H q=some (.ins A.Qw dx (JiX (.ref l1) (.ref l2) (.ref l3)))∧H l1=some (.lst (O.prices.map V.int))∧H l2=some (.lst (O.shares.map V.int))∧H l3=some (.lst (O.flows.map V.int))
theorem JpP.same {A:Adr} {H H':Hp} {q:Addr} {O:Vbemae.Outcome} (s:Jg H H') (h:JpP A H q O):JpP A H' q O:=let⟨dx,l1,l2,l3,a,b,c,d⟩:=h;⟨dx,l1,l2,l3,s _ _ a,s _ _ b,s _ _ c,s _ _ d⟩
noncomputable def JjI (A:Adr):Sp:=fun vs H Q _=>∃(p:Addr) (N:Vbemae.Net),vs=[.ref p]∧UI A H p N∧QN N∧∀q H',Jg H H'→JpP A H' q (Vbemae.cleared N)→Q (.ref q) H'
noncomputable def JfG (A:Adr) (H1:Hp) (es:List Vbemae.Arc) (i:Nat) (H:Hp) (acc:List V):Prop:=∃as:List Addr,acc=as.map V.ref∧as.length=i∧as.Nodup∧(∀a∈as,H1 a=none)∧∀(j:Nat) a e,as[j]? =some a→es[j]? =some e→Ya A H a e
theorem JfG.nil {A:Adr} {H1 H:Hp} {es:List Vbemae.Arc}:JfG A H1 es 0 H []:=⟨[],rfl,rfl,List.nodup_nil,fun a h=>by simp at h,fun j a e h=>by simp at h⟩
theorem JfG.put {A:Adr} {H1 H H4:Hp} {es:List Vbemae.Arc} {i:Nat} {acc l:List V} {D x:Addr} {e:Vbemae.Arc} (R:JfG A H1 es i H acc) (hes:i<es.length) (he:es[i]? =some e) (s1:Jg H1 H) (s:Jg H H4) (hD:H D=some (.lst l)) (nx:H x=none) (hx:Ya A H4 x e):
  JfG A H1 es (i+1) (upd H4 D (.lst (acc++[.ref x]))) (acc++[.ref x]):=by
 obtain⟨as,rfl,h2,h3,h4,h5⟩:=R
 have hD4:=s _ _ hD
 have up:∀a e,Ya A H4 a e→Ya A (upd H4 D (.lst (as.map V.ref++[.ref x]))) a e:=fun a e ⟨d,q⟩=>⟨d,by rw[Jh (Q8 q hD4 (by intro z;cases z))];exact q⟩
 have nin:x∉as:=fun hm=>by
  obtain⟨j,hj,ej⟩:=List.getElem_of_mem hm
  have hj2:j<es.length:=by omega
  obtain⟨d,q⟩:=h5 j _ _ (List.getElem?_eq_getElem hj) (List.getElem?_eq_getElem hj2)
  rw[ej,nx] at q;cases q
 refine⟨as++[x],by simp,by simp[h2],?_,fun a ha=>?_,fun j a e' ha he'=>?_⟩
 ·refine List.nodup_append.mpr ⟨h3,by simp,fun a ha b hb=>?_⟩
  rw[List.mem_singleton] at hb
  subst hb
  exact fun q=>nin (q▸ha)
 ·rcases List.mem_append.mp ha with ha|ha
  ·exact h4 a ha
  ·rw[List.mem_singleton.mp ha];exact Jg.free s1 nx
 ·rw[List.getElem?_append] at ha
  split at ha
  ·obtain⟨d,q⟩:=h5 j a e' ha he'
   exact up a e' ⟨d,s _ _ q⟩
  ·have hj:j-as.length=0:=by
    rcases Nat.eq_zero_or_pos (j-as.length) with z|z
    ·exact z
    ·rw[List.getElem?_eq_none (by simp;omega)] at ha;cases ha
   rw[hj] at ha
   have e1:x=a:=Option.some.inj ha
   have e2:j=i:=by omega
   subst e1 e2
   rw[he] at he'
   have e3:=Option.some.inj he'
   subst e3
   exact up _ _ hx
theorem Jg6 {z:Nat} {F0 l tl:List Vbemae.Arc}:∀i,i≤l.length→(fxs z F0 l tl i).2.length=i:=by
 intro i
 induction i with
 |zero=>intro _;rfl
 |succ i ih=>
  intro hi
  have he:l[i]? =some l[i]:=List.getElem?_eq_getElem (by omega)
  rw[Jdt he,List.length_append,ih (by omega)]
  rfl
theorem JgS (N:Vbemae.Net):(Vbemae.prices N).length=N.zones:=by rw[JmJ];simp
theorem Jfe (N:Vbemae.Net):let oa:=N.orders.map fun o=>Vbemae.orderArc N (Vbemae.prices N) o
  let la:=N.lines.map fun l=>Vbemae.lineArc (Vbemae.prices N) l
  Vbemae.cleared N=⟨Vbemae.prices N,(fxs N.zones [] oa la oa.length).2,(fxs N.zones (fxs N.zones [] oa la oa.length).1 la [] la.length).2⟩:=by
 intro oa la
 have e1:=JlA N.zones [] oa la oa.length (Nat.le_refl _)
 have e2:=JlA N.zones (fxs N.zones [] oa la oa.length).1 la [] la.length (Nat.le_refl _)
 rw[List.drop_length,List.nil_append] at e1
 rw[List.drop_length,List.append_nil,List.nil_append] at e2
 have e3:Vbemae.assign N.zones (fxs N.zones (fxs N.zones [] oa la oa.length).1 la [] la.length).1 []=[]:=rfl
 rw[e3,List.append_nil] at e2
 have hl:(fxs N.zones [] oa la oa.length).2.length=N.orders.length:=by rw[Jg6 _ (Nat.le_refl _)];simp[oa]
 have ev:Vbemae.assign N.zones [] (Vbemae.arcs N (Vbemae.prices N))=(fxs N.zones [] oa la oa.length).2++(fxs N.zones (fxs N.zones [] oa la oa.length).1 la [] la.length).2:=by rw[←e2];exact e1
 unfold Vbemae.cleared
 show Vbemae.Outcome.mk _ _ _=_
 rw[ev,←hl,List.take_left,List.drop_left]
noncomputable def JlX (A:Adr):Sp:=fun vs H Q _=>∃(p pr:Addr) (N:Vbemae.Net) (ps:List Int),vs=[.ref p,.ref pr]∧UI A H p N∧QN N∧H pr=some (.lst (ps.map V.int))∧ps.length=N.zones∧
 ∀D H' acc,Jg H H'→H D=none→H' D=some (.lst acc)→JfG A H (N.orders.map fun o=>Vbemae.orderArc N ps o) N.orders.length H' acc→Q (.ref D) H'
noncomputable def Jnr (A:Adr):Sp:=fun vs H Q _=>∃(p pr:Addr) (N:Vbemae.Net) (ps:List Int),vs=[.ref p,.ref pr]∧UI A H p N∧QN N∧H pr=some (.lst (ps.map V.int))∧ps.length=N.zones∧
 ∀D H' acc,Jg H H'→H D=none→H' D=some (.lst acc)→JfG A H (N.lines.map fun l=>Vbemae.lineArc ps l) N.lines.length H' acc→Q (.ref D) H'
section
variable {P:Program} {w:World} {K:PySem.W.Frag} {mg:Str→Option Value} {base:Heap} {A:Adr}
theorem Jgo (T:Txt w K mg A):JF P w K mg base CX0 4 A.Jbn A.Jae ["net","prices"] (JlX A):=by
 refine T.Jeh.F.ok JcU (fun vs H Q E h=>?_) (fun cdv AA outer s H vs Q E hr h=>?_)
 ·obtain⟨p,pr,N,ps,rfl,_⟩:=h
  rfl
 ·obtain⟨p,pr,N,ps,rfl,⟨lp,op,ls,os,hN⟩,ok,hpr,pl,k⟩:=h
  obtain⟨dx,hnet⟩:=hN.net
  have o41:=ok.o41
  refine⟨_,(Jf (Jl (WH rfl JcU.nd (Qi (fL K (pv 0))) (own:=[("order",2)]) (lK Jh5 (Je JdM) (by decide+kernel)) (fun _ _ _ _ _=>(gA 2 JcU.nd)) (fun _ _ _ _ _=>Qo) (fun _ _ _ _ _=>(cL (JnS T) hr T.Jjv (Ja (pv 2) (Ja (pv 1) (Ja (fL K (pv 0)) Jc)))))))),?_⟩
  have hos:=hN.los
  have hol:(os.map V.ref).length=N.orders.length:=by rw[List.length_map,hN.od.len]
  refine⟨_,rfl,fld hnet T.Jt T.Jv rfl ⟨op,rfl,⟨_,SqL.of hos⟩,fun D1 n1=>?_⟩⟩
  refine Ju0 (K:=K) (JfG A H (N.orders.map fun o=>Vbemae.orderArc N ps o)) (os.map V.ref).length (Itl K op) n1 JfG.nil (Ye (SqL.of hos)) (QW (SqL.of hos)) ?_ ?_
  ·intro j x H2 H3 acc hj s2 hD2 R y
   obtain⟨rfl,y⟩:=y
   obtain⟨q,hq,rfl⟩:=J1 (y _ (SqL.of (s2 _ _ hos)))
   obtain⟨o,ho,hO⟩:=hN.od.get hq
   have hz:=(ok.ok.orders o (List.mem_of_getElem? ho)).zone
   refine⟨rfl,_,rfl,_,rfl,_,rfl,fld (s2 _ _ hnet) T.Jt T.Jw rfl ⟨q,pr,N,ps,o,rfl,hO.same s2,s2 _ _ hpr,by rw[pl];exact hz,fun x H4 s4 nx hx=>⟨acc,s4 _ _ hD2,?_,Jk (s2.trans s4) n1,_,Jb,?_⟩⟩⟩
   ·obtain⟨as,rfl,h2,_⟩:=id R
    rw[List.length_map,h2]
    rw[hol] at hj;exact Nat.lt_of_lt_of_le hj (Nat.le_trans o41 (by decide))
   ·exact R.put (by rw[hol] at hj;simpa using hj) (by rw[List.getElem?_map,ho];rfl) s2 s4 hD2 nx hx
  ·intro H2 acc1 s2 hD1 R1
   rw[hol] at R1
   exact k D1 H2 acc1 s2 n1 hD1 R1
theorem JhJ (T:Txt w K mg A):JF P w K mg base CX0 4 A.JcM A.Jbf ["net","prices"] (Jnr A):=by
 refine T.Jfy.F.ok JdI (fun vs H Q E h=>?_) (fun cdv AA outer s H vs Q E hr h=>?_)
 ·obtain⟨p,pr,N,ps,rfl,_⟩:=h
  rfl
 ·obtain⟨p,pr,N,ps,rfl,⟨lp,op,ls,os,hN⟩,ok,hpr,pl,k⟩:=h
  obtain⟨dx,hnet⟩:=hN.net
  have l12:=ok.l12
  refine⟨_,(Jf (Jl (WH rfl JdI.nd (Qi (fL K (pv 0))) (own:=[("line",2)]) (lK Jju (Je JeQ) (by decide+kernel)) (fun _ _ _ _ _=>(gA 2 JdI.nd)) (fun _ _ _ _ _=>Qo) (fun _ _ _ _ _=>(cL (Jpf T) hr T.JlM (Ja (pv 2) (Ja (pv 1) Jc))))))),?_⟩
  have hls:=hN.lls
  have hll:(ls.map V.ref).length=N.lines.length:=by rw[List.length_map,hN.ln.len]
  refine⟨_,rfl,fld hnet T.Jt T.JE rfl ⟨lp,rfl,⟨_,SqL.of hls⟩,fun D2 n2=>?_⟩⟩
  refine Ju0 (K:=K) (JfG A H (N.lines.map fun l=>Vbemae.lineArc ps l)) (ls.map V.ref).length (Itl K lp) n2 JfG.nil (Ye (SqL.of hls)) (QW (SqL.of hls)) ?_ ?_
  ·intro j x H3 H4 acc hj s3 hD3 R y
   obtain⟨rfl,y⟩:=y
   obtain⟨q,hq,rfl⟩:=J1 (y _ (SqL.of (s3 _ _ hls)))
   obtain⟨l,hl,hL⟩:=hN.ln.get hq
   have okl:=ok.ok.lines l (List.mem_of_getElem? hl)
   refine⟨rfl,_,rfl,_,rfl,q,pr,ps,l,rfl,hL.same s3,s3 _ _ hpr,by rw[pl];exact okl.a,by rw[pl];exact okl.b,fun x H5 s5 nx hx=>⟨acc,s5 _ _ hD3,?_,Jk (s3.trans s5) n2,_,Jb,?_⟩⟩
   ·obtain⟨as,rfl,h2,_⟩:=id R
    rw[List.length_map,h2]
    rw[hll] at hj;exact Nat.lt_of_lt_of_le hj (Nat.le_trans l12 (by decide))
   ·exact R.put (by rw[hll] at hj;simpa using hj) (by rw[List.getElem?_map,hl];rfl) s3 s5 hD3 nx hx
  ·intro H2 acc1 s2 hD1 R1
   rw[hll] at R1
   exact k D2 H2 acc1 s2 n2 hD1 R1
theorem Qx (T:Txt w K mg A):JF P w K mg base CX0 6 A.VN A.YF ["net"] (JjI A):=by
 refine T.Qt.F.ok Ur (fun vs H Q E h=>?_) (fun cdv AA outer s H vs Q E hr h=>?_)
 ·obtain⟨p,N,rfl,_⟩:=h
  rfl
 ·obtain⟨p,N,rfl,hNI,ok,k⟩:=h
  obtain⟨lp,op,ls,os,hN⟩:=id hNI
  obtain⟨dx,hnet⟩:=hN.net
  have z6:=ok.z6
  have o41:=ok.o41
  have l12:=ok.l12
  have pl:=JgS N
  refine⟨_,(Jd (sA 1 Ur.nd (fL K (cL (JbN T) hr T.Jau (Ja (pv 0) Jc))))
   (Jd (sA 2 Ur.nd (cL (Jgo T) hr T.Jeh (Ja (pv 0) (Ja (pv 1) Jc))))
   (Jd (sA 3 Ur.nd (cL (JhJ T) hr T.Jfy (Ja (pv 0) (Ja (pv 1) Jc))))
   (Jd (sA 4 Ur.nd (mA (Jf6 T) hr T.Jch T.Jmg (Ja (JB Yd (fL K (pv 0)) Jm) (Ja (JB Q7 (pv 2) (pv 3)) Jc))))
   (Jd (sA 5 Ur.nd (cL (JhK T) hr T.JdE (Ja (pv 4) (Ja (pv 2) Jc))))
   (Jf (Jl (mA (JjX T) hr T.JfF T.Jsu (Ja (pv 1) (Ja (pv 5) (Ja (cL (Jc0 T) hr T.Y0 (Ja (pv 4) (Ja (pv 3) Jc))) Jc))))))))))),?_⟩
  refine⟨_,rfl,p,N,rfl,hNI,ok,fun pp H1 s1 hP=>?_⟩
  obtain⟨dp,q1,q2,q3,hpp,hq1,hq2,hq3⟩:=hP
  refine(fld hpp T.Jb5 T.JbQ rfl ?_)
  refine⟨_,rfl,_,rfl,p,q3,N,Vbemae.prices N,rfl,hNI.same s1,ok,hq3,pl,fun D1 H2 acc1 s2 n1 hD1 R1=>?_⟩
  obtain⟨as,rfl,ha1,ha2,ha3,ha4⟩:=R1
  have s12:=s1.trans s2
  refine⟨_,rfl,_,rfl,p,q3,N,Vbemae.prices N,rfl,hNI.same s12,ok,s2 _ _ hq3,pl,fun D2 H3 acc2 s3 n2 hD2 R2=>?_⟩
  obtain⟨bs,rfl,hb1,hb2,hb3,hb4⟩:=R2
  have s13:=s12.trans s3
  have hD1':=s3 _ _ hD1
  generalize hoa:(N.orders.map fun o=>Vbemae.orderArc N (Vbemae.prices N) o)=oa at ha4
  generalize hla:(N.lines.map fun l=>Vbemae.lineArc (Vbemae.prices N) l)=la at hb4
  have loa:oa.length=N.orders.length:=by rw[←hoa];simp
  have lla:la.length=N.lines.length:=by rw[←hla];simp
  have okA:Uq N.zones (oa++la):=by rw[←hoa,←hla];exact Jrx ok.ok
  have AO:Q5 (Ya A H3) as oa:=⟨by rw[ha1,loa],fun j a e h1 h2=>(ha4 j a e h1 h2).same s3⟩
  have AL:Q5 (Ya A H3) bs la:=⟨by rw[hb1,lla],fun j a e h1 h2=>hb4 j a e h1 h2⟩
  have dis:∀a∈as,a∉bs:=fun a h1 h2=>by
   obtain⟨j,hj,ej⟩:=List.getElem_of_mem h1
   have hj2:j<oa.length:=by omega
   obtain⟨d,q⟩:=ha4 j _ _ (List.getElem?_eq_getElem hj) (List.getElem?_eq_getElem hj2)
   have:=hb3 a h2
   rw[ej,this] at q;cases q
  have AB:Q5 (Ya A H3) (as++bs) (oa++la):=by
   refine⟨by rw[List.length_append,List.length_append,AO.len,AL.len],fun j a e h1 h2=>?_⟩
   rw[List.getElem?_append] at h1 h2
   rw[AO.len] at h1
   split at h1
   ·rename_i hlt;rw[if_pos hlt] at h2;exact AO.at_ _ _ _ h1 h2
   ·rename_i hlt;rw[if_neg hlt] at h2;exact AL.at_ _ _ _ h1 h2
  refine⟨_,rfl,fld (s13 _ _ hnet) T.Jt T.Jw rfl ⟨_,_,rfl,rfl,_,rfl,_,rfl,D1,D2,_,_,rfl,rfl,hD1',hD2,?_,fun ap nap=>?_⟩⟩
  ·rw[List.length_map,List.length_map,ha1,hb1];exact Nat.le_trans (Nat.add_le_add o41 l12) (by decide)
  have s4:Jg H3 (upd H3 ap (.lst (as.map V.ref++bs.map V.ref))):=Jj nap
  have hap:(upd H3 ap (.lst (as.map V.ref++bs.map V.ref))) ap=some (.lst ((as++bs).map V.ref)):=by rw[Jb,List.map_append]
  generalize upd H3 ap (.lst (as.map V.ref++bs.map V.ref))=H4 at s4 hap⊢
  intro c dc nc ndc nec
  have sM:∀b o,H4 b=some o→(upd (upd H4 dc (.own c)) c (.ins A.Jq dc [])) b=some o:=fun b o e=>by rw[Jh (Jn e nc),Jh (Jn e ndc)];exact e
  have cin:c∉as++bs:=fun hm=>by
   obtain⟨j,hj,ej⟩:=List.getElem_of_mem hm
   have hj2:j<(oa++la).length:=by rw[←AB.len];exact hj
   obtain⟨d,q⟩:=AB.at_ j _ _ (List.getElem?_eq_getElem hj) (List.getElem?_eq_getElem hj2)
   rw[ej] at q
   rw[s4 _ _ q] at nc;cases nc
  refine⟨c,dc,ap,N.zones+1,as++bs,oa++la,rfl,Jb,sM _ _ hap,AB.imp fun _ _ ⟨d,q⟩=>⟨d,sM _ _ (s4 _ _ q)⟩,fun e he=>⟨(okA.all e he).tail,(okA.all e he).head⟩,cin,by omega,fun H5 gp sp k5 C5=>⟨rfl,?_⟩⟩
  have s5:Jg H4 H5:=Jg.made nc ndc k5
  have s45:=s4.trans s5
  have I1:Jne A H5 c gp sp D1 N.zones [] oa la as:=⟨C5,s45 _ _ hD1',AO.imp fun _ _ q=>q.same s45,ha2,okA,z6,by omega⟩
  refine⟨_,rfl,_,rfl,c,gp,sp,D1,N.zones,[],oa,la,as,rfl,I1,?_,fun lr1 sp1 H6 nlr1 R6=>?_⟩
  ·intro e he
   rw[←hoa] at he
   obtain⟨o,_,rfl⟩:=List.mem_map.mp he
   unfold Vbemae.orderArc;dsimp only;split<;>rfl
  have hD25:=s45 _ _ hD2
  obtain⟨dcc,hc5⟩:=C5.obj
  have lst6:∀{b:Addr} {o:HO},H5 b=some o→(∀C d f,o≠.ins C d f)→H6 b=some o:=fun {b o} e ho=>by
   refine R6.keep b o e (Q8 e hc5 (ho _ _ _)) fun hm=>?_
   obtain⟨j,hj,ej⟩:=List.getElem_of_mem hm
   have hj2:j<oa.length:=by rw[←AO.len];exact hj
   obtain⟨d,q⟩:=AO.at_ j _ _ (List.getElem?_eq_getElem hj) (List.getElem?_eq_getElem hj2)
   rw[ej] at q
   rw[s45 _ _ q] at e
   exact ho _ _ _ (Option.some.inj e).symm
  have C6:WP A H6 c gp sp1 (N.zones+1) ((fxs N.zones [] oa la oa.length).1++(la++[])):=by
   have:=R6.circ
   rw[List.drop_length,List.nil_append] at this
   rw[List.append_nil];exact this
  have ok6:Uq N.zones ((fxs N.zones [] oa la oa.length).1++(la++[])):=by
   have:=JqQ (F0:=[]) (l:=oa) (tl:=la) okA oa.length (Nat.le_refl _)
   rw[List.drop_length,List.nil_append] at this
   rw[List.append_nil];exact this
  have I2:Jne A H6 c gp sp1 D2 N.zones (fxs N.zones [] oa la oa.length).1 la [] bs:=by
   refine⟨C6,lst6 hD25 (by intro _ _ _ z;cases z),⟨AL.len,fun j a e h1 h2=>?_⟩,hb2,ok6,z6,by omega⟩
   obtain⟨d,q⟩:=AL.at_ j a e h1 h2
   exact⟨d,R6.keep _ _ (s45 _ _ q) (fun x=>cin (List.mem_append_right _ (x▸List.mem_of_getElem? h1))) fun x=>dis a x (List.mem_of_getElem? h1)⟩
  refine⟨_,rfl,_,rfl,_,rfl,_,rfl,c,gp,sp1,D2,N.zones,_,la,[],bs,rfl,I2,?_,fun lr2 sp2 H7 nlr2 R7=>?_⟩
  ·intro e he
   rw[←hla] at he
   obtain⟨l,_,rfl⟩:=List.mem_map.mp he
   unfold Vbemae.lineArc;split
   ·rfl
   ·split<;>rfl
  have c0:∀b o,H3 b=some o→b≠c:=fun b o e x=>by rw[x] at e;rw[s4 _ _ e] at nc;cases nc
  have sE:Jg H H7:=fun b o e=>by
   have e1:=s1 _ _ e
   have e3:=s13 _ _ e
   have na:b∉as:=fun hm=>by rw[ha3 b hm] at e1;cases e1
   have nb:b∉bs:=fun hm=>by have:=s12 _ _ e;rw[hb3 b hm] at this;cases this
   exact R7.keep b o (R6.keep b o (s45 _ _ e3) (c0 b o e3) na) (c0 b o e3) nb
  have lst7:∀{b:Addr} {o:HO},H6 b=some o→(∀C d f,o≠.ins C d f)→H7 b=some o:=fun {b o} e ho=>by
   obtain⟨dcc,hc6⟩:=C6.obj
   refine R7.keep b o e (Q8 e hc6 (ho _ _ _)) fun hm=>?_
   obtain⟨j,hj,ej⟩:=List.getElem_of_mem hm
   have hj2:j<la.length:=by rw[←AL.len];exact hj
   obtain⟨d,q⟩:=I2.arcs.at_ j _ _ (List.getElem?_eq_getElem hj) (List.getElem?_eq_getElem hj2)
   rw[ej,e] at q
   exact ho _ _ _ (Option.some.inj q)
  have ht7:=lst7 (lst6 (s45 _ _ (s3 _ _ (s2 _ _ hq3))) (by intro _ _ _ z;cases z)) (by intro _ _ _ z;cases z)
  have hs7:=lst7 R6.out (by intro _ _ _ z;cases z)
  refine JnY fun x dx' H8 nx s8 hx=>k x H8 (sE.trans s8) ⟨dx',q3,lr1,lr2,hx,?_,?_,?_⟩
  ·exact s8 _ _ ht7
  ·have:=Jfe N
   simp only[hoa,hla] at this
   rw[this];exact s8 _ _ hs7
  ·have:=Jfe N
   simp only[hoa,hla] at this
   rw[this];exact s8 _ _ R7.out
end
end Zm
namespace Zm
open PySem PySem.Spec PyProof.Rows L2
structure Jul (N:Vbemae.Net) (O:Vbemae.Outcome):Prop where
 pl:O.prices.length=N.zones
 sl:O.shares.length=N.orders.length
 fl:O.flows.length=N.lines.length
 pb:∀z,z<N.zones→-1000000≤Vbemae.priceAt O.prices z∧Vbemae.priceAt O.prices z≤1000000
theorem JoD {N:Vbemae.Net} (ok:QN N) {z:Nat} (hz:z<N.zones):N.lo≤Vbemae.priceAt (Vbemae.prices N) z∧Vbemae.priceAt (Vbemae.prices N) z≤N.hi:=by
 rw[Qp hz]
 have a:=Jiz ok.ok Vbemae.inLeast z
 have b:=Jiz ok.ok Vbemae.inGreatest z
 have c:=JiA N Vbemae.inLeast z
 have d:=JiA N Vbemae.inGreatest z
 unfold told
 omega
theorem UG {N:Vbemae.Net} (ok:QN N):Jul N (Vbemae.cleared N):=by
 have e:=Jfe N
 refine⟨JgS N,?_,?_,fun z hz=>?_⟩
 ·rw[e];rw[Jg6 _ (Nat.le_refl _)];simp
 ·rw[e];rw[Jg6 _ (Nat.le_refl _)];simp
 ·have h:=JoD ok hz
  have h1:=ok.lo6
  have h2:=ok.hi6
  show-1000000≤Vbemae.priceAt (Vbemae.prices N) z∧_
  exact⟨by omega,by show Vbemae.priceAt (Vbemae.prices N) z≤_;omega⟩
theorem Yg {α β:Type} (f:α→β→Int) {l:List α} {r:List β} {i:Nat} {x:α} {y:β} (hx:l[i]? =some x) (hy:r[i]? =some y):Vbemae.total (List.zipWith f (l.take (i+1)) (r.take (i+1)))=Vbemae.total (List.zipWith f (l.take i) (r.take i))+f x y:=by
 obtain⟨h1,rfl⟩:=List.getElem?_eq_some_iff.mp hx
 obtain⟨h2,rfl⟩:=List.getElem?_eq_some_iff.mp hy
 rw[List.take_succ_eq_append_getElem h1,List.take_succ_eq_append_getElem h2,List.zipWith_append (by simp;omega),Ql]
 simp[Vbemae.total]
theorem Jfb {a b:Int} (h:decide (V.int a=V.int b)=true):a=b:=by have:=of_decide_eq_true h;injection this
theorem JaO {a b:Int} (h:decide (V.int a=V.int b)=false):¬a=b:=fun e=>of_decide_eq_false h (by rw[e])
theorem JfL {a b:Bool} (h:Y2 a=Y2 b):a=b:=by cases a<;>cases b<;>simp_all [Y2]
noncomputable abbrev JvC (i:Int):Prop:=-(2^64)<i∧i<2^64
theorem m64 {i:Int} (h1:-4000000≤i) (h2:i≤4000000):JvC i:=⟨Int.lt_of_lt_of_le (by decide) h1,Int.lt_of_le_of_lt h2 (by decide)⟩
noncomputable def JgG (N:Vbemae.Net) (x:List Int) (z:Nat) (b:Bool):Int:=Vbemae.overOrders N x fun o s=>if o.zone=z∧o.buy=b then s else 0
noncomputable def Jdb (A:Adr) (H:Hp) (p q:Addr) (N:Vbemae.Net) (O:Vbemae.Outcome):Prop:=UI A H p N∧QN N∧JpP A H q O∧Jul N O
noncomputable def JcT (A:Adr) (H:Hp) (p q:Addr) (N:Vbemae.Net) (x:List Int) (n:Nat):Prop:=UI A H p N∧QN N∧H q=some (.lst (x.map V.int))∧x.length=n
noncomputable def JkC (A:Adr):Sp:=fun vs H Q _=>∃(p q:Addr) (N:Vbemae.Net) (x:List Int) (z:Nat) (b:Bool),vs=[.ref p,.ref q,.int z,.int (Y2 b)]∧JcT A H p q N x N.orders.length∧∀H',Jg H H'→Q (.int (JgG N x z b)) H'
noncomputable def JkJ (A:Adr):Sp:=fun vs H Q _=>∃(p q:Addr) (N:Vbemae.Net) (x:List Int) (z:Nat),vs=[.ref p,.ref q,.int z]∧JcT A H p q N x N.lines.length∧∀H',Jg H H'→Q (.int (Vbemae.carried N x z)) H'
noncomputable def JhE (N:Vbemae.Net) (O:Vbemae.Outcome) (b:Bool):Int:=Vbemae.overOrders N O.shares fun o s=>if o.buy=b then s*Vbemae.priceAt O.prices o.zone else 0
noncomputable def Jru (N:Vbemae.Net) (x:List Int) (b:Bool):Int:=Vbemae.overOrders N x fun o s=>if o.buy=b then s*o.price else 0
noncomputable def JoG (A:Adr):Sp:=fun vs H Q _=>∃(p q:Addr) (N:Vbemae.Net) (O:Vbemae.Outcome) (b:Bool),vs=[.ref p,.ref q,.int (Y2 b)]∧Jdb A H p q N O∧∀H',Jg H H'→Q (.int (JhE N O b)) H'
noncomputable def Jno (A:Adr):Sp:=fun vs H Q _=>∃(p q:Addr) (N:Vbemae.Net) (x:List Int) (b:Bool),vs=[.ref p,.ref q,.int (Y2 b)]∧JcT A H p q N x N.orders.length∧∀H',Jg H H'→Q (.int (Jru N x b)) H'
noncomputable def Jhn (A:Adr):Sp:=fun vs H Q _=>∃(p q:Addr) (N:Vbemae.Net) (x:List Int),vs=[.ref p,.ref q]∧JcT A H p q N x N.orders.length∧∀H',Jg H H'→Q (.int (Vbemae.welfare N x)) H'
noncomputable def WQ (N:Vbemae.Net) (O:Vbemae.Outcome):List Int:=List.zipWith (Vbemae.surplusOf O.prices) N.orders O.shares
noncomputable def Jqd (N:Vbemae.Net) (O:Vbemae.Outcome) (b:Bool):Int:=Vbemae.overOrders N O.shares fun o s=>if o.buy=b then Vbemae.surplusOf O.prices o s else 0
noncomputable def JgM (A:Adr):Sp:=fun vs H Q _=>∃(p q:Addr) (N:Vbemae.Net) (O:Vbemae.Outcome),vs=[.ref p,.ref q]∧Jdb A H p q N O∧∀l H',Jg H H'→H l=none→H' l=some (.lst ((WQ N O).map V.int))→Q (.ref l) H'
noncomputable def JjD (A:Adr):Sp:=fun vs H Q _=>∃(p q:Addr) (N:Vbemae.Net) (O:Vbemae.Outcome) (b:Bool),vs=[.ref p,.ref q,.int (Y2 b)]∧Jdb A H p q N O∧∀H',Jg H H'→Q (.int (Jqd N O b)) H'
noncomputable def JlZ (A:Adr):Sp:=fun vs H Q _=>∃(p q:Addr) (N:Vbemae.Net) (O:Vbemae.Outcome),vs=[.ref p,.ref q]∧Jdb A H p q N O∧∀l H',Jg H H'→H l=none→H' l=some (.lst ((Vbemae.rents N O.prices O.flows).map V.int))→Q (.ref l) H'
theorem JcT.same {A:Adr} {H H':Hp} {p q:Addr} {N:Vbemae.Net} {x:List Int} {n:Nat} (s:Jg H H') (h:JcT A H p q N x n):JcT A H' p q N x n:=⟨h.1.same s,h.2.1,s _ _ h.2.2.1,h.2.2.2⟩
theorem Jdb.same {A:Adr} {H H':Hp} {p q:Addr} {N:Vbemae.Net} {O:Vbemae.Outcome} (s:Jg H H') (h:Jdb A H p q N O):Jdb A H' p q N O:=⟨h.1.same s,h.2.1,h.2.2.1.same s,h.2.2.2⟩
theorem JrI {N:Vbemae.Net} {ps:List Int} {o:Vbemae.Order} (ok:QN N) (oo:JrT N o) (pb:-1000000≤Vbemae.priceAt ps o.zone∧Vbemae.priceAt ps o.zone≤1000000):-4000000≤Jds ps o∧Jds ps o≤4000000:=by
 have e1:=oo.lo
 have e2:=oo.hi
 have e3:=ok.lo6
 have e4:=ok.hi6
 unfold Jds
 split<;>omega
theorem Jga {α:Type} (f g h:α→Int→Int) (e:∀a b,f a b=g a b-h a b):∀(l:List α) (r:List Int),Vbemae.total (List.zipWith f l r)=Vbemae.total (List.zipWith g l r)-Vbemae.total (List.zipWith h l r)
 |[],_=>rfl
 |_::_,[]=>rfl
 |a::l,b::r=>by simp only[List.zipWith_cons_cons,JG,Jga f g h e l r,e];omega
theorem Joz (N:Vbemae.Net) (x:List Int):Vbemae.welfare N x=Jru N x true-Jru N x false:=by
 unfold Vbemae.welfare Jru Vbemae.overOrders
 exact Jga _ _ _ (fun o s=>by cases o.buy<;>simp[Int.mul_comm]) _ _
section
variable {P:Program} {w:World} {K:PySem.W.Frag} {mg:Str→Option Value} {base:Heap} {A:Adr}
theorem Vd (T:Txt w K mg A):JF P w K mg base CX0 1 A.Jak A.Vs ["net","shares","zone","side"] (JkC A):=by
 refine T.Yn.F.ok WF (fun vs H Q E h=>?_) (fun cdv AA outer s H vs Q E hr h=>?_)
 ·obtain⟨p,q,N,x,z,b,rfl,_⟩:=h
  rfl
 ·obtain⟨p,l2,N,xs,z,b,rfl,⟨⟨lp,op,ls,os,hN⟩,ok,h2,xl⟩,k⟩:=h
  obtain⟨dx,hnet⟩:=hN.net
  refine⟨_,(Jd (sA 4 WF.nd Jm)
   (Jd (U3 PassesOwn.never rfl (Uu ZZ.Knd.lst ZZ.Knd.lst K rfl (by rfl) T.WK (Ja (fL K (pv 0)) (Ja (pv 1) Jc))) (gB K (Jx (gA 5 WF.nd) (Jx (gA 6 WF.nd) QQ)))
   (Jf (Qa (Jqt (JA YX (fL K (pv 5)) (pv 2) (JJ _)) (JnN (JA YX (fL K (pv 5)) (pv 3) (JJ _)))).pt (Jf (JeV (i:=4) WF.nd rfl (Or.inl rfl) (pv 6) Jg4)) JD)))
   (Jf (Jl (pv 4))))),?_⟩
  have hl:(os.map V.ref).length=(xs.map V.int).length:=by rw[List.length_map,List.length_map,hN.od.len,xl]
  refine⟨_,rfl,fld hnet T.Jt T.Jv rfl ⟨_,rfl,op,l2,_,_,rfl,SqL.of hN.los,SqL.of h2,Je9 (k:=.lst) (k':=.lst) (K:=K) hl (fun i σ H'=>∃v5 v6,σ=[some (.ref p),some (.ref l2),some (.int z),some (.int (Y2 b)),some (.int (Vbemae.total (List.zipWith (fun(o:Vbemae.Order) s=>if o.zone=z∧o.buy=b then s else 0) (N.orders.take i) (xs.take i)))),v5,v6]∧Jg H H')
   ⟨none,none,rfl,Jg.refl H⟩ (fun i σ H' _ ⟨_,_,_,s3⟩=>⟨SqL.of (s3 _ _ hN.los),SqL.of (s3 _ _ h2)⟩) ?_ ?_⟩⟩
  ·rintro i x y T1 σ H' hx hy hT ⟨v5,v6,rfl,s3⟩
   obtain⟨a,ha,rfl⟩:=J1 hx
   obtain⟨o,ho,do_,hO⟩:=hN.od.get ha
   obtain⟨sv,hsv,rfl⟩:=int_at hy
   have s4:=Jk (o:=.tup [.ref a,.int sv]) s3 (Jg.free s3 hT)
   refine⟨T1,_,rfl,SqT.of Jb,rfl,_,_,rfl,_,_,rfl,rfl,?_⟩
   refine⟨_,rfl,fld (s4 _ _ hO) T.Jy T.Qj rfl ⟨_,rfl,rfl,_,rfl,J4 (fun hc=>?_) (fun hc=>JjZ rfl ?_)⟩⟩
   ·have ez:o.zone=z:=by have:=Jfb hc;omega
    refine⟨_,rfl,fld (s4 _ _ hO) T.Jy T.JL rfl ⟨_,rfl,rfl,_,rfl,J4 (fun hd=>?_) (fun hd=>?_)⟩⟩
    ·have eb:=JfL (Jfb hd)
     refine⟨_,rfl,_,rfl,_,_,rfl,rfl,some (.ref a),some (.int sv),?_,s4⟩
     rw[Yg _ ho hsv,if_pos ⟨ez,eb⟩];rfl
    ·have nb:¬o.buy=b:=fun e=>JaO hd (by rw[e])
     refine⟨some (.ref a),some (.int sv),?_,s4⟩
     rw[Yg _ ho hsv,if_neg (fun h=>nb h.2),Int.add_zero];rfl
   ·have nz:¬o.zone=z:=fun e=>JaO hc (by rw[e])
    refine⟨some (.ref a),some (.int sv),?_,s4⟩
    rw[Yg _ ho hsv,if_neg (fun h=>nz h.1),Int.add_zero];rfl
  ·rintro σ H' ⟨v5,v6,rfl,s3⟩
   refine⟨_,rfl,?_⟩
   rw[List.length_map,hN.od.len,List.take_length,←xl,List.take_length]
   exact k H' s3
theorem Je1 (T:Txt w K mg A):JF P w K mg base CX0 1 A.Jaq A.Vy ["net","flows","zone"] (JkJ A):=by
 refine T.Jc6.F.ok UP (fun vs H Q E h=>?_) (fun cdv AA outer s H vs Q E hr h=>?_)
 ·obtain⟨p,q,N,x,z,rfl,_⟩:=h
  rfl
 ·obtain⟨p,l3,N,xs,z,rfl,⟨⟨lp,op,ls,os,hN⟩,ok,h3,xl⟩,k⟩:=h
  obtain⟨dx,hnet⟩:=hN.net
  refine⟨_,(Jd (sA 3 UP.nd Jm)
   (Jd (U3 PassesOwn.never rfl (Uu ZZ.Knd.lst ZZ.Knd.lst K rfl (by rfl) T.WK (Ja (fL K (pv 0)) (Ja (pv 1) Jc))) (gB K (Jx (gA 4 UP.nd) (Jx (gA 5 UP.nd) QQ)))
   (Jd (Qa (JA YX (fL K (pv 4)) (pv 2) (JJ _)) (Jf (JeV (i:=3) UP.nd rfl (Or.inl rfl) (pv 5) Jg4)) JD)
   (Jf (Qa (JA YX (fL K (pv 4)) (pv 2) (JJ _)) (Jf (JeV (i:=3) UP.nd rfl (Or.inl rfl) (pv 5) JqM)) JD))))
   (Jf (Jl (pv 3))))),?_⟩
  have hl:(ls.map V.ref).length=(xs.map V.int).length:=by rw[List.length_map,List.length_map,hN.ln.len,xl]
  refine⟨_,rfl,fld hnet T.Jt T.JE rfl ⟨_,rfl,lp,l3,_,_,rfl,SqL.of hN.lls,SqL.of h3,Je9 (k:=.lst) (k':=.lst) (K:=K) hl (fun i σ H'=>∃v4 v5,σ=[some (.ref p),some (.ref l3),some (.int z),some (.int (Vbemae.total (List.zipWith (fun(l:Vbemae.Line) f=>(if l.a=z then f else 0)-(if l.b=z then f else 0)) (N.lines.take i) (xs.take i)))),v4,v5]∧Jg H H')
   ⟨none,none,rfl,Jg.refl H⟩ (fun i σ H' _ ⟨_,_,_,s3⟩=>⟨SqL.of (s3 _ _ hN.lls),SqL.of (s3 _ _ h3)⟩) ?_ ?_⟩⟩
  ·rintro i x y T1 σ H' hx hy hT ⟨v4,v5,rfl,s3⟩
   obtain⟨a,ha,rfl⟩:=J1 hx
   obtain⟨l,hl',do_,hL⟩:=hN.ln.get ha
   obtain⟨sv,hsv,rfl⟩:=int_at hy
   have s4:=Jk (o:=.tup [.ref a,.int sv]) s3 (Jg.free s3 hT)
   have st:∀x y:Int,x=y→[some (V.ref p),some (V.ref l3),some (V.int z),some (V.int x),some (V.ref a),some (V.int sv)]=[some (V.ref p),some (V.ref l3),some (V.int z),some (V.int y),some (V.ref a),some (V.int sv)]:=fun x y e=>by rw[e]
   refine⟨T1,_,rfl,SqT.of Jb,rfl,_,_,rfl,_,_,rfl,rfl,?_⟩
   refine⟨_,rfl,fld (s4 _ _ hL) T.JN T.J3 rfl ⟨_,rfl,rfl,_,rfl,J4 (fun hc=>?_) (fun hc=>?_)⟩⟩
   ·have ea:l.a=z:=by have:=Jfb hc;omega
    refine⟨_,rfl,_,rfl,_,_,rfl,rfl,?_⟩
    refine⟨_,rfl,fld (s4 _ _ hL) T.JN T.JT rfl ⟨_,rfl,rfl,_,rfl,J4 (fun hd=>?_) (fun hd=>?_)⟩⟩
    ·have eb:l.b=z:=by have:=Jfb hd;omega
     refine⟨_,rfl,_,rfl,_,_,rfl,rfl,_,_,st _ _ ?_,s4⟩
     rw[Yg _ hl' hsv,if_pos ea,if_pos eb]
     show _+sv-sv=_
     omega
    ·have nb:¬l.b=z:=fun e=>JaO hd (by rw[e])
     refine⟨_,_,st _ _ ?_,s4⟩
     rw[Yg _ hl' hsv,if_pos ea,if_neg nb]
     show _+sv=_
     omega
   ·have na:¬l.a=z:=fun e=>JaO hc (by rw[e])
    refine⟨_,rfl,fld (s4 _ _ hL) T.JN T.JT rfl ⟨_,rfl,rfl,_,rfl,J4 (fun hd=>?_) (fun hd=>?_)⟩⟩
    ·have eb:l.b=z:=by have:=Jfb hd;omega
     refine⟨_,rfl,_,rfl,_,_,rfl,rfl,_,_,st _ _ ?_,s4⟩
     rw[Yg _ hl' hsv,if_neg na,if_pos eb]
     show _-sv=_
     omega
    ·have nb:¬l.b=z:=fun e=>JaO hd (by rw[e])
     refine⟨_,_,st _ _ ?_,s4⟩
     rw[Yg _ hl' hsv,if_neg na,if_neg nb]
     omega
  ·rintro σ H' ⟨v4,v5,rfl,s3⟩
   refine⟨_,rfl,?_⟩
   rw[List.length_map,hN.ln.len,List.take_length,←xl,List.take_length]
   exact k H' s3
theorem Jjh (T:Txt w K mg A):JF P w K mg base CX0 1 A.Jd3 A.Jcx ["net","outcome","side"] (JoG A):=by
 refine T.Jhe.F.ok Jax (fun vs H Q E h=>?_) (fun cdv AA outer s H vs Q E hr h=>?_)
 ·obtain⟨p,q,N,O,b,rfl,_⟩:=h
  rfl
 ·obtain⟨p,q,N,O,b,rfl,⟨⟨lp,op,ls,os,hN⟩,ok,⟨dq,l1,l2,l3,hq,h1,h2,h3⟩,ook⟩,k⟩:=h
  obtain⟨dx,hnet⟩:=hN.net
  refine⟨_,(Jd (sA 3 Jax.nd Jm)
   (Jd (U3 PassesOwn.never rfl (Uu ZZ.Knd.lst ZZ.Knd.lst K rfl (by rfl) T.WK (Ja (fL K (pv 0)) (Ja (fL K (pv 1)) Jc))) (gB K (Jx (gA 4 Jax.nd) (Jx (gA 5 Jax.nd) QQ)))
   (Jf (Qa (JA YX (fL K (pv 4)) (pv 2) (JJ _)) (Jf (JeV (i:=3) Jax.nd rfl (Or.inl rfl) (JB JeY (pv 5) (iL K (fL K (pv 1)) (fL K (pv 4)))) Jg4)) JD)))
   (Jf (Jl (pv 3))))),?_⟩
  have hl:(os.map V.ref).length=(O.shares.map V.int).length:=by rw[List.length_map,List.length_map,hN.od.len,ook.sl]
  refine⟨_,rfl,fld hnet T.Jt T.Jv rfl ⟨_,rfl,fld hq T.JW T.JU rfl ⟨op,l2,_,_,rfl,SqL.of hN.los,SqL.of h2,Je9 (k:=.lst) (k':=.lst) (K:=K) hl (fun i σ H'=>∃v4 v5,σ=[some (.ref p),some (.ref q),some (.int (Y2 b)),some (.int (Vbemae.total (List.zipWith (fun(o:Vbemae.Order) s=>if o.buy=b then s*Vbemae.priceAt O.prices o.zone else 0) (N.orders.take i) (O.shares.take i)))),v4,v5]∧Jg H H')
   ⟨none,none,rfl,Jg.refl H⟩ (fun i σ H' _ ⟨_,_,_,s3⟩=>⟨SqL.of (s3 _ _ hN.los),SqL.of (s3 _ _ h2)⟩) ?_ ?_⟩⟩⟩
  ·rintro i x y T1 σ H' hx hy hT ⟨v4,v5,rfl,s3⟩
   obtain⟨a,ha,rfl⟩:=J1 hx
   obtain⟨o,ho,do_,hO⟩:=hN.od.get ha
   obtain⟨sv,hsv,rfl⟩:=int_at hy
   have hz:=(ok.ok.orders o (List.mem_of_getElem? ho)).zone
   have s4:=Jk (o:=.tup [.ref a,.int sv]) s3 (Jg.free s3 hT)
   refine⟨T1,_,rfl,SqT.of Jb,rfl,_,_,rfl,_,_,rfl,rfl,?_⟩
   refine⟨_,rfl,fld (s4 _ _ hO) T.Jy T.JL rfl ⟨_,rfl,rfl,_,rfl,J4 (fun hd=>?_) (fun hd=>?_)⟩⟩
   ·have eb:=JfL (Jfb hd)
    have pb:=ook.pb o.zone hz
    refine⟨_,rfl,_,rfl,_,rfl,fld (s4 _ _ hq) T.JW T.Us rfl ⟨_,rfl,fld (s4 _ _ hO) T.Jy T.Qj rfl ⟨l1,_,_,_,rfl,rfl,SqL.of (s4 _ _ h1),Jp (JhQ (by rw[ook.pl];exact hz)),_,_,rfl,rfl,.inr (m64 (by omega) (by omega)),_,_,rfl,rfl,some (.ref a),some (.int sv),?_,s4⟩⟩⟩
    rw[Yg _ ho hsv,if_pos eb];rfl
   ·have nb:¬o.buy=b:=fun e=>JaO hd (by rw[e])
    refine⟨some (.ref a),some (.int sv),?_,s4⟩
    rw[Yg _ ho hsv,if_neg nb,Int.add_zero];rfl
  ·rintro σ H' ⟨v4,v5,rfl,s3⟩
   refine⟨_,rfl,?_⟩
   rw[List.length_map,hN.od.len,List.take_length,←ook.sl,List.take_length]
   exact k H' s3
theorem Jel (c:Nat→Option V) (f:Nat→Int) (g:Nat→Option Int) (hc:∀j,c j=(g j).map V.int) (hf:∀j,f j=(g j).getD 0):∀n,∃ns:List Int,(List.range n).filterMap c=ns.map V.int∧Vbemae.total ns=Vbemae.total ((List.range n).map f):=by
 intro n
 induction n with
 |zero=>exact⟨[],rfl,rfl⟩
 |succ n ih=>
  obtain⟨ns,h1,h2⟩:=ih
  rw[Jdv,h1,hc n,List.range_succ,List.map_append,Ql,←h2,List.map_singleton,hf n]
  cases g n with
  |none=>exact⟨ns,by simp,by simp[Vbemae.total]⟩
  |some x=>exact⟨ns++[x],by simp,by rw[Ql];simp[Vbemae.total]⟩
theorem Jek {α:Type} (f:α→Int→Int) (l:List α) (r:List Int) (h:l.length=r.length):Vbemae.total ((List.range l.length).map fun j=>((l[j]?).bind fun x=>(r[j]?).map fun y=>f x y).getD 0)=Vbemae.total (List.zipWith f l r):=by
 have gen:∀n,n≤l.length→Vbemae.total ((List.range n).map fun j=>((l[j]?).bind fun x=>(r[j]?).map fun y=>f x y).getD 0)=Vbemae.total (List.zipWith f (l.take n) (r.take n)):=by
  intro n
  induction n with
  |zero=>intro _;simp[Vbemae.total]
  |succ n ih=>
   intro hn
   have hx:l[n]? =some l[n]:=List.getElem?_eq_getElem (by omega)
   have hy:r[n]? =some (r[n]'(by omega)):=List.getElem?_eq_getElem (by omega)
   rw[List.range_succ,List.map_append,Ql,ih (by omega),Yg f hx hy,List.map_singleton,hx,hy]
   simp[Vbemae.total]
 have:=gen l.length (Nat.le_refl _)
 rw[List.take_length,h,List.take_length] at this
 rw[h];exact this
theorem JhI (T:Txt w K mg A):JF P w K mg base CX0 1 A.JcJ A.Jbc ["net","shares","side"] (Jno A):=by
 refine T.Jfw.F.ok Ja4 (fun vs H Q E h=>?_) (fun cdv AA outer s H vs Q E hr h=>?_)
 ·obtain⟨p,q,N,x,b,rfl,_⟩:=h
  rfl
 ·obtain⟨p,l2,N,xs,b,rfl,⟨⟨lp,op,ls,os,hN⟩,ok,h2,xl⟩,k⟩:=h
  obtain⟨dx,hnet⟩:=hN.net
  have o41:=ok.o41
  refine⟨_,(Jf (Jl (JV (V1 K rfl rfl) (by rfl) T.Jg8 PyProof.Rows.boot_sum (Ja (WH rfl Ja4.nd (Uu ZZ.Knd.lst ZZ.Knd.lst K rfl (by rfl) T.WK (Ja (fL K (pv 0)) (Ja (pv 1) Jc))) (own:=[("order",3),("share",4)]) (lK Jjt (Je JeO) (by decide+kernel)) (fun _ _ _ _ _=>(gB K (Jx (gA 3 Ja4.nd) (Jx (gA 4 Ja4.nd) QQ)))) (fun _ _ _ _ _=>(Jcp (JA YX (fL K (pv 3)) (pv 2) (JJ _)))) (fun _ _ _ _ _=>(JB JeY (pv 4) (fL K (pv 3))))) Jc)))),?_⟩
  have hol:(os.map V.ref).length=N.orders.length:=by rw[List.length_map,hN.od.len]
  have hl:(os.map V.ref).length=(xs.map V.int).length:=by rw[hol,List.length_map,xl]
  refine⟨_,rfl,fld hnet T.Jt T.Jv rfl ⟨_,rfl,op,l2,_,_,rfl,SqL.of hN.los,SqL.of h2,fun D hD=>?_⟩⟩
  let g:Nat→Option Int:=fun j=>(N.orders[j]?).bind fun o=>(xs[j]?).bind fun s=>if o.buy=b then some (s*o.price) else none
  refine UQ (fun j=>(g j).map V.int) (os.map V.ref).length (Jec .lst .lst K op l2) hD (by rw[hol];exact Nat.le_trans o41 (by decide)) (Yr (k:=.lst) (k':=.lst) (SqL.of hN.los) (SqL.of h2) hl) (Ut (k:=.lst) (k':=.lst) (SqL.of hN.los) (SqL.of h2)) ?_ ?_
  ·intro j x H5 H6 hj s5 hD5 y
   obtain⟨T2,aa,bb,rfl,hT2,rfl,ha,hb⟩:=y
   obtain⟨a,ha',rfl⟩:=J1 (ha _ (SqL.of (s5 _ _ hN.los)))
   obtain⟨v,hv,rfl⟩:=int_at (hb _ (SqL.of (s5 _ _ h2)))
   obtain⟨o,ho,do_,hO⟩:=hN.od.get ha'
   have oo:=ok.ok.orders o (List.mem_of_getElem? ho)
   have s6:=Jk (o:=.tup [.ref a,.int v]) s5 (Jg.free s5 hT2)
   have hD6:(upd H5 T2 (.tup [.ref a,.int v])) D=_:=(Jh (Jn hD5 hT2)).trans hD5
   refine⟨T2,_,rfl,SqT.of Jb,rfl,_,_,rfl,_,_,rfl,rfl,rfl,?_⟩
   refine⟨_,rfl,fld (s6 _ _ hO) T.Jy T.JL rfl ⟨_,rfl,rfl,_,rfl,J4 (fun hc=>?_) (fun hc=>?_)⟩⟩
   ·have eb:=JfL (Jfb hc)
    have e1:=oo.lo
    have e2:=oo.hi
    have e3:=ok.lo6
    have e4:=ok.hi6
    refine⟨_,rfl,_,rfl,fld (s6 _ _ hO) T.Jy T.QL rfl ⟨_,_,rfl,rfl,.inr (m64 (by omega) (by omega)),J8 (i:=j) hD ?_ s6 hD6 ?_⟩⟩
    ·rw[hol] at hj;exact Nat.lt_of_lt_of_le hj (Nat.le_trans o41 (by decide))
    ·show(g j).map V.int=_
     simp only[g,ho,hv,Option.bind_some,if_pos eb];rfl
   ·have nb:¬o.buy=b:=fun e=>JaO hc (by rw[e])
    refine Jcv s6 hD6 ?_
    show(g j).map V.int=_
    simp only[g,ho,hv,Option.bind_some,if_neg nb,Option.map_none]
  ·intro H5 s5 hD5
   obtain⟨ns,e1,e2⟩:=Jel (fun j=>(g j).map V.int) (fun j=>((N.orders[j]?).bind fun o=>(xs[j]?).map fun s=>if o.buy=b then s*o.price else 0).getD 0) g (fun _=>rfl) (fun j=>by
    show _=(g j).getD 0
    simp only[g]
    cases N.orders[j]? with
    |none=>rfl
    |some o=>
     cases xs[j]? with
     |none=>rfl
     |some s=>
      simp only[Option.bind_some,Option.map_some]
      by_cases h:o.buy=b
      ·simp[if_pos h]
      ·simp[if_neg h]) (os.map V.ref).length
   rw[e1] at hD5
   refine⟨D,ns,rfl,SqL.of hD5,?_⟩
   have:=k H5 s5
   rw[WR,e2,hol]
   rw[Jek (fun(o:Vbemae.Order) s=>if o.buy=b then s*o.price else 0) N.orders xs xl.symm]
   exact this
theorem JcZ (T:Txt w K mg A):JF P w K mg base CX0 2 A.Jbp A.Jag ["net","outcome"] (JlZ A):=by
 refine T.Jbv.F.ok V6 (fun vs H Q E h=>?_) (fun cdv AA outer s H vs Q E hr h=>?_)
 ·obtain⟨p,q,N,O,rfl,_⟩:=h
  rfl
 ·obtain⟨p,q,N,O,rfl,⟨⟨lp,op,ls,os,hN⟩,ok,⟨dq,l1,l2,l3,hq,h1,h2,h3⟩,ook⟩,k⟩:=h
  obtain⟨dx,hnet⟩:=hN.net
  have l12:=ok.l12
  refine⟨_,(Jf (Jl (WH rfl V6.nd (Uu ZZ.Knd.lst ZZ.Knd.lst K rfl (by rfl) T.WK (Ja (fL K (pv 0)) (Ja (fL K (pv 1)) Jc))) (own:=[("line",2),("flow",3)]) (lK Jh6 (Je JdN) (by decide+kernel)) (fun _ _ _ _ _=>(gB K (Jx (gA 2 V6.nd) (Jx (gA 3 V6.nd) QQ)))) (fun _ _ _ _ _=>Qo) (fun _ _ _ _ _=>(JB JeY (pv 3) (cL (Ja7 T) hr T.JaS (Ja (pv 2) (Ja (fL K (pv 1)) Jc)))))))),?_⟩
  have hol:(ls.map V.ref).length=N.lines.length:=by rw[List.length_map,hN.ln.len]
  have hl:(ls.map V.ref).length=(O.flows.map V.int).length:=by rw[hol,List.length_map,ook.fl]
  refine⟨_,rfl,fld hnet T.Jt T.JE rfl ⟨_,rfl,fld hq T.JW T.Q4 rfl ⟨lp,l3,_,_,rfl,SqL.of hN.lls,SqL.of h3,fun D hD=>?_⟩⟩⟩
  refine UQ (fun j=>(N.lines[j]?).bind fun l=>(O.flows[j]?).map fun f=>V.int (Vbemae.rentOf O.prices l f)) (ls.map V.ref).length (Jec .lst .lst K lp l3) hD (by rw[hol];exact Nat.le_trans l12 (by decide)) (Yr (k:=.lst) (k':=.lst) (SqL.of hN.lls) (SqL.of h3) hl) (Ut (k:=.lst) (k':=.lst) (SqL.of hN.lls) (SqL.of h3)) ?_ ?_
  ·intro j x H5 H6 hj s5 hD5 y
   obtain⟨T2,aa,bb,rfl,hT2,rfl,ha,hb⟩:=y
   obtain⟨a,ha',rfl⟩:=J1 (ha _ (SqL.of (s5 _ _ hN.lls)))
   obtain⟨v,hv,rfl⟩:=int_at (hb _ (SqL.of (s5 _ _ h3)))
   obtain⟨l,hl',do_,hL⟩:=hN.ln.get ha'
   have okl:=ok.ok.lines l (List.mem_of_getElem? hl')
   have s6:=Jk (o:=.tup [.ref a,.int v]) s5 (Jg.free s5 hT2)
   have hD6:(upd H5 T2 (.tup [.ref a,.int v])) D=_:=(Jh (Jn hD5 hT2)).trans hD5
   have pb:=ook.pb l.b okl.b
   have pa:=ook.pb l.a okl.a
   refine⟨T2,_,rfl,SqT.of Jb,rfl,_,_,rfl,_,_,rfl,rfl,rfl,?_⟩
   refine⟨_,rfl,_,rfl,_,rfl,fld (s6 _ _ hq) T.JW T.Us rfl ⟨a,l1,O.prices,l,rfl,⟨do_,s6 _ _ hL⟩,s6 _ _ h1,by rw[ook.pl];exact okl.a,by rw[ook.pl];exact okl.b,?_⟩⟩
   refine⟨_,_,rfl,rfl,.inr (m64 (by unfold VU;omega) (by unfold VU;omega)),J8 (i:=j) hD ?_ s6 hD6 ?_⟩
   ·rw[hol] at hj;exact Nat.lt_of_lt_of_le hj (Nat.le_trans l12 (by decide))
   ·simp only[hl',hv,Option.bind_some,Option.map_some,Vbemae.rentOf]
    rw[Int.mul_comm];rfl
  ·intro H5 s5 hD5
   refine k D H5 s5 hD ?_
   rw[hD5,hol]
   congr 2
   unfold Vbemae.rents
   have e:(List.zipWith (Vbemae.rentOf O.prices) N.lines O.flows).length=N.lines.length:=by rw[List.length_zipWith,ook.fl];omega
   rw[←e]
   refine UR V.int _ _ fun i v hv=>?_
   rw[List.getElem?_zipWith] at hv
   cases hx:N.lines[i]? with
   |none=>rw[hx] at hv;cases hv
   |some x=>
    cases hy:O.flows[i]? with
    |none=>rw[hx,hy] at hv;cases hv
    |some y=>
     rw[hx,hy] at hv
     have:Vbemae.rentOf O.prices x y=v:=Option.some.inj hv
     rw[←this];rfl
theorem Wr (T:Txt w K mg A):JF P w K mg base CX0 2 A.W4 A.Ww ["net","shares"] (Jhn A):=by
 refine T.UU.F.ok Jht (fun vs H Q E h=>?_) (fun cdv AA outer s H vs Q E hr h=>?_)
 ·obtain⟨p,q,N,x,rfl,_⟩:=h
  rfl
 ·obtain⟨p,q,N,x,rfl,hI,k⟩:=h
  refine⟨_,(Jf (Jl (JB U5 (cL (JhI T) hr T.Jfw (Ja (pv 0) (Ja (pv 1) (Ja (gL T.Jb3) Jc)))) (cL (JhI T) hr T.Jfw (Ja (pv 0) (Ja (pv 1) (Ja (gL T.JfT) Jc))))))),?_⟩
  refine⟨_,rfl,_,rfl,p,q,N,x,true,rfl,hI,fun H1 s1=>?_⟩
  refine⟨_,rfl,_,rfl,p,q,N,x,false,rfl,hI.same s1,fun H2 s2=>⟨_,_,rfl,rfl,?_⟩⟩
  have:=k H2 (s1.trans s2)
  rw[Joz] at this
  exact this
theorem JbM (T:Txt w K mg A):JF P w K mg base CX0 2 A.WC A.U8 ["net","outcome"] (JgM A):=by
 refine T.VQ.F.ok U1 (fun vs H Q E h=>?_) (fun cdv AA outer s H vs Q E hr h=>?_)
 ·obtain⟨p,q,N,O,rfl,_⟩:=h
  rfl
 ·obtain⟨p,q,N,O,rfl,⟨⟨lp,op,ls,os,hN⟩,ok,⟨dq,l1,l2,l3,hq,h1,h2,h3⟩,ook⟩,k⟩:=h
  obtain⟨dx,hnet⟩:=hN.net
  have o41:=ok.o41
  refine⟨_,(Jf (Jl (WH rfl U1.nd (Uu ZZ.Knd.lst ZZ.Knd.lst K rfl (by rfl) T.WK (Ja (fL K (pv 0)) (Ja (fL K (pv 1)) Jc))) (own:=[("order",2),("share",3)]) (lK JcP (Je Vb) (by decide+kernel)) (fun _ _ _ _ _=>(gB K (Jx (gA 2 U1.nd) (Jx (gA 3 U1.nd) QQ)))) (fun _ _ _ _ _=>Qo) (fun _ _ _ _ _=>(JB JeY (pv 3) (cL (JcY T) hr T.Jbu (Ja (pv 2) (Ja (fL K (pv 1)) Jc)))))))),?_⟩
  have hol:(os.map V.ref).length=N.orders.length:=by rw[List.length_map,hN.od.len]
  have hl:(os.map V.ref).length=(O.shares.map V.int).length:=by rw[hol,List.length_map,ook.sl]
  refine⟨_,rfl,fld hnet T.Jt T.Jv rfl ⟨_,rfl,fld hq T.JW T.JU rfl ⟨op,l2,_,_,rfl,SqL.of hN.los,SqL.of h2,fun D hD=>?_⟩⟩⟩
  refine UQ (fun j=>(N.orders[j]?).bind fun o=>(O.shares[j]?).map fun f=>V.int (Vbemae.surplusOf O.prices o f)) (os.map V.ref).length (Jec .lst .lst K op l2) hD (by rw[hol];exact Nat.le_trans o41 (by decide)) (Yr (k:=.lst) (k':=.lst) (SqL.of hN.los) (SqL.of h2) hl) (Ut (k:=.lst) (k':=.lst) (SqL.of hN.los) (SqL.of h2)) ?_ ?_
  ·intro j x H5 H6 hj s5 hD5 y
   obtain⟨T2,aa,bb,rfl,hT2,rfl,ha,hb⟩:=y
   obtain⟨a,ha',rfl⟩:=J1 (ha _ (SqL.of (s5 _ _ hN.los)))
   obtain⟨v,hv,rfl⟩:=int_at (hb _ (SqL.of (s5 _ _ h2)))
   obtain⟨o,ho,hO⟩:=hN.od.get ha'
   have oko:=ok.ok.orders o (List.mem_of_getElem? ho)
   have s6:=Jk (o:=.tup [.ref a,.int v]) s5 (Jg.free s5 hT2)
   have hD6:(upd H5 T2 (.tup [.ref a,.int v])) D=_:=(Jh (Jn hD5 hT2)).trans hD5
   refine⟨T2,_,rfl,SqT.of Jb,rfl,_,_,rfl,_,_,rfl,rfl,rfl,?_⟩
   refine⟨_,rfl,_,rfl,_,rfl,fld (s6 _ _ hq) T.JW T.Us rfl ⟨a,l1,O.prices,o,rfl,hO.same s6,s6 _ _ h1,by rw[ook.pl];exact oko.zone,?_⟩⟩
   have gb:=JrI ok oko (ook.pb o.zone oko.zone)
   refine⟨_,_,rfl,rfl,.inr (m64 gb.1 gb.2),J8 (i:=j) hD ?_ s6 hD6 ?_⟩
   ·rw[hol] at hj;exact Nat.lt_of_lt_of_le hj (Nat.le_trans o41 (by decide))
   ·simp only[ho,hv,Option.bind_some,Option.map_some,Vbemae.surplusOf]
    rw[Int.mul_comm];rfl
  ·intro H5 s5 hD5
   refine k D H5 s5 hD ?_
   rw[hD5,hol]
   congr 2
   unfold WQ
   have e:(List.zipWith (Vbemae.surplusOf O.prices) N.orders O.shares).length=N.orders.length:=by rw[List.length_zipWith,ook.sl];omega
   rw[←e]
   refine UR V.int _ _ fun i v hv=>?_
   rw[List.getElem?_zipWith] at hv
   cases hx:N.orders[i]? with
   |none=>rw[hx] at hv;cases hv
   |some x=>
    cases hy:O.shares[i]? with
    |none=>rw[hx,hy] at hv;cases hv
    |some y=>
     rw[hx,hy] at hv
     have:Vbemae.surplusOf O.prices x y=v:=Option.some.inj hv
     rw[←this];rfl
theorem Jeu (T:Txt w K mg A):JF P w K mg base CX0 3 A.VF A.Yy ["net","outcome","side"] (JjD A):=by
 refine T.Jcd.F.ok Yq (fun vs H Q E h=>?_) (fun cdv AA outer s H vs Q E hr h=>?_)
 ·obtain⟨p,q,N,O,b,rfl,_⟩:=h
  rfl
 ·obtain⟨p,q,N,O,b,rfl,hI,k⟩:=h
  obtain⟨⟨lp,op,ls,os,hN⟩,ok,_,ook⟩:=id hI
  obtain⟨dx,hnet⟩:=hN.net
  have o41:=ok.o41
  refine⟨_,(Jf (Jl (JV (V1 K rfl rfl) (by rfl) T.Jg8 PyProof.Rows.boot_sum (Ja (WH rfl Yq.nd (Uu ZZ.Knd.lst ZZ.Knd.lst K rfl (by rfl) T.WK (Ja (fL K (pv 0)) (Ja (cL (JbM T) hr T.VQ (Ja (pv 0) (Ja (pv 1) Jc))) Jc))) (own:=[("order",3),("gain",4)]) (lK Jfk (Je JbE) (by decide+kernel)) (fun _ _ _ _ _=>(gB K (Jx (gA 3 Yq.nd) (Jx (gA 4 Yq.nd) QQ)))) (fun _ _ _ _ _=>(Jcp (JA YX (fL K (pv 3)) (pv 2) (JJ _)))) (fun _ _ _ _ _=>(pv 4))) Jc)))),?_⟩
  have hol:(os.map V.ref).length=N.orders.length:=by rw[List.length_map,hN.od.len]
  have xl:(WQ N O).length=N.orders.length:=by unfold WQ;rw[List.length_zipWith,ook.sl];omega
  refine⟨_,rfl,fld hnet T.Jt T.Jv rfl ⟨_,rfl,_,rfl,p,q,N,O,rfl,hI,fun l2 H1 s1 n2 h2=>?_⟩⟩
  have hl:(os.map V.ref).length=((WQ N O).map V.int).length:=by rw[hol,List.length_map,xl]
  have hos:=s1 _ _ hN.los
  refine⟨op,l2,_,_,rfl,SqL.of hos,SqL.of h2,fun D hD=>?_⟩
  let g:Nat→Option Int:=fun j=>(N.orders[j]?).bind fun o=>((WQ N O)[j]?).bind fun s=>if o.buy=b then some s else none
  refine UQ (fun j=>(g j).map V.int) (os.map V.ref).length (Jec .lst .lst K op l2) hD (by rw[hol];exact Nat.le_trans o41 (by decide)) (Yr (k:=.lst) (k':=.lst) (SqL.of hos) (SqL.of h2) hl) (Ut (k:=.lst) (k':=.lst) (SqL.of hos) (SqL.of h2)) ?_ ?_
  ·intro j x H5 H6 hj s5 hD5 y
   obtain⟨T2,aa,bb,rfl,hT2,rfl,ha,hb⟩:=y
   obtain⟨a,ha',rfl⟩:=J1 (ha _ (SqL.of (s5 _ _ hos)))
   obtain⟨v,hv,rfl⟩:=int_at (hb _ (SqL.of (s5 _ _ h2)))
   obtain⟨o,ho,do_,hO⟩:=hN.od.get ha'
   have s6:=Jk (o:=.tup [.ref a,.int v]) s5 (Jg.free s5 hT2)
   have hD6:(upd H5 T2 (.tup [.ref a,.int v])) D=_:=(Jh (Jn hD5 hT2)).trans hD5
   refine⟨T2,_,rfl,SqT.of Jb,rfl,_,_,rfl,_,_,rfl,rfl,rfl,?_⟩
   refine⟨_,rfl,fld (s6 _ _ (s1 _ _ hO)) T.Jy T.JL rfl ⟨_,rfl,rfl,_,rfl,J4 (fun hc=>?_) (fun hc=>?_)⟩⟩
   ·have eb:=JfL (Jfb hc)
    refine⟨_,rfl,J8 (i:=j) hD ?_ s6 hD6 ?_⟩
    ·rw[hol] at hj;exact Nat.lt_of_lt_of_le hj (Nat.le_trans o41 (by decide))
    ·show(g j).map V.int=_
     simp only[g,ho,hv,Option.bind_some,if_pos eb];rfl
   ·have nb:¬o.buy=b:=fun e=>JaO hc (by rw[e])
    refine Jcv s6 hD6 ?_
    show(g j).map V.int=_
    simp only[g,ho,hv,Option.bind_some,if_neg nb,Option.map_none]
  ·intro H5 s5 hD5
   obtain⟨ns,e1,e2⟩:=Jel (fun j=>(g j).map V.int) (fun j=>((N.orders[j]?).bind fun o=>(O.shares[j]?).map fun s=>if o.buy=b then Vbemae.surplusOf O.prices o s else 0).getD 0) g (fun _=>rfl) (fun j=>by
    show _=(g j).getD 0
    simp only[g,WQ,List.getElem?_zipWith]
    cases N.orders[j]? with
    |none=>rfl
    |some o=>
     cases O.shares[j]? with
     |none=>rfl
     |some s=>
      simp only[Option.bind_some,Option.map_some]
      by_cases h:o.buy=b
      ·simp[if_pos h]
      ·simp[if_neg h]) (os.map V.ref).length
   rw[e1] at hD5
   refine⟨D,ns,rfl,SqL.of hD5,?_⟩
   have:=k H5 (s1.trans s5)
   rw[WR,e2,hol]
   rw[Jek (fun(o:Vbemae.Order) s=>if o.buy=b then Vbemae.surplusOf O.prices o s else 0) N.orders O.shares ook.sl.symm]
   exact this
end
end Zm
namespace Zm
open PySem PySem.Spec PyProof.Rows L2
theorem JgT {N:Vbemae.Net} {x:List Int} (f g:Vbemae.Order→Int→Int) (e:∀o s,f o s=g o s):Vbemae.overOrders N x f=Vbemae.overOrders N x g:=by
 rw[show f=g from funext fun o=>funext fun s=>e o s]
theorem JqW (N:Vbemae.Net) (O:Vbemae.Outcome):Jqd N O true=Vbemae.buyersSurplus N O.prices O.shares:=rfl
theorem JoN (N:Vbemae.Net) (O:Vbemae.Outcome):Jqd N O false=Vbemae.sellersSurplus N O.prices O.shares:=
 JgT _ _ fun o s=>by cases o.buy<;>simp
theorem JtC (N:Vbemae.Net) (O:Vbemae.Outcome):JhE N O true=Vbemae.paid N O.prices O.shares:=JgT _ _ fun o s=>by cases o.buy<;>simp[Int.mul_comm]
theorem JnK (N:Vbemae.Net) (O:Vbemae.Outcome):JhE N O false=Vbemae.received N O.prices O.shares:=JgT _ _ fun o s=>by cases o.buy<;>simp[Int.mul_comm]
noncomputable def JvU:Sp:=fun vs H Q _=>∃(l:Addr) (xs:List Int),vs=[.ref l]∧H l=some (.lst (xs.map V.int))∧xs.length≤1000∧∀r H',Jg H H'→H r=none→H' r=some (.lst ((Vbemae.row xs).map V.int))→Q (.ref r) H'
section
variable {P:Program} {w:World} {K:PySem.W.Frag} {mg:Str→Option Value} {base:Heap} {A:Adr}
theorem JbL (T:Txt w K mg A):JF P w K mg base CX0 1 A.JrS A.Jn8 ["numbers"] JvU:=by
 refine T.Jey.F.ok JvW (fun vs H Q E h=>?_) (fun cdv AA outer s H vs Q E hr h=>?_)
 ·obtain⟨l,xs,rfl,_⟩:=h
  rfl
 ·obtain⟨l,xs,rfl,hl,hx,k⟩:=h
  refine⟨_,(Jf (Jl (JB Q7 (Js (Ja (lN K T.Q9 (Ja (pv 0) Jc)) Jc)) (pv 0)))),?_⟩
  refine⟨_,rfl,l,_,rfl,.inl (SqL.of hl),(by show 1≤sizeLine;decide),fun l0 n0=>?_⟩
  have s0:Jg H (upd H l0 (.lst [.int ((xs.map V.int).length:Int)])):=Jj n0
  refine⟨_,rfl,l0,l,_,_,rfl,rfl,Jb,s0 _ _ hl,?_,fun r nr=>k r _ (Jk s0 (Jg.free s0 nr)) (Jg.free s0 nr) ?_⟩
  ·rw[List.length_map];show 1+xs.length≤sizeLine;exact Nat.le_trans (show 1+xs.length≤1001 by omega) (by decide)
  ·rw[Jb,List.length_map];rfl
end
end Zm
namespace Zm
open PySem PySem.Spec PyProof.Rows L2
noncomputable def Jhi (A:Adr) (H:Hp) (c:Addr) (pl:Int) (ns:List Int) (rws:List (List Int)):Prop:=∃dx nl ll rs,H c=some (.ins A.YU dx (Jre (.int pl) (.ref nl) (.ref ll)))∧H nl=some (.lst (ns.map V.int))∧H ll=some (.lst (rs.map V.ref))∧Q5 (fun r xs=>H r=some (.lst (xs.map V.int))) rs rws
theorem Jhi.same {A:Adr} {H H':Hp} {c:Addr} {pl:Int} {ns:List Int} {rws:List (List Int)} (s:Jg H H') (h:Jhi A H c pl ns rws):Jhi A H' c pl ns rws:=let⟨dx,nl,ll,rs,a,b,d,e⟩:=h;⟨dx,nl,ll,rs,s _ _ a,s _ _ b,s _ _ d,e.imp fun _ _ q=>s _ _ q⟩
structure Own (A:Adr) (H:Hp) (p:Addr) (N:Vbemae.Net) (lp op:Addr) (ls os:List Addr):Prop where
 at_:JpR A H p N lp op ls os
 nl:ls.Nodup
 no:os.Nodup
 ne:lp≠op
theorem Own.is {A:Adr} {H:Hp} {p:Addr} {N:Vbemae.Net} {lp op:Addr} {ls os:List Addr} (h:Own A H p N lp op ls os):UI A H p N:=⟨lp,op,ls,os,h.at_⟩
theorem Own.same {A:Adr} {H H':Hp} {p:Addr} {N:Vbemae.Net} {lp op:Addr} {ls os:List Addr} (s:Jg H H') (h:Own A H p N lp op ls os):Own A H' p N lp op ls os:=⟨h.at_.same s,h.nl,h.no,h.ne⟩
structure JcQ (A:Adr) (H H':Hp) (p:Addr) (N':Vbemae.Net) (lp op:Addr) (ls os ls' os':List Addr):Prop where
 own:Own A H' p N' lp op ls' os'
 keep:∀b o,H b=some o→b≠lp→b≠op→b∉ls→b∉os→H' b=some o
 newL:∀b∈ls',b∈ls∨H b=none
 newO:∀b∈os',b∈os∨H b=none
theorem JcQ.of_same {A:Adr} {H H':Hp} {p:Addr} {N:Vbemae.Net} {lp op:Addr} {ls os:List Addr} (s:Jg H H') (h:Own A H p N lp op ls os):JcQ A H H' p N lp op ls os ls os:=
 ⟨h.same s,fun b o e _ _ _ _=>s b o e,fun b h=>.inl h,fun b h=>.inl h⟩
structure Jmu (N:Vbemae.Net):Prop where
 ok:QN N
 o40:N.orders.length≤40
noncomputable def JR (A:Adr) (cl:List Int→List (List Int)→Vbemae.Call→Prop):Sp:=fun vs H Q _=>∃(p c:Addr) (N:Vbemae.Net) (lp op:Addr) (ls os:List Addr) (pl:Int) (ns:List Int) (rws:List (List Int)) (cc:Vbemae.Call),vs=[.ref p,.ref c]∧Own A H p N lp op ls os∧Jmu N∧Jhi A H c pl ns rws∧cl ns rws cc∧
 ∀l H' ls' os',JcQ A H H' p (Vbemae.onNet N cc).1 lp op ls os ls' os'→H l=none→H' l=some (.lst ((Vbemae.onNet N cc).2.map V.int))→Q (.ref l) H'
noncomputable def Jko (ns:List Int) (_:List (List Int)) (c:Vbemae.Call):Prop:=ns=[]∧c=.clear
noncomputable def Jkl (ns:List Int) (_:List (List Int)) (c:Vbemae.Call):Prop:=ns=[]∧c=.range
noncomputable def Job (ns:List Int) (_:List (List Int)) (c:Vbemae.Call):Prop:=∃z:Nat,ns=[(z:Int)]∧c=.zone z
noncomputable def Jkn (ns:List Int) (_:List (List Int)) (c:Vbemae.Call):Prop:=ns=[]∧c=.money
noncomputable def JfX (ns:List Int) (_:List (List Int)) (c:Vbemae.Call):Prop:=ns=[]∧c=.welfare
theorem Jll (N:Vbemae.Net):(Vbemae.leasts N).length=N.zones:=by rw[JmR];simp
theorem Jgs (N:Vbemae.Net):(Vbemae.greatests N).length=N.zones:=by rw[JhR];simp
theorem JfN {N:Vbemae.Net} {O:Vbemae.Outcome} (h:Jul N O):(Vbemae.rents N O.prices O.flows).length=N.lines.length:=by
 unfold Vbemae.rents;rw[List.length_zipWith,h.fl];omega
theorem Qn (l:List Int):(Vbemae.row l).length=l.length+1:=rfl
theorem Jgb {n:Nat} (h:n≤200):n≤sizeLine:=Nat.le_trans h (by decide)
section
variable {P:Program} {w:World} {K:PySem.W.Frag} {mg:Str→Option Value} {base:Heap} {A:Adr}
theorem Jis (T:Txt w K mg A):JF P w K mg base CX0 7 A.QU A.WZ ["net","call"] (JR A Jko):=by
 refine T.Ja0.F.ok Jde (fun vs H Q E h=>?_) (fun cdv AA outer s H vs Q E hr h=>?_)
 ·obtain⟨p,c,N,lp,op,ls,os,pl,ns,rws,cc,rfl,_⟩:=h
  rfl
 ·obtain⟨p,c,N,lp,op,ls,os,pl,ns,rws,cc,rfl,hO,ok,hC,⟨rfl,rfl⟩,k⟩:=h
  have z6:=ok.ok.z6
  have l12:=ok.ok.l12
  have o40:=ok.o40
  have ook:=UG ok.ok
  have pl:=ook.pl
  have sl:=ook.sl
  have fl:=ook.fl
  refine⟨_,(Jd (sA 2 Jde.nd (cL (Qx T) hr T.Qt (Ja (pv 0) Jc)))
   (Jf (Jl (JB Q7 (JB Q7 (JB Q7 (Js (Ja Jm Jc)) (cL (JbL T) hr T.Jey (Ja (fL K (pv 2)) Jc))) (cL (JbL T) hr T.Jey (Ja (fL K (pv 2)) Jc))) (cL (JbL T) hr T.Jey (Ja (fL K (pv 2)) Jc)))))),?_⟩
  refine⟨_,rfl,p,N,rfl,hO.is,ok.ok,fun q H1 s1 hq=>?_⟩
  obtain⟨dq,l1,l2,l3,hq,h1,h2,h3⟩:=hq
  refine⟨(by show 1≤sizeLine;decide),fun a0 n0=>?_⟩
  have s2:Jg H1 (upd H1 a0 (.lst [.int 0])):=Jj n0
  have hA:=Jb (H:=H1) (a:=a0) (o:=.lst [.int 0])
  generalize upd H1 a0 (.lst [.int 0])=H2 at s2 hA⊢
  refine⟨_,rfl,fld (s2 _ _ hq) T.JW T.Us rfl ⟨l1,(Vbemae.cleared N).prices,rfl,s2 _ _ h1,by omega,fun r1 H3 s3 nr1 hr1=>?_⟩⟩
  refine⟨a0,r1,_,_,rfl,rfl,s3 _ _ hA,hr1,?_,fun a1 n1=>?_⟩
  ·rw[List.length_map,Qn];show 1+_≤_;exact Jgb (by omega)
  have s4:Jg H3 (upd H3 a1 (.lst ([.int 0]++(Vbemae.row (Vbemae.cleared N).prices).map V.int))):=Jj n1
  have hA1:=Jb (H:=H3) (a:=a1) (o:=.lst ([.int 0]++(Vbemae.row (Vbemae.cleared N).prices).map V.int))
  generalize upd H3 a1 (.lst ([.int 0]++(Vbemae.row (Vbemae.cleared N).prices).map V.int))=H4 at s4 hA1⊢
  have s24:=s2.trans (s3.trans s4)
  refine⟨_,rfl,fld (s24 _ _ hq) T.JW T.JU rfl ⟨l2,(Vbemae.cleared N).shares,rfl,s24 _ _ h2,by omega,fun r2 H5 s5 nr2 hr2=>?_⟩⟩
  refine⟨a1,r2,_,_,rfl,rfl,s5 _ _ hA1,hr2,?_,fun a2 n2=>?_⟩
  ·rw[List.length_append,List.length_map,List.length_map,Qn,Qn];show 1+_+_≤_;exact Jgb (by omega)
  have s6:Jg H5 (upd H5 a2 (.lst ([.int 0]++(Vbemae.row (Vbemae.cleared N).prices).map V.int++(Vbemae.row (Vbemae.cleared N).shares).map V.int))):=Jj n2
  have hA2:=Jb (H:=H5) (a:=a2) (o:=.lst ([.int 0]++(Vbemae.row (Vbemae.cleared N).prices).map V.int++(Vbemae.row (Vbemae.cleared N).shares).map V.int))
  generalize upd H5 a2 (.lst ([.int 0]++(Vbemae.row (Vbemae.cleared N).prices).map V.int++(Vbemae.row (Vbemae.cleared N).shares).map V.int))=H6 at s6 hA2⊢
  have s26:=s24.trans (s5.trans s6)
  refine⟨_,rfl,fld (s26 _ _ hq) T.JW T.Q4 rfl ⟨l3,(Vbemae.cleared N).flows,rfl,s26 _ _ h3,by omega,fun r3 H7 s7 nr3 hr3=>?_⟩⟩
  refine⟨a2,r3,_,_,rfl,rfl,s7 _ _ hA2,hr3,?_,fun a3 n3=>?_⟩
  ·rw[List.length_append,List.length_append,List.length_map,List.length_map,List.length_map,Qn,Qn,Qn];show 1+_+_+_≤_;exact Jgb (by omega)
  have sE:=s1.trans (s26.trans s7)
  refine k a3 _ _ _ (.of_same (Jk sE (Jg.free sE n3)) hO) (Jg.free sE n3) ?_
  rw[Jb]
  show _=some (HO.lst (List.map V.int (0::(Vbemae.row (Vbemae.cleared N).prices++(Vbemae.row (Vbemae.cleared N).shares++Vbemae.row (Vbemae.cleared N).flows)))))
  rw[List.map_cons,List.map_append,List.map_append]
  simp only[List.cons_append,List.nil_append,List.append_assoc]
theorem JeZ (T:Txt w K mg A):JF P w K mg base CX0 6 A.J7 A.Uy ["net","call"] (JR A Jkl):=by
 refine T.Yf.F.ok Jaw (fun vs H Q E h=>?_) (fun cdv AA outer s H vs Q E hr h=>?_)
 ·obtain⟨p,c,N,lp,op,ls,os,pl,ns,rws,cc,rfl,_⟩:=h
  rfl
 ·obtain⟨p,c,N,lp,op,ls,os,pl,ns,rws,cc,rfl,hO,ok,hC,⟨rfl,rfl⟩,k⟩:=h
  have z6:=ok.ok.z6
  have e1:=Jll N
  have e2:=Jgs N
  refine⟨_,(Jd (sA 2 Jaw.nd (cL (JbN T) hr T.Jau (Ja (pv 0) Jc)))
   (Jf (Jl (JB Q7 (JB Q7 (Js (Ja Jm Jc)) (cL (JbL T) hr T.Jey (Ja (fL K (pv 2)) Jc))) (cL (JbL T) hr T.Jey (Ja (fL K (pv 2)) Jc)))))),?_⟩
  refine⟨_,rfl,p,N,rfl,hO.is,ok.ok,fun q H1 s1 hq=>?_⟩
  obtain⟨dq,l1,l2,l3,hq,h1,h2,h3⟩:=hq
  refine⟨(by show 1≤sizeLine;decide),fun a0 n0=>?_⟩
  have s2:Jg H1 (upd H1 a0 (.lst [.int 0])):=Jj n0
  have hA:=Jb (H:=H1) (a:=a0) (o:=.lst [.int 0])
  generalize upd H1 a0 (.lst [.int 0])=H2 at s2 hA⊢
  refine⟨_,rfl,fld (s2 _ _ hq) T.Jb5 T.Jew rfl ⟨l1,Vbemae.leasts N,rfl,s2 _ _ h1,by omega,fun r1 H3 s3 nr1 hr1=>?_⟩⟩
  refine⟨a0,r1,_,_,rfl,rfl,s3 _ _ hA,hr1,?_,fun a1 n1=>?_⟩
  ·rw[List.length_map,Qn];show 1+_≤_;exact Jgb (by omega)
  have s4:Jg H3 (upd H3 a1 (.lst ([.int 0]++(Vbemae.row (Vbemae.leasts N)).map V.int))):=Jj n1
  have hA1:=Jb (H:=H3) (a:=a1) (o:=.lst ([.int 0]++(Vbemae.row (Vbemae.leasts N)).map V.int))
  generalize upd H3 a1 (.lst ([.int 0]++(Vbemae.row (Vbemae.leasts N)).map V.int))=H4 at s4 hA1⊢
  have s24:=s2.trans (s3.trans s4)
  refine⟨_,rfl,fld (s24 _ _ hq) T.Jb5 T.JbR rfl ⟨l2,Vbemae.greatests N,rfl,s24 _ _ h2,by omega,fun r2 H5 s5 nr2 hr2=>?_⟩⟩
  refine⟨a1,r2,_,_,rfl,rfl,s5 _ _ hA1,hr2,?_,fun a2 n2=>?_⟩
  ·rw[List.length_append,List.length_map,List.length_map,Qn,Qn];show 1+_+_≤_;exact Jgb (by omega)
  have sE:=s1.trans (s24.trans s5)
  refine k a2 _ _ _ (.of_same (Jk sE (Jg.free sE n2)) hO) (Jg.free sE n2) ?_
  rw[Jb]
  show _=some (HO.lst (List.map V.int (0::(Vbemae.row (Vbemae.leasts N)++Vbemae.row (Vbemae.greatests N)))))
  rw[List.map_cons,List.map_append]
  simp only[List.cons_append,List.nil_append,List.append_assoc]
theorem JnQ (T:Txt w K mg A):JF P w K mg base CX0 7 A.WL A.Ja9 ["net","call"] (JR A Job):=by
 refine T.Jft.F.ok Y5 (fun vs H Q E h=>?_) (fun cdv AA outer s H vs Q E hr h=>?_)
 ·obtain⟨p,c,N,lp,op,ls,os,pl,ns,rws,cc,rfl,_⟩:=h
  rfl
 ·obtain⟨p,c,N,lp,op,ls,os,pl,ns,rws,cc,rfl,hO,ok,hC,⟨z,rfl,rfl⟩,k⟩:=h
  obtain⟨dc,nl,ll,rs,hc,hn,hls,hrs⟩:=hC
  obtain⟨dn,hnet⟩:=hO.at_.net
  have z6:=ok.ok.z6
  have ook:=UG ok.ok
  refine⟨_,(Jd (sA 2 Y5.nd (iL K (fL K (pv 1)) Jm))
   (Jd (Qa (JA Jgm (pv 2) (fL K (pv 0)) (JJ _)) (Jf (Jl (Js (Ja (gL T.WV) Jc)))) JD)
   (Jd (sA 3 Y5.nd (cL (Qx T) hr T.Qt (Ja (pv 0) Jc)))
   (Jd (sA 4 Y5.nd (cL (Vd T) hr T.Yn (Ja (pv 0) (Ja (fL K (pv 3)) (Ja (pv 2) (Ja (gL T.JfT) Jc))))))
   (Jd (sA 5 Y5.nd (cL (Vd T) hr T.Yn (Ja (pv 0) (Ja (fL K (pv 3)) (Ja (pv 2) (Ja (gL T.Jb3) Jc))))))
   (Jf (Jl (Js (Ja Jm (Ja (iL K (fL K (pv 3)) (pv 2)) (Ja (pv 4) (Ja (pv 5) (Ja (cL (Je1 T) hr T.Jc6 (Ja (pv 0) (Ja (fL K (pv 3)) (Ja (pv 2) Jc)))) Jc))))))))))))),?_⟩
  refine⟨_,rfl,fld hc T.Jz T.Jo rfl ⟨nl,_,_,_,rfl,rfl,SqL.of hn,Jp (j:=0) rfl,?_⟩⟩
  refine⟨_,rfl,_,rfl,fld hnet T.Jt T.Jw rfl ⟨_,_,rfl,rfl,_,rfl,J4 (fun hz=>?_) (fun hz=>?_)⟩⟩
  ·have hz':N.zones≤z:=by have:=of_decide_eq_true hz;omega
   refine⟨(by show 1≤sizeLine;decide),fun a0 n0=>k a0 _ ls os ?_ n0 ?_⟩
   ·show JcQ A H _ p (Vbemae.onNet N (.zone z)).1 lp op ls os ls os
    rw[show Vbemae.onNet N (.zone z)=(N,[-3]) from if_pos hz']
    exact .of_same (Jj n0) hO
   ·rw[Jb,show Vbemae.onNet N (.zone z)=(N,[-3]) from if_pos hz'];rfl
  ·have hz':z<N.zones:=by have:=of_decide_eq_false hz;omega
   have eN:Vbemae.onNet N (.zone z)=(N,[0,Vbemae.priceAt (Vbemae.cleared N).prices z,Vbemae.sold N (Vbemae.cleared N).shares z,Vbemae.bought N (Vbemae.cleared N).shares z,Vbemae.carried N (Vbemae.cleared N).flows z]):=if_neg (by omega)
   refine⟨_,rfl,p,N,rfl,hO.is,ok.ok,fun q H1 s1 hq=>?_⟩
   have i1:Jdb A H1 p q N (Vbemae.cleared N):=⟨hO.is.same s1,ok.ok,hq,ook⟩
   obtain⟨dq,l1,l2,l3,hq0,h10,h20,h30⟩:=hq
   have j1:JcT A H1 p l2 N (Vbemae.cleared N).shares N.orders.length:=⟨hO.is.same s1,ok.ok,h20,ook.sl⟩
   have j2:JcT A H1 p l3 N (Vbemae.cleared N).flows N.lines.length:=⟨hO.is.same s1,ok.ok,h30,ook.fl⟩
   refine⟨_,rfl,_,rfl,fld hq0 T.JW T.JU rfl ⟨_,rfl,p,l2,N,_,z,false,rfl,j1,fun H2 s2=>?_⟩⟩
   refine⟨_,rfl,_,rfl,fld (s2 _ _ hq0) T.JW T.JU rfl ⟨_,rfl,p,l2,N,_,z,true,rfl,j1.same s2,fun H3 s3=>?_⟩⟩
   have s23:=s2.trans s3
   have hq':=s23 _ _ hq0
   have h1:=s23 _ _ h10
   refine⟨_,rfl,fld hq' T.JW T.Us rfl ⟨_,rfl,l1,_,_,_,rfl,rfl,SqL.of h1,Jp (JhQ (by rw[ook.pl];exact hz')),?_⟩⟩
   refine⟨_,rfl,_,rfl,_,rfl,_,rfl,fld hq' T.JW T.Q4 rfl ⟨_,rfl,p,l3,N,_,z,rfl,j2.same s23,fun H4 s4=>?_⟩⟩
   have sE:=s1.trans (s2.trans (s3.trans s4))
   refine⟨(by show 5≤sizeLine;decide),fun a0 n0=>k a0 _ ls os ?_ (Jg.free sE n0) ?_⟩
   ·rw[eN];exact .of_same (Jk sE (Jg.free sE n0)) hO
   ·rw[Jb,eN];rfl
theorem Jma (T:Txt w K mg A):JF P w K mg base CX0 7 A.Wc A.V9 ["net","call"] (JR A Jkn):=by
 refine T.Jef.F.ok Jgd (fun vs H Q E h=>?_) (fun cdv AA outer s H vs Q E hr h=>?_)
 ·obtain⟨p,c,N,lp,op,ls,os,pl,ns,rws,cc,rfl,_⟩:=h
  rfl
 ·obtain⟨p,c,N,lp,op,ls,os,pl,ns,rws,cc,rfl,hO,ok,hC,⟨rfl,rfl⟩,k⟩:=h
  have ook:=UG ok.ok
  have l12:=ok.ok.l12
  have rl:=JfN ook
  refine⟨_,(Jd (sA 2 Jgd.nd (cL (Qx T) hr T.Qt (Ja (pv 0) Jc)))
   (Jf (Jl (JB Q7 (Js (Ja Jm (Ja (cL (Jjh T) hr T.Jhe (Ja (pv 0) (Ja (pv 2) (Ja (gL T.Jb3) Jc)))) (Ja (cL (Jjh T) hr T.Jhe (Ja (pv 0) (Ja (pv 2) (Ja (gL T.JfT) Jc)))) Jc)))) (cL (JbL T) hr T.Jey (Ja (cL (JcZ T) hr T.Jbv (Ja (pv 0) (Ja (pv 2) Jc))) Jc)))))),?_⟩
  refine⟨_,rfl,p,N,rfl,hO.is,ok.ok,fun q H1 s1 hq=>?_⟩
  have i1:Jdb A H1 p q N (Vbemae.cleared N):=⟨hO.is.same s1,ok.ok,hq,ook⟩
  refine⟨_,rfl,_,rfl,p,q,N,_,true,rfl,i1,fun H2 s2=>?_⟩
  refine⟨_,rfl,_,rfl,p,q,N,_,false,rfl,i1.same s2,fun H3 s3=>?_⟩
  refine⟨(by show 3≤sizeLine;decide),fun a0 n0=>?_⟩
  have s4:Jg H3 (upd H3 a0 (.lst [.int 0,.int (JhE N (Vbemae.cleared N) true),.int (JhE N (Vbemae.cleared N) false)])):=Jj n0
  have hA:=Jb (H:=H3) (a:=a0) (o:=.lst [.int 0,.int (JhE N (Vbemae.cleared N) true),.int (JhE N (Vbemae.cleared N) false)])
  generalize upd H3 a0 (.lst [.int 0,.int (JhE N (Vbemae.cleared N) true),.int (JhE N (Vbemae.cleared N) false)])=H4 at s4 hA⊢
  have s24:=s2.trans (s3.trans s4)
  refine⟨_,rfl,_,rfl,p,q,N,_,rfl,i1.same s24,fun l5 H5 s5 n5 h5=>?_⟩
  refine⟨l5,_,rfl,h5,by omega,fun r1 H6 s6 nr1 hr1=>?_⟩
  refine⟨a0,r1,_,_,rfl,rfl,s6 _ _ (s5 _ _ hA),hr1,?_,fun a1 n1=>?_⟩
  ·rw[List.length_map,Qn];show 3+_≤_;exact Jgb (by omega)
  have sE:=s1.trans (s24.trans (s5.trans s6))
  refine k a1 _ _ _ (.of_same (Jk sE (Jg.free sE n1)) hO) (Jg.free sE n1) ?_
  rw[Jb,JtC,JnK]
  rfl
theorem JjO (T:Txt w K mg A):JF P w K mg base CX0 7 A.Ua A.Yv ["net","call"] (JR A JfX):=by
 refine T.Jca.F.ok JaV (fun vs H Q E h=>?_) (fun cdv AA outer s H vs Q E hr h=>?_)
 ·obtain⟨p,c,N,lp,op,ls,os,pl,ns,rws,cc,rfl,_⟩:=h
  rfl
 ·obtain⟨p,c,N,lp,op,ls,os,pl,ns,rws,cc,rfl,hO,ok,hC,⟨rfl,rfl⟩,k⟩:=h
  have ook:=UG ok.ok
  have l12:=ok.ok.l12
  have rl:=JfN ook
  refine⟨_,(Jd (sA 2 JaV.nd (cL (Qx T) hr T.Qt (Ja (pv 0) Jc)))
   (Jd (sA 3 JaV.nd (Js (Ja (cL (Jeu T) hr T.Jcd (Ja (pv 0) (Ja (pv 2) (Ja (gL T.Jb3) Jc)))) (Ja (cL (Jeu T) hr T.Jcd (Ja (pv 0) (Ja (pv 2) (Ja (gL T.JfT) Jc)))) Jc))))
   (Jf (Jl (JB Q7 (JB Q7 (Js (Ja Jm (Ja (cL (Wr T) hr T.UU (Ja (pv 0) (Ja (fL K (pv 2)) Jc))) Jc))) (pv 3)) (Js (Ja (JV (V1 K rfl rfl) (by rfl) T.Jg8 PyProof.Rows.boot_sum (Ja (cL (JcZ T) hr T.Jbv (Ja (pv 0) (Ja (pv 2) Jc))) Jc)) Jc))))))),?_⟩
  refine⟨_,rfl,p,N,rfl,hO.is,ok.ok,fun q H1 s1 hq=>?_⟩
  have i1:Jdb A H1 p q N (Vbemae.cleared N):=⟨hO.is.same s1,ok.ok,hq,ook⟩
  obtain⟨dq,l1,l2,l3,hq0,h10,h20,h30⟩:=hq
  have j1:JcT A H1 p l2 N (Vbemae.cleared N).shares N.orders.length:=⟨hO.is.same s1,ok.ok,h20,ook.sl⟩
  refine⟨_,rfl,_,rfl,p,q,N,_,true,rfl,i1,fun H2 s2=>?_⟩
  refine⟨_,rfl,_,rfl,p,q,N,_,false,rfl,i1.same s2,fun H3 s3=>?_⟩
  rw[JqW,JoN]
  refine⟨(by show 2≤sizeLine;decide),fun a0 n0=>?_⟩
  generalize hb:Vbemae.buyersSurplus N (Vbemae.cleared N).prices (Vbemae.cleared N).shares=bs
  generalize hs:Vbemae.sellersSurplus N (Vbemae.cleared N).prices (Vbemae.cleared N).shares=ss
  have s4:Jg H3 (upd H3 a0 (.lst [.int bs,.int ss])):=Jj n0
  have hA:=Jb (H:=H3) (a:=a0) (o:=.lst [.int bs,.int ss])
  generalize upd H3 a0 (.lst [.int bs,.int ss])=H4 at s4 hA⊢
  have s24:=s2.trans (s3.trans s4)
  refine⟨_,rfl,_,rfl,fld (s24 _ _ hq0) T.JW T.JU rfl ⟨p,l2,N,_,rfl,j1.same s24,fun H5 s5=>?_⟩⟩
  refine⟨(by show 2≤sizeLine;decide),fun a1 n1=>?_⟩
  generalize hw:Vbemae.welfare N (Vbemae.cleared N).shares=wf
  have s6:Jg H5 (upd H5 a1 (.lst [.int 0,.int wf])):=Jj n1
  have hA1:=Jb (H:=H5) (a:=a1) (o:=.lst [.int 0,.int wf])
  generalize upd H5 a1 (.lst [.int 0,.int wf])=H6 at s6 hA1⊢
  refine⟨_,rfl,a1,a0,_,_,rfl,rfl,hA1,s6 _ _ (s5 _ _ hA),(by show 2+2≤sizeLine;decide),fun a2 n2=>?_⟩
  have s7:Jg H6 (upd H6 a2 (.lst ([.int 0,.int wf]++[.int bs,.int ss]))):=Jj n2
  have hA2:=Jb (H:=H6) (a:=a2) (o:=.lst ([.int 0,.int wf]++[.int bs,.int ss]))
  generalize upd H6 a2 (.lst ([.int 0,.int wf]++[.int bs,.int ss]))=H7 at s7 hA2⊢
  have s57:=s5.trans (s6.trans s7)
  refine⟨_,rfl,_,rfl,p,q,N,_,rfl,i1.same (s24.trans s57),fun l5 H8 s8 n8 h8=>?_⟩
  refine⟨l5,_,rfl,SqL.of h8,?_⟩
  refine⟨(by show 1≤sizeLine;decide),fun a3 n3=>?_⟩
  have s9:Jg H8 (upd H8 a3 (.lst [.int (Vbemae.rents N (Vbemae.cleared N).prices (Vbemae.cleared N).flows).sum])):=Jj n3
  refine⟨a2,a3,_,_,rfl,rfl,s9 _ _ (s8 _ _ hA2),Jb,(by show 4+1≤sizeLine;decide),fun a4 n4=>?_⟩
  have sE:=s1.trans (s24.trans (s57.trans (s8.trans s9)))
  refine k a4 _ _ _ (.of_same (Jk sE (Jg.free sE n4)) hO) (Jg.free sE n4) ?_
  rw[Jb]
  show _=some (HO.lst (List.map V.int [0,Vbemae.welfare N (Vbemae.cleared N).shares,Vbemae.buyersSurplus N (Vbemae.cleared N).prices (Vbemae.cleared N).shares,Vbemae.sellersSurplus N (Vbemae.cleared N).prices (Vbemae.cleared N).shares,Vbemae.total (Vbemae.rents N (Vbemae.cleared N).prices (Vbemae.cleared N).flows)]))
  rw[hb,hs,hw]
  rfl
end
end Zm
namespace Zm
open PySem PySem.Spec PyProof.Rows L2
theorem JcQ.then_same {A:Adr} {H H' H'':Hp} {p:Addr} {N':Vbemae.Net} {lp op:Addr} {ls os ls' os':List Addr} (F:JcQ A H H' p N' lp op ls os ls' os') (s:Jg H' H''):JcQ A H H'' p N' lp op ls os ls' os':=
 ⟨F.own.same s,fun b o e h1 h2 h3 h4=>s _ _ (F.keep b o e h1 h2 h3 h4),F.newL,F.newO⟩
theorem Q5.snoc {α β:Type} {R:α→β→Prop} {xs:List α} {ys:List β} {x:α} {y:β} (h:Q5 R xs ys) (r:R x y):Q5 R (xs++[x]) (ys++[y]):=by
 refine⟨by rw[List.length_append,List.length_append,h.len];rfl,fun i a b ha hb=>?_⟩
 rw[List.getElem?_append] at ha hb
 rw[h.len] at ha
 split at ha
 ·rename_i hlt;rw[if_pos hlt] at hb;exact h.at_ _ _ _ ha hb
 ·rename_i hlt
  rw[if_neg hlt] at hb
  rcases Nat.eq_zero_or_pos (i-ys.length) with z|z
  ·rw[z] at ha hb
   have e1:x=a:=Option.some.inj ha
   have e2:y=b:=Option.some.inj hb
   subst e1 e2;exact r
  ·rw[List.getElem?_eq_none (by simp;omega)] at ha;cases ha
theorem Jlb {xs:List Addr} {x:Addr} (h:xs.Nodup) (n:x∉xs):(xs++[x]).Nodup:=by
 refine List.nodup_append.mpr ⟨h,by simp,fun a ha b hb=>?_⟩
 rw[List.mem_singleton] at hb
 subst hb
 exact fun q=>n (q▸ha)
theorem Q5.mem {α β:Type} {R:α→β→Prop} {xs:List α} {ys:List β} (h:Q5 R xs ys) {x:α} (m:x∈xs):∃y,R x y:=by
 obtain⟨i,hi⟩:=List.getElem?_of_mem m
 obtain⟨y,_,r⟩:=h.get hi
 exact⟨y,r⟩
section
variable {A:Adr} {H H1:Hp} {p lp op x:Addr} {N:Vbemae.Net} {ls os:List Addr}
theorem Jj1 {l:Vbemae.Line} (hO:Own A H p N lp op ls os) (s:Jg H H1) (nx:H x=none) (hx:Jeb A H1 x l):
  JcQ A H (upd H1 lp (.lst (ls.map V.ref++[.ref x]))) p {N with lines:=N.lines++[l]} lp op ls os (ls++[x]) os:=by
 have hlp:=s _ _ hO.at_.lls
 have up:∀{b:Addr} {C dx:Addr} {f:List (Str×V)},H1 b=some (.ins C dx f)→upd H1 lp (.lst (ls.map V.ref++[.ref x])) b=some (.ins C dx f):=fun {b C dx f} e=>by
  rw[Jh (Q8 e hlp (by intro z;cases z))];exact e
 refine⟨⟨⟨?_,?_,?_,?_,?_⟩,Jlb hO.nl fun m=>?_,hO.no,hO.ne⟩,fun b o e h1 _ _ _=>by rw[Jh h1];exact s _ _ e,fun b hb=>?_,fun b hb=>.inl hb⟩
 ·obtain⟨dx,e⟩:=hO.at_.net;exact⟨dx,up (s _ _ e)⟩
 ·rw[Jb,List.map_append];rfl
 ·rw[Jh (Ne.symm hO.ne)];exact s _ _ hO.at_.los
 ·refine Q5.snoc (hO.at_.ln.imp fun a l ⟨dx,e⟩=>⟨dx,up (s _ _ e)⟩) ?_
  obtain⟨dx,e⟩:=hx;exact⟨dx,up e⟩
 ·exact hO.at_.od.imp fun a o ⟨dx,e⟩=>⟨dx,up (s _ _ e)⟩
 ·obtain⟨y,dx,e⟩:=hO.at_.ln.mem m
  rw[nx] at e;cases e
 ·rcases List.mem_append.mp hb with h|h
  ·exact .inl h
  ·rw[List.mem_singleton.mp h];exact .inr nx
theorem JiF {o:Vbemae.Order} (hO:Own A H p N lp op ls os) (s:Jg H H1) (nx:H x=none) (hx:Jbt A H1 x o):
  JcQ A H (upd H1 op (.lst (os.map V.ref++[.ref x]))) p {N with orders:=N.orders++[o]} lp op ls os ls (os++[x]):=by
 have hop:=s _ _ hO.at_.los
 have up:∀{b:Addr} {C dx:Addr} {f:List (Str×V)},H1 b=some (.ins C dx f)→upd H1 op (.lst (os.map V.ref++[.ref x])) b=some (.ins C dx f):=fun {b C dx f} e=>by
  rw[Jh (Q8 e hop (by intro z;cases z))];exact e
 refine⟨⟨⟨?_,?_,?_,?_,?_⟩,hO.nl,Jlb hO.no fun m=>?_,hO.ne⟩,fun b o e _ h1 _ _=>by rw[Jh h1];exact s _ _ e,fun b hb=>.inl hb,fun b hb=>?_⟩
 ·obtain⟨dx,e⟩:=hO.at_.net;exact⟨dx,up (s _ _ e)⟩
 ·rw[Jh hO.ne];exact s _ _ hO.at_.lls
 ·rw[Jb,List.map_append];rfl
 ·exact hO.at_.ln.imp fun a o ⟨dx,e⟩=>⟨dx,up (s _ _ e)⟩
 ·refine Q5.snoc (hO.at_.od.imp fun a l ⟨dx,e⟩=>⟨dx,up (s _ _ e)⟩) ?_
  obtain⟨dx,e⟩:=hx;exact⟨dx,up e⟩
 ·obtain⟨y,dx,e⟩:=hO.at_.od.mem m
  rw[nx] at e;cases e
 ·rcases List.mem_append.mp hb with h|h
  ·exact .inl h
  ·rw[List.mem_singleton.mp h];exact .inr nx
theorem Jpj {xs:List Addr} (h:xs.Nodup) {i j:Nat} {a:Addr} (hi:xs[i]? =some a) (hj:xs[j]? =some a):i=j:=by
 have h1:=List.getElem?_eq_some_iff.mp hi
 have h2:=List.getElem?_eq_some_iff.mp hj
 exact(List.getElem_inj h).mp (h1.2.trans h2.2.symm)
theorem Jls {i:Nat} {a:Addr} {l:Vbemae.Line} {f g:Int} {H':Hp} (hO:Own A H p N lp op ls os) (ha:ls[i]? =some a) (hl:N.lines[i]? =some l) (hk:∀b,b≠a→H' b=H b) (hx:Jeb A H' a {l with forth:=f,back:=g}):
  JcQ A H H' p (Vbemae.withRooms N i f g) lp op ls os ls os:=by
 obtain⟨d0,e0⟩:=hO.at_.ln.at_ i a l ha hl
 have sm:∀{b:Addr} {o:HO},H b=some o→(∀d,o≠.ins A.Wg d (JlO (.int l.a) (.int l.b) (.int l.forth) (.int l.back)))→H' b=some o:=fun {b o} e n=>by
  rw[hk b fun q=>by subst q;rw[e0] at e;exact n d0 (Option.some.inj e).symm];exact e
 refine⟨⟨⟨?_,sm hO.at_.lls (by intro _ z;nomatch z),sm hO.at_.los (by intro _ z;nomatch z),⟨?_,fun j b l' hb hl'=>?_⟩,hO.at_.od.imp fun b o ⟨dx,e⟩=>⟨dx,sm e (by intro d z;injection z with _ _ h;injection h with h _;injection h with h _;exact absurd h (by decide))⟩⟩,hO.nl,hO.no,hO.ne⟩,fun b o e _ _ h3 _=>?_,fun b hb=>.inl hb,fun b hb=>.inl hb⟩
 ·obtain⟨dx,e⟩:=hO.at_.net;exact⟨dx,sm e (by intro d z;injection z with _ _ h;injection h with h _;injection h with h _;exact absurd h (by decide))⟩
 ·unfold Vbemae.withRooms;rw[List.length_modify];exact hO.at_.ln.len
 ·unfold Vbemae.withRooms at hl'
  rw[List.getElem?_modify] at hl'
  by_cases hij:i=j
  ·subst hij
   rw[ha] at hb
   have e1:=Option.some.inj hb
   subst e1
   rw[hl] at hl'
   simp at hl'
   subst hl';exact hx
  ·have e2:N.lines[j]? =some l':=by
    cases h:N.lines[j]? with
    |none=>rw[h] at hl';simp at hl'
    |some y=>rw[h] at hl';simp[hij] at hl';rw[hl']
   obtain⟨dx,e⟩:=hO.at_.ln.at_ j b l' hb e2
   exact⟨dx,by rw[hk b fun q=>hij (Jpj hO.nl ha (q▸hb))];exact e⟩
 ·rw[hk b fun q=>h3 (q▸List.mem_of_getElem? ha)];exact e
theorem Jj0 {i:Nat} {a:Addr} {o:Vbemae.Order} {q:Int} {H':Hp} (hO:Own A H p N lp op ls os) (ha:os[i]? =some a) (hl:N.orders[i]? =some o) (hk:∀b,b≠a→H' b=H b) (hx:Jbt A H' a {o with amount:=q}):
  JcQ A H H' p (Vbemae.withAmount N i q) lp op ls os ls os:=by
 obtain⟨d0,e0⟩:=hO.at_.od.at_ i a o ha hl
 have sm:∀{b:Addr} {u:HO},H b=some u→(∀d,u≠.ins A.Um d (Jku (.int o.zone) (.int (Y2 o.buy)) (.int o.price) (.int o.amount)))→H' b=some u:=fun {b u} e n=>by
  rw[hk b fun q=>by subst q;rw[e0] at e;exact n d0 (Option.some.inj e).symm];exact e
 refine⟨⟨⟨?_,sm hO.at_.lls (by intro _ z;nomatch z),sm hO.at_.los (by intro _ z;nomatch z),hO.at_.ln.imp fun b l ⟨dx,e⟩=>⟨dx,sm e (by intro d z;injection z with _ _ h;injection h with h _;injection h with h _;exact absurd h (by decide))⟩,⟨?_,fun j b o' hb hl'=>?_⟩⟩,hO.nl,hO.no,hO.ne⟩,fun b u e _ _ _ h3=>?_,fun b hb=>.inl hb,fun b hb=>.inl hb⟩
 ·obtain⟨dx,e⟩:=hO.at_.net;exact⟨dx,sm e (by intro d z;injection z with _ _ h;injection h with h _;injection h with h _;exact absurd h (by decide))⟩
 ·unfold Vbemae.withAmount;rw[List.length_modify];exact hO.at_.od.len
 ·unfold Vbemae.withAmount at hl'
  rw[List.getElem?_modify] at hl'
  by_cases hij:i=j
  ·subst hij
   rw[ha] at hb
   have e1:=Option.some.inj hb
   subst e1
   rw[hl] at hl'
   simp at hl'
   subst hl';exact hx
  ·have e2:N.orders[j]? =some o':=by
    cases h:N.orders[j]? with
    |none=>rw[h] at hl';simp at hl'
    |some y=>rw[h] at hl';simp[hij] at hl';rw[hl']
   obtain⟨dx,e⟩:=hO.at_.od.at_ j b o' hb e2
   exact⟨dx,by rw[hk b fun q=>hij (Jpj hO.no ha (q▸hb))];exact e⟩
 ·rw[hk b fun q=>h3 (q▸List.mem_of_getElem? ha)];exact e
end
noncomputable def Jod (ns:List Int) (_:List (List Int)) (c:Vbemae.Call):Prop:=∃(a b:Nat) (f g:Int),ns=[(a:Int),(b:Int),f,g]∧c=.line a b f g
noncomputable def Jkm (ns:List Int) (_:List (List Int)) (c:Vbemae.Call):Prop:=∃(z:Nat) (b:Bool) (q r:Int),ns=[(z:Int),Y2 b,q,r]∧c=.order ⟨z,b,q,r⟩
noncomputable def Jkk (ns:List Int) (_:List (List Int)) (c:Vbemae.Call):Prop:=∃(l:Nat) (f g:Int),ns=[(l:Int),f,g]∧c=.rooms l f g
noncomputable def Jkr (ns:List Int) (_:List (List Int)) (c:Vbemae.Call):Prop:=∃(l:Nat) (q:Int),ns=[(l:Int),q]∧c=.amend l q
section
variable {P:Program} {w:World} {K:PySem.W.Frag} {mg:Str→Option Value} {base:Heap} {A:Adr}
theorem Jph (T:Txt w K mg A):JF P w K mg base CX0 3 A.YQ A.JcC ["net","call"] (JR A Jod):=by
 refine T.Jhh.F.ok JeK (fun vs H Q E h=>?_) (fun cdv AA outer s H vs Q E hr h=>?_)
 ·obtain⟨p,c,N,lp,op,ls,os,pl,ns,rws,cc,rfl,_⟩:=h
  rfl
 ·obtain⟨p,c,N,lp,op,ls,os,pl,ns,rws,cc,rfl,hO,ok,hC,⟨a,b,f,g,rfl,rfl⟩,k⟩:=h
  obtain⟨dc,nl,ll,rs,hc,hn,hls,hrs⟩:=hC
  obtain⟨dn,hnet⟩:=hO.at_.net
  have l12:=ok.ok.l12
  have hll:(ls.map V.ref).length=N.lines.length:=by rw[List.length_map,hO.at_.ln.len]
  have ref:∀r:Int,Vbemae.onNet N (.line a b f g)=(N,[r])→∀a0,H a0=none→Q (.ref a0) (upd H a0 (.lst [.int r])):=fun r e a0 n0=>k a0 _ ls os (by rw[e];exact .of_same (Jj n0) hO) n0 (by rw[Jb,e];rfl)
  refine⟨_,(Jd (sA 2 JeK.nd (iL K (fL K (pv 1)) Jm))
   (Jd (sA 3 JeK.nd (iL K (fL K (pv 1)) Jm))
   (Jd (Qa (JvB (JA Jgm (pv 2) (fL K (pv 0)) (JJ _)) (JvB (JA Jgm (pv 3) (fL K (pv 0)) (JJ _)) (JvZ (JA YX (pv 2) (pv 3) (JJ _))))).pt (Jf (Jl (Js (Ja (gL T.WV) Jc)))) JD)
   (Jd (Qa (JA YX (lN K T.Q9 (Ja (fL K (pv 0)) Jc)) (gL T.Jn6) (JJ _)) (Jf (Jl (Js (Ja (gL T.JtU) Jc)))) JD)
   (Jd (U4 (Jdp PySem.F.plainAttrs_list PySem.F.slot_list_append PySem.F.type_list_append Wm (fL K (pv 0)) (Ja (mA (JnU T) hr T.Jjx T.Jwc (Ja (pv 2) (Ja (pv 3) (Ja (iL K (fL K (pv 1)) Jm) (Ja (iL K (fL K (pv 1)) Jm) Jc))))) Jc)))
   (Jf (Jl (Js (Ja Jm (Ja (JB U5 (lN K T.Q9 (Ja (fL K (pv 0)) Jc)) Jm) Jc)))))))))),?_⟩
  refine⟨_,rfl,fld hc T.Jz T.Jo rfl ⟨nl,_,_,_,rfl,rfl,SqL.of hn,Jp (j:=0) rfl,?_⟩⟩
  refine⟨_,rfl,fld hc T.Jz T.Jo rfl ⟨nl,_,_,_,rfl,rfl,SqL.of hn,Jp (j:=1) rfl,?_⟩⟩
  refine⟨_,rfl,_,rfl,fld hnet T.Jt T.Jw rfl ⟨_,_,rfl,rfl,_,rfl,J4 (fun h1=>Jg3 rfl ?_) (fun h1=>?_)⟩⟩
  ·have h1':N.zones≤a:=by have:=of_decide_eq_true h1;omega
   exact⟨(by show 1≤sizeLine;decide),fun a0 n0=>ref (-3) (if_pos (.inl h1')) a0 n0⟩
  have h1':¬N.zones≤a:=by have:=of_decide_eq_false h1;omega
  refine⟨_,rfl,_,rfl,fld hnet T.Jt T.Jw rfl ⟨_,_,rfl,rfl,_,rfl,J4 (fun h2=>Jg3 rfl ?_) (fun h2=>?_)⟩⟩
  ·have h2':N.zones≤b:=by have:=of_decide_eq_true h2;omega
   exact⟨(by show 1≤sizeLine;decide),fun a0 n0=>ref (-3) (if_pos (.inr (.inl h2'))) a0 n0⟩
  have h2':¬N.zones≤b:=by have:=of_decide_eq_false h2;omega
  refine⟨_,rfl,_,rfl,rfl,_,rfl,J4 (fun h3=>?_) (fun h3=>?_)⟩
  ·have h3':a=b:=by have:=Jfb h3;omega
   exact⟨(by show 1≤sizeLine;decide),fun a0 n0=>ref (-3) (if_pos (.inr (.inr h3'))) a0 n0⟩
  have h3':¬a=b:=fun e=>JaO h3 (by rw[e])
  have nn:¬(N.zones≤a∨N.zones≤b∨a=b):=by omega
  refine⟨_,rfl,fld hnet T.Jt T.JE rfl ⟨lp,_,rfl,.inl (SqL.of hO.at_.lls),rfl,_,rfl,J4 (fun h4=>?_) (fun h4=>?_)⟩⟩
  ·have h4':Vbemae.LINES≤N.lines.length:=by have:=Jfb h4;rw[hll] at this;unfold Vbemae.LINES;omega
   exact⟨(by show 1≤sizeLine;decide),fun a0 n0=>ref (-5) ((if_neg nn).trans (if_pos h4')) a0 n0⟩
  have h4':¬Vbemae.LINES≤N.lines.length:=fun q=>JaO h4 (by rw[hll];unfold Vbemae.LINES at q;omega)
  have eN:Vbemae.onNet N (.line a b f g)=({N with lines:=N.lines++[⟨a,b,f,g⟩]},[0,(N.lines.length:Int)]):=(if_neg nn).trans (if_neg h4')
  refine⟨_,rfl,fld hnet T.Jt T.JE rfl ⟨.inl ⟨rfl,_,SqL.of hO.at_.lls⟩,?_⟩⟩
  refine⟨_,rfl,_,rfl,_,rfl,fld hc T.Jz T.Jo rfl ⟨nl,_,_,_,rfl,rfl,SqL.of hn,Jp (j:=2) rfl,?_⟩⟩
  refine⟨_,rfl,fld hc T.Jz T.Jo rfl ⟨nl,_,_,_,rfl,rfl,SqL.of hn,Jp (j:=3) rfl,?_⟩⟩
  intro x dx nx ndx nxd
  refine⟨x,dx,_,_,_,_,rfl,Jb,fun H1 k1 hx=>⟨rfl,?_⟩⟩
  have s1:=Jg.made nx ndx k1
  refine⟨lp,_,_,rfl,rfl,s1 _ _ hO.at_.lls,?_,?_⟩
  ·rw[hll];exact Nat.lt_of_le_of_lt l12 (by decide)
  have FR:=Jj1 (l:=⟨a,b,f,g⟩) hO s1 nx ⟨dx,hx⟩
  obtain⟨dn2,hnet2⟩:=FR.own.at_.net
  have hlp2:=Jb (H:=H1) (a:=lp) (o:=.lst (ls.map V.ref++[.ref x]))
  have fr:∀a0,upd H1 lp (.lst (ls.map V.ref++[.ref x])) a0=none→H a0=none:=fun a0 n0=>by
   by_cases q:a0=lp
   ·subst q;rw[Jb] at n0;cases n0
   ·rw[Jh q] at n0;exact Jg.free s1 n0
  generalize upd H1 lp (.lst (ls.map V.ref++[.ref x]))=H2 at FR hnet2 hlp2 fr⊢
  refine⟨_,rfl,fld hnet2 T.Jt T.JE rfl ⟨lp,_,rfl,.inl (SqL.of hlp2),_,_,rfl,rfl,(by show 2≤sizeLine;decide),fun a0 n0=>?_⟩⟩
  refine k a0 _ (ls++[x]) os ?_ (fr a0 n0) ?_
  ·rw[eN];exact FR.then_same (Jj n0)
  ·rw[Jb,eN,List.length_append,hll]
   show some (HO.lst [V.int 0,V.int (((N.lines.length+1:Nat):Int)-1)])=some (HO.lst [V.int 0,V.int (N.lines.length:Int)])
   rw[show((N.lines.length+1:Nat):Int)-1=(N.lines.length:Int) by omega]
theorem JnT (T:Txt w K mg A):JF P w K mg base CX0 3 A.WN A.Jbg ["net","call"] (JR A Jkm):=by
 refine T.JfD.F.ok JdJ (fun vs H Q E h=>?_) (fun cdv AA outer s H vs Q E hr h=>?_)
 ·obtain⟨p,c,N,lp,op,ls,os,pl,ns,rws,cc,rfl,_⟩:=h
  rfl
 ·obtain⟨p,c,N,lp,op,ls,os,pl,ns,rws,cc,rfl,hO,ok,hC,⟨z,b,q,r,rfl,rfl⟩,k⟩:=h
  obtain⟨dc,nl,ll,rs,hc,hn,hls,hrs⟩:=hC
  obtain⟨dn,hnet⟩:=hO.at_.net
  have o40:=ok.o40
  have hll:(os.map V.ref).length=N.orders.length:=by rw[List.length_map,hO.at_.od.len]
  have ref:∀i:Int,Vbemae.onNet N (.order ⟨z,b,q,r⟩)=(N,[i])→∀a0,H a0=none→Q (.ref a0) (upd H a0 (.lst [.int i])):=fun i e a0 n0=>k a0 _ ls os (by rw[e];exact .of_same (Jj n0) hO) n0 (by rw[Jb,e];rfl)
  refine⟨_,(Jd (sA 2 JdJ.nd (iL K (fL K (pv 1)) Jm))
   (Jd (sA 3 JdJ.nd (iL K (fL K (pv 1)) Jm))
   (Jd (Qa (JA Jgm (pv 2) (fL K (pv 0)) (JJ _)) (Jf (Jl (Js (Ja (gL T.WV) Jc)))) JD)
   (Jd (Qa (Jin (Jk0 JbK JbK (fL K (pv 0)) (pv 3) (fL K (pv 0)))) (Jf (Jl (Js (Ja (gL T.JiD) Jc)))) JD)
   (Jd (Qa (JA YX (lN K T.Q9 (Ja (fL K (pv 0)) Jc)) (gL T.Jmi) (JJ _)) (Jf (Jl (Js (Ja (gL T.JtU) Jc)))) JD)
   (Jd (U4 (Jdp PySem.F.plainAttrs_list PySem.F.slot_list_append PySem.F.type_list_append Wm (fL K (pv 0)) (Ja (mA (Jc1 T) hr T.Jbw T.JnZ (Ja (pv 2) (Ja (iL K (fL K (pv 1)) Jm) (Ja (pv 3) (Ja (iL K (fL K (pv 1)) Jm) Jc))))) Jc)))
   (Jf (Jl (Js (Ja Jm (Ja (JB U5 (lN K T.Q9 (Ja (fL K (pv 0)) Jc)) Jm) Jc))))))))))),?_⟩
  refine⟨_,rfl,fld hc T.Jz T.Jo rfl ⟨nl,_,_,_,rfl,rfl,SqL.of hn,Jp (j:=0) rfl,?_⟩⟩
  refine⟨_,rfl,fld hc T.Jz T.Jo rfl ⟨nl,_,_,_,rfl,rfl,SqL.of hn,Jp (j:=2) rfl,?_⟩⟩
  refine⟨_,rfl,_,rfl,fld hnet T.Jt T.Jw rfl ⟨_,_,rfl,rfl,_,rfl,J4 (fun h1=>?_) (fun h1=>?_)⟩⟩
  ·have h1':N.zones≤z:=by have:=of_decide_eq_true h1;omega
   exact⟨(by show 1≤sizeLine;decide),fun a0 n0=>ref (-3) (if_pos h1') a0 n0⟩
  have h1':¬N.zones≤z:=by have:=of_decide_eq_false h1;omega
  refine⟨_,rfl,fld hnet T.Jt T.UE rfl ⟨_,rfl,_,_,rfl,rfl,_,rfl,J4 (fun h2=>?_) (fun h2=>?_)⟩⟩
  rotate_left
  ·have h2':q<N.lo:=by have:=of_decide_eq_false h2;omega
   refine⟨_,rfl,Jg3 rfl ⟨(by show 1≤sizeLine;decide),fun a0 n0=>ref (-4) ((if_neg h1').trans (if_pos (.inl h2'))) a0 n0⟩⟩
  have h2':N.lo≤q:=of_decide_eq_true h2
  refine⟨_,rfl,fld hnet T.Jt T.Qy rfl ⟨_,_,rfl,rfl,_,rfl,J4 (fun h3=>?_) (fun h3=>?_)⟩⟩
  ·have h3':N.hi<q:=by
    have h3:=(Bool.not_eq_true' _).mp h3
    have:=of_decide_eq_false h3;omega
   exact⟨(by show 1≤sizeLine;decide),fun a0 n0=>ref (-4) ((if_neg h1').trans (if_pos (.inr h3'))) a0 n0⟩
  have h3':q≤N.hi:=by
   have h3:=(Bool.not_eq_false' _).mp h3
   exact of_decide_eq_true h3
  have nn:¬(q<N.lo∨N.hi<q):=by omega
  refine⟨_,rfl,fld hnet T.Jt T.Jv rfl ⟨op,_,rfl,.inl (SqL.of hO.at_.los),rfl,_,rfl,J4 (fun h4=>?_) (fun h4=>?_)⟩⟩
  ·have h4':Vbemae.ORDERS≤N.orders.length:=by have:=Jfb h4;rw[hll] at this;unfold Vbemae.ORDERS;omega
   exact⟨(by show 1≤sizeLine;decide),fun a0 n0=>ref (-5) ((if_neg h1').trans ((if_neg nn).trans (if_pos h4'))) a0 n0⟩
  have h4':¬Vbemae.ORDERS≤N.orders.length:=fun q=>JaO h4 (by rw[hll];unfold Vbemae.ORDERS at q;omega)
  have eN:Vbemae.onNet N (.order ⟨z,b,q,r⟩)=({N with orders:=N.orders++[⟨z,b,q,r⟩]},[0,(N.orders.length:Int)]):=(if_neg h1').trans ((if_neg nn).trans (if_neg h4'))
  refine⟨_,rfl,fld hnet T.Jt T.Jv rfl ⟨.inl ⟨rfl,_,SqL.of hO.at_.los⟩,?_⟩⟩
  refine⟨_,rfl,_,rfl,fld hc T.Jz T.Jo rfl ⟨nl,_,_,_,rfl,rfl,SqL.of hn,Jp (j:=1) rfl,?_⟩⟩
  refine⟨_,rfl,_,rfl,fld hc T.Jz T.Jo rfl ⟨nl,_,_,_,rfl,rfl,SqL.of hn,Jp (j:=3) rfl,?_⟩⟩
  intro x dx nx ndx nxd
  refine⟨x,dx,_,_,_,_,rfl,Jb,fun H1 k1 hx=>⟨rfl,?_⟩⟩
  have s1:=Jg.made nx ndx k1
  refine⟨op,_,_,rfl,rfl,s1 _ _ hO.at_.los,?_,?_⟩
  ·rw[hll];exact Nat.lt_of_le_of_lt o40 (by decide)
  have FR:=JiF (o:=⟨z,b,q,r⟩) hO s1 nx ⟨dx,hx⟩
  obtain⟨dn2,hnet2⟩:=FR.own.at_.net
  have hlp2:=Jb (H:=H1) (a:=op) (o:=.lst (os.map V.ref++[.ref x]))
  have fr:∀a0,upd H1 op (.lst (os.map V.ref++[.ref x])) a0=none→H a0=none:=fun a0 n0=>by
   by_cases q:a0=op
   ·subst q;rw[Jb] at n0;cases n0
   ·rw[Jh q] at n0;exact Jg.free s1 n0
  generalize upd H1 op (.lst (os.map V.ref++[.ref x]))=H2 at FR hnet2 hlp2 fr⊢
  refine⟨_,rfl,fld hnet2 T.Jt T.Jv rfl ⟨op,_,rfl,.inl (SqL.of hlp2),_,_,rfl,rfl,(by show 2≤sizeLine;decide),fun a0 n0=>?_⟩⟩
  refine k a0 _ ls (os++[x]) ?_ (fr a0 n0) ?_
  ·rw[eN];exact FR.then_same (Jj n0)
  ·rw[Jb,eN,List.length_append,hll]
   show some (HO.lst [V.int 0,V.int (((N.orders.length+1:Nat):Int)-1)])=some (HO.lst [V.int 0,V.int (N.orders.length:Int)])
   rw[show((N.orders.length+1:Nat):Int)-1=(N.orders.length:Int) by omega]
end
end Zm
namespace Zm
open PySem PySem.Spec PyProof.Rows L2
section
variable {P:Program} {w:World} {K:PySem.W.Frag} {mg:Str→Option Value} {base:Heap} {A:Adr}
theorem JjW (T:Txt w K mg A):JF P w K mg base CX0 1 A.Ud A.YG ["net","call"] (JR A Jkk):=by
 refine T.Jcf.F.ok Jeo (fun vs H Q E h=>?_) (fun cdv AA outer s H vs Q E hr h=>?_)
 ·obtain⟨p,c,N,lp,op,ls,os,pl,ns,rws,cc,rfl,_⟩:=h
  rfl
 ·obtain⟨p,c,N,lp,op,ls,os,pl,ns,rws,cc,rfl,hO,ok,hC,⟨i,f,g,rfl,rfl⟩,k⟩:=h
  obtain⟨dc,nl,ll,rs,hc,hn,hls,hrs⟩:=hC
  obtain⟨dn,hnet⟩:=hO.at_.net
  have hll:(ls.map V.ref).length=N.lines.length:=by rw[List.length_map,hO.at_.ln.len]
  refine⟨_,(Jd (Qa (JA Jgm (iL K (fL K (pv 1)) Jm) (lN K T.Q9 (Ja (fL K (pv 0)) Jc)) (JJ _)) (Jf (Jl (Js (Ja (gL T.WV) Jc)))) JD)
   (Jd (sA 2 Jeo.nd (iL K (fL K (pv 0)) (iL K (fL K (pv 1)) Jm)))
   (Jd (JS (pv 2) (iL K (fL K (pv 1)) Jm) rfl)
   (Jd (JS (pv 2) (iL K (fL K (pv 1)) Jm) rfl)
   (Jf (Jl (Js (Ja Jm Jc)))))))),?_⟩
  refine⟨_,rfl,fld hc T.Jz T.Jo rfl ⟨nl,_,_,_,rfl,rfl,SqL.of hn,Jp (j:=0) rfl,_,rfl,fld hnet T.Jt T.JE rfl ⟨lp,_,rfl,.inl (SqL.of hO.at_.lls),_,_,rfl,rfl,_,rfl,J4 (fun h1=>?_) (fun h1=>?_)⟩⟩⟩
  ·have h1':N.lines.length≤i:=by have:=of_decide_eq_true h1;rw[hll] at this;omega
   have eN:Vbemae.onNet N (.rooms i f g)=(N,[-3]):=if_pos h1'
   exact⟨(by show 1≤sizeLine;decide),fun a0 n0=>k a0 _ ls os (by rw[eN];exact .of_same (Jj n0) hO) n0 (by rw[Jb,eN];rfl)⟩
  have h1':i<N.lines.length:=by have:=of_decide_eq_false h1;rw[hll] at this;omega
  have eN:Vbemae.onNet N (.rooms i f g)=(Vbemae.withRooms N i f g,[0]):=if_neg (by omega)
  have hla:ls[i]? =some (ls[i]'(by rw[hO.at_.ln.len];exact h1')):=List.getElem?_eq_getElem _
  generalize (ls[i]'(by rw[hO.at_.ln.len];exact h1'))=a at hla
  have hl:N.lines[i]? =some N.lines[i]:=List.getElem?_eq_getElem h1'
  generalize N.lines[i]=l at hl
  obtain⟨da,hA⟩:=hO.at_.ln.at_ i a l hla hl
  have hra:(ls.map V.ref)[i]? =some (.ref a):=by rw[List.getElem?_map,hla];rfl
  refine⟨_,rfl,fld hnet T.Jt T.JE rfl ⟨_,rfl,fld hc T.Jz T.Jo rfl ⟨nl,_,_,_,rfl,rfl,SqL.of hn,Jp (j:=0) rfl,lp,_,_,_,rfl,rfl,SqL.of hO.at_.lls,Jp (j:=i) hra,?_⟩⟩⟩
  refine⟨_,rfl,fld hc T.Jz T.Jo rfl ⟨nl,_,_,_,rfl,rfl,SqL.of hn,Jp (j:=1) rfl,_,rfl,a,_,da,_,rfl,hA,T.JN,T.Qk,(by show 4<1000;decide),?_⟩⟩
  have nca:c≠a:=Q8 hc hA (by intro z;injection z with _ _ h;injection h with h _;injection h with h _;exact absurd h (by decide))
  have nna:nl≠a:=Q8 hn hA (by intro z;nomatch z)
  refine⟨_,rfl,fld ((Jh nca).trans hc) T.Jz T.Jo rfl ⟨nl,_,_,_,rfl,rfl,SqL.of ((Jh nna).trans hn),Jp (j:=2) rfl,_,rfl,a,_,da,_,rfl,Jb,T.JN,T.Qq,(by show 4<1000;decide),?_⟩⟩
  have FR:JcQ A H (upd (upd H a (.ins A.Wg da (Qg "forth" (.int f) (JlO (.int l.a) (.int l.b) (.int l.forth) (.int l.back))))) a (.ins A.Wg da (Qg "back" (.int g) (Qg "forth" (.int f) (JlO (.int l.a) (.int l.b) (.int l.forth) (.int l.back)))))) p (Vbemae.withRooms N i f g) lp op ls os ls os:=
   Jls hO hla hl (fun b hb=>by rw[Jh hb,Jh hb]) ⟨da,by rw[Jb];rfl⟩
  refine⟨(by show 1≤sizeLine;decide),fun a0 n0=>k a0 _ ls os (by rw[eN];exact FR.then_same (Jj n0)) ?_ (by rw[Jb,eN];rfl)⟩
  have q:a0≠a:=fun q=>by subst q;rw[Jb] at n0;cases n0
  rw[Jh q,Jh q] at n0;exact n0
theorem Jk8 (T:Txt w K mg A):JF P w K mg base CX0 1 A.UH A.VA ["net","call"] (JR A Jkr):=by
 refine T.Jc7.F.ok JeJ (fun vs H Q E h=>?_) (fun cdv AA outer s H vs Q E hr h=>?_)
 ·obtain⟨p,c,N,lp,op,ls,os,pl,ns,rws,cc,rfl,_⟩:=h
  rfl
 ·obtain⟨p,c,N,lp,op,ls,os,pl,ns,rws,cc,rfl,hO,ok,hC,⟨i,r,rfl,rfl⟩,k⟩:=h
  obtain⟨dc,nl,ll,rs,hc,hn,hls,hrs⟩:=hC
  obtain⟨dn,hnet⟩:=hO.at_.net
  have hll:(os.map V.ref).length=N.orders.length:=by rw[List.length_map,hO.at_.od.len]
  refine⟨_,(Jd (Qa (JA Jgm (iL K (fL K (pv 1)) Jm) (lN K T.Q9 (Ja (fL K (pv 0)) Jc)) (JJ _)) (Jf (Jl (Js (Ja (gL T.WV) Jc)))) JD)
   (Jd (sA 2 JeJ.nd (iL K (fL K (pv 0)) (iL K (fL K (pv 1)) Jm)))
   (Jd (JS (pv 2) (iL K (fL K (pv 1)) Jm) rfl)
   (Jf (Jl (Js (Ja Jm Jc))))))),?_⟩
  refine⟨_,rfl,fld hc T.Jz T.Jo rfl ⟨nl,_,_,_,rfl,rfl,SqL.of hn,Jp (j:=0) rfl,_,rfl,fld hnet T.Jt T.Jv rfl ⟨op,_,rfl,.inl (SqL.of hO.at_.los),_,_,rfl,rfl,_,rfl,J4 (fun h1=>?_) (fun h1=>?_)⟩⟩⟩
  ·have h1':N.orders.length≤i:=by have:=of_decide_eq_true h1;rw[hll] at this;omega
   have eN:Vbemae.onNet N (.amend i r)=(N,[-3]):=if_pos h1'
   exact⟨(by show 1≤sizeLine;decide),fun a0 n0=>k a0 _ ls os (by rw[eN];exact .of_same (Jj n0) hO) n0 (by rw[Jb,eN];rfl)⟩
  have h1':i<N.orders.length:=by have:=of_decide_eq_false h1;rw[hll] at this;omega
  have eN:Vbemae.onNet N (.amend i r)=(Vbemae.withAmount N i r,[0]):=if_neg (by omega)
  have hla:os[i]? =some (os[i]'(by rw[hO.at_.od.len];exact h1')):=List.getElem?_eq_getElem _
  generalize (os[i]'(by rw[hO.at_.od.len];exact h1'))=a at hla
  have hl:N.orders[i]? =some N.orders[i]:=List.getElem?_eq_getElem h1'
  generalize N.orders[i]=l at hl
  obtain⟨da,hA⟩:=hO.at_.od.at_ i a l hla hl
  have hra:(os.map V.ref)[i]? =some (.ref a):=by rw[List.getElem?_map,hla];rfl
  refine⟨_,rfl,fld hnet T.Jt T.Jv rfl ⟨_,rfl,fld hc T.Jz T.Jo rfl ⟨nl,_,_,_,rfl,rfl,SqL.of hn,Jp (j:=0) rfl,op,_,_,_,rfl,rfl,SqL.of hO.at_.los,Jp (j:=i) hra,?_⟩⟩⟩
  refine⟨_,rfl,fld hc T.Jz T.Jo rfl ⟨nl,_,_,_,rfl,rfl,SqL.of hn,Jp (j:=1) rfl,_,rfl,a,_,da,_,rfl,hA,T.Jy,T.JP,(by show 4<1000;decide),?_⟩⟩
  have FR:JcQ A H (upd H a (.ins A.Um da (Qg "amount" (.int r) (Jku (.int l.zone) (.int (Y2 l.buy)) (.int l.price) (.int l.amount))))) p (Vbemae.withAmount N i r) lp op ls os ls os:=
   Jj0 hO hla hl (fun b hb=>by rw[Jh hb]) ⟨da,by rw[Jb];rfl⟩
  refine⟨(by show 1≤sizeLine;decide),fun a0 n0=>k a0 _ ls os (by rw[eN];exact FR.then_same (Jj n0)) ?_ (by rw[Jb,eN];rfl)⟩
  have q:a0≠a:=fun q=>by subst q;rw[Jb] at n0;cases n0
  rw[Jh q] at n0;exact n0
end
end Zm
namespace Zm
open Vbemae
theorem Jrv {N:Net} (L:Jmu N) {z:Nat} (h:z<N.zones) (b:Bool):QN (withUnit N z b):=by
 have K:=L.ok.ok
 have o40:=L.o40
 have hb:=K.bounds
 refine⟨⟨K.bounds,fun o ho=>?_,fun l hl=>?_⟩,L.ok.z1,L.ok.z6,L.ok.l12,?_,L.ok.lo6,L.ok.hi6⟩
 ·rcases List.mem_append.mp ho with ho|ho
  ·exact⟨(K.orders o ho).zone,(K.orders o ho).lo,(K.orders o ho).hi,(K.orders o ho).am⟩
  ·rw[List.mem_singleton.mp ho]
   cases b
   ·exact⟨h,Int.le_refl N.lo,hb,(show(0:Int)≤1 by decide)⟩
   ·exact⟨h,hb,Int.le_refl N.hi,(show(0:Int)≤1 by decide)⟩
 ·exact⟨(K.lines l hl).a,(K.lines l hl).b,(K.lines l hl).ne,(K.lines l hl).forth,(K.lines l hl).back⟩
 ·show(N.orders++[_]).length≤41
  rw[List.length_append];show _+1≤41;omega
end Zm
namespace Zm
open PySem PySem.Spec PyProof.Rows L2
noncomputable def Jf2 (A:Adr):Sp:=fun vs H Q _=>∃(p:Addr) (N:Vbemae.Net),vs=[.ref p]∧UI A H p N∧QN N∧∀H',Jg H H'→Q (.int (Vbemae.bestWelfare N)) H'
noncomputable def Jig (A:Adr):Sp:=fun vs H Q _=>∃(p:Addr) (N:Vbemae.Net) (k:Nat),vs=[.ref p,.int k]∧UI A H p N∧QN N∧k<N.orders.length∧∀x H',Jg H H'→UI A H' x (JdR N k)→Q (.ref x) H'
noncomputable def JjC (A:Adr):Sp:=fun vs H Q _=>∃(p:Addr) (N:Vbemae.Net) (k:Nat),vs=[.ref p,.int k]∧UI A H p N∧QN N∧k<N.lines.length∧∀x H',Jg H H'→UI A H' x (JgW N k)→Q (.ref x) H'
noncomputable def JlS (A:Adr):Sp:=fun vs H Q _=>∃(p q:Addr) (N:Vbemae.Net) (o:Vbemae.Order),vs=[.ref p,.ref q]∧UI A H p N∧QN N∧Jbt A H q o∧∀x H',Jg H H'→UI A H' x {N with orders:=N.orders++[o]}→Q (.ref x) H'
theorem JtJ (i j:Int):(if j>i then j else i)=max i j:=by rw[Int.max_def];split<;>split<;>omega
theorem Jmf {N:Vbemae.Net} (ok:QN N) (k:Nat):QN (JdR N k):=
 ⟨Jk4 ok.ok k,ok.z1,ok.z6,ok.l12,Nat.le_trans (List.length_eraseIdx_le _ _) ok.o41,ok.lo6,ok.hi6⟩
theorem JnW {N:Vbemae.Net} (ok:QN N) (k:Nat):QN (JgW N k):=
 ⟨JmN ok.ok k,ok.z1,ok.z6,Nat.le_trans (List.length_eraseIdx_le _ _) ok.l12,ok.o41,ok.lo6,ok.hi6⟩
theorem Jp8 {N:Vbemae.Net} (ok:QN N) {z:Nat} (hz:z<N.zones):-1000000≤Vbemae.priceAt (Vbemae.prices N) z∧Vbemae.priceAt (Vbemae.prices N) z≤1000000:=(UG ok).pb z hz
theorem JsY {N:Vbemae.Net} (ok:QN N):Vbemae.bestWelfare N=Vbemae.total (N.orders.map fun o=>max 0 (Jds (Vbemae.prices N) o)*o.amount)+Vbemae.total (N.lines.map fun l=>max (l.forth*VU (Vbemae.prices N) l) (-l.back*VU (Vbemae.prices N) l)):=by
 rw[JhW ok.ok]
 unfold F
 congr 1
 ·refine JC _ fun o ho=>?_
  rw[←Qp (ok.ok.orders o ho).zone,←Jwk];rfl
 ·refine JC _ fun l hl=>?_
  have q:=ok.ok.lines l hl
  rw[←Qp q.a,←Qp q.b,←JvX q.forth q.back];rfl
theorem Jud {α:Type} (f:α→V) (l:List α) {k:Nat} (h:k<l.length):UF (l.map f) none (some (k:Int))++UF (l.map f) (some ((k:Int)+1)) none=(l.eraseIdx k).map f:=by
 unfold UF
 rw[show(k:Int)+1=((k+1:Nat):Int) by omega,HT.Jka,HT.Jka,List.length_map,Nat.min_eq_left (Nat.le_of_lt h),Nat.min_eq_left h]
 show List.take (k-0) (List.drop 0 _)++List.take (l.length-(k+1)) _=_
 rw[List.drop_zero,Nat.sub_zero,List.take_of_length_le (l:=List.drop (k+1) _) (by simp),List.eraseIdx_eq_take_drop_succ,List.map_append,List.map_take,List.map_drop]
theorem Q5.erase {α β:Type} {R:α→β→Prop}:∀{xs:List α} {ys:List β} (k:Nat),Q5 R xs ys→Q5 R (xs.eraseIdx k) (ys.eraseIdx k)
 |xs,ys,k,h=>by
  refine⟨by rw[List.length_eraseIdx,List.length_eraseIdx,h.len],fun i x y hx hy=>?_⟩
  rw[List.getElem?_eraseIdx] at hx hy
  split at hx
  ·rename_i hi;rw[if_pos hi] at hy;exact h.at_ _ _ _ hx hy
  ·rename_i hi;rw[if_neg hi] at hy;exact h.at_ _ _ _ hx hy
section
variable {P:Program} {w:World} {K:PySem.W.Frag} {mg:Str→Option Value} {base:Heap} {A:Adr}
theorem Qv (T:Txt w K mg A):JF P w K mg base CX0 6 A.We A.UN ["net"] (Jf2 A):=by
 refine T.Qe.F.ok Qu (fun vs H Q E h=>?_) (fun cdv AA outer s H vs Q E hr h=>?_)
 ·obtain⟨p,N,rfl,_⟩:=h
  rfl
 ·obtain⟨p,N,rfl,hNI,ok,k⟩:=h
  obtain⟨lp,op,ls,os,hN⟩:=id hNI
  obtain⟨dx,hnet⟩:=hN.net
  have o41:=ok.o41
  have l12:=ok.l12
  have pl:=JgS N
  refine⟨_,(Jd (sA 1 Qu.nd (fL K (cL (JbN T) hr T.Jau (Ja (pv 0) Jc))))
   (Jd (JaA (i:=2) rfl Qu.nd rfl rfl rfl (Qi (fL K (pv 0))) (own:=[("order",4)]) (lK YR (Je U2) (by decide+kernel)) (fun _ _ _ _ _=>(gA 4 Qu.nd)) (fun _ _ _ _ _=>Qo) (fun _ _ _ _ _=>(JB JeY (JV (Jdx rfl) (by rfl) T.Jg9 PyProof.Rows.boot_max (Ja Jm (Ja (cL (JcY T) hr T.Jbu (Ja (pv 4) (Ja (pv 1) Jc))) Jc))) (fL K (pv 4)))))
   (Jd (JaA (i:=3) rfl Qu.nd rfl rfl rfl (Qi (fL K (pv 0))) (own:=[("line",5)]) (lK YR (Je U2) (by decide+kernel)) (fun _ _ _ _ _=>(gA 5 Qu.nd)) (fun _ _ _ _ _=>Qo) (fun _ _ _ _ _=>(JV (Jdx rfl) (by rfl) T.Jg9 PyProof.Rows.boot_max (Ja (JB JeY (fL K (pv 5)) (cL (Ja7 T) hr T.JaS (Ja (pv 5) (Ja (pv 1) Jc)))) (Ja (JB JeY (Jjf JeG (fL K (pv 5))) (cL (Ja7 T) hr T.JaS (Ja (pv 5) (Ja (pv 1) Jc)))) Jc)))))
   (Jf (Jl (JB Yd (JV (V1 K rfl rfl) (by rfl) T.Jg8 PyProof.Rows.boot_sum (Ja (pv 2) Jc)) (JV (V1 K rfl rfl) (by rfl) T.Jg8 PyProof.Rows.boot_sum (Ja (pv 3) Jc)))))))),?_⟩
  refine⟨_,rfl,p,N,rfl,hNI,ok,fun pp H1 s1 hP=>?_⟩
  obtain⟨dp,q1,q2,q3,hpp,hq1,hq2,hq3⟩:=hP
  refine(fld hpp T.Jb5 T.JbQ rfl ?_)
  have hos:=s1 _ _ hN.los
  have hol:(os.map V.ref).length=N.orders.length:=by rw[List.length_map,hN.od.len]
  refine⟨_,rfl,fld (s1 _ _ hnet) T.Jt T.Jv rfl ⟨op,rfl,⟨_,SqL.of hos⟩,fun D1 n1=>?_⟩⟩
  refine UQ (fun j=>(N.orders[j]?).map fun o=>V.int (max 0 (Jds (Vbemae.prices N) o)*o.amount)) (os.map V.ref).length (Itl K op) n1 (by rw[hol];exact Nat.le_trans o41 (by decide)) (Ye (SqL.of hos)) (QW (SqL.of hos)) ?_ ?_
  ·intro j x H2 H3 hj s2 hD2 y
   obtain⟨rfl,y⟩:=y
   obtain⟨q,hq,rfl⟩:=J1 (y _ (SqL.of (s2 _ _ hos)))
   obtain⟨o,ho,hO⟩:=hN.od.get hq
   have oko:=ok.ok.orders o (List.mem_of_getElem? ho)
   have hO2:=hO.same (s1.trans s2)
   obtain⟨do_,hO3⟩:=id hO2
   have gb:=JrI ok oko (Jp8 ok oko.zone)
   refine⟨rfl,_,rfl,_,rfl,q,q3,Vbemae.prices N,o,rfl,hO2,s2 _ _ hq3,by rw[pl];exact oko.zone,?_⟩
   refine⟨_,_,rfl,?_⟩
   rw[JtJ]
   refine⟨_,rfl,fld hO3 T.Jy T.JP rfl ⟨_,_,rfl,rfl,.inl (m64 (by omega) (by omega)),J8 (i:=j) n1 ?_ s2 hD2 (by simp[ho])⟩⟩
   rw[hol] at hj;exact Nat.lt_of_lt_of_le hj (Nat.le_trans o41 (by decide))
  ·intro H2 s2 hD1
   have e1:(List.range (os.map V.ref).length).filterMap (fun j=>(N.orders[j]?).map fun o=>V.int (max 0 (Jds (Vbemae.prices N) o)*o.amount))=(N.orders.map fun o=>max 0 (Jds (Vbemae.prices N) o)*o.amount).map V.int:=by
    rw[hol,List.map_map];exact UR _ _ _ fun i x hx=>by rw[hx];rfl
   rw[e1] at hD1
   have s12:=s1.trans s2
   have hls:=s12 _ _ hN.lls
   have hll:(ls.map V.ref).length=N.lines.length:=by rw[List.length_map,hN.ln.len]
   refine⟨_,rfl,fld (s12 _ _ hnet) T.Jt T.JE rfl ⟨lp,rfl,⟨_,SqL.of hls⟩,fun D2 n2=>?_⟩⟩
   refine UQ (fun j=>(N.lines[j]?).map fun l=>V.int (max (l.forth*VU (Vbemae.prices N) l) (-l.back*VU (Vbemae.prices N) l))) (ls.map V.ref).length (Itl K lp) n2 (by rw[hll];exact Nat.le_trans l12 (by decide)) (Ye (SqL.of hls)) (QW (SqL.of hls)) ?_ ?_
   ·intro j x H3 H4 hj s3 hD3 y
    obtain⟨rfl,y⟩:=y
    obtain⟨q,hq,rfl⟩:=J1 (y _ (SqL.of (s3 _ _ hls)))
    obtain⟨l,hl,hL⟩:=hN.ln.get hq
    have okl:=ok.ok.lines l (List.mem_of_getElem? hl)
    have hL2:=hL.same (s12.trans s3)
    obtain⟨dl,hL3⟩:=id hL2
    have ba:=Jp8 ok okl.a
    have bb:=Jp8 ok okl.b
    have gb:JvC (VU (Vbemae.prices N) l):=m64 (by unfold VU;omega) (by unfold VU;omega)
    have h3:=s3 _ _ (s2 _ _ hq3)
    refine⟨rfl,_,rfl,fld hL3 T.JN T.Qk rfl ⟨_,rfl,_,rfl,q,q3,Vbemae.prices N,l,rfl,hL2,h3,by rw[pl];exact okl.a,by rw[pl];exact okl.b,_,_,rfl,rfl,.inr gb,?_⟩⟩
    refine⟨_,rfl,fld hL3 T.JN T.Qq rfl ⟨_,rfl,_,rfl,_,rfl,q,q3,Vbemae.prices N,l,rfl,hL2,h3,by rw[pl];exact okl.a,by rw[pl];exact okl.b,_,_,rfl,rfl,.inr gb,?_⟩⟩
    refine⟨_,_,rfl,?_⟩
    rw[JtJ]
    refine J8 (i:=j) n2 ?_ s3 hD3 (by simp[hl])
    rw[hll] at hj;exact Nat.lt_of_lt_of_le hj (Nat.le_trans l12 (by decide))
   ·intro H3 s3 hD2
    have e2:(List.range (ls.map V.ref).length).filterMap (fun j=>(N.lines[j]?).map fun l=>V.int (max (l.forth*VU (Vbemae.prices N) l) (-l.back*VU (Vbemae.prices N) l)))=(N.lines.map fun l=>max (l.forth*VU (Vbemae.prices N) l) (-l.back*VU (Vbemae.prices N) l)).map V.int:=by
     rw[hll,List.map_map];exact UR _ _ _ fun i x hx=>by rw[hx];rfl
    rw[e2] at hD2
    refine⟨_,rfl,D1,_,rfl,SqL.of (s3 _ _ hD1),_,rfl,D2,_,rfl,SqL.of hD2,_,_,rfl,rfl,?_⟩
    have:=k H3 (s12.trans s3)
    rw[JsY ok,←WR,←WR] at this
    exact this
theorem Jip (T:Txt w K mg A):JF P w K mg base CX0 3 A.YI A.WW ["net","number"] (Jig A):=by
 refine T.Jex.F.ok Jdc (fun vs H Q E h=>?_) (fun cdv AA outer s H vs Q E hr h=>?_)
 ·obtain⟨p,N,i,rfl,_⟩:=h
  rfl
 ·obtain⟨p,N,i,rfl,⟨lp,op,ls,os,hN⟩,ok,hi,k⟩:=h
  obtain⟨dx,hnet⟩:=hN.net
  have o41:=ok.o41
  have ol:=hN.od.len
  refine⟨_,(Jd (sA 2 Jdc.nd (JB Q7 (Jdn JfK (fL K (pv 0)) Jkb (Jcq (pv 1))) (Jdn JfK (fL K (pv 0)) (Jcq (JB Yd (pv 1) Jm)) Jkb)))
   (Jf (Jl (mA (Jcs T) hr T.Jcg T.Jrz (Ja (fL K (pv 0)) (Ja (fL K (pv 0)) (Ja (fL K (pv 0)) (Ja (fL K (pv 0)) (Ja (pv 2) Jc))))))))),?_⟩
  refine⟨_,rfl,fld hnet T.Jt T.Jv rfl ⟨_,rfl,_,rfl,op,_,rfl,SqL.of hN.los,fun a1 n1=>?_⟩⟩
  have s1:Jg H (upd H a1 (.lst (UF (os.map V.ref) none (some (i:Int))))):=Jj n1
  refine⟨_,rfl,fld (s1 _ _ hnet) T.Jt T.Jv rfl ⟨_,rfl,_,_,rfl,rfl,_,rfl,op,_,rfl,SqL.of (s1 _ _ hN.los),fun a2 n2=>?_⟩⟩
  have s2:=Jk (o:=.lst (UF (os.map V.ref) (some ((i:Int)+1)) none)) s1 (Jg.free s1 n2)
  refine⟨a1,a2,_,_,rfl,rfl,(Jh (Jn (H:=upd H a1 (.lst (UF (os.map V.ref) none (some (i:Int))))) Jb n2)).trans Jb,Jb,?_,fun a3 n3=>?_⟩
  ·have h1:=JaP (os.map V.ref) none (some (i:Int))
   have h2:=JaP (os.map V.ref) (some ((i:Int)+1)) none
   rw[List.length_map] at h1 h2
   exact Nat.le_trans (show _≤41+41 by omega) (by decide)
  have s3:=Jk (o:=.lst (UF (os.map V.ref) none (some (i:Int))++UF (os.map V.ref) (some ((i:Int)+1)) none)) s2 (Jg.free s2 n3)
  have h3:=Jb (H:=upd (upd H a1 (.lst (UF (os.map V.ref) none (some (i:Int))))) a2 (.lst (UF (os.map V.ref) (some ((i:Int)+1)) none))) (a:=a3) (o:=.lst (UF (os.map V.ref) none (some (i:Int))++UF (os.map V.ref) (some ((i:Int)+1)) none))
  generalize upd (upd (upd H a1 (.lst (UF (os.map V.ref) none (some (i:Int))))) a2 (.lst (UF (os.map V.ref) (some ((i:Int)+1)) none))) a3 (.lst (UF (os.map V.ref) none (some (i:Int))++UF (os.map V.ref) (some ((i:Int)+1)) none))=H3 at s3 h3⊢
  rw[Jud V.ref os (by rw[ol];exact hi)] at h3
  have hn3:=s3 _ _ hnet
  refine⟨_,rfl,fld hn3 T.Jt T.UE rfl ⟨_,rfl,fld hn3 T.Jt T.Qy rfl ⟨_,rfl,fld hn3 T.Jt T.Jw rfl ⟨_,rfl,fld hn3 T.Jt T.JE rfl ⟨_,rfl,Jlj fun x dx' H4 nx s4 hx=>?_⟩⟩⟩⟩⟩
  have s34:=s3.trans s4
  exact k x H4 s34 ⟨lp,a3,ls,os.eraseIdx i,⟨dx',hx⟩,s34 _ _ hN.lls,s4 _ _ h3,hN.ln.imp fun _ _ q=>q.same s34,(hN.od.imp fun _ _ q=>q.same s34).erase i⟩
theorem JjN (T:Txt w K mg A):JF P w K mg base CX0 3 A.VE A.Yu ["net","number"] (JjC A):=by
 refine T.Jfs.F.ok Jen (fun vs H Q E h=>?_) (fun cdv AA outer s H vs Q E hr h=>?_)
 ·obtain⟨p,N,i,rfl,_⟩:=h
  rfl
 ·obtain⟨p,N,i,rfl,⟨lp,op,ls,os,hN⟩,ok,hi,k⟩:=h
  obtain⟨dx,hnet⟩:=hN.net
  have l12:=ok.l12
  have ol:=hN.ln.len
  refine⟨_,(Jd (sA 2 Jen.nd (JB Q7 (Jdn JfK (fL K (pv 0)) Jkb (Jcq (pv 1))) (Jdn JfK (fL K (pv 0)) (Jcq (JB Yd (pv 1) Jm)) Jkb)))
   (Jf (Jl (mA (Jcs T) hr T.Jcg T.Jrz (Ja (fL K (pv 0)) (Ja (fL K (pv 0)) (Ja (fL K (pv 0)) (Ja (pv 2) (Ja (fL K (pv 0)) Jc))))))))),?_⟩
  refine⟨_,rfl,fld hnet T.Jt T.JE rfl ⟨_,rfl,_,rfl,lp,_,rfl,SqL.of hN.lls,fun a1 n1=>?_⟩⟩
  have s1:Jg H (upd H a1 (.lst (UF (ls.map V.ref) none (some (i:Int))))):=Jj n1
  refine⟨_,rfl,fld (s1 _ _ hnet) T.Jt T.JE rfl ⟨_,rfl,_,_,rfl,rfl,_,rfl,lp,_,rfl,SqL.of (s1 _ _ hN.lls),fun a2 n2=>?_⟩⟩
  have s2:=Jk (o:=.lst (UF (ls.map V.ref) (some ((i:Int)+1)) none)) s1 (Jg.free s1 n2)
  refine⟨a1,a2,_,_,rfl,rfl,(Jh (Jn (H:=upd H a1 (.lst (UF (ls.map V.ref) none (some (i:Int))))) Jb n2)).trans Jb,Jb,?_,fun a3 n3=>?_⟩
  ·have h1:=JaP (ls.map V.ref) none (some (i:Int))
   have h2:=JaP (ls.map V.ref) (some ((i:Int)+1)) none
   rw[List.length_map] at h1 h2
   exact Nat.le_trans (show _≤41+41 by omega) (by decide)
  have s3:=Jk (o:=.lst (UF (ls.map V.ref) none (some (i:Int))++UF (ls.map V.ref) (some ((i:Int)+1)) none)) s2 (Jg.free s2 n3)
  have h3:=Jb (H:=upd (upd H a1 (.lst (UF (ls.map V.ref) none (some (i:Int))))) a2 (.lst (UF (ls.map V.ref) (some ((i:Int)+1)) none))) (a:=a3) (o:=.lst (UF (ls.map V.ref) none (some (i:Int))++UF (ls.map V.ref) (some ((i:Int)+1)) none))
  generalize upd (upd (upd H a1 (.lst (UF (ls.map V.ref) none (some (i:Int))))) a2 (.lst (UF (ls.map V.ref) (some ((i:Int)+1)) none))) a3 (.lst (UF (ls.map V.ref) none (some (i:Int))++UF (ls.map V.ref) (some ((i:Int)+1)) none))=H3 at s3 h3⊢
  rw[Jud V.ref ls (by rw[ol];exact hi)] at h3
  have hn3:=s3 _ _ hnet
  refine⟨_,rfl,fld hn3 T.Jt T.UE rfl ⟨_,rfl,fld hn3 T.Jt T.Qy rfl ⟨_,rfl,fld hn3 T.Jt T.Jw rfl ⟨_,rfl,_,rfl,fld hn3 T.Jt T.Jv rfl (Jlj fun x dx' H4 nx s4 hx=>?_)⟩⟩⟩⟩
  have s34:=s3.trans s4
  exact k x H4 s34 ⟨a3,op,ls.eraseIdx i,os,⟨dx',hx⟩,s4 _ _ h3,s34 _ _ hN.los,(hN.ln.imp fun _ _ q=>q.same s34).erase i,hN.od.imp fun _ _ q=>q.same s34⟩
theorem Jgn (T:Txt w K mg A):JF P w K mg base CX0 3 A.Jbj A.V7 ["net","order"] (JlS A):=by
 refine T.Jed.F.ok Jl4 (fun vs H Q E h=>?_) (fun cdv AA outer s H vs Q E hr h=>?_)
 ·obtain⟨p,q,N,o,rfl,_⟩:=h
  rfl
 ·obtain⟨p,q,N,o,rfl,⟨lp,op,ls,os,hN⟩,ok,hq,k⟩:=h
  obtain⟨dx,hnet⟩:=hN.net
  have o41:=ok.o41
  have ol:=hN.od.len
  refine⟨_,(Jf (Jl (mA (Jcs T) hr T.Jcg T.Jrz (Ja (fL K (pv 0)) (Ja (fL K (pv 0)) (Ja (fL K (pv 0)) (Ja (fL K (pv 0)) (Ja (JB Q7 (fL K (pv 0)) (Js (Ja (pv 1) Jc))) Jc)))))))),?_⟩
  refine⟨_,rfl,fld hnet T.Jt T.UE rfl ⟨_,rfl,fld hnet T.Jt T.Qy rfl ⟨_,rfl,fld hnet T.Jt T.Jw rfl ⟨_,rfl,fld hnet T.Jt T.JE rfl ?_⟩⟩⟩⟩
  refine⟨_,rfl,fld hnet T.Jt T.Jv rfl ⟨_,rfl,(by show 1≤sizeLine;decide),fun a1 n1=>?_⟩⟩
  have s1:Jg H (upd H a1 (.lst [.ref q])):=Jj n1
  refine⟨op,a1,_,_,rfl,rfl,s1 _ _ hN.los,Jb,?_,fun a2 n2=>?_⟩
  ·rw[List.length_map,ol];exact Nat.le_trans (show N.orders.length+1≤42 by omega) (by decide)
  have s2:=Jk (o:=.lst (os.map V.ref++[.ref q])) s1 (Jg.free s1 n2)
  have h2:=Jb (H:=upd H a1 (.lst [.ref q])) (a:=a2) (o:=.lst (os.map V.ref++[.ref q]))
  generalize upd (upd H a1 (.lst [.ref q])) a2 (.lst (os.map V.ref++[.ref q]))=H2 at s2 h2⊢
  refine Jlj fun x dx' H4 nx s4 hx=>?_
  have s34:=s2.trans s4
  refine k x H4 s34 ⟨lp,a2,ls,os++[q],⟨dx',hx⟩,s34 _ _ hN.lls,?_,hN.ln.imp fun _ _ q=>q.same s34,Q5.snoc (hN.od.imp fun _ _ q=>q.same s34) (hq.same s34)⟩
  rw[s4 _ _ h2,List.map_append];rfl
end
end Zm
namespace Zm
open PySem PySem.Spec PyProof.Rows L2
noncomputable def Jkh (ns:List Int) (_:List (List Int)) (c:Vbemae.Call):Prop:=∃k:Nat,ns=[(k:Int)]∧c=.worth k
noncomputable def JcG (ns:List Int) (_:List (List Int)) (c:Vbemae.Call):Prop:=∃k:Nat,ns=[(k:Int)]∧c=.lineWorth k
noncomputable def JrQ (ns:List Int) (_:List (List Int)) (c:Vbemae.Call):Prop:=∃(z:Nat) (q:Int),ns=[(z:Int),q]∧c=.net z q
noncomputable def Jki (ns:List Int) (_:List (List Int)) (c:Vbemae.Call):Prop:=∃t:Int,ns=[t]∧c=.tight t
noncomputable def Jd0 (ns:List Int) (rws:List (List Int)) (c:Vbemae.Call):Prop:=∃(t:Int) (g:List Int),ns=[t]∧rws=[g]∧(∀b∈g,b=0∨b=1)∧c=.shortage t g
noncomputable def Joc (ns:List Int) (_:List (List Int)) (c:Vbemae.Call):Prop:=∃z:Nat,ns=[(z:Int)]∧c=.unit z
noncomputable def Jkj (ns:List Int) (_:List (List Int)) (c:Vbemae.Call):Prop:=ns=[]∧c=.state
theorem Jmh (N:Vbemae.Net) (z:Nat) (q:Int):-Up N.orders (q-1) z=Vbemae.leastNet N z q:=by
 unfold Up Vbemae.leastNet
 rw[←V5]
 refine JC _ fun o _=>?_
 unfold Jcw
 by_cases hz:o.zone=z
 ·rw[if_pos hz,if_pos hz]
  cases o.buy
  ·simp only[Bool.false_eq_true,if_false]
   by_cases h:o.price<q
   ·rw[if_pos h,if_pos (by omega)];omega
   ·rw[if_neg h,if_neg (by omega)];rfl
  ·simp only[if_true]
   by_cases h:q≤o.price
   ·rw[if_pos h,if_pos (by omega)]
   ·rw[if_neg h,if_neg (by omega)];rfl
 ·rw[if_neg hz,if_neg hz];rfl
theorem JiC (N:Vbemae.Net) (z:Nat) (q:Int):-Up N.orders q z=Vbemae.greatestNet N z q:=by
 unfold Up Vbemae.greatestNet
 rw[←V5]
 refine JC _ fun o _=>?_
 unfold Jcw
 by_cases hz:o.zone=z
 ·rw[if_pos hz,if_pos hz]
  cases o.buy
  ·simp only[Bool.false_eq_true,if_false]
   split<;>omega
  ·simp only[if_true]
   split<;>omega
 ·rw[if_neg hz,if_neg hz];rfl
theorem Q5.one {α β:Type} {R:α→β→Prop} {xs:List α} {y:β} (h:Q5 R xs [y]):∃x,xs=[x]∧R x y:=by
 obtain⟨x,rfl⟩:=List.length_eq_one_iff.mp h.len
 exact⟨x,rfl,h.at_ 0 x y rfl rfl⟩
theorem Q5.two {α β:Type} {R:α→β→Prop} {xs:List α} {y z:β} (h:Q5 R xs [y,z]):∃x w,xs=[x,w]∧R x y∧R w z:=by
 match xs,h.len with
 |[x,w],_=>exact⟨x,w,rfl,h.at_ 0 x y rfl rfl,h.at_ 1 w z rfl rfl⟩
theorem Jlp:∀g:List Int,(∀b∈g,b=0∨b=1)→UY g.length (Vbemae.groupOf g)=g.map V.int
 |[],_=>rfl
 |b::g,h=>by
  have ih:=Jlp g fun x hx=>h x (List.mem_cons_of_mem _ hx)
  unfold UY at ih⊢
  rw[List.length_cons,List.range_succ_eq_map,List.map_cons,List.map_map,List.map_cons]
  have e0:Vbemae.groupOf (b::g)=2*Vbemae.groupOf g+b.toNat:=rfl
  have hb:=h b List.mem_cons_self
  congr 1
  ·rw[e0]
   unfold bit
   rw[Nat.testBit_zero]
   rcases hb with rfl|rfl
   ·simp
   ·simp[show(2*Vbemae.groupOf g+1)%2=1 by omega]
  ·rw[←ih]
   refine List.map_congr_left fun z _=>?_
   show V.int (bit _ (z+1))=_
   unfold bit
   rw[e0,Nat.testBit_succ]
   have:(2*Vbemae.groupOf g+b.toNat)/2=Vbemae.groupOf g:=by rcases hb with rfl|rfl<;>simp<;>omega
   rw[this]
theorem Joj {N:Vbemae.Net} (ok:QN N) (k:Nat) (h:k<N.orders.length):Vbemae.bestWelfare (JdR N k)=Vbemae.bestWelfare (Vbemae.withAmount N k 0):=by
 refine(Jnb ?_ (Jk4 ok.ok k) (Js1 N k)).symm
 refine⟨ok.ok.bounds,fun o ho=>?_,fun l hl=>let q:=ok.ok.lines l hl;⟨q.a,q.b,q.ne,q.forth,q.back⟩⟩
 have ho':o∈N.orders.modify k fun o=>{o with amount:=0}:=ho
 obtain⟨i,hi⟩:=List.getElem?_of_mem ho'
 rw[List.getElem?_modify] at hi
 cases e:N.orders[i]? with
 |none=>rw[e] at hi;simp at hi
 |some o'=>
  rw[e] at hi
  have q:=ok.ok.orders o' (List.mem_of_getElem? e)
  have hi':=Option.some.inj hi
  subst hi'
  split
  ·exact⟨q.zone,q.lo,q.hi,Int.le_refl 0⟩
  ·exact⟨q.zone,q.lo,q.hi,q.am⟩
theorem JpL {N:Vbemae.Net} (ok:QN N) (k:Nat) (h:k<N.lines.length):Vbemae.bestWelfare (JgW N k)=Vbemae.bestWelfare (Vbemae.withRooms N k 0 0):=by
 refine(Jnb ?_ (JmN ok.ok k) (Juq N k)).symm
 refine⟨ok.ok.bounds,fun o ho=>let q:=ok.ok.orders o ho;⟨q.zone,q.lo,q.hi,q.am⟩,fun o ho=>?_⟩
 have ho':o∈N.lines.modify k fun l=>{l with forth:=0,back:=0}:=ho
 obtain⟨i,hi⟩:=List.getElem?_of_mem ho'
 rw[List.getElem?_modify] at hi
 cases e:N.lines[i]? with
 |none=>rw[e] at hi;simp at hi
 |some o'=>
  rw[e] at hi
  have q:=ok.ok.lines o' (List.mem_of_getElem? e)
  have hi':=Option.some.inj hi
  subst hi'
  split
  ·exact⟨q.a,q.b,q.ne,Int.le_refl 0,Int.le_refl 0⟩
  ·exact⟨q.a,q.b,q.ne,q.forth,q.back⟩
theorem JoC {α:Type}:∀l:List α,Vbemae.total (l.mapIdx fun _ _=>(0:Int))=0
 |[]=>rfl
 |a::l=>by rw[List.mapIdx_cons,JG,JoC l];rfl
theorem Jri {α:Type} (f:α→Int):∀(l:List α) (k:Nat) (a:α),l[k]? =some a→Vbemae.total (l.mapIdx fun i x=>if i=k then f x else 0)=f a
 |[],k,a,h=>by simp at h
 |b::l,0,a,h=>by
  have e:b=a:=by simpa using h
  subst e
  rw[List.mapIdx_cons,JG,if_pos rfl]
  have:=JoC l
  simp only[Nat.add_eq_zero_iff,Nat.one_ne_zero,and_false,if_false,this]
  omega
 |b::l,k+1,a,h=>by
  have ih:=Jri f l k a (by simpa using h)
  rw[List.mapIdx_cons,JG,if_neg (by omega)]
  simp only[Nat.add_right_cancel_iff,ih]
  omega
section
variable {P:Program} {w:World} {K:PySem.W.Frag} {mg:Str→Option Value} {base:Heap} {A:Adr}
theorem Jiq (T:Txt w K mg A):JF P w K mg base CX0 2 A.QS A.WX ["net","call"] (JR A JrQ):=by
 refine T.JaY.F.ok VW (fun vs H Q E h=>?_) (fun cdv AA outer s H vs Q E hr h=>?_)
 ·obtain⟨p,c,N,lp,op,ls,os,pl,ns,rws,cc,rfl,_⟩:=h
  rfl
 ·obtain⟨p,c,N,lp,op,ls,os,pl,ns,rws,cc,rfl,hO,ok,hC,⟨z,q,rfl,rfl⟩,k⟩:=h
  obtain⟨dc,nl,ll,rs,hc,hn,hls,hrs⟩:=hC
  obtain⟨dn,hnet⟩:=hO.at_.net
  refine⟨_,(Jd (sA 2 VW.nd (iL K (fL K (pv 1)) Jm))
   (Jd (sA 3 VW.nd (iL K (fL K (pv 1)) Jm))
   (Jd (Qa (JA Jgm (pv 2) (fL K (pv 0)) (JJ _)) (Jf (Jl (Js (Ja (gL T.WV) Jc)))) JD)
   (Jf (Jl (Js (Ja Jm (Ja (Jjf JeG (iL K (cL (Wq T) hr T.UT (Ja (pv 0) (Ja (JB U5 (pv 3) Jm) Jc))) (pv 2))) (Ja (Jjf JeG (iL K (cL (Wq T) hr T.UT (Ja (pv 0) (Ja (pv 3) Jc))) (pv 2))) Jc))))))))),?_⟩
  refine⟨_,rfl,fld hc T.Jz T.Jo rfl ⟨nl,_,_,_,rfl,rfl,SqL.of hn,Jp (j:=0) rfl,?_⟩⟩
  refine⟨_,rfl,fld hc T.Jz T.Jo rfl ⟨nl,_,_,_,rfl,rfl,SqL.of hn,Jp (j:=1) rfl,?_⟩⟩
  refine⟨_,rfl,_,rfl,fld hnet T.Jt T.Jw rfl ⟨_,_,rfl,rfl,_,rfl,J4 (fun hz=>?_) (fun hz=>?_)⟩⟩
  ·have hz':N.zones≤z:=by have:=of_decide_eq_true hz;omega
   have eN:Vbemae.onNet N (.net z q)=(N,[-3]):=if_pos hz'
   exact⟨(by show 1≤sizeLine;decide),fun a0 n0=>k a0 _ ls os (by rw[eN];exact .of_same (Jj n0) hO) n0 (by rw[Jb,eN];rfl)⟩
  have hz':z<N.zones:=by have:=of_decide_eq_false hz;omega
  have eN:Vbemae.onNet N (.net z q)=(N,[0,Vbemae.leastNet N z q,Vbemae.greatestNet N z q]):=if_neg (by omega)
  refine⟨_,rfl,_,rfl,_,_,rfl,rfl,p,N,q-1,rfl,hO.is,ok.ok,fun l1 H1 s1 n1 h1=>?_⟩
  refine⟨_,rfl,l1,_,_,_,rfl,rfl,SqL.of h1,Jp (JdU _ _ hz'),_,rfl,?_⟩
  refine⟨_,rfl,_,rfl,p,N,q,rfl,hO.is.same s1,ok.ok,fun l2 H2 s2 n2 h2=>?_⟩
  refine⟨_,rfl,l2,_,_,_,rfl,rfl,SqL.of h2,Jp (JdU _ _ hz'),_,rfl,?_⟩
  have sE:=s1.trans s2
  refine⟨(by show 3≤sizeLine;decide),fun a0 n0=>k a0 _ ls os ?_ (Jg.free sE n0) ?_⟩
  ·rw[eN];exact .of_same (Jk sE (Jg.free sE n0)) hO
  ·rw[Jb,eN,←Jmh,←JiC];rfl
theorem Jir (T:Txt w K mg A):JF P w K mg base CX0 4 A.QT A.WY ["net","call"] (JR A Jd0):=by
 refine T.JaZ.F.ok Jdd (fun vs H Q E h=>?_) (fun cdv AA outer s H vs Q E hr h=>?_)
 ·obtain⟨p,c,N,lp,op,ls,os,pl,ns,rws,cc,rfl,_⟩:=h
  rfl
 ·obtain⟨p,c,N,lp,op,ls,os,pl,ns,rws,cc,rfl,hO,ok,hC,⟨t,g,rfl,rfl,hg,rfl⟩,k⟩:=h
  obtain⟨dc,nl,ll,rs,hc,hn,hls,hrs⟩:=hC
  obtain⟨r,rfl,hr0⟩:=hrs.one
  obtain⟨dn,hnet⟩:=hO.at_.net
  refine⟨_,(Jd (sA 2 Jdd.nd (iL K (fL K (pv 1)) Jm))
   (Jd (Qa (JA Jpe (lN K T.Q9 (Ja (pv 2) Jc)) (fL K (pv 0)) (JJ _)) (Jf (Jl (Js (Ja (gL T.JdV) Jc)))) JD)
   (Jf (Jl (Js (Ja Jm (Ja (cL (JhL T) hr T.JdF (Ja (pv 0) (Ja (pv 2) (Ja (iL K (fL K (pv 1)) Jm) Jc)))) Jc))))))),?_⟩
  refine⟨_,rfl,fld hc T.Jz T.Wl rfl ⟨ll,_,_,_,rfl,rfl,SqL.of hls,Jp (j:=0) rfl,?_⟩⟩
  refine⟨_,rfl,r,_,rfl,.inl (SqL.of hr0),_,rfl,fld hnet T.Jt T.Jw rfl ⟨rfl,_,rfl,J4 (fun h1=>?_) (fun h1=>?_)⟩⟩
  ·have h1':g.length≠N.zones:=fun e=>by
    rw[List.length_map] at h1
    have h1:=(Bool.not_eq_true' _).mp h1
    exact JaO h1 (by rw[e])
   have eN:Vbemae.onNet N (.shortage t g)=(N,[-3]):=if_pos h1'
   exact⟨(by show 1≤sizeLine;decide),fun a0 n0=>k a0 _ ls os (by rw[eN];exact .of_same (Jj n0) hO) n0 (by rw[Jb,eN];rfl)⟩
  have h1':g.length=N.zones:=by
   rw[List.length_map] at h1
   have h1:=(Bool.not_eq_false' _).mp h1
   have:=Jfb h1;omega
  have eN:Vbemae.onNet N (.shortage t g)=(N,[0,Vbemae.shortage N t (Vbemae.groupOf g)]):=if_neg (fun q=>q h1')
  have hG:JgA .lst H r N.zones (Vbemae.groupOf g):=by
   show H r=_
   rw[hr0,←h1',Jlp g hg]
  refine⟨_,rfl,_,rfl,_,rfl,fld hc T.Jz T.Jo rfl ⟨nl,_,_,_,rfl,rfl,SqL.of hn,Jp (j:=0) rfl,.lst,p,r,N,t,_,rfl,hO.is,ok.ok,hG,fun H1 s1=>?_⟩⟩
  refine⟨(by show 2≤sizeLine;decide),fun a0 n0=>k a0 _ ls os ?_ (Jg.free s1 n0) ?_⟩
  ·rw[eN];exact .of_same (Jk s1 (Jg.free s1 n0)) hO
  ·rw[Jb,eN];rfl
theorem JnR (T:Txt w K mg A):JF P w K mg base CX0 7 A.WM A.Jba ["net","call"] (JR A Joc):=by
 refine T.Jfu.F.ok Y6 (fun vs H Q E h=>?_) (fun cdv AA outer s H vs Q E hr h=>?_)
 ·obtain⟨p,c,N,lp,op,ls,os,pl,ns,rws,cc,rfl,_⟩:=h
  rfl
 ·obtain⟨p,c,N,lp,op,ls,os,pl,ns,rws,cc,rfl,hO,ok,hC,⟨z,rfl,rfl⟩,k⟩:=h
  obtain⟨dc,nl,ll,rs,hc,hn,hls,hrs⟩:=hC
  obtain⟨dn,hnet⟩:=hO.at_.net
  refine⟨_,(Jd (sA 2 Y6.nd (iL K (fL K (pv 1)) Jm))
   (Jd (Qa (JA Jgm (pv 2) (fL K (pv 0)) (JJ _)) (Jf (Jl (Js (Ja (gL T.WV) Jc)))) JD)
   (Jd (sA 3 Y6.nd (cL (Qv T) hr T.Qe (Ja (pv 0) Jc)))
   (Jd (sA 4 Y6.nd (JB U5 (cL (Qv T) hr T.Qe (Ja (cL (Jgn T) hr T.Jed (Ja (pv 0) (Ja (mA (Jc1 T) hr T.Jbw T.JnZ (Ja (pv 2) (Ja (gL T.Jb3) (Ja (fL K (pv 0)) (Ja Jm Jc))))) Jc))) Jc)) (pv 3)))
   (Jd (sA 5 Y6.nd (JB U5 (cL (Qv T) hr T.Qe (Ja (cL (Jgn T) hr T.Jed (Ja (pv 0) (Ja (mA (Jc1 T) hr T.Jbw T.JnZ (Ja (pv 2) (Ja (gL T.JfT) (Ja (fL K (pv 0)) (Ja Jm Jc))))) Jc))) Jc)) (pv 3)))
   (Jf (Jl (Js (Ja Jm (Ja (JB U5 (fL K (pv 0)) (pv 4)) (Ja (JB Yd (fL K (pv 0)) (pv 5)) Jc))))))))))),?_⟩
  refine⟨_,rfl,fld hc T.Jz T.Jo rfl ⟨nl,_,_,_,rfl,rfl,SqL.of hn,Jp (j:=0) rfl,?_⟩⟩
  refine⟨_,rfl,_,rfl,fld hnet T.Jt T.Jw rfl ⟨_,_,rfl,rfl,_,rfl,J4 (fun hz=>?_) (fun hz=>?_)⟩⟩
  ·have hz':N.zones≤z:=by have:=of_decide_eq_true hz;omega
   have eN:Vbemae.onNet N (.unit z)=(N,[-3]):=if_pos hz'
   exact⟨(by show 1≤sizeLine;decide),fun a0 n0=>k a0 _ ls os (by rw[eN];exact .of_same (Jj n0) hO) n0 (by rw[Jb,eN];rfl)⟩
  have hz':z<N.zones:=by have:=of_decide_eq_false hz;omega
  have eN:Vbemae.onNet N (.unit z)=(N,[0,Vbemae.unitCost N z,Vbemae.unitGain N z]):=if_neg (by omega)
  refine⟨_,rfl,p,N,rfl,hO.is,ok.ok,fun H1 s1=>?_⟩
  refine⟨_,rfl,_,rfl,_,rfl,fld (s1 _ _ hnet) T.Jt T.Qy rfl ?_⟩
  intro x dx nx ndx nxd
  refine⟨x,dx,_,_,_,_,rfl,Jb,fun H2 k2 hx=>⟨rfl,?_⟩⟩
  have s2:=Jg.made nx ndx k2
  have s12:=s1.trans s2
  refine⟨p,x,N,⟨z,true,N.hi,1⟩,rfl,hO.is.same s12,ok.ok,⟨dx,hx⟩,fun y H3 s3 hy=>?_⟩
  refine⟨y,Vbemae.withUnit N z true,rfl,hy,Jrv ok hz' true,fun H4 s4=>?_⟩
  refine⟨_,rfl,_,_,rfl,rfl,?_⟩
  have s14:=s12.trans (s3.trans s4)
  refine⟨_,rfl,_,rfl,_,rfl,fld (s14 _ _ hnet) T.Jt T.UE rfl ?_⟩
  intro x2 dx2 nx2 ndx2 nxd2
  refine⟨x2,dx2,_,_,_,_,rfl,Jb,fun H5 k5 hx2=>⟨rfl,?_⟩⟩
  have s5:=Jg.made nx2 ndx2 k5
  have s15:=s14.trans s5
  refine⟨p,x2,N,⟨z,false,N.lo,1⟩,rfl,hO.is.same s15,ok.ok,⟨dx2,hx2⟩,fun y2 H6 s6 hy2=>?_⟩
  refine⟨y2,Vbemae.withUnit N z false,rfl,hy2,Jrv ok hz' false,fun H7 s7=>?_⟩
  refine⟨_,rfl,_,_,rfl,rfl,?_⟩
  have sE:=s15.trans (s6.trans s7)
  refine⟨_,rfl,fld (sE _ _ hnet) T.Jt T.Qy rfl ⟨_,rfl,_,_,rfl,rfl,_,rfl,fld (sE _ _ hnet) T.Jt T.UE rfl ⟨_,rfl,_,_,rfl,rfl,?_⟩⟩⟩
  refine⟨(by show 3≤sizeLine;decide),fun a0 n0=>k a0 _ ls os ?_ (Jg.free sE n0) ?_⟩
  ·rw[eN];exact .of_same (Jk sE (Jg.free sE n0)) hO
  ·rw[Jb,eN];rfl
theorem Jf5 (T:Txt w K mg A):JF P w K mg base CX0 7 A.Qc A.UM ["net","call"] (JR A Jkh):=by
 refine T.YS.F.ok UJ (fun vs H Q E h=>?_) (fun cdv AA outer s H vs Q E hr h=>?_)
 ·obtain⟨p,c,N,lp,op,ls,os,pl,ns,rws,cc,rfl,_⟩:=h
  rfl
 ·obtain⟨p,c,N,lp,op,ls,os,pl,ns,rws,cc,rfl,hO,ok,hC,⟨i,rfl,rfl⟩,k⟩:=h
  obtain⟨dc,nl,ll,rs,hc,hn,hls,hrs⟩:=hC
  obtain⟨dn,hnet⟩:=hO.at_.net
  have ook:=UG ok.ok
  have hol:(os.map V.ref).length=N.orders.length:=by rw[List.length_map,hO.at_.od.len]
  refine⟨_,(Jd (sA 2 UJ.nd (iL K (fL K (pv 1)) Jm))
   (Jd (Qa (JA Jgm (pv 2) (lN K T.Q9 (Ja (fL K (pv 0)) Jc)) (JJ _)) (Jf (Jl (Js (Ja (gL T.WV) Jc)))) JD)
   (Jd (sA 3 UJ.nd (cL (Qx T) hr T.Qt (Ja (pv 0) Jc)))
   (Jd (sA 4 UJ.nd (JB U5 (cL (Wr T) hr T.UU (Ja (pv 0) (Ja (fL K (pv 3)) Jc))) (cL (Qv T) hr T.Qe (Ja (cL (Jip T) hr T.Jex (Ja (pv 0) (Ja (pv 2) Jc))) Jc))))
   (Jf (Jl (Js (Ja Jm (Ja (pv 4) (Ja (iL K (cL (JbM T) hr T.VQ (Ja (pv 0) (Ja (pv 3) Jc))) (pv 2)) Jc)))))))))),?_⟩
  refine⟨_,rfl,fld hc T.Jz T.Jo rfl ⟨nl,_,_,_,rfl,rfl,SqL.of hn,Jp (j:=0) rfl,?_⟩⟩
  refine⟨_,rfl,_,rfl,fld hnet T.Jt T.Jv rfl ⟨op,_,rfl,.inl (SqL.of hO.at_.los),_,_,rfl,rfl,_,rfl,J4 (fun hz=>?_) (fun hz=>?_)⟩⟩
  ·have hz':N.orders.length≤i:=by have:=of_decide_eq_true hz;rw[hol] at this;omega
   have eN:Vbemae.onNet N (.worth i)=(N,[-3]):=if_pos hz'
   exact⟨(by show 1≤sizeLine;decide),fun a0 n0=>k a0 _ ls os (by rw[eN];exact .of_same (Jj n0) hO) n0 (by rw[Jb,eN];rfl)⟩
  have hz':i<N.orders.length:=by have:=of_decide_eq_false hz;rw[hol] at this;omega
  have eN:Vbemae.onNet N (.worth i)=(N,[0,Vbemae.gainOf N i,Vbemae.total ((N.orders.zip (Vbemae.cleared N).shares).mapIdx fun j a=>if j=i then Vbemae.surplusOf (Vbemae.cleared N).prices a.1 a.2 else 0)]):=if_neg (by omega)
  refine⟨_,rfl,p,N,rfl,hO.is,ok.ok,fun q H1 s1 hq=>?_⟩
  have i1:Jdb A H1 p q N (Vbemae.cleared N):=⟨hO.is.same s1,ok.ok,hq,ook⟩
  obtain⟨dq,l1,l2,l3,hq0,h10,h20,h30⟩:=hq
  have j1:JcT A H1 p l2 N (Vbemae.cleared N).shares N.orders.length:=⟨hO.is.same s1,ok.ok,h20,ook.sl⟩
  refine⟨_,rfl,_,rfl,fld hq0 T.JW T.JU rfl ⟨p,l2,N,_,rfl,j1,fun H2 s2=>?_⟩⟩
  have s12:=s1.trans s2
  refine⟨_,rfl,_,rfl,p,N,i,rfl,hO.is.same s12,ok.ok,hz',fun y H3 s3 hy=>?_⟩
  refine⟨y,JdR N i,rfl,hy,Jmf ok.ok i,fun H4 s4=>⟨_,_,rfl,rfl,?_⟩⟩
  have s24:=s2.trans (s3.trans s4)
  refine⟨_,rfl,_,rfl,_,rfl,p,q,N,_,rfl,i1.same s24,fun l5 H5 s5 n5 h5=>?_⟩
  have hsx:(N.orders.zip (Vbemae.cleared N).shares)[i]? =some (N.orders[i],(Vbemae.cleared N).shares[i]'(by rw[ook.sl];exact hz')):=by
   rw[List.getElem?_zip_eq_some];exact⟨List.getElem?_eq_getElem hz',List.getElem?_eq_getElem _⟩
  have hsu:((WQ N (Vbemae.cleared N)).map V.int)[i]? =some (.int (Vbemae.total ((N.orders.zip (Vbemae.cleared N).shares).mapIdx fun j a=>if j=i then Vbemae.surplusOf (Vbemae.cleared N).prices a.1 a.2 else 0))):=by
   rw[Jri (fun a:Vbemae.Order×Int=>Vbemae.surplusOf (Vbemae.cleared N).prices a.1 a.2) _ i _ hsx,List.getElem?_map]
   unfold WQ
   rw[List.getElem?_zipWith,List.getElem?_eq_getElem hz',List.getElem?_eq_getElem (by rw[ook.sl];exact hz')];rfl
  refine⟨_,rfl,l5,_,_,_,rfl,rfl,SqL.of h5,Jp hsu,?_⟩
  have sE:=s1.trans (s24.trans s5)
  refine⟨(by show 3≤sizeLine;decide),fun a0 n0=>k a0 _ ls os ?_ (Jg.free sE n0) ?_⟩
  ·rw[eN];exact .of_same (Jk sE (Jg.free sE n0)) hO
  ·rw[Jb,eN,Joj ok.ok i hz'];rfl
theorem JgU (T:Txt w K mg A):JF P w K mg base CX0 7 A.Qs A.U7 ["net","call"] (JR A JcG):=by
 refine T.VP.F.ok U0 (fun vs H Q E h=>?_) (fun cdv AA outer s H vs Q E hr h=>?_)
 ·obtain⟨p,c,N,lp,op,ls,os,pl,ns,rws,cc,rfl,_⟩:=h
  rfl
 ·obtain⟨p,c,N,lp,op,ls,os,pl,ns,rws,cc,rfl,hO,ok,hC,⟨i,rfl,rfl⟩,k⟩:=h
  obtain⟨dc,nl,ll,rs,hc,hn,hls,hrs⟩:=hC
  obtain⟨dn,hnet⟩:=hO.at_.net
  have ook:=UG ok.ok
  have hol:(ls.map V.ref).length=N.lines.length:=by rw[List.length_map,hO.at_.ln.len]
  refine⟨_,(Jd (sA 2 U0.nd (iL K (fL K (pv 1)) Jm))
   (Jd (Qa (JA Jgm (pv 2) (lN K T.Q9 (Ja (fL K (pv 0)) Jc)) (JJ _)) (Jf (Jl (Js (Ja (gL T.WV) Jc)))) JD)
   (Jd (sA 3 U0.nd (cL (Qx T) hr T.Qt (Ja (pv 0) Jc)))
   (Jd (sA 4 U0.nd (JB U5 (cL (Wr T) hr T.UU (Ja (pv 0) (Ja (fL K (pv 3)) Jc))) (cL (Qv T) hr T.Qe (Ja (cL (JjN T) hr T.Jfs (Ja (pv 0) (Ja (pv 2) Jc))) Jc))))
   (Jf (Jl (Js (Ja Jm (Ja (pv 4) (Ja (iL K (cL (JcZ T) hr T.Jbv (Ja (pv 0) (Ja (pv 3) Jc))) (pv 2)) Jc)))))))))),?_⟩
  refine⟨_,rfl,fld hc T.Jz T.Jo rfl ⟨nl,_,_,_,rfl,rfl,SqL.of hn,Jp (j:=0) rfl,?_⟩⟩
  refine⟨_,rfl,_,rfl,fld hnet T.Jt T.JE rfl ⟨lp,_,rfl,.inl (SqL.of hO.at_.lls),_,_,rfl,rfl,_,rfl,J4 (fun hz=>?_) (fun hz=>?_)⟩⟩
  ·have hz':N.lines.length≤i:=by have:=of_decide_eq_true hz;rw[hol] at this;omega
   have eN:Vbemae.onNet N (.lineWorth i)=(N,[-3]):=if_pos hz'
   exact⟨(by show 1≤sizeLine;decide),fun a0 n0=>k a0 _ ls os (by rw[eN];exact .of_same (Jj n0) hO) n0 (by rw[Jb,eN];rfl)⟩
  have hz':i<N.lines.length:=by have:=of_decide_eq_false hz;rw[hol] at this;omega
  have eN:Vbemae.onNet N (.lineWorth i)=(N,[0,Vbemae.lineGain N i,(Vbemae.rents N (Vbemae.cleared N).prices (Vbemae.cleared N).flows).getD i 0]):=if_neg (by omega)
  refine⟨_,rfl,p,N,rfl,hO.is,ok.ok,fun q H1 s1 hq=>?_⟩
  have i1:Jdb A H1 p q N (Vbemae.cleared N):=⟨hO.is.same s1,ok.ok,hq,ook⟩
  obtain⟨dq,l1,l2,l3,hq0,h10,h20,h30⟩:=hq
  have j1:JcT A H1 p l2 N (Vbemae.cleared N).shares N.orders.length:=⟨hO.is.same s1,ok.ok,h20,ook.sl⟩
  refine⟨_,rfl,_,rfl,fld hq0 T.JW T.JU rfl ⟨p,l2,N,_,rfl,j1,fun H2 s2=>?_⟩⟩
  have s12:=s1.trans s2
  refine⟨_,rfl,_,rfl,p,N,i,rfl,hO.is.same s12,ok.ok,hz',fun y H3 s3 hy=>?_⟩
  refine⟨y,JgW N i,rfl,hy,JnW ok.ok i,fun H4 s4=>⟨_,_,rfl,rfl,?_⟩⟩
  have s24:=s2.trans (s3.trans s4)
  refine⟨_,rfl,_,rfl,_,rfl,p,q,N,_,rfl,i1.same s24,fun l5 H5 s5 n5 h5=>?_⟩
  have hsu:((Vbemae.rents N (Vbemae.cleared N).prices (Vbemae.cleared N).flows).map V.int)[i]? =some (.int ((Vbemae.rents N (Vbemae.cleared N).prices (Vbemae.cleared N).flows).getD i 0)):=by
   have hr:i<(Vbemae.rents N (Vbemae.cleared N).prices (Vbemae.cleared N).flows).length:=by rw[JfN ook];exact hz'
   rw[List.getElem?_map,List.getElem?_eq_getElem hr,List.getD,List.getElem?_eq_getElem hr];rfl
  refine⟨_,rfl,l5,_,_,_,rfl,rfl,SqL.of h5,Jp hsu,?_⟩
  have sE:=s1.trans (s24.trans s5)
  refine⟨(by show 3≤sizeLine;decide),fun a0 n0=>k a0 _ ls os ?_ (Jg.free sE n0) ?_⟩
  ·rw[eN];exact .of_same (Jk sE (Jg.free sE n0)) hO
  ·rw[Jb,eN,JpL ok.ok i hz'];rfl
end
end Zm
namespace Zm
open PySem PySem.Spec PyProof.Rows L2
theorem Je5 (N:Vbemae.Net) (f:Nat→Bool):(Vbemae.members N f).length=N.zones:=by unfold Vbemae.members;simp
noncomputable def Jg0 (l:Vbemae.Line):List Int:=[(l.a:Int),(l.b:Int),l.forth,l.back]
noncomputable def Jkc (o:Vbemae.Order):List Int:=[(o.zone:Int),Vbemae.bit o.buy,o.price,o.amount]
theorem JmZ {α:Type} (f:α→List Int) {l:List α} {i:Nat} {x:α} (h:l[i]? =some x):(l.take (i+1)).flatMap f=(l.take i).flatMap f++f x:=by
 have h2:=List.getElem?_eq_some_iff.mp h
 rw[List.take_succ_eq_append_getElem h2.1,h2.2,List.flatMap_append]
 simp
theorem Jfa {α:Type} (f:α→List Int) (hf:∀a,(f a).length=4):∀l:List α,(l.flatMap f).length=4*l.length
 |[]=>rfl
 |a::l=>by rw[List.flatMap_cons,List.length_append,Jfa f hf l,hf,List.length_cons];omega
section
variable {P:Program} {w:World} {K:PySem.W.Frag} {mg:Str→Option Value} {base:Heap} {A:Adr}
theorem JhG (T:Txt w K mg A):JF P w K mg base CX0 5 A.QG A.Wv ["net","call"] (JR A Jki):=by
 refine T.V3.F.ok Jcl (fun vs H Q E h=>?_) (fun cdv AA outer s H vs Q E hr h=>?_)
 ·obtain⟨p,c,N,lp,op,ls,os,pl,ns,rws,cc,rfl,_⟩:=h
  rfl
 ·obtain⟨p,c,N,lp,op,ls,os,pl,ns,rws,cc,rfl,hO,ok,hC,⟨t,rfl,rfl⟩,k⟩:=h
  obtain⟨dc,nl,ll,rs,hc,hn,hls,hrs⟩:=hC
  have z6:=ok.ok.z6
  have m1:=Je5 N (Vbemae.inLeast (Vbemae.tight N t))
  have m2:=Je5 N (Vbemae.inGreatest (Vbemae.tight N t))
  refine⟨_,(Jd (sA 2 Jcl.nd (Vc (mA (Jcr T) hr T.V4 T.Jjk (Ja (pv 0) Jc)) T.Qz T.QD.me (Ve T) (hr.mono (by decide)) T.QD.b .nil JbJ (Ja (iL K (fL K (pv 1)) Jm) Jc)))
   (Jf (Jl (JB Q7 (JB Q7 (Js (Ja Jm (Ja (fL K (pv 2)) Jc))) (cL (JbL T) hr T.Jey (Ja (fL K (pv 2)) Jc))) (cL (JbL T) hr T.Jey (Ja (fL K (pv 2)) Jc)))))),?_⟩
  refine⟨_,rfl,fun q dq nq ndq nqd=>?_⟩
  have hNq:UI A (upd (upd H dq (.own q)) q (.ins A.Ju dq [])) p N:=hO.is.same (Jk (Jj ndq) nq)
  refine⟨q,dq,p,N,rfl,Jb,hNq,ok.ok,fun H1 gp rp k1 hq1 B1=>⟨rfl,?_⟩⟩
  have s1:Jg H H1:=Jg.made nq ndq k1
  refine⟨q,_,_,rfl,hq1,rfl,_,rfl,fld (s1 _ _ hc) T.Jz T.Jo rfl ⟨nl,_,_,_,rfl,rfl,SqL.of (s1 _ _ hn),Jp (j:=0) rfl,q,N,t,rfl,⟨dq,p,gp,rp,hq1,B1⟩,ok.ok,fun x l1 l2 H2 s2 nx n1 n2 ⟨⟨dx,hx⟩,h1,h2⟩=>?_⟩⟩
  refine⟨_,rfl,fld hx T.UX T.Jct rfl ⟨(by show 2≤sizeLine;decide),fun a0 n0=>?_⟩⟩
  have s3:Jg H2 (upd H2 a0 (.lst [.int 0,.int (Vbemae.mostShort N t)])):=Jj n0
  have hA:=Jb (H:=H2) (a:=a0) (o:=.lst [.int 0,.int (Vbemae.mostShort N t)])
  generalize upd H2 a0 (.lst [.int 0,.int (Vbemae.mostShort N t)])=H3 at s3 hA⊢
  refine⟨_,rfl,fld (s3 _ _ hx) T.UX T.UD rfl ⟨l1,_,rfl,s3 _ _ h1,by omega,fun r1 H4 s4 nr1 hr1=>?_⟩⟩
  refine⟨a0,r1,_,_,rfl,rfl,s4 _ _ hA,hr1,?_,fun a1 n1'=>?_⟩
  ·rw[List.length_map,Qn];show 2+_≤_;exact Jgb (by omega)
  have s5:=Jj (o:=.lst ([.int 0,.int (Vbemae.mostShort N t)]++(Vbemae.row (Vbemae.members N (Vbemae.inLeast (Vbemae.tight N t)))).map V.int)) n1'
  have hA1:=Jb (H:=H4) (a:=a1) (o:=.lst ([.int 0,.int (Vbemae.mostShort N t)]++(Vbemae.row (Vbemae.members N (Vbemae.inLeast (Vbemae.tight N t)))).map V.int))
  generalize upd H4 a1 (.lst ([.int 0,.int (Vbemae.mostShort N t)]++(Vbemae.row (Vbemae.members N (Vbemae.inLeast (Vbemae.tight N t)))).map V.int))=H5 at s5 hA1⊢
  have s35:=s3.trans (s4.trans s5)
  refine⟨_,rfl,fld (s35 _ _ hx) T.UX T.QX rfl ⟨l2,_,rfl,s35 _ _ h2,by omega,fun r2 H6 s6 nr2 hr2=>?_⟩⟩
  refine⟨a1,r2,_,_,rfl,rfl,s6 _ _ hA1,hr2,?_,fun a2 n2'=>?_⟩
  ·rw[List.length_append,List.length_map,List.length_map,Qn,Qn];show 2+_+_≤_;exact Jgb (by omega)
  have sE:=s1.trans (s2.trans (s35.trans s6))
  refine k a2 _ _ _ (.of_same (Jk sE (Jg.free sE n2')) hO) (Jg.free sE n2') ?_
  rw[Jb]
  show _=some (HO.lst (List.map V.int (0::Vbemae.mostShort N t::(Vbemae.row (Vbemae.members N (Vbemae.inLeast (Vbemae.tight N t)))++Vbemae.row (Vbemae.members N (Vbemae.inGreatest (Vbemae.tight N t)))))))
  rw[List.map_cons,List.map_cons,List.map_append]
  simp only[List.cons_append,List.nil_append,List.append_assoc]
theorem Jl9 (T:Txt w K mg A):JF P w K mg base CX0 2 A.Wb A.V8 ["net","call"] (JR A Jkj):=by
 refine T.Jee.F.ok Yh (fun vs H Q E h=>?_) (fun cdv AA outer s H vs Q E hr h=>?_)
 ·obtain⟨p,c,N,lp,op,ls,os,pl,ns,rws,cc,rfl,_⟩:=h
  rfl
 ·obtain⟨p,c,N,lp,op,ls,os,pl,ns,rws,cc,rfl,hO,ok,hC,⟨rfl,rfl⟩,k⟩:=h
  have hN:=hO.at_
  obtain⟨dn,hnet⟩:=hN.net
  have l12:=ok.ok.l12
  have o40:=ok.o40
  have hll:(ls.map V.ref).length=N.lines.length:=by rw[List.length_map,hN.ln.len]
  have hol:(os.map V.ref).length=N.orders.length:=by rw[List.length_map,hN.od.len]
  have fl:∀l:List Vbemae.Line,(l.flatMap Jg0).length=4*l.length:=Jfa _ fun _=>rfl
  have fo:∀l:List Vbemae.Order,(l.flatMap Jkc).length=4*l.length:=Jfa _ fun _=>rfl
  refine⟨_,(Jd (sA 2 Yh.nd (Js Jc))
   (Jd (U3 PassesOwn.never rfl (Qi (fL K (pv 0))) (gA 3 Yh.nd)
   (Jf (U4 (Jdp PySem.F.plainAttrs_list PySem.F.slot_list_extend PySem.F.type_list_extend Jiv (pv 2) (Ja (Js (Ja (fL K (pv 3)) (Ja (fL K (pv 3)) (Ja (fL K (pv 3)) (Ja (fL K (pv 3)) Jc))))) Jc)))))
   (Jd (sA 4 Yh.nd (Js Jc))
   (Jd (U3 PassesOwn.never rfl (Qi (fL K (pv 0))) (gA 5 Yh.nd)
   (Jf (U4 (Jdp PySem.F.plainAttrs_list PySem.F.slot_list_extend PySem.F.type_list_extend Jiv (pv 4) (Ja (Js (Ja (fL K (pv 5)) (Ja (fL K (pv 5)) (Ja (fL K (pv 5)) (Ja (fL K (pv 5)) Jc))))) Jc)))))
   (Jf (Jl (JB Q7 (JB Q7 (Js (Ja Jm (Ja (fL K (pv 0)) (Ja (fL K (pv 0)) (Ja (fL K (pv 0)) Jc))))) (cL (JbL T) hr T.Jey (Ja (pv 2) Jc))) (cL (JbL T) hr T.Jey (Ja (pv 4) Jc))))))))),?_⟩
  refine⟨Nat.zero_le _,fun l2 n2=>?_⟩
  have s0:Jg H (upd H l2 (.lst [])):=Jj n2
  refine⟨_,rfl,fld (s0 _ _ hnet) T.Jt T.JE rfl ⟨lp,rfl,⟨_,SqL.of (s0 _ _ hN.lls)⟩,JaN (K:=K) (a:=lp) (xs:=ls.map V.ref) (fun i σ H'=>∃v3,σ=[some (.ref p),some (.ref c),some (.ref l2),v3,none,none]∧Jg H H'∧H' l2=some (.lst (((N.lines.take i).flatMap Jg0).map V.int))) ⟨none,rfl,s0,Jb⟩ (fun i σ H' _ ⟨_,_,s2,_⟩=>SqL.of (s2 _ _ hN.lls)) ?_ ?_⟩⟩
  ·rintro i x σ H' hi ⟨v3,rfl,s2,h2⟩
   obtain⟨q,hq,rfl⟩:=J1 hi
   obtain⟨l,hl,dl,hL⟩:=hN.ln.get hq
   have hL2:=s2 _ _ hL
   have hi':i<N.lines.length:=(List.getElem?_eq_some_iff.mp hl).1
   refine⟨_,rfl,.inl ⟨rfl,_,SqL.of h2⟩,_,rfl,fld hL2 T.JN T.J3 rfl ⟨_,rfl,fld hL2 T.JN T.JT rfl ⟨_,rfl,fld hL2 T.JN T.Qk rfl ⟨_,rfl,fld hL2 T.JN T.Qq rfl ⟨(by show 4≤sizeLine;decide),fun a0 n0=>?_⟩⟩⟩⟩⟩
   have s3:=Jj (o:=.lst [.int (l.a:Int),.int (l.b:Int),.int l.forth,.int l.back]) n0
   refine⟨l2,a0,_,_,rfl,rfl,s3 _ _ h2,Jb,?_,?_⟩
   ·rw[List.length_map,fl,List.length_take];exact Nat.le_trans (show 4*min i N.lines.length+4≤200 by omega) (by decide)
   ·refine⟨_,rfl,Jk (s2.trans s3) n2,?_⟩
    rw[Jb,JmZ Jg0 hl,List.map_append];rfl
  ·rintro σ H1 ⟨v3,rfl,s1,h2⟩
   rw[hll,List.take_length] at h2
   refine⟨Nat.zero_le _,fun l4 n4=>?_⟩
   have s2:=Jj (o:=.lst []) n4
   have s12:=s1.trans s2
   refine⟨_,rfl,fld (s12 _ _ hnet) T.Jt T.Jv rfl ⟨op,rfl,⟨_,SqL.of (s12 _ _ hN.los)⟩,JaN (K:=K) (a:=op) (xs:=os.map V.ref) (fun i σ H'=>∃v5,σ=[some (.ref p),some (.ref c),some (.ref l2),v3,some (.ref l4),v5]∧Jg H1 H'∧H' l4=some (.lst (((N.orders.take i).flatMap Jkc).map V.int))) ⟨none,rfl,s2,Jb⟩ (fun i σ H' _ ⟨_,_,s2,_⟩=>SqL.of (s2 _ _ (s1 _ _ hN.los))) ?_ ?_⟩⟩
   ·rintro i x σ H' hi ⟨v5,rfl,s3,h4⟩
    obtain⟨q,hq,rfl⟩:=J1 hi
    obtain⟨o,ho,do_,hO'⟩:=hN.od.get hq
    have hO2:=s3 _ _ (s1 _ _ hO')
    refine⟨_,rfl,.inl ⟨rfl,_,SqL.of h4⟩,_,rfl,fld hO2 T.Jy T.Qj rfl ⟨_,rfl,fld hO2 T.Jy T.JL rfl ⟨_,rfl,fld hO2 T.Jy T.QL rfl ⟨_,rfl,fld hO2 T.Jy T.JP rfl ⟨(by show 4≤sizeLine;decide),fun a0 n0=>?_⟩⟩⟩⟩⟩
    have s4:=Jj (o:=.lst [.int (o.zone:Int),.int (Y2 o.buy),.int o.price,.int o.amount]) n0
    refine⟨l4,a0,_,_,rfl,rfl,s4 _ _ h4,Jb,?_,?_⟩
    ·rw[List.length_map,fo,List.length_take];exact Nat.le_trans (show 4*min i N.orders.length+4≤200 by omega) (by decide)
    ·refine⟨_,rfl,Jk (s3.trans s4) n4,?_⟩
     rw[Jb,JmZ Jkc ho,List.map_append];rfl
   ·rintro σ H3 ⟨v5,rfl,s3,h4⟩
    rw[hol,List.take_length] at h4
    have s13:=s1.trans s3
    refine⟨_,rfl,fld (s13 _ _ hnet) T.Jt T.UE rfl ⟨_,rfl,fld (s13 _ _ hnet) T.Jt T.Qy rfl ⟨_,rfl,fld (s13 _ _ hnet) T.Jt T.Jw rfl ⟨(by show 4≤sizeLine;decide),fun a0 n0=>?_⟩⟩⟩⟩
    have s4:=Jj (o:=.lst [.int 0,.int N.lo,.int N.hi,.int (N.zones:Int)]) n0
    have hA:=Jb (H:=H3) (a:=a0) (o:=.lst [.int 0,.int N.lo,.int N.hi,.int (N.zones:Int)])
    generalize upd H3 a0 (.lst [.int 0,.int N.lo,.int N.hi,.int (N.zones:Int)])=H4 at s4 hA⊢
    have f1:=fl N.lines
    have f2:=fo N.orders
    refine⟨_,rfl,l2,_,rfl,s4 _ _ (s3 _ _ h2),by omega,fun r1 H5 s5 nr1 hr1=>?_⟩
    refine⟨a0,r1,_,_,rfl,rfl,s5 _ _ hA,hr1,?_,fun a1 n1=>?_⟩
    ·rw[List.length_map,Qn];show 4+_≤_;exact Jgb (by omega)
    have s6:=Jj (o:=.lst ([.int 0,.int N.lo,.int N.hi,.int (N.zones:Int)]++(Vbemae.row (N.lines.flatMap Jg0)).map V.int)) n1
    have hA1:=Jb (H:=H5) (a:=a1) (o:=.lst ([.int 0,.int N.lo,.int N.hi,.int (N.zones:Int)]++(Vbemae.row (N.lines.flatMap Jg0)).map V.int))
    generalize upd H5 a1 (.lst ([.int 0,.int N.lo,.int N.hi,.int (N.zones:Int)]++(Vbemae.row (N.lines.flatMap Jg0)).map V.int))=H6 at s6 hA1⊢
    refine⟨_,rfl,l4,_,rfl,s6 _ _ (s5 _ _ (s4 _ _ h4)),by omega,fun r2 H7 s7 nr2 hr2=>?_⟩
    refine⟨a1,r2,_,_,rfl,rfl,s7 _ _ hA1,hr2,?_,fun a2 n2'=>?_⟩
    ·rw[List.length_append,List.length_map,List.length_map,Qn,Qn];show 4+_+_≤_;exact Nat.le_trans (show _≤1000 by omega) (by decide)
    have sE:=s13.trans (s4.trans (s5.trans (s6.trans s7)))
    refine k a2 _ _ _ (.of_same (Jk sE (Jg.free sE n2')) hO) (Jg.free sE n2') ?_
    rw[Jb]
    show _=some (HO.lst (List.map V.int (0::N.lo::N.hi::(N.zones:Int)::(Vbemae.row (N.lines.flatMap Jg0)++Vbemae.row (N.orders.flatMap Jkc)))))
    rw[List.map_cons,List.map_cons,List.map_cons,List.map_cons,List.map_append]
    simp only[List.cons_append,List.nil_append,List.append_assoc]
end
end Zm
namespace Zm
open Vbemae
noncomputable def Adj (N:Net) (y:List Int) (u v:Nat):Prop:=∃a∈N.lines.zip y,slack a.1 a.2=true∧((a.1.a=u∧a.1.b=v)∨(a.1.b=u∧a.1.a=v))
noncomputable def Wn (N:Net) (y:List Int):Nat→Nat→Nat→Prop
 |0,z,u=>z=u
 |k+1,z,u=>Wn N y k z u∨∃v,Adj N y z v∧Wn N y k v u
noncomputable def Jc9 (N:Net) (y:List Int) (z u:Nat):Prop:=∃k,Wn N y k z u
section
variable {N:Net} {y:List Int}
theorem Adj.symm {u v:Nat} (h:Adj N y u v):Adj N y v u:=by
 obtain⟨a,ha,hs,h|h⟩:=h
 ·exact⟨a,ha,hs,.inr ⟨h.2,h.1⟩⟩
 ·exact⟨a,ha,hs,.inl ⟨h.2,h.1⟩⟩
theorem Adj.lt (K:Ok N) {u v:Nat} (h:Adj N y u v):u<N.zones∧v<N.zones:=by
 obtain⟨a,ha,hs,h⟩:=h
 have q:=K.lines a.1 (List.of_mem_zip ha).1
 have:=q.a;have:=q.b
 omega
theorem Wn.mono:∀{i k z u:Nat},i≤k→Wn N y i z u→Wn N y k z u
 |i,0,z,u,h,w=>by rw[Nat.le_zero.mp h] at w;exact w
 |i,k+1,z,u,h,w=>by
  rcases Nat.lt_or_ge k i with q|q
  ·rw[show i=k+1 by omega] at w;exact w
  ·exact .inl (Wn.mono q w)
theorem Wn.lt (K:Ok N):∀{k z u:Nat},z<N.zones→Wn N y k z u→u<N.zones
 |0,z,u,h,w=>by have:z=u:=w;omega
 |k+1,z,u,h,w=>by
  rcases w with w|⟨v,a,w⟩
  ·exact Wn.lt K h w
  ·exact Wn.lt K (a.lt K).2 w
theorem Wn.add:∀{i k z u t:Nat},Wn N y i z u→Wn N y k u t→Wn N y (k+i) z t
 |0,k,z,u,t,w,w'=>by have e:z=u:=w;rw[e];exact w'
 |i+1,k,z,u,t,w,w'=>by
  rcases w with w|⟨v,a,w⟩
  ·exact .inl (Wn.add w w')
  ·exact .inr ⟨v,a,Wn.add w w'⟩
theorem Jc9.refl (z:Nat):Jc9 N y z z:=⟨0,rfl⟩
theorem Jc9.trans {a b c:Nat} (h:Jc9 N y a b) (h':Jc9 N y b c):Jc9 N y a c:=let⟨_,x⟩:=h;let⟨_,x'⟩:=h';⟨_,x.add x'⟩
theorem Adj.conn {u v:Nat} (h:Adj N y u v):Jc9 N y u v:=⟨1,.inr ⟨v,h,rfl⟩⟩
theorem Wn.rev:∀{k z u:Nat},Wn N y k z u→Jc9 N y u z
 |0,z,u,w=>by have e:z=u:=w;rw[e];exact .refl _
 |k+1,z,u,w=>by
  rcases w with w|⟨v,a,w⟩
  ·exact Wn.rev w
  ·exact(Wn.rev w).trans a.symm.conn
theorem Jc9.symm {z u:Nat} (h:Jc9 N y z u):Jc9 N y u z:=let⟨_,w⟩:=h;w.rev
theorem Jm2 {p q:Nat→Bool}:∀(l:List Nat),(∀x∈l,p x=true→q x=true)→(l.countP p≤l.countP q)∧(l.countP p+1≤l.countP q∨∀x∈l,q x=true→p x=true)
 |[],_=>⟨Nat.le_refl _,.inr fun x h=>nomatch h⟩
 |a::l,h=>by
  obtain⟨h1,h2⟩:=Jm2 l fun x hx=>h x (List.mem_cons_of_mem _ hx)
  have ha:=h a List.mem_cons_self
  rw[List.countP_cons,List.countP_cons]
  cases hp:p a with
  |true=>
   rw[ha hp]
   refine⟨by simp;exact h1,?_⟩
   rcases h2 with h2|h2
   ·left;simp;omega
   ·right;intro x hx hq
    rcases List.mem_cons.mp hx with rfl|hx
    ·exact hp
    ·exact h2 x hx hq
  |false=>
   cases hq:q a with
   |true=>exact⟨by simp;omega,.inl (by simp;omega)⟩
   |false=>
    refine⟨by simp;exact h1,?_⟩
    rcases h2 with h2|h2
    ·left;simp;omega
    ·right;intro x hx hqx
     rcases List.mem_cons.mp hx with rfl|hx
     ·rw[hq] at hqx;cases hqx
     ·exact h2 x hx hqx
noncomputable def JlC (N:Net) (y:List Int) (u j:Nat):Prop:=∀z,z<N.zones→Wn N y (j+1) z u→Wn N y j z u
open Classical in
theorem JoF {u:Nat} (hu:u<N.zones):∃j,j≤N.zones∧JlC N y u j:=by
 let c:Nat→Nat:=fun k=>(List.range N.zones).countP fun z=>decide (Wn N y k z u)
 have step:∀k,c k+1≤c (k+1)∨JlC N y u k:=fun k=>by
  rcases(Jm2 (p:=fun z=>decide (Wn N y k z u)) (q:=fun z=>decide (Wn N y (k+1) z u)) (List.range N.zones) fun x _ h=>decide_eq_true (Or.inl (of_decide_eq_true h))).2 with h|h
  ·exact .inl h
  ·exact .inr fun z hz w=>of_decide_eq_true (h z (List.mem_range.mpr hz) (decide_eq_true w))
 have c0:1≤c 0:=by
  refine List.countP_pos_iff.mpr ⟨u,List.mem_range.mpr hu,decide_eq_true rfl⟩
 have up:∀k,k+1≤c k∨∃j,j≤k∧JlC N y u j:=by
  intro k
  induction k with
  |zero=>exact .inl c0
  |succ k ih=>
   rcases ih with ih|⟨j,hj,h⟩
   ·rcases step k with h|h
    ·exact .inl (by omega)
    ·exact .inr ⟨k,by omega,h⟩
   ·exact .inr ⟨j,by omega,h⟩
 rcases up N.zones with h|h
 ·have:c N.zones≤N.zones:=by
   have:=List.countP_le_length (p:=fun z=>decide (Wn N y N.zones z u)) (l:=List.range N.zones)
   rw[List.length_range] at this;exact this
  omega
 ·exact h
theorem JlC.all (K:Ok N) {u j:Nat} (S:JlC N y u j):∀i z,z<N.zones→Wn N y (j+i) z u→Wn N y j z u
 |0,z,_,w=>w
 |i+1,z,hz,w=>by
  rcases(show Wn N y ((j+i)+1) z u from w) with w|⟨v,a,w⟩
  ·exact S.all K i z hz w
  ·exact S z hz (.inr ⟨v,a,S.all K i v (a.lt K).2 w⟩)
theorem Jc9.short (K:Ok N) {z u:Nat} (hz:z<N.zones) (h:Jc9 N y z u):Wn N y N.zones z u:=by
 obtain⟨k,w⟩:=h
 obtain⟨j,hj,S⟩:=JoF (y:=y) (Wn.lt K hz w)
 refine Wn.mono hj ?_
 rcases Nat.lt_or_ge j k with h|h
 ·exact S.all K (k-j) z hz (by rw[show j+(k-j)=k by omega];exact w)
 ·exact Wn.mono h w
theorem Jn5 {l:List Nat} {i d:Nat} (h:i<l.length):l.getD i d=l.getD i 0:=by
 rw[List.getD_eq_getElem?_getD,List.getD_eq_getElem?_getD,List.getElem?_eq_getElem h];rfl
noncomputable def Jle (lab:List Nat) (z:Nat) (m:Nat) (a:Line×Int):Nat:=if slack a.1 a.2=true then(if a.1.a=z then min m (lab.getD a.1.b m) else if a.1.b=z then min m (lab.getD a.1.a m) else m) else m
noncomputable def Juh (z v:Nat) (a:Line×Int):Prop:=slack a.1 a.2=true∧((a.1.a=z∧a.1.b=v)∨(a.1.b=z∧a.1.a=v))
theorem JuR {lab:List Nat} {z:Nat} {a:Line×Int} (ha:a.1.a<lab.length) (hb:a.1.b<lab.length) (hne:a.1.a≠a.1.b) (m:Nat):
  Jle lab z m a≤m∧(∀v,Juh z v a→Jle lab z m a≤lab.getD v 0)∧(Jle lab z m a=m∨∃v,Juh z v a∧Jle lab z m a=lab.getD v 0):=by
 unfold Jle Juh
 rw[Jn5 (d:=m) ha,Jn5 (d:=m) hb]
 by_cases hs:slack a.1 a.2=true
 ·rw[if_pos hs]
  by_cases h1:a.1.a=z
  ·rw[if_pos h1]
   refine⟨Nat.min_le_left _ _,fun v hv=>?_,?_⟩
   ·have:a.1.b=v:=by rcases hv.2 with h|h<;>omega
    rw[←this];exact Nat.min_le_right _ _
   ·rcases Nat.le_total m (lab.getD a.1.b 0) with h|h
    ·exact .inl (Nat.min_eq_left h)
    ·exact .inr ⟨a.1.b,⟨hs,.inl ⟨h1,rfl⟩⟩,Nat.min_eq_right h⟩
  ·rw[if_neg h1]
   by_cases h2:a.1.b=z
   ·rw[if_pos h2]
    refine⟨Nat.min_le_left _ _,fun v hv=>?_,?_⟩
    ·have:a.1.a=v:=by rcases hv.2 with h|h<;>omega
     rw[←this];exact Nat.min_le_right _ _
    ·rcases Nat.le_total m (lab.getD a.1.a 0) with h|h
     ·exact .inl (Nat.min_eq_left h)
     ·exact .inr ⟨a.1.a,⟨hs,.inr ⟨h2,rfl⟩⟩,Nat.min_eq_right h⟩
   ·rw[if_neg h2]
    exact⟨Nat.le_refl _,fun v hv=>by rcases hv.2 with h|h<;>omega,.inl rfl⟩
 ·rw[if_neg hs]
  exact⟨Nat.le_refl _,fun v hv=>absurd hv.1 hs,.inl rfl⟩
theorem Jpl {lab:List Nat} {z:Nat}:∀(l:List (Line×Int)) (m:Nat),(∀a∈l,a.1.a<lab.length∧a.1.b<lab.length∧a.1.a≠a.1.b)→
  l.foldl (Jle lab z) m≤m∧(∀v,(∃a∈l,Juh z v a)→l.foldl (Jle lab z) m≤lab.getD v 0)∧(l.foldl (Jle lab z) m=m∨∃v,(∃a∈l,Juh z v a)∧l.foldl (Jle lab z) m=lab.getD v 0)
 |[],m,_=>⟨Nat.le_refl _,fun v ⟨a,h,_⟩=>(nomatch h),.inl rfl⟩
 |a::l,m,h=>by
  obtain⟨ha,hb,hn⟩:=h a List.mem_cons_self
  obtain⟨p1,p2,p3⟩:=JuR (z:=z) ha hb hn m
  obtain⟨q1,q2,q3⟩:=Jpl (z:=z) l (Jle lab z m a) fun b hb=>h b (List.mem_cons_of_mem _ hb)
  rw[List.foldl_cons]
  refine⟨Nat.le_trans q1 p1,fun v ⟨b,hb,hv⟩=>?_,?_⟩
  ·rcases List.mem_cons.mp hb with rfl|hb
   ·exact Nat.le_trans q1 (p2 v hv)
   ·exact q2 v ⟨b,hb,hv⟩
  ·rcases q3 with q3|⟨v,⟨b,hb,hv⟩,q3⟩
   ·rw[q3]
    rcases p3 with p3|⟨v,hv,p3⟩
    ·exact .inl p3
    ·exact .inr ⟨v,⟨a,List.mem_cons_self,hv⟩,p3⟩
   ·exact .inr ⟨v,⟨b,List.mem_cons_of_mem _ hb,hv⟩,q3⟩
theorem Jn2 (lab:List Nat):(labelled N y lab).length=N.zones:=by unfold labelled;simp
theorem Jpu (K:Ok N) {lab:List Nat} (hl:lab.length=N.zones) {z:Nat} (hz:z<N.zones):
  (labelled N y lab).getD z 0≤lab.getD z 0∧(∀v,Adj N y z v→(labelled N y lab).getD z 0≤lab.getD v 0)∧((labelled N y lab).getD z 0=lab.getD z 0∨∃v,Adj N y z v∧(labelled N y lab).getD z 0=lab.getD v 0):=by
 have e:(labelled N y lab).getD z 0=(N.lines.zip y).foldl (Jle lab z) (lab.getD z 0):=by
  rw[←Jn5 (d:=z) (show z<lab.length by omega)]
  unfold labelled
  rw[List.getD_eq_getElem?_getD,List.getElem?_map,List.getElem?_range hz]
  rfl
 rw[e]
 exact Jpl _ _ fun a ha=>by
  have q:=K.lines a.1 (List.of_mem_zip ha).1
  have:=q.a;have:=q.b;have:=q.ne
  omega
theorem Jjd:∀(k:Nat) (lab:List Nat),rounds N y (k+1) lab=labelled N y (rounds N y k lab)
 |0,lab=>rfl
 |k+1,lab=>by
  show rounds N y (k+1) (labelled N y lab)=_
  rw[Jjd k];rfl
theorem Jim (K:Ok N):∀k,(rounds N y k (List.range N.zones)).length=N.zones∧∀z,z<N.zones→Jc9 N y z ((rounds N y k (List.range N.zones)).getD z 0)∧∀u,Wn N y k z u→(rounds N y k (List.range N.zones)).getD z 0≤u
 |0=>by
  refine⟨List.length_range,fun z hz=>?_⟩
  have e:(rounds N y 0 (List.range N.zones)).getD z 0=z:=by
   show(List.range N.zones).getD z 0=z
   rw[List.getD_eq_getElem?_getD,List.getElem?_range hz];rfl
  rw[e]
  exact⟨.refl _,fun u w=>by have:z=u:=w;omega⟩
 |k+1=>by
  obtain⟨h1,h2⟩:=Jim K k
  rw[Jjd]
  refine⟨Jn2 _,fun z hz=>?_⟩
  obtain⟨p1,p2,p3⟩:=Jpu (y:=y) K h1 hz
  constructor
  ·rcases p3 with e|⟨v,a,e⟩
   ·rw[e];exact(h2 z hz).1
   ·rw[e];exact a.conn.trans (h2 v (a.lt K).2).1
  ·intro u w
   rcases w with w|⟨v,a,w⟩
   ·exact Nat.le_trans p1 ((h2 z hz).2 u w)
   ·exact Nat.le_trans (p2 v a) ((h2 v (a.lt K).2).2 u w)
theorem JiN (K:Ok N):(areas N y).length=N.zones:=(Jim K _).1
theorem Juf (K:Ok N) {z:Nat} (hz:z<N.zones):Jc9 N y z ((areas N y).getD z 0)∧∀u,Jc9 N y z u→(areas N y).getD z 0≤u:=
 let h:=(Jim K N.zones).2 z hz
 ⟨h.1,fun u c=>h.2 u (c.short K hz)⟩
theorem Jue (K:Ok N) {lab:List Nat} (hl:lab.length=N.zones) (h1:∀z,z<N.zones→Jc9 N y z (lab.getD z 0)) (h2:∀z v,Adj N y z v→lab.getD z 0=lab.getD v 0) (h3:∀z,z<N.zones→lab.getD z 0≤z):lab=areas N y:=by
 have hw:∀k z u,Wn N y k z u→lab.getD z 0=lab.getD u 0:=by
  intro k
  induction k with
  |zero=>intro z u w;have e:z=u:=w;rw[e]
  |succ k ih=>
   intro z u w
   rcases w with w|⟨v,a,w⟩
   ·exact ih z u w
   ·rw[h2 z v a];exact ih v u w
 refine List.ext_getElem (by rw[hl,JiN K]) fun z hz hz'=>?_
 have hz0:z<N.zones:=by omega
 have e1:lab.getD z 0=lab[z]:=by rw[List.getD_eq_getElem?_getD,List.getElem?_eq_getElem hz];rfl
 have e2:(areas N y).getD z 0=(areas N y)[z]:=by rw[List.getD_eq_getElem?_getD,List.getElem?_eq_getElem hz'];rfl
 obtain⟨a1,a2⟩:=Juf (y:=y) K hz0
 rw[←e1,←e2]
 refine Nat.le_antisymm ?_ (a2 _ (h1 z hz0))
 obtain⟨k,w⟩:=id a1
 rw[hw k z _ w]
 exact h3 _ (Wn.lt K hz0 w)
end
end Zm
namespace Zm
open Vbemae
noncomputable def Jry (lab:List Nat) (a:Line×Int):List Nat:=if slack a.1 a.2=true then lab.map fun x=>if x=max (lab.getD a.1.a 0) (lab.getD a.1.b 0) then min (lab.getD a.1.a 0) (lab.getD a.1.b 0) else x else lab
structure Joy (N:Net) (y:List Int) (done:List (Line×Int)) (lab:List Nat):Prop where
 len:lab.length=N.zones
 conn:∀z,z<N.zones→Jc9 N y z (lab.getD z 0)
 le:∀z,z<N.zones→lab.getD z 0≤z
 eq:∀a∈done,slack a.1 a.2=true→lab.getD a.1.a 0=lab.getD a.1.b 0
theorem JsG {f:Nat→Nat} {lab:List Nat} {z:Nat} (h:z<lab.length):(lab.map f).getD z 0=f (lab.getD z 0):=by
 rw[List.getD_eq_getElem?_getD,List.getD_eq_getElem?_getD,List.getElem?_map,List.getElem?_eq_getElem h];rfl
theorem Joy.start (N:Net) (y:List Int):Joy N y [] (List.range N.zones):=by
 have e:∀z,z<N.zones→(List.range N.zones).getD z 0=z:=fun z hz=>by rw[List.getD_eq_getElem?_getD,List.getElem?_range hz];rfl
 exact⟨List.length_range,fun z hz=>by rw[e z hz];exact Jc9.refl z,fun z hz=>by rw[e z hz];exact Nat.le_refl z,fun a h=>by simp at h⟩
theorem Joy.step {N:Net} {y:List Int} (K:Ok N) {done:List (Line×Int)} {lab:List Nat} {a:Line×Int} (I:Joy N y done lab) (ha:a∈N.lines.zip y) (hd:∀b∈done,b∈N.lines.zip y):Joy N y (done++[a]) (Jry lab a):=by
 have okl:∀b∈N.lines.zip y,Jum N b.1:=fun b hb=>K.lines b.1 (List.of_mem_zip hb).1
 have oka:=okl a ha
 unfold Jry
 by_cases hs:slack a.1 a.2=true
 ·rw[if_pos hs]
  have g:∀z,z<N.zones→(lab.map fun x=>if x=max (lab.getD a.1.a 0) (lab.getD a.1.b 0) then min (lab.getD a.1.a 0) (lab.getD a.1.b 0) else x).getD z 0=if lab.getD z 0=max (lab.getD a.1.a 0) (lab.getD a.1.b 0) then min (lab.getD a.1.a 0) (lab.getD a.1.b 0) else lab.getD z 0:=fun z hz=>JsG (by rw[I.len];exact hz)
  have ca:=I.conn a.1.a oka.a
  have cb:=I.conn a.1.b oka.b
  have ab:Jc9 N y a.1.a a.1.b:=Adj.conn ⟨a,ha,hs,.inl ⟨rfl,rfl⟩⟩
  have cm:Jc9 N y (max (lab.getD a.1.a 0) (lab.getD a.1.b 0)) (min (lab.getD a.1.a 0) (lab.getD a.1.b 0)):=by
   rcases Nat.le_total (lab.getD a.1.a 0) (lab.getD a.1.b 0) with h|h
   ·rw[Nat.max_eq_right h,Nat.min_eq_left h]
    exact cb.symm.trans (ab.symm.trans ca)
   ·rw[Nat.max_eq_left h,Nat.min_eq_right h]
    exact ca.symm.trans (ab.trans cb)
  refine⟨by rw[List.length_map];exact I.len,fun z hz=>?_,fun z hz=>?_,fun b hb sb=>?_⟩
  ·rw[g z hz]
   split
   ·rename_i h
    have:=I.conn z hz
    rw[h] at this
    exact this.trans cm
   ·exact I.conn z hz
  ·rw[g z hz]
   have:=I.le z hz
   split
   ·rename_i h;rw[h] at this;omega
   ·exact this
  ·rcases List.mem_append.mp hb with hb|hb
   ·have okb:=okl b (hd b hb)
    rw[g _ okb.a,g _ okb.b,I.eq b hb sb]
   ·rw[List.mem_singleton.mp hb,g _ oka.a,g _ oka.b]
    rcases Nat.le_total (lab.getD a.1.a 0) (lab.getD a.1.b 0) with h|h
    ·rw[Nat.max_eq_right h,Nat.min_eq_left h,if_pos (c:=lab.getD a.1.b 0=_) rfl]
     split<;>rfl
    ·rw[Nat.max_eq_left h,Nat.min_eq_right h,if_pos (c:=lab.getD a.1.a 0=_) rfl]
     split<;>rfl
 ·rw[if_neg hs]
  refine⟨I.len,I.conn,I.le,fun b hb sb=>?_⟩
  rcases List.mem_append.mp hb with hb|hb
  ·exact I.eq b hb sb
  ·rw[List.mem_singleton.mp hb] at sb;exact absurd sb hs
theorem Joy.end_ {N:Net} {y:List Int} (K:Ok N) {lab:List Nat} (I:Joy N y (N.lines.zip y) lab):lab=areas N y:=by
 refine Jue K I.len I.conn (fun z v h=>?_) I.le
 obtain⟨a,ha,hs,h⟩:=h
 have e:=I.eq a ha hs
 rcases h with⟨rfl,rfl⟩|⟨rfl,rfl⟩
 ·exact e
 ·exact e.symm
end Zm
namespace Zm
open PySem PySem.Spec PyProof.Rows L2
noncomputable def Jkq (ns:List Int) (_:List (List Int)) (c:Vbemae.Call):Prop:=ns=[]∧c=.areas
noncomputable def JoJ (A:Adr):Sp:=fun vs H Q _=>∃(q:Addr) (l:Vbemae.Line) (f:Int),vs=[.ref q,.int f]∧Jeb A H q l∧Q (.bl (Vbemae.slack l f)) H
noncomputable def JbO (l:List Nat):List V:=l.map fun i:Nat=>V.int i
theorem Jpm {l:List Nat} {z:Nat} (h:z<l.length):(JbO l)[z]? =some (.int (l.getD z 0:Nat)):=by
 unfold JbO
 rw[List.getElem?_map,List.getD_eq_getElem?_getD,List.getElem?_eq_getElem h];rfl
noncomputable def Jl0 (A:Adr):Sp:=fun vs H Q _=>∃(p q:Addr) (N:Vbemae.Net) (y:List Int),vs=[.ref p,.ref q]∧JcT A H p q N y N.lines.length∧∀l H',Jg H H'→H l=none→H' l=some (.lst (JbO (Vbemae.areas N y)))→Q (.ref l) H'
section
variable {P:Program} {w:World} {K:PySem.W.Frag} {mg:Str→Option Value} {base:Heap} {A:Adr}
theorem Jpg (T:Txt w K mg A):JF P w K mg base CX0 1 A.Jd5 A.Jcz ["line","flow"] (JoJ A):=by
 refine T.JlN.F.ok JoO (fun vs H Q E h=>?_) (fun cdv AA outer s H vs Q E hr h=>?_)
 ·obtain⟨q,l,f,rfl,_⟩:=h
  rfl
 ·obtain⟨q,l,f,rfl,⟨dl,hL⟩,k⟩:=h
  unfold Vbemae.slack at k
  refine⟨_,(Jf (Jl (JeX Jjg Jjg (Jjf JeG (fL K (pv 0))) (pv 1) (fL K (pv 0))))),?_⟩
  refine⟨_,rfl,fld hL T.JN T.Qq rfl ⟨_,rfl,_,rfl,_,_,rfl,rfl,_,rfl,J4 (fun h1=>?_) (fun h1=>?_)⟩⟩
  ·refine⟨_,rfl,fld hL T.JN T.Qk rfl ⟨_,_,rfl,rfl,?_⟩⟩
   rw[h1] at k
   exact k
  ·rw[h1] at k
   exact k
theorem Jme (T:Txt w K mg A):JF P w K mg base CX0 2 A.Jbq A.Jah ["net","flows"] (Jl0 A):=by
 refine T.Jib.F.ok Q0 (fun vs H Q E h=>?_) (fun cdv AA outer s H vs Q E hr h=>?_)
 ·obtain⟨p,q,N,y,rfl,_⟩:=h
  rfl
 ·obtain⟨p,q,N,y,rfl,⟨⟨lp,op,ls,os,hN⟩,ok,hy,yl⟩,k⟩:=h
  obtain⟨dn,hnet⟩:=hN.net
  have z6:=ok.z6
  refine⟨_,(Jd (sA 2 Q0.nd (Jio (JqV rfl) (by rfl) T.Jvj (by decide+kernel) (Ja (Jio JpH (by rfl) T.Jdz boot_range (Ja (fL K (pv 0)) Jc)) Jc)))
   (Jd (U3 PassesOwn.never rfl (Uu ZZ.Knd.lst ZZ.Knd.lst K rfl (by rfl) T.WK (Ja (fL K (pv 0)) (Ja (pv 1) Jc))) (gB K (Jx (gA 3 Q0.nd) (Jx (gA 4 Q0.nd) QQ)))
   (Jf (Qa (VY (cL (Jpg T) hr T.JlN (Ja (pv 3) (Ja (pv 4) Jc)))) (Jd (sA 5 Q0.nd (JV (JiM rfl) (by rfl) T.Jly PyProof.Rows.boot_min (Ja (iL K (pv 2) (fL K (pv 3))) (Ja (iL K (pv 2) (fL K (pv 3))) Jc))))
   (Jd (sA 6 Q0.nd (JV (Jdx rfl) (by rfl) T.Jg9 PyProof.Rows.boot_max (Ja (iL K (pv 2) (fL K (pv 3))) (Ja (iL K (pv 2) (fL K (pv 3))) Jc))))
   (Jf (JaA (i:=2) rfl Q0.nd rfl rfl rfl (Qi (pv 2)) (own:=[("area",7)]) (lK Jh7 (Je JdO) (by decide+kernel)) (fun _ _ _ _ _=>(gA 7 Q0.nd)) (fun _ _ _ _ _=>Qo) (fun _ _ _ _ _=>(Jdo (JA YX (pv 7) (pv 6) (JJ _)) (pv 5) (pv 7))))))) JD)))
   (Jf (Jl (pv 2))))),?_⟩
  refine⟨_,rfl,fld hnet T.Jt T.Jw rfl ⟨N.zones,rfl,fun a0 n0=>?_⟩⟩
  have s0:Jg H (upd H a0 (Jq2 a0 N.zones)):=Jj n0
  refine⟨a0,N.zones,rfl,Jb,by omega,fun l0 nl0=>?_⟩
  have s1:Jg H (upd (upd H a0 (Jq2 a0 N.zones)) l0 (.lst ((List.range N.zones).map fun i:Nat=>V.int i))):=Jk s0 (Jg.free s0 nl0)
  have hl0:=Jb (H:=upd H a0 (Jq2 a0 N.zones)) (a:=l0) (o:=.lst ((List.range N.zones).map fun i:Nat=>V.int i))
  have f0:=Jg.free s0 nl0
  generalize upd (upd H a0 (Jq2 a0 N.zones)) l0 (.lst ((List.range N.zones).map fun i:Nat=>V.int i))=H1 at s1 hl0⊢
  have hlen:(ls.map V.ref).length=(y.map V.int).length:=by rw[List.length_map,List.length_map,hN.ln.len,yl]
  have zl:(N.lines.zip y).length=N.lines.length:=by rw[List.length_zip,yl];omega
  refine⟨_,rfl,fld (s1 _ _ hnet) T.Jt T.JE rfl ⟨_,rfl,lp,q,_,_,rfl,SqL.of (s1 _ _ hN.lls),SqL.of (s1 _ _ hy),Je9 (k:=.lst) (k':=.lst) (K:=K) hlen (fun i σ H'=>∃(l:Addr) (lab:List Nat) (v3 v4 v5 v6 v7:Option V),σ=[some (.ref p),some (.ref q),some (.ref l),v3,v4,v5,v6,v7]∧Jg H H'∧H l=none∧H' l=some (.lst (JbO lab))∧Joy N y ((N.lines.zip y).take i) lab)
   ⟨l0,List.range N.zones,none,none,none,none,none,rfl,s1,f0,hl0,Joy.start N y⟩ (fun i σ H' _ ⟨_,_,_,_,_,_,_,_,s3,_⟩=>⟨SqL.of (s3 _ _ hN.lls),SqL.of (s3 _ _ hy)⟩) ?_ ?_⟩⟩
  ·rintro i x yv T1 σ H' hx hyv hT ⟨l,lab,v3,v4,v5,v6,v7,rfl,s3,nl,hl,I⟩
   obtain⟨a,ha,rfl⟩:=J1 hx
   obtain⟨ln,hln,hL⟩:=hN.ln.get ha
   obtain⟨f,hf,rfl⟩:=int_at hyv
   have okl:=ok.ok.lines ln (List.mem_of_getElem? hln)
   have s4:=Jk (o:=.tup [.ref a,.int f]) s3 (Jg.free s3 hT)
   have hl4:(upd H' T1 (.tup [.ref a,.int f])) l=_:=(Jh (Jn hl hT)).trans hl
   have hpair:(N.lines.zip y)[i]? =some (ln,f):=by rw[List.getElem?_zip_eq_some];exact⟨hln,hf⟩
   have I2:=I.step ok.ok (a:=(ln,f)) (List.mem_of_getElem? hpair) fun b hb=>List.mem_of_mem_take hb
   have et:(N.lines.zip y).take i++[(ln,f)]=(N.lines.zip y).take (i+1):=by
    have h2:=List.getElem?_eq_some_iff.mp hpair
    rw[List.take_succ_eq_append_getElem h2.1,h2.2]
   rw[et] at I2
   refine⟨T1,_,rfl,SqT.of Jb,rfl,_,_,rfl,_,_,rfl,rfl,?_⟩
   generalize upd H' T1 (.tup [.ref a,.int f])=H4 at s4 hl4⊢
   have hL4:=hL.same s4
   obtain⟨dl,hL5⟩:=id hL4
   refine⟨_,rfl,_,rfl,a,ln,f,rfl,hL4,_,rfl,J4 (fun hs=>?_) (fun hs=>?_)⟩
   ·unfold Jry at I2
    rw[if_pos hs] at I2
    have ia:=Jp (Jpm (show ln.a<lab.length by rw[I.len];exact okl.a))
    have ib:=Jp (Jpm (show ln.b<lab.length by rw[I.len];exact okl.b))
    refine⟨_,rfl,_,rfl,fld hL5 T.JN T.J3 rfl ⟨l,_,_,_,rfl,rfl,SqL.of hl4,ia,_,rfl,_,rfl,fld hL5 T.JN T.JT rfl ⟨l,_,_,_,rfl,rfl,SqL.of hl4,ib,_,_,rfl,?_⟩⟩⟩
    refine⟨_,rfl,_,rfl,fld hL5 T.JN T.J3 rfl ⟨l,_,_,_,rfl,rfl,SqL.of hl4,ia,_,rfl,_,rfl,fld hL5 T.JN T.JT rfl ⟨l,_,_,_,rfl,rfl,SqL.of hl4,ib,_,_,rfl,?_⟩⟩⟩
    have emin:(if((lab.getD ln.b 0:Nat):Int)<((lab.getD ln.a 0:Nat):Int) then((lab.getD ln.b 0:Nat):Int) else((lab.getD ln.a 0:Nat):Int))=((min (lab.getD ln.a 0) (lab.getD ln.b 0):Nat):Int):=by split<;>omega
    have emax:(if((lab.getD ln.b 0:Nat):Int)>((lab.getD ln.a 0:Nat):Int) then((lab.getD ln.b 0:Nat):Int) else((lab.getD ln.a 0:Nat):Int))=((max (lab.getD ln.a 0) (lab.getD ln.b 0):Nat):Int):=by split<;>omega
    rw[emin,emax]
    refine⟨_,rfl,l,rfl,⟨_,SqL.of hl4⟩,fun D nD=>?_⟩
    have labl:(JbO lab).length≤sizeLine:=by unfold JbO;rw[List.length_map,I.len];exact Nat.le_trans z6 (by decide)
    refine UQ (fun j=>(lab[j]?).map fun x=>V.int ((if x=max (lab.getD ln.a 0) (lab.getD ln.b 0) then min (lab.getD ln.a 0) (lab.getD ln.b 0) else x:Nat):Int)) (JbO lab).length (Itl K l) nD labl (Ye (SqL.of hl4)) (QW (SqL.of hl4)) ?_ ?_
    ·intro j x H5 H6 hj s5 hD5 yy
     obtain⟨rfl,yy⟩:=yy
     have hx:=yy _ (SqL.of (s5 _ _ hl4))
     unfold JbO at hx
     rw[List.getElem?_map] at hx
     cases hv:lab[j]? with
     |none=>rw[hv] at hx;cases hx
     |some v=>
      rw[hv] at hx
      have ex:x=V.int (v:Int):=(Option.some.inj hx).symm
      subst ex
      refine⟨rfl,_,rfl,_,rfl,rfl,_,rfl,J4 (fun hc=>?_) (fun hc=>?_)⟩
      ·have e:v=max (lab.getD ln.a 0) (lab.getD ln.b 0):=by have:=Jfb hc;omega
       refine⟨_,rfl,J8 (i:=j) nD (Nat.lt_of_lt_of_le hj labl) s5 hD5 ?_⟩
       simp only[hv,Option.map_some,if_pos e]
      ·have e:¬v=max (lab.getD ln.a 0) (lab.getD ln.b 0):=fun e=>JaO hc (by rw[e])
       refine⟨_,rfl,J8 (i:=j) nD (Nat.lt_of_lt_of_le hj labl) s5 hD5 ?_⟩
       simp only[hv,Option.map_some,if_neg e]
    ·intro H5 s5 hD5
     refine⟨D,_,_,_,_,_,_,rfl,s4.trans s5,Jg.free s4 nD,?_,I2⟩
     rw[hD5]
     congr 2
     unfold JbO
     rw[List.length_map,List.map_map]
     exact UR _ _ _ fun i x hx=>by rw[hx];rfl
   ·unfold Jry at I2
    rw[if_neg (by rw[hs];decide)] at I2
    exact⟨l,lab,_,_,_,_,_,rfl,s4,nl,hl4,I2⟩
  ·rintro σ H' ⟨l,lab,v3,v4,v5,v6,v7,rfl,s3,nl,hl,I⟩
   rw[List.length_map,hN.ln.len,←zl,List.take_length] at I
   rw[I.end_ ok.ok] at hl
   exact⟨_,rfl,k l H' s3 nl hl⟩
theorem Jmb (T:Txt w K mg A):JF P w K mg base CX0 7 A.Wd A.Jaa ["net","call"] (JR A Jkq):=by
 refine T.Jeg.F.ok Jl5 (fun vs H Q E h=>?_) (fun cdv AA outer s H vs Q E hr h=>?_)
 ·obtain⟨p,c,N,lp,op,ls,os,pl,ns,rws,cc,rfl,_⟩:=h
  rfl
 ·obtain⟨p,c,N,lp,op,ls,os,pl,ns,rws,cc,rfl,hO,ok,hC,⟨rfl,rfl⟩,k⟩:=h
  have z6:=ok.ok.z6
  have ook:=UG ok.ok
  have al:=JiN (y:=(Vbemae.cleared N).flows) ok.ok.ok
  refine⟨_,(Jf (Jl (JB Q7 (Js (Ja Jm Jc)) (cL (JbL T) hr T.Jey (Ja (cL (Jme T) hr T.Jib (Ja (pv 0) (Ja (fL K (cL (Qx T) hr T.Qt (Ja (pv 0) Jc))) Jc))) Jc))))),?_⟩
  refine⟨(by show 1≤sizeLine;decide),fun a0 n0=>?_⟩
  have s0:=Jj (o:=.lst [.int 0]) n0
  have hA:=Jb (H:=H) (a:=a0) (o:=.lst [.int 0])
  generalize upd H a0 (.lst [.int 0])=H0 at s0 hA⊢
  refine⟨_,rfl,_,rfl,p,N,rfl,hO.is.same s0,ok.ok,fun q H1 s1 hq=>?_⟩
  obtain⟨dq,l1,l2,l3,hq0,h10,h20,h30⟩:=hq
  have s01:=s0.trans s1
  refine(fld hq0 T.JW T.Q4 rfl ⟨p,l3,N,_,rfl,⟨hO.is.same s01,ok.ok,h30,ook.fl⟩,fun l H2 s2 nl hl=>?_⟩)
  have e:JbO (Vbemae.areas N (Vbemae.cleared N).flows)=(Vbemae.nats (Vbemae.areas N (Vbemae.cleared N).flows)).map V.int:=by
   unfold JbO Vbemae.nats;rw[List.map_map];rfl
  rw[e] at hl
  refine⟨l,_,rfl,hl,by unfold Vbemae.nats;rw[List.length_map];omega,fun r H3 s3 nr hr=>?_⟩
  refine⟨a0,r,_,_,rfl,rfl,s3 _ _ (s2 _ _ (s1 _ _ hA)),hr,?_,fun a1 n1=>?_⟩
  ·rw[List.length_map,Qn];unfold Vbemae.nats;rw[List.length_map];show 1+_≤_;exact Jgb (by omega)
  have sE:=s01.trans (s2.trans s3)
  refine k a1 _ _ _ (.of_same (Jk sE (Jg.free sE n1)) hO) (Jg.free sE n1) ?_
  rw[Jb];rfl
end
end Zm
namespace Zm
open PySem PySem.Spec PyProof.Rows L2
noncomputable def JdZ (ns:List Int) (rws:List (List Int)) (c:Vbemae.Call):Prop:=∃ps:List Int,ns=[]∧rws=[ps]∧ps.length≤64∧c=.supports ps
theorem JiG {α β γ:Type} (f:α→β→γ) (m:γ→V) (c:Nat→Option V) (xs:List α) (ys:List β) (h:xs.length=ys.length) (hc:∀(i:Nat) x y,xs[i]? =some x→ys[i]? =some y→c i=some (m (f x y))):(List.range xs.length).filterMap c=(List.zipWith f xs ys).map m:=by
 have e:(List.zipWith f xs ys).length=xs.length:=by rw[List.length_zipWith];omega
 rw[←e]
 refine UR m c _ fun i v hv=>?_
 rw[List.getElem?_zipWith] at hv
 cases hx:xs[i]? with
 |none=>rw[hx] at hv;cases hv
 |some x=>
  cases hy:ys[i]? with
  |none=>rw[hx,hy] at hv;cases hv
  |some y=>
   rw[hx,hy] at hv
   have:f x y=v:=Option.some.inj hv
   rw[←this];exact hc i x y hx hy
theorem JcH {α β:Type} (f:α→β→Bool):∀(l:List α) (r:List β),(List.zipWith f l r).all id=(l.zip r).all fun a=>f a.1 a.2
 |[],_=>rfl
 |_::_,[]=>rfl
 |a::l,b::r=>by rw[List.zipWith_cons_cons,List.zip_cons_cons,List.all_cons,List.all_cons,JcH f l r];rfl
noncomputable def JjG (A:Adr):Sp:=fun vs H Q _=>∃(p q pr:Addr) (N:Vbemae.Net) (O:Vbemae.Outcome) (ps:List Int),vs=[.ref p,.ref q,.ref pr]∧Jdb A H p q N O∧H pr=some (.lst (ps.map V.int))∧ps.length=N.zones∧
 ∀H',Jg H H'→Q (.bl (((Vbemae.arcs N ps).zip (O.shares++O.flows)).all fun a=>Jdr a.1 a.2)) H'
section
variable {P:Program} {w:World} {K:PySem.W.Frag} {mg:Str→Option Value} {base:Heap} {A:Adr}
theorem JjS (T:Txt w K mg A):JF P w K mg base CX0 5 A.VI A.YB ["net","outcome","prices"] (JjG A):=by
 refine T.Jfz.F.ok Wh (fun vs H Q E h=>?_) (fun cdv AA outer s H vs Q E hr h=>?_)
 ·obtain⟨p,q,pr,N,O,ps,rfl,_⟩:=h
  rfl
 ·obtain⟨p,q,pr,N,O,ps,rfl,⟨hNI,ok,⟨dq,l1,l2,l3,hq,h1,h2,h3⟩,ook⟩,hpr,pl,k⟩:=h
  have o41:=ok.o41
  have l12:=ok.l12
  refine⟨_,(Jd (sA 3 Wh.nd (JB Q7 (cL (Jgo T) hr T.Jeh (Ja (pv 0) (Ja (pv 2) Jc))) (cL (JhJ T) hr T.Jfy (Ja (pv 0) (Ja (pv 2) Jc)))))
   (Jf (Jl (JV (Jdy K rfl rfl) (by rfl) T.Jlz PyProof.Rows.boot_all (Ja (WH rfl Wh.nd (Uu ZZ.Knd.lst ZZ.Knd.lst K rfl (by rfl) T.WK (Ja (pv 3) (Ja (JB Q7 (fL K (pv 1)) (fL K (pv 1))) Jc))) (own:=[("arc",4),("flow",5)]) (lK Jfm (Je JbG) (by decide+kernel)) (fun _ _ _ _ _=>(gB K (Jx (gA 4 Wh.nd) (Jx (gA 5 Wh.nd) QQ)))) (fun _ _ _ _ _=>Qo) (fun _ _ _ _ _=>(JeX JbK JbK (fL K (pv 4)) (pv 5) (fL K (pv 4))))) Jc))))),?_⟩
  refine⟨_,rfl,_,rfl,p,pr,N,ps,rfl,hNI,ok,hpr,pl,fun D1 H1 acc1 s1 n1 hD1 R1=>?_⟩
  obtain⟨as,rfl,ha1,ha2,ha3,ha4⟩:=R1
  refine⟨_,rfl,_,rfl,p,pr,N,ps,rfl,hNI.same s1,ok,s1 _ _ hpr,pl,fun D2 H2 acc2 s2 n2 hD2 R2=>?_⟩
  obtain⟨bs,rfl,hb1,hb2,hb3,hb4⟩:=R2
  have s12:=s1.trans s2
  refine⟨D1,D2,_,_,rfl,rfl,s2 _ _ hD1,hD2,?_,fun D3 n3=>?_⟩
  ·rw[List.length_map,List.length_map,ha1,hb1];exact Nat.le_trans (Nat.add_le_add o41 l12) (by decide)
  have s3:=Jj (o:=.lst (as.map V.ref++bs.map V.ref)) n3
  have hD3:(upd H2 D3 (.lst (as.map V.ref++bs.map V.ref))) D3=some (.lst ((as++bs).map V.ref)):=by rw[Jb,List.map_append]
  generalize upd H2 D3 (.lst (as.map V.ref++bs.map V.ref))=H3 at s3 hD3⊢
  have s13:=s12.trans s3
  have AB:Q5 (Ya A H3) (as++bs) (Vbemae.arcs N ps):=by
   refine⟨by unfold Vbemae.arcs;rw[List.length_append,List.length_append,ha1,hb1,List.length_map,List.length_map],fun j a e g1 g2=>?_⟩
   unfold Vbemae.arcs at g2
   rw[List.getElem?_append] at g1 g2
   rw[List.length_map] at g2
   rw[ha1] at g1
   split at g1
   ·rename_i hlt;rw[if_pos hlt] at g2;exact(ha4 _ _ _ g1 g2).same (s2.trans s3)
   ·rename_i hlt;rw[if_neg hlt] at g2;exact(hb4 _ _ _ g1 g2).same s3
  have hq3:=s13 _ _ hq
  refine⟨_,rfl,_,rfl,fld hq3 T.JW T.JU rfl ⟨_,rfl,fld hq3 T.JW T.Q4 rfl ⟨l2,l3,_,_,rfl,rfl,s13 _ _ h2,s13 _ _ h3,?_,fun D4 n4=>?_⟩⟩⟩
  ·rw[List.length_map,List.length_map,ook.sl,ook.fl];exact Nat.le_trans (Nat.add_le_add o41 l12) (by decide)
  have s4:=Jj (o:=.lst (O.shares.map V.int++O.flows.map V.int)) n4
  have hD4:(upd H3 D4 (.lst (O.shares.map V.int++O.flows.map V.int))) D4=some (.lst ((O.shares++O.flows).map V.int)):=by rw[Jb,List.map_append]
  generalize upd H3 D4 (.lst (O.shares.map V.int++O.flows.map V.int))=H4 at s4 hD4⊢
  have hD34:=s4 _ _ hD3
  have al:(Vbemae.arcs N ps).length=(O.shares++O.flows).length:=by unfold Vbemae.arcs;rw[List.length_append,List.length_append,List.length_map,List.length_map,ook.sl,ook.fl]
  have al2:((as++bs).map V.ref).length=(Vbemae.arcs N ps).length:=by rw[List.length_map,AB.len]
  have hl:((as++bs).map V.ref).length=((O.shares++O.flows).map V.int).length:=by rw[al2,List.length_map,al]
  have asz:((as++bs).map V.ref).length≤sizeLine:=by rw[List.length_map,List.length_append,ha1,hb1];exact Nat.le_trans (Nat.add_le_add o41 l12) (by decide)
  refine⟨D3,D4,_,_,rfl,SqL.of hD34,SqL.of hD4,fun D nD=>?_⟩
  refine UQ (fun j=>((Vbemae.arcs N ps)[j]?).bind fun e=>((O.shares++O.flows)[j]?).map fun v=>V.bl (Jdr e v)) ((as++bs).map V.ref).length (Jec .lst .lst K D3 D4) nD asz (Yr (k:=.lst) (k':=.lst) (SqL.of hD34) (SqL.of hD4) hl) (Ut (k:=.lst) (k':=.lst) (SqL.of hD34) (SqL.of hD4)) ?_ ?_
  ·intro j x H5 H6 hj s5 hD5 y
   obtain⟨T2,aa,bb,rfl,hT2,rfl,ha,hb⟩:=y
   obtain⟨a,ha',rfl⟩:=J1 (ha _ (SqL.of (s5 _ _ hD34)))
   obtain⟨v,hv,rfl⟩:=int_at (hb _ (SqL.of (s5 _ _ hD4)))
   obtain⟨e,he,da,hA⟩:=AB.get ha'
   have s6:=Jk (o:=.tup [.ref a,.int v]) s5 (Jg.free s5 hT2)
   have hD6:(upd H5 T2 (.tup [.ref a,.int v])) D=_:=(Jh (Jn hD5 hT2)).trans hD5
   have hA6:=s6 _ _ (s4 _ _ hA)
   have hc:∀b,Jdr e v=b→(((Vbemae.arcs N ps)[j]?).bind fun e=>((O.shares++O.flows)[j]?).map fun v=>V.bl (Jdr e v))=some (V.bl b):=fun b hb=>by
    rw[he,hv];show some (V.bl (Jdr e v))=_;rw[hb]
   refine⟨T2,_,rfl,SqT.of Jb,rfl,_,_,rfl,_,_,rfl,rfl,rfl,?_⟩
   refine⟨_,rfl,fld hA6 T.Q3 T.U6 rfl ⟨_,rfl,_,_,rfl,rfl,_,rfl,J4 (fun h1=>?_) (fun h1=>?_)⟩⟩
   ·refine⟨_,rfl,fld hA6 T.Q3 T.WJ rfl ⟨_,_,rfl,rfl,J8 (i:=j) nD (Nat.lt_of_lt_of_le hj asz) s6 hD6 (hc _ ?_)⟩⟩
    unfold Jdr;rw[h1];rfl
   ·refine J8 (i:=j) nD (Nat.lt_of_lt_of_le hj asz) s6 hD6 (hc _ ?_)
    unfold Jdr;rw[h1];rfl
  ·intro H5 s5 hD5
   rw[al2,JiG Jdr V.bl _ _ _ al (fun i x y hx hy=>by simp[hx,hy])] at hD5
   refine⟨D,_,rfl,SqL.of hD5,?_⟩
   rw[JcH]
   exact k H5 (s13.trans (s4.trans s5))
theorem JjQ (T:Txt w K mg A):JF P w K mg base CX0 7 A.Uc A.Yx ["net","call"] (JR A JdZ):=by
 refine T.Jcc.F.ok Yp (fun vs H Q E h=>?_) (fun cdv AA outer s H vs Q E hr h=>?_)
 ·obtain⟨p,c,N,lp,op,ls,os,pl,ns,rws,cc,rfl,_⟩:=h
  rfl
 ·obtain⟨p,c,N,lp,op,ls,os,pl,ns,rws,cc,rfl,hO,ok,hC,⟨ps,rfl,rfl,h64,rfl⟩,k⟩:=h
  obtain⟨dc,nl,ll,rs,hc,hn,hls,hrs⟩:=hC
  obtain⟨r,rfl,hr0⟩:=hrs.one
  obtain⟨dn,hnet⟩:=hO.at_.net
  have ook:=UG ok.ok
  refine⟨_,(Jd (sA 2 Yp.nd (iL K (fL K (pv 1)) Jm))
   (Jd (Qa (JA Jpe (lN K T.Q9 (Ja (pv 2) Jc)) (fL K (pv 0)) (JJ _)) (Jf (Jl (Js (Ja (gL T.JdV) Jc)))) JD)
   (Jd (Qa (Jin (VY (JV (Jdy K rfl rfl) (by rfl) T.Jlz PyProof.Rows.boot_all (Ja (WH rfl Yp.nd (Qi (pv 2)) (own:=[("price",3)]) (lK Jfj (Je JbC) (by decide+kernel)) (fun _ _ _ _ _=>(gA 3 Yp.nd)) (fun _ _ _ _ _=>Qo) (fun _ _ _ _ _=>(JeX JbK JbK (fL K (pv 0)) (pv 3) (fL K (pv 0))))) Jc)))) (Jf (Jl (Js (Ja Jm (Ja Jm Jc))))) JD)
   (Jf (Jl (Js (Ja Jm (Ja (Jdo (VY (cL (JjS T) hr T.Jfz (Ja (pv 0) (Ja (cL (Qx T) hr T.Qt (Ja (pv 0) Jc)) (Ja (pv 2) Jc))))) Jm Jm) Jc)))))))),?_⟩
  refine⟨_,rfl,fld hc T.Jz T.Wl rfl ⟨ll,_,_,_,rfl,rfl,SqL.of hls,Jp (j:=0) rfl,?_⟩⟩
  refine⟨_,rfl,r,_,rfl,.inl (SqL.of hr0),_,rfl,fld hnet T.Jt T.Jw rfl ⟨rfl,_,rfl,J4 (fun h1=>?_) (fun h1=>?_)⟩⟩
  ·have h1':ps.length≠N.zones:=fun e=>by
    rw[List.length_map] at h1
    have h1:=(Bool.not_eq_true' _).mp h1
    exact JaO h1 (by rw[e])
   have eN:Vbemae.onNet N (.supports ps)=(N,[-3]):=if_pos h1'
   exact⟨(by show 1≤sizeLine;decide),fun a0 n0=>k a0 _ ls os (by rw[eN];exact .of_same (Jj n0) hO) n0 (by rw[Jb,eN];rfl)⟩
  have h1':ps.length=N.zones:=by
   rw[List.length_map] at h1
   have h1:=(Bool.not_eq_false' _).mp h1
   have:=Jfb h1;omega
  have eN:Vbemae.onNet N (.supports ps)=(N,[0,Vbemae.bit (Vbemae.inBounds N ps&&Vbemae.supports N ps (Vbemae.cleared N).shares (Vbemae.cleared N).flows)]):=if_neg (fun q=>q h1')
  have psz:(ps.map V.int).length≤sizeLine:=by rw[List.length_map];exact Nat.le_trans h64 (by decide)
  refine⟨_,rfl,r,rfl,⟨_,SqL.of hr0⟩,fun D nD=>?_⟩
  refine UQ (fun j=>(ps[j]?).map fun v=>V.bl (Vbemae.within v N.lo N.hi)) (ps.map V.int).length (Itl K r) nD psz (Ye (SqL.of hr0)) (QW (SqL.of hr0)) ?_ ?_
  ·intro j x H5 H6 hj s5 hD5 y
   obtain⟨rfl,y⟩:=y
   obtain⟨v,hv,rfl⟩:=int_at (y _ (SqL.of (s5 _ _ hr0)))
   have hn5:=s5 _ _ hnet
   have hcc:∀b,Vbemae.within v N.lo N.hi=b→((ps[j]?).map fun v=>V.bl (Vbemae.within v N.lo N.hi))=some (V.bl b):=fun b hb=>by
    rw[hv];show some (V.bl (Vbemae.within v N.lo N.hi))=_;rw[hb]
   refine⟨rfl,_,rfl,fld hn5 T.Jt T.UE rfl ⟨_,rfl,_,_,rfl,rfl,_,rfl,J4 (fun h2=>?_) (fun h2=>?_)⟩⟩
   ·refine⟨_,rfl,fld hn5 T.Jt T.Qy rfl ⟨_,_,rfl,rfl,J8 (i:=j) nD (Nat.lt_of_lt_of_le hj psz) s5 hD5 (hcc _ ?_)⟩⟩
    unfold Vbemae.within;rw[h2];rfl
   ·refine J8 (i:=j) nD (Nat.lt_of_lt_of_le hj psz) s5 hD5 (hcc _ ?_)
    unfold Vbemae.within;rw[h2];rfl
  ·intro H1 s1 hD1
   have e1:(List.range (ps.map V.int).length).filterMap (fun j=>(ps[j]?).map fun v=>V.bl (Vbemae.within v N.lo N.hi))=(ps.map fun v=>Vbemae.within v N.lo N.hi).map V.bl:=by
    rw[List.length_map,List.map_map];exact UR _ _ _ fun i x hx=>by rw[hx];rfl
   rw[e1] at hD1
   have eb:(ps.map fun v=>Vbemae.within v N.lo N.hi).all id=Vbemae.inBounds N ps:=by
    unfold Vbemae.inBounds
    rw[List.all_map,h1']
    simp
   refine⟨D,_,rfl,SqL.of hD1,?_⟩
   rw[eb]
   refine⟨_,rfl,J4 (fun h2=>?_) (fun h2=>?_)⟩
   ·have h2:=(Bool.not_eq_true' _).mp h2
    rw[h2] at eN
    refine⟨(by show 2≤sizeLine;decide),fun a0 n0=>k a0 _ ls os ?_ (Jg.free s1 n0) ?_⟩
    ·rw[eN];exact .of_same (Jk s1 (Jg.free s1 n0)) hO
    ·rw[Jb,eN];rfl
   have h2:=(Bool.not_eq_false' _).mp h2
   rw[h2] at eN
   refine⟨_,rfl,_,rfl,p,N,rfl,hO.is.same s1,ok.ok,fun q H2 s2 hq=>?_⟩
   have s12:=s1.trans s2
   refine⟨_,rfl,p,q,r,N,_,ps,rfl,⟨hO.is.same s12,ok.ok,hq,ook⟩,s12 _ _ hr0,h1',fun H3 s3=>?_⟩
   rw[JlR ook.sl (Jv6 ok.ok.ok) (Jv7 ok.ok.ok)]
   have sE:=s12.trans s3
   refine⟨_,rfl,J4 (fun h3=>?_) (fun h3=>?_)⟩
   ·rw[h3] at eN
    refine⟨(by show 2≤sizeLine;decide),fun a0 n0=>k a0 _ ls os ?_ (Jg.free sE n0) ?_⟩
    ·rw[eN];exact .of_same (Jk sE (Jg.free sE n0)) hO
    ·rw[Jb,eN];rfl
   ·rw[h3] at eN
    refine⟨(by show 2≤sizeLine;decide),fun a0 n0=>k a0 _ ls os ?_ (Jg.free sE n0) ?_⟩
    ·rw[eN];exact .of_same (Jk sE (Jg.free sE n0)) hO
    ·rw[Jb,eN];rfl
end
end Zm
namespace Zm
open PySem PySem.Spec PyProof.Rows L2
noncomputable def Jkp (ns:List Int) (rws:List (List Int)) (c:Vbemae.Call):Prop:=∃x y:List Int,ns=[]∧rws=[x,y]∧c=.check x y
noncomputable def JjB (A:Adr):Sp:=fun vs H Q _=>∃(p q:Addr) (N:Vbemae.Net) (x:List Int),vs=[.ref p,.ref q]∧JcT A H p q N x N.orders.length∧∀l H',Jg H H'→H l=none→H' l=some (.lst (JbO (wO N x)))→Q (.ref l) H'
noncomputable def JkD (A:Adr):Sp:=fun vs H Q _=>∃(p q:Addr) (N:Vbemae.Net) (x:List Int),vs=[.ref p,.ref q]∧JcT A H p q N x N.lines.length∧∀l H',Jg H H'→H l=none→H' l=some (.lst (JbO (wL N x)))→Q (.ref l) H'
noncomputable def JkG (A:Adr):Sp:=fun vs H Q _=>∃(p q r:Addr) (N:Vbemae.Net) (x y:List Int) (z:Nat),vs=[.ref p,.ref q,.ref r,.int z]∧JcT A H p q N x N.orders.length∧JcT A H p r N y N.lines.length∧∀H',Jg H H'→Q (.bl (decide (Vbemae.sold N x z-Vbemae.bought N x z=Vbemae.carried N y z))) H'
noncomputable def JlT (A:Adr):Sp:=fun vs H Q _=>∃(p q r:Addr) (N:Vbemae.Net) (x y:List Int),vs=[.ref p,.ref q,.ref r]∧JcT A H p q N x N.orders.length∧JcT A H p r N y N.lines.length∧∀l H',Jg H H'→H l=none→H' l=some (.lst (JbO (wZ N x y)))→Q (.ref l) H'
noncomputable def JjH (A:Adr):Sp:=fun vs H Q _=>∃(p q r:Addr) (N:Vbemae.Net) (x y:List Int),vs=[.ref p,.ref q,.ref r]∧JcT A H p q N x N.orders.length∧JcT A H p r N y N.lines.length∧∀l H',Jg H H'→H l=none→H' l=some (.lst ((Vbemae.verdict N x y).map V.int))→Q (.ref l) H'
theorem Jvs {xs:List Int} {j:Nat} (h:j<xs.length):(xs.map V.int)[j]? =some (.int xs[j]):=by rw[List.getElem?_map,List.getElem?_eq_getElem h];rfl
theorem JiY (N:Vbemae.Net) (x y:List Int):(Vbemae.verdict N x y).length=2:=by
 unfold Vbemae.verdict
 split
 ·rfl
 ·split
  ·rfl
  ·split
   ·rfl
   ·dsimp only;split<;>rfl
section
variable {P:Program} {w:World} {K:PySem.W.Frag} {mg:Str→Option Value} {base:Heap} {A:Adr}
theorem JjM (T:Txt w K mg A):JF P w K mg base CX0 1 A.VD A.Yt ["net","shares"] (JjB A):=by
 refine T.Jfr.F.ok Yo (fun vs H Q E h=>?_) (fun cdv AA outer s H vs Q E hr h=>?_)
 ·obtain⟨p,q,N,x,rfl,_⟩:=h
  rfl
 ·obtain⟨p,q,N,xs,rfl,⟨⟨lp,op,ls,os,hN⟩,ok,hx,xl⟩,k⟩:=h
  obtain⟨dn,hnet⟩:=hN.net
  have o41:=ok.o41
  have hol:(os.map V.ref).length=N.orders.length:=by rw[List.length_map,hN.od.len]
  refine⟨_,(Jf (Jl (WH rfl Yo.nd (Jpc K rfl (by rfl) T.Jd1 (Ja (fL K (pv 0)) Jc)) (own:=[("k",2),("order",3)]) (lK Jfi (Je JbB) (by decide+kernel)) (fun _ _ _ _ _=>(gB K (Jx (gA 2 Yo.nd) (Jx (gA 3 Yo.nd) QQ)))) (fun _ _ _ _ _=>(Jcp (Jin (Jk0 JbK JbK Jm (iL K (pv 1) (pv 2)) (fL K (pv 3)))))) (fun _ _ _ _ _=>(pv 2))))),?_⟩
  refine⟨_,rfl,fld hnet T.Jt T.Jv rfl ⟨op,_,rfl,SqL.of hN.los,fun D nD=>?_⟩⟩
  refine UQ (fun j=>if JdA (fun(o:Vbemae.Order) s=>decide (s<0)||decide (o.amount<s)) N.orders xs j=true then some (V.int (j:Nat)) else none) (os.map V.ref).length (Ite K op) nD (by rw[hol];exact Nat.le_trans o41 (by decide)) (JtO (SqL.of hN.los)) (Jpy (SqL.of hN.los)) ?_ ?_
  ·intro j v H5 H6 hj s5 hD5 y
   obtain⟨T2,u,rfl,hT2,rfl,hu⟩:=y
   obtain⟨a,ha',rfl⟩:=J1 (hu _ (SqL.of (s5 _ _ hN.los)))
   obtain⟨o,ho,do_,hO⟩:=hN.od.get ha'
   have s6:=Jk (o:=.tup [.int (j:Nat),.ref a]) s5 (Jg.free s5 hT2)
   have hD6:(upd H5 T2 (.tup [.int (j:Nat),.ref a])) D=_:=(Jh (Jn hD5 hT2)).trans hD5
   have hj':j<xs.length:=by rw[xl,←hol];exact hj
   have hv:xs[j]? =some xs[j]:=List.getElem?_eq_getElem hj'
   have eb:JdA (fun(o:Vbemae.Order) s=>decide (s<0)||decide (o.amount<s)) N.orders xs j=(decide (xs[j]<0)||decide (o.amount<xs[j])):=by unfold JdA;rw[ho,hv]
   have jz:j<sizeLine:=Nat.lt_of_lt_of_le (show j<41+1 by rw[hol] at hj;omega) (by decide)
   refine⟨T2,_,rfl,SqT.of Jb,rfl,_,_,rfl,_,_,rfl,rfl,rfl,?_⟩
   refine⟨_,rfl,_,rfl,q,_,_,_,rfl,rfl,SqL.of (s6 _ _ hx),Jp (Jvs hj'),_,_,rfl,rfl,_,rfl,J4 (fun h1=>?_) (fun h1=>?_)⟩
   ·have g1:0≤xs[j]:=of_decide_eq_true h1
    refine⟨_,rfl,fld (s6 _ _ hO) T.Jy T.JP rfl ⟨_,_,rfl,rfl,_,rfl,J4 (fun h2=>?_) (fun h2=>?_)⟩⟩
    ·have g2:¬xs[j]≤o.amount:=of_decide_eq_false ((Bool.not_eq_true' _).mp h2)
     refine⟨_,rfl,J8 (i:=j) nD jz s6 hD6 ?_⟩
     rw[eb,decide_eq_true (show o.amount<xs[j] by omega),Bool.or_true,if_pos rfl]
    ·have g2:xs[j]≤o.amount:=of_decide_eq_true ((Bool.not_eq_false' _).mp h2)
     refine Jcv s6 hD6 ?_
     rw[eb,decide_eq_false (show¬o.amount<xs[j] by omega),decide_eq_false (show¬xs[j]<0 by omega)];rfl
   ·have g1:¬0≤xs[j]:=of_decide_eq_false h1
    refine⟨_,rfl,Jg3 rfl ⟨_,rfl,J8 (i:=j) nD jz s6 hD6 ?_⟩⟩
    rw[eb,decide_eq_true (show xs[j]<0 by omega),Bool.true_or,if_pos rfl]
  ·intro H5 s5 hD5
   rw[hol,JhU] at hD5
   exact k D H5 s5 nD hD5
theorem Jk3 (T:Txt w K mg A):JF P w K mg base CX0 1 A.Jal A.Vt ["net","flows"] (JkD A):=by
 refine T.JgB.F.ok Y4 (fun vs H Q E h=>?_) (fun cdv AA outer s H vs Q E hr h=>?_)
 ·obtain⟨p,q,N,x,rfl,_⟩:=h
  rfl
 ·obtain⟨p,q,N,xs,rfl,⟨⟨lp,op,ls,os,hN⟩,ok,hx,xl⟩,k⟩:=h
  obtain⟨dn,hnet⟩:=hN.net
  have l12:=ok.l12
  have hol:(ls.map V.ref).length=N.lines.length:=by rw[List.length_map,hN.ln.len]
  refine⟨_,(Jf (Jl (WH rfl Y4.nd (Jpc K rfl (by rfl) T.Jd1 (Ja (fL K (pv 0)) Jc)) (own:=[("k",2),("line",3)]) (lK Jgx (Je JcV) (by decide+kernel)) (fun _ _ _ _ _=>(gB K (Jx (gA 2 Y4.nd) (Jx (gA 3 Y4.nd) QQ)))) (fun _ _ _ _ _=>(Jcp (Jin (Jk0 JbK JbK (Jjf JeG (fL K (pv 3))) (iL K (pv 1) (pv 2)) (fL K (pv 3)))))) (fun _ _ _ _ _=>(pv 2))))),?_⟩
  refine⟨_,rfl,fld hnet T.Jt T.JE rfl ⟨lp,_,rfl,SqL.of hN.lls,fun D nD=>?_⟩⟩
  refine UQ (fun j=>if JdA (fun(l:Vbemae.Line) f=>decide (f< -l.back)||decide (l.forth<f)) N.lines xs j=true then some (V.int (j:Nat)) else none) (ls.map V.ref).length (Ite K lp) nD (by rw[hol];exact Nat.le_trans l12 (by decide)) (JtO (SqL.of hN.lls)) (Jpy (SqL.of hN.lls)) ?_ ?_
  ·intro j v H5 H6 hj s5 hD5 y
   obtain⟨T2,u,rfl,hT2,rfl,hu⟩:=y
   obtain⟨a,ha',rfl⟩:=J1 (hu _ (SqL.of (s5 _ _ hN.lls)))
   obtain⟨l,ho,do_,hL⟩:=hN.ln.get ha'
   have s6:=Jk (o:=.tup [.int (j:Nat),.ref a]) s5 (Jg.free s5 hT2)
   have hD6:(upd H5 T2 (.tup [.int (j:Nat),.ref a])) D=_:=(Jh (Jn hD5 hT2)).trans hD5
   have hj':j<xs.length:=by rw[xl,←hol];exact hj
   have hv:xs[j]? =some xs[j]:=List.getElem?_eq_getElem hj'
   have eb:JdA (fun(l:Vbemae.Line) f=>decide (f< -l.back)||decide (l.forth<f)) N.lines xs j=(decide (xs[j]< -l.back)||decide (l.forth<xs[j])):=by unfold JdA;rw[ho,hv]
   have jz:j<sizeLine:=Nat.lt_of_lt_of_le (show j<41+1 by rw[hol] at hj;omega) (by decide)
   have hL6:=s6 _ _ hL
   refine⟨T2,_,rfl,SqT.of Jb,rfl,_,_,rfl,_,_,rfl,rfl,rfl,?_⟩
   refine⟨_,rfl,fld hL6 T.JN T.Qq rfl ⟨_,rfl,_,rfl,_,rfl,q,_,_,_,rfl,rfl,SqL.of (s6 _ _ hx),Jp (Jvs hj'),_,_,rfl,rfl,_,rfl,J4 (fun h1=>?_) (fun h1=>?_)⟩⟩
   ·have g1:-l.back≤xs[j]:=of_decide_eq_true h1
    refine⟨_,rfl,fld hL6 T.JN T.Qk rfl ⟨_,_,rfl,rfl,_,rfl,J4 (fun h2=>?_) (fun h2=>?_)⟩⟩
    ·have g2:¬xs[j]≤l.forth:=of_decide_eq_false ((Bool.not_eq_true' _).mp h2)
     refine⟨_,rfl,J8 (i:=j) nD jz s6 hD6 ?_⟩
     rw[eb,decide_eq_true (show l.forth<xs[j] by omega),Bool.or_true,if_pos rfl]
    ·have g2:xs[j]≤l.forth:=of_decide_eq_true ((Bool.not_eq_false' _).mp h2)
     refine Jcv s6 hD6 ?_
     rw[eb,decide_eq_false (show¬l.forth<xs[j] by omega),decide_eq_false (show¬xs[j]< -l.back by omega)];rfl
   ·have g1:¬-l.back≤xs[j]:=of_decide_eq_false h1
    refine⟨_,rfl,Jg3 rfl ⟨_,rfl,J8 (i:=j) nD jz s6 hD6 ?_⟩⟩
    rw[eb,decide_eq_true (show xs[j]< -l.back by omega),Bool.true_or,if_pos rfl]
  ·intro H5 s5 hD5
   rw[hol,JhU] at hD5
   exact k D H5 s5 nD hD5
theorem Jk5 (T:Txt w K mg A):JF P w K mg base CX0 2 A.Jan A.Vv ["net","shares","flows","zone"] (JkG A):=by
 refine T.JgC.F.ok JeI (fun vs H Q E h=>?_) (fun cdv AA outer s H vs Q E hr h=>?_)
 ·obtain⟨p,q,r,N,x,y,z,rfl,_⟩:=h
  rfl
 ·obtain⟨p,q,r,N,x,y,z,rfl,I1,I2,k⟩:=h
  refine⟨_,(Jd (sA 4 JeI.nd (JB U5 (cL (Vd T) hr T.Yn (Ja (pv 0) (Ja (pv 1) (Ja (pv 3) (Ja (gL T.JfT) Jc))))) (cL (Vd T) hr T.Yn (Ja (pv 0) (Ja (pv 1) (Ja (pv 3) (Ja (gL T.Jb3) Jc)))))))
   (Jf (Jl (JnP YX (pv 4) (cL (Je1 T) hr T.Jc6 (Ja (pv 0) (Ja (pv 2) (Ja (pv 3) Jc)))) (JJ _))))),?_⟩
  refine⟨_,rfl,_,rfl,_,rfl,p,q,N,x,z,false,rfl,I1,fun H1 s1=>?_⟩
  refine⟨_,rfl,_,rfl,_,rfl,p,q,N,x,z,true,rfl,I1.same s1,fun H2 s2=>⟨_,_,rfl,rfl,?_⟩⟩
  have s12:=s1.trans s2
  refine⟨_,rfl,_,rfl,_,rfl,_,rfl,p,r,N,y,z,rfl,I2.same s12,fun H3 s3=>⟨rfl,?_⟩⟩
  have:=k H3 (s12.trans s3)
  have e:decide (Vbemae.sold N x z-Vbemae.bought N x z=Vbemae.carried N y z)=decide (V.int (JgG N x z false-JgG N x z true)=V.int (Vbemae.carried N y z)):=by
   rw[decide_eq_decide]
   constructor
   ·intro h;exact congrArg V.int h
   ·intro h;injection h
  rw[e] at this
  exact this
theorem Jf4 (T:Txt w K mg A):JF P w K mg base CX0 3 A.Wa A.UL ["net","shares","flows"] (JlT A):=by
 refine T.Jb9.F.ok Yb (fun vs H Q E h=>?_) (fun cdv AA outer s H vs Q E hr h=>?_)
 ·obtain⟨p,q,r,N,x,y,rfl,_⟩:=h
  rfl
 ·obtain⟨p,q,r,N,x,y,rfl,I1,I2,k⟩:=h
  obtain⟨⟨lp,op,ls,os,hN⟩,ok,_,_⟩:=id I1
  obtain⟨dn,hnet⟩:=hN.net
  have z6:=ok.z6
  refine⟨_,(Jf (Jl (WH rfl Yb.nd (Jdm (by rfl) T.Jdz (Ja (fL K (pv 0)) Jc)) (own:=[("zone",3)]) (lK Jb7 (Je YM) (by decide+kernel)) (fun _ _ _ _ _=>(gA 3 Yb.nd)) (fun _ _ _ _ _=>(Jcp (Jin (VY (cL (Jk5 T) hr T.JgC (Ja (pv 0) (Ja (pv 1) (Ja (pv 2) (Ja (pv 3) Jc))))))))) (fun _ _ _ _ _=>(pv 3))))),?_⟩
  refine⟨_,rfl,fld hnet T.Jt T.Jw rfl ⟨N.zones,rfl,by omega,by omega,fun D nD=>?_⟩⟩
  rw[show(N.zones:Int).toNat=N.zones from Int.toNat_natCast _]
  refine UQ (fun j=>if(Vbemae.sold N x j-Vbemae.bought N x j !=Vbemae.carried N y j)=true then some (V.int (j:Nat)) else none) N.zones (Itr 0 N.zones) nD (Nat.le_trans z6 (by decide)) (fun i H hi _=>hi) (fun H _=>Nat.le_refl _) ?_ ?_
  ·intro j v H5 H6 hj s5 hD5 yy
   obtain⟨rfl,rfl⟩:=yy
   refine⟨rfl,_,rfl,_,rfl,_,rfl,_,rfl,p,q,r,N,x,y,j,(by show [V.ref p,V.ref q,V.ref r,V.int (0+(j:Int))]=_;rw[Int.zero_add]),I1.same s5,I2.same s5,fun H7 s7=>⟨_,rfl,J4 (fun h1=>?_) (fun h1=>?_)⟩⟩
   ·have g1:=of_decide_eq_false ((Bool.not_eq_true' _).mp h1)
    refine⟨_,rfl,?_⟩
    rw[Int.zero_add]
    refine J8 (i:=j) nD (Nat.lt_of_lt_of_le hj (Nat.le_trans z6 (by decide))) (s5.trans s7) (s7 _ _ hD5) ?_
    rw[if_pos (by simpa using g1)]
   ·have g1:=of_decide_eq_true ((Bool.not_eq_false' _).mp h1)
    refine Jcv (s5.trans s7) (s7 _ _ hD5) ?_
    rw[if_neg (by simpa using g1)]
  ·intro H5 s5 hD5
   rw[JhU] at hD5
   exact k D H5 s5 nD hD5
theorem JjV (T:Txt w K mg A):JF P w K mg base CX0 7 A.VM A.YE ["net","shares","flows"] (JjH A):=by
 refine T.JfC.F.ok Wk (fun vs H Q E h=>?_) (fun cdv AA outer s H vs Q E hr h=>?_)
 ·obtain⟨p,q,r,N,x,y,rfl,_⟩:=h
  rfl
 ·obtain⟨p,q,r,N,x,y,rfl,I1,I2,k⟩:=h
  have ok:=I1.2.1
  refine⟨_,(Jd (sA 3 Wk.nd (Js (Ja (cL (JjM T) hr T.Jfr (Ja (pv 0) (Ja (pv 1) Jc))) (Ja (cL (Jk3 T) hr T.JgB (Ja (pv 0) (Ja (pv 2) Jc))) (Ja (cL (Jf4 T) hr T.Jb9 (Ja (pv 0) (Ja (pv 1) (Ja (pv 2) Jc)))) Jc)))))
   (Jd (U3 PassesOwn.never rfl (Jtv K rfl (by rfl) T.Jd1 (Ja (pv 3) Jc) (JuE Jm Jv1)) (gB K (Jx (gA 5 Wk.nd) (Jx (gA 6 Wk.nd) QQ)))
   (Jf (Qa (JuC K rfl (pv 6)) (Jf (Jl (Js (Ja (pv 5) (Ja (iL K (pv 6) Jm) Jc))))) JD)))
   (Jd (sA 4 Wk.nd (JB U5 (cL (Qv T) hr T.Qe (Ja (pv 0) Jc)) (cL (Wr T) hr T.UU (Ja (pv 0) (Ja (pv 1) Jc)))))
   (Jf (Jl (Jdo (JA JmL (pv 4) Jm (JJ _)) (Js (Ja (gL T.Jlr) (Ja (pv 4) Jc))) (Js (Ja (gL T.JsI) (Ja Jm Jc))))))))),?_⟩
  refine⟨_,rfl,_,rfl,p,q,N,x,rfl,I1,fun w1 H1 s1 nw1 h1=>?_⟩
  refine⟨_,rfl,_,rfl,p,r,N,y,rfl,I2.same s1,fun w2 H2 s2 nw2 h2=>?_⟩
  have s12:=s1.trans s2
  refine⟨_,rfl,_,rfl,_,rfl,p,q,r,N,x,y,rfl,I1.same s12,I2.same s12,fun w3 H3 s3 nw3 h3=>?_⟩
  have s13:=s12.trans s3
  refine⟨(by show 3≤sizeLine;decide),fun fl nfl=>?_⟩
  have s4:=Jj (o:=.lst [.ref w1,.ref w2,.ref w3]) nfl
  have hfl:=Jb (H:=H3) (a:=fl) (o:=.lst [.ref w1,.ref w2,.ref w3])
  generalize upd H3 fl (.lst [.ref w1,.ref w2,.ref w3])=H4 at s4 hfl⊢
  have s14:=s13.trans s4
  have hW:∀(i:Nat) (a:V),([V.ref w1,.ref w2,.ref w3]:List V)[i]? =some a→i<3∧∃b,a=.ref b∧H4 b=some (.lst (JbO (wAt N x y i))):=fun i a e=>by
   match i,e with
   |0,e=>exact⟨by omega,w1,(Option.some.inj e).symm,s4 _ _ (s3 _ _ (s2 _ _ h1))⟩
   |1,e=>exact⟨by omega,w2,(Option.some.inj e).symm,s4 _ _ (s3 _ _ h2)⟩
   |2,e=>exact⟨by omega,w3,(Option.some.inj e).symm,s4 _ _ h3⟩
  refine⟨_,rfl,fl,_,rfl,rfl,SqL.of hfl,JsJ (K:=K) (a:=fl) (xs:=[.ref w1,.ref w2,.ref w3]) (fun i σ H'=>∃v5 v6,σ=[some (.ref p),some (.ref q),some (.ref r),some (.ref fl),none,v5,v6]∧Jg H4 H'∧∀j,j<i→wAt N x y j=[]) ⟨none,none,rfl,Jg.refl _,fun j hj=>by omega⟩ (fun i σ H' _ ⟨_,_,_,s5,_⟩=>SqL.of (s5 _ _ hfl)) ?_ ?_⟩
  ·rintro i a T1 σ H' ha hT ⟨v5,v6,rfl,s5,hi⟩
   obtain⟨i3,b,rfl,hb⟩:=hW i a ha
   have s6:=Jk (o:=.tup [.int ((i+1:Nat):Int),.ref b]) s5 (Jg.free s5 hT)
   refine⟨T1,_,rfl,SqT.of Jb,rfl,_,_,rfl,_,_,rfl,rfl,?_⟩
   generalize upd H' T1 (.tup [.int ((i+1:Nat):Int),.ref b])=H6 at s6⊢
   have hb6:=s6 _ _ hb
   refine⟨_,rfl,b,_,rfl,SqL.of hb6,J4 (fun h1=>?_) (fun h1=>?_)⟩
   ·cases hw:wAt N x y i with
    |nil=>rw[hw] at h1;exact absurd h1 (by decide)
    |cons z zs=>
     rw[hw] at hb6
     have ev:=Jp5 (k:=z) I1.2.2.2 I2.2.2.2 i3 hi (by rw[hw];rfl)
     refine⟨_,rfl,_,rfl,b,_,_,_,rfl,rfl,SqL.of hb6,Jp (j:=0) rfl,(by show 2≤sizeLine;decide),fun a0 n0=>?_⟩
     have sE:=s14.trans s6
     exact k a0 _ (Jk sE (Jg.free sE n0)) (Jg.free sE n0) (by rw[Jb,ev];rfl)
   ·refine⟨_,_,rfl,s6,fun j hj=>?_⟩
    rcases Nat.lt_succ_iff_lt_or_eq.mp hj with h|h
    ·exact hi j h
    ·subst h
     cases hw:wAt N x y j with
     |nil=>rfl
     |cons z zs=>rw[hw] at h1;cases h1
  ·rintro σ H' ⟨v5,v6,rfl,s5,hi⟩
   have s15:=s14.trans s5
   refine⟨_,rfl,p,N,rfl,I1.1.same s15,ok,fun H6 s6=>?_⟩
   have s16:=s15.trans s6
   refine⟨_,rfl,_,rfl,p,q,N,x,rfl,I1.same s16,fun H7 s7=>⟨_,_,rfl,rfl,?_⟩⟩
   have sE:=s16.trans s7
   have ev:=JoB ok.ok I1.2.2.2 I2.2.2.2 hi
   refine⟨_,rfl,_,_,rfl,rfl,_,rfl,J4 (fun h1=>?_) (fun h1=>?_)⟩
   ·have g1:Vbemae.bestWelfare N-Vbemae.welfare N x>0:=of_decide_eq_true h1
    rw[if_pos g1] at ev
    refine⟨_,rfl,(by show 2≤sizeLine;decide),fun a0 n0=>?_⟩
    exact k a0 _ (Jk sE (Jg.free sE n0)) (Jg.free sE n0) (by rw[Jb,ev];rfl)
   ·have g1:¬Vbemae.bestWelfare N-Vbemae.welfare N x>0:=of_decide_eq_false h1
    rw[if_neg g1] at ev
    refine⟨(by show 2≤sizeLine;decide),fun a0 n0=>?_⟩
    exact k a0 _ (Jk sE (Jg.free sE n0)) (Jg.free sE n0) (by rw[Jb,ev];rfl)
theorem JjP (T:Txt w K mg A):JF P w K mg base CX0 8 A.Ub A.Yw ["net","call"] (JR A Jkp):=by
 refine T.Jcb.F.ok JaW (fun vs H Q E h=>?_) (fun cdv AA outer s H vs Q E hr h=>?_)
 ·obtain⟨p,c,N,lp,op,ls,os,pl,ns,rws,cc,rfl,_⟩:=h
  rfl
 ·obtain⟨p,c,N,lp,op,ls,os,pl,ns,rws,cc,rfl,hO,ok,hC,⟨x,y,rfl,rfl,rfl⟩,k⟩:=h
  obtain⟨dc,nl,ll,rs,hc,hn,hls,hrs⟩:=hC
  obtain⟨r,t,rfl,hr0,ht0⟩:=hrs.two
  obtain⟨dn,hnet⟩:=hO.at_.net
  have hol:(os.map V.ref).length=N.orders.length:=by rw[List.length_map,hO.at_.od.len]
  have hll:(ls.map V.ref).length=N.lines.length:=by rw[List.length_map,hO.at_.ln.len]
  refine⟨_,(Jd (sA 2 JaW.nd (iL K (fL K (pv 1)) Jm))
   (Jd (sA 3 JaW.nd (iL K (fL K (pv 1)) Jm))
   (Jd (Qa (JA Jpe (lN K T.Q9 (Ja (pv 2) Jc)) (lN K T.Q9 (Ja (fL K (pv 0)) Jc)) (JJ _)) (Jf (Jl (Js (Ja (gL T.JdV) Jc)))) JD)
   (Jd (Qa (JA Jpe (lN K T.Q9 (Ja (pv 3) Jc)) (lN K T.Q9 (Ja (fL K (pv 0)) Jc)) (JJ _)) (Jf (Jl (Js (Ja (gL T.Jg5) Jc)))) JD)
   (Jf (Jl (JB Q7 (Js (Ja Jm Jc)) (cL (JjV T) hr T.JfC (Ja (pv 0) (Ja (pv 2) (Ja (pv 3) Jc))))))))))),?_⟩
  refine⟨_,rfl,fld hc T.Jz T.Wl rfl ⟨ll,_,_,_,rfl,rfl,SqL.of hls,Jp (j:=0) rfl,?_⟩⟩
  refine⟨_,rfl,fld hc T.Jz T.Wl rfl ⟨ll,_,_,_,rfl,rfl,SqL.of hls,Jp (j:=1) rfl,?_⟩⟩
  refine⟨_,rfl,r,_,rfl,.inl (SqL.of hr0),_,rfl,fld hnet T.Jt T.Jv rfl ⟨op,_,rfl,.inl (SqL.of hO.at_.los),rfl,_,rfl,J4 (fun h1=>?_) (fun h1=>?_)⟩⟩
  ·have h1':x.length≠N.orders.length:=fun e=>by
    rw[List.length_map,hol] at h1
    exact JaO ((Bool.not_eq_true' _).mp h1) (by rw[e])
   have eN:Vbemae.onNet N (.check x y)=(N,[-3]):=if_pos h1'
   exact⟨(by show 1≤sizeLine;decide),fun a0 n0=>k a0 _ ls os (by rw[eN];exact .of_same (Jj n0) hO) n0 (by rw[Jb,eN];rfl)⟩
  have h1':x.length=N.orders.length:=by
   rw[List.length_map,hol] at h1
   have:=Jfb ((Bool.not_eq_false' _).mp h1);omega
  refine⟨_,rfl,t,_,rfl,.inl (SqL.of ht0),_,rfl,fld hnet T.Jt T.JE rfl ⟨lp,_,rfl,.inl (SqL.of hO.at_.lls),rfl,_,rfl,J4 (fun h2=>?_) (fun h2=>?_)⟩⟩
  ·have h2':y.length≠N.lines.length:=fun e=>by
    rw[List.length_map,hll] at h2
    exact JaO ((Bool.not_eq_true' _).mp h2) (by rw[e])
   have eN:Vbemae.onNet N (.check x y)=(N,[-4]):=(if_neg (fun q=>q h1')).trans (if_pos h2')
   exact⟨(by show 1≤sizeLine;decide),fun a0 n0=>k a0 _ ls os (by rw[eN];exact .of_same (Jj n0) hO) n0 (by rw[Jb,eN];rfl)⟩
  have h2':y.length=N.lines.length:=by
   rw[List.length_map,hll] at h2
   have:=Jfb ((Bool.not_eq_false' _).mp h2);omega
  have eN:Vbemae.onNet N (.check x y)=(N,0::Vbemae.verdict N x y):=(if_neg (fun q=>q h1')).trans (if_neg (fun q=>q h2'))
  refine⟨(by show 1≤sizeLine;decide),fun a0 n0=>?_⟩
  have s0:=Jj (o:=.lst [.int 0]) n0
  have hA:=Jb (H:=H) (a:=a0) (o:=.lst [.int 0])
  generalize upd H a0 (.lst [.int 0])=H0 at s0 hA⊢
  refine⟨_,rfl,_,rfl,_,rfl,p,r,t,N,x,y,rfl,⟨hO.is.same s0,ok.ok,s0 _ _ hr0,h1'⟩,⟨hO.is.same s0,ok.ok,s0 _ _ ht0,h2'⟩,fun l H1 s1 nl hl=>?_⟩
  refine⟨a0,l,_,_,rfl,rfl,s1 _ _ hA,hl,?_,fun a1 n1=>?_⟩
  ·rw[List.length_map,JiY];show 1+2≤sizeLine;decide
  have sE:=s0.trans s1
  refine k a1 _ _ _ (by rw[eN];exact .of_same (Jk sE (Jg.free sE n1)) hO) (Jg.free sE n1) ?_
  rw[Jb,eN];rfl
end
end Zm
namespace Zm
theorem s0 {α:Type} {Q:List α→Prop} (r:List α) (a:Q []) (m:∀x r,Q (x::r)):Q r:=match r with
 |[]=>a
 |x::r=>m x r
theorem s1 {α:Type} {Q:List α→Prop} (r:List α) (a:∀x,Q [x]) (b0:Q []) (m:∀x y r,Q (x::y::r)):Q r:=match r with
 |[]=>b0
 |[x]=>a x
 |x::y::r=>m x y r
theorem s2 {α:Type} {Q:List α→Prop} (r:List α) (a:∀x y,Q [x,y]) (b0:Q []) (b1:∀x,Q [x]) (m:∀x y z r,Q (x::y::z::r)):Q r:=match r with
 |[]=>b0
 |[x]=>b1 x
 |[x,y]=>a x y
 |x::y::z::r=>m x y z r
theorem s3 {α:Type} {Q:List α→Prop} (r:List α) (a:∀x y z,Q [x,y,z]) (b0:Q []) (b1:∀x,Q [x]) (b2:∀x y,Q [x,y]) (m:∀x y z w r,Q (x::y::z::w::r)):Q r:=match r with
 |[]=>b0
 |[x]=>b1 x
 |[x,y]=>b2 x y
 |[x,y,z]=>a x y z
 |x::y::z::w::r=>m x y z w r
theorem s4 {α:Type} {Q:List α→Prop} (r:List α) (a:∀x y z w,Q [x,y,z,w]) (b0:Q []) (b1:∀x,Q [x]) (b2:∀x y,Q [x,y]) (b3:∀x y z,Q [x,y,z]) (m:∀x y z w u r,Q (x::y::z::w::u::r)):Q r:=match r with
 |[]=>b0
 |[x]=>b1 x
 |[x,y]=>b2 x y
 |[x,y,z]=>b3 x y z
 |[x,y,z,w]=>a x y z w
 |x::y::z::w::u::r=>m x y z w u r
theorem Jm3 {P:List (List Int)→Prop} (h0:∀x y z,P [[0,x,y,z]]) (h1:∀x y z w,P [[1,x,y,z,w]]) (h2:∀x y z w,P [[2,x,y,z,w]]) (h3:∀x y z,P [[3,x,y,z]]) (h4:∀x y,P [[4,x,y]]) (h5:P [[5]]) (h6:P [[6]]) (h7:∀x,P [[7,x]]) (h8:P [[8]]) (h9:P [[9]]) (h10:∀r,P [[10],r]) (h11:∀r s,P [[11],r,s]) (h12:∀x,P [[12,x]]) (h13:∀x,P [[13,x]]) (h14:P [[14]]) (h15:∀x y,P [[15,x,y]]) (h16:∀x,P [[16,x]]) (h17:∀x r,P [[17,x],r]) (h18:∀x,P [[18,x]]) (h19:P [[19]])
  (o:∀c,PyVbemae.whole c=c→Vbemae.decode c=none→P c):∀c,P c:=by
 intro c
 rcases c with _|⟨_|⟨p,r⟩,t⟩
 ·exact o _ rfl rfl
 ·exact o _ rfl rfl
 ·rcases p with n|n
  ·rcases n with _|_|_|_|_|_|_|_|_|_|_|_|_|_|_|_|_|_|_|_|n
   ·exact s3 (Q:=fun r=>P ((0::r)::t)) r (fun x y z=>s0 (Q:=fun t=>P ([0,x,y,z]::t)) t (h0 x y z) (fun _ _=>o _ rfl rfl)) (o _ rfl rfl) (fun _=>o _ rfl rfl) (fun _ _=>o _ rfl rfl) (fun _ _ _ _ _=>o _ rfl rfl)
   ·exact s4 (Q:=fun r=>P ((1::r)::t)) r (fun x y z w=>s0 (Q:=fun t=>P ([1,x,y,z,w]::t)) t (h1 x y z w) (fun _ _=>o _ rfl rfl)) (o _ rfl rfl) (fun _=>o _ rfl rfl) (fun _ _=>o _ rfl rfl) (fun _ _ _=>o _ rfl rfl) (fun _ _ _ _ _ _=>o _ rfl rfl)
   ·exact s4 (Q:=fun r=>P ((2::r)::t)) r (fun x y z w=>s0 (Q:=fun t=>P ([2,x,y,z,w]::t)) t (h2 x y z w) (fun _ _=>o _ rfl rfl)) (o _ rfl rfl) (fun _=>o _ rfl rfl) (fun _ _=>o _ rfl rfl) (fun _ _ _=>o _ rfl rfl) (fun _ _ _ _ _ _=>o _ rfl rfl)
   ·exact s3 (Q:=fun r=>P ((3::r)::t)) r (fun x y z=>s0 (Q:=fun t=>P ([3,x,y,z]::t)) t (h3 x y z) (fun _ _=>o _ rfl rfl)) (o _ rfl rfl) (fun _=>o _ rfl rfl) (fun _ _=>o _ rfl rfl) (fun _ _ _ _ _=>o _ rfl rfl)
   ·exact s2 (Q:=fun r=>P ((4::r)::t)) r (fun x y=>s0 (Q:=fun t=>P ([4,x,y]::t)) t (h4 x y) (fun _ _=>o _ rfl rfl)) (o _ rfl rfl) (fun _=>o _ rfl rfl) (fun _ _ _ _=>o _ rfl rfl)
   ·exact s0 (Q:=fun r=>P ((5::r)::t)) r (s0 (Q:=fun t=>P ([5]::t)) t (h5) (fun _ _=>o _ rfl rfl)) (fun _ _=>o _ rfl rfl)
   ·exact s0 (Q:=fun r=>P ((6::r)::t)) r (s0 (Q:=fun t=>P ([6]::t)) t (h6) (fun _ _=>o _ rfl rfl)) (fun _ _=>o _ rfl rfl)
   ·exact s1 (Q:=fun r=>P ((7::r)::t)) r (fun x=>s0 (Q:=fun t=>P ([7,x]::t)) t (h7 x) (fun _ _=>o _ rfl rfl)) (o _ rfl rfl) (fun _ _ _=>o _ rfl rfl)
   ·exact s0 (Q:=fun r=>P ((8::r)::t)) r (s0 (Q:=fun t=>P ([8]::t)) t (h8) (fun _ _=>o _ rfl rfl)) (fun _ _=>o _ rfl rfl)
   ·exact s0 (Q:=fun r=>P ((9::r)::t)) r (s0 (Q:=fun t=>P ([9]::t)) t (h9) (fun _ _=>o _ rfl rfl)) (fun _ _=>o _ rfl rfl)
   ·exact s0 (Q:=fun r=>P ((10::r)::t)) r (s1 (Q:=fun t=>P ([10]::t)) t (fun a=>h10 a) (o _ rfl rfl) (fun _ _ _=>o _ rfl rfl)) (fun _ _=>o _ rfl rfl)
   ·exact s0 (Q:=fun r=>P ((11::r)::t)) r (s2 (Q:=fun t=>P ([11]::t)) t (fun a b=>h11 a b) (o _ rfl rfl) (fun _=>o _ rfl rfl) (fun _ _ _ _=>o _ rfl rfl)) (fun _ _=>o _ rfl rfl)
   ·exact s1 (Q:=fun r=>P ((12::r)::t)) r (fun x=>s0 (Q:=fun t=>P ([12,x]::t)) t (h12 x) (fun _ _=>o _ rfl rfl)) (o _ rfl rfl) (fun _ _ _=>o _ rfl rfl)
   ·exact s1 (Q:=fun r=>P ((13::r)::t)) r (fun x=>s0 (Q:=fun t=>P ([13,x]::t)) t (h13 x) (fun _ _=>o _ rfl rfl)) (o _ rfl rfl) (fun _ _ _=>o _ rfl rfl)
   ·exact s0 (Q:=fun r=>P ((14::r)::t)) r (s0 (Q:=fun t=>P ([14]::t)) t (h14) (fun _ _=>o _ rfl rfl)) (fun _ _=>o _ rfl rfl)
   ·exact s2 (Q:=fun r=>P ((15::r)::t)) r (fun x y=>s0 (Q:=fun t=>P ([15,x,y]::t)) t (h15 x y) (fun _ _=>o _ rfl rfl)) (o _ rfl rfl) (fun _=>o _ rfl rfl) (fun _ _ _ _=>o _ rfl rfl)
   ·exact s1 (Q:=fun r=>P ((16::r)::t)) r (fun x=>s0 (Q:=fun t=>P ([16,x]::t)) t (h16 x) (fun _ _=>o _ rfl rfl)) (o _ rfl rfl) (fun _ _ _=>o _ rfl rfl)
   ·exact s1 (Q:=fun r=>P ((17::r)::t)) r (fun x=>s1 (Q:=fun t=>P ([17,x]::t)) t (fun a=>h17 x a) (o _ rfl rfl) (fun _ _ _=>o _ rfl rfl)) (o _ rfl rfl) (fun _ _ _=>o _ rfl rfl)
   ·exact s1 (Q:=fun r=>P ((18::r)::t)) r (fun x=>s0 (Q:=fun t=>P ([18,x]::t)) t (h18 x) (fun _ _=>o _ rfl rfl)) (o _ rfl rfl) (fun _ _ _=>o _ rfl rfl)
   ·exact s0 (Q:=fun r=>P ((19::r)::t)) r (s0 (Q:=fun t=>P ([19]::t)) t (h19) (fun _ _=>o _ rfl rfl)) (fun _ _=>o _ rfl rfl)
   ·exact o _ rfl rfl
  ·exact o _ rfl (if_pos (Int.negSucc_lt_zero n))
theorem Js4 (c:List (List Int)):PyVbemae.whole c=c:=by
 refine Jm3 (P:=fun c=>PyVbemae.whole c=c) (fun _ _ _=>rfl) (fun _ _ _ _=>rfl) (fun _ _ _ _=>rfl) (fun _ _ _=>rfl) (fun _ _=>rfl) rfl rfl (fun _=>rfl) rfl rfl (fun _=>rfl) (fun _ _=>rfl) (fun _=>rfl) (fun _=>rfl) rfl (fun _ _=>rfl) (fun _=>rfl) (fun _ _=>rfl) (fun _=>rfl) rfl (fun _ h _=>h) c
end Zm
namespace Zm
open Vbemae
noncomputable def Jup:Call→Prop
 | .open_ lo hi n=>lo≤hi∧-1000000≤lo∧hi≤1000000∧1≤n∧n≤6
 | .line _ _ f g=>0≤f∧0≤g
 | .order o=>0≤o.amount
 | .rooms _ f g=>0≤f∧0≤g
 | .amend _ q=>0≤q
 |_=>True
theorem Jmw {b:Bool} {c k:Call} (h:when_ b c=some k):b=true∧c=k:=by
 unfold when_ at h
 cases b with
 |true=>exact⟨rfl,by simpa using h⟩
 |false=>simp at h
theorem JgH {a lo hi:Int}:within a lo hi=true↔lo≤a∧a≤hi:=by unfold within;simp
theorem JpD {c:List (List Int)} {k:Call} (h:decode c=some k):Jup k:=by
 revert h
 revert k
 refine Jm3 (P:=fun c=>∀{k},decode c=some k→Jup k) ?_ ?_ ?_ ?_ ?_ ?_ ?_ ?_ ?_ ?_ ?_ ?_ ?_ ?_ ?_ ?_ ?_ ?_ ?_ ?_ (fun c _ e k h=>by rw[e] at h;cases h) c
 all_goals intros
 all_goals rename_i h
 all_goals first
  |(cases h;trivial)
  |(obtain⟨hb,rfl⟩:=Jmw h;trivial)
  |(obtain⟨hb,rfl⟩:=Jmw h;simp only[Bool.and_eq_true,isPrice,isAmount,isZone,JgH,decide_eq_true_eq,PRICE,MOST] at hb;unfold Jup;dsimp only;omega)
theorem Jsw {lo hi:Int} {n:Nat} (g:Jup (.open_ lo hi n)):Jmu ⟨lo,hi,n,[],[]⟩:=by
 obtain⟨h1,h2,h3,h4,h5⟩:=g
 exact⟨⟨⟨h1,fun o h=>(nomatch h),fun l h=>(nomatch h)⟩,h4,h5,by show 0≤12;omega,by show 0≤41;omega,h2,h3⟩,by show 0≤40;omega⟩
theorem Jlg {α:Type} {f:α→α} {l:List α} {i:Nat} {x:α} (h:x∈l.modify i f):x∈l∨∃y∈l,x=f y:=by
 obtain⟨j,hj⟩:=List.getElem?_of_mem h
 rw[List.getElem?_modify] at hj
 cases e:l[j]? with
 |none=>rw[e] at hj;simp at hj
 |some y=>
  rw[e] at hj
  have hm:=List.mem_of_getElem? e
  by_cases hij:i=j
  ·simp[hij] at hj;exact .inr ⟨y,hm,hj.symm⟩
  ·simp[hij] at hj;exact .inl (hj▸hm)
theorem JuW {N:Net} (L:Jmu N) {k:Call} (g:Jup k):Jmu (onNet N k).1:=by
 have K:=L.ok.ok
 have l12:=L.ok.l12
 have o40:=L.o40
 cases k with
 |line a b f r=>
  simp only[onNet]
  split
  ·exact L
  ·split
   ·exact L
   ·rename_i h1 h2
    have g':0≤f∧0≤r:=g
    unfold LINES at h2
    refine⟨⟨⟨K.bounds,fun o ho=>?_,fun l hl=>?_⟩,L.ok.z1,L.ok.z6,?_,L.ok.o41,L.ok.lo6,L.ok.hi6⟩,o40⟩
    ·exact⟨(K.orders o ho).zone,(K.orders o ho).lo,(K.orders o ho).hi,(K.orders o ho).am⟩
    ·rcases List.mem_append.mp hl with hl|hl
     ·exact⟨(K.lines l hl).a,(K.lines l hl).b,(K.lines l hl).ne,(K.lines l hl).forth,(K.lines l hl).back⟩
     ·rw[List.mem_singleton.mp hl]
      exact⟨by show a<N.zones;omega,by show b<N.zones;omega,by show a≠b;omega,g'.1,g'.2⟩
    ·show(N.lines++[_]).length≤12
     rw[List.length_append];show _+1≤12;omega
 |order o=>
  simp only[onNet]
  split
  ·exact L
  ·split
   ·exact L
   ·split
    ·exact L
    ·rename_i h1 h2 h3
     have g':0≤o.amount:=g
     unfold ORDERS at h3
     refine⟨⟨⟨K.bounds,fun u hu=>?_,fun l hl=>?_⟩,L.ok.z1,L.ok.z6,l12,?_,L.ok.lo6,L.ok.hi6⟩,?_⟩
     ·rcases List.mem_append.mp hu with hu|hu
      ·exact⟨(K.orders u hu).zone,(K.orders u hu).lo,(K.orders u hu).hi,(K.orders u hu).am⟩
      ·rw[List.mem_singleton.mp hu]
       exact⟨by show o.zone<N.zones;omega,by show N.lo≤o.price;omega,by show o.price≤N.hi;omega,g'⟩
     ·exact⟨(K.lines l hl).a,(K.lines l hl).b,(K.lines l hl).ne,(K.lines l hl).forth,(K.lines l hl).back⟩
     ·show(N.orders++[_]).length≤41
      rw[List.length_append];show _+1≤41;omega
     ·show(N.orders++[_]).length≤40
      rw[List.length_append];show _+1≤40;omega
 |rooms i f r=>
  simp only[onNet]
  split
  ·exact L
  ·have g':0≤f∧0≤r:=g
   refine⟨⟨⟨K.bounds,fun o ho=>?_,fun l hl=>?_⟩,L.ok.z1,L.ok.z6,?_,L.ok.o41,L.ok.lo6,L.ok.hi6⟩,o40⟩
   ·exact⟨(K.orders o ho).zone,(K.orders o ho).lo,(K.orders o ho).hi,(K.orders o ho).am⟩
   ·rcases Jlg hl with hl|⟨y,hy,rfl⟩
    ·exact⟨(K.lines l hl).a,(K.lines l hl).b,(K.lines l hl).ne,(K.lines l hl).forth,(K.lines l hl).back⟩
    ·exact⟨(K.lines y hy).a,(K.lines y hy).b,(K.lines y hy).ne,g'.1,g'.2⟩
   ·show(N.lines.modify _ _).length≤12
    rw[List.length_modify];exact l12
 |amend i q=>
  simp only[onNet]
  split
  ·exact L
  ·have g':0≤q:=g
   refine⟨⟨⟨K.bounds,fun o ho=>?_,fun l hl=>?_⟩,L.ok.z1,L.ok.z6,l12,?_,L.ok.lo6,L.ok.hi6⟩,?_⟩
   ·rcases Jlg ho with ho|⟨y,hy,rfl⟩
    ·exact⟨(K.orders o ho).zone,(K.orders o ho).lo,(K.orders o ho).hi,(K.orders o ho).am⟩
    ·exact⟨(K.orders y hy).zone,(K.orders y hy).lo,(K.orders y hy).hi,g'⟩
   ·exact⟨(K.lines l hl).a,(K.lines l hl).b,(K.lines l hl).ne,(K.lines l hl).forth,(K.lines l hl).back⟩
   ·show(N.orders.modify _ _).length≤41
    rw[List.length_modify];exact L.ok.o41
   ·show(N.orders.modify _ _).length≤40
    rw[List.length_modify];exact o40
 |zone z=>simp only[onNet];split<;>exact L
 |supports p=>simp only[onNet];split<;>exact L
 |check x y=>simp only[onNet];split;exact L;split<;>exact L
 |worth i=>simp only[onNet];split<;>exact L
 |lineWorth i=>simp only[onNet];split<;>exact L
 |net z q=>simp only[onNet];split<;>exact L
 |shortage t x=>simp only[onNet];split<;>exact L
 |unit z=>simp only[onNet];split<;>exact L
 |_=>exact L
end Zm
namespace Zm
theorem JpG (l:List Int):PyVbemae.calls l=PyFlat.calls PyVbemae.shape l.length l:=by
 unfold PyVbemae.calls
 cases PyFlat.calls PyVbemae.shape l.length l with
 |none=>rfl
 |some cs=>
  simp only[Option.some.injEq]
  conv=>rhs;rw[←List.map_id cs]
  exact List.map_congr_left fun c _=>Js4 c
theorem JtX {sh:Int→Option (Nat×Nat)} {f:Nat} {cs:List (List (List Int))} (h:PyFlat.calls sh f []=some cs):cs=[]:=by
 cases f<;>(unfold PyFlat.calls at h;exact(Option.some.inj h).symm)
theorem JsL {sh:Int→Option (Nat×Nat)} {f:Nat} {p:Int} {r:List Int} {cs:List (List (List Int))} (h:PyFlat.calls sh f (p::r)=some cs):
  ∃n k xs t cs' f',sh p=some (n,k)∧n≤r.length∧PyFlat.rows k (r.drop n)=some (xs,t)∧cs=((p::r.take n)::xs)::cs'∧PyFlat.calls sh f' t=some cs':=by
 cases f with
 |zero=>unfold PyFlat.calls at h;cases h
 |succ f=>
  unfold PyFlat.calls at h
  unfold PyFlat.call at h
  dsimp only at h
  cases hs:sh p with
  |none=>rw[hs] at h;simp at h
  |some nk=>
   obtain⟨n,k⟩:=nk
   rw[hs] at h
   dsimp only at h
   by_cases hn:r.length<n
   ·rw[if_pos hn] at h;cases h
   ·rw[if_neg hn] at h
    cases hr:PyFlat.rows k (r.drop n) with
    |none=>rw[hr] at h;cases h
    |some xt=>
     obtain⟨xs,t⟩:=xt
     rw[hr] at h
     dsimp only at h
     cases hc:PyFlat.calls sh f t with
     |none=>rw[hc] at h;cases h
     |some cs'=>
      rw[hc] at h
      exact⟨n,k,xs,t,cs',f,rfl,by omega,hr,(Option.some.inj h).symm,hc⟩
theorem Jik {r:List Int} {xs:List (List Int)} {t:List Int} (h:PyFlat.rows 0 r=some (xs,t)):xs=[]∧t=r:=by
 unfold PyFlat.rows at h
 have:=Option.some.inj h
 cases this
 exact⟨rfl,rfl⟩
theorem Jil {k:Nat} {r:List Int} {xs:List (List Int)} {t:List Int} (h:PyFlat.rows (k+1) r=some (xs,t)):
  ∃(m:Nat) (r':List Int) (xs':List (List Int)),r=(m:Int)::r'∧m≤r'.length∧xs=r'.take m::xs'∧PyFlat.rows k (r'.drop m)=some (xs',t):=by
 unfold PyFlat.rows at h
 cases r with
 |nil=>unfold PyFlat.row at h;cases h
 |cons n r=>
  unfold PyFlat.row at h
  dsimp only at h
  by_cases hn:0≤n∧n.toNat≤r.length
  ·rw[if_pos hn] at h
   dsimp only at h
   cases hr:PyFlat.rows k (r.drop n.toNat) with
   |none=>rw[hr] at h;cases h
   |some xt=>
    obtain⟨xs',t'⟩:=xt
    rw[hr] at h
    have:=Option.some.inj h
    cases this
    exact⟨n.toNat,r,xs',by rw[Int.toNat_of_nonneg hn.1],hn.2,rfl,hr⟩
  ·rw[if_neg hn] at h;cases h
noncomputable def JM:List (List Int)→Nat
 |[]=>0
 |x::xs=>1+x.length+JM xs
theorem Jdl:∀{k:Nat} {r:List Int} {xs:List (List Int)} {t:List Int},PyFlat.rows k r=some (xs,t)→xs.length=k∧JM xs≤r.length∧t=r.drop (JM xs)
 |0,r,xs,t,h=>by obtain⟨rfl,rfl⟩:=Jik h;exact⟨rfl,Nat.zero_le _,rfl⟩
 |k+1,r,xs,t,h=>by
  obtain⟨m,r',xs',rfl,hm,rfl,hr⟩:=Jil h
  obtain⟨h1,h2,h3⟩:=Jdl hr
  have hl:(r'.take m).length=m:=by rw[List.length_take];omega
  rw[List.length_drop] at h2
  refine⟨by rw[List.length_cons,h1],by unfold JM;rw[hl,List.length_cons];omega,?_⟩
  rw[h3,List.drop_drop]
  show _=List.drop (1+(r'.take m).length+JM xs') _
  rw[hl,show 1+m+JM xs'=(m+JM xs')+1 by omega,List.drop_succ_cons]
noncomputable def JiV (l:List Int) (i:Nat) (cs:List (List (List Int))):Prop:=∃f,PyFlat.calls PyVbemae.shape f (l.drop i)=some cs
theorem JiV.done {l:List Int} {i:Nat} {cs:List (List (List Int))} (h:JiV l i cs) (hi:l.length≤i):cs=[]:=by
 obtain⟨f,h⟩:=h
 rw[List.drop_eq_nil_of_le hi] at h
 exact JtX h
theorem JiV.step {l:List Int} {i:Nat} {cs:List (List (List Int))} (h:JiV l i cs) (hi:i<l.length):
  ∃p n k xs cs',l[i]? =some p∧PyVbemae.shape p=some (n,k)∧i+1+n≤l.length∧PyFlat.rows k (l.drop (i+1+n))=some (xs,l.drop (i+1+n+JM xs))∧i+1+n+JM xs≤l.length∧
   cs=((p::(l.drop (i+1)).take n)::xs)::cs'∧JiV l (i+1+n+JM xs) cs':=by
 obtain⟨f,h⟩:=h
 rw[List.drop_eq_getElem_cons hi] at h
 obtain⟨n,k,xs,t,cs',f',h1,h2,h3,h4,h5⟩:=JsL h
 rw[List.length_drop] at h2
 rw[List.drop_drop] at h3
 obtain⟨q1,q2,q3⟩:=Jdl h3
 rw[List.length_drop] at q2
 rw[List.drop_drop] at q3
 subst q3
 exact⟨l[i],n,k,xs,cs',List.getElem?_eq_getElem hi,h1,by omega,h3,by omega,h4,f',h5⟩
noncomputable def run {S:Type} (st:S→List (List Int)→S×List Int) (s:S) (cs:List (List (List Int))):S:=cs.foldl (fun s c=>(st s c).1) s
theorem Jtm {S:Type} (st:S→List (List Int)→S×List Int) (s:S) (cs:List (List (List Int))) (c:List (List Int)):run st s (cs++[c])=(st (run st s cs) c).1:=by
 unfold run;rw[List.foldl_append];rfl
theorem Jje {S:Type} (st:S→List (List Int)→S×List Int):∀(cs:List (List (List Int))) (s:S) (c:List (List Int)),PyFlat.played st s (cs++[c])=PyFlat.played st s cs++[(st (run st s cs) c).2]
 |[],s,c=>rfl
 |d::cs,s,c=>by
  show _::PyFlat.played st (st s d).1 (cs++[c])=_
  rw[Jje st cs];rfl
theorem Jr6 (l:List (List Int)) (a:List Int):PyFlat.told (l++[a])=PyFlat.told l++((a.length:Int)::a):=by
 unfold PyFlat.told;rw[List.flatMap_append];simp
theorem Jq0 {l:List Int} {cs:List (List (List Int))} (h:JiV l 0 cs) (hl:PyFlat.calls PyVbemae.shape l.length l=some cs):PyVbemae.answers l=PyFlat.told (PyFlat.played VbemaeNeutral.step VbemaeNeutral.start cs):=by
 unfold PyVbemae.answers
 rw[JpG,hl]
theorem JpM {l:List Int} (h:PyVbemae.answers_asked l=true):∃cs,PyFlat.calls PyVbemae.shape l.length l=some cs∧cs.length≤200∧JiV l 0 cs:=by
 unfold PyVbemae.answers_asked at h
 rw[JpG] at h
 cases hc:PyFlat.calls PyVbemae.shape l.length l with
 |none=>rw[hc] at h;cases h
 |some cs=>
  rw[hc] at h
  dsimp only at h
  rw[Bool.and_eq_true] at h
  exact⟨cs,rfl,of_decide_eq_true h.1,l.length,hc⟩
end Zm
namespace Zm
open PySem PySem.Spec PyProof.Rows L2
noncomputable def Jhd (A:Adr) (H:Hp) (m:Addr) (st:Vbemae.State) (F:List Addr):Prop:=
 (st.net=none∧F=[]∧∃dx,H m=some (.ins A.UB dx (Jic .non)))∨
 ∃N p lp op ls os dx,st.net=some N∧Jmu N∧H m=some (.ins A.UB dx (Jic (.ref p)))∧Own A H p N lp op ls os∧F=p::lp::op::(ls++os)
theorem Jhd.obj {A:Adr} {H:Hp} {m:Addr} {st:Vbemae.State} {F:List Addr} (h:Jhd A H m st F):∃dx v,H m=some (.ins A.UB dx (Jic v)):=by
 rcases h with⟨_,_,dx,e⟩|⟨N,p,lp,op,ls,os,dx,_,_,e,_⟩
 ·exact⟨dx,_,e⟩
 ·exact⟨dx,_,e⟩
theorem Jhd.same {A:Adr} {H H':Hp} {m:Addr} {st:Vbemae.State} {F:List Addr} (s:Jg H H') (h:Jhd A H m st F):Jhd A H' m st F:=by
 rcases h with⟨h1,h2,dx,e⟩|⟨N,p,lp,op,ls,os,dx,h1,h2,e,h3,h4⟩
 ·exact .inl ⟨h1,h2,dx,s _ _ e⟩
 ·exact .inr ⟨N,p,lp,op,ls,os,dx,h1,h2,s _ _ e,h3.same s,h4⟩
noncomputable def MkQ (A:Adr) (H:Hp) (m:Addr) (F:List Addr) (st':Vbemae.State) (ans:List Int) (Q:VK):Prop:=
 ∀l H' F',Jhd A H' m st' F'→(∀b o,H b=some o→b≠m→b∉F→H' b=some o)→(∀b∈F',b∈F∨H b=none)→H l=none→H' l=some (.lst (ans.map V.int))→Q (.ref l) H'
theorem MkQ.refuse {A:Adr} {H:Hp} {m:Addr} {F:List Addr} {st:Vbemae.State} {r:Int} {Q:VK} (k:MkQ A H m F st [r] Q) (h:Jhd A H m st F):∀a0,H a0=none→Q (.ref a0) (upd H a0 (.lst [.int r])):=fun a0 n0=>
 k a0 _ F (h.same (Jj n0)) (fun b o e _ _=>Jj n0 _ _ e) (fun b hb=>.inl hb) n0 (by rw[Jb];rfl)
noncomputable def JkL (A:Adr):Sp:=fun vs H Q _=>∃(p dx:Addr),vs=[.ref p]∧H p=some (.ins A.UB dx [])∧
 ∀(H':Hp),(∀b o,H b=some o→b≠p→H' b=some o)→H' p=some (.ins A.UB dx (Jic .non))→Q .non H'
noncomputable def JtD (lo hi:Int) (z:Nat):Vbemae.State:=⟨some ⟨lo,hi,z,[],[]⟩⟩
noncomputable def JoH (A:Adr):Sp:=fun vs H Q _=>∃(m:Addr) (st:Vbemae.State) (F:List Addr) (lo hi:Int) (z:Nat),vs=[.ref m,.int lo,.int hi,.int z]∧Jhd A H m st F∧-1000000≤lo∧hi≤1000000∧1≤z∧z≤6∧
 (hi<lo→MkQ A H m F st [-1] Q)∧(lo≤hi→MkQ A H m F (JtD lo hi z) [0] Q)
section
variable {P:Program} {w:World} {K:PySem.W.Frag} {mg:Str→Option Value} {base:Heap} {A:Adr}
theorem Jla (T:Txt w K mg A):JF P w K mg base CX0 1 A.Jat A.VC ["self"] (JkL A):=by
 refine T.Jc8.F.ok JkO (fun vs H Q E h=>?_) (fun cdv AA outer s H vs Q E hr h=>?_)
 ·obtain⟨p,dx,rfl,_⟩:=h
  rfl
 ·obtain⟨p,dx,rfl,hp,k⟩:=h
  refine⟨_,(Jf (JS (pv 0) Jty rfl)),?_⟩
  refine⟨_,rfl,p,A.UB,dx,_,rfl,hp,T.Jb6,T.Yk,(by show 0<1000;decide),?_⟩
  exact k _ (fun b o e hb=>by rw[Jh hb];exact e) (Eq.trans Jb rfl)
theorem JgV (T:Txt w K mg A):JF P w K mg base CX0 3 A.WD A.U9 ["self","low","high","zones"] (JoH A):=by
 refine T.VR.F.ok JgQ (fun vs H Q E h=>?_) (fun cdv AA outer s H vs Q E hr h=>?_)
 ·obtain⟨m,st,F,lo,hi,z,rfl,_⟩:=h
  rfl
 ·obtain⟨m,st,F,lo,hi,z,rfl,hM,r1,r2,r3,r4,k1,k2⟩:=h
  obtain⟨dm,vm,hm⟩:=hM.obj
  refine⟨_,(Jd (Qa (JA JmL (pv 1) (pv 2) (JJ _)) (Jf (Jl (Js (Ja (gL T.Jgt) Jc)))) JD)
   (Jd (JS (pv 0) (mA (Jcs T) hr T.Jcg T.Jrz (Ja (pv 1) (Ja (pv 2) (Ja (pv 3) (Ja (Js Jc) (Ja (Js Jc) Jc)))))) rfl)
   (Jf (Jl (Js (Ja Jm Jc)))))),?_⟩
  refine⟨_,rfl,_,rfl,_,_,rfl,rfl,_,rfl,J4 (fun h1=>?_) (fun h1=>?_)⟩
  ·have h1':hi<lo:=of_decide_eq_true h1
   exact⟨(by show 1≤sizeLine;decide),fun a0 n0=>(k1 h1').refuse hM a0 n0⟩
  have h1':lo≤hi:=by have:=of_decide_eq_false h1;omega
  refine⟨_,rfl,_,rfl,_,rfl,Nat.zero_le _,fun lp nlp'=>⟨Nat.zero_le _,fun op nop=>?_⟩⟩
  have sa:Jg H (upd H lp (.lst [])):=Jj nlp'
  have nop':=Jg.free sa nop
  have hne:lp≠op:=Jn (H:=upd H lp (.lst [])) Jb nop
  have sb:=Jk (o:=.lst []) sa nop'
  have hlp0:(upd (upd H lp (.lst [])) op (.lst [])) lp=some (.lst []):=(Jh hne).trans Jb
  have hop0:(upd (upd H lp (.lst [])) op (.lst [])) op=some (.lst []):=Jb
  generalize upd (upd H lp (.lst [])) op (.lst [])=H0 at sb hlp0 hop0⊢
  intro x dx nx0 ndx nxd
  refine⟨x,dx,_,_,_,_,_,rfl,Jb,fun H1 kk hx=>⟨rfl,?_⟩⟩
  have sm:Jg H0 H1:=Jg.made nx0 ndx kk
  have s1:Jg H H1:=sb.trans sm
  have nx:=Jg.free sb nx0
  have hlp:=sm _ _ hlp0
  have hop:=sm _ _ hop0
  refine⟨_,rfl,m,_,dm,_,rfl,s1 _ _ hm,T.Jb6,T.Yk,(by show 1<1000;decide),?_⟩
  have xm:x≠m:=fun q=>by rw[q,hm] at nx;cases nx
  have lm:lp≠m:=fun q=>by rw[q,hm] at nlp';cases nlp'
  have om:op≠m:=fun q=>by rw[q,hm] at nop';cases nop'
  refine⟨(by show 1≤sizeLine;decide),fun a0 n0=>?_⟩
  have a0m:a0≠m:=fun q=>by rw[q,Jb] at n0;cases n0
  have n0':H1 a0=none:=by rw[Jh a0m] at n0;exact n0
  have fn:∀{b o},H1 b=some o→b≠a0:=fun {b o} e=>Jn e n0'
  refine k2 h1' a0 _ (x::lp::op::([]++[])) (.inr ⟨⟨lo,hi,z,[],[]⟩,x,lp,op,[],[],dm,rfl,Jsw ⟨h1',r1,r2,r3,r4⟩,?_,⟨⟨⟨dx,?_⟩,?_,?_,⟨rfl,fun i a b h=>by simp at h⟩,⟨rfl,fun i a b h=>by simp at h⟩⟩,List.nodup_nil,List.nodup_nil,hne⟩,rfl⟩) (fun b o e hb _=>?_) (fun b hb=>.inr ?_) (Jg.free s1 n0') ?_
  ·rw[Jh (Ne.symm a0m),Jb];rfl
  ·rw[Jh (fn hx),Jh xm];exact hx
  ·rw[Jh (fn hlp),Jh lm];exact hlp
  ·rw[Jh (fn hop),Jh om];exact hop
  ·rw[Jh (fn (s1 _ _ e)),Jh hb];exact s1 _ _ e
  ·rcases List.mem_cons.mp hb with rfl|hb
   ·exact nx
   ·rcases List.mem_cons.mp hb with rfl|hb
    ·exact nlp'
    ·rcases List.mem_cons.mp hb with rfl|hb
     ·exact nop'
     ·simp at hb
  ·rw[Jb];rfl
end
end Zm
namespace Zm
open PySem PySem.Spec PyProof.Rows L2
inductive Qh (A:Adr):Addr→Sp→Prop
 |h1:Qh A A.YQ (JR A Jod)
 |h2:Qh A A.WN (JR A Jkm)
 |h3:Qh A A.Ud (JR A Jkk)
 |h4:Qh A A.UH (JR A Jkr)
 |h5:Qh A A.QU (JR A Jko)
 |h6:Qh A A.J7 (JR A Jkl)
 |h7:Qh A A.WL (JR A Job)
 |h8:Qh A A.Wc (JR A Jkn)
 |h9:Qh A A.Ua (JR A JfX)
 |h10:Qh A A.Uc (JR A JdZ)
 |h11:Qh A A.Ub (JR A Jkp)
 |h12:Qh A A.Qc (JR A Jkh)
 |h13:Qh A A.Qs (JR A JcG)
 |h14:Qh A A.Wd (JR A Jkq)
 |h15:Qh A A.QS (JR A JrQ)
 |h16:Qh A A.QG (JR A Jki)
 |h17:Qh A A.QT (JR A Jd0)
 |h18:Qh A A.WM (JR A Joc)
 |h19:Qh A A.Wb (JR A Jkj)
inductive Jc3:Int→List Int→List (List Int)→Vbemae.Call→Prop
 |c1 {ns rws cc}:Jod ns rws cc→Jc3 1 ns rws cc
 |c2 {ns rws cc}:Jkm ns rws cc→Jc3 2 ns rws cc
 |c3 {ns rws cc}:Jkk ns rws cc→Jc3 3 ns rws cc
 |c4 {ns rws cc}:Jkr ns rws cc→Jc3 4 ns rws cc
 |c5 {ns rws cc}:Jko ns rws cc→Jc3 5 ns rws cc
 |c6 {ns rws cc}:Jkl ns rws cc→Jc3 6 ns rws cc
 |c7 {ns rws cc}:Job ns rws cc→Jc3 7 ns rws cc
 |c8 {ns rws cc}:Jkn ns rws cc→Jc3 8 ns rws cc
 |c9 {ns rws cc}:JfX ns rws cc→Jc3 9 ns rws cc
 |c10 {ns rws cc}:JdZ ns rws cc→Jc3 10 ns rws cc
 |c11 {ns rws cc}:Jkp ns rws cc→Jc3 11 ns rws cc
 |c12 {ns rws cc}:Jkh ns rws cc→Jc3 12 ns rws cc
 |c13 {ns rws cc}:JcG ns rws cc→Jc3 13 ns rws cc
 |c14 {ns rws cc}:Jkq ns rws cc→Jc3 14 ns rws cc
 |c15 {ns rws cc}:JrQ ns rws cc→Jc3 15 ns rws cc
 |c16 {ns rws cc}:Jki ns rws cc→Jc3 16 ns rws cc
 |c17 {ns rws cc}:Jd0 ns rws cc→Jc3 17 ns rws cc
 |c18 {ns rws cc}:Joc ns rws cc→Jc3 18 ns rws cc
 |c19 {ns rws cc}:Jkj ns rws cc→Jc3 19 ns rws cc
noncomputable def JwJ (A:Adr):Sp:=fun vs H Q _=>∃(p c:Addr) (N:Vbemae.Net) (lp op:Addr) (ls os:List Addr) (pl:Int) (ns:List Int) (rws:List (List Int)) (cc:Vbemae.Call),vs=[.ref p,.ref c]∧Own A H p N lp op ls os∧Jmu N∧Jhi A H c pl ns rws∧Jc3 pl ns rws cc∧
 ∀l H' ls' os',JcQ A H H' p (Vbemae.onNet N cc).1 lp op ls os ls' os'→H l=none→H' l=some (.lst ((Vbemae.onNet N cc).2.map V.int))→Q (.ref l) H'
section
variable {P:Program} {w:World} {K:PySem.W.Frag} {mg:Str→Option Value} {base:Heap} {A:Adr}
theorem JsE (T:Txt w K mg A):∀a sp,Qh A a sp→∃k fd ps,k≤8∧JF P w K mg base CX0 k a fd ps sp∧PySem.W.keepIn K (.ref a)=true∧JcR K fd ps []:=by
 intro a sp h
 cases h
 ·exact⟨_,_,_,by decide,Jph T,T.Jhh.F.kp,T.Jhh.b⟩
 ·exact⟨_,_,_,by decide,JnT T,T.JfD.F.kp,T.JfD.b⟩
 ·exact⟨_,_,_,by decide,JjW T,T.Jcf.F.kp,T.Jcf.b⟩
 ·exact⟨_,_,_,by decide,Jk8 T,T.Jc7.F.kp,T.Jc7.b⟩
 ·exact⟨_,_,_,by decide,Jis T,T.Ja0.F.kp,T.Ja0.b⟩
 ·exact⟨_,_,_,by decide,JeZ T,T.Yf.F.kp,T.Yf.b⟩
 ·exact⟨_,_,_,by decide,JnQ T,T.Jft.F.kp,T.Jft.b⟩
 ·exact⟨_,_,_,by decide,Jma T,T.Jef.F.kp,T.Jef.b⟩
 ·exact⟨_,_,_,by decide,JjO T,T.Jca.F.kp,T.Jca.b⟩
 ·exact⟨_,_,_,by decide,JjQ T,T.Jcc.F.kp,T.Jcc.b⟩
 ·exact⟨_,_,_,by decide,JjP T,T.Jcb.F.kp,T.Jcb.b⟩
 ·exact⟨_,_,_,by decide,Jf5 T,T.YS.F.kp,T.YS.b⟩
 ·exact⟨_,_,_,by decide,JgU T,T.VP.F.kp,T.VP.b⟩
 ·exact⟨_,_,_,by decide,Jmb T,T.Jeg.F.kp,T.Jeg.b⟩
 ·exact⟨_,_,_,by decide,Jiq T,T.JaY.F.kp,T.JaY.b⟩
 ·exact⟨_,_,_,by decide,JhG T,T.V3.F.kp,T.V3.b⟩
 ·exact⟨_,_,_,by decide,Jir T,T.JaZ.F.kp,T.JaZ.b⟩
 ·exact⟨_,_,_,by decide,JnR T,T.Jfu.F.kp,T.Jfu.b⟩
 ·exact⟨_,_,_,by decide,Jl9 T,T.Jee.F.kp,T.Jee.b⟩
theorem Jk7 (T:Txt w K mg A):JF P w K mg base CX0 9 A.Jar A.Vz ["net","call"] (JwJ A):=by
 refine T.JgE.F.ok JkN (fun vs H Q E h=>?_) (fun cdv AA outer s H vs Q E hr h=>?_)
 ·obtain⟨p,c,N,lp,op,ls,os,pl,ns,rws,cc,rfl,_⟩:=h
  rfl
 ·obtain⟨p,c,N,lp,op,ls,os,pl,ns,rws,cc,rfl,hO,ok,hC,hcl,k⟩:=h
  obtain⟨dc,nl,ll,rs,hc,hn,hls,hrs⟩:=id hC
  refine⟨_,(Jf (Jl (JtB (JsE T) (hr.mono (by decide)) JbJ (JnO T.Jvh (gL T.Jvb) (fL K (pv 1)) (fun _ _=>rfl)) (Ja (pv 0) (Ja (pv 1) Jc))))),?_⟩
  cases hcl
  ·exact⟨_,rfl,fld hc T.Jz T.Jr rfl ⟨.inl 1,_,rfl,rfl,A.YQ,JR A Jod,rfl,.h1,_,rfl,_,rfl,p,c,N,lp,op,ls,os,_,ns,rws,cc,rfl,hO,ok,hC,‹_›,k⟩⟩
  ·exact⟨_,rfl,fld hc T.Jz T.Jr rfl ⟨.inl 2,_,rfl,rfl,A.WN,JR A Jkm,rfl,.h2,_,rfl,_,rfl,p,c,N,lp,op,ls,os,_,ns,rws,cc,rfl,hO,ok,hC,‹_›,k⟩⟩
  ·exact⟨_,rfl,fld hc T.Jz T.Jr rfl ⟨.inl 3,_,rfl,rfl,A.Ud,JR A Jkk,rfl,.h3,_,rfl,_,rfl,p,c,N,lp,op,ls,os,_,ns,rws,cc,rfl,hO,ok,hC,‹_›,k⟩⟩
  ·exact⟨_,rfl,fld hc T.Jz T.Jr rfl ⟨.inl 4,_,rfl,rfl,A.UH,JR A Jkr,rfl,.h4,_,rfl,_,rfl,p,c,N,lp,op,ls,os,_,ns,rws,cc,rfl,hO,ok,hC,‹_›,k⟩⟩
  ·exact⟨_,rfl,fld hc T.Jz T.Jr rfl ⟨.inl 5,_,rfl,rfl,A.QU,JR A Jko,rfl,.h5,_,rfl,_,rfl,p,c,N,lp,op,ls,os,_,ns,rws,cc,rfl,hO,ok,hC,‹_›,k⟩⟩
  ·exact⟨_,rfl,fld hc T.Jz T.Jr rfl ⟨.inl 6,_,rfl,rfl,A.J7,JR A Jkl,rfl,.h6,_,rfl,_,rfl,p,c,N,lp,op,ls,os,_,ns,rws,cc,rfl,hO,ok,hC,‹_›,k⟩⟩
  ·exact⟨_,rfl,fld hc T.Jz T.Jr rfl ⟨.inl 7,_,rfl,rfl,A.WL,JR A Job,rfl,.h7,_,rfl,_,rfl,p,c,N,lp,op,ls,os,_,ns,rws,cc,rfl,hO,ok,hC,‹_›,k⟩⟩
  ·exact⟨_,rfl,fld hc T.Jz T.Jr rfl ⟨.inl 8,_,rfl,rfl,A.Wc,JR A Jkn,rfl,.h8,_,rfl,_,rfl,p,c,N,lp,op,ls,os,_,ns,rws,cc,rfl,hO,ok,hC,‹_›,k⟩⟩
  ·exact⟨_,rfl,fld hc T.Jz T.Jr rfl ⟨.inl 9,_,rfl,rfl,A.Ua,JR A JfX,rfl,.h9,_,rfl,_,rfl,p,c,N,lp,op,ls,os,_,ns,rws,cc,rfl,hO,ok,hC,‹_›,k⟩⟩
  ·exact⟨_,rfl,fld hc T.Jz T.Jr rfl ⟨.inl 10,_,rfl,rfl,A.Uc,JR A JdZ,rfl,.h10,_,rfl,_,rfl,p,c,N,lp,op,ls,os,_,ns,rws,cc,rfl,hO,ok,hC,‹_›,k⟩⟩
  ·exact⟨_,rfl,fld hc T.Jz T.Jr rfl ⟨.inl 11,_,rfl,rfl,A.Ub,JR A Jkp,rfl,.h11,_,rfl,_,rfl,p,c,N,lp,op,ls,os,_,ns,rws,cc,rfl,hO,ok,hC,‹_›,k⟩⟩
  ·exact⟨_,rfl,fld hc T.Jz T.Jr rfl ⟨.inl 12,_,rfl,rfl,A.Qc,JR A Jkh,rfl,.h12,_,rfl,_,rfl,p,c,N,lp,op,ls,os,_,ns,rws,cc,rfl,hO,ok,hC,‹_›,k⟩⟩
  ·exact⟨_,rfl,fld hc T.Jz T.Jr rfl ⟨.inl 13,_,rfl,rfl,A.Qs,JR A JcG,rfl,.h13,_,rfl,_,rfl,p,c,N,lp,op,ls,os,_,ns,rws,cc,rfl,hO,ok,hC,‹_›,k⟩⟩
  ·exact⟨_,rfl,fld hc T.Jz T.Jr rfl ⟨.inl 14,_,rfl,rfl,A.Wd,JR A Jkq,rfl,.h14,_,rfl,_,rfl,p,c,N,lp,op,ls,os,_,ns,rws,cc,rfl,hO,ok,hC,‹_›,k⟩⟩
  ·exact⟨_,rfl,fld hc T.Jz T.Jr rfl ⟨.inl 15,_,rfl,rfl,A.QS,JR A JrQ,rfl,.h15,_,rfl,_,rfl,p,c,N,lp,op,ls,os,_,ns,rws,cc,rfl,hO,ok,hC,‹_›,k⟩⟩
  ·exact⟨_,rfl,fld hc T.Jz T.Jr rfl ⟨.inl 16,_,rfl,rfl,A.QG,JR A Jki,rfl,.h16,_,rfl,_,rfl,p,c,N,lp,op,ls,os,_,ns,rws,cc,rfl,hO,ok,hC,‹_›,k⟩⟩
  ·exact⟨_,rfl,fld hc T.Jz T.Jr rfl ⟨.inl 17,_,rfl,rfl,A.QT,JR A Jd0,rfl,.h17,_,rfl,_,rfl,p,c,N,lp,op,ls,os,_,ns,rws,cc,rfl,hO,ok,hC,‹_›,k⟩⟩
  ·exact⟨_,rfl,fld hc T.Jz T.Jr rfl ⟨.inl 18,_,rfl,rfl,A.WM,JR A Joc,rfl,.h18,_,rfl,_,rfl,p,c,N,lp,op,ls,os,_,ns,rws,cc,rfl,hO,ok,hC,‹_›,k⟩⟩
  ·exact⟨_,rfl,fld hc T.Jz T.Jr rfl ⟨.inl 19,_,rfl,rfl,A.Wb,JR A Jkj,rfl,.h19,_,rfl,_,rfl,p,c,N,lp,op,ls,os,_,ns,rws,cc,rfl,hO,ok,hC,‹_›,k⟩⟩
end
end Zm
namespace Zm
open PySem PySem.Spec PyProof.Rows L2
noncomputable def JK:Nat→List Str
 |0=>["price","price","zones"]
 |1=>["zone","zone","room","room"]
 |2=>["zone","side","price","first amount"]
 |3=>["line","room","room"]
 |4=>["order","amount"]
 |5=>[]
 |6=>[]
 |7=>["zone"]
 |8=>[]
 |9=>[]
 |10=>[]
 |11=>[]
 |12=>["order"]
 |13=>["line"]
 |14=>[]
 |15=>["zone","price"]
 |16=>["price"]
 |17=>["price"]
 |18=>["zone"]
 |19=>[]
 |_=>[]
noncomputable def QA:Nat→List Str
 |10=>["price"]
 |11=>["share or flow","share or flow"]
 |17=>["member"]
 |_=>[]
theorem Jsk {p c:Int} {x y:Option (Nat×Nat)} {r:Nat×Nat} (h:(if p=c then x else y)=some r):p=c∨y=some r:=by
 by_cases e:p=c
 ·exact .inl e
 ·exact .inr ((if_neg e).symm.trans h)
theorem Jii {p:Int} {n k:Nat} (h:PyVbemae.shape p=some (n,k)):∃j:Nat,p=j∧j<20:=by
 suffices q:0≤p∧p<20 from⟨p.toNat,by omega,by omega⟩
 iterate 20 (rcases Jsk h with rfl|h;·decide)
 cases h
theorem JpI {j n k:Nat} (h:PyVbemae.shape (j:Int)=some (n,k)):((JK j).length=n∧j<20)∧(QA j).length=k:=by
 obtain⟨i,e,hi⟩:=Jii h
 obtain rfl:j=i:=Int.ofNat.inj e
 have q:PyVbemae.shape (j:Int)=some ((JK j).length,(QA j).length):=(by decide+kernel:∀j:Fin 20,PyVbemae.shape ((j:Nat):Int)=some ((JK j).length,(QA j).length)) ⟨j,hi⟩
 cases h.symm.trans q
 exact⟨⟨rfl,hi⟩,rfl⟩
theorem Jiu {j n k:Nat} (h:PyVbemae.shape (j:Int)=some (n,k)):(JK j).length=n∧j<20:=(JpI h).1
theorem Jiw {j n k:Nat} (h:PyVbemae.shape (j:Int)=some (n,k)):(QA j).length=k:=(JpI h).2
noncomputable def JjE (K:PySem.W.Frag):Sp:=fun vs H Q _=>∃j:Nat,vs=[.int j]∧j<20∧∀t,(∀H',SqT K H' t ((JK j).map V.str))→Q (.ref t) H
section
variable {P:Program} {w:World} {K:PySem.W.Frag} {mg:Str→Option Value} {base:Heap} {A:Adr}
theorem JtF (T:Txt w K mg A) {j:Nat} (hj:j<20):∃t,[V.ref A.JaM,V.ref A.JaL,V.ref A.JaK,V.ref A.JaJ,V.ref A.JaI,V.ref A.JaH,V.ref A.JaG,V.ref A.JaF,V.ref A.JaE,V.ref A.JaD,V.ref A.Vq,V.ref A.Vp,V.ref A.Vo,V.ref A.Vn,V.ref A.Vm,V.ref A.Vl,V.ref A.Vk,V.ref A.Vj,V.ref A.Vi,V.ref A.Vh][j]? =some (V.ref t)∧UV K t ((JK j).map V.str):=by
 match j,hj with
 |0,_=>exact⟨_,rfl,T.Jo4⟩
 |1,_=>exact⟨_,rfl,T.Jo3⟩
 |2,_=>exact⟨_,rfl,T.Jo2⟩
 |3,_=>exact⟨_,rfl,T.Jo1⟩
 |4,_=>exact⟨_,rfl,T.Jo0⟩
 |5,_=>exact⟨_,rfl,T.JoZ⟩
 |6,_=>exact⟨_,rfl,T.JoY⟩
 |7,_=>exact⟨_,rfl,T.JoX⟩
 |8,_=>exact⟨_,rfl,T.JoW⟩
 |9,_=>exact⟨_,rfl,T.JoV⟩
 |10,_=>exact⟨_,rfl,T.JnI⟩
 |11,_=>exact⟨_,rfl,T.JnH⟩
 |12,_=>exact⟨_,rfl,T.JnG⟩
 |13,_=>exact⟨_,rfl,T.JnF⟩
 |14,_=>exact⟨_,rfl,T.JnE⟩
 |15,_=>exact⟨_,rfl,T.JnD⟩
 |16,_=>exact⟨_,rfl,T.JnC⟩
 |17,_=>exact⟨_,rfl,T.JnB⟩
 |18,_=>exact⟨_,rfl,T.JnA⟩
 |19,_=>exact⟨_,rfl,T.Jnz⟩
 |j+20,hj=>omega
noncomputable def JoL:Sp:=fun vs H Q _=>∃j:Nat,vs=[.int j]∧j<20∧Q (.bl true) H
theorem Jjj (T:Txt w K mg A):JF P w K mg base CX0 1 A.Jd7 A.JcB ["place"] JoL:=by
 refine T.Jhg.F.ok JoQ (fun vs H Q E h=>?_) (fun cdv AA outer s H vs Q E hr h=>?_)
 ·obtain⟨j,rfl,_⟩:=h
  rfl
 ·obtain⟨j,rfl,hj,k⟩:=h
  refine⟨_,(Jf (Jl (JeX JbK Jjg Jm (pv 0) (lN K T.Q9 (Ja (gL T.JmW) Jc))))),?_⟩
  refine⟨_,rfl,_,_,rfl,rfl,_,rfl,Jg3 (decide_eq_true (by omega)) ?_⟩
  refine⟨A.Jbx,_,rfl,.inr T.JmH.sq,_,_,rfl,rfl,?_⟩
  have e:decide ((j:Int)<((20:Nat):Int))=true:=decide_eq_true (by omega)
  have:=k
  rw[←e] at this
  exact this
theorem Jev (T:Txt w K mg A):JF P w K mg base CX0 2 A.VG A.Yz ["place"] (JjE K):=by
 refine T.Jce.F.ok JjJ (fun vs H Q E h=>?_) (fun cdv AA outer s H vs Q E hr h=>?_)
 ·obtain⟨j,rfl,_⟩:=h
  rfl
 ·obtain⟨j,rfl,hj,k⟩:=h
  obtain⟨t,ht,hT⟩:=JtF T hj
  refine⟨_,(Jf (Jl (Jdo (VY (cL (Jjj T) hr T.Jhg (Ja (pv 0) Jc))) (iT K (gL T.JmW) (pv 0)) (Jk2 Jc)))),?_⟩
  refine⟨_,rfl,j,rfl,hj,_,rfl,Jg3 rfl ?_⟩
  exact⟨_,rfl,A.Jbx,_,_,_,rfl,rfl,T.JmH.sq,Jp ht,k t fun H'=>hT.sq⟩
theorem Jlk (j:Nat):(QA j).length≤2:=by
 unfold QA
 split<;>decide
noncomputable def JlY (K:PySem.W.Frag):Sp:=fun vs H Q _=>∃j:Nat,vs=[.int j]∧j<20∧∀t H',Jg H H'→SqT K H' t ((QA j).map V.str)→Q (.ref t) H'
theorem Jgp (T:Txt w K mg A):JF P w K mg base CX0 1 A.Jbo A.Jaf ["place"] (JlY K):=by
 refine T.Jei.F.ok Jl7 (fun vs H Q E h=>?_) (fun cdv AA outer s H vs Q E hr h=>?_)
 ·obtain⟨j,rfl,_⟩:=h
  rfl
 ·obtain⟨j,rfl,hj,k⟩:=h
  refine⟨_,(Jf (Jl (JtA T.Jvg (gL T.Jva) (pv 0) (Jk2 Jc) ⟨rfl,rfl,rfl,rfl⟩))),?_⟩
  refine⟨_,rfl,Nat.zero_le _,fun t0 n0=>⟨.inl j,rfl,?_⟩⟩
  have s0:=Jj (o:=.tup []) n0
  have e0:SqT K (upd H t0 (.tup [])) t0 []:=SqT.of Jb
  match j,hj with
  |0,_=>exact k _ _ s0 e0
  |1,_=>exact k _ _ s0 e0
  |2,_=>exact k _ _ s0 e0
  |3,_=>exact k _ _ s0 e0
  |4,_=>exact k _ _ s0 e0
  |5,_=>exact k _ _ s0 e0
  |6,_=>exact k _ _ s0 e0
  |7,_=>exact k _ _ s0 e0
  |8,_=>exact k _ _ s0 e0
  |9,_=>exact k _ _ s0 e0
  |10,_=>exact k _ _ s0 T.Jso.sq
  |11,_=>exact k _ _ s0 T.Jsn.sq
  |12,_=>exact k _ _ s0 e0
  |13,_=>exact k _ _ s0 e0
  |14,_=>exact k _ _ s0 e0
  |15,_=>exact k _ _ s0 e0
  |16,_=>exact k _ _ s0 e0
  |17,_=>exact k _ _ s0 T.Jsm.sq
  |18,_=>exact k _ _ s0 e0
  |19,_=>exact k _ _ s0 e0
  |j+20,hj=>omega
end
end Zm
namespace Zm
open PySem PySem.Spec PyProof.Rows L2
noncomputable def Jco:List (Str×Int×Int):=[("price",-1000000,1000000),("zones",1,6),("zone",0,5),("side",0,1),("room",0,1000000000),("first amount",1,1000000000),("amount",0,1000000000),("line",0,11),("order",0,39),("share or flow",-2000000000,2000000000),("member",0,1)]
noncomputable def JnL (s:Str):Option (Int×Int):=Jco.lookup s
noncomputable def Ys (a:Str×Int):Bool:=match JnL a.1 with
 |some r=>Vbemae.within a.2 r.1 r.2
 |none=>true
noncomputable def J2 (names:List Str) (ns:List Int):Bool:=(names.zip ns).all Ys
theorem Jpn {j:Nat} (hj:j<20):∀s∈JK j,s∈Jco.map (·.1):=(by decide+kernel:∀j:Fin 20,∀s∈JK j,s∈Jco.map (·.1)) ⟨j,hj⟩
section
variable {P:Program} {w:World} {K:PySem.W.Frag} {mg:Str→Option Value} {base:Heap} {A:Adr}
theorem Jts (T:Txt w K mg A) {s:Str} (h:s∈Jco.map (·.1)):∃t lo hi,Jni (κ:=Key) [(.inr "price",V.ref A.Jb2),(.inr "zones",V.ref A.Jb1),(.inr "zone",V.ref A.Jb0),(.inr "side",V.ref A.JbZ),(.inr "room",V.ref A.JbY),(.inr "first amount",V.ref A.JbX),(.inr "amount",V.ref A.JbW),(.inr "line",V.ref A.JbV),(.inr "order",V.ref A.JbU),(.inr "share or flow",V.ref A.JbT),(.inr "member",V.ref A.JaC)] (.inr s)=some (V.ref t)∧UV K t [V.int lo,V.int hi]∧JnL s=some (lo,hi):=by
 simp only[Jco,List.map_cons,List.map_nil,List.mem_cons,List.not_mem_nil,or_false] at h
 rcases h with rfl|rfl|rfl|rfl|rfl|rfl|rfl|rfl|rfl|rfl|rfl
 ·exact⟨_,_,_,rfl,T.Jqp,rfl⟩
 ·exact⟨_,_,_,rfl,T.Jqo,rfl⟩
 ·exact⟨_,_,_,rfl,T.Jqn,rfl⟩
 ·exact⟨_,_,_,rfl,T.Jqm,rfl⟩
 ·exact⟨_,_,_,rfl,T.Jql,rfl⟩
 ·exact⟨_,_,_,rfl,T.Jqk,rfl⟩
 ·exact⟨_,_,_,rfl,T.Jqj,rfl⟩
 ·exact⟨_,_,_,rfl,T.Jqi,rfl⟩
 ·exact⟨_,_,_,rfl,T.Jqh,rfl⟩
 ·exact⟨_,_,_,rfl,T.Jqg,rfl⟩
 ·exact⟨_,_,_,rfl,T.JoU,rfl⟩
theorem Jro {l:List Str} {i:Nat} {v:V} (h:(l.map V.str)[i]? =some v):∃s,l[i]? =some s∧v=.str s:=by
 rw[List.getElem?_map] at h
 cases e:l[i]? with
 |none=>rw[e] at h;cases h
 |some s=>rw[e] at h;exact⟨s,rfl,(Option.some.inj h).symm⟩
theorem Jpr {j:Nat}:∀s∈QA j,s∈Jco.map (·.1):=by
 unfold QA
 split<;>decide+kernel
noncomputable def Jix (a:Str×List Int):Bool:=decide (a.2.length≤64)&&a.2.all fun v=>Ys (a.1,v)
noncomputable def Jn0 (names:List Str) (rws:List (List Int)):Bool:=(names.zip rws).all Jix
noncomputable def JoK:Sp:=fun vs H Q _=>∃(s:Str) (v:Int),vs=[.str s,.int v]∧s∈Jco.map (·.1)∧Q (.bl (Ys (s,v))) H
noncomputable def JjF:Sp:=fun vs H Q _=>∃(s:Str) (r:Addr) (xs:List Int),vs=[.str s,.ref r]∧s∈Jco.map (·.1)∧H r=some (.lst (xs.map V.int))∧∀H',Jg H H'→Q (.bl (Jix (s,xs))) H'
noncomputable def Jqb (A:Adr):Sp:=fun vs H Q _=>∃(c:Addr) (j:Nat) (ns:List Int) (rws:List (List Int)),vs=[.ref c]∧Jhi A H c j ns rws∧j<20∧(JK j).length=ns.length∧(QA j).length=rws.length∧
 ∀H',Jg H H'→Q (.bl (J2 (JK j) ns&&Jn0 (QA j) rws)) H'
theorem Jji (T:Txt w K mg A):JF P w K mg base CX0 1 A.Jd6 A.JcA ["name","number"] JoK:=by
 refine T.Jhf.F.ok JoP (fun vs H Q E h=>?_) (fun cdv AA outer s H vs Q E hr h=>?_)
 ·obtain⟨s,v,rfl,_⟩:=h
  rfl
 ·obtain⟨nm,v,rfl,hk,k⟩:=h
  obtain⟨tt,lo,hi,hval,hTT,hrg⟩:=Jts T hk
  have eR:Ys (nm,v)=(decide (lo≤v)&&decide (v≤hi)):=by unfold Ys;rw[hrg];rfl
  rw[eR] at k
  refine⟨_,(Jf (Jl (JeX JbK JbK (iT K (JnO T.JpE (gL T.JpC) (pv 0) (fun _ _=>rfl)) Jm) (pv 1) (iT K (JnO T.JpE (gL T.JpC) (pv 0) (fun _ _=>rfl)) Jm)))),?_⟩
  refine⟨_,rfl,.inr nm,.ref tt,rfl,hval,tt,_,_,_,rfl,rfl,hTT.sq,Jp (j:=0) rfl,_,rfl,_,_,rfl,rfl,_,rfl,J4 (fun h1=>?_) (fun h1=>?_)⟩
  ·rw[h1] at k
   exact⟨_,rfl,.inr nm,.ref tt,rfl,hval,tt,_,_,_,rfl,rfl,hTT.sq,Jp (j:=1) rfl,_,_,rfl,rfl,k⟩
  ·rw[h1] at k
   exact k
theorem JjR (T:Txt w K mg A):JF P w K mg base CX0 2 A.VH A.YA ["name","numbers"] JjF:=by
 refine T.Jfx.F.ok JaX (fun vs H Q E h=>?_) (fun cdv AA outer s H vs Q E hr h=>?_)
 ·obtain⟨s,r,xs,rfl,_⟩:=h
  rfl
 ·obtain⟨nm,r,xs,rfl,hk,hr0,k⟩:=h
  unfold Jix at k
  refine⟨_,(Jf (Jl (Jqv (JnP JbK (lN K T.Q9 (Ja (pv 1) Jc)) (gL T.Jlq) (JJ _)) (Jtx (JV (Jdy K rfl rfl) (by rfl) T.Jlz PyProof.Rows.boot_all (Ja (WH rfl JaX.nd (Qi (pv 1)) (own:=[("number",2)]) (lK Jfl (Je JbF) (by decide+kernel)) (fun _ _ _ _ _=>(gA 2 JaX.nd)) (fun _ _ _ _ _=>Qo) (fun _ _ _ _ _=>(cL (Jji T) hr T.Jhf (Ja (pv 0) (Ja (pv 2) Jc))))) Jc)))))),?_⟩
  refine⟨_,rfl,r,_,rfl,.inl (SqL.of hr0),_,_,rfl,rfl,_,rfl,J4 (fun h1=>?_) (fun h1=>?_)⟩
  ·have h64:xs.length≤64:=by have:=of_decide_eq_true h1;rw[List.length_map] at this;omega
   have hz:(xs.map V.int).length≤sizeLine:=by rw[List.length_map];exact Nat.le_trans h64 (by decide)
   refine⟨_,rfl,r,rfl,⟨_,SqL.of hr0⟩,fun D nD=>?_⟩
   refine UQ (fun j=>(xs[j]?).map fun v=>V.bl (Ys (nm,v))) (xs.map V.int).length (Itl K r) nD hz (Ye (SqL.of hr0)) (QW (SqL.of hr0)) ?_ ?_
   ·intro j x H5 H6 hj s5 hD5 y
    obtain⟨rfl,y⟩:=y
    obtain⟨v,hv,rfl⟩:=int_at (y _ (SqL.of (s5 _ _ hr0)))
    exact⟨rfl,_,rfl,_,rfl,nm,v,rfl,hk,J8 (i:=j) nD (Nat.lt_of_lt_of_le hj hz) s5 hD5 (by rw[hv];rfl)⟩
   ·intro H1 s1 hD1
    have e1:(List.range (xs.map V.int).length).filterMap (fun j=>(xs[j]?).map fun v=>V.bl (Ys (nm,v)))=(xs.map fun v=>Ys (nm,v)).map V.bl:=by
     rw[List.length_map,List.map_map];exact UR _ _ _ fun i x hx=>by rw[hx];rfl
    rw[e1] at hD1
    refine⟨D,_,rfl,SqL.of hD1,?_⟩
    have:=k H1 s1
    rw[decide_eq_true (show(nm,xs).2.length≤64 from h64),Bool.true_and] at this
    rw[List.all_map]
    exact this
  ·have h64:¬xs.length≤64:=by have:=of_decide_eq_false h1;rw[List.length_map] at this;omega
   have:=k H (Jg.refl H)
   rw[decide_eq_false (show¬(nm,xs).2.length≤64 from h64),Bool.false_and] at this
   exact this
theorem Jqx (T:Txt w K mg A):JF P w K mg base CX0 3 A.JfZ A.JdW ["call"] (Jqb A):=by
 refine T.Jnf.F.ok YL (fun vs H Q E h=>?_) (fun cdv AA outer s H vs Q E hr h=>?_)
 ·obtain⟨c,j,ns,rws,rfl,_⟩:=h
  rfl
 ·obtain⟨c,j,ns,rws,rfl,hC,hj,hlen,hlen2,k⟩:=h
  obtain⟨dc,nl,ll,rs,hc,hn,hls,hrs⟩:=hC
  have nl4:(JK j).length≤4:=(by decide+kernel:∀j:Fin 20,(JK j).length≤4) ⟨j,hj⟩
  have ll2:=Jlk j
  refine⟨_,(Jd (JaA (i:=1) rfl YL.nd rfl rfl rfl (Uu ZZ.Knd.tup ZZ.Knd.lst K rfl (by rfl) T.WK (Ja (cL (Jev T) hr T.Jce (Ja (fL K (pv 0)) Jc)) (Ja (fL K (pv 0)) Jc))) (own:=[("name",3),("number",4)]) (lK JiT (Je JfM) (by decide+kernel)) (fun _ _ _ _ _=>(gB K (Jx (gA 3 YL.nd) (Jx (gA 4 YL.nd) QQ)))) (fun _ _ _ _ _=>Qo) (fun _ _ _ _ _=>(cL (Jji T) hr T.Jhf (Ja (pv 3) (Ja (pv 4) Jc)))))
   (Jd (JaA (i:=2) rfl YL.nd rfl rfl rfl (Uu ZZ.Knd.tup ZZ.Knd.lst K rfl (by rfl) T.WK (Ja (cL (Jgp T) hr T.Jei (Ja (fL K (pv 0)) Jc)) (Ja (fL K (pv 0)) Jc))) (own:=[("name",3),("each",5)]) (lK JiT (Je JfM) (by decide+kernel)) (fun _ _ _ _ _=>(gB K (Jx (gA 3 YL.nd) (Jx (gA 5 YL.nd) QQ)))) (fun _ _ _ _ _=>Qo) (fun _ _ _ _ _=>(cL (JjR T) hr T.Jfx (Ja (pv 3) (Ja (pv 5) Jc)))))
   (Jf (Jl (Jqv (cL (Jjj T) hr T.Jhg (Ja (fL K (pv 0)) Jc)) (Jqv (JV (Jdy K rfl rfl) (by rfl) T.Jlz PyProof.Rows.boot_all (Ja (pv 1) Jc)) (Jtx (JV (Jdy K rfl rfl) (by rfl) T.Jlz PyProof.Rows.boot_all (Ja (pv 2) Jc))))))))),?_⟩
  refine⟨_,rfl,fld hc T.Jz T.Jr rfl ⟨j,rfl,hj,fun t ht=>?_⟩⟩
  have hl:((JK j).map V.str).length=(ns.map V.int).length:=by rw[List.length_map,List.length_map,hlen]
  have hz:((JK j).map V.str).length≤sizeLine:=by rw[List.length_map];exact Nat.le_trans nl4 (by decide)
  refine⟨_,rfl,fld hc T.Jz T.Jo rfl ⟨t,nl,_,_,rfl,ht H,SqL.of hn,fun D1 n1=>?_⟩⟩
  refine UQ (fun i=>((JK j)[i]?).bind fun s=>(ns[i]?).map fun v=>V.bl (Ys (s,v))) ((JK j).map V.str).length (Jec .tup .lst K t nl) n1 hz (Yr (k:=.tup) (k':=.lst) (ht H) (SqL.of hn) hl) (Ut (k:=.tup) (k':=.lst) (ht H) (SqL.of hn)) ?_ ?_
  ·intro i x H5 H6 hi s5 hD5 y
   obtain⟨T2,a,b,rfl,hT2,rfl,ha,hb⟩:=y
   obtain⟨nm,hnm,rfl⟩:=Jro (ha _ (ht H5))
   obtain⟨v,hv,rfl⟩:=int_at (hb _ (SqL.of (s5 _ _ hn)))
   have s6:=Jk (o:=.tup [.str nm,.int v]) s5 (Jg.free s5 hT2)
   have hD6:(upd H5 T2 (.tup [.str nm,.int v])) D1=_:=(Jh (Jn hD5 hT2)).trans hD5
   refine⟨T2,_,rfl,SqT.of Jb,rfl,_,_,rfl,_,_,rfl,rfl,rfl,?_⟩
   exact⟨_,rfl,_,rfl,nm,v,rfl,Jpn hj nm (List.mem_of_getElem? hnm),J8 (i:=i) n1 (Nat.lt_of_lt_of_le hi hz) s6 hD6 (by rw[hnm,hv];rfl)⟩
  ·intro H1 s1 hD1
   rw[List.length_map,JiG (fun s v=>Ys (s,v)) V.bl _ _ _ hlen (fun i x y hx hy=>by rw[hx,hy];rfl)] at hD1
   refine⟨_,rfl,fld (s1 _ _ hc) T.Jz T.Jr rfl ⟨j,rfl,hj,fun t2 H2 s2 ht2=>?_⟩⟩
   have s12:=s1.trans s2
   have hll:=s12 _ _ hls
   have hl2:((QA j).map V.str).length=(rs.map V.ref).length:=by rw[List.length_map,List.length_map,hlen2,hrs.len]
   have hz2:((QA j).map V.str).length≤sizeLine:=by rw[List.length_map];exact Nat.le_trans ll2 (by decide)
   refine⟨_,rfl,fld (s12 _ _ hc) T.Jz T.Wl rfl ⟨t2,ll,_,_,rfl,ht2,SqL.of hll,fun D2 n2=>?_⟩⟩
   refine UQ (fun i=>((QA j)[i]?).bind fun s=>(rws[i]?).map fun v=>V.bl (Jix (s,v))) ((QA j).map V.str).length (Jec .tup .lst K t2 ll) n2 hz2 (Yr (k:=.tup) (k':=.lst) ht2 (SqL.of hll) hl2) (Ut (k:=.tup) (k':=.lst) ht2 (SqL.of hll)) ?_ ?_
   ·intro i x H5 H6 hi s5 hD5 y
    obtain⟨T2,a,b,rfl,hT2,rfl,ha,hb⟩:=y
    obtain⟨nm,hnm,rfl⟩:=Jro (ha _ (Jg.seqT s5 ht2))
    obtain⟨r,hr',rfl⟩:=J1 (hb _ (SqL.of (s5 _ _ hll)))
    obtain⟨xs,hxs,hrx⟩:=hrs.get hr'
    have s6:=Jk (o:=.tup [.str nm,.ref r]) s5 (Jg.free s5 hT2)
    have hD6:(upd H5 T2 (.tup [.str nm,.ref r])) D2=_:=(Jh (Jn hD5 hT2)).trans hD5
    refine⟨T2,_,rfl,SqT.of Jb,rfl,_,_,rfl,_,_,rfl,rfl,rfl,?_⟩
    exact⟨_,rfl,_,rfl,nm,r,xs,rfl,Jpr nm (List.mem_of_getElem? hnm),s6 _ _ (s12 _ _ hrx),fun H7 s7=>J8 (i:=i) n2 (Nat.lt_of_lt_of_le hi hz2) (s6.trans s7) (s7 _ _ hD6) (by rw[hnm,hxs];rfl)⟩
   ·intro H3 s3 hD2
    rw[List.length_map,JiG (fun s v=>Jix (s,v)) V.bl _ _ _ hlen2 (fun i x y hx hy=>by rw[hx,hy];rfl)] at hD2
    have s13:=s12.trans s3
    have hD1':=s3 _ _ (s2 _ _ hD1)
    have e1:(List.zipWith (fun s v=>Ys (s,v)) (JK j) ns).all id=J2 (JK j) ns:=JcH _ _ _
    have e2:(List.zipWith (fun s v=>Jix (s,v)) (QA j) rws).all id=Jn0 (QA j) rws:=JcH _ _ _
    have:=k H3 s13
    refine⟨_,rfl,fld (s13 _ _ hc) T.Jz T.Jr rfl ⟨j,rfl,hj,_,rfl,Jg3 rfl ?_⟩⟩
    refine⟨_,rfl,D1,_,rfl,SqL.of hD1',_,rfl,J4 (fun h1=>?_) (fun h1=>?_)⟩
    ·rw[←e1,h1,Bool.true_and] at this
     refine⟨_,rfl,D2,_,rfl,SqL.of hD2,?_⟩
     rw[e2]
     exact this
    ·rw[←e1,h1,Bool.false_and] at this
     exact this
end
end Zm
namespace Zm
open PySem PySem.Spec PyProof.Rows L2
theorem Jvo {N:Vbemae.Net} (L:Jmu N) (k:Vbemae.Call):(Vbemae.onNet N k).2.length≤300:=by
 have z6:=L.ok.z6
 have l12:=L.ok.l12
 have o40:=L.o40
 have c:=UG L.ok
 have c1:=c.pl
 have c2:=c.sl
 have c3:=c.fl
 have e1:=Jll N
 have e2:=Jgs N
 have e3:=JfN c
 have e4:=JiN (y:=(Vbemae.cleared N).flows) L.ok.ok
 cases k with
 |clear=>simp only[Vbemae.onNet,List.length_cons,List.length_append,Qn];omega
 |range=>simp only[Vbemae.onNet,List.length_cons,List.length_append,Qn];omega
 |money=>simp only[Vbemae.onNet,List.length_cons,List.length_append,Qn];omega
 |areas=>simp only[Vbemae.onNet,List.length_cons,List.length_append,Qn,Vbemae.nats,List.length_map];omega
 |tight t=>simp only[Vbemae.onNet,List.length_cons,List.length_append,Qn,Je5];omega
 |state=>
  simp only[Vbemae.onNet,List.length_cons,List.length_append,Qn]
  rw[Jfa _ (fun _=>rfl),Jfa _ (fun _=>rfl)];omega
 |check x y=>
  simp only[Vbemae.onNet]
  split
  ·simp
  ·split
   ·simp
   ·simp[JiY]
 |line a b f g=>simp only[Vbemae.onNet];split;simp;split<;>simp
 |order o=>simp only[Vbemae.onNet];split;simp;split;simp;split<;>simp
 |rooms l f g=>simp only[Vbemae.onNet];split<;>simp
 |amend l q=>simp only[Vbemae.onNet];split<;>simp
 |zone z=>simp only[Vbemae.onNet];split<;>simp
 |supports p=>simp only[Vbemae.onNet];split<;>simp
 |worth i=>simp only[Vbemae.onNet];split<;>simp
 |lineWorth i=>simp only[Vbemae.onNet];split<;>simp
 |net z q=>simp only[Vbemae.onNet];split<;>simp
 |shortage t x=>simp only[Vbemae.onNet];split<;>simp
 |unit z=>simp only[Vbemae.onNet];split<;>simp
 |open_ lo hi n=>simp[Vbemae.onNet]
 |welfare=>simp[Vbemae.onNet]
theorem Jtl {st:Vbemae.State} (L:∀N,st.net=some N→Jmu N) (c:List (List Int)):(Vbemae.stepNumbers st c).2.length≤300:=by
 unfold Vbemae.stepNumbers
 split
 ·rename_i k _
  unfold Vbemae.step
  split
  ·simp
  ·simp
  ·exact Jvo (L _ (by assumption)) _
 ·simp
theorem Jhd.live {A:Adr} {H:Hp} {m:Addr} {st:Vbemae.State} {F:List Addr} (h:Jhd A H m st F):∀N,st.net=some N→Jmu N:=fun N e=>by
 rcases h with⟨h1,_⟩|⟨N',p,lp,op,ls,os,dx,h1,h2,_⟩
 ·rw[h1] at e;cases e
 ·rw[h1] at e;rw[←Option.some.inj e];exact h2
noncomputable def Jq1 (c:List (List Int)):Prop:=∃p ns xs n k,c=(p::ns)::xs∧PyVbemae.shape p=some (n,k)∧ns.length=n∧xs.length=k
theorem JiV.shaped:∀(d:Nat) {l:List Int} {i:Nat} {cs:List (List (List Int))},l.length-i≤d→JiV l i cs→∀c∈cs,Jq1 c
 |d,l,i,cs,hd,h=>fun c hc=>by
  rcases Nat.lt_or_ge i l.length with hi|hi
  ·obtain⟨p,n,k,xs,cs',h1,h2,h3,h4,h5,h6,h7⟩:=h.step hi
   subst h6
   rcases List.mem_cons.mp hc with rfl|hc
   ·exact⟨p,_,xs,n,k,rfl,h2,by rw[List.length_take,List.length_drop];omega,(Jdl h4).1⟩
   ·match d,hd with
    |0,hd=>omega
    |d+1,hd=>exact JiV.shaped d (by omega) h7 c hc
  ·rw[h.done hi] at hc;cases hc
noncomputable def Jox (A:Adr) (H:Hp) (c:Addr) (call:List (List Int)):Prop:=∃p ns xs,call=(p::ns)::xs∧Jhi A H c p ns xs
noncomputable def JlV (K:PySem.W.Frag) (A:Adr):Sp:=fun vs H Q _=>∃(a:Addr) (ns:List Int) (cs:List (List (List Int))),vs=[.ref a]∧SqL K H a (ns.map V.int)∧ns.length≤16000∧JiV ns 0 cs∧cs.length≤200∧
 ∀l H' as,Jg H H'→H l=none→H' l=some (.lst (as.map V.ref))→Q5 (fun c call=>∀H'':Hp,(∀b o,H b=none→H' b=some o→H'' b=some o)→Jox A H'' c call) as cs→Q (.ref l) H'
noncomputable def Jih (A:Adr):Sp:=fun vs H Q _=>∃(m c:Addr) (st:Vbemae.State) (F:List Addr) (call:List (List Int)),vs=[.ref m,.ref c]∧Jhd A H m st F∧Jox A H c call∧Jq1 call∧
 MkQ A H m F (Vbemae.stepNumbers st call).1 (Vbemae.stepNumbers st call).2 Q
noncomputable def JgN (K:PySem.W.Frag):Sp:=fun vs H Q _=>∃(a:Addr) (ns:List Int),vs=[.ref a]∧SqL K H a (ns.map V.int)∧ns.length≤16000∧PyVbemae.answers_asked ns=true∧∀(H':Hp) (p:Addr),H' p=some (.lst ((PyVbemae.answers ns).map V.int))→Q (.ref p) H'
theorem SqL.same {K:PySem.W.Frag} {H H':Hp} {a:Addr} {xs:List V} (s:Jg H H') (h:SqL K H a xs):SqL K H' a xs:=by
 rcases h with h|h
 ·rcases h with h|⟨o,h⟩
  ·exact .inl (.inl (s _ _ h))
  ·exact .inl (.inr ⟨o,s _ _ h⟩)
 ·exact .inr h
theorem Jhd.congr {A:Adr} {H H':Hp} {m:Addr} {st:Vbemae.State} {F:List Addr} (h:Jhd A H m st F) (e:∀b,b=m∨b∈F→H' b=H b):Jhd A H' m st F:=by
 rcases h with⟨h1,h2,dx,h3⟩|⟨N,p,lp,op,ls,os,dx,h1,h2,h3,h4,rfl⟩
 ·exact .inl ⟨h1,h2,dx,(e m (.inl rfl)).trans h3⟩
 ·have f:∀{b o},b∈p::lp::op::(ls++os)→H b=some o→H' b=some o:=fun {b o} hb q=>(e b (.inr hb)).trans q
  obtain⟨dn,hn⟩:=h4.at_.net
  refine .inr ⟨N,p,lp,op,ls,os,dx,h1,h2,(e m (.inl rfl)).trans h3,⟨⟨⟨dn,f (by simp) hn⟩,f (by simp) h4.at_.lls,f (by simp) h4.at_.los,⟨h4.at_.ln.len,fun i x y hx hy=>?_⟩,⟨h4.at_.od.len,fun i x y hx hy=>?_⟩⟩,h4.nl,h4.no,h4.ne⟩,rfl⟩
  ·obtain⟨d,q⟩:=h4.at_.ln.at_ i x y hx hy
   exact⟨d,f (by have:=List.mem_of_getElem? hx;simp[this]) q⟩
  ·obtain⟨d,q⟩:=h4.at_.od.at_ i x y hx hy
   exact⟨d,f (by have:=List.mem_of_getElem? hx;simp[this]) q⟩
noncomputable def Jif (cs:List (List (List Int))) (i:Nat):List Int:=PyFlat.told (PyFlat.played VbemaeNeutral.step VbemaeNeutral.start (cs.take i))
noncomputable def Jsb (cs:List (List (List Int))) (i:Nat):Vbemae.State:=run VbemaeNeutral.step VbemaeNeutral.start (cs.take i)
theorem JmB {cs:List (List (List Int))} {i:Nat} {c:List (List Int)} (h:cs[i]? =some c):cs.take (i+1)=cs.take i++[c]:=by
 obtain⟨h1,rfl⟩:=List.getElem?_eq_some_iff.mp h
 exact List.take_succ_eq_append_getElem h1
theorem Ji0 {cs:List (List (List Int))} {i:Nat} {c:List (List Int)} (h:cs[i]? =some c):Jif cs (i+1)=Jif cs i++(((Vbemae.stepNumbers (Jsb cs i) c).2.length:Int)::(Vbemae.stepNumbers (Jsb cs i) c).2):=by
 unfold Jif
 rw[JmB h,Jje,Jr6];rfl
theorem Jsa {cs:List (List (List Int))} {i:Nat} {c:List (List Int)} (h:cs[i]? =some c):Jsb cs (i+1)=(Vbemae.stepNumbers (Jsb cs i) c).1:=by
 unfold Jsb
 rw[JmB h,Jtm];rfl
end Zm
namespace Zm
open Vbemae
theorem dw1 {a:Bool} {x:Call}:when_ a x=if(a&&true)=true then some x else none:=by rw[Bool.and_true];rfl
theorem dw2 {a b:Bool} {x:Call}:when_ (a&&b) x=if(a&&(b&&true))=true then some x else none:=by rw[Bool.and_true];rfl
theorem dw3 {a b c:Bool} {x:Call}:when_ (a&&(b&&c)) x=if(a&&(b&&(c&&true)))=true then some x else none:=by rw[Bool.and_true];rfl
theorem dw4 {a b c d:Bool} {x:Call}:when_ (a&&(b&&(c&&d))) x=if(a&&(b&&(c&&(d&&true))))=true then some x else none:=by rw[Bool.and_true];rfl
theorem JvJ (a b f g:Int):decode [1::[a,b,f,g]]=if J2 (JK 1) [a,b,f,g]=true then some (.line a.toNat b.toNat f g) else none:=dw4
theorem JvI (z s q r:Int):decode [2::[z,s,q,r]]=if J2 (JK 2) [z,s,q,r]=true then some (.order ⟨z.toNat,s==1,q,r⟩) else none:=dw4
theorem JvH (l f g:Int):decode [3::[l,f,g]]=if J2 (JK 3) [l,f,g]=true then some (.rooms l.toNat f g) else none:=dw3
theorem JvG (k q:Int):decode [4::[k,q]]=if J2 (JK 4) [k,q]=true then some (.amend k.toNat q) else none:=dw2
theorem JvF (z:Int):decode [7::[z]]=if J2 (JK 7) [z]=true then some (.zone z.toNat) else none:=dw1
theorem Jt8 (k:Int):decode [12::[k]]=if J2 (JK 12) [k]=true then some (.worth k.toNat) else none:=dw1
theorem Jt7 (l:Int):decode [13::[l]]=if J2 (JK 13) [l]=true then some (.lineWorth l.toNat) else none:=dw1
theorem Jt6 (z q:Int):decode [15::[z,q]]=if J2 (JK 15) [z,q]=true then some (.net z.toNat q) else none:=dw2
theorem Jt5 (t:Int):decode [16::[t]]=if J2 (JK 16) [t]=true then some (.tight t) else none:=dw1
theorem Jt3 (z:Int):decode [18::[z]]=if J2 (JK 18) [z]=true then some (.unit z.toNat) else none:=dw1
theorem Jw9:decode [[5]]=some .clear:=rfl
theorem Jw8:decode [[6]]=some .range:=rfl
theorem Jw7:decode [[8]]=some .money:=rfl
theorem Jw6:decode [[9]]=some .welfare:=rfl
theorem Jwq:decode [[14]]=some .areas:=rfl
theorem Jwp:decode [[19]]=some .state:=rfl
theorem Jub (lo hi n:Int):decode [[0,lo,hi,n]]=if J2 (JK 0) [lo,hi,n]=true∧lo≤hi then some (.open_ lo hi n.toNat) else none:=by
 have e:J2 (JK 0) [lo,hi,n]=(within lo (-1000000) 1000000&&(within hi (-1000000) 1000000&&(within n 1 6&&true))):=rfl
 show when_ (within lo (-1000000) 1000000&&(within hi (-1000000) 1000000&&(decide (lo≤hi)&&within n 1 6))) _=_
 rw[e]
 unfold when_
 by_cases h:lo≤hi
 ·simp[h]
 ·simp[h]
theorem Jua (p:List Int):decode [[10],p]=if p.length≤64∧(p.all fun a=>within a (-1000000) 1000000)=true then some (.supports p) else none:=by
 show when_ (decide (p.length≤64)&&Vbemae.all p (-1000000) 1000000) _=_
 unfold when_ Vbemae.all
 simp
theorem Jt9 (x y:List Int):decode [[11],x,y]=if(x.length≤64∧y.length≤64)∧(x.all fun a=>within a (-2000000000) 2000000000)=true∧(y.all fun a=>within a (-2000000000) 2000000000)=true then some (.check x y) else none:=by
 show when_ (decide (x.length≤64)&&(decide (y.length≤64)&&(Vbemae.all x (-2000000000) 2000000000&&Vbemae.all y (-2000000000) 2000000000))) _=_
 unfold when_ Vbemae.all
 simp[and_assoc]
theorem Jt4 (t:Int) (g:List Int):decode [[17,t],g]=if J2 (JK 17) [t]=true∧g.length≤64∧(g.all fun a=>within a 0 1)=true then some (.shortage t g) else none:=by
 have e:J2 (JK 17) [t]=(within t (-1000000) 1000000&&true):=rfl
 show when_ (within t (-1000000) 1000000&&(decide (g.length≤64)&&Vbemae.all g 0 1)) _=_
 rw[e]
 unfold when_ Vbemae.all
 simp
end Zm
namespace Zm
open PySem PySem.Spec PyProof.Rows L2
theorem Jrr:∀{k:Nat} {r:List Int} {xs:List (List Int)} {t:List Int},PyFlat.rows k r=some (xs,t)→∀j x,xs[j]? =some x→r[JM (xs.take j)]? =some (x.length:Int)
 |0,r,xs,t,h,j,x,hx=>by obtain⟨rfl,_⟩:=Jik h;simp at hx
 |k+1,r,xs,t,h,j,x,hx=>by
  obtain⟨m,r',xs',rfl,hm,rfl,hr⟩:=Jil h
  have hl:(r'.take m).length=m:=by rw[List.length_take];omega
  match j with
  |0=>
   have e:r'.take m=x:=by simpa using hx
   rw[←e,hl];rfl
  |j+1=>
   rw[List.take_succ_cons]
   show((m:Int)::r')[1+(r'.take m).length+JM (xs'.take j)]? =_
   rw[hl,show 1+m+JM (xs'.take j)=(m+JM (xs'.take j))+1 by omega,List.getElem?_cons_succ,←List.getElem?_drop]
   exact Jrr hr j x (by simpa using hx)
theorem JnJ {xs:List (List Int)} {j:Nat} {x:List Int} (h:xs[j]? =some x):JM (xs.take (j+1))=JM (xs.take j)+(1+x.length):=by
 induction xs generalizing j with
 |nil=>simp at h
 |cons a xs ih=>
  match j with
  |0=>
   have e:a=x:=by simpa using h
   subst e
   simp[JM]
  |j+1=>
   rw[List.take_succ_cons,List.take_succ_cons]
   show 1+a.length+JM (xs.take (j+1))=1+a.length+JM (xs.take j)+(1+x.length)
   rw[ih (by simpa using h)];omega
theorem JrP (l:List Int) {i e:Nat} (he:e≤l.length) (hi:i≤e):UF (l.map V.int) (some (i:Int)) (some (e:Int))=((l.drop i).take (e-i)).map V.int:=by
 unfold UF
 rw[HT.Jka,HT.Jka,List.length_map,Nat.min_eq_left he,Nat.min_eq_left (Nat.le_trans hi he),List.map_take,List.map_drop]
theorem Jo7:∀{k:Nat} {r:List Int} {xs:List (List Int)} {t:List Int},PyFlat.rows k r=some (xs,t)→∀j x,xs[j]? =some x→(r.drop (JM (xs.take j)+1)).take x.length=x
 |0,r,xs,t,h,j,x,hx=>by obtain⟨rfl,_⟩:=Jik h;simp at hx
 |k+1,r,xs,t,h,j,x,hx=>by
  obtain⟨m,r',xs',rfl,hm,rfl,hr⟩:=Jil h
  have hl:(r'.take m).length=m:=by rw[List.length_take];omega
  match j with
  |0=>
   have e:r'.take m=x:=by simpa using hx
   rw[←e,hl];rfl
  |j+1=>
   rw[List.take_succ_cons]
   show(List.drop (1+(r'.take m).length+JM (xs'.take j)+1) ((m:Int)::r')).take x.length=x
   rw[hl,show 1+m+JM (xs'.take j)+1=(m+(JM (xs'.take j)+1))+1 by omega,List.drop_succ_cons,←List.drop_drop]
   exact Jo7 hr j x (by simpa using hx)
theorem JkX:∀(xs:List (List Int)) (j:Nat),JM (xs.take j)≤JM xs
 |[],j=>by simp[JM]
 |x::xs,0=>by simp[JM]
 |x::xs,j+1=>by
  rw[List.take_succ_cons]
  have:=JkX xs j
  show 1+x.length+_≤1+x.length+_
  omega
noncomputable def Jq4 (H:Hp) (l:Addr) (H':Hp) (r:Addr) (x:List Int):Prop:=H r=none∧r≠l∧H' r=some (.lst (x.map V.int))
noncomputable def JlU (K:PySem.W.Frag):Sp:=fun vs H Q _=>∃(a:Addr) (ns:List Int) (j n k i:Nat) (xs:List (List Int)) (t:List Int),vs=[.ref a,.int j,.int i]∧SqL K H a (ns.map V.int)∧PyVbemae.shape (j:Int)=some (n,k)∧PyFlat.rows k (ns.drop i)=some (xs,t)∧i+JM xs≤ns.length∧
 ∀l H' rs,Jg H H'→H l=none→H' l=some (.lst (rs.map V.ref))→Q5 (Jq4 H l H') rs xs→Q (.ref l) H'
section
variable {P:Program} {w:World} {K:PySem.W.Frag} {mg:Str→Option Value} {base:Heap} {A:Adr}
theorem Jmc (T:Txt w K mg A):JF P w K mg base CX0 2 A.Jbk A.Jab ["numbers","place","start"] (JlU K):=by
 refine T.Jh9.F.ok Yi (fun vs H Q E h=>?_) (fun cdv AA outer s H vs Q E hr h=>?_)
 ·obtain⟨a,ns,j,n,k,i,xs,t,rfl,_⟩:=h
  rfl
 ·obtain⟨a,ns,j,n,k,i,xs,t,rfl,hS,hsh,hrows,hfit,hQ⟩:=h
  have hxl:=(Jdl hrows).1
  have hj:=(Jiu hsh).2
  have hk:=Jiw hsh
  have k2:k≤2:=by rw[←hk];exact Jlk j
  refine⟨_,(Jd (sA 3 Yi.nd (Js Jc))
   (Jd (sA 4 Yi.nd (pv 2))
   (Jd (Jo9 PassesOwn.never (JA Jjg (lN K T.Q9 (Ja (pv 3) Jc)) (lN K T.Q9 (Ja (cL (Jgp T) hr T.Jei (Ja (pv 1) Jc)) Jc)) (JJ _)) (Jd (sA 5 Yi.nd (JB Yd (JB Yd (pv 4) Jm) (iL K (pv 0) (pv 4))))
   (Jd (U4 (Jdp PySem.F.plainAttrs_list PySem.F.slot_list_append PySem.F.type_list_append Wm (pv 3) (Ja (Jdn JfK (pv 0) (Jcq (JB Yd (pv 4) Jm)) (Jcq (pv 5))) Jc)))
   (Jf (sA 4 Yi.nd (pv 5))))))
   (Jf (Jl (pv 3)))))),?_⟩
  refine⟨Nat.zero_le _,fun l nl=>⟨_,rfl,?_⟩⟩
  refine⟨fun m σ H'=>∃(q:Nat) (rs:List Addr) (v5:Option V),σ=[some (.ref a),some (.int j),some (.int i),some (.ref l),some (.int ((i+JM (xs.take q):Nat):Int)),v5]∧m=k-q∧q≤k∧Jg H H'∧H' l=some (.lst (rs.map V.ref))∧Q5 (Jq4 H l H') rs (xs.take q),
   ⟨k,0,[],none,rfl,rfl,Nat.zero_le _,Jj nl,Jb,⟨rfl,fun i x y h=>by simp at h⟩⟩,?_⟩
  rintro m σ H1 ⟨q,rs,v5,rfl,rfl,hq,s1,hl,hall⟩
  have hrl:rs.length=q:=by rw[hall.len,List.length_take];omega
  refine⟨_,rfl,l,_,rfl,.inl (SqL.of hl),_,rfl,j,rfl,hj,fun t2 H2 s2 ht2=>⟨t2,_,rfl,.inr ht2,_,_,rfl,rfl,_,rfl,J4 (fun h1=>?_) (fun h1=>?_)⟩⟩
  ·have hlt:q<k:=by have:=of_decide_eq_true h1;rw[List.length_map,List.length_map,hrl,hk] at this;omega
   have s12:=s1.trans s2
   have hS2:=SqL.same s12 hS
   have hl2:=s2 _ _ hl
   have hx:xs[q]? =some xs[q]:=List.getElem?_eq_getElem (by omega)
   generalize xs[q]=x at hx
   have hr:=Jrr hrows q x hx
   have hrw:=Jo7 hrows q x hx
   have hnx:=JnJ hx
   have hle:=JkX xs (q+1)
   rw[List.getElem?_drop] at hr
   rw[List.drop_drop] at hrw
   generalize hcp:i+JM (xs.take q)=cp at hr⊢
   have hcut:UF (ns.map V.int) (some ((cp:Int)+1)) (some ((cp:Int)+1+(x.length:Int)))=x.map V.int:=by
    rw[show(cp:Int)+1+(x.length:Int)=((cp+1+x.length:Nat):Int) by omega,show(cp:Int)+1=((cp+1:Nat):Int) by omega,JrP ns (by omega) (by omega),show cp+1+x.length-(cp+1)=x.length by omega]
    rw[show i+(JM (xs.take q)+1)=cp+1 by omega] at hrw
    rw[hrw]
   refine⟨fun σ' H'=>∃m',m'<k-q∧_,fun σ' H' q=>q,?_⟩
   refine⟨_,rfl,_,_,rfl,rfl,_,rfl,_,rfl,a,_,_,_,rfl,rfl,hS2,Jp (j:=cp) (by rw[List.getElem?_map,hr];rfl),_,_,rfl,rfl,?_⟩
   refine⟨_,rfl,.inl ⟨rfl,_,SqL.of hl2⟩,_,rfl,_,rfl,_,_,rfl,rfl,_,rfl,_,rfl,_,rfl,a,_,rfl,hS2,fun nr nnr=>?_⟩
   have s3:Jg H2 (upd H2 nr (.lst (UF (ns.map V.int) (some ((cp:Int)+1)) (some ((cp:Int)+1+(x.length:Int)))))):=Jj nnr
   have hnr:=Jb (H:=H2) (a:=nr) (o:=.lst (UF (ns.map V.int) (some ((cp:Int)+1)) (some ((cp:Int)+1+(x.length:Int)))))
   refine⟨l,_,_,rfl,rfl,s3 _ _ hl2,?_,?_⟩
   ·rw[List.length_map,hrl];exact Nat.lt_of_lt_of_le (show q<2+1 by omega) (by decide)
   generalize upd H2 nr (.lst (UF (ns.map V.int) (some ((cp:Int)+1)) (some ((cp:Int)+1+(x.length:Int)))))=H3 at s3 hnr⊢
   rw[hcut] at hnr
   have nrl:nr≠l:=fun e=>by rw[e,hl2] at nnr;cases nnr
   have s13:=s12.trans s3
   refine⟨_,rfl,k-(q+1),by omega,q+1,rs++[nr],some (.int ((cp:Int)+1+(x.length:Int))),?_,rfl,by omega,Jk s13 nl,by rw[Jb,List.map_append];rfl,?_⟩
   ·have e:(cp:Int)+1+(x.length:Int)=((i+JM (xs.take (q+1)):Nat):Int):=by rw[hnx];omega
    rw[←e];rfl
   ·have et:xs.take (q+1)=xs.take q++[x]:=by
     have h2:=List.getElem?_eq_some_iff.mp hx
     rw[List.take_succ_eq_append_getElem h2.1,h2.2]
    rw[et]
    exact Q5.snoc (hall.imp fun r y ⟨g1,g2,g3⟩=>⟨g1,g2,by rw[Jh g2];exact s3 _ _ (s2 _ _ g3)⟩) ⟨Jg.free s12 nnr,nrl,by rw[Jh nrl];exact hnr⟩
  ·have hge:q=k:=by have:=of_decide_eq_false h1;rw[List.length_map,List.length_map,hrl,hk] at this;omega
   subst hge
   rw[←hxl,List.take_length] at hall
   exact⟨_,rfl,hQ l H2 rs (s1.trans s2) nl (s2 _ _ hl) (hall.imp fun r y ⟨g1,g2,g3⟩=>⟨g1,g2,s2 _ _ g3⟩)⟩
end
end Zm
namespace Zm
open PySem PySem.Spec PyProof.Rows L2
noncomputable def Jf1 (A:Adr) (H:Hp) (lc:Addr) (H':Hp) (c:Addr) (call:List (List Int)):Prop:=∃p JjY xs dx nl ll rs,call=(p::JjY)::xs∧(H c=none∧H nl=none∧H ll=none)∧(c≠lc∧nl≠lc∧ll≠lc)∧
 H' c=some (.ins A.YU dx (Jre (.int p) (.ref nl) (.ref ll)))∧H' nl=some (.lst (JjY.map V.int))∧H' ll=some (.lst (rs.map V.ref))∧Q5 (Jq4 H lc H') rs xs
theorem Jf1.keep {A:Adr} {H H1 H2:Hp} {lc c:Addr} {call:List (List Int)} (h:Jf1 A H lc H1 c call) (k:∀b o,b≠lc→H1 b=some o→H2 b=some o):Jf1 A H lc H2 c call:=by
 obtain⟨p,JjY,xs,dx,nl,ll,rs,h1,h2,h3,h4,h5,h6,h7⟩:=h
 exact⟨p,JjY,xs,dx,nl,ll,rs,h1,h2,h3,k _ _ h3.1 h4,k _ _ h3.2.1 h5,k _ _ h3.2.2 h6,h7.imp fun r x ⟨g1,g2,g3⟩=>⟨g1,g2,k _ _ g2 g3⟩⟩
theorem Jf1.is {A:Adr} {H H1 H2:Hp} {lc c:Addr} {call:List (List Int)} (h:Jf1 A H lc H1 c call) (k:∀b o,H b=none→H1 b=some o→H2 b=some o):Jox A H2 c call:=by
 obtain⟨p,JjY,xs,dx,nl,ll,rs,h1,h2,h3,h4,h5,h6,h7⟩:=h
 exact⟨p,JjY,xs,h1,dx,nl,ll,rs,k _ _ h2.1 h4,k _ _ h2.2.1 h5,k _ _ h2.2.2 h6,h7.imp fun r x ⟨g1,g2,g3⟩=>k _ _ g1 g3⟩
theorem Jo6:∀xs:List (List Int),(xs.map fun x=>1+(x.length:Int)).sum=(JM xs:Int)
 |[]=>rfl
 |x::xs=>by
  rw[List.map_cons,List.sum_cons,Jo6 xs]
  show _=((1+x.length+JM xs:Nat):Int)
  omega
section
variable {P:Program} {w:World} {K:PySem.W.Frag} {mg:Str→Option Value} {base:Heap} {A:Adr}
theorem Jmd (T:Txt w K mg A):JF P w K mg base CX0 3 A.Jbl A.Jac ["numbers"] (JlV K A):=by
 refine T.Jia.F.ok QH (fun vs H Q E h=>?_) (fun cdv AA outer s H vs Q E hr h=>?_)
 ·obtain⟨a,ns,cs,rfl,_⟩:=h
  rfl
 ·obtain⟨a,ns,cs,rfl,hS,h16,hF,h200,k⟩:=h
  refine⟨_,(Jd (sA 1 QH.nd (Js Jc))
   (Jd (sA 2 QH.nd Jm)
   (Jd (Jo9 PassesOwn.never (JA Jjg (pv 2) (lN K T.Q9 (Ja (pv 0) Jc)) (JJ _)) (Jd (sA 3 QH.nd (iL K (pv 0) (pv 2)))
   (Jd (sA 4 QH.nd (JB Yd (JB Yd (pv 2) Jm) (lN K T.Q9 (Ja (cL (Jev T) hr T.Jce (Ja (pv 3) Jc)) Jc))))
   (Jd (sA 5 QH.nd (cL (Jmc T) hr T.Jh9 (Ja (pv 0) (Ja (pv 3) (Ja (pv 4) Jc)))))
   (Jd (U4 (Jdp PySem.F.plainAttrs_list PySem.F.slot_list_append PySem.F.type_list_append Wm (pv 1) (Ja (mA (JnV T) hr T.Jjy T.Jwd (Ja (pv 3) (Ja (Jdn JfK (pv 0) (Jcq (JB Yd (pv 2) Jm)) (Jcq (pv 4))) (Ja (pv 5) Jc)))) Jc)))
   (Jf (sA 2 QH.nd (JB Yd (pv 4) (JV (V1 K rfl rfl) (by rfl) T.Jg8 PyProof.Rows.boot_sum (Ja (WH rfl QH.nd (Qi (pv 5)) (own:=[("each",6)]) (lK Jh4 (Je JdL) (by decide+kernel)) (fun _ _ _ _ _=>(gA 6 QH.nd)) (fun _ _ _ _ _=>Qo) (fun _ _ _ _ _=>(JB Yd Jm (lN K T.Q9 (Ja (pv 6) Jc))))) Jc))))))))))
   (Jf (Jl (pv 1)))))),?_⟩
  refine⟨(by show 0≤sizeLine;decide),fun lc nlc=>?_⟩
  refine⟨fun m σ H'=>∃(i:Nat) (v3 v4 v5 v6:Option V) (as:List Addr) (dn rs:List (List (List Int))),σ=[some (.ref a),some (.ref lc),some (.int i),v3,v4,v5,v6]∧m=ns.length-i∧i≤ns.length∧Jg H H'∧H' lc=some (.lst (as.map V.ref))∧cs=dn++rs∧JiV ns i rs∧Q5 (Jf1 A H lc H') as dn,
   ⟨ns.length,0,none,none,none,none,[],[],cs,rfl,rfl,Nat.zero_le _,Jj nlc,by rw[Jb];rfl,rfl,hF,⟨rfl,fun i x y h=>by simp at h⟩⟩,?_⟩
  rintro m σ H1 ⟨i,v3,v4,v5,v6,as,dn,rs,rfl,rfl,hi,s1,hlc,hcs,hR,hall⟩
  have hS1:=SqL.same s1 hS
  refine⟨_,rfl,_,rfl,a,_,rfl,.inl hS1,_,_,rfl,rfl,_,rfl,J4 (fun h1=>?_) (fun h1=>?_)⟩
  ·have hlt:i<ns.length:=by have:=of_decide_eq_true h1;rw[List.length_map] at this;omega
   obtain⟨p,n,kk,xs,rs',g1,g2,g3,g4,g5,g6,g7⟩:=hR.step hlt
   obtain⟨j,rfl,hj⟩:=Jii g2
   have hn:=(Jiu g2).1
   refine⟨fun σ' H'=>∃m',m'<ns.length-i∧_,fun σ' H' q=>q,?_⟩
   refine⟨_,rfl,_,rfl,a,_,_,_,rfl,rfl,hS1,Jp (j:=i) (by rw[List.getElem?_map,g1];rfl),?_⟩
   refine⟨_,rfl,_,_,rfl,rfl,_,rfl,j,rfl,hj,fun t ht=>⟨t,_,rfl,.inr (ht H1),_,_,rfl,rfl,?_⟩⟩
   rw[List.length_map,hn]
   have ee:(i:Int)+1+(n:Int)=((i+1+n:Nat):Int):=by omega
   have hcut:UF (ns.map V.int) (some ((i:Int)+1)) (some ((i:Int)+1+(n:Int)))=((ns.drop (i+1)).take n).map V.int:=by
    rw[ee,show(i:Int)+1=((i+1:Nat):Int) by omega,JrP ns g3 (by omega),show i+1+n-(i+1)=n by omega]
   refine⟨_,rfl,_,rfl,_,rfl,a,ns,j,n,kk,i+1+n,xs,_,(by show [V.ref a,V.int (j:Int),V.int ((i:Int)+1+(n:Int))]=_;rw[ee]),hS1,g2,g4,g5,fun ll H2 ra s2 nll hll hrows=>?_⟩
   have s12:=s1.trans s2
   have hS2:=SqL.same s12 hS
   have hlc2:=s2 _ _ hlc
   refine⟨_,rfl,.inl ⟨rfl,_,SqL.of hlc2⟩,_,rfl,_,rfl,_,rfl,_,_,rfl,rfl,_,rfl,_,rfl,_,rfl,a,_,rfl,hS2,fun nl nnl=>?_⟩
   have s3:Jg H2 (upd H2 nl (.lst (UF (ns.map V.int) (some ((i:Int)+1)) (some ((i:Int)+1+(n:Int)))))):=Jj nnl
   have hnl:=Jb (H:=H2) (a:=nl) (o:=.lst (UF (ns.map V.int) (some ((i:Int)+1)) (some ((i:Int)+1+(n:Int)))))
   refine⟨_,rfl,?_⟩
   intro x dx nx ndx nxd
   refine⟨x,dx,_,_,_,rfl,Jb,fun H4 k4 hx=>⟨rfl,?_⟩⟩
   have s4:=Jg.made nx ndx k4
   generalize upd H2 nl (.lst (UF (ns.map V.int) (some ((i:Int)+1)) (some ((i:Int)+1+(n:Int)))))=H3 at s3 hnl nx ndx k4 s4
   rw[hcut] at hnl
   have s34:=s3.trans s4
   have s24:=s2.trans s34
   have s14:=s12.trans s34
   have nx2:H2 x=none:=Jg.free s3 nx
   refine⟨lc,_,_,rfl,rfl,s34 _ _ hlc2,?_,?_⟩
   ·rw[List.length_map,hall.len]
    have:dn.length≤cs.length:=by rw[hcs,List.length_append];omega
    exact Nat.lt_of_le_of_lt (show dn.length≤200 by omega) (by decide)
   have xlc:x≠lc:=fun q=>by rw[q,hlc2] at nx2;cases nx2
   have nllc:nl≠lc:=fun q=>by rw[q,hlc2] at nnl;cases nnl
   have llc:ll≠lc:=fun q=>by rw[q,hlc] at nll;cases nll
   have s5:=Jk (o:=.lst (as.map V.ref++[.ref x])) s14 nlc
   have hlc5:=Jb (H:=H4) (a:=lc) (o:=.lst (as.map V.ref++[.ref x]))
   have kp5:∀b o,b≠lc→H4 b=some o→(upd H4 lc (.lst (as.map V.ref++[.ref x]))) b=some o:=fun b o hb e=>by rw[Jh hb];exact e
   generalize upd H4 lc (.lst (as.map V.ref++[.ref x]))=H5 at s5 hlc5 kp5⊢
   have hll5:=kp5 _ _ llc (s34 _ _ hll)
   have hra:∀(q:Nat) r y,ra[q]? =some r→xs[q]? =some y→H r=none∧r≠lc∧H5 r=some (.lst (y.map V.int)):=fun q r y e1 e2=>by
    obtain⟨z1,z2,z3⟩:=hrows.at_ q r y e1 e2
    have zl:r≠lc:=fun e=>by rw[e,hlc] at z1;cases z1
    exact⟨Jg.free s1 z1,zl,kp5 _ _ zl (s34 _ _ z3)⟩
   have ral:(ra.map V.ref).length=xs.length:=by rw[List.length_map,hrows.len]
   have raz:(ra.map V.ref).length≤sizeLine:=by
    rw[ral,(Jdl g4).1,←Jiw g2];exact Nat.le_trans (Jlk j) (by decide)
   refine⟨_,rfl,_,rfl,ll,rfl,⟨_,SqL.of hll5⟩,fun D nD=>?_⟩
   refine UQ (fun q=>(xs[q]?).map fun y=>V.int (1+(y.length:Int))) (ra.map V.ref).length (Itl K ll) nD raz (Ye (SqL.of hll5)) (QW (SqL.of hll5)) ?_ ?_
   ·intro q v H6 H7 hq s6 hD6 y
    obtain⟨rfl,y⟩:=y
    obtain⟨r,hr',rfl⟩:=J1 (y _ (SqL.of (s6 _ _ hll5)))
    have hxq:xs[q]? =some (xs[q]'(by rw[←ral];exact hq)):=List.getElem?_eq_getElem _
    generalize (xs[q]'(by rw[←ral];exact hq))=y0 at hxq
    have z3:=(hra q r y0 hr' hxq).2.2
    refine⟨rfl,_,rfl,r,_,rfl,.inl (SqL.of (s6 _ _ z3)),_,_,rfl,rfl,J8 (i:=q) nD (Nat.lt_of_lt_of_le hq raz) s6 hD6 ?_⟩
    rw[hxq,List.length_map];rfl
   ·intro H6 s6 hD6
    have e1:(List.range (ra.map V.ref).length).filterMap (fun q=>(xs[q]?).map fun y=>V.int (1+(y.length:Int)))=(xs.map fun y=>1+(y.length:Int)).map V.int:=by
     rw[ral,List.map_map];exact UR _ _ _ fun i x hx=>by rw[hx];rfl
    rw[e1] at hD6
    refine⟨D,_,rfl,SqL.of hD6,_,_,rfl,rfl,?_⟩
    rw[Jo6]
    have kp6:∀b o,b≠lc→H4 b=some o→H6 b=some o:=fun b o hb e=>s6 _ _ (kp5 b o hb e)
    refine⟨ns.length-(i+1+n+JM xs),by omega,i+1+n+JM xs,some (.int j),some (.int ((i:Int)+1+(n:Int))),some (.ref ll),v6,as++[x],dn++[((j:Int)::(ns.drop (i+1)).take n)::xs],rs',?_,rfl,g5,s5.trans s6,by rw[s6 _ _ hlc5,List.map_append];rfl,by rw[hcs,g6,List.append_assoc];rfl,g7,?_⟩
    ·have e:(i:Int)+1+(n:Int)+((JM xs:Nat):Int)=((i+1+n+JM xs:Nat):Int):=by omega
     rw[←e];rfl
    refine Q5.snoc (hall.imp fun c call h=>h.keep fun b o hb e=>kp6 b o hb (s24 _ _ e)) ?_
    exact⟨_,_,_,dx,nl,ll,ra,rfl,⟨Jg.free s12 nx2,Jg.free s12 nnl,Jg.free s1 nll⟩,⟨xlc,nllc,llc⟩,kp6 _ _ xlc hx,kp6 _ _ nllc (s4 _ _ hnl),s6 _ _ hll5,⟨hrows.len,fun q r y e1 e2=>let⟨z1,z2,z3⟩:=hra q r y e1 e2;⟨z1,z2,s6 _ _ z3⟩⟩⟩
  ·have hge:ns.length≤i:=by have:=of_decide_eq_false h1;rw[List.length_map] at this;omega
   have:=hR.done hge
   subst this
   rw[List.append_nil] at hcs
   subst hcs
   refine⟨_,rfl,k lc H1 as s1 nlc hlc (hall.imp fun c call h H2 q=>h.is q)⟩
end
end Zm
namespace Zm
open PySem PySem.Spec PyProof.Rows L2
theorem QV {α:Type} {ns:List α} (h:0=ns.length):ns=[]:=match ns,h with|[],_=>rfl
theorem len1 {α:Type} {ns:List α} (h:1=ns.length):∃a,ns=[a]:=match ns,h with|[a],_=>⟨a,rfl⟩
theorem len2 {α:Type} {ns:List α} (h:2=ns.length):∃a b,ns=[a,b]:=match ns,h with|[a,b],_=>⟨a,b,rfl⟩
theorem JuZ {α:Type} {ns:List α} (h:3=ns.length):∃a b c,ns=[a,b,c]:=match ns,h with|[a,b,c],_=>⟨a,b,c,rfl⟩
theorem JuY {α:Type} {ns:List α} (h:4=ns.length):∃a b c d,ns=[a,b,c,d]:=match ns,h with|[a,b,c,d],_=>⟨a,b,c,d,rfl⟩
theorem QF {s:Str} {a:Int} {l:List Str} {ns:List Int} {lo hi:Int} (h:J2 (s::l) (a::ns)=true) (e:JnL s=some (lo,hi)):(lo≤a∧a≤hi)∧J2 l ns=true:=by
 unfold J2 at h⊢
 rw[List.zip_cons_cons,List.all_cons,Bool.and_eq_true] at h
 refine⟨?_,h.2⟩
 have:=h.1
 unfold Ys at this
 rw[e] at this
 exact JgH.mp this
noncomputable def JcS (j:Nat) (ns:List Int) (rws:List (List Int)):Bool:=J2 (JK j) ns&&Jn0 (QA j) rws
theorem J5 {j:Nat} {ns:List Int} (h:QA j=[]):JcS j ns []=J2 (JK j) ns:=by unfold JcS;rw[h];show(_&&true)=_;rw[Bool.and_true]
theorem Jrl {p:List Int}:JcS 10 [] [p]=true↔p.length≤64∧(p.all fun a=>Vbemae.within a (-1000000) 1000000)=true:=by
 show((true&&((decide (p.length≤64)&&p.all fun a=>Vbemae.within a (-1000000) 1000000)&&true))=true)↔_
 simp
theorem Jrk {x y:List Int}:JcS 11 [] [x,y]=true↔(x.length≤64∧y.length≤64)∧(x.all fun a=>Vbemae.within a (-2000000000) 2000000000)=true∧(y.all fun a=>Vbemae.within a (-2000000000) 2000000000)=true:=by
 show((true&&((decide (x.length≤64)&&x.all fun a=>Vbemae.within a (-2000000000) 2000000000)&&((decide (y.length≤64)&&y.all fun a=>Vbemae.within a (-2000000000) 2000000000)&&true)))=true)↔_
 simp only[Bool.true_and,Bool.and_true,Bool.and_eq_true,decide_eq_true_eq]
 constructor
 ·rintro⟨⟨a,b⟩,c,d⟩;exact⟨⟨a,c⟩,b,d⟩
 ·rintro⟨⟨a,c⟩,b,d⟩;exact⟨⟨a,b⟩,c,d⟩
theorem Jrj {t:Int} {g:List Int}:JcS 17 [t] [g]=true↔J2 (JK 17) [t]=true∧g.length≤64∧(g.all fun a=>Vbemae.within a 0 1)=true:=by
 show((J2 (JK 17) [t]&&((decide (g.length≤64)&&g.all fun a=>Vbemae.within a 0 1)&&true))=true)↔_
 simp
theorem Jwo {j:Nat} {ns:List Int} {rws:List (List Int)} (h1:1≤j) (h9:j<20) (hl:(JK j).length=ns.length) (hl2:(QA j).length=rws.length) (hr:JcS j ns rws=true):∃cc,Vbemae.decode (((j:Int)::ns)::rws)=some cc∧Jc3 j ns rws cc∧∀lo hi n,cc≠.open_ lo hi n:=by
 match j,h1,h9,hl,hl2,hr with
 |1,_,_,hl,hl2,hr=>
  obtain⟨a,b,c,d,rfl⟩:=JuY hl
  obtain rfl:=QV hl2
  rw[J5 rfl] at hr
  obtain⟨q1,hr'⟩:=QF hr rfl
  obtain⟨q2,_⟩:=QF hr' rfl
  exact⟨_,(JvJ a b c d).trans (if_pos hr),.c1 ⟨a.toNat,b.toNat,c,d,by rw[Int.toNat_of_nonneg q1.1,Int.toNat_of_nonneg q2.1],rfl⟩,fun _ _ _ z=>nomatch z⟩
 |2,_,_,hl,hl2,hr=>
  obtain⟨a,b,c,d,rfl⟩:=JuY hl
  obtain rfl:=QV hl2
  rw[J5 rfl] at hr
  obtain⟨q1,hr'⟩:=QF hr rfl
  obtain⟨q2,_⟩:=QF hr' rfl
  refine⟨_,(JvI a b c d).trans (if_pos hr),.c2 ⟨a.toNat,b==1,c,d,?_,rfl⟩,fun _ _ _ z=>nomatch z⟩
  rw[Int.toNat_of_nonneg q1.1]
  have:b=Y2 (b==1):=by
   rcases(show b=0∨b=1 by omega) with rfl|rfl<;>rfl
  rw[←this]
 |3,_,_,hl,hl2,hr=>
  obtain⟨a,b,c,rfl⟩:=JuZ hl
  obtain rfl:=QV hl2
  rw[J5 rfl] at hr
  obtain⟨q1,hr'⟩:=QF hr rfl
  exact⟨_,(JvH a b c).trans (if_pos hr),.c3 ⟨a.toNat,b,c,by rw[Int.toNat_of_nonneg q1.1],rfl⟩,fun _ _ _ z=>nomatch z⟩
 |4,_,_,hl,hl2,hr=>
  obtain⟨a,b,rfl⟩:=len2 hl
  obtain rfl:=QV hl2
  rw[J5 rfl] at hr
  obtain⟨q1,hr'⟩:=QF hr rfl
  exact⟨_,(JvG a b).trans (if_pos hr),.c4 ⟨a.toNat,b,by rw[Int.toNat_of_nonneg q1.1],rfl⟩,fun _ _ _ z=>nomatch z⟩
 |5,_,_,hl,hl2,hr=>obtain rfl:=QV hl;obtain rfl:=QV hl2;exact⟨_,Jw9,.c5 ⟨rfl,rfl⟩,fun _ _ _ z=>nomatch z⟩
 |6,_,_,hl,hl2,hr=>obtain rfl:=QV hl;obtain rfl:=QV hl2;exact⟨_,Jw8,.c6 ⟨rfl,rfl⟩,fun _ _ _ z=>nomatch z⟩
 |7,_,_,hl,hl2,hr=>
  obtain⟨a,rfl⟩:=len1 hl
  obtain rfl:=QV hl2
  rw[J5 rfl] at hr
  obtain⟨q1,hr'⟩:=QF hr rfl
  exact⟨_,(JvF a).trans (if_pos hr),.c7 ⟨a.toNat,by rw[Int.toNat_of_nonneg q1.1],rfl⟩,fun _ _ _ z=>nomatch z⟩
 |8,_,_,hl,hl2,hr=>obtain rfl:=QV hl;obtain rfl:=QV hl2;exact⟨_,Jw7,.c8 ⟨rfl,rfl⟩,fun _ _ _ z=>nomatch z⟩
 |9,_,_,hl,hl2,hr=>obtain rfl:=QV hl;obtain rfl:=QV hl2;exact⟨_,Jw6,.c9 ⟨rfl,rfl⟩,fun _ _ _ z=>nomatch z⟩
 |10,_,_,hl,hl2,hr=>
  obtain rfl:=QV hl
  obtain⟨p,rfl⟩:=len1 hl2
  have h:=Jrl.mp hr
  exact⟨_,(Jua p).trans (if_pos h),.c10 ⟨p,rfl,rfl,h.1,rfl⟩,fun _ _ _ z=>nomatch z⟩
 |11,_,_,hl,hl2,hr=>
  obtain rfl:=QV hl
  obtain⟨x,y,rfl⟩:=len2 hl2
  have h:=Jrk.mp hr
  exact⟨_,(Jt9 x y).trans (if_pos h),.c11 ⟨x,y,rfl,rfl,rfl⟩,fun _ _ _ z=>nomatch z⟩
 |12,_,_,hl,hl2,hr=>
  obtain⟨a,rfl⟩:=len1 hl
  obtain rfl:=QV hl2
  rw[J5 rfl] at hr
  obtain⟨q1,hr'⟩:=QF hr rfl
  exact⟨_,(Jt8 a).trans (if_pos hr),.c12 ⟨a.toNat,by rw[Int.toNat_of_nonneg q1.1],rfl⟩,fun _ _ _ z=>nomatch z⟩
 |13,_,_,hl,hl2,hr=>
  obtain⟨a,rfl⟩:=len1 hl
  obtain rfl:=QV hl2
  rw[J5 rfl] at hr
  obtain⟨q1,hr'⟩:=QF hr rfl
  exact⟨_,(Jt7 a).trans (if_pos hr),.c13 ⟨a.toNat,by rw[Int.toNat_of_nonneg q1.1],rfl⟩,fun _ _ _ z=>nomatch z⟩
 |14,_,_,hl,hl2,hr=>obtain rfl:=QV hl;obtain rfl:=QV hl2;exact⟨_,Jwq,.c14 ⟨rfl,rfl⟩,fun _ _ _ z=>nomatch z⟩
 |15,_,_,hl,hl2,hr=>
  obtain⟨a,b,rfl⟩:=len2 hl
  obtain rfl:=QV hl2
  rw[J5 rfl] at hr
  obtain⟨q1,hr'⟩:=QF hr rfl
  exact⟨_,(Jt6 a b).trans (if_pos hr),.c15 ⟨a.toNat,b,by rw[Int.toNat_of_nonneg q1.1],rfl⟩,fun _ _ _ z=>nomatch z⟩
 |16,_,_,hl,hl2,hr=>
  obtain⟨a,rfl⟩:=len1 hl
  obtain rfl:=QV hl2
  rw[J5 rfl] at hr
  obtain⟨q1,hr'⟩:=QF hr rfl
  exact⟨_,(Jt5 a).trans (if_pos hr),.c16 ⟨a,rfl,rfl⟩,fun _ _ _ z=>nomatch z⟩
 |17,_,_,hl,hl2,hr=>
  obtain⟨t,rfl⟩:=len1 hl
  obtain⟨g,rfl⟩:=len1 hl2
  have h:=Jrj.mp hr
  refine⟨_,(Jt4 t g).trans (if_pos h),.c17 ⟨t,g,rfl,rfl,fun b hb=>?_,rfl⟩,fun _ _ _ z=>nomatch z⟩
  have:=JgH.mp (List.all_eq_true.mp h.2.2 b hb)
  omega
 |18,_,_,hl,hl2,hr=>
  obtain⟨a,rfl⟩:=len1 hl
  obtain rfl:=QV hl2
  rw[J5 rfl] at hr
  obtain⟨q1,hr'⟩:=QF hr rfl
  exact⟨_,(Jt3 a).trans (if_pos hr),.c18 ⟨a.toNat,by rw[Int.toNat_of_nonneg q1.1],rfl⟩,fun _ _ _ z=>nomatch z⟩
 |19,_,_,hl,hl2,hr=>obtain rfl:=QV hl;obtain rfl:=QV hl2;exact⟨_,Jwp,.c19 ⟨rfl,rfl⟩,fun _ _ _ z=>nomatch z⟩
 |j+20,_,h,_,_,_=>omega
theorem Jwn {j:Nat} {ns:List Int} {rws:List (List Int)} (h9:j<20) (hl:(JK j).length=ns.length) (hl2:(QA j).length=rws.length) (hr:JcS j ns rws=false):Vbemae.decode (((j:Int)::ns)::rws)=none:=by
 have hn:¬JcS j ns rws=true:=by rw[hr];decide
 match j,h9,hl,hl2,hn with
 |0,_,hl,hl2,hn=>obtain⟨a,b,c,rfl⟩:=JuZ hl;obtain rfl:=QV hl2;rw[J5 rfl] at hn;exact(Jub a b c).trans (if_neg fun q=>hn q.1)
 |1,_,hl,hl2,hn=>obtain⟨a,b,c,d,rfl⟩:=JuY hl;obtain rfl:=QV hl2;rw[J5 rfl] at hn;exact(JvJ a b c d).trans (if_neg hn)
 |2,_,hl,hl2,hn=>obtain⟨a,b,c,d,rfl⟩:=JuY hl;obtain rfl:=QV hl2;rw[J5 rfl] at hn;exact(JvI a b c d).trans (if_neg hn)
 |3,_,hl,hl2,hn=>obtain⟨a,b,c,rfl⟩:=JuZ hl;obtain rfl:=QV hl2;rw[J5 rfl] at hn;exact(JvH a b c).trans (if_neg hn)
 |4,_,hl,hl2,hn=>obtain⟨a,b,rfl⟩:=len2 hl;obtain rfl:=QV hl2;rw[J5 rfl] at hn;exact(JvG a b).trans (if_neg hn)
 |5,_,hl,hl2,hn=>obtain rfl:=QV hl;obtain rfl:=QV hl2;exact absurd rfl hn
 |6,_,hl,hl2,hn=>obtain rfl:=QV hl;obtain rfl:=QV hl2;exact absurd rfl hn
 |7,_,hl,hl2,hn=>obtain⟨a,rfl⟩:=len1 hl;obtain rfl:=QV hl2;rw[J5 rfl] at hn;exact(JvF a).trans (if_neg hn)
 |8,_,hl,hl2,hn=>obtain rfl:=QV hl;obtain rfl:=QV hl2;exact absurd rfl hn
 |9,_,hl,hl2,hn=>obtain rfl:=QV hl;obtain rfl:=QV hl2;exact absurd rfl hn
 |10,_,hl,hl2,hn=>obtain rfl:=QV hl;obtain⟨p,rfl⟩:=len1 hl2;exact(Jua p).trans (if_neg fun q=>hn (Jrl.mpr q))
 |11,_,hl,hl2,hn=>obtain rfl:=QV hl;obtain⟨x,y,rfl⟩:=len2 hl2;exact(Jt9 x y).trans (if_neg fun q=>hn (Jrk.mpr q))
 |12,_,hl,hl2,hn=>obtain⟨a,rfl⟩:=len1 hl;obtain rfl:=QV hl2;rw[J5 rfl] at hn;exact(Jt8 a).trans (if_neg hn)
 |13,_,hl,hl2,hn=>obtain⟨a,rfl⟩:=len1 hl;obtain rfl:=QV hl2;rw[J5 rfl] at hn;exact(Jt7 a).trans (if_neg hn)
 |14,_,hl,hl2,hn=>obtain rfl:=QV hl;obtain rfl:=QV hl2;exact absurd rfl hn
 |15,_,hl,hl2,hn=>obtain⟨a,b,rfl⟩:=len2 hl;obtain rfl:=QV hl2;rw[J5 rfl] at hn;exact(Jt6 a b).trans (if_neg hn)
 |16,_,hl,hl2,hn=>obtain⟨a,rfl⟩:=len1 hl;obtain rfl:=QV hl2;rw[J5 rfl] at hn;exact(Jt5 a).trans (if_neg hn)
 |17,_,hl,hl2,hn=>obtain⟨t,rfl⟩:=len1 hl;obtain⟨g,rfl⟩:=len1 hl2;exact(Jt4 t g).trans (if_neg fun q=>hn (Jrj.mpr q))
 |18,_,hl,hl2,hn=>obtain⟨a,rfl⟩:=len1 hl;obtain rfl:=QV hl2;rw[J5 rfl] at hn;exact(Jt3 a).trans (if_neg hn)
 |19,_,hl,hl2,hn=>obtain rfl:=QV hl;obtain rfl:=QV hl2;exact absurd rfl hn
 |j+20,h,_,_,_=>omega
theorem JmD {st:Vbemae.State} {c:List (List Int)} (h:Vbemae.decode c=none):Vbemae.stepNumbers st c=(st,[-1]):=by unfold Vbemae.stepNumbers;rw[h]
theorem Jr9 {st:Vbemae.State} {c:List (List Int)} {lo hi:Int} {n:Nat} (h:Vbemae.decode c=some (.open_ lo hi n)):Vbemae.stepNumbers st c=(JtD lo hi n,[0]):=by unfold Vbemae.stepNumbers;rw[h];rfl
theorem Jp9 {st:Vbemae.State} {c:List (List Int)} {cc:Vbemae.Call} (h:Vbemae.decode c=some cc) (ho:∀lo hi n,cc≠.open_ lo hi n) (e:st.net=none):Vbemae.stepNumbers st c=(st,[-2]):=by
 unfold Vbemae.stepNumbers;rw[h];dsimp only;unfold Vbemae.step;rw[e]
 cases cc<;>first|rfl|exact absurd rfl (ho _ _ _)
theorem Jtk {st:Vbemae.State} {c:List (List Int)} {cc:Vbemae.Call} {N:Vbemae.Net} (h:Vbemae.decode c=some cc) (ho:∀lo hi n,cc≠.open_ lo hi n) (e:st.net=some N):Vbemae.stepNumbers st c=(⟨some (Vbemae.onNet N cc).1⟩,(Vbemae.onNet N cc).2):=by
 unfold Vbemae.stepNumbers;rw[h];dsimp only;unfold Vbemae.step;rw[e]
 cases cc<;>first|rfl|exact absurd rfl (ho _ _ _)
theorem MkQ.after {A:Adr} {H H1:Hp} {m:Addr} {F:List Addr} {st':Vbemae.State} {ans:List Int} {Q:VK} (k:MkQ A H m F st' ans Q) (s:Jg H H1):MkQ A H1 m F st' ans Q:=fun l H' F' h1 h2 h3 h4 h5=>
 k l H' F' h1 (fun b o e hb hf=>h2 b o (s _ _ e) hb hf) (fun b hb=>(h3 b hb).imp id (Jg.free s)) (Jg.free s h4) h5
section
variable {P:Program} {w:World} {K:PySem.W.Frag} {mg:Str→Option Value} {base:Heap} {A:Adr}
theorem Jit (T:Txt w K mg A):JF P w K mg base CX0 10 A.YJ A.W0 ["self","call"] (Jih A):=by
 refine T.Ja1.F.ok Jij (fun vs H Q E h=>?_) (fun cdv AA outer s H vs Q E hr h=>?_)
 ·obtain⟨m,c,st,F,call,rfl,_⟩:=h
  rfl
 ·obtain⟨m,c,st,F,call,rfl,hM,⟨p,ns,rws,rfl,hC⟩,hSh,k⟩:=h
  obtain⟨p',ns',xs',n,kk,ec,hsh,hnl,hxl⟩:=hSh
  injection ec with e1 e2
  injection e1 with e1 e3
  subst e1 e2 e3
  obtain⟨j,rfl,h9⟩:=Jii hsh
  have hl:(JK j).length=ns.length:=by rw[(Jiu hsh).1,hnl]
  have hl2:(QA j).length=rws.length:=by rw[Jiw hsh,hxl]
  refine⟨_,(Jd (Qa (Jin (VY (cL (Jqx T) hr T.Jnf (Ja (pv 1) Jc)))) (Jf (Jl (Js (Ja (gL T.Jgt) Jc)))) JD)
   (Jd (Qa (JA YX (fL K (pv 1)) (gL T.JsH) (JJ _)) (Jf (Jl (Vc (pv 0) T.Jb6 T.VR.me (JgV T) (hr.mono (by decide)) T.VR.b .nil JbJ (Ja (iL K (fL K (pv 1)) Jm) (Ja (iL K (fL K (pv 1)) Jm) (Ja (iL K (fL K (pv 1)) Jm) Jc)))))) JD)
   (Jd (Qa (JA Jv8 (fL K (pv 0)) Jty (JJ _)) (Jf (Jl (Js (Ja (gL T.JtT) Jc)))) JD)
   (Jf (Jl (cL (Jk7 T) hr T.JgE (Ja (fL K (pv 0)) (Ja (pv 1) Jc)))))))),?_⟩
  refine⟨_,rfl,c,j,ns,rws,rfl,hC,h9,hl,hl2,fun H1 s1=>?_⟩
  have hM1:=hM.same s1
  have hC1:=hC.same s1
  have k1:=k.after s1
  clear k hM hC
  obtain⟨dc,nl,ll,rs,hc,hn,hls,hrs⟩:=id hC1
  refine⟨_,rfl,J4 (fun h=>?_) (fun h=>?_)⟩
  ·have hr:JcS j ns rws=false:=(Bool.not_eq_true' _).mp h
   rw[JmD (Jwn h9 hl hl2 hr)] at k1
   exact⟨(by show 1≤sizeLine;decide),fun a0 n0=>k1.refuse hM1 a0 n0⟩
  have hr:JcS j ns rws=true:=(Bool.not_eq_false' _).mp h
  refine⟨_,rfl,fld hc T.Jz T.Jr rfl ⟨rfl,_,rfl,J4 (fun h2=>?_) (fun h2=>?_)⟩⟩
  ·have j0:j=0:=by have:=Jfb h2;omega
   subst j0
   obtain⟨lo,hi,n,rfl⟩:=JuZ hl
   obtain rfl:=QV hl2
   rw[J5 rfl] at hr
   obtain⟨q1,hr1⟩:=QF hr rfl
   obtain⟨q2,hr2⟩:=QF hr1 rfl
   obtain⟨q3,_⟩:=QF hr2 rfl
   obtain⟨dm,vm,hm⟩:=hM1.obj
   have k2:MkQ A H1 m F (Vbemae.stepNumbers st [[0,lo,hi,n]]).1 (Vbemae.stepNumbers st [[0,lo,hi,n]]).2 Q:=k1
   refine⟨_,rfl,m,_,_,rfl,hm,rfl,?_⟩
   refine⟨_,rfl,fld hc T.Jz T.Jo rfl ⟨nl,_,_,_,rfl,rfl,SqL.of hn,Jp (j:=0) rfl,?_⟩⟩
   refine⟨_,rfl,fld hc T.Jz T.Jo rfl ⟨nl,_,_,_,rfl,rfl,SqL.of hn,Jp (j:=1) rfl,?_⟩⟩
   refine⟨_,rfl,fld hc T.Jz T.Jo rfl ⟨nl,_,_,_,rfl,rfl,SqL.of hn,Jp (j:=2) rfl,?_⟩⟩
   refine⟨m,st,F,lo,hi,n.toNat,?_,hM1,q1.1,q2.2,by omega,by omega,fun hlt=>?_,fun hle=>?_⟩
   ·show [V.ref m,V.int lo,V.int hi,V.int n]=_
    rw[Int.toNat_of_nonneg (by omega)]
   ·rw[JmD ((Jub lo hi n).trans (if_neg fun q=>by omega))] at k2
    exact k2
   ·rw[Jr9 ((Jub lo hi n).trans (if_pos ⟨hr,hle⟩))] at k2
    exact k2
  have j1:1≤j:=by
   rcases Nat.eq_zero_or_pos j with q|q
   ·exact absurd (show(j:Int)=0 by omega) (JaO h2)
   ·exact q
  obtain⟨cc,hd,hcl,hno⟩:=Jwo j1 h9 hl hl2 hr
  rcases id hM1 with⟨e1,e2,dm,hm⟩|⟨N,p,lp,op,ls,os,dm,e1,hL,hm,hO,rfl⟩
  ·rw[Jp9 hd hno e1] at k1
   refine⟨_,rfl,fld hm T.Jb6 T.Yk rfl ⟨rfl,_,rfl,Jg3 (by decide) ?_⟩⟩
   exact⟨(by show 1≤sizeLine;decide),fun a0 n0=>k1.refuse hM1 a0 n0⟩
  ·rw[Jtk hd hno e1] at k1
   refine⟨_,rfl,fld hm T.Jb6 T.Yk rfl ⟨rfl,_,rfl,JjZ (decide_eq_false (by intro z;cases z)) ?_⟩⟩
   refine⟨_,rfl,fld hm T.Jb6 T.Yk rfl ⟨_,rfl,p,c,N,lp,op,ls,os,j,ns,rws,cc,rfl,hO,hL,hC1,hcl,fun l H2 ls' os' FR nl2 hlq=>?_⟩⟩
   have ml:m∉ls:=fun q=>by
    obtain⟨y,d,e⟩:=hO.at_.ln.mem q
    rw[hm] at e
    injection e with e;injection e with _ _ e;injection e with e _;injection e with e _;exact absurd e (by decide)
   have mo:m∉os:=fun q=>by
    obtain⟨y,d,e⟩:=hO.at_.od.mem q
    rw[hm] at e
    injection e with e;injection e with _ _ e;injection e with e _;injection e with e _;exact absurd e (by decide)
   have mlp:m≠lp:=Q8 hm hO.at_.lls (by intro z;cases z)
   have mop:m≠op:=Q8 hm hO.at_.los (by intro z;cases z)
   refine k1 l H2 (p::lp::op::(ls'++os')) (.inr ⟨_,p,lp,op,ls',os',dm,rfl,JuW hL (JpD hd),FR.keep m _ hm mlp mop ml mo,FR.own,rfl⟩) (fun b o e _ hb=>?_) (fun b hb=>?_) nl2 hlq
   ·simp only[List.mem_cons,List.mem_append,not_or] at hb
    exact FR.keep b o e hb.2.1 hb.2.2.1 hb.2.2.2.1 hb.2.2.2.2
   ·simp only[List.mem_cons,List.mem_append] at hb⊢
    rcases hb with hb|hb|hb|hb|hb
    ·exact .inl (.inl hb)
    ·exact .inl (.inr (.inl hb))
    ·exact .inl (.inr (.inr (.inl hb)))
    ·rcases FR.newL b hb with q|q
     ·exact .inl (.inr (.inr (.inr (.inl q))))
     ·exact .inr q
    ·rcases FR.newO b hb with q|q
     ·exact .inl (.inr (.inr (.inr (.inr q))))
     ·exact .inr q
end
end Zm
namespace Zm
open PySem PySem.Spec PyProof.Rows L2
section
variable {P:Program} {w:World} {K:PySem.W.Frag} {mg:Str→Option Value} {base:Heap} {A:Adr}
theorem Jqy (T:Txt w K mg A):JF P w K mg base CX0 11 A.Jf0 A.Jb4 ["calls"] (JgN K):=by
 refine T.JiW.F.ok JbA (fun vs H Q E h=>?_) (fun cdv AA outer s H vs Q E hr h=>?_)
 ·obtain⟨a,ns,rfl,_⟩:=h
  rfl
 ·obtain⟨a,ns,rfl,hS,h16,hask,k⟩:=h
  obtain⟨cs,hcs,h200,hF⟩:=JpM hask
  have eA:=Jq0 hF hcs
  refine⟨_,(Jd (sA 1 JbA.nd (Jtz T.Jc8.md (Jla T) (hr.mono (by decide)) rfl T.JtM T.Jc8.b .nil JbJ))
   (Jd (sA 2 JbA.nd (Js Jc))
   (Jd (U3 PassesOwn.never rfl (Qi (cL (Jmd T) hr T.Jia (Ja (pv 0) Jc))) (gA 3 JbA.nd)
   (Jd (sA 4 JbA.nd (Vc (pv 1) T.Jb6 T.Ja1.me (Jit T) (hr.mono (by decide)) T.Ja1.b .nil JbJ (Ja (pv 3) Jc)))
   (Jd (U4 (Jdp PySem.F.plainAttrs_list PySem.F.slot_list_append PySem.F.type_list_append Wm (pv 2) (Ja (lN K T.Q9 (Ja (pv 4) Jc)) Jc)))
   (Jf (U4 (Jdp PySem.F.plainAttrs_list PySem.F.slot_list_extend PySem.F.type_list_extend Jiv (pv 2) (Ja (pv 4) Jc)))))))
   (Jf (Jl (pv 2)))))),?_⟩
  intro m dm nm ndm nmd
  refine⟨m,dm,rfl,Jb,fun H1 k1 hm=>⟨rfl,?_⟩⟩
  have s1:Jg H H1:=Jg.made nm ndm k1
  refine⟨(by show 0≤sizeLine;decide),fun t nt=>?_⟩
  have s2:Jg H1 (upd H1 t (.lst [])):=Jj nt
  have ht2:=Jb (H:=H1) (a:=t) (o:=.lst [])
  generalize upd H1 t (.lst [])=H2 at s2 ht2⊢
  have hm2:=s2 _ _ hm
  have tm:t≠m:=fun q=>by rw[q,hm] at nt;cases nt
  refine⟨_,rfl,a,ns,cs,rfl,SqL.same (s1.trans s2) hS,h16,hF,h200,fun l H3 as s3 nl hl hall=>?_⟩
  have hlen:(as.map V.ref).length=cs.length:=by rw[List.length_map,hall.len]
  have hm3:=s3 _ _ hm2
  have ht3:=s3 _ _ ht2
  have lm:l≠m:=fun q=>by rw[q,hm2] at nl;cases nl
  have lt:l≠t:=fun q=>by rw[q,ht2] at nl;cases nl
  refine⟨l,rfl,⟨_,SqL.of hl⟩,JaN (K:=K) (a:=l) (xs:=as.map V.ref) (fun i σ H'=>∃v3 v4 F,σ=[some (.ref a),some (.ref m),some (.ref t),v3,v4]∧Jhd A H' m (Jsb cs i) F∧H' t=some (.lst ((Jif cs i).map V.int))∧(Jif cs i).length≤301*i∧
    (∀b o,H3 b=some o→b≠m→b≠t→H' b=some o)∧∀b∈F,H3 b=none)
   ⟨none,none,[],rfl,.inl ⟨rfl,rfl,dm,hm3⟩,ht3,Nat.zero_le _,fun b o e _ _=>e,fun b h=>nomatch h⟩ (fun i σ H' _ ⟨_,_,_,_,_,_,_,kp,_⟩=>SqL.of (kp _ _ hl lm lt)) ?_ ?_⟩
  ·rintro i x σ H' hi ⟨v3,v4,F,rfl,hM,hT,hTl,kp,fr⟩
   obtain⟨c,hc,rfl⟩:=J1 hi
   obtain⟨call,hcall,hIs⟩:=hall.get hc
   have hi2:i<cs.length:=(List.getElem?_eq_some_iff.mp hcall).1
   have hIs':Jox A H' c call:=hIs H' fun b o e1 e2=>kp b o e2 (fun q=>by rw[q,hm2] at e1;cases e1) (fun q=>by rw[q,ht2] at e1;cases e1)
   have hSh:Jq1 call:=JiV.shaped _ (Nat.le_refl _) hF call (List.mem_of_getElem? hcall)
   have hL:=Jtl hM.live call
   obtain⟨dm',vm',hm'⟩:=hM.obj
   refine⟨_,rfl,m,_,_,rfl,hm',rfl,_,rfl,m,c,_,F,call,rfl,hM,hIs',hSh,fun r H4 F' hM4 kp4 fr4 nr hr4=>?_⟩
   have tF:t∉F:=fun q=>by have:=fr t q;rw[ht3] at this;cases this
   have tF':t∉F':=fun q=>by
    rcases fr4 t q with q|q
    ·exact tF q
    ·rw[hT] at q;cases q
   have ht4:=kp4 t _ hT tm tF
   have rt:r≠t:=fun q=>by rw[q,hT] at nr;cases nr
   have big:301*i+302≤sizeLine:=Nat.le_trans (show 301*i+302≤301*200+302 by omega) (by decide)
   refine⟨_,rfl,.inl ⟨rfl,_,SqL.of ht4⟩,_,rfl,r,_,rfl,.inl (SqL.of hr4),t,_,_,rfl,rfl,ht4,?_,?_⟩
   ·rw[List.length_map];omega
   refine⟨_,rfl,.inl ⟨rfl,_,SqL.of Jb⟩,_,rfl,t,r,_,_,rfl,rfl,Jb,(Jh rt).trans hr4,?_,?_⟩
   ·rw[List.length_append,List.length_map,List.length_map];show _+1+_≤_;omega
   refine⟨_,_,F',rfl,?_,?_,?_,fun b o e h1 h2=>?_,fun b hb=>?_⟩
   ·rw[Jsa hcall]
    refine hM4.congr fun b hb=>?_
    have:b≠t:=fun q=>by
     rcases hb with hb|hb
     ·exact tm (q.symm.trans hb)
     ·exact tF' (q▸hb)
    rw[Jh this,Jh this]
   ·rw[Jb,Ji0 hcall,List.map_append,List.map_cons,List.length_map]
    simp only[List.append_assoc,List.singleton_append]
   ·rw[Ji0 hcall,List.length_append,List.length_cons];omega
   ·rw[Jh h2,Jh h2]
    exact kp4 b o (kp b o e h1 h2) h1 fun q=>by have:=fr b q;rw[e] at this;cases this
   ·rcases fr4 b hb with q|q
    ·exact fr b q
    ·cases e:H3 b with
     |none=>rfl
     |some o=>
      exfalso
      by_cases h1:b=m
      ·rw[h1,hm'] at q;cases q
      ·by_cases h2:b=t
       ·rw[h2,hT] at q;cases q
       ·rw[kp b o e h1 h2] at q;cases q
  ·rintro σ H' ⟨v3,v4,F,rfl,hM,hT,hTl,kp,fr⟩
   refine⟨_,rfl,k H' t ?_⟩
   rw[hT,hlen]
   unfold Jif
   rw[List.take_length,eA]
end
end Zm
namespace L2
open PySem PySem.Spec PyProof.Rows
open PySem.W (WData Codec OpenSpec Well WellAll ReadsW ReadsAllW)
mutual
inductive Dw (K:PySem.W.Frag) (H:Hp):V→WData→Prop
 |non:Dw K H .non .none
 |bl (b:Bool):Dw K H (.bl b) (.bool b)
 |int (i:Int):Dw K H (.int i) (.int i)
 |str (x:Str):Dw K H (.str x) (.str x)
 |byt (b:Array UInt8):Dw K H (.byt b) (.bytes b.toList)
 |lst {a:Addr} {xs:List V} {ds:List WData}:SqL K H a xs→Jez K H xs ds→Dw K H (.ref a) (.list ds)
 |tup {a:Addr} {xs:List V} {ds:List WData}:SqT K H a xs→Jez K H xs ds→Dw K H (.ref a) (.tuple ds)
inductive Jez (K:PySem.W.Frag) (H:Hp):List V→List WData→Prop
 |nil:Jez K H [] []
 |cons {v:V} {vs:List V} {d:WData} {ds:List WData}:Dw K H v d→Jez K H vs ds→Jez K H (v::vs) (d::ds)
end
theorem JrK {K:PySem.W.Frag} {H:Hp}:∀ns:List Int,Jez K H (ns.map V.int) (ns.map WData.int)
 |[]=>.nil
 |n::r=>.cons (.int n) (JrK r)
theorem JrG {K:PySem.W.Frag} {H:Hp}:∀(ns:List Int) (xs:List V),Jez K H xs (ns.map WData.int)→xs=ns.map V.int
 |[],xs,h=>by
  cases h
  rfl
 |n::r,xs,h=>by
  cases h with
  |cons h1 h2=>
   cases h1
   rw[JrG r _ h2]<;>rfl
section
variable {P:Program} {w:World} {K:PySem.W.Frag} {H:Hp} {h:Heap} {R:PySem.W.WRecords} {cl:Str→Option Addr}
theorem JvT {a:Addr} {xs:List V} (hok:HOk P w H h) (KX:K.In h) (q:SqL K H a xs):∃(its:List Value) (o:Obj) (n:Nat),JY xs its∧h.get? a=some o∧o.cls=.type "list"∧o.data=.seq its.toArray n:=by
 rcases q with q|⟨o,its,n,e,hc,_,hd,_,hv⟩
 ·obtain⟨_,its,n,hv,e⟩:=(show YZ P w H h a (.lst xs) from q.ok hok)
  exact⟨its,_,n,hv,e,rfl,rfl⟩
 ·exact⟨its.toList,o,n,hv,KX _ _ e,hc,by simp[hd]⟩
theorem JvS {a:Addr} {xs:List V} (hok:HOk P w H h) (KX:K.In h) (q:SqT K H a xs):∃(its:List Value) (o:Obj) (n:Nat),JY xs its∧h.get? a=some o∧o.cls=.type "tuple"∧o.data=.seq its.toArray n:=by
 rcases q with q|⟨o,its,n,e,hc,hd,_,hv⟩
 ·obtain⟨_,its,hv,o,e,hc,n,hd⟩:=(show YZ P w H h a (.tup xs) from q.ok hok)
  exact⟨its,o,n,hv,e,hc,hd⟩
 ·exact⟨its.toList,o,n,hv,KX _ _ e,hc,by simp[hd]⟩
mutual
theorem Dw.reads (hok:HOk P w H h) (KX:K.In h):∀(d:WData) (v:V) (u:Value),Dw K H v d→JX v u→∃as,ReadsW R cl h u d as
 | .none,_,_,x,r=>by
  cases x
  cases r
  exact⟨_,ReadsW.none⟩
 | .bool b,_,_,x,r=>by
  cases x
  cases r
  exact⟨_,ReadsW.bool b⟩
 | .int i,_,_,x,r=>by
  cases x
  obtain⟨t,rfl⟩:=r
  exact⟨_,ReadsW.int i t⟩
 | .str s,_,_,x,r=>by
  cases x
  obtain⟨t,rfl⟩:=r
  exact⟨_,ReadsW.str s t⟩
 | .bytes b,_,_,x,r=>by
  cases x
  obtain⟨t,rfl⟩:=r
  exact⟨_,ReadsW.bytes _ t⟩
 | .list ds,_,_,x,r=>by
  cases x with
  |lst hs ha=>
   cases r
   obtain⟨its,o,n,rv,ho,hc,hd⟩:=JvT hok KX hs
   obtain⟨as,hr⟩:=Dw.readsAll hok KX ds _ its ha rv
   exact⟨_,ReadsW.list ho hc hd hr⟩
 | .tuple ds,_,_,x,r=>by
  cases x with
  |tup hs ha=>
   cases r
   obtain⟨its,o,n,rv,ho,hc,hd⟩:=JvS hok KX hs
   obtain⟨as,hr⟩:=Dw.readsAll hok KX ds _ its ha rv
   exact⟨_,ReadsW.tuple ho hc hd hr⟩
 | .float _,_,_,x,_=>by cases x
 | .dict _,_,_,x,_=>by cases x
 | .bytearray _,_,_,x,_=>by cases x
 | .set _,_,_,x,_=>by cases x
 | .frozenset _,_,_,x,_=>by cases x
 | .obj _ _,_,_,x,_=>by cases x
theorem Dw.readsAll (hok:HOk P w H h) (KX:K.In h):∀(ds:List WData) (vs:List V) (us:List Value),Jez K H vs ds→JY vs us→∃as,ReadsAllW R cl h us ds as
 |[],_,_,x,r=>by
  cases x
  cases r
  exact⟨_,ReadsAllW.nil⟩
 |d::ds,_,_,x,r=>by
  cases x with
  |cons h1 h2=>
   cases r with
   |cons r1 r2=>
    obtain⟨as,q1⟩:=Dw.reads hok KX d _ _ h1 r1
    obtain⟨bs,q2⟩:=Dw.readsAll hok KX ds _ _ h2 r2
    exact⟨_,ReadsAllW.cons q1 q2⟩
end
end
mutual
noncomputable def plW:WData→Bool
 | .none=>true
 | .bool _=>true
 | .int _=>true
 | .str _=>true
 | .bytes _=>true
 | .list xs=>JjL xs
 | .tuple xs=>JjL xs
 |_=>false
noncomputable def JjL:List WData→Bool
 |[]=>true
 |x::r=>plW x&&JjL r
end
theorem Jpa {α:Type} {f:α→WData} (h:∀a,plW (f a)=true):∀l:List α,JjL (l.map f)=true
 |[]=>rfl
 |x::r=>by
  show(plW (f x)&&JjL (r.map f))=true
  rw[h x,Jpa h r]<;>rfl
theorem JeW:∀(c:Codec) (a:c.denote),plW (c.enc a)=true
 | .unit,_=>rfl
 | .bool,_=>rfl
 | .int _ _,_=>rfl
 | .nat _ _,_=>rfl
 | .u8,_=>rfl
 | .bytes _ _,_=>rfl
 | .text _ _ _ _,_=>rfl
 | .list _ _ c,a=>Jpa (fun x=>JeW c x) a
 | .pair c d,a=>by
  show(plW (c.enc a.1)&&(plW (d.enc a.2)&&true))=true
  rw[JeW c a.1,JeW d a.2]<;>rfl
 | .triple c d e,a=>by
  show(plW (c.enc a.1)&&(plW (d.enc a.2.1)&&(plW (e.enc a.2.2)&&true)))=true
  rw[JeW c a.1,JeW d a.2.1,JeW e a.2.2]<;>rfl
 | .option c,none=>rfl
 | .option c,some x=>JeW c x
theorem JmK:∀(cs:List Codec) (a:Codec.denoteAll cs),JjL (Codec.encAll cs a)=true
 |[],_=>rfl
 |c::cs,a=>by
  show(plW (c.enc a.1)&&JjL (Codec.encAll cs a.2))=true
  rw[JeW c a.1,JmK cs a.2]<;>rfl
theorem JgI:∀{xs:List WData} {d:WData},d∈xs→d.weight≤WData.weightAll xs
 |[],d,h=>absurd h (by simp)
 |x::r,d,h=>by
  show d.weight≤x.weight+1+WData.weightAll r
  rcases List.mem_cons.mp h with e|m
  ·rw[e]
   omega
  ·have z:=JgI m
   omega
noncomputable def toV:Value→V
 | .none=>.non
 | .bool b=>.bl b
 | .int i _=>.int i
 | .str x _=>.str x
 | .bytes b _=>.byt b
 | .ref a=>.ref a
 |_=>.non
noncomputable def OkU (A:List Addr):Value→Prop
 | .none=>True
 | .bool _=>True
 | .int _ _=>True
 | .str _ _=>True
 | .bytes _ _=>True
 | .ref a=>a∈A
 |_=>False
theorem OkU.mono {A B:List Addr} (h:∀a∈A,a∈B):∀{u:Value},OkU A u→OkU B u:=fun {u} x=>by
 cases u with
 |ref a=>exact h a x
 |none=>trivial
 |bool b=>trivial
 |int i t=>trivial
 |str s t=>trivial
 |bytes b t=>trivial
 |_=>exact False.elim x
theorem Jtq {A:List Addr} {u:Value} (x:OkU A u):JX (toV u) u:=by
 cases u with
 |ref a=>rfl
 |none=>rfl
 |bool b=>rfl
 |int i t=>exact⟨t,rfl⟩
 |str s t=>exact⟨t,rfl⟩
 |bytes b t=>exact⟨t,rfl⟩
 |_=>exact False.elim x
theorem Jda {A:List Addr}:∀{vs:List Value},(∀u∈vs,OkU A u)→JY (vs.map toV) vs
 |[],_=>.nil
 |u::r,h=>.cons (Jtq (h u (List.mem_cons_self ..))) (Jda fun x hx=>h x (List.mem_cons_of_mem _ hx))
noncomputable def JeA (h:Heap) (A:List Addr) (a:Addr):Prop:=∃vs:List Value,vs.length≤sizeLine∧(∀u∈vs,OkU A u)∧
 (h.get? a=some {cls:=.type "list",data:=.seq vs.toArray}∨h.get? a=some {cls:=.type "tuple",data:=.seq vs.toArray})
theorem JeA.mono {h:Heap} {A B:List Addr} {a:Addr} (k:∀a∈A,a∈B) (x:JeA h A a):JeA h B a:=by
 obtain⟨vs,h1,h2,h3⟩:=x
 exact⟨vs,h1,fun u hu=>(h2 u hu).mono k,h3⟩
theorem Jci {P:Params} {h:Heap}:∀{vs:List Value} {ds:List WData},WellAll P h vs ds→vs.length=ds.length
 |_,_,.nil=>rfl
 |_,_,.cons _ b=>by
  show _+1=_+1
  rw[Jci b]
theorem Jmx {P:Params} {h:Heap} {v:Value} {ds:List WData} (x:Well P h v (.list ds)):∃(a:Addr) (vs:List Value),v=.ref a∧h.get? a=some {cls:=.type "list",data:=.seq vs.toArray}∧WellAll P h vs ds:=by
 cases x with
 |list ho hall=>exact⟨_,_,rfl,ho,hall⟩
theorem Jkv {P:Params} {h:Heap} {v:Value} {ds:List WData} (x:Well P h v (.tuple ds)):∃(a:Addr) (vs:List Value),v=.ref a∧h.get? a=some {cls:=.type "tuple",data:=.seq vs.toArray}∧WellAll P h vs ds:=by
 cases x with
 |tuple ho hall=>exact⟨_,_,rfl,ho,hall⟩
theorem Jmy {P:Params} {h:Heap} {us:List Value} {d:WData} {ds:List WData} (x:WellAll P h us (d::ds)):∃(v:Value) (vs:List Value),us=v::vs∧Well P h v d∧WellAll P h vs ds:=by
 cases x with
 |cons a b=>exact⟨_,_,rfl,a,b⟩
theorem JrA {n:Nat} (h:n≤1048576):n≤sizeLine:=Nat.le_trans h (by decide)
section
variable {P:Params} {h:Heap}
mutual
theorem Jug:∀(d:WData) (v:Value),Well P h v d→plW d=true→d.weight≤1048576→∃A:List Addr,OkU A v∧∀a∈A,JeA h A a
 | .none,_,x,_,_=>by
  cases x
  exact⟨[],trivial,fun a m=>absurd m (by simp)⟩
 | .bool b,_,x,_,_=>by
  cases x
  exact⟨[],trivial,fun a m=>absurd m (by simp)⟩
 | .int i,_,x,_,_=>by
  cases x
  exact⟨[],trivial,fun a m=>absurd m (by simp)⟩
 | .str s,_,x,_,_=>by
  cases x
  exact⟨[],trivial,fun a m=>absurd m (by simp)⟩
 | .bytes b,_,x,_,_=>by
  cases x
  exact⟨[],trivial,fun a m=>absurd m (by simp)⟩
 | .list ds,_,x,p,z=>by
  obtain⟨a,vs,rfl,ho,hall⟩:=Jmx x
  have z2:WData.weightAll ds≤1048576:=z
  obtain⟨A,h1,h2⟩:=JhY ds _ hall p fun d hd=>Nat.le_trans (JgI hd) z2
  have k:∀b∈A,b∈a::A:=fun b hb=>List.mem_cons_of_mem _ hb
  refine⟨a::A,List.mem_cons_self ..,fun b hb=>?_⟩
  rcases List.mem_cons.mp hb with e|m
  ·rw[e]
   exact⟨vs,JrA (by rw[Jci hall];exact Nat.le_trans (PySem.W.length_le_weightAllW ds) z2),fun u hu=>(h1 u hu).mono k,.inl ho⟩
  ·exact(h2 b m).mono k
 | .tuple ds,_,x,p,z=>by
  obtain⟨a,vs,rfl,ho,hall⟩:=Jkv x
  have z2:WData.weightAll ds≤1048576:=z
  obtain⟨A,h1,h2⟩:=JhY ds _ hall p fun d hd=>Nat.le_trans (JgI hd) z2
  have k:∀b∈A,b∈a::A:=fun b hb=>List.mem_cons_of_mem _ hb
  refine⟨a::A,List.mem_cons_self ..,fun b hb=>?_⟩
  rcases List.mem_cons.mp hb with e|m
  ·rw[e]
   exact⟨vs,JrA (by rw[Jci hall];exact Nat.le_trans (PySem.W.length_le_weightAllW ds) z2),fun u hu=>(h1 u hu).mono k,.inr ho⟩
  ·exact(h2 b m).mono k
 | .float _,_,_,p,_=>Bool.noConfusion (show false=true from p)
 | .dict _,_,_,p,_=>Bool.noConfusion (show false=true from p)
 | .bytearray _,_,_,p,_=>Bool.noConfusion (show false=true from p)
 | .set _,_,_,p,_=>Bool.noConfusion (show false=true from p)
 | .frozenset _,_,_,p,_=>Bool.noConfusion (show false=true from p)
 | .obj _ _,_,_,p,_=>Bool.noConfusion (show false=true from p)
theorem JhY:∀(ds:List WData) (vs:List Value),WellAll P h vs ds→JjL ds=true→(∀d∈ds,d.weight≤1048576)→∃A:List Addr,(∀u∈vs,OkU A u)∧∀a∈A,JeA h A a
 |[],_,x,_,_=>by
  cases x
  exact⟨[],fun u m=>absurd m (by simp),fun a m=>absurd m (by simp)⟩
 |d::ds,_,x,p,z=>by
  obtain⟨v,vs,rfl,x1,x2⟩:=Jmy x
  have q:plW d=true∧JjL ds=true:=Bool.and_eq_true_iff.mp p
  obtain⟨A,a1,a2⟩:=Jug d v x1 q.1 (z d (List.mem_cons_self ..))
  obtain⟨B,b1,b2⟩:=JhY ds vs x2 q.2 fun e he=>z e (List.mem_cons_of_mem _ he)
  have kA:∀b∈A,b∈A++B:=fun b hb=>List.mem_append.mpr (.inl hb)
  have kB:∀b∈B,b∈A++B:=fun b hb=>List.mem_append.mpr (.inr hb)
  refine⟨A++B,fun u hu=>?_,fun b hb=>?_⟩
  ·rcases List.mem_cons.mp hu with e|m
   ·rw[e]
    exact a1.mono kA
   ·exact(b1 u m).mono kB
  ·rcases List.mem_append.mp hb with m|m
   ·exact(a2 b m).mono kA
   ·exact(b2 b m).mono kB
end
end
noncomputable def Ju5 (o:Obj):Option HO:=match o.data with
 | .seq vs _=>if(o.cls==Value.type "list")=true then some (.frz o (.lst (vs.toList.map toV))) else some (.frz o (.tup (vs.toList.map toV)))
 |_=>none
noncomputable def Jd2 (K:PySem.W.Frag) (h:Heap) (A:List Addr):Hp:=fun b=>if b∈A then(if(K.lookup b).isNone=true then(h.get? b).bind Ju5 else none) else none
noncomputable def JpQ (H:Hp):Prop:=∀b,H b=none∨∃o u,H b=some (.frz o u)
theorem JpB (vs:List Value):Ju5 {cls:=.type "list",data:=.seq vs.toArray}=some (.frz {cls:=.type "list",data:=.seq vs.toArray} (.lst (vs.map toV))):=by
 show(if(Value.type "list"==Value.type "list")=true then some (HO.frz {cls:=.type "list",data:=.seq vs.toArray} (.lst (vs.toArray.toList.map toV))) else some (HO.frz {cls:=.type "list",data:=.seq vs.toArray} (.tup (vs.toArray.toList.map toV))))=_
 rw[if_pos (beq_self_eq_true _)]
theorem JpA (vs:List Value):Ju5 {cls:=.type "tuple",data:=.seq vs.toArray}=some (.frz {cls:=.type "tuple",data:=.seq vs.toArray} (.tup (vs.map toV))):=by
 show(if(Value.type "tuple"==Value.type "list")=true then some (HO.frz {cls:=.type "tuple",data:=.seq vs.toArray} (.lst (vs.toArray.toList.map toV))) else some (HO.frz {cls:=.type "tuple",data:=.seq vs.toArray} (.tup (vs.toArray.toList.map toV))))=_
 rw[if_neg (by decide)]
section
variable {P:Program} {w:World} {K:PySem.W.Frag} {h:Heap} {A:List Addr}
theorem Jkt {b:Addr} {o:Obj} (hb:b∈A) (hk:K.lookup b=none) (e:h.get? b=some o):Jd2 K h A b=Ju5 o:=by
 unfold Jd2
 rw[if_pos hb,hk,if_pos (show(none:Option Obj).isNone=true from rfl),e]<;>rfl
theorem JuQ {b:Addr} {u:HO} (q:Jd2 K h A b=some u):b∈A∧K.lookup b=none:=by
 unfold Jd2 at q
 by_cases hb:b∈A
 ·rw[if_pos hb] at q
  cases hk:K.lookup b with
  |none=>exact⟨hb,rfl⟩
  |some o=>
   rw[hk,if_neg (by simp)] at q
   cases q
 ·rw[if_neg hb] at q
  cases q
theorem Jks (ar:∀a∈A,JeA h A a) {b:Addr} {u:HO} (q:Jd2 K h A b=some u):K.lookup b=none∧∃vs:List Value,vs.length≤sizeLine∧(∀u∈vs,OkU A u)∧
  ((h.get? b=some {cls:=.type "list",data:=.seq vs.toArray}∧u=.frz {cls:=.type "list",data:=.seq vs.toArray} (.lst (vs.map toV)))∨(h.get? b=some {cls:=.type "tuple",data:=.seq vs.toArray}∧u=.frz {cls:=.type "tuple",data:=.seq vs.toArray} (.tup (vs.map toV)))):=by
 obtain⟨hb,hk⟩:=JuQ q
 obtain⟨vs,h1,h2,h3⟩:=ar b hb
 refine⟨hk,vs,h1,h2,?_⟩
 rcases h3 with e|e
 ·rw[Jkt hb hk e,JpB] at q
  exact .inl ⟨e,(Option.some.inj q).symm⟩
 ·rw[Jkt hb hk e,JpA] at q
  exact .inr ⟨e,(Option.some.inj q).symm⟩
theorem JsZ (ar:∀a∈A,JeA h A a):JpQ (Jd2 K h A):=fun b=>by
 cases q:Jd2 K h A b with
 |none=>exact .inl rfl
 |some u=>
  obtain⟨_,vs,_,_,⟨_,e⟩|⟨_,e⟩⟩:=Jks ar q
  ·exact .inr ⟨_,_,by rw[e]⟩
  ·exact .inr ⟨_,_,by rw[e]⟩
theorem Jvn (ar:∀a∈A,JeA h A a):HOk P w (Jd2 K h A) h:=fun b u q=>by
 obtain⟨_,vs,h1,h2,⟨e,rfl⟩|⟨e,rfl⟩⟩:=Jks ar q
 ·exact⟨e,by rw[List.length_map];exact h1,vs,_,Jda h2,e⟩
 ·exact⟨e,by rw[List.length_map];exact h1,vs,Jda h2,_,e,rfl,_,rfl⟩
theorem Jj9 {c c':Value} {vs us:List Value} (e:(some {cls:=c,data:=.seq vs.toArray}:Option Obj)=some {cls:=c',data:=.seq us.toArray}):c=c'∧vs=us:=by
 have e1:=Option.some.inj e
 have e2:c=c':=congrArg Obj.cls e1
 have e3:Data.seq vs.toArray=Data.seq us.toArray:=congrArg Obj.data e1
 injection e3 with e4
 refine⟨e2,?_⟩
 have e5:=congrArg Array.toList e4
 simpa using e5
theorem Jxz (KX:K.In h) (ar:∀a∈A,JeA h A a) {a:Addr} {vs:List Value} (ha:a∈A) (e:h.get? a=some {cls:=.type "list",data:=.seq vs.toArray}):(∀u∈vs,OkU A u)∧SqL K (Jd2 K h A) a (vs.map toV):=by
 obtain⟨us,h1,h2,h3⟩:=ar a ha
 have hu:us=vs:=by
  rcases h3 with q|q
  ·rw[e] at q
   exact(Jj9 q).2.symm
  ·rw[e] at q
   exact absurd (Value.type.inj (Jj9 q).1) (by decide)
 subst hu
 refine⟨h2,?_⟩
 cases hk:K.lookup a with
 |none=>exact .inl (.inr ⟨_,by rw[Jkt ha hk e,JpB]⟩)
 |some o=>
  have e2:=KX a o hk
  rw[e] at e2
  obtain rfl:=Option.some.inj e2
  exact .inr ⟨_,us.toArray,_,hk,rfl,rfl,rfl,by rw[List.size_toArray];exact h1,by simpa using Jda h2⟩
theorem Jxy (KX:K.In h) (ar:∀a∈A,JeA h A a) {a:Addr} {vs:List Value} (ha:a∈A) (e:h.get? a=some {cls:=.type "tuple",data:=.seq vs.toArray}):(∀u∈vs,OkU A u)∧SqT K (Jd2 K h A) a (vs.map toV):=by
 obtain⟨us,h1,h2,h3⟩:=ar a ha
 have hu:us=vs:=by
  rcases h3 with q|q
  ·rw[e] at q
   exact absurd (Value.type.inj (Jj9 q).1) (by decide)
  ·rw[e] at q
   exact(Jj9 q).2.symm
 subst hu
 refine⟨h2,?_⟩
 cases hk:K.lookup a with
 |none=>exact .inl (.inr ⟨_,by rw[Jkt ha hk e,JpA]⟩)
 |some o=>
  have e2:=KX a o hk
  rw[e] at e2
  obtain rfl:=Option.some.inj e2
  exact .inr ⟨_,us.toArray,_,hk,rfl,rfl,by rw[List.size_toArray];exact h1,by simpa using Jda h2⟩
mutual
theorem Jwm {Pm:Params} (KX:K.In h) (ar:∀a∈A,JeA h A a):∀(d:WData) (v:Value),Well Pm h v d→plW d=true→OkU A v→Dw K (Jd2 K h A) (toV v) d
 | .none,_,x,_,_=>by
  cases x
  exact .non
 | .bool b,_,x,_,_=>by
  cases x
  exact .bl b
 | .int i,_,x,_,_=>by
  cases x
  exact .int i
 | .str s,_,x,_,_=>by
  cases x
  exact .str s
 | .bytes b,_,x,_,_=>by
  cases x
  have z:=Dw.byt (K:=K) (H:=Jd2 K h A) b.toArray
  exact z
 | .list ds,_,x,p,hu=>by
  obtain⟨a,vs,rfl,ho,hall⟩:=Jmx x
  obtain⟨h2,hs⟩:=Jxz KX ar hu ho
  exact .lst hs (Jn9 KX ar ds _ hall p h2)
 | .tuple ds,_,x,p,hu=>by
  obtain⟨a,vs,rfl,ho,hall⟩:=Jkv x
  obtain⟨h2,hs⟩:=Jxy KX ar hu ho
  exact .tup hs (Jn9 KX ar ds _ hall p h2)
 | .float _,_,_,p,_=>Bool.noConfusion (show false=true from p)
 | .dict _,_,_,p,_=>Bool.noConfusion (show false=true from p)
 | .bytearray _,_,_,p,_=>Bool.noConfusion (show false=true from p)
 | .set _,_,_,p,_=>Bool.noConfusion (show false=true from p)
 | .frozenset _,_,_,p,_=>Bool.noConfusion (show false=true from p)
 | .obj _ _,_,_,p,_=>Bool.noConfusion (show false=true from p)
theorem Jn9 {Pm:Params} (KX:K.In h) (ar:∀a∈A,JeA h A a):∀(ds:List WData) (vs:List Value),WellAll Pm h vs ds→JjL ds=true→(∀u∈vs,OkU A u)→Jez K (Jd2 K h A) (vs.map toV) ds
 |[],_,x,_,_=>by
  cases x
  exact .nil
 |d::ds,_,x,p,hu=>by
  obtain⟨v,vs,rfl,x1,x2⟩:=Jmy x
  have q:plW d=true∧JjL ds=true:=Bool.and_eq_true_iff.mp p
  exact .cons (Jwm KX ar d v x1 q.1 (hu _ (List.mem_cons_self ..))) (Jn9 KX ar ds vs x2 q.2 fun u m=>hu u (List.mem_cons_of_mem _ m))
end
end
theorem Jsc {P:Program} {w:World} {K:PySem.W.Frag} {mg mb:Str→Option Value} {CX:CXT} {k:Nat} {fa:Addr} {fd:FuncData} {ps:List Str} {sp:Sp} {s₁:Shared} {vals:List Value} {ds:List WData} {R:PySem.W.WRecords} {cl:Str→Option Addr} {d0:WData}
  (KX:K.In s₁.heap) (hns:s₁.heap.Ns mainGlobals mg) (hb:s₁.heap.Ns builtinsNs mb) (hbb:∀x:Str,x≠"__name__"→mb x=bootBuiltins x) (hlim:s₁.heap.NoLimit) (hg:s₁.gens=#[])
  (hwl:WellAll w.params s₁.heap vals ds) (hpl:JjL ds=true) (hwt:∀d∈ds,d.weight≤1048576) (hr:JaR k callerA)
  (F:∀base:Heap,K.In base→base.Ns mainGlobals mg→JF P w K mg base CX k fa fd ps sp) (hbind:∀(s:Shared) (us:List Value),us.length=ps.length→BindsTo s fd ⟨us,[]⟩ (ps.zip us)) (hlen:ds.length=ps.length)
  (hsp:∀(H:Hp) (xs:List V),JpQ H→Jez K H xs ds→sp xs H (fun v H'=>Dw K H' v d0) fun _ _ _=>False)
  (hCX:∀H e s',CX [] H s₁ (fun _ _ _=>False) e s'→False):
  codeAny (model P w) callerA (.call (.ref fa) ⟨vals,[]⟩) (fun r s'=>∃u as,r=.ok (.ret u)∧ReadsW R cl s'.heap u d0 as∧OldK s₁.heap s'.heap∧s'.os=s₁.os∧AllBare s'.gens) s₁:=by
 obtain⟨A,ho,ar⟩:=JhY ds vals hwl hpl hwt
 have hO:JpQ (Jd2 K s₁.heap A):=JsZ ar
 have hok:HOk P w (Jd2 K s₁.heap A) s₁.heap:=Jvn ar
 have hS:=Jn9 KX ar ds vals hwl hpl ho
 have hV:=Jda ho
 have hK:∀b u,Jd2 K s₁.heap A b=some u→K.lookup b=none:=fun b u q=>(Jks ar q).1
 have noA:∀{b:Addr} {o:Obj} {es:Array DictEntry} {ep:Nat},s₁.heap.get? b=some o→o.data=.dict es ep→Jd2 K s₁.heap A b=none:=fun {b o es ep} e d=>by
  cases q:Jd2 K s₁.heap A b with
  |none=>rfl
  |some u=>
   obtain⟨_,vs,_,_,⟨e2,_⟩|⟨e2,_⟩⟩:=Jks ar q
   ·rw[e2] at e
    cases e
    have d':Data.seq vs.toArray _=Data.dict es ep:=d
    cases d'
   ·rw[e2] at e
    cases e
    have d':Data.seq vs.toArray _=Data.dict es ep:=d
    cases d'
 generalize Jd2 K s₁.heap A=H at hO hok hS hK noA
 have base_of:∀{b:Addr} {o:Obj},s₁.heap.get? b=some o→H b=none→(Jn4 s₁.heap H).get? b=some o:=fun e n=>JtP e n
 have nsK:∀{b:Addr} {m:Str→Option Value},s₁.heap.Ns b m→(Jn4 s₁.heap H).Ns b m:=fun {b m} ⟨o,es,ep,e,d,r⟩=>⟨o,es,ep,base_of e (noA e d),d,r⟩
 have nK:∀b o,K.lookup b=some o→H b=none:=fun b o e=>by
  cases q:H b with
  |none=>rfl
  |some u=>
   rw[hK b u q] at e
   cases e
 have hKb:K.In (Jn4 s₁.heap H):=fun b o e=>base_of (KX b o e) (nK b o e)
 have hM:Mod K mg (Jn4 s₁.heap H):=⟨hKb,nsK hns,⟨mb,nsK hb,hbb⟩,let⟨mc,h1,h2⟩:=hlim;⟨mc,nsK h1,h2⟩⟩
 have e0:Jrf P w K mg (Jn4 s₁.heap H) callerA [] s₁ H:=⟨rfl,hM,fun b o e=>JuP e,Nat.le_of_eq (JsD _ _),trivial,fun b hb=>absurd (show b∈([]:List Addr) from hb) (by simp),hok,.of_eq hg⟩
 have hl:vals.length=ps.length:=by rw[Jci hwl];exact hlen
 refine codeAny_mono ((F _ hKb (nsK hns)).run callerA [] s₁ H ⟨vals,[]⟩ vals (vals.map toV) _ _ hr e0 (hbind s₁ vals hl) hV (hsp H _ hO hS)) fun r s' x=>?_
 cases r with
 |error e=>exact(hCX H e s' x).elim
 |ok fl=>
  cases fl with
  |next=>exact False.elim x
  |brk=>exact False.elim x
  |cont=>exact False.elim x
  |ret u=>
   obtain⟨v,H',os,bare,un,hok',r',q⟩:=x
   have kept:∀b o,s₁.heap.get? b=some o→s'.heap.get? b=some o:=fun b o e=>by
    cases q2:H b with
    |none=>exact un.keep b o e q2 (by intro z;exact absurd (show b∈([]:List Addr) from z) (by simp)) (by simp)
    |some u2=>
     rcases hO b with z|⟨ob,u3,z⟩
     ·rw[q2] at z
      cases z
     ·have z2:=un.frzs b ob _ z
      obtain⟨e1,_⟩:=hok b _ z
      obtain⟨e2,_⟩:=hok' b _ z2
      rw[e] at e1
      cases e1
      exact e2
   have KX':K.In s'.heap:=fun b o e=>kept b o (KX b o e)
   obtain⟨as,hrd⟩:=Dw.reads (R:=R) (cl:=cl) hok' KX' d0 v u q r'
   exact⟨u,as,rfl,hrd,OldK.of_keep kept,os,bare⟩
theorem Jlm {ds:List WData} (h:WData.layableAll ds=true):∀d∈ds,d.weight≤1048576:=fun d hd=>
 (PySem.W.layableW_iff.mp (List.all_eq_true.mp h d hd)).2.2
theorem Jlu:∀(cs:List Codec) (a:Codec.denoteAll cs),(Codec.encAll cs a).length=cs.length
 |[],_=>rfl
 |c::cs,a=>by
  show(Codec.encAll cs a.2).length+1=cs.length+1
  rw[Jlu cs a.2]
theorem JrX {r:OpenSpec} {k:Nat} {q:Program} {loose:List Str} {XP:(Str→Option Value)→Heap→Prop} {YP:World→Heap→Prop} {d:DefRec} {K:Params→PySem.W.Frag} {CX:World→CXT} {ps:List Str} {sp:World→Sp}
  (hwell:r.wellSaid=true) (hdf:d.params.defaults=[]) (hlen:r.args.length=ps.length) (hr:JaR k callerA)
  (hY:∀(w:World) (h:Heap),YP w h→(K w.params).In h)
  (F:∀(w:World) (mg:Str→Option Value) (fa:Addr) (h:Heap),YP w h→(K w.params).In h→h.Ns mainGlobals mg→mg d.name=some (.ref fa)→
   ∃fd:FuncData,(∀(s:Shared) (us:List Value),us.length=ps.length→BindsTo s fd ⟨us,[]⟩ (ps.zip us))∧
    ∀base:Heap,(K w.params).In base→base.Ns mainGlobals mg→JF r.prog w (K w.params) mg base (CX w) k fa fd ps (sp w))
  (hsp:∀(w:World) (H:Hp) (xs:List V) (a:Codec.denoteAll r.args),JpQ H→Codec.withinAll r.args a=true→Codec.app r.args r.asked a=true→Jez (K w.params) H xs (Codec.encAll r.args a)→
   sp w xs H (fun v H'=>Dw (K w.params) H' v (r.ret.enc (Codec.app r.args r.f a))) fun _ _ _=>False)
  (hCX:∀(w:World) (H:Hp) (s:Shared) (e:Value) (s':Shared),CX w [] H s (fun _ _ _=>False) e s'→False):
  PySem.W.WalkOS q loose XP YP r d [] (fun f vs=>PySem.call f vs):=by
 intro w s_0 s₁ mg mb G Y fa o pm cd doc dV kV ho hd hcd hD hmg hg args vals as hpre hlay hrd hwl hlo
 obtain⟨a,e1,e2⟩:=PySem.W.os_pre_some hpre
 obtain⟨e3,hwi⟩:=Codec.encAll_of_decAll r.args args a e1
 subst e3
 have KX:=hY w _ Y
 obtain⟨fd,hb,hF⟩:=F w mg fa _ Y KX G.T.g hmg
 refine PySem.W.enter_call (codeAny_mono (Jsc (R:=[]) (cl:=classAt s_0.heap) (d0:=r.ret.enc (Codec.app r.args r.f a)) KX G.T.g G.T.b G.T.builtins G.T.nolimit hg hwl (JmK _ _) (Jlm hlay) hr hF hb (by rw[Jlu];exact hlen)
  (fun H xs hO hS=>hsp w H xs a hO hwi e2 hS) fun H e s'=>hCX w H s₁ e s') fun r' s' hq=>?_)
 obtain⟨u,as',rfl,h1,h2,h3,h4⟩:=hq
 exact⟨.inl ⟨u,_,as',rfl,fun _=>rfl,h1,(OpenSpec.post_iff hwell hwi _ _).mpr rfl,fun z=>Bool.noConfusion (show false=true from z)⟩,h2,h3,h4⟩
theorem Jp2 {r:OpenSpec} {k:Nat} {q:Program} {loose:List Str} {XP:(Str→Option Value)→Heap→Prop} {YP:World→Heap→Prop} {d:DefRec} {K:Params→PySem.W.Frag} {CX:CXT} {ps:List Str} {sp:PySem.W.Frag→Sp}
  (hwell:r.wellSaid=true) (hdf:d.params.defaults=[]) (hlen:r.args.length=ps.length) (hr:JaR k callerA)
  (hY:∀(w:World) (h:Heap),YP w h→(K w.params).In h)
  (F:∀(w:World) (mg:Str→Option Value) (fa:Addr) (h:Heap),YP w h→(K w.params).In h→h.Ns mainGlobals mg→mg d.name=some (.ref fa)→
   ∃fd:FuncData,(∀(s:Shared) (us:List Value),us.length=ps.length→BindsTo s fd ⟨us,[]⟩ (ps.zip us))∧
    ∀base:Heap,(K w.params).In base→base.Ns mainGlobals mg→JF r.prog w (K w.params) mg base CX k fa fd ps (sp (K w.params)))
  (hsp:∀(K:PySem.W.Frag) (H:Hp) (xs:List V) (a:Codec.denoteAll r.args),JpQ H→Codec.withinAll r.args a=true→Codec.app r.args r.asked a=true→Jez K H xs (Codec.encAll r.args a)→
   sp K xs H (fun v H'=>Dw K H' v (r.ret.enc (Codec.app r.args r.f a))) fun _ _ _=>False)
  (hCX:∀(H:Hp) (s:Shared) (e:Value) (s':Shared),CX [] H s (fun _ _ _=>False) e s'→False):
  PySem.W.WalkOS q loose XP YP r d [] (fun f vs=>PySem.call f vs):=
 JrX (K:=K) (CX:=fun _=>CX) (sp:=fun w=>sp (K w.params)) hwell hdf hlen hr hY F (fun w H xs a h1 h2 h3 h4=>hsp (K w.params) H xs a h1 h2 h3 h4) fun _ H s e s'=>hCX H s e s'
end L2
structure PySem.W.Fast:Prop where
 (tw17375524233016027444 tw4781261391333875456 tw10768872859938321312 tw13127378512872213345 tw3652412054337397059 tw12569691295015572356 tw15306483445187955461 tw15456626970177277351 tw9380547226828529415 tw14975857861770937512 tw1811897001737867273 tw11338826310216336265 tw4802307292744719786 tw14785216262649880748 tw7615995578258230476 tw4576687904854055372 tw12319516104119231533 tw18367535414335595757 tw6990341473405524397 tw6945746230045054990 tw6927636489663441135 tw9500053711188823056 tw4469618553700671536 tw1423910267775229104 tw14360489300366792080 tw341090245038939760 tw3770475286190907409 tw3070808558571857041 tw15042212538233200113 tw12319403806770631794 tw11196727114096895187 tw10889908331110130163 tw16678539547082697267 tw6174434686917556211 tw14449951707646191893 tw1028978575033164630 tw15437604688618455351 tw16478943300842718167 tw4732224089386737400 tw11880768545996974522 tw12172797601577356858 tw16966270223045523804 tw14600244426923242046 tw8707557299070433778 tw9239411883854987158 tw3083029314411122833 tw16447117651964642177 tw15340222516405758446 tw17175947439624520766 tw11363149798214344860 tw14538614068104280057 tw12315129036577280900 tw1662986727859781799 tw6113640822221955367 tw10703058399717512567 tw6474541356464256998 tw7851627971477572201 tw11097272441425883349 tw16796039315215842213 tw18374708162731523406 tw17474247012266097011 tw14230640727673717522 tw12039129029276312436 tw5871385795347482290 tw8766590104039607431 tw11454012176005566048 tw3134605149539021889 tw16647101398914773178 tw17369247291023465905 tw5778777703124840414 tw8712182936094020889 tw17026395147397204109 tw14094967543113398738 tw12061442534283808710 tw13467654983872999425 tw9376582449391848037 tw13025131014763313347 tw15584666862269608461 tw14175573216892685665 tw1255654648284798919 tw3072431349564948732 tw12177784337447708219 tw10432846811024636701 tw11103232309699202800 tw8878157971235054169 tw17989795054428614349 tw436738733013379857 tw16752484644937447204 tw1626364478691397696 tw7222520224048643297 tw3400550837379019051 tw5120109998409188765 tw12759041802376156130 tw13303451923418437465 tw9765369657787627943 tw13292648389355861360 tw15836879652034534717 tw15275747937225876991 tw627433476978578697 tw4999619280201790005 tw6658528344717420408 tw8813034443962226161 tw8293806009749732071 tw12030251402541821825 tw6931947330864211756 tw8030623349397031223 tw11996663874772074171 tw18160045396414560862 tw5018468372762741775 tw11559705831791319891 tw16971149117694302038 tw10052123033535676287 tw8159520379372639796 tw18313030419034572867 tw8844541011886688405 tw9527875203444870576 tw176981641981047473 tw6262988401682740215 tw1273682650737591607 tw11562202063483891223 tw16458985689361740303 tw17297808215464378545 tw17093084023731834436 tw5158223466098273454 tw947782173491035822 tw9939917920301392719 tw569395668063740369 tw9175338785082882408 tw17571009001150474248 tw8328614162031136179 tw9208515706509694727 tw11281391815140462156 tw2041203382315989085 tw9083618781368179893 tw6493523571962414379 tw4885564195594653242 tw16374248480361174525 tw10095950810446849554 tw6847657086350998328 tw4377678356677913953 tw16675614209521960326 tw1763742756561373796 tw16419243432053794148 tw5250094047724245217 tw7782774081019519378 tw1056069563373793459 tw5883925592716309554 tw12806013185587885890 tw3441590322335768687 tw4193825447692241241 tw7613894472315645783 tw14639304721892837371 tw13807123624771426252 tw14233135240768333581 tw18296002671947299828 tw12213226933619648713 tw17030711271505118112 tw3584583962924555108 tw15426678154366494772 tw7865881912819006677 tw2438720785994807626 tw4911854447458211139 tw16969760910543905203 tw3473116224243593197 tw16944097665131978564 tw6789789131669199766 tw3363268785767769795 tw16840225653455183579 tw10121222585620305602 tw14938917272557556681 tw16782686819435445735 tw16676341564387052659 tw7539578406371001391 tw10160597434287349850 tw1846561204477885793 tw11616433355805002932 tw12135561744521595490 tw14403927533000498000 tw827832534495362272 tw12004256779398046954 tw12781574396911788281 tw6118989878072687233 tw15397276852012114353 tw6668471224628330998 tw9410034303255208689 tw6297802628213154986 tw16321833918054248803 tw6652159804480990857 tw3816884464186070779 tw4781690247427123351 tw6991855897481510575 tw17789850373912361861 tw16414506879321949082 tw209675184823350637 tw3327932388937526558 tw7391707611672499308 tw3881463025370876321 tw13899226958158443292 tw9619388650830998978 tw13909004297217657866 tw4720939083414525012 tw11698561623137739110 tw8355327873151156472 tw1822283777699693398 tw7036234363852146948 tw6435110744903153175 tw8420758141232575906 tw6061986263796476114 tw4550961642600010960 tw7779501751416315229 tw15280596859492701150 tw11635788173203076452 tw1101196266539948691 tw10357089559313576348 tw16955499092776590614 tw12006344129400764883 tw1149053970386827068 tw12315482892178907699 tw103652439523305803 tw15101351480029414266 tw12553740813903401587 tw16176770438808176035 tw12891306697111845546 tw6458598744461434962 tw12591602242933288581 tw13787937853127647184 tw1997472097218751780 tw11942365809596300218 tw15057082001493861422 tw4099247754266864347 tw10013459699156878397 tw5112131344106804525 tw1312558639458720407 tw16608572948014102843 tw12381887510383554984 tw10098764875334478573 tw5359966907284326624 tw3364230176052853325 tw10142144042169287291 tw17482757756120607260 tw9287262849347379754 tw165927962729392530 tw13344316056289552747 tw15898872718533818586 tw6921136986583838648 tw5367317092865054907 tw9105484169720604531 tw7844698547870462616 tw1131033187400295463 tw7608140210811091900 tw3063040292477781695 tw5620195750512568739 tw1314618659966955713 tw16257601868835410037 tw12374692283698690398 tw11070783813723057499 tw3214718032011471955 tw4905735619250239879 tw8204345923819220257 tw1340526428602327700 tw12193985931199899756 tw7499575336637001745 tw14979180074392290015 tw14342555386072324332 tw3697561196724313560 tw2359595335613856851 tw7133691034781280339 tw14642864842167539076 tw3555387598175598801 tw227871413915212884 tw16773023054474601137 tw17769100263142513829 tw8898239289504051280 tw10722170593436892114 tw3070018854256227796 tw166865573586600284 tw7279773054288522151 tw1958197060710289708 tw13401745642954646292 tw3953489581277669805 tw7656448336922523409 tw12695145555708643087 tw14543641582548277394 tw14875769858017119474 tw2958553501296598654 tw6218255674813061170 tw18375578127712848792 tw15802425971188709946 tw2598599199719152324 tw15356469860247658039 tw4260853675886828642 tw11990623177732926370 tw16661937879337697443 tw1236235457460620543 tw15839886383008649372 tw17874635249165222941 tw1761621642057684005 tw5691621203904226759 tw735030788529899432 tw8811675355486336817 tw11687122736765770138 tw9149930516298138572 tw16142261075008728782 tw15397816796706527816 tw7716758421430413785 tw8952442243872342017 tw1732568886646271 tw11684337426055031107 tw10379710720081236135 tw7773836168882634808 tw17618347214849354015 tw13508063580066113193 tw2109227828777387085 tw10541547296931165911 tw9723732932581484413 tw3063027132101032257 tw8354019423407995553 tw14194179885788377162 tw11149759665218553706 tw182602733950462667 tw8027320177527472078 tw828850668417268372 tw7470656340008168533 tw16647115001071957991 tw3488672279144140277 tw4397945652077358456 tw13198009829216934906 tw6926979351065193023 tw2973172857218371391 tw6957818672092351415 tw11269868566864923573 tw16969425041873467062 tw10670048964866874386 tw11139459954133010526 tw5980357716585379907 tw3081747194270393320 tw1968267252466241772 tw11477807520266660526 tw5969075905475506413 tw11098456779199897005 tw10518316375806122549 tw7826609480000525313 tw4339381152885391268 tw829965970930588171 tw5183405272291375116 tw14154791787092657173 tw11939972747665011451 tw11402922161021963382 tw274587079837279678 tw15872182951147902114 tw74093269776001443 tw12317911283646940909 tw14076693170403523440 tw7697081096627814291 tw12012180613594641876 tw5038870932685495096 tw13504883185906772089 tw398592444661204035 tw13646423106275939251 tw8284871706641471593 tw6305412335916343489 tw7508635968677880646 tw16912219688796213155 tw16211155950892682179 tw14308730835417828115 tw13392173792106902708 tw14427129818828572802 tw8696842203999203536 tw16485870418624293624 tw2243403363194834857 tw18379727417990742238 tw12428835527695711889 tw14905658241806087860 tw4169227051073421916 tw18170183169185818947 tw11153903183488340196 tw12760297646473620228 tw1181683399824778839 tw5150593543898713071 tw7523575112236649607 tw490384197659011448 tw4879127868337971585 tw9125319382861949097 tw16447118908132392224 tw10783396241970257440 tw13171466464404446520 tw816716026651719178 tw1882665808515749543 tw1606045041425175368 tw8740542199361012990 tw13264642105440817267 tw13988202076061175063 tw3888217715561831423 tw6857112454976059468 tw17595354128623619842 tw17945451543868143351 tw7562550365989792780 tw14818048538045100045 tw8529518535461571588 tw13988350110670544281 tw9171665390858758288 tw17003421056802093736 tw10233593957612372925 tw7680200294173231978 tw6514437947764610593 tw2190120100040825173 tw12277766648167516050 tw17503325080920082756 tw4005977444184184348 tw17311332659337631784 tw17540078806393820532 tw4952225189263209150 tw10181281163760729287 tw6922527214137854759 tw16041095896265105228 tw7165893474918278683 tw13696867302673917506 tw14760727276047441381 tw8648143234387071431 tw7052366748188677282 tw2068613343293174085 tw6614108568812045918 tw12522499476610859314 tw10724648969673229631 tw14744206887844551421 tw8061848712734212174 tw9947764311475627924 tw14746278581070055252 tw9583831437979812498 tw11558089075600643510 tw17294213987056177344 tw10693724366300158848 tw14599095831798371941 tw13165790828552680070 tw7020744680216585578 tw13018510486933883916 tw10331116974285350508 tw7389720737124772748 tw9530673106158453708 tw246201727743071149 tw8414023748956115130 tw4249822287078929083 tw11086899833726007067 tw1127469384257125085 tw10597654359196613391 tw14942014092472872025 tw18431713333245729408 tw11823040098508671907 tw13577014705881349670 tw10225558695186601795 tw14532013164365792804 tw10062165590554321997 tw16588256507177978447 tw10739750721192094494 tw6324349348725865159 tw18002825474559511954 tw10652252477637931797 tw5778627573747255644 tw9972785070181728092 tw17972898538727147052 tw7572886691844097 tw5190019532334821411 tw5654356624014689738 tw7021034496083060973 tw11786345732242600429 tw8554071492578991920 tw1119281503593718610 tw12188994481559917268 tw17356855523578972950 tw1870887718784276476 tw17270076485617317727 tw7731314509737623336 tw830177427514410733 tw1466306504707093203 tw14295582266336873036 tw16477729323596679359 tw14088549118562702443 tw10264686700613766745 tw4444181591724889671 tw16532861629306322162 tw2958500060378106321 tw14294652992158111013 tw7770943029141249285 tw553453016931415080 tw12891414672321339496 tw2146580074296819544 tw7949357745833609209 tw17036196854643439290 tw9366984422035601521 tw9525029114341639120 tw10896391965235809888 tw9349120175313244230 tw10825010237294649867 tw643124600479877533 tw8925466998394153321 tw10280411716209412451 tw5349046827140358944 tw3084017933573952324 tw13855851858871598796 tw11640497504728758318 tw784349098086330095 tw4848631078707562161 tw9393795421873765682:True)
namespace Zm
open PySem PySem.Spec PyProof.Rows L2
open PySem.W (Codec)
theorem Jwu {P:Program} {w:World} {K:PySem.W.Frag} {h:Heap} {mg:Str→Option Value} {fa:Addr} (X:K.In h) (G:h.Ns mainGlobals mg) (hfa:mg "answers"=some (.ref fa)) (T:∃A,Txt w K mg A):
  ∃fd:FuncData,(∀(s:Shared) (us:List Value),us.length=(["calls"]:List Str).length→BindsTo s fd ⟨us,[]⟩ ((["calls"]:List Str).zip us))∧∀base:Heap,K.In base→base.Ns mainGlobals mg→JF P w K mg base CX0 11 fa fd ["calls"] (JgN K):=by
 obtain⟨A,T⟩:=T
 have e:=hfa.symm.trans T.JiW.m
 cases e
 refine⟨A.Jb4,fun s us hl=>?_,fun base _ _=>Jqy T⟩
 obtain⟨oc,od,kV,doc,pm,an,cdv,ct,osl,hfd,lk,hcd⟩:=T.JiW.F.ex
 rw[hfd]
 exact match us,hl with|[_],_=>.of_eq rfl
end Zm
open PySem PySem.W PyProof.Rows
set_option maxRecDepth 100000 in
set_option maxHeartbeats 0 in
theorem PySem.Challenge.cw_zonemarket_s01_answers_holds : PySem.Challenge.rw_zonemarket_s01_answers.Holds := by
 w_on;k_headS;(case hw=>exact⟨[.list [.int 5]],by decide+kernel,by decide+kernel⟩)
 k_fillS
 refine L2.Jp2 (r:=PySem.Challenge.rw_zonemarket_s01_answers) (k:=11) (CX:=L2.CX0) (ps:=["calls"]) (sp:=Zm.JgN) (by decide+kernel) rfl rfl ⟨rfl,by decide,by decide⟩ (fun w h Y=>PySem.W.kIn_of Y) ?F ?S (fun _ _ _ _ z=>z)
 case F=>
  intro w mg fa h Y KX G hmg
  refine' Zm.Jwu KX G hmg (Zm.Jwv (Zm.Txt.mk ..))
  all_goals try dsimp only
  all_goals first|refine' L2.Jw3 KX G .. |refine' L2.JwV .. |refine' L2.JwU .. |refine' PySem.W.mg_none_of KX G _|refine' PySem.W.mg_of KX G _|refine' L2.Jw0 KX G _|refine' L2.JwZ KX G _|refine' L2.Cls.mk .. |refine' L2.JwT _|refine' L2.JwB .. |refine' L2.Jw5 .. |skip
  all_goals first|k_is|skip
  all_goals repeat' first|exact .nil|refine .cons rfl ?_|refine .cons ⟨_,rfl⟩ ?_|refine .int (by decide+kernel) rfl ?_|refine .str rfl rfl ?_|fail
  all_goals first|k_is|skip
  all_goals repeat' first|exact .nil|refine .cons rfl ?_|refine .cons ⟨_,rfl⟩ ?_|fail
  all_goals first|k_is|decide+kernel|(intro _ _ _ _ _ _ us hl;first|exact(match us,hl with|[_],_=>rfl)|exact(match us,hl with|[_,_],_=>rfl)|exact(match us,hl with|[_,_,_],_=>rfl)|exact(match us,hl with|[_,_,_,_],_=>rfl)|exact(match us,hl with|[_,_,_,_,_],_=>rfl)|exact(match us,hl with|[_,_,_,_,_,_],_=>rfl))|rfl|skip
 case S=>
  intro K H xs a hO hwi hask hx
  cases hx with
  |cons h1 h2=>
   cases h2
   cases h1 with
   |lst hs ha=>
    have e:=L2.JrG a.1 _ ha
    subst e
    have q:((Codec.inLen 0 16000 a.1&&a.1.all (Codec.inInt (-1000000000000000000) 1000000000000000000))&&true)=true:=hwi
    rw[Bool.and_eq_true,Bool.and_eq_true] at q
    exact⟨_,a.1,rfl,hs,(Codec.inNat_iff.mp q.1.1).2,hask,fun H' p hp=>.lst (L2.SqL.of hp) (L2.JrK _)⟩
