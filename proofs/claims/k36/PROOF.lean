import PyProof.Rows.All
import OpenK.KLine
import Wide.FinOn
import KE.KSortTup
import KE.KDictOf
import KE.LcSums
import KE.KIntText
import KE.KNestM
import KE.KRevSl
import KE.KFromBytes
import KE.KItemsList
import KE.KIsAll
import KE.KEqDict
import KE.KLam
import KE.KRevIter
import KE.KMinKey
import PySem.Challenge.RW_foldlog_k36_deeds_refused
set_option maxHeartbeats 4000000
set_option Elab.async false
set_option linter.all false
set_option maxRecDepth 100000
namespace L2
open PySem PySem.Spec PyProof.Rows
open PySem.W (instObj methodObj Frag lookIn plainGet hasDictIn findIn handedIn plainGet_of isFn plainOver takerIn makesIn emptyDict keepIn kia_one kitx_list kitx_dict callWith_K callWith_K0 fnOf)
abbrev Key:=Sum Int Str
def qeb:Key->Value->Bool
 | .inl k,v=>Value.isInt k v
 | .inr x,v=>Value.isStrOf x v
def qmp (w:World):Key->Int
 | .inl k=>hashInt k
 | .inr x=>hashStr w x
theorem ze:∀ {k:Key}{v:Value},qeb k v=true->(∃ i t,k=Sum.inl i∧v=Value.int i t)∨(∃ x t,k=Sum.inr x∧v=Value.str x t)
 | .inl i,v,h=>by
   obtain⟨t,e⟩:=Value.isInt_shape (k:=i) (v:=v) h;exact .inl ⟨i,t,rfl,e⟩
 | .inr x,v,h=>by
   obtain⟨t,e⟩:=Value.isStrOf_shape (x:=x) (v:=v) h;exact .inr ⟨x,t,rfl,e⟩
theorem qgx (i:Int) (t:Tok):qeb (.inl i) (.int i t)=true:=by simp[qeb,Value.isInt]
theorem qgw (x:Str) (t:Tok):qeb (.inr x) (.str x t)=true:=by simp[qeb,Value.isStrOf]
theorem qkM (a b:Int):decide ((Sum.inl a:Key)=Sum.inl b)=(a == b):=by
 by_cases e:a=b
 · subst e;simp
 · have h:¬ (Sum.inl a:Key)=Sum.inl b:=fun q=>e (Sum.inl.inj q);rw[decide_eq_false h];exact(beq_eq_false_iff_ne.mpr e).symm
theorem qkJ (a b:Str):decide ((Sum.inr a:Key)=Sum.inr b)=decide (a=b):=by
 by_cases e:a=b
 · subst e;simp
 · have h:¬ (Sum.inr a:Key)=Sum.inr b:=fun q=>e (Sum.inr.inj q);rw[decide_eq_false h,decide_eq_false e]
theorem qkL (a:Int) (b:Str):decide ((Sum.inl a:Key)=Sum.inr b)=false:=decide_eq_false (fun q=>nomatch q)
theorem qkK (a:Str) (b:Int):decide ((Sum.inr a:Key)=Sum.inl b)=false:=decide_eq_false (fun q=>nomatch q)
def zj (prog:Program) (w:World):PySem.KeyKind prog w Key where
 is:=qeb
 hash:=qmp w
 inj:=fun v a b ha hb=>by
   rcases ze ha with ⟨i,t,rfl,rfl⟩|⟨x,t,rfl,rfl⟩
   · rcases ze hb with ⟨j,u,rfl,e⟩|⟨y,u,rfl,e⟩
     · injection e with e1 _;rw[e1]
     · exact nomatch e
   · rcases ze hb with ⟨j,u,rfl,e⟩|⟨y,u,rfl,e⟩
     · exact nomatch e
     · injection e with e1 _;rw[e1]
 byValue:=fun k v h=>by
   rcases ze h with ⟨i,t,rfl,rfl⟩|⟨x,t,rfl,rfl⟩<;>rfl
 pyHash:=fun hv h=>by
   rcases ze hv with ⟨i,t,rfl,rfl⟩|⟨x,t,rfl,rfl⟩
   · exact wpAny_pyHash_int h
   · exact wpAny_pyHash_str h
 eqBool:=fun hu hv h=>by
   rcases ze hu with ⟨i,t,rfl,rfl⟩|⟨x,t,rfl,rfl⟩
   · rcases ze hv with ⟨j,u,rfl,rfl⟩|⟨y,u,rfl,rfl⟩
     · rw[qkM]at h;exact wpAny_eqBool_int h
     · rw[qkL]at h;exact SeqAt.EqAt.int_str i t y u _ _ _ _ h
   · rcases ze hv with ⟨j,u,rfl,rfl⟩|⟨y,u,rfl,rfl⟩
     · rw[qkK]at h;exact SeqAt.EqAt.str_int x t j u _ _ _ _ h
     · rw[qkJ]at h;exact wpAny_eqBool_str h
 «strs»:=fun k x t v h=>by
   rcases ze h with ⟨i,u,rfl,e⟩|⟨y,u,rfl,e⟩
   · exact nomatch e
   · injection e with e1 _;subst e1;cases v<;>rfl
theorem qd9 (prog:Program) (w:World) (i:Int) (t:Tok):(zj prog w).is (.inl i) (.int i t)=true:=qgx i t
theorem qd8 (prog:Program) (w:World) (x:Str) (t:Tok):(zj prog w).is (.inr x) (.str x t)=true:=qgw x t
inductive V where
 | non|bl (b:Bool)|int (i:Int)|str (x:Str)|byt (b:Array UInt8)|flt (b:UInt64)|ref (a:Addr)|ty (n:String)
 deriving DecidableEq
def RelV:V->Value->Prop
 | .non,u=>u=Value.none
 | .bl b,u=>u=Value.bool b
 | .int i,u=>∃ t,u=Value.int i t
 | .str x,u=>∃ t,u=Value.str x t
 | .byt b,u=>∃ t,u=Value.bytes b t
 | .flt b,u=>∃ t,u=Value.float b t
 | .ref a,u=>u=Value.ref a
 | .ty n,u=>u=Value.type n
abbrev Vals:List V->List Value->Prop:=Paired RelV
theorem Vals.length {xs:List V}{us:List Value} (r:Vals xs us):xs.length=us.length:=Paired.length r
theorem Vals.get:∀ {xs:List V}{us:List Value}{i:Nat}{x:V},Vals xs us->xs[i]?=some x->∃ u,us[i]?=some u∧RelV x u
 | _,_,_,_,.nil,e=>by simp at e
 | _,_,0,_,.cons r _,e=>by simp at e;subst e;exact⟨_,rfl,r⟩
 | _,_,i+1,x,.cons _ t,e=>by
   obtain⟨u,h1,h2⟩:=Vals.get (i:=i) (x:=x) t (by simpa using e);exact⟨u,by simpa using h1,h2⟩
theorem Vals.set {x:V}{u:Value} (r:RelV x u):∀ {xs:List V}{us:List Value} (i:Nat),Vals xs us->Vals (xs.set i x) (us.set i u)
 | _,_,_,.nil=>.nil
 | _,_,0,.cons _ t=>.cons r t
 | _,_,i+1,.cons q t=>.cons q (Vals.set r i t)
theorem Vals.append:∀ {xs ys:List V}{us ws:List Value},Vals xs us->Vals ys ws->Vals (xs++ys) (us++ws)
 | _,_,_,_,.nil,s=>s
 | _,_,_,_,.cons r t,s=>.cons r (Vals.append t s)
theorem Vals.take:∀ {xs:List V}{us:List Value} (n:Nat),Vals xs us->Vals (xs.take n) (us.take n)
 | _,_,0,_=>.nil
 | _,_,_+1,.nil=>.nil
 | _,_,n+1,.cons r t=>.cons r (Vals.take n t)
theorem Vals.drop:∀ {xs:List V}{us:List Value} (n:Nat),Vals xs us->Vals (xs.drop n) (us.drop n)
 | _,_,0,r=>r
 | _,_,_+1,.nil=>.nil
 | _,_,n+1,.cons _ t=>Vals.drop n t
def RelO:Option V->Option Value->Prop
 | some v,some u=>RelV v u
 | none,none=>True
 | _,_=>False
def KV {κ:Type}:List (κ×V)->List (κ×Value)->Prop:=Paired fun (p:κ×V) (q:κ×Value)=>p.1=q.1∧RelV p.2 q.2
def kV:Key->V
 | .inl i=>.int i
 | .inr x=>.str x
inductive HO where
   | lst (xs:List V)
   | tup (xs:List V)
   | dK (kvs:List (Key×V))|dT (kvs:List (List Key×V))
   | set (S:Int->Bool) (n:Nat)
   | ins (C dx:Addr) (fs:List (Str×V))
   | own (x:Addr)
   | xd (fs:List (Str×V))
   | met (f x:Addr)
   | rng (lo hi:Int)
   | frz (o:Obj) (u:HO)
   | tbl (ps:Array Value)
   | ext (φ:Heap->Prop)
abbrev Hp:=Addr->Option HO
def upd (H:Hp) (a:Addr) (o:HO):Hp:=fun b=>if b=a then some o else H b
theorem qd {H:Hp}{a:Addr}{o:HO}:upd H a o a=some o:=by unfold upd;rw[if_pos rfl]
theorem qg {H:Hp}{a b:Addr}{o:HO} (h:b≠a):upd H a o b=H b:=by unfold upd;rw[if_neg h]
theorem qX {H:Hp}{a b:Addr}{o u:HO} (h:H a=some o) (h':H b=some u) (d:o≠u):a≠b:=by
 intro e;subst e;rw[h]at h';exact d (Option.some.inj h')
theorem qi {H:Hp}{a b:Addr}{o:HO} (h:H a=some o) (h':H b=none):a≠b:=by
 intro e;subst e;rw[h]at h';cases h'
section
variable (P:Program) (w:World)
def ObjOk (H:Hp) (h:Heap) (a:Addr):HO->Prop
 | .lst xs=>xs.length≤sizeLine∧∃ (its:List Value) (n:Nat),Vals xs its∧h.get? a=some { cls:=.type "list",data:=.seq its.toArray n }
 | .tup xs=>xs.length≤sizeLine∧∃ its:List Value,Vals xs its∧IsTup h a its.toArray
 | .dK kvs=>kvs.length≤sizeLine∧(a == sysModules)=false∧∃ vs,KV kvs vs∧h.DictOf (zj P w) a vs
 | .dT kvs=>kvs.length≤sizeLine∧(a == sysModules)=false∧∃ xs:List (List Key×Addr×Value),
     Paired (fun (p:List Key×V) (q:List Key×Addr×Value)=>p.1=q.1∧H q.2.1=some (.tup (p.1.map kV))∧RelV p.2 q.2.2) kvs xs ∧
     ∃ o es ep,h.get? a=some o∧o.ExactDict∧o.data=.dict es ep∧es.toList=xs.map (entryOfKey (tupleKind (zj P w)))∧(xs.map (·.1)).Nodup
 | .set S n=>h.SetOf (intKind P w) a S n
 | .ins C dx fs=>H dx=some (.own a)∧fs.length≤1000∧dx≠a∧h.get? a=some (instObj C dx) ∧
     ∃ mA,h.Ns1 dx mA∧(∀ f,RelO (fs.lookup f) (mA f))∧PySem.Within mA (fs.map (·.1))
 | .own _=>∃ o,h.get? a=some o
 | .xd fs=>∃ mA,h.Ns1 a mA∧∀ f,RelO (fs.lookup f) (mA f)
 | .rng lo hi=>∃ t u v,h.get? a=some { cls:=.type "range",data:=.fields #[.int lo t,.int hi u,.int 1 v] }
 | .frz o u=>h.get? a=some o∧ObjOk H h a u
 | .tbl ps=>h.get? a=some { cls:=.none,data:=.fields ps }
 | .met f x=>h.get? a=some (methodObj (.ref f) (.ref x))
 | .ext φ=>φ h∧(∃ o,h.get? a=some o)∧∀ h1 h2:Heap,φ h1->(∀ o,h1.get? a=some o->h2.get? a=some o)->φ h2
def HOk (H:Hp) (h:Heap):Prop:=∀ a o,H a=some o->ObjOk P w H h a o
end
section
variable {P:Program}{w:World}{H H':Hp}{h h':Heap}{a:Addr}{o:HO}
theorem ObjOk.lt (x:ObjOk P w H h a o):a < h.objs.size:=by
 cases o with
 | lst xs=>obtain⟨_,_,_,_,e⟩:=x;exact Heap.lt_size e
 | tup xs=>obtain⟨_,_,_,p⟩:=x;exact p.lt
 | dK kvs=>obtain⟨_,_,_,_,o,_,_,e,_⟩:=x;exact Heap.lt_size e
 | dT kvs=>obtain⟨_,_,_,_,o,_,_,e,_⟩:=x;exact Heap.lt_size e
 | set S n=>obtain⟨o,_,_,_,e,_⟩:=x;exact Heap.lt_size e
 | ins C dx fs=>obtain⟨_,_,_,e,_⟩:=x;exact Heap.lt_size e
 | own y=>obtain⟨_,e⟩:=x;exact Heap.lt_size e
 | xd fs=>obtain⟨_,⟨_,_,_,e,_⟩,_⟩:=x;exact Heap.lt_size e
 | rng lo hi=>obtain⟨_,_,_,e⟩:=x;exact Heap.lt_size e
 | frz ob u=>obtain⟨e,_⟩:=x;exact Heap.lt_size e
 | tbl ps=>exact Heap.lt_size (show h.get? a=some _ from x)
 | met f y=>exact Heap.lt_size (show h.get? a=some _ from x)
 | ext φ=>obtain⟨_,⟨_,e⟩,_⟩:=x;exact Heap.lt_size e
theorem Paired.mapP {α β:Type}{F G:α->β->Prop}:∀ {l₁:List α}{l₂:List β},Paired F l₁ l₂->(∀ a b,F a b->G a b)->Paired G l₁ l₂
 | _,_,.nil,_=>.nil
 | _,_,.cons r t,f=>.cons (f _ _ r) (Paired.mapP t f)
theorem ObjOk.stay (x:ObjOk P w H h a o) (k:∀ b u,(b=a∨H b=some (.own a))->h.get? b=some u->h'.get? b=some u)
   (ho:∀ b,H b=some (.own a)->H' b=some (.own a)) (ht:∀ b xs,H b=some (.tup xs)->H' b=some (.tup xs)):ObjOk P w H' h' a o:=by
 induction o with
 | lst xs=>obtain⟨z,its,n,r,e⟩:=x;exact⟨z,its,n,r,k _ _ (.inl rfl) e⟩
 | tup xs=>obtain⟨z,its,r,ob,e,c⟩:=x;exact⟨z,its,r,ob,k _ _ (.inl rfl) e,c⟩
 | dK kvs=>obtain⟨z,y,vs,r,ob,es,ep,e,c⟩:=x;exact⟨z,y,vs,r,ob,es,ep,k _ _ (.inl rfl) e,c⟩
 | dT kvs =>
   obtain⟨z,y,xs,r,ob,es,ep,e,c⟩:=x;exact⟨z,y,xs,Paired.mapP r fun p q z=>⟨z.1,ht _ _ z.2.1,z.2.2⟩,ob,es,ep,k _ _ (.inl rfl) e,c⟩
 | set S n=>obtain⟨ob,es,ep,t,e,c⟩:=x;exact⟨ob,es,ep,t,k _ _ (.inl rfl) e,c⟩
 | ins C dx fs =>
   obtain⟨d,z,ne,e,mA,⟨od,es,ep,e2,c⟩,r⟩:=x;exact⟨ho _ d,z,ne,k _ _ (.inl rfl) e,mA,⟨od,es,ep,k _ _ (.inr d) e2,c⟩,r⟩
 | own y=>obtain⟨ob,e⟩:=x;exact⟨ob,k _ _ (.inl rfl) e⟩
 | xd fs=>obtain⟨mA,⟨od,es,ep,e,c⟩,r⟩:=x;exact⟨mA,⟨od,es,ep,k _ _ (.inl rfl) e,c⟩,r⟩
 | rng lo hi=>obtain⟨t,u,v,e⟩:=x;exact⟨t,u,v,k _ _ (.inl rfl) e⟩
 | frz ob u ih=>obtain⟨e,q⟩:=x;exact⟨k _ _ (.inl rfl) e,ih q⟩
 | tbl ps =>
   have e:h.get? a=some { cls:=.none,data:=.fields ps }:=x;show h'.get? a=some { cls:=.none,data:=.fields ps };exact k a _ (.inl rfl) e
 | met f y =>
   have e:h.get? a=some (methodObj (.ref f) (.ref y)):=x;show h'.get? a=some (methodObj (.ref f) (.ref y));exact k a _ (.inl rfl) e
 | ext φ=>obtain⟨p,⟨o,e⟩,st⟩:=x;exact⟨st _ _ p fun o q=>k _ _ (.inl rfl) q,⟨o,k _ _ (.inl rfl) e⟩,st⟩
theorem HOk.lt (x:HOk P w H h) (e:H a=some o):a < h.objs.size:=(x a o e).lt
theorem HOk.fresh (x:HOk P w H h) (e:h.objs.size≤a):H a=none:=by
 cases q:H a with
 | none=>rfl
 | some u=>exact absurd (Nat.lt_of_lt_of_le (x.lt q) e) (Nat.lt_irrefl _)
theorem HOk.kept (x:HOk P w H h) (k:∀ b u,h.get? b=some u->h'.get? b=some u):HOk P w H h':=fun a o e =>
 (x a o e).stay (fun b u _ q=>k b u q) (fun _ q=>q) fun _ _ q=>q
theorem HOk.laid (x:HOk P w H h) (k:∀ b u,h.get? b=some u->h'.get? b=some u) (hp:h.objs.size≤a) (new:ObjOk P w (upd H a o) h' a o):HOk P w (upd H a o) h':=fun b u e=>by
 have hn:=x.fresh hp;by_cases hb:b=a
 · subst hb;rw[qd]at e;cases e;exact new
 · rw[qg hb]at e;exact(x b u e).stay (fun c v _ q=>k c v q) (fun c q=>by rw[qg (qi q hn)];exact q) fun c xs q=>by rw[qg (qi q hn)];exact q
end
def Rd (H:Hp) (a:Addr) (u:HO):Prop:=H a=some u∨∃ o,H a=some (.frz o u)
theorem Rd.of {H:Hp}{a:Addr}{u:HO} (h:H a=some u):Rd H a u:=.inl h
theorem Rd.ok {P:Program}{w:World}{H:Hp}{h:Heap}{a:Addr}{u:HO} (r:Rd H a u) (x:HOk P w H h):ObjOk P w H h a u:=by
 rcases r with r|⟨o,r⟩
 · exact x a u r
 · obtain⟨_,q⟩:=x a _ r;exact q
def Mut:Option HO->Prop
 | some (.lst _)=>True
 | some (.dK _)=>True
 | some (.dT _)=>True
 | some (.set _ _)=>True
 | some (.ins _ _ _)=>True
 | some (.ext _)=>True
 | _=>False
section
variable {P:Program}{w:World}{H:Hp}{h h':Heap}{x e:Addr}{o':HO}
theorem HOk.write (ok:HOk P w H h) (mu:Mut (H x)) (he:e=x∨H e=some (.own x)) (k:∀ b u,b≠e->h.get? b=some u->h'.get? b=some u) (heo:∃ u,h'.get? e=some u)
   (new:ObjOk P w (upd H x o') h' x o'):HOk P w (upd H x o') h':=fun b u q=>by
 have nown:∀ c y,H c=some (.own y)->c≠x:=fun c y r z=>by subst z;rw[r]at mu;exact mu
 have ntup:∀ c xs,H c=some (.tup xs)->c≠x:=fun c xs r z=>by subst z;rw[r]at mu;exact mu
 by_cases hb:b=x
 · subst hb;rw[qd]at q;cases q;exact new
 · rw[qg hb]at q;by_cases hbe:b=e
   · have q':H b=some (.own x):=by
       rcases he with z|z
       · exact absurd (hbe.trans z) hb
       · rw[hbe];exact z
     rw[q]at q';cases q';obtain⟨v,hv⟩:=heo;exact⟨v,by rw[hbe];exact hv⟩
   · refine(ok b u q).stay (fun c v hc r=>k c v ?_ r) (fun c r=>by rw[qg (nown c b r)];exact r) fun c xs r=>by rw[qg (ntup c xs r)];exact r
     rcases hc with rfl|hc
     · exact hbe
     · rintro rfl;rcases he with z|z
       · exact nown c b hc z
       · rw[hc]at z;cases z;exact hb rfl
end
structure Un (fs ex:List Addr) (H H':Hp) (h h':Heap):Prop where
 keep:∀ b o,h.get? b=some o->H b=none->b∉fs->b∉ex->h'.get? b=some o
 slot:∀ b o,h.get? b=some o->H b=none->b∈fs->b∉ex->∃ sl,h'.get? b=some { o with slots:=sl }
 free:∀ b o,h.get? b=some o->H b=none->b∉ex->H' b=none
 there:∀ b o,h.get? b=some o->b∉ex->∃ o',h'.get? b=some o'
 tups:∀ b xs,H b=some (.tup xs)->H' b=some (.tup xs)
 frzs:∀ b o u,H b=some (.frz o u)->H' b=some (.frz o u)
 tbls:∀ b ps,H b=some (.tbl ps)->∃ more,H' b=some (.tbl (ps++more))
section
variable {fs fs' ex ex':List Addr}{H H1 H2:Hp}{h h1 h2 h':Heap}{a x e:Addr}{o:HO}
theorem Un.any (u:Un fs ex H H1 h h1) {b:Addr}{ob:Obj} (q:h.get? b=some ob) (n:H b=none) (hx:b∉ex):∃ sl,h1.get? b=some { ob with slots:=sl }:=by
 by_cases hb:b∈fs
 · exact u.slot b ob q n hb hx
 · exact⟨ob.slots,u.keep b ob q n hb hx⟩
theorem Un.kept (k:∀ b u,h.get? b=some u->h'.get? b=some u):Un fs ex H H h h' :=
 ⟨fun b ob q _ _ _=>k b ob q,fun b ob q _ _ _=>⟨ob.slots,k b ob q⟩,fun _ _ _ n _=>n,fun b ob q _=>⟨ob,k b ob q⟩,fun _ _ q=>q,fun _ _ _ q=>q,fun _ ps q=>⟨#[],by rw[q];simp⟩⟩
theorem Un.refl:Un fs ex H H h h:=Un.kept fun _ _ q=>q
theorem Un.laid (k:∀ b u,h.get? b=some u->h'.get? b=some u) (hp:h.objs.size≤a) (hn:H a=none):Un fs ex H (upd H a o) h h' where
 keep:=fun b u q _ _ _=>k b u q
 slot:=fun b u q _ _ _=>⟨u.slots,k b u q⟩
 free:=fun b u q n _=>by rw[qg (Nat.ne_of_lt (Nat.lt_of_lt_of_le (Heap.lt_size q) hp))];exact n
 there:=fun b u q _=>⟨u,k b u q⟩
 tups:=fun b xs q=>by rw[qg (qi q hn)];exact q
 frzs:=fun b u xs q=>by rw[qg (qi q hn)];exact q
 tbls:=fun b ps q=>⟨#[],by rw[qg (qi q hn),q];simp⟩
theorem Un.write (mu:Mut (H x)) (he:e=x∨H e=some (.own x)) (k:∀ b u,b≠e->h.get? b=some u->h'.get? b=some u) (heo:∃ u,h'.get? e=some u):Un fs ex H (upd H x o) h h':=by
 have hx:∀ b,H b=none->b≠x:=fun b n z=>by subst z;rw[n]at mu;exact mu
 have hb:∀ b,H b=none->b≠e:=fun b n z=>by
   subst z;rcases he with r|r
   · exact hx b n r
   · rw[n]at r;cases r
 have hm:∀ b u,H b=some u->¬ Mut (some u)->b≠x:=fun b u q nm z=>by subst z;rw[q]at mu;exact nm mu
 refine⟨fun b u q n _ _=>k b u (hb b n) q,fun b u q n _ _=>⟨u.slots,k b u (hb b n) q⟩,fun b u q n _=>by rw[qg (hx b n)];exact n,fun b u q _=>?_,
   fun b xs q=>by rw[qg (hm b _ q fun z=>z)];exact q,fun b u xs q=>by rw[qg (hm b _ q fun z=>z)];exact q,fun b ps q=>⟨#[],by rw[qg (hm b _ q fun z=>z),q];simp⟩⟩
 by_cases hbe:b=e
 · subst hbe;exact heo
 · exact⟨u,k b u hbe q⟩
end
def trk (h:Heap) (H:Hp):List Addr:=(List.range h.objs.size).filter fun a=>(H a).isSome
def qhj (h:Heap) (H:Hp):Heap:=PySem.W.hideAll h (trk h H)
theorem qgG (h:Heap) (H:Hp):(qhj h H).objs.size=h.objs.size:=PySem.W.hideAll_size _ _
theorem qh4 {h:Heap}{H:Hp}{b:Addr}{o:Obj} (e:h.get? b=some o) (n:H b=none):(qhj h H).get? b=some o :=
 PySem.W.hideAll_get _ e fun hm=>by
   have q:(H b).isSome=true:=(List.mem_filter.mp hm).2;rw[n]at q;simp at q
theorem qjr {h:Heap}{H:Hp}{b:Addr}{o:Obj} (e:(qhj h H).get? b=some o):h.get? b=some o∧H b=none:=by
 have e':h.get? b=some o:=PySem.W.of_hideAll (trk h H) e;refine⟨e',?_⟩
 cases q:H b with
 | none=>rfl
 | some x =>
   have hm:b∈trk h H:=List.mem_filter.mpr ⟨List.mem_range.mpr (Heap.lt_size e'),by simp[q]⟩;have z:(qhj h H).get? b=none:=PySem.W.hideAll_none (trk h H) hm;rw[z]at e;cases e
structure Mod (K:Frag) (mg:Str->Option Value) (base:Heap):Prop where
 kin:K.In base
 glob:base.Ns mainGlobals mg
 blt:∃ mb,base.Ns builtinsNs mb∧∀ x:Str,x≠"__name__"->mb x=bootBuiltins x
 nolimit:base.NoLimit
structure Cx where
 prog:Program
 w:World
 K:Frag
 mg:Str->Option Value
 base:Heap
 A:Around
 N:List Str
 s₀:Shared
 H₀:Hp
 env:Env
 outer:List Env
 stack:List Env
 ex:List Addr
 fn:Str->Bool
 calm:Bool
 pn:List (Addr×Obj)
 xe:Value->Shared->Prop
def frs (l:List Env):List Addr:=l.filterMap (·.frame)
abbrev Cx.fs (X:Cx):List Addr:=frs X.outer
def Vis (sc:Scope) (x:Str):Prop:=sc.names.lookup x=some .local∨sc.names.lookup x=some .cell∨sc.names.lookup x=some .free
def Loc (sc:Scope) (x:Str):Prop:=sc.names.lookup x=some .local∨sc.names.lookup x=some .cell
def qmy (env:Env) (h:Heap) (m:Str->Option Value) (x:Str) (u:Value):Prop :=
 (env.kindOf x=some .local∧m x=some u)∨((env.kindOf x=some .cell∨env.kindOf x=some .free)∧∃ c,env.cells.lookup x=some c∧h.IsCell c (some u))
structure Cx.Ok (X:Cx):Prop where
 mod:Mod X.K X.mg X.base
 kind:X.env.scope.kind=.function
 glob:X.env.globals=mainGlobals
 blt:X.env.builtins=builtinsNs
 above:X.s₀.heap.objs.size≤X.env.locals
 inj:∀ x y c,X.env.cells.lookup x=some c->X.env.cells.lookup y=some c->x=y
 has:∀ x,(X.env.kindOf x=some .cell∨X.env.kindOf x=some .free)->∃ c,X.env.cells.lookup x=some c
 cab:∀ x c,X.fn x=true->X.env.cells.lookup x=some c->X.s₀.heap.objs.size≤c
 hd:X.calm=true->X.A.handled=none
 frames:X.A.frames=some X.stack
 stk:X.stack=X.outer∨(X.stack=X.env::X.outer∧X.env.frame=some X.env.locals)
 exf:∀ b∈X.ex,b≠X.env.locals∧∀ x c,X.env.cells.lookup x=some c->c≠b
 bs:∀ b o,X.base.get? b=some o->X.s₀.heap.get? b=some o∧X.H₀ b=none
 bsz:X.base.objs.size≤X.s₀.heap.objs.size
 noex:∀ b o,X.base.get? b=some o->b∉X.ex
 exfs:∀ b∈X.ex,b∉X.fs
 funs:X.s₀.heap.FunFrames X.base X.outer
 frf:∀ b∈X.fs,X.H₀ b=none
structure Inv (X:Cx) (pins:List (Addr×Obj)) (σ:List (Option V)) (H:Hp) (s:Shared):Prop where
 ok:X.Ok
 os:s.os=X.s₀.os
 bare:AllBare s.gens
 base:Un X.fs X.ex X.H₀ H X.s₀.heap s.heap
 loc:∃ m,s.heap.Ns X.env.locals m∧∀ (i:Nat) (x:Str) (v:V),X.N[i]?=some x->σ[i]?=some (some v)->Vis X.env.scope x->∃ u,RelV v u∧qmy X.env s.heap m x u
 cell:∀ x c,X.env.cells.lookup x=some c->∃ v,s.heap.IsCell c v
 free:H X.env.locals=none
 freeC:∀ x c,X.env.cells.lookup x=some c->H c=none
 pin:∀ p∈X.pn++pins,s.heap.get? p.1=some p.2∧H p.1=none∧p.1≠X.env.locals∧p.1∉X.fs∧∀ v,p.2.data≠.cell v
 hok:HOk X.prog X.w H s.heap
 len:σ.length=X.N.length
section
variable {X:Cx}{pins:List (Addr×Obj)}{σ:List (Option V)}{H H':Hp}{s:Shared}{h':Heap}
theorem Cx.Ok.nofr (ok:X.Ok) {b:Addr}{o:Obj} (e:X.base.get? b=some o):b∉X.fs:=fun hb=>by
 have:=(ok.funs.mem hb).1
 rw[e]at this;cases this
theorem Inv.bs (I:Inv X pins σ H s):∀ b o,X.base.get? b=some o->s.heap.get? b=some o∧H b=none:=fun b o e =>
 ⟨I.base.keep b o (I.ok.bs b o e).1 (I.ok.bs b o e).2 (I.ok.nofr e) (I.ok.noex b o e),I.base.free b o (I.ok.bs b o e).1 (I.ok.bs b o e).2 (I.ok.noex b o e)⟩
theorem Inv.bk (I:Inv X pins σ H s):∀ b o,X.base.get? b=some o->s.heap.get? b=some o:=fun b o e=>(I.bs b o e).1
theorem Inv.mod (I:Inv X pins σ H s):Mod X.K X.mg X.base:=I.ok.mod
theorem Inv.kIn (I:Inv X pins σ H s):X.K.In s.heap:=I.ok.mod.kin.keeps I.bk
theorem Inv.fr (I:Inv X pins σ H s):∃ m,Fr X.base X.env.locals s.heap m :=
 let ⟨m,hn,_⟩:=I.loc
 ⟨m,hn,I.bk,Nat.le_trans I.ok.bsz I.ok.above⟩
theorem Inv.lt (I:Inv X pins σ H s):X.env.locals < s.heap.objs.size:=let ⟨_,hn,_⟩:=I.loc;hn.lt
theorem Inv.sz (I:Inv X pins σ H s):X.s₀.heap.objs.size≤s.heap.objs.size:=Nat.le_trans I.ok.above (Nat.le_of_lt I.lt)
theorem Inv.nofs (I:Inv X pins σ H s) {a:Addr} (h:s.heap.objs.size≤a):a∉X.fs:=fun hb=>by
 obtain⟨_,o,ho,_⟩:=I.ok.funs.mem hb;exact absurd (Nat.lt_of_lt_of_le (Heap.lt_size ho) (Nat.le_trans I.sz h)) (Nat.lt_irrefl _)
theorem Inv.cne (I:Inv X pins σ H s):∀ x c,X.env.cells.lookup x=some c->c≠X.env.locals:=fun x c e z=>by
 obtain⟨v,o,ho,hd⟩:=I.cell x c e;obtain⟨m,⟨o',es,ep,ho',hd',_⟩,_⟩:=I.loc;rw[z,ho']at ho;cases ho;rw[hd']at hd;cases hd
theorem Inv.funs (I:Inv X pins σ H s):s.heap.FunFrames X.base X.outer:=by
 have all:∀ (l:List Env),(∀ b∈frs l,b∈X.fs)->X.s₀.heap.FunFrames X.base l->s.heap.FunFrames X.base l:=by
   intro l
   induction l with
   | nil=>intro _ _;trivial
   | cons env r ih =>
     intro hs hl;obtain⟨hk,⟨L,o,hf,hn,ho,hd⟩,hr⟩:=hl;have hL:L∈X.fs:=hs L (by unfold frs;rw[List.filterMap_cons,hf];exact List.mem_cons_self);obtain⟨sl,e⟩:=I.base.slot L o ho (I.ok.frf L hL) hL fun z=>I.ok.exfs L z hL;exact⟨hk,⟨L,_,hf,hn,e,hd⟩,ih (fun b hb=>hs b (by unfold frs;rw[List.filterMap_cons,hf];exact List.mem_cons_of_mem _ hb)) hr⟩
 exact all X.outer (fun _ hb=>hb) I.ok.funs
theorem Inv.stack (I:Inv X pins σ H s):s.heap.FunFrames X.base X.stack:=by
 rcases I.ok.stk with e|⟨e,hf⟩
 · rw[e];exact I.funs
 · rw[e];obtain⟨m,hn,_⟩:=I.loc;refine .cons (by rw[I.ok.kind];decide) hf hn ?_ I.funs;exact Heap.get?_none_of_le (Nat.le_trans I.ok.bsz I.ok.above)
theorem Inv.stkSub (I:Inv X pins σ H s):∀ b∈frs X.stack,b∈X.env.locals::X.fs:=fun b hb=>by
 rcases I.ok.stk with e|⟨e,hf⟩
 · rw[e]at hb;exact List.mem_cons_of_mem _ hb
 · rw[e]at hb;unfold frs at hb;rw[List.filterMap_cons,hf]at hb;exact hb
theorem Inv.stkFree (I:Inv X pins σ H s):∀ b∈frs X.stack,H b=none:=fun b hb=>by
 rcases List.mem_cons.mp (I.stkSub b hb) with e|hb
 · rw[e];exact I.free
 · obtain⟨_,o,ho,_⟩:=I.ok.funs.mem hb;exact I.base.free b o ho (I.ok.frf b hb) fun z=>I.ok.exfs b z hb
theorem Inv.step {g':Array GenState}{t':Nat}{d':Drawn}{ch:List Addr} (I:Inv X pins σ H s)
   (hch:∀ b∈ch,(b∈X.ex∨X.s₀.heap.objs.size≤b)∧b≠X.env.locals∧(∀ x c,X.env.cells.lookup x=some c->c≠b)∧∀ p∈X.pn++pins,p.1≠b)
   (keep:∀ b o,b≠X.env.locals->b∉X.fs->b∉ch->s.heap.get? b=some o->H b=none->h'.get? b=some o)
   (slot:∀ b o,b≠X.env.locals->b∈X.fs->b∉ch->s.heap.get? b=some o->H b=none->∃ sl,h'.get? b=some { o with slots:=sl }) (free:∀ b o,b∉ch->s.heap.get? b=some o->H b=none->H' b=none)
   (there:∀ b o,b∉ch->s.heap.get? b=some o->∃ o',h'.get? b=some o')
   (tups:∀ b xs,H b=some (.tup xs)->H' b=some (.tup xs)) (frzs:∀ b o u,H b=some (.frz o u)->H' b=some (.frz o u)) (tbls:∀ b ps,H b=some (.tbl ps)->∃ more,H' b=some (.tbl (ps++more)))
   (ns:∀ m,s.heap.Ns X.env.locals m->h'.Ns X.env.locals m) (hok:HOk X.prog X.w H' h') (hg:AllBare g') :
   Inv X pins σ H' { s with heap:=h',gens:=g',drawn:=d',toks:=t' }:=by
 have neL:∀ b o,X.s₀.heap.get? b=some o->b≠X.env.locals:=fun b o e=>Nat.ne_of_lt (Nat.lt_of_lt_of_le (Heap.lt_size e) I.ok.above)
 have neC:∀ b o,X.s₀.heap.get? b=some o->b∉X.ex->b∉ch:=fun b o e hx hb=>by
   rcases (hch b hb).1 with z|z
   · exact hx z
   · exact absurd (Nat.lt_of_lt_of_le (Heap.lt_size e) z) (Nat.lt_irrefl _)
 have cellK:∀ x c,X.env.cells.lookup x=some c->∀ v,s.heap.IsCell c v->h'.IsCell c v:=fun x c e v ⟨o,ho,hd⟩=>by
   have nch:c∉ch:=fun z=>(hch c z).2.2.1 x c e rfl;by_cases hc:c∈X.fs
   · obtain⟨sl,q⟩:=slot c o (I.cne x c e) hc nch ho (I.freeC x c e);exact⟨_,q,hd⟩
   · exact⟨o,keep c o (I.cne x c e) hc nch ho (I.freeC x c e),hd⟩
 refine⟨I.ok,I.os,hg,⟨fun b o e n hb hx=>?_,fun b o e n hb hx=>?_,fun b o e n hx=>?_,fun b o e hx=>?_,fun b xs e=>tups b xs (I.base.tups b xs e),fun b o xs e=>frzs b o xs (I.base.frzs b o xs e),fun b ps e=>?_⟩,?_,fun x c e=>?_,?_,fun x c e=>?_,fun p hp=>?_,hok,I.len⟩
 · exact keep b o (neL b o e) hb (neC b o e hx) (I.base.keep b o e n hb hx) (I.base.free b o e n hx)
 · obtain⟨sl,e1⟩:=I.base.slot b o e n hb hx;obtain⟨sl',e2⟩:=slot b _ (neL b o e) hb (neC b o e hx) e1 (I.base.free b o e n hx);exact⟨sl',e2⟩
 · obtain⟨o',e1⟩:=I.base.there b o e hx;exact free b o' (neC b o e hx) e1 (I.base.free b o e n hx)
 · obtain⟨o',e1⟩:=I.base.there b o e hx;exact there b o' (neC b o e hx) e1
 · obtain⟨m1,e1⟩:=I.base.tbls b ps e;obtain⟨m2,e2⟩:=tbls b _ e1;exact⟨m1++m2,by rw[e2,Array.append_assoc]⟩
 · obtain⟨m,hn,hl⟩:=I.loc;refine⟨m,ns m hn,fun i x v e1 e2 e3=>?_⟩;obtain⟨u,r,l⟩:=hl i x v e1 e2 e3;refine⟨u,r,?_⟩;rcases l with l|⟨k,c,e,z⟩
   · exact .inl l
   · exact .inr ⟨k,c,e,cellK x c e _ z⟩
 · obtain⟨v,z⟩:=I.cell x c e;exact⟨v,cellK x c e v z⟩
 · obtain⟨m,⟨o,_,_,ho,_⟩,_⟩:=I.loc;exact free _ o (fun z=>(hch _ z).2.1 rfl) ho I.free
 · obtain⟨v,o,ho,hd⟩:=I.cell x c e;exact free c o (fun z=>(hch c z).2.2.1 x c e rfl) ho (I.freeC x c e)
 · obtain⟨e,n,ne,nf,d⟩:=I.pin p hp;have nch:p.1∉ch:=fun z=>(hch p.1 z).2.2.2 p hp rfl;exact⟨keep p.1 p.2 ne nf nch e n,free p.1 p.2 nch e n,ne,nf,d⟩
theorem Inv.un {t':Nat} (I:Inv X pins σ H s) (u:Un X.fs [] H H' s.heap h') (hok:HOk X.prog X.w H' h'):Inv X pins σ H' { s with heap:=h',toks:=t' }:=by
 obtain⟨m,⟨o,es,ep,ho,r⟩,_⟩:=id I.loc;obtain⟨sl,hL⟩:=u.any ho I.free (by simp)
 exact I.step (g':=s.gens) (d':=s.drawn) (ch:=[]) (fun _ z=>nomatch z) (fun b o _ hb _ e n=>u.keep b o e n hb (by simp)) (fun b o _ hb _ e n=>u.slot b o e n hb (by simp)) (fun b o _ e n=>u.free b o e n (by simp)) (fun b o _ e=>u.there b o e (by simp)) u.tups u.frzs u.tbls (fun m' hm=>by
   obtain⟨o',es',ep',ho',r'⟩:=hm;rw[ho]at ho';cases ho'
   exact⟨_,es',ep',hL,r'⟩) hok I.bare
theorem Inv.call {g':Array GenState}{t':Nat}{d':Drawn}{ch:List Addr} (I:Inv X pins σ H s) (u:Un (frs X.stack) ch H H' s.heap h') (hok:HOk X.prog X.w H' h') (hg:AllBare g')
   (hch:∀ b∈ch,(b∈X.ex∨X.s₀.heap.objs.size≤b)∧b≠X.env.locals∧(∀ x c,X.env.cells.lookup x=some c->c≠b)∧∀ p∈X.pn++pins,p.1≠b) :
   Inv X pins σ H' { s with heap:=h',gens:=g',drawn:=d',toks:=t' }:=by
 obtain⟨m,⟨o,es,ep,ho,r⟩,_⟩:=id I.loc;obtain⟨sl,hL⟩:=u.any ho I.free fun z=>(hch _ z).2.1 rfl
 exact I.step (ch:=ch) hch (fun b o hL hb hc e n=>u.keep b o e n (fun z=>(List.mem_cons.mp (I.stkSub b z)).elim hL hb) hc) (fun b o _ _ hc e n=>u.any e n hc) (fun b o hc e n=>u.free b o e n hc) (fun b o hc e=>u.there b o e hc) u.tups u.frzs u.tbls (fun m' hm=>by
   obtain⟨o',es',ep',ho',r'⟩:=hm;rw[ho]at ho';cases ho'
   exact⟨_,es',ep',hL,r'⟩) hok hg
theorem Inv.turned {t':Nat}{it:Addr} (I:Inv X pins σ H s) (k:∀ b o,b≠it->s.heap.get? b=some o->h'.get? b=some o) (hn:H it=none) (hL:it≠X.env.locals)
   (h1:it∈X.ex∨X.s₀.heap.objs.size≤it) (h2:∀ x c,X.env.cells.lookup x=some c->c≠it) (h3:∀ p∈X.pn++pins,p.1≠it):Inv X pins σ H { s with heap:=h',toks:=t' }:=by
 have nit:∀ b u,H b=some u->b≠it:=fun b u e z=>by rw[z,hn]at e;cases e
 refine I.step (g':=s.gens) (d':=s.drawn) (ch:=[it]) (fun b hb=>?_) (fun b o _ _ hc e _=>k b o (fun z=>hc (by simp[z])) e) (fun b o _ _ hc e _=>⟨o.slots,k b o (fun z=>hc (by simp[z])) e⟩) (fun _ _ _ _ n=>n)
   (fun b o hc e=>⟨o,k b o (fun z=>hc (by simp[z])) e⟩) (fun _ _ e=>e) (fun _ _ _ e=>e) (fun b ps e=>⟨#[],by rw[e];simp⟩) (fun m hm=>?_) (fun b u e=>?_) I.bare
 · have e:b=it:=by simpa using hb
   subst e;exact⟨h1,hL,h2,h3⟩
 · obtain⟨o,es,ep,ho,r⟩:=hm;exact⟨o,es,ep,k _ o (Ne.symm hL) ho,r⟩
 · refine(I.hok b u e).stay (fun c v hc q=>k c v ?_ q) (fun _ q=>q) fun _ _ q=>q;rcases hc with z|z
   · rw[z];exact nit b u e
   · exact nit c _ z
theorem Inv.tok (I:Inv X pins σ H s) (t:Nat):Inv X pins σ H { s with toks:=t }:=I.un (h':=s.heap) (t':=t) Un.refl I.hok
theorem Inv.kept {t':Nat} (I:Inv X pins σ H s) (k:∀ b u,s.heap.get? b=some u->h'.get? b=some u):Inv X pins σ H { s with heap:=h',toks:=t' }:=I.un (Un.kept k) (I.hok.kept k)
theorem Inv.laid {a:Addr}{o:HO}{t':Nat} (I:Inv X pins σ H s) (k:∀ b u,s.heap.get? b=some u->h'.get? b=some u) (hp:s.heap.objs.size≤a) (new:ObjOk X.prog X.w (upd H a o) h' a o) :
   Inv X pins σ (upd H a o) { s with heap:=h',toks:=t' }:=I.un (Un.laid k hp (I.hok.fresh hp)) (I.hok.laid k hp new)
theorem Inv.write {x e:Addr}{o:HO}{t':Nat} (I:Inv X pins σ H s) (mu:Mut (H x)) (he:e=x∨H e=some (.own x)) (k:∀ b u,b≠e->s.heap.get? b=some u->h'.get? b=some u) (heo:∃ u,h'.get? e=some u)
   (new:ObjOk X.prog X.w (upd H x o) h' x o):Inv X pins σ (upd H x o) { s with heap:=h',toks:=t' }:=I.un (Un.write mu he k heo) (I.hok.write mu he k heo new)
theorem Inv.pins_of {pins':List (Addr×Obj)} (I:Inv X pins σ H s) (h:∀ p∈pins',s.heap.get? p.1=some p.2∧H p.1=none∧p.1≠X.env.locals∧p.1∉X.fs∧∀ v,p.2.data≠.cell v):Inv X pins' σ H s :=
 ⟨I.ok,I.os,I.bare,I.base,I.loc,I.cell,I.free,I.freeC,fun p hp=>(List.mem_append.mp hp).elim (fun z=>I.pin p (List.mem_append_left _ z)) (h p),I.hok,I.len⟩
theorem qcM {N:List Str} (hN:N.Nodup) {i j:Nat}{x:Str} (a:N[i]?=some x) (b:N[j]?=some x):i=j:=by
 obtain⟨h1,e1⟩:=List.getElem?_eq_some_iff.mp a;obtain⟨h2,e2⟩:=List.getElem?_eq_some_iff.mp b;exact(List.getElem_inj hN).mp (e1.trans e2.symm)
theorem qfP {M:Model}{A:Around}{E:Value->Shared->Prop}{i:Nat}{x:Str}{v:V}{u:Value}{Q:Unit->Shared->Prop} (I:Inv X pins σ H s) (hN:X.N.Nodup) (hi:X.N[i]?=some x) (hx:Loc X.env.scope x) (r:RelV v u)
   (h:∀ s',Inv X pins (σ.set i (some v)) H s'->(∃ a,Heap.SameBut a s.heap s'.heap∧(a=X.env.locals∨X.env.cells.lookup x=some a))->Q () s') (hf:X.fn x=true∨X.env.scope.names.lookup x=some .local:=by first|exact .inl rfl|exact .inr rfl|assumption):wpAny M A (storeName X.env x u) Q E s:=by
 obtain⟨m,hn,hl⟩:=id I.loc;have hcls:(X.env.scope.kind == .class || (X.env.scope.kind == .module && X.env.locals != X.env.globals))=false:=by rw[I.ok.kind];rfl
 have hiσ:i < σ.length:=by rw[I.len];exact(List.getElem?_eq_some_iff.mp hi).1
 have cne:=I.cne
 have tracked:∀ {a:Addr}{h':Heap},(∃ o,s.heap.get? a=some o∧H a=none)->Heap.SameBut a s.heap h'->HOk X.prog X.w H h':=fun {a h'} ha hs b ob e=>by
   obtain⟨_,_,hfree⟩:=ha;refine(I.hok b ob e).stay (fun c w' hc q=>(hs.2 c ?_).trans q) (fun _ q=>q) fun _ _ q=>q;rintro rfl;rcases hc with rfl|hc
   · rw[hfree]at e;cases e
   · rw[hfree]at hc;cases hc
 rcases hx with hk|hk
 · refine wpAny_storeName_local hk hn (fun h' hn' hs=>?_) hcls;obtain⟨oL,_,_,hoL,_⟩:=id hn;refine h _ ⟨I.ok,I.os,I.bare,⟨fun b o e n hb hx=>?_,fun b o e n hb hx=>?_,I.base.free,fun b o e hx=>?_,I.base.tups,I.base.frzs,I.base.tbls⟩,⟨_,hn',fun j y v' e1 e2 e3=>?_⟩,fun y c e=>?_,I.free,I.freeC,fun p hp=>?_,tracked ⟨oL,hoL,I.free⟩ hs,by simpa using I.len⟩ ⟨_,hs,.inl rfl⟩
   · exact(hs.2 b (Nat.ne_of_lt (Nat.lt_of_lt_of_le (Heap.lt_size e) I.ok.above))).trans (I.base.keep b o e n hb hx)
   · obtain⟨sl,e1⟩:=I.base.slot b o e n hb hx;exact⟨sl,(hs.2 b (Nat.ne_of_lt (Nat.lt_of_lt_of_le (Heap.lt_size e) I.ok.above))).trans e1⟩
   · obtain⟨o',e1⟩:=I.base.there b o e hx;exact⟨o',(hs.2 b (Nat.ne_of_lt (Nat.lt_of_lt_of_le (Heap.lt_size e) I.ok.above))).trans e1⟩
   · by_cases hj:j=i
     · subst hj;rw[hi]at e1;cases e1;rw[List.getElem?_set_self hiσ]at e2;cases e2;exact⟨u,r,.inl ⟨hk,by simp⟩⟩
     · rw[List.getElem?_set_ne (Ne.symm hj)]at e2;obtain⟨u',r',q⟩:=hl j y v' e1 e2 e3;refine⟨u',r',?_⟩;rcases q with ⟨k,e⟩|⟨k,c,e,z⟩
       · refine .inl ⟨k,?_⟩
         have:y≠x:=fun e=>hj (qcM hN e1 (e▸hi))
         simp[this,e]
       · exact .inr ⟨k,c,e,z.sameBut hs (cne y c e)⟩
   · obtain⟨w',z⟩:=I.cell y c e;exact⟨w',z.sameBut hs (cne y c e)⟩
   · obtain⟨e,n,ne,nf,d⟩:=I.pin p hp;exact⟨(hs.2 p.1 ne).trans e,n,ne,nf,d⟩
 · have hfn:X.fn x=true:=by
     rcases hf with z|z
     · exact z
     · rw[z]at hk;cases hk
   obtain⟨c,hc⟩:=I.ok.has x (.inl hk);obtain⟨w',z⟩:=I.cell x c hc;refine wpAny_storeName_cell I.ok.kind hk hc z (fun h' hc' hs=>?_);obtain⟨oc,hoc,hocd⟩:=id z;refine h { s with heap:=h' } ⟨I.ok,I.os,I.bare,⟨fun b o e n hb hx=>?_,fun b o e n hb hx=>?_,I.base.free,fun b o e hx=>?_,I.base.tups,I.base.frzs,I.base.tbls⟩,⟨m,hn.sameBut hs (Ne.symm (cne x c hc)),fun j y v' e1 e2 e3=>?_⟩,fun y c' e=>?_,I.free,I.freeC,fun p hp=>?_,tracked ⟨oc,hoc,I.freeC x c hc⟩ hs,by simpa using I.len⟩ ⟨c,hs,.inr hc⟩
   · exact(hs.2 b (Nat.ne_of_lt (Nat.lt_of_lt_of_le (Heap.lt_size e) (I.ok.cab x c hfn hc)))).trans (I.base.keep b o e n hb hx)
   · obtain⟨sl,e1⟩:=I.base.slot b o e n hb hx;exact⟨sl,(hs.2 b (Nat.ne_of_lt (Nat.lt_of_lt_of_le (Heap.lt_size e) (I.ok.cab x c hfn hc)))).trans e1⟩
   · obtain⟨o',e1⟩:=I.base.there b o e hx;exact⟨o',(hs.2 b (Nat.ne_of_lt (Nat.lt_of_lt_of_le (Heap.lt_size e) (I.ok.cab x c hfn hc)))).trans e1⟩
   · by_cases hj:j=i
     · subst hj;rw[hi]at e1;cases e1;rw[List.getElem?_set_self hiσ]at e2;cases e2;exact⟨u,r,.inr ⟨.inl hk,c,hc,hc'⟩⟩
     · rw[List.getElem?_set_ne (Ne.symm hj)]at e2;obtain⟨u',r',q⟩:=hl j y v' e1 e2 e3;refine⟨u',r',?_⟩;rcases q with q|⟨k,c',e,z'⟩
       · exact .inl q
       · refine .inr ⟨k,c',e,z'.sameBut hs ?_⟩;rintro rfl;exact hj (qcM hN e1 (I.ok.inj _ _ _ e hc▸hi))
   · by_cases hcc:c'=c
     · subst hcc;exact⟨_,hc'⟩
     · obtain⟨w2,z2⟩:=I.cell y c' e;exact⟨w2,z2.sameBut hs hcc⟩
   · obtain⟨e,n,ne,nf,d⟩:=I.pin p hp;refine⟨(hs.2 p.1 ?_).trans e,n,ne,nf,d⟩;intro q;rw[q,hoc]at e;have q':oc=p.2:=Option.some.inj e;exact d w' (by rw[← q'];exact hocd)
theorem qap {M:Model}{A:Around}{E:Value->Shared->Prop}{i:Nat}{x:Str}{v:V}{u:Value}{Q:Unit->Shared->Prop} (I:Inv X pins σ H s) (hN:X.N.Nodup) (hi:X.N[i]?=some x) (hx:Loc X.env.scope x) (r:RelV v u)
   (h:∀ s',Inv X pins (σ.set i (some v)) H s'->Q () s') (hf:X.fn x=true∨X.env.scope.names.lookup x=some .local:=by first|exact .inl rfl|exact .inr rfl|assumption):wpAny M A (storeName X.env x u) Q E s :=
 qfP I hN hi hx r (fun s' I' _=>h s' I') hf
theorem Inv.call' {s':Shared}{ch:List Addr} (I:Inv X pins σ H s) (ho:s'.os=s.os) (u:Un (frs X.stack) ch H H' s.heap s'.heap) (hok:HOk X.prog X.w H' s'.heap) (hg:AllBare s'.gens)
   (hch:∀ b∈ch,(b∈X.ex∨X.s₀.heap.objs.size≤b)∧b≠X.env.locals∧(∀ x c,X.env.cells.lookup x=some c->c≠b)∧∀ p∈X.pn++pins,p.1≠b):Inv X pins σ H' s':=by
 obtain⟨h',g',d',t',o'⟩:=s';have e:o'=s.os:=ho;subst e;exact I.call (g':=g') (t':=t') (d':=d') u hok hg hch
end
abbrev XK:=Value->Option Addr->Hp->Prop
abbrev St:=List (Option V)
abbrev VK:=V->Hp->Prop
abbrev TE:=St->Hp->VK->Prop
abbrev TT:=St->Hp->(Bool->Hp->Prop)->Prop
abbrev TA:=St->Hp->(List V->Hp->Prop)->Prop
structure qhg where
 nx:St->Hp->Prop
 rt:VK
 bk:St->Hp->Prop:=fun _ _=>False
 ct:St->Hp->Prop:=fun _ _=>False
abbrev TS:=qhg->St->Hp->Prop
inductive ql5 (X:Cx) (pins:List (Addr×Obj)) (σ:St) (Q:VK) (u:Value) (s':Shared):Prop
 | mk (v H':_) (h1:Inv X pins σ H' s') (h2:RelV v u) (h3:Q v H'):ql5 X pins σ Q u s'
def EP (X:Cx) (pins:List (Addr×Obj)) (σ:St) (Q:VK) (u:Value) (s':Shared):Prop:=ql5 X pins σ Q u s'
def TP (X:Cx) (pins:List (Addr×Obj)) (σ:St) (Q:Bool->Hp->Prop) (b:Bool) (s':Shared):Prop:=∃ H',Inv X pins σ H' s'∧Q b H'
inductive ql6 (X:Cx) (pins:List (Addr×Obj)) (σ:St) (Q:List V->Hp->Prop) (us:List Value) (s':Shared):Prop
 | mk (vs H':_) (h1:Inv X pins σ H' s') (h2:Vals vs us) (h3:Q vs H'):ql6 X pins σ Q us s'
def AP (X:Cx) (pins:List (Addr×Obj)) (σ:St) (Q:List V->Hp->Prop) (us:List Value) (s':Shared):Prop:=ql6 X pins σ Q us s'
def SP (X:Cx) (pins:List (Addr×Obj)) (D:qhg) (f:Flow) (s':Shared):Prop :=
 match f with
 | .next=>∃ σ' H',Inv X pins σ' H' s'∧D.nx σ' H'
 | .brk=>∃ σ' H',Inv X pins σ' H' s'∧D.bk σ' H'
 | .cont=>∃ σ' H',Inv X pins σ' H' s'∧D.ct σ' H'
 | .ret u=>∃ v σ' H',Inv X pins σ' H' s'∧RelV v u∧D.rt v H'
def PE (X:Cx) (e:Expr) (t:TE):Prop :=
 ∀ (pins:List (Addr×Obj)) (s:Shared) (σ:St) (H:Hp) (Q:VK),Inv X pins σ H s->t σ H Q->wpAny (model X.prog X.w) X.A (eval e X.env) (EP X pins σ Q) X.xe s
def PT (X:Cx) (e:Expr) (t:TT):Prop :=
 ∀ (pins:List (Addr×Obj)) (s:Shared) (σ:St) (H:Hp) (Q:Bool->Hp->Prop),Inv X pins σ H s->t σ H Q->wpAny (model X.prog X.w) X.A (isTrue e X.env (eval e X.env)) (TP X pins σ Q) X.xe s
def PW (X:Cx) (e:Expr) (t:TT):Prop :=
 ∀ (whole:Sem Value) (pins:List (Addr×Obj)) (s:Shared) (σ:St) (H:Hp) (Q:Bool->Hp->Prop),Inv X pins σ H s->t σ H Q->wpAny (model X.prog X.w) X.A (isTrue e X.env whole) (TP X pins σ Q) X.xe s
theorem PW.pt {X:Cx}{e:Expr}{t:TT} (h:PW X e t):PT X e t:=h _
def PA (X:Cx) (es:List Expr) (t:TA):Prop :=
 ∀ (pos:Pos) (pins:List (Addr×Obj)) (s:Shared) (σ:St) (H:Hp) (Q:List V->Hp->Prop),Inv X pins σ H s->t σ H Q->wpAny (model X.prog X.w) X.A (spliced (backTo pos (starEach es X.env))) (AP X pins σ Q) X.xe s
def PS (X:Cx) (st:Stmt) (t:TS):Prop :=
 ∀ (pins:List (Addr×Obj)) (s:Shared) (σ:St) (H:Hp) (D:qhg),Inv X pins σ H s->t D σ H->wpAny (model X.prog X.w) X.A (exec st X.env) (SP X pins D) X.xe s
def PSs (X:Cx) (st:List Stmt) (t:TS):Prop :=
 ∀ (pins:List (Addr×Obj)) (s:Shared) (σ:St) (H:Hp) (D:qhg),Inv X pins σ H s->t D σ H->wpAny (model X.prog X.w) X.A (execs st X.env) (SP X pins D) X.xe s
theorem thn {α:Type}{t:Sem α}{Q Q':α->Shared->Prop}{M:Model}{A:Around}{E:Value->Shared->Prop}{s:Shared} (h:wpAny M A t Q E s) (hQ:∀ a s,Q a s->Q' a s):wpAny M A t Q' E s:=wpAny_mono h hQ fun _ _ x=>x
section
variable {X:Cx}
inductive qil (i:Nat) (σ:St) (H:Hp) (Q:VK):Prop
 | mk (v:_) (h1:σ[i]?=some (some v)) (h2:Q v H):qil i σ H Q
def qjO (i:Nat):TE:=fun σ H Q=>qil i σ H Q
def tC (v:V):TE:=fun _ H Q=>Q v H
theorem qks {i:Nat}{x:Str}{pos:Pos} (hN:X.N[i]?=some x) (hv:Vis X.env.scope x) (hd:(x == ("__debug__":Str))=false:=by decide) (hcd:(x == ("__classdict__":Str))=false:=by decide):PE X (.Name x pos) (qjO i):=by
 intro pins s σ H Q I h;obtain⟨v,e,h⟩:=h;obtain⟨m,hn,hl⟩:=I.loc;obtain⟨u,r,l⟩:=hl i x v hN e hv;have fin:EP X pins σ Q u s:=⟨v,H,I,r,h⟩
 rcases l with ⟨hk,hm⟩|⟨hk,c,hc,hcell⟩
 · exact wpAny_Name (wpAny_loadName_local I.ok.kind hk hn hm fin) hd
 · rcases hk with hk|hk
   · exact wpAny_Name (wpAny_loadName_cell I.ok.kind hk hc hcell fin) hd
   · exact wpAny_Name (wpAny_loadName_free I.ok.kind hk hc hcell fin hcd) hd
theorem qf {i j pos}:PE X (.Constant (.int i) j pos) (tC (.int i)):=fun _ _ _ H _ I h=>wpAny_Constant_int ⟨.int i,H,I.tok _,⟨_,rfl⟩,h⟩
theorem zn {b j pos}:PE X (.Constant (.bool b) j pos) (tC (.bl b)):=fun _ _ _ H _ I h=>Constant_bool ⟨.bl b,H,I,rfl,h⟩
theorem jw {j pos}:PE X (.Constant .none j pos) (tC .non):=fun _ _ _ H _ I h=>Constant_none ⟨.non,H,I,rfl,h⟩
theorem qt {x j pos}:PE X (.Constant (.str x) j pos) (tC (.str x)):=fun _ _ _ H _ I h=>Calls.Constant_str ⟨.str x,H,I.tok _,⟨_,rfl⟩,h⟩
def Gl (X:Cx) (x:Str):Prop:=X.env.kindOf x=some .globalImplicit
theorem ZR {E:Value->Shared->Prop}{pins:List (Addr×Obj)}{s:Shared}{σ:St}{H:Hp}{x:Str}{u:Value}{pos:Pos}{Q:Value->Shared->Prop} (I:Inv X pins σ H s) (hg:Gl X x) (hm:X.mg x=some u) (h:Q u s)
   (hd:(x == ("__debug__":Str))=false:=by decide):wpAny (model X.prog X.w) X.A (eval (.Name x pos) X.env) Q E s :=
 Calls.Name_function_global I.ok.kind hg (Calls.loadGlobal_global (by rw[I.ok.glob];exact I.mod.glob.keeps I.bk) hm h) hd
theorem qbi {E:Value->Shared->Prop}{pins:List (Addr×Obj)}{s:Shared}{σ:St}{H:Hp}{x:Str}{u:Value}{pos:Pos}{Q:Value->Shared->Prop} (I:Inv X pins σ H s) (hg:Gl X x) (hm:X.mg x=none) (hv:bootBuiltins x=some u) (h:Q u s)
   (hn:x≠"__name__":=by decide) (hd:(x == ("__debug__":Str))=false:=by decide):wpAny (model X.prog X.w) X.A (eval (.Name x pos) X.env) Q E s:=by
 obtain⟨mb,h1,h2⟩:=I.mod.blt;exact Calls.Name_function_global I.ok.kind hg (Calls.loadGlobal_builtin (by rw[I.ok.glob];exact I.mod.glob.keeps I.bk) hm (by rw[I.ok.blt];exact h1.keeps I.bk) ((h2 x hn).trans hv) h) hd
theorem qI {x:Str}{v:V}{u:Value}{pos:Pos} (hg:Gl X x) (hm:X.mg x=some u) (r:RelV v u) (hd:(x == ("__debug__":Str))=false:=by decide):PE X (.Name x pos) (tC v) :=
 fun _ _ _ H _ I h=>ZR I hg hm ⟨v,H,I,r,h⟩ hd
theorem Qh {x:Str}{v:V}{u:Value}{pos:Pos} (hg:Gl X x) (hm:X.mg x=none) (hv:bootBuiltins x=some u) (r:RelV v u) (hn:x≠"__name__":=by decide) (hd:(x == ("__debug__":Str))=false:=by decide):PE X (.Name x pos) (tC v) :=
 fun _ _ _ H _ I h=>qbi I hg hm hv ⟨v,H,I,r,h⟩ hn hd
variable {a b:Expr}{ta tb:TE}{pos:Pos}
inductive qlP (Q:(Bool->Hp->Prop)) (x:V) (H1:Hp):Prop
 | mk (c:_) (h1:x=.bl c) (h2:Q c H1):qlP Q x H1
def tB (t:TE):TT:=fun σ H Q=>t σ H fun x H1=>qlP Q x H1
theorem qP {e:Expr}{t:TE} (h:PE X e t) (he:∀ whole,isTrue e X.env whole=(do let v ← whole;standAt e.pos;holding [v] (truthy v)):=by intro _;rfl):PT X e (tB t):=by
 intro pins s σ H Q I hw;refine isTrue_plain (thn (h pins s σ H _ I hw) fun v s1 zz_=>?_) (he _);obtain⟨x,H1,I1,r1,q1⟩:=zz_;obtain⟨d,rfl,q⟩:=q1;cases r1;exact wpAny_truthy_bool ⟨H1,I1,q⟩
variable {tA tB':TT}{rest:List Expr}
def qmg (t u:TT):TT:=fun σ H Q=>t σ H fun c H1=>if c=true then u σ H1 Q else Q false H1
def tOr (t u:TT):TT:=fun σ H Q=>t σ H fun c H1=>if c=true then Q true H1 else u σ H1 Q
def qmc (t:TT):TT:=fun σ H Q=>t σ H fun c H1=>Q (!c) H1
theorem qaY (ha:PT X a tA):PW X (.BoolOp .And [a] pos) tA:=by
 intro wh pins s σ H Q I h;refine isTrue_and (thn (ha pins s σ H Q I h) fun c s1 e=>?_)
 cases c with
 | true=>exact isTrue_and_nil e
 | false=>exact e
theorem ZG (ha:PT X a tA):PW X (.BoolOp .Or [a] pos) tA:=by
 intro wh pins s σ H Q I h;refine isTrue_or (thn (ha pins s σ H Q I h) fun c s1 e=>?_)
 cases c with
 | false=>exact isTrue_or_nil e
 | true=>exact e
theorem qdq (ha:PT X a tA) (hb:PW X (.BoolOp .And (b::rest) pos) tB'):PW X (.BoolOp .And (a::b::rest) pos) (qmg tA tB'):=by
 intro wh pins s σ H Q I h;refine isTrue_and (thn (ha pins s σ H _ I h) fun c s1 zz_=>?_);obtain⟨H1,I1,q1⟩:=zz_
 cases c with
 | true=>exact hb wh pins s1 σ H1 Q I1 q1
 | false=>exact⟨H1,I1,q1⟩
theorem Jt (ha:PT X a tA) (hb:PW X (.BoolOp .Or (b::rest) pos) tB'):PW X (.BoolOp .Or (a::b::rest) pos) (tOr tA tB'):=by
 intro wh pins s σ H Q I h;refine isTrue_or (thn (ha pins s σ H _ I h) fun c s1 zz_=>?_);obtain⟨H1,I1,q1⟩:=zz_
 cases c with
 | true=>exact⟨H1,I1,q1⟩
 | false=>exact hb wh pins s1 σ H1 Q I1 q1
theorem qV (ha:PT X a tA):PT X (.UnaryOp .Not a pos) (qmc tA):=by
 intro pins s σ H Q I h;exact isTrue_not (ha pins s σ H (fun c H1=>Q (!c) H1) I h)
def qlj (ta tb:TE):TE:=fun σ H Q=>ta σ H fun x H1=>∃ c,x=.bl c∧if c=true then tb σ H1 Q else Q (.bl false) H1
inductive qfM (Q:VK) (x:V) (H1:Hp):Prop
 | mk (c:_) (h1:x=.bl c) (h2:Q (.bl (!c)) H1):qfM Q x H1
def qle (ta:TE):TE:=fun σ H Q=>ta σ H fun x H1=>qfM Q x H1
theorem qdt {op}{t:TE} (h:PE X a t):PE X (.BoolOp op [a] pos) t:=fun pins s σ H Q I hw=>BoolOp_one (h pins s σ H Q I hw)
theorem qa1 (ha:PE X a ta) (hb:PE X (.BoolOp .And (b::rest) pos) tb):PE X (.BoolOp .And (a::b::rest) pos) (qlj ta tb):=by
 intro pins s σ H Q I h;refine BoolOp_and (thn (ha pins s σ H _ I h) fun v s1 zz_=>?_);obtain⟨x,H1,I1,r1,q1⟩:=zz_;obtain⟨c,rfl,q1⟩:=q1;cases r1;refine wpAny_truthy_bool ?_
 cases c with
 | true=>exact hb pins s1 σ H1 Q I1 q1
 | false=>exact⟨.bl false,H1,I1,rfl,q1⟩
theorem qkt (ha:PE X a ta):PE X (.UnaryOp .Not a pos) (qle ta):=by
 intro pins s σ H Q I h;refine UnaryOp_ (thn (ha pins s σ H _ I h) fun v s1 zz_=>?_);obtain⟨x,H1,I1,r1,q1⟩:=zz_;obtain⟨c,rfl,q1⟩:=q1;cases r1;exact not_of (wpAny_truthy_bool ⟨.bl (!c),H1,I1,rfl,q1⟩)
end
def SqL (K:Frag) (H:Hp) (a:Addr) (xs:List V):Prop :=
 Rd H a (.lst xs) ∨
   ∃ (o:Obj) (its:Array Value) (n:Nat),K.lookup a=some o∧o.cls=.type "list"∧o.dict=none∧o.data=.seq its n∧its.size≤sizeLine∧Vals xs its.toList
def SqT (K:Frag) (H:Hp) (a:Addr) (xs:List V):Prop :=
 Rd H a (.tup xs) ∨
   ∃ (o:Obj) (its:Array Value) (n:Nat),K.lookup a=some o∧o.cls=.type "tuple"∧o.data=.seq its n∧its.size≤sizeLine∧Vals xs its.toList
def qmw:Value->Option V
 | .none=>some .non
 | .bool b=>some (.bl b)
 | .int i _=>some (.int i)
 | .str x _=>some (.str x)
 | .bytes b _=>some (.byt b)
 | .float b _=>some (.flt b)
 | .ref a=>some (.ref a)
 | .type n=>some (.ty n)
 | _=>none
theorem RelV.abs {x:V}{u:Value} (r:RelV x u):qmw u=some x:=by
 cases x with
 | non=>cases r;rfl
 | bl _=>cases r;rfl
 | int _=>obtain⟨t,rfl⟩:=r;rfl
 | str _=>obtain⟨t,rfl⟩:=r;rfl
 | byt _=>obtain⟨t,rfl⟩:=r;rfl
 | flt _=>obtain⟨t,rfl⟩:=r;rfl
 | ref _=>cases r;rfl
 | ty _=>cases r;rfl
theorem RelV.inj {x y:V}{u:Value} (r:RelV x u) (q:RelV y u):x=y:=Option.some.inj (r.abs.symm.trans q.abs)
theorem Vals.inj:∀ {xs ys:List V}{us:List Value},Vals xs us->Vals ys us->xs=ys
 | _,_,_,.nil,.nil=>rfl
 | _,_,_,.cons r t,.cons r' t'=>by rw[r.inj r',Vals.inj t t']
section
variable {X:Cx}{pins:List (Addr×Obj)}{σ:St}{H:Hp}{s:Shared}{a:Addr}{xs ys:List V}
theorem SqL.of {K:Frag} (h:H a=some (.lst xs)):SqL K H a xs:=.inl (.inl h)
theorem SqT.of {K:Frag} (h:H a=some (.tup xs)):SqT K H a xs:=.inl (.inl h)
theorem Inv.list (I:Inv X pins σ H s) (h:SqL X.K H a xs):∃ its:List Value,Vals xs its∧PlainL s.heap a its.toArray∧xs.length≤sizeLine:=by
 rcases h with h|⟨o,its,n,hk,hc,hd,hs,hz,r⟩
 · obtain⟨z,its,n,r,e⟩:=h.ok I.hok;exact⟨its,r,⟨_,n,e,rfl,rfl,rfl⟩,z⟩
 · refine⟨its.toList,r,⟨o,n,I.kIn a o hk,hc,hd,by simpa using hs⟩,?_⟩;have e:=r.length;simp only[Array.length_toList]at e;omega
theorem Inv.tuple (I:Inv X pins σ H s) (h:SqT X.K H a xs):∃ its:List Value,Vals xs its∧IsTup s.heap a its.toArray∧xs.length≤sizeLine:=by
 rcases h with h|⟨o,its,n,hk,hc,hs,hz,r⟩
 · obtain⟨z,its,r,p⟩:=h.ok I.hok;exact⟨its,r,p,z⟩
 · refine⟨its.toList,r,⟨o,I.kIn a o hk,hc,n,by simpa using hs⟩,?_⟩;have e:=r.length;simp only[Array.length_toList]at e;omega
theorem Inv.list_inj (I:Inv X pins σ H s) (h:SqL X.K H a xs) (h':SqL X.K H a ys):xs=ys:=by
 obtain⟨its,r,⟨o,n,e,_,_,d⟩,_⟩:=I.list h;obtain⟨its',r',⟨o',n',e',_,_,d'⟩,_⟩:=I.list h';rw[e]at e';cases e';rw[d]at d';injection d' with d1 _
 have:its=its':=by simpa using congrArg Array.toList d1
 subst this;exact r.inj r'
theorem Inv.tuple_inj (I:Inv X pins σ H s) (h:SqT X.K H a xs) (h':SqT X.K H a ys):xs=ys:=by
 obtain⟨its,r,⟨o,e,_,n,d⟩,_⟩:=I.tuple h;obtain⟨its',r',⟨o',e',_,n',d'⟩,_⟩:=I.tuple h';rw[e]at e';cases e';rw[d]at d';injection d' with d1 _
 have:its=its':=by simpa using congrArg Array.toList d1
 subst this;exact r.inj r'
end
abbrev Cx.wish (X:Cx) (E:Value->Shared->Prop):Cx:={ X with xe:=E }
abbrev Cx.nox (X:Cx):Cx:=X.wish fun _ _=>False
theorem Cx.Ok.wish {X:Cx} (ok:X.Ok) (E:Value->Shared->Prop):(X.wish E).Ok :=
 ⟨ok.mod,ok.kind,ok.glob,ok.blt,ok.above,ok.inj,ok.has,ok.cab,ok.hd,ok.frames,ok.stk,ok.exf,ok.bs,ok.bsz,ok.noex,ok.exfs,ok.funs,ok.frf⟩
theorem Cx.Ok.unwish {X:Cx}{E:Value->Shared->Prop} (ok:(X.wish E).Ok):X.Ok :=
 ⟨ok.mod,ok.kind,ok.glob,ok.blt,ok.above,ok.inj,ok.has,ok.cab,ok.hd,ok.frames,ok.stk,ok.exf,ok.bs,ok.bsz,ok.noex,ok.exfs,ok.funs,ok.frf⟩
section
variable {X:Cx}{pins:List (Addr×Obj)}{σ:St}{H:Hp}{s:Shared}{E:Value->Shared->Prop}
theorem Inv.wish (I:Inv X pins σ H s) (E:Value->Shared->Prop):Inv (X.wish E) pins σ H s:=⟨I.ok.wish E,I.os,I.bare,I.base,I.loc,I.cell,I.free,I.freeC,I.pin,I.hok,I.len⟩
theorem Inv.unwish (I:Inv (X.wish E) pins σ H s):Inv X pins σ H s:=⟨I.ok.unwish,I.os,I.bare,I.base,I.loc,I.cell,I.free,I.freeC,I.pin,I.hok,I.len⟩
theorem SP.unwish {D:qhg}{f:Flow}{s':Shared} (h:SP (X.wish E) pins D f s'):SP X pins D f s':=by
 cases f with
 | next=>obtain⟨σ',H',I,q⟩:=h;exact⟨σ',H',I.unwish,q⟩
 | brk=>obtain⟨σ',H',I,q⟩:=h;exact⟨σ',H',I.unwish,q⟩
 | cont=>obtain⟨σ',H',I,q⟩:=h;exact⟨σ',H',I.unwish,q⟩
 | ret u=>obtain⟨v,σ',H',I,r,q⟩:=h;exact⟨v,σ',H',I.unwish,r,q⟩
theorem PSs.nox {st:List Stmt}{t:TS} (h:PSs X.nox st t):PSs X st t:=fun pins s σ H D I hw =>
 wpAny_mono (h pins s σ H D (I.wish _) hw) (fun _ _ q=>q.unwish) fun _ _ z=>False.elim z
end
section
variable {X:Cx}{st:Stmt}{rest:List Stmt}{t u:TS}{e:Expr}{te:TE}{pos:Pos}
def qA:TS:=fun D σ H=>D.nx σ H
def qlO (t u:TS):TS:=fun D σ H=>t { D with nx:=u D } σ H
theorem qv:PSs X [] qA:=fun _ _ σ H _ I h=>wpAny_execs_nil ⟨σ,H,I,h⟩
theorem qc (h1:PS X st t) (h2:PSs X rest u):PSs X (st::rest) (qlO t u):=by
 intro pins s σ H D I h;refine wpAny_execs_cons (thn (h1 pins s σ H { D with nx:=u D } I h) fun f s1 q=>?_)
 cases f with
 | next =>
   obtain⟨σ',H',I',q⟩:=q;exact h2 pins s1 σ' H' D I' q
 | ret v=>exact q
 | brk=>exact q
 | cont=>exact q
theorem qe (h1:PS X st t):PSs X [st] t:=by
 intro pins s σ H D I h;refine wpAny_execs_cons (thn (h1 pins s σ H D I h) fun f s1 q=>?_)
 cases f with
 | next=>exact wpAny_execs_nil q
 | ret v=>exact q
 | brk=>exact q
 | cont=>exact q
theorem Inv.quiet {pins:List (Addr×Obj)}{σ:St}{H:Hp}{s:Shared} (I:Inv X pins σ H s):interactive X.env=false:=by simp[interactive,I.ok.kind]
def qlf (te:TE):TS:=fun D σ H=>te σ H fun _ H1=>D.nx σ H1
theorem qx (he:PE X e te) (hs:swapsWith e none pos.line X.env=pure false:=by rfl):PS X (.Expr e pos) (qlf te):=by
 intro pins s σ H D I h;exact wpAny_Expr_any (thn (he pins s σ H _ I h) fun v s1 ⟨x,H1,I1,r1,q1⟩=>⟨σ,H1,I1,q1⟩) I.quiet hs
def qim (te:TE):TS:=fun D σ H=>te σ H D.rt
theorem qy (he:PE X e te):PS X (.Return (some e) pos) (qim te):=by
 intro pins s σ H D I h;exact wpAny_Return_some (thn (he pins s σ H _ I h) fun v s1 ⟨x,H1,I1,r1,q1⟩=>⟨x,σ,H1,I1,r1,q1⟩)
def qlc:TS:=fun D _ H=>D.rt .non H
theorem qji:PS X (.Return none pos) qlc:=fun _ _ σ H _ I h=>wpAny_Return_none ⟨.non,σ,H,I,rfl,h⟩
def qjP (c:TT) (t u:TS):TS:=fun D σ H=>c σ H fun b H1=>if b=true then t D σ H1 else u D σ H1
theorem qM {c:Expr}{a b:List Stmt}{tc:TT} (hc:PT X c tc) (ha:PSs X a t) (hb:PSs X b u):PS X (.If c a b pos) (qjP tc t u):=by
 intro pins s σ H D I h;refine wpAny_If (thn (hc pins s σ H _ I h) fun d s1 zz_=>?_);obtain⟨H1,I1,q1⟩:=zz_
 cases d with
 | true=>exact ha pins s1 σ H1 D I1 q1
 | false=>exact hb pins s1 σ H1 D I1 q1
def qj5:TS:=fun _ _ _=>False
theorem zd:PS X st qj5:=fun _ _ _ _ _ _ h=>h.elim
end
abbrev TG:=V->St->Hp->(St->Hp->Prop)->Prop
abbrev TGs:=List V->St->Hp->(St->Hp->Prop)->Prop
def PG (X:Cx) (target:Expr) (t:TG):Prop :=
 ∀ (pins:List (Addr×Obj)) (s:Shared) (σ:St) (H:Hp) (v:V) (u:Value) (Q:St->Hp->Prop),Inv X pins σ H s->RelV v u->t v σ H Q ->
   wpAny (model X.prog X.w) X.A (assign target X.env u) (fun _ s'=>∃ σ' H',Inv X pins σ' H' s'∧Q σ' H') X.xe s
def PGs (X:Cx) (ts:List Expr) (t:TGs):Prop :=
 ∀ (pins:List (Addr×Obj)) (s:Shared) (σ:St) (H:Hp) (vs:List V) (us:List Value) (Q:St->Hp->Prop),Inv X pins σ H s->Vals vs us->t vs σ H Q ->
   wpAny (model X.prog X.w) X.A (assignInOrder ((assignEach ts X.env).map (·.2)) us) (fun _ s'=>∃ σ' H',Inv X pins σ' H' s'∧Q σ' H') X.xe s
abbrev qlL:=V->V->V->Hp->(Hp->Prop)->Prop
def ql2 (X:Cx) (t:qlL):Prop :=
 ∀ (pins:List (Addr×Obj)) (s:Shared) (σ:St) (H:Hp) (o i v:V) (ov iv u:Value) (Q:Hp->Prop),Inv X pins σ H s->RelV o ov->RelV i iv->RelV v u->t o i v H Q ->
   wpAny (model X.prog X.w) X.A (setItem ov iv u) (fun _ s'=>∃ H',Inv X pins σ H' s'∧Q H') X.xe s
section
variable {X:Cx}{pos:Pos}
def qjD (i:Nat):TG:=fun v σ H Q=>Q (σ.set i (some v)) H
theorem qU {i:Nat}{x:Str} (hN:X.N.Nodup) (hi:X.N[i]?=some x) (hx:Loc X.env.scope x) (hf:X.fn x=true∨X.env.scope.names.lookup x=some .local:=by first|exact .inl rfl|exact .inr rfl|assumption):PG X (.Name x pos) (qjD i):=by
 intro pins s σ H v u Q I r h;exact wpAny_assign_Name (qap I hN hi hx r (fun s' I'=>⟨_,H,I',h⟩) hf)
def qmt:TGs:=fun vs σ H Q=>vs=[]∧Q σ H
inductive qgJ (t:TG) (u:TGs) (vs:List V) (σ:St) (H:Hp) (Q:(St->Hp->Prop)):Prop
 | mk (v r:_) (h1:vs=v::r) (h2:t v σ H fun σ' H'=>u r σ' H' Q):qgJ t u vs σ H Q
def qlC (t:TG) (u:TGs):TGs:=fun vs σ H Q=>qgJ t u vs σ H Q
theorem qa0:PGs X [] qmt:=by
 intro pins s σ H vs us Q I r h;obtain⟨e,h⟩:=h;subst e;cases r;exact assignInOrder_nil ⟨σ,H,I,h⟩
theorem zJ {e:Expr}{es:List Expr}{t:TG}{u:TGs} (h1:PG X e t) (h2:PGs X es u)
   (hs:(assignEach (e::es) X.env).map (·.2)=assign e X.env::(assignEach es X.env).map (·.2):=by rfl):PGs X (e::es) (qlC t u):=by
 intro pins s σ H vs us Q I r h;obtain⟨v,vr,e1,h⟩:=h;subst e1
 cases r with
 | cons r rr =>
   rw[hs];refine assignInOrder_cons (thn (h1 pins s σ H _ _ _ I r h) fun _ s1 zz_=>?_);obtain⟨σ1,H1,I1,q1⟩:=zz_;exact h2 pins s1 σ1 H1 _ _ Q I1 rr q1
inductive qiG (K:Frag) (n:Nat) (t:TGs) (v:V) (σ:St) (H:Hp) (Q:(St->Hp->Prop)):Prop
 | mk (a xs:_) (h1:v=.ref a) (h2:SqT K H a xs) (h3:xs.length=n) (h4:t xs σ H Q):qiG K n t v σ H Q
def qmr (K:Frag) (n:Nat) (t:TGs):TG:=fun v σ H Q=>qiG K n t v σ H Q
theorem qeH {es:List Expr}{k:Nat}{t:TGs}{n:Nat} (hc:X.calm=true) (h:PGs X es t)
   (hn:(assignEach es X.env).length=n:=by rfl) (hst:(assignEach es X.env).findIdx? (·.1)=none:=by rfl):PG X (.Tuple es k pos) (qmr X.K n t):=by
 intro pins s σ H v u Q I r hw;obtain⟨a,xs,e1,hq,hl,hw⟩:=hw;subst e1;cases r;obtain⟨its,rv,ht,hz⟩:=I.tuple hq;refine assign_Tuple_tuple (I.ok.hd hc) ht (by simp[hn,← hl,rv.length]) hst fun h' hx=>?_;have I1:Inv X pins σ H { s with heap:=h' }:=I.kept (t':=s.toks) fun b o e=>hx b o (Nat.ne_of_lt (Heap.lt_size e)) e;exact h pins _ σ H xs _ Q I1 (by simpa using rv) hw
def qms (to ti:TE) (t:qlL):TG:=fun v σ H Q=>to σ H fun o H1=>ti σ H1 fun i H2=>t o i v H2 fun H3=>Q σ H3
theorem qeI {o i:Expr}{to ti:TE}{t:qlL} (ho:PE X o to) (hi:PE X i ti) (hs:ql2 X t)
   (ha:∀ v,assign (.Subscript o i pos) X.env v=(do
     let ov ← holding [v] (eval o X.env);let iv ← holding [v,ov] (eval i X.env)
     standAt pos
     holding [v,ov,iv] (setItem ov iv v)
     release [v,ov,iv] []):=by intro _;rfl):PG X (.Subscript o i pos) (qms to ti t):=by
 intro pins s σ H v u Q I r h;rw[ha];refine wpAny_bind (wpAny_holding (thn (ho pins s σ H _ I h) fun ov s1 zz_=>?_));obtain⟨x,H1,I1,r1,q1⟩:=zz_;refine wpAny_bind (wpAny_holding (thn (hi pins s1 σ H1 _ I1 q1) fun iv s2 zz_=>?_));obtain⟨y,H2,I2,r2,q2⟩:=zz_;refine wpAny_bind (wpAny_standAt (wpAny_bind (wpAny_holding (thn (hs pins s2 σ H2 x y v ov iv u _ I2 r1 r2 r q2) fun _ s3 zz_=>?_))));obtain⟨H3,I3,q3⟩:=zz_;exact wpAny_release ⟨σ,H3,I3,q3⟩
def qli (te:TE) (g:TG):TS:=fun D σ H=>te σ H fun x H1=>g x σ H1 D.nx
theorem qeG {tg e:Expr}{te:TE}{g:TG} (he:PE X e te) (hg:PG X tg g) (hs:swapsWithSole [tg] e pos.line X.env=pure false:=by rfl) (hw:swappedStores [tg] e X.env=pure none:=by rfl)
   (h1:(assignEach [tg] X.env).map (·.2)=[assign tg X.env]:=by rfl):PS X (.Assign [tg] e pos) (qli te g):=by
 intro pins s σ H D I h;refine wpAny_Assign_stores (thn (he pins s σ H _ I h) fun v s1 zz_=>?_) hs hw;obtain⟨x,H1,I1,r1,q1⟩:=zz_;rw[h1];exact thn (hg pins s1 σ H1 x v _ I1 r1 q1) fun _ s2 q=>q
theorem qC {i:Nat}{x:Str}{e:Expr}{te:TE}{pos':Pos} (hN:X.N.Nodup) (hi:X.N[i]?=some x) (hx:Loc X.env.scope x) (he:PE X e te) (hs:swapsWith e (some (.Name x pos')) pos.line X.env=pure false:=by rfl) (hf:X.fn x=true∨X.env.scope.names.lookup x=some .local:=by first|exact .inl rfl|exact .inr rfl|assumption) :
   PS X (.Assign [.Name x pos'] e pos) (qli te (qjD i)):=by
 intro pins s σ H D I h;refine wpAny_Assign_Name (thn (he pins s σ H _ I h) fun v s1 zz_=>?_) hs;obtain⟨y,H1,I1,r1,q1⟩:=zz_;exact qap I1 hN hi hx r1 (fun s2 I2=>⟨_,H1,I2,q1⟩) hf
end
structure It where
 go:Nat->Hp->Prop
 yld:Nat->Hp->V->Hp->Prop
 stop:Nat->Hp->Prop
def qeZ (X:Cx) (pins:List (Addr×Obj)) (H:Hp) (b:Addr):Prop :=
 H b=none∧b≠X.env.locals∧b∉X.fs∧(b∈X.ex∨X.s₀.heap.objs.size≤b)∧(∀ x c,X.env.cells.lookup x=some c->c≠b)∧∀ p∈X.pn++pins,p.1≠b
theorem Inv.fpOk {X:Cx}{pins:List (Addr×Obj)}{σ:St}{H H':Hp}{s:Shared}{b:Addr} (I:Inv X pins σ H s) (hb:s.heap.objs.size≤b) (hn:H' b=none):qeZ X pins H' b:=by
 refine⟨hn,Nat.ne_of_gt (Nat.lt_of_lt_of_le I.lt hb),I.nofs hb,.inr (Nat.le_trans I.sz hb),fun x c e z=>?_,fun p hp z=>?_⟩
 · obtain⟨v,q⟩:=I.cell x c e;exact absurd (Nat.lt_of_lt_of_le q.lt (by rw[z];exact hb)) (Nat.lt_irrefl _)
 · exact absurd (Nat.lt_of_lt_of_le (Heap.lt_size (I.pin p hp).1) (by rw[z];exact hb)) (Nat.lt_irrefl _)
structure qhc (Cm:Cx->Prop) (P:Program) (w:World) (K:Frag) (tg:Expr) (J:It) (fp:List Addr) (it:Addr) (tn:Nat->Heap->Prop):Prop where
 mem:it∈fp
 obj:∀ i h,tn i h->∀ b∈fp,∃ o,h.get? b=some o∧∀ v,o.data≠.cell v
 keep:∀ i h h',tn i h->(∀ b∈fp,∀ o,h.get? b=some o->h'.get? b=some o)->tn i h'
 item:∀ (X:Cx),X.prog=P->X.w=w->X.K=K->Cm X->∀ (i:Nat) (pins:List (Addr×Obj)) (s:Shared) (σ:St) (H:Hp) (E:Value->Shared->Prop),Inv X pins σ H s->(∀ b∈fp,qeZ X pins H b)->tn i s.heap->J.go i H ->
   wpAny (model P w) X.A (pyNext (.ref it)) (fun r s1=>∃ u,r=some u ∧
     wpAny (model P w) X.A (letOwnedTupleGo tg (.ref it) u) (fun _ s2=>∃ x H',Inv X pins σ H' s2∧RelV x u∧J.yld i H x H'∧tn (i+1) s2.heap∧∀ b∈fp,H' b=none) E s1) E s
 done:∀ (X:Cx),X.prog=P->X.w=w->X.K=K->Cm X->∀ (i:Nat) (pins:List (Addr×Obj)) (s:Shared) (σ:St) (H:Hp) (E:Value->Shared->Prop),Inv X pins σ H s->(∀ b∈fp,qeZ X pins H b)->tn i s.heap->J.stop i H ->
   wpAny (model P w) X.A (pyNext (.ref it)) (fun r s1=>r=none∧Inv X pins σ H s1) E s
 self:∀ (A:Around) (i:Nat) (s:Shared) (Q:Value->Shared->Prop) (E:Value->Shared->Prop),tn i s.heap->Q (.ref it) s->wpAny (model P w) A (pyIter (.ref it)) Q E s
abbrev qk4 (P:Program) (w:World) (K:Frag) (tg:Expr) (J:It) (fp:List Addr) (it:Addr) (tn:Nat->Heap->Prop):Prop:=qhc (fun X=>X.calm=true) P w K tg J fp it tn
abbrev TI:=St->Hp->(It->Hp->Prop)->Prop
def ql3 (Cm:Cx->Prop) (X:Cx) (pins:List (Addr×Obj)) (σ:St) (tg:Expr) (R:It->Hp->Prop) (itv:Value) (s2:Shared):Prop :=
 ∃ (it:Addr) (fp:List Addr) (tn:Nat->Heap->Prop) (J:It) (H':Hp),itv=.ref it∧Inv X pins σ H' s2∧qhc Cm X.prog X.w X.K tg J fp it tn∧tn 0 s2.heap∧(∀ b∈fp,qeZ X pins H' b)∧R J H'
abbrev PIE (X:Cx):=ql3 (fun X=>X.calm=true) X
def PIC (Cm:Cx->Prop) (X:Cx) (tg iter:Expr) (wi:TI):Prop :=
 ∀ (pins:List (Addr×Obj)) (s:Shared) (σ:St) (H:Hp) (R:It->Hp->Prop),Inv X pins σ H s->wi σ H R ->
   wpAny (model X.prog X.w) X.A (eval iter X.env) (fun v s1=>wpAny (model X.prog X.w) X.A (pyIter v) (ql3 Cm X pins σ tg R) X.xe s1) X.xe s
abbrev PI (X:Cx):=PIC (fun X=>X.calm=true) X
theorem qkT {M:Model}{A:Around}{E:Value->Shared->Prop}{s:Shared}{tg:Expr}{it:Addr}{u:Value}{o:Obj}{n:String}{vs:Array Value}{Q:Unit->Shared->Prop} (ho:s.heap.get? it=some o) (hc:o.cls=.type n) (hd:o.data=.fields vs)
   (hn:["enumerate","zip","dict_itemiterator","dict_reverseitemiterator","odict_iterator","itertools.zip_longest","itertools.pairwise"].contains n=false) (hQ:Q () s):wpAny M A (letOwnedTupleGo tg (.ref it) u) Q E s:=by
 unfold letOwnedTupleGo;cases tg<;>first
   | exact wpAny_pure hQ
   | (cases u<;>first
       | exact wpAny_pure hQ
       | (refine wpAny_bind (wpAny_load ho ?_)
          rw[hc,hd];show wpAny M A (if (["enumerate","zip","dict_itemiterator","dict_reverseitemiterator","odict_iterator","itertools.zip_longest","itertools.pairwise"].contains n && vs[0]? == some (rawInt _))=true then _ else _) Q E s;rw[if_neg (by intro h;rw[hn,Bool.false_and]at h;cases h)]
          exact wpAny_pure hQ))
def Itl (K:Frag) (a:Addr):It :=
 ⟨fun i H=>∃ xs x,SqL K H a xs∧xs[i]?=some x,fun i H x H'=>H'=H∧∀ xs,SqL K H a xs->xs[i]?=some x,fun i H=>∃ xs,SqL K H a xs∧xs.length≤i⟩
def Itr (lo:Int) (n:Nat):It:=⟨fun i _=>i < n,fun i H x H'=>H'=H∧x=.int (lo+i),fun i _=>n≤i⟩
theorem qfD {P:Program}{w:World}{K:Frag}{tg:Expr} (a it:Addr):qk4 P w K tg (Itl K a) [it] it (fun i h=>h.IsListIter it a i) where
 mem:=by simp
 obj:=fun i h st b hb=>by
   have e:b=it:=by simpa using hb
   subst e;obtain⟨o,e,c,d⟩:=st;exact⟨o,e,fun v z=>by rw[d]at z;cases z⟩
 keep:=fun i h h' st k=>st.at fun o e=>k it (by simp) o e
 item:=by
   intro X hP hw hK hc i pins s σ H E I hf st hg;subst hP hw hK;obtain⟨xs,x,hq,hx⟩:=hg;obtain⟨its,rv,p,hz⟩:=I.list hq;obtain⟨u,hu,ru⟩:=rv.get hx;obtain⟨f0,f1,f2,f3,f4,f5⟩:=hf it (by simp);refine wpAny_pyNext_list_item st p.isList (x:=u) (by simpa using hu) fun h' st' sb=>?_;have I1:Inv X pins σ H { s with heap:=h' }:=I.turned (t':=s.toks) (fun b o hb e=>(sb.2 b hb).trans e) f0 f1 f3 f4 f5;obtain⟨o,e,c,d⟩:=id st';exact⟨u,rfl,qkT (s:={ s with heap:=h' }) e c d (by decide) ⟨x,H,I1,ru,⟨rfl,fun ys hy=>by rw[I.list_inj hy hq];exact hx⟩,st',fun b hb=>(hf b hb).1⟩⟩
 done:=by
   intro X hP hw hK hc i pins s σ H E I hf st hg;subst hP hw hK;obtain⟨xs,hq,hx⟩:=hg;obtain⟨its,rv,p,hz⟩:=I.list hq;obtain⟨f0,f1,f2,f3,f4,f5⟩:=hf it (by simp);have hl:=rv.length;exact wpAny_pyNext_list_end (I.ok.hd hc) st p.isList (by simp;omega) fun h' eb=>⟨rfl,I.turned (t':=s.toks) (fun b o hb e=>eb b o hb e) f0 f1 f3 f4 f5⟩
 self:=fun _ _ _ _ _ st h=>wpAny_pyIter_listiter st h
theorem qe0 {P:Program}{w:World}{K:Frag}{tg:Expr} (it:Addr) (lo:Int) (n:Nat):qk4 P w K tg (Itr lo n) [it] it (fun i h=>IsRangeIter h it (lo+(i:Nat) * 1) ((n:Int) - (i:Nat)) 1) where
 mem:=by simp
 obj:=fun i h st b hb=>by
   have e:b=it:=by simpa using hb
   subst e
   exact⟨_,st,fun v z=>by
     have z':Data.fields _=Data.cell v:=z
     cases z'⟩
 keep:=fun i h h' st k=>k it (by simp) _ st
 item:=by
   intro X hP hw hK hc i pins s σ H E I hf st hg;subst hP hw hK;obtain⟨f0,f1,f2,f3,f4,f5⟩:=hf it (by simp);have W:=Walks.range (prog:=X.prog) (w:=X.w) (I.ok.hd hc) it lo 1 n;refine W.item i s _ _ hg st fun v h' tk hv st' kk=>?_;obtain⟨t,rfl⟩:=hv;have I1:Inv X pins σ H { s with heap:=h',toks:=tk }:=I.turned (fun b o hb e=>kk b o (by simpa using hb) e) f0 f1 f3 f4 f5;refine⟨_,rfl,qkT (s:={ s with heap:=h',toks:=tk }) (n:="range_iterator") st' rfl rfl (by decide) ⟨.int (lo+i),H,I1,⟨t,?_⟩,⟨rfl,rfl⟩,st',fun b hb=>(hf b hb).1⟩⟩;rw[Int.mul_one]
 done:=by
   intro X hP hw hK hc i pins s σ H E I hf st hg;subst hP hw hK;obtain⟨f0,f1,f2,f3,f4,f5⟩:=hf it (by simp);exact wpAny_pyNext_range_end (I.ok.hd hc) st (by have:n≤i:=hg;omega) fun h' eb=>⟨rfl,I.turned (t':=s.toks) (fun b o hb e=>eb b o hb e) f0 f1 f3 f4 f5⟩
 self:=fun _ _ _ _ _ st h=>wpAny_pyIter_rangeiter st h
section
variable {X:Cx}{tg:Expr}
inductive qgE (K:Frag) (R:(It->Hp->Prop)) (x:V) (H1:Hp):Prop
 | mk (a:_) (h1:x=.ref a) (h2:(∃ xs,SqL K H1 a xs)) (h3:R (Itl K a) H1):qgE K R x H1
def qlz (K:Frag) (tl:TE):TI:=fun σ H R=>tl σ H fun x H1=>qgE K R x H1
theorem zO {l:Expr}{tl:TE} (hl:PE X l tl):PI X tg l (qlz X.K tl):=by
 intro pins s σ H R I h;refine thn (hl pins s σ H _ I h) fun v s1 zz_=>?_;obtain⟨x,H1,I1,r1,q1⟩:=zz_;obtain⟨a,e,⟨xs,hq⟩,q⟩:=q1;subst e;cases r1;obtain⟨its,rv,p,hz⟩:=I1.list hq;refine wpAny_pyIter_list p.isList ?_;refine⟨s1.heap.objs.size,[s1.heap.objs.size],_,_,H1,rfl,I1.kept (t':=s1.toks) fun b o e=>Heap.get?_push_of_some _ e,qfD a _,⟨_,Heap.get?_push_size _ rfl,rfl,rfl⟩,fun b hb=>?_,q⟩;have e:b=s1.heap.objs.size:=by simpa using hb
 subst e;exact I1.fpOk (Nat.le_refl _) (I1.hok.fresh (Nat.le_refl _))
theorem qhw {pins:List (Addr×Obj)}{σ:St}{H:Hp}{s:Shared}{R:It->Hp->Prop}{E:Value->Shared->Prop}{lo hi:Int}{t u v:Tok}{tk:Nat} (I:Inv X pins σ H s) (h1:-(2 ^ 62)≤lo) (h2:lo < 2 ^ 62) (h3:-(2 ^ 62)≤hi) (h4:hi < 2 ^ 62)
   (q:R (Itr lo (hi - lo).toNat) H):wpAny (model X.prog X.w) X.A (pyIter (.ref s.heap.objs.size)) (PIE X pins σ tg R) E { s with heap:=s.heap.push { cls:=.type "range",data:=.fields #[.int lo t,.int hi u,.int 1 v] },toks:=tk }:=by
 refine wpAny_pyIter_range (IsRange.new ..) (small_one h1 h2 h3 h4) ?_;have I1:Inv X pins σ H { s with heap:=s.heap.push { cls:=.type "range",data:=.fields #[.int lo t,.int hi u,.int 1 v] },toks:=tk }:=I.kept fun b o e=>Heap.get?_push_of_some _ e
 refine⟨(s.heap.push { cls:=.type "range",data:=.fields #[.int lo t,.int hi u,.int 1 v] }).objs.size,[(s.heap.push { cls:=.type "range",data:=.fields #[.int lo t,.int hi u,.int 1 v] }).objs.size],_,_,H,rfl,
   I1.kept (t':=tk) fun b o e=>Heap.get?_push_of_some _ e,qe0 _ lo (hi - lo).toNat,?_,fun b hb=>?_,q⟩
 · have e1:lo+((0:Nat):Int) * 1=lo:=by simp
   have e2:(((hi - lo).toNat:Nat):Int) - ((0:Nat):Int)=Builtin.Range.rangeSize lo hi 1:=by rw[rangeSize_one];split<;>omega
   show IsRangeIter _ _ (lo+((0:Nat):Int) * 1) ((((hi - lo).toNat:Nat):Int) - ((0:Nat):Int)) 1;rw[e1,e2];exact Heap.get?_push_size _ rfl
 · have e:b=(s.heap.push { cls:=.type "range",data:=.fields #[.int lo t,.int hi u,.int 1 v] }).objs.size:=by simpa using hb
   subst e;exact I1.fpOk (Nat.le_refl _) (I1.hok.fresh (Nat.le_refl _))
inductive qgD (R:(It->Hp->Prop)) (vs:List V) (H1:Hp):Prop
 | mk (j:Int) (h1:vs=[.int j]) (h2:-(2 ^ 62)≤j) (h3:j < 2 ^ 62) (h4:R (Itr 0 j.toNat) H1):qgD R vs H1
def qly (ta:TA):TI:=fun σ H R=>ta σ H fun vs H1=>qgD R vs H1
theorem Qg {a:Expr}{ta:TA}{p pos:Pos} (hg:Gl X "range") (hm:X.mg "range"=none) (ha:PA X [a] ta) (hs:starEach [a] X.env=[(false,eval a X.env)]:=by rfl):PI X tg (.Call (.Name "range" p) [a] [] pos) (qly ta):=by
 intro pins s σ H R I h;refine Call_ (qbi I hg hm boot_range (PyProof.Rows.callWith_type1 (thn (ha pos pins s σ H _ I h) fun us s1 zz_=>?_) hs rfl));obtain⟨vs,H1,I1,r1,q1⟩:=zz_;obtain⟨j,e,q1,q2,q⟩:=q1;subst e
 cases r1 with
 | cons r rr =>
   cases rr;obtain⟨t,rfl⟩:=r;exact call_range_1 (qhw I1 (by omega) (by omega) q1 q2 (by simpa using q))
def qjQ (wi:TI) (g:TG) (tb:TS):TS:=fun D σ H=>wi σ H fun J H1=>∃ W:Nat->Nat->St->Hp->Prop,(∃ m,W 0 m σ H1)∧∀ i m σ H,W i m σ H ->
 (J.stop i H∧D.nx σ H)∨(J.go i H∧∃ N:St->Hp->Prop,(∀ σ' H',N σ' H'->∃ m',m' < m∧W (i+1) m' σ' H')∧∀ x H',J.yld i H x H'->g x σ H' fun σ2 H2=>tb { D with nx:=N,ct:=N,bk:=D.nx } σ2 H2)
def qb7 (fp:List Addr) (h:Heap):List (Addr×Obj):=fp.filterMap fun b=>(h.get? b).map fun o=>(b,o)
theorem zG {fp:List Addr}{h:Heap}{b:Addr}{o:Obj} (hb:b∈fp) (e:h.get? b=some o):(b,o)∈qb7 fp h:=List.mem_filterMap.mpr ⟨b,hb,by rw[e];rfl⟩
theorem qgh {fp:List Addr}{h:Heap}{p:Addr×Obj} (hp:p∈qb7 fp h):p.1∈fp∧h.get? p.1=some p.2:=by
 obtain⟨b,hb,e⟩:=List.mem_filterMap.mp hp
 cases q:h.get? b with
 | none=>rw[q]at e;cases e
 | some o =>
   rw[q]at e;have e':(b,o)=p:=Option.some.inj e;subst e';exact⟨hb,q⟩
theorem Inv.pinned {pins:List (Addr×Obj)}{σ:St}{H:Hp}{s:Shared}{fp:List Addr} (I:Inv X pins σ H s) (hf:∀ b∈fp,qeZ X pins H b) (ho:∀ b∈fp,∃ o,s.heap.get? b=some o∧∀ v,o.data≠.cell v):Inv X (pins++qb7 fp s.heap) σ H s :=
 I.pins_of fun p hp=>(List.mem_append.mp hp).elim (fun z=>I.pin p (List.mem_append_right _ z)) fun z=>by
   obtain⟨hb,e⟩:=qgh z;obtain⟨f0,f1,f2,_⟩:=hf p.1 hb;obtain⟨o,e',d⟩:=ho p.1 hb;rw[e]at e';cases e';exact⟨e,f0,f1,f2,d⟩
theorem Inv.unpinned {pins pl:List (Addr×Obj)}{σ:St}{H:Hp}{s:Shared} (I:Inv X (pins++pl) σ H s):Inv X pins σ H s:=I.pins_of fun p hp=>I.pin p (List.mem_append_right _ (List.mem_append_left _ hp))
theorem Qe {iter:Expr}{body:List Stmt}{wi:TI}{g:TG}{tb:TS}{pos:Pos} (hp:PassesOwn (model X.prog X.w) X.A X.env X.xe) (hc:X.calm=true) (hi:PI X tg iter wi) (hg:PG X tg g) (hb:PSs X body tb)
   (hs:∀ x,foldedSetIterable iter X.env x=pure x:=by intro _;rfl):PS X (.For tg iter body [] pos) (qjQ wi g tb):=by
 intro pins s σ H D I h;refine wpAny_For (thn (hi pins s σ H _ I h) fun v s1 h1=>thn h1 fun itv s2 h2=>?_) hs;obtain⟨it,fp,tn,J,H2,e,I2,T,st2,f2,W,⟨m0,w0⟩,turn⟩:=h2;subst e
 -- what stays true of the iterator's objects through the loop
 have stat:∀ {H':Hp},(∀ b∈fp,H' b=none)->∀ b∈fp,qeZ X pins H' b:=fun hn b hb=>⟨hn b hb,(f2 b hb).2⟩
 refine codeAny_forLoop_any (fun n s'=>∃ i σ' H',Inv X pins σ' H' s'∧tn i s'.heap∧(∀ b∈fp,H' b=none)∧W i n σ' H') ?_ m0 ⟨0,σ,H2,I2,st2,fun b hb=>(f2 b hb).1,w0⟩;rintro n s3 ⟨i,σ3,H3,I3,st3,fr3,w3⟩;rcases turn i n σ3 H3 w3 with ⟨stop,qn⟩|⟨go,N,hN,step⟩
 · refine wpAny_passesOwn hp (thn (T.done X rfl rfl rfl hc i pins s3 σ3 H3 X.xe I3 (stat fr3) st3 stop) fun r s4 ⟨hr,I4⟩=>?_);subst hr;exact wpAny_execs_nil ⟨σ3,H3,I4,qn⟩
 · refine wpAny_passesOwn hp (thn (T.item X rfl rfl rfl hc i pins s3 σ3 H3 X.xe I3 (stat fr3) st3 go) fun r s4 ⟨u,hr,h4⟩=>?_);subst hr;refine wpAny_passesOwn hp (thn h4 fun _ s5 zz_=>?_);obtain⟨x,H5,I5,r5,y5,st5,fr5⟩:=zz_;have I5':=I5.pinned (stat fr5) (T.obj _ _ st5);refine wpAny_passesOwn hp (thn (hg _ s5 σ3 H5 x u _ I5' r5 (step x H5 y5)) fun _ s6 zz_=>?_);obtain⟨σ6,H6,I6,q6⟩:=zz_;refine wpAny_passesOwn hp (thn (hb _ s6 σ6 H6 _ I6 q6) fun f s7 q7=>?_)
   have again:∀ {σ7:St}{H7:Hp},Inv X (pins++qb7 fp s5.heap) σ7 H7 s7->N σ7 H7->∃ m,m < n∧∃ i σ' H',Inv X pins σ' H' s7∧tn i s7.heap∧(∀ b∈fp,H' b=none)∧W i m σ' H':=fun {σ7 H7} I7 n7=>by
     obtain⟨m',hm,w7⟩:=hN σ7 H7 n7;refine⟨m',hm,i+1,σ7,H7,I7.unpinned,T.keep _ _ _ st5 fun b hb o e=>(I7.pin (b,o) (List.mem_append_right _ (List.mem_append_right _ (zG hb e)))).1,fun b hb=>?_,w7⟩;obtain⟨o,e,d⟩:=T.obj _ _ st5 b hb;exact(I7.pin (b,o) (List.mem_append_right _ (List.mem_append_right _ (zG hb e)))).2.1
   cases f with
   | next=>obtain⟨σ7,H7,I7,n7⟩:=q7;exact again I7 n7
   | cont=>obtain⟨σ7,H7,I7,n7⟩:=q7;exact again I7 n7
   | brk=>obtain⟨σ7,H7,I7,q7⟩:=q7;exact⟨σ7,H7,I7.unpinned,q7⟩
   | ret v=>obtain⟨x7,σ7,H7,I7,r7,q7⟩:=q7;exact⟨x7,σ7,H7,I7.unpinned,r7,q7⟩
end
theorem Qy {K:Frag}{a:Addr}{xs:List V}{g:TG}{tb:TS}{D:qhg}{σ:St}{H:Hp} (Pv:Nat->St->Hp->Prop) (h0:Pv 0 σ H) (hl:∀ i σ H,i≤xs.length->Pv i σ H->SqL K H a xs)
   (hs:∀ i x σ H,xs[i]?=some x->Pv i σ H->g x σ H fun σ2 H2=>tb { D with nx:=Pv (i+1),ct:=Pv (i+1),bk:=D.nx } σ2 H2) (hd:∀ σ H,Pv xs.length σ H->D.nx σ H) :
   ∃ W:Nat->Nat->St->Hp->Prop,(∃ m,W 0 m σ H)∧∀ i m σ H,W i m σ H ->
     ((Itl K a).stop i H∧D.nx σ H)∨((Itl K a).go i H∧∃ N:St->Hp->Prop,(∀ σ' H',N σ' H'->∃ m',m' < m∧W (i+1) m' σ' H')∧∀ x H',(Itl K a).yld i H x H'->g x σ H' fun σ2 H2=>tb { D with nx:=N,ct:=N,bk:=D.nx } σ2 H2):=by
 refine⟨fun i m σ H=>m=xs.length - i∧i≤xs.length∧Pv i σ H,⟨xs.length,by simp,Nat.zero_le _,h0⟩,?_⟩;rintro i m σ H ⟨rfl,hi,p⟩;have q:=hl i σ H hi p;by_cases hlt:i < xs.length
 · refine .inr ⟨⟨xs,xs[i],q,by simp[hlt]⟩,Pv (i+1),fun σ' H' p'=>⟨xs.length - (i+1),by omega,rfl,hlt,p'⟩,fun x H' y=>?_⟩;obtain⟨e,y⟩:=y;subst e;exact hs i x σ _ (y xs q) p
 · have e:i=xs.length:=by omega
   subst e;exact .inl ⟨⟨xs,q,Nat.le_refl _⟩,hd σ H p⟩
theorem QR {lo:Int}{n:Nat}{g:TG}{tb:TS}{D:qhg}{σ:St}{H:Hp} (Pv:Nat->St->Hp->Prop) (h0:Pv 0 σ H)
   (hs:∀ i σ H,i < n->Pv i σ H->g (.int (lo+i)) σ H fun σ2 H2=>tb { D with nx:=Pv (i+1),ct:=Pv (i+1),bk:=D.nx } σ2 H2) (hd:∀ σ H,Pv n σ H->D.nx σ H) :
   ∃ W:Nat->Nat->St->Hp->Prop,(∃ m,W 0 m σ H)∧∀ i m σ H,W i m σ H ->
     ((Itr lo n).stop i H∧D.nx σ H)∨((Itr lo n).go i H∧∃ N:St->Hp->Prop,(∀ σ' H',N σ' H'->∃ m',m' < m∧W (i+1) m' σ' H')∧∀ x H',(Itr lo n).yld i H x H'->g x σ H' fun σ2 H2=>tb { D with nx:=N,ct:=N,bk:=D.nx } σ2 H2):=by
 refine⟨fun i m σ H=>m=n - i∧i≤n∧Pv i σ H,⟨n,by simp,Nat.zero_le _,h0⟩,?_⟩;rintro i m σ H ⟨rfl,hi,p⟩;by_cases hlt:i < n
 · refine .inr ⟨hlt,Pv (i+1),fun σ' H' p'=>⟨n - (i+1),by omega,rfl,hlt,p'⟩,fun x H' y=>?_⟩;obtain⟨e,y⟩:=y;subst e y;exact hs i σ _ hlt p
 · have e:i=n:=by omega
   subst e;exact .inl ⟨Nat.le_refl _,hd σ H p⟩
abbrev R2:=V->V->Hp->VK->Prop
def OpR (X:Cx) (f:Value->Value->Sem Value) (r:R2):Prop :=
 ∀ (pins:List (Addr×Obj)) (s:Shared) (σ:St) (H:Hp) (x y:V) (v u:Value) (Q:VK),Inv X pins σ H s->RelV x v->RelV y u->r x y H Q ->
   wpAny (model X.prog X.w) X.A (f v u) (EP X pins σ Q) X.xe s
def UnR (X:Cx) (f:Value->Sem Value) (r:V->Hp->VK->Prop):Prop :=
 ∀ (pins:List (Addr×Obj)) (s:Shared) (σ:St) (H:Hp) (x:V) (v:Value) (Q:VK),Inv X pins σ H s->RelV x v->r x H Q ->
   wpAny (model X.prog X.w) X.A (f v) (EP X pins σ Q) X.xe s
def Zg (X:Cx) (f:Value) (r:List V->Hp->VK->Prop):Prop :=
 ∀ (pins:List (Addr×Obj)) (s:Shared) (σ:St) (H:Hp) (xs:List V) (us:List Value) (Q:VK),Inv X pins σ H s->Vals xs us->r xs H Q ->
   wpAny (model X.prog X.w) X.A (call f us) (EP X pins σ Q) X.xe s
def qmx (X:Cx) (r:V->Hp->(Bool->Hp->Prop)->Prop):Prop :=
 ∀ (pins:List (Addr×Obj)) (s:Shared) (σ:St) (H:Hp) (x:V) (v:Value) (Q:Bool->Hp->Prop),Inv X pins σ H s->RelV x v->r x H Q ->
   wpAny (model X.prog X.w) X.A (truthy v) (TP X pins σ Q) X.xe s
def tOp (r:R2) (ta tb:TE):TE:=fun σ H Q=>ta σ H fun x H1=>tb σ H1 fun y H2=>r x y H2 Q
def tUn (r:V->Hp->VK->Prop) (ta:TE):TE:=fun σ H Q=>ta σ H fun x H1=>r x H1 Q
inductive qlX (C:Int->Int->Prop) (g:Int->Int->V) (x:V) (y:V) (H:Hp) (Q:VK):Prop
 | mk (i j:_) (h1:x=.int i) (h2:y=.int j) (h3:C i j) (h4:Q (g i j) H):qlX C g x y H Q
def rI (C:Int->Int->Prop) (g:Int->Int->V):R2:=fun x y H Q=>qlX C g x y H Q
inductive qkn (g:Int->Int->V) (x:V) (y:V) (H:Hp) (Q:VK):Prop
 | mk (i j:_) (h1:x=.int i) (h2:y=.int j) (h3:Q (g i j) H):qkn g x y H Q
def rI0 (g:Int->Int->V):R2:=fun x y H Q=>qkn g x y H Q
inductive qlQ (g:Int->V) (x:V) (H:Hp) (Q:VK):Prop
 | mk (i:_) (h1:x=.int i) (h2:Q (g i) H):qlQ g x H Q
def rU (g:Int->V):V->Hp->VK->Prop:=fun x H Q=>qlQ g x H Q
section
variable {X:Cx}{a b c:Expr}{ta tb tc:TE}{pos:Pos}
theorem qlH (ha:PE X a ta) (hb:PE X b tb) {pins:List (Addr×Obj)}{s:Shared}{σ:St}{H:Hp}{R:V->V->Hp->Prop} (I:Inv X pins σ H s)
   (h:ta σ H fun x H1=>tb σ H1 fun y H2=>R x y H2) {Q:Value->Shared->Prop}{f:Value->Value->Sem Value}
   (hf:∀ v u s2 x y H2,Inv X pins σ H2 s2->RelV x v->RelV y u->R x y H2->wpAny (model X.prog X.w) X.A (f v u) Q X.xe s2) :
   wpAny (model X.prog X.w) X.A (eval a X.env) (fun v s₁=>wpAny (model X.prog X.w) X.A (eval b X.env) (fun u s₂=>wpAny (model X.prog X.w) X.A (f v u) Q X.xe s₂) X.xe s₁) X.xe s:=by
 refine thn (ha pins s σ H _ I h) fun v s1 zz_=>?_;obtain⟨x,H1,I1,r1,q1⟩:=zz_;refine thn (hb pins s1 σ H1 _ I1 q1) fun u s2 zz_=>?_;obtain⟨y,H2,I2,r2,q2⟩:=zz_;exact hf v u s2 x y H2 I2 r1 r2 q2
theorem qH {op:Operator}{r:R2} (ho:OpR X (binaryOp op) r) (ha:PE X a ta) (hb:PE X b tb):PE X (.BinOp a op b pos) (tOp r ta tb):=by
 intro pins s σ H Q I h;exact wpAny_BinOp (qlH ha hb I h fun v u s2 x y H2 I2 rx ry q=>ho pins s2 σ H2 x y v u Q I2 rx ry q)
theorem qah {op:UnaryOp}{r:V->Hp->VK->Prop} (ho:UnR X (unaryOp op) r) (ha:PE X a ta):PE X (.UnaryOp op a pos) (tUn r ta):=by
 intro pins s σ H Q I h;exact UnaryOp_ (thn (ha pins s σ H _ I h) fun v s1 ⟨x,H1,I1,r1,q1⟩=>ho pins s1 σ H1 x v Q I1 r1 q1)
theorem opI {f:Value->Value->Sem Value}{C:Int->Int->Prop}{g:Int->Int->Int}
   (rule:∀ (i j:Int) (t u:Tok) (s:Shared) (Q:Value->Shared->Prop) (E:Value->Shared->Prop),C i j->Q (.int (g i j) s.toks) { s with toks:=s.toks+1 }->wpAny (model X.prog X.w) X.A (f (.int i t) (.int j u)) Q E s) :
   OpR X f (rI C fun i j=>.int (g i j)):=by
 intro pins s σ H x y v u Q I rx ry h;obtain⟨i,j,rfl,rfl,hc,q⟩:=h;obtain⟨t,rfl⟩:=rx;obtain⟨t',rfl⟩:=ry;exact rule i j t t' s _ _ hc ⟨.int (g i j),H,I.tok _,⟨_,rfl⟩,q⟩
theorem ql0 {f:Value->Value->Sem Value}{g:Int->Int->Int}
   (rule:∀ (i j:Int) (t u:Tok) (s:Shared) (Q:Value->Shared->Prop) (E:Value->Shared->Prop),Q (.int (g i j) s.toks) { s with toks:=s.toks+1 }->wpAny (model X.prog X.w) X.A (f (.int i t) (.int j u)) Q E s) :
   OpR X f (rI0 fun i j=>.int (g i j)):=by
 intro pins s σ H x y v u Q I rx ry h;obtain⟨i,j,rfl,rfl,q⟩:=h;obtain⟨t,rfl⟩:=rx;obtain⟨t',rfl⟩:=ry;exact rule i j t t' s _ _ ⟨.int (g i j),H,I.tok _,⟨_,rfl⟩,q⟩
theorem qk3 {f:Value->Value->Sem Value}{g:Int->Int->Bool}
   (rule:∀ (i j:Int) (t u:Tok) (s:Shared) (Q:Value->Shared->Prop) (E:Value->Shared->Prop),Q (.bool (g i j)) s->wpAny (model X.prog X.w) X.A (f (.int i t) (.int j u)) Q E s) :
   OpR X f (rI0 fun i j=>.bl (g i j)):=by
 intro pins s σ H x y v u Q I rx ry h;obtain⟨i,j,rfl,rfl,q⟩:=h;obtain⟨t,rfl⟩:=rx;obtain⟨t',rfl⟩:=ry;exact rule i j t t' s _ _ ⟨.bl (g i j),H,I,rfl,q⟩
def qmB (i j:Int):Prop:=0 < j∧j < 1073741824
def qmA (i j:Int):Prop:=0≤j∧j≤1000000∧i.natAbs < 2 ^ 64
def CMul (i j:Int):Prop:=(-(2 ^ 64) < i∧i < 2 ^ 64)∨(-(2 ^ 64) < j∧j < 2 ^ 64)
theorem CMul.ok {i j:Int} (h:CMul i j):IntMulOk i j:=by
 rcases h with ⟨h1,h2⟩|⟨h1,h2⟩
 · exact .of_left (intBits_le_64 h1 h2)
 · exact .of_right (intBits_le_64 h1 h2)
theorem op_add:OpR X (binaryOp .Add) (rI0 fun i j=>.int (i+j)):=ql0 fun _ _ _ _ _ _ _ q=>add_int q
theorem Jc:OpR X (binaryOp .Sub) (rI0 fun i j=>.int (i - j)):=ql0 fun _ _ _ _ _ _ _ q=>sub_int q
theorem QQ:OpR X (binaryOp .Mult) (rI CMul fun i j=>.int (i * j)):=opI fun _ _ _ _ _ _ _ hc q=>mul_int q hc.ok
theorem qge:OpR X (binaryOp .FloorDiv) (rI qmB fun i j=>.int (i / j)):=opI fun i j _ _ _ _ _ hc q=>by
 have h1:(0:Int) < j:=hc.1;have h2:j < 1073741824:=hc.2;exact floordiv_int (by omega) (by rw[Int.fdiv_eq_ediv_of_nonneg i (by omega)];exact q) (.inl (PyProof.noPylong_small (by omega)))
theorem jy:OpR X (binaryOp .Mod) (rI (fun _ j=>0 < j) fun i j=>.int (i % j)):=opI fun i j _ _ _ _ _ hc q=>by
 have h1:(0:Int) < j:=hc;exact mod_int' (by omega) (by rw[Int.fmod_eq_emod_of_nonneg i (by omega)];exact q)
theorem jx:OpR X (binaryOp .Pow) (rI qmA fun i j=>.int (i ^ j.toNat)):=opI fun _ _ _ _ _ _ _ hc q=>pow_int_small hc.1 hc.2.1 hc.2.2 q
theorem unI {f:Value->Sem Value}{g:Int->Int}
   (rule:∀ (i:Int) (t:Tok) (s:Shared) (Q:Value->Shared->Prop) (E:Value->Shared->Prop),Q (.int (g i) s.toks) { s with toks:=s.toks+1 }->wpAny (model X.prog X.w) X.A (f (.int i t)) Q E s) :
   UnR X f (rU fun i=>.int (g i)):=by
 intro pins s σ H x v Q I rx h;obtain⟨i,rfl,q⟩:=h;obtain⟨t,rfl⟩:=rx;exact rule i t s _ _ ⟨.int (g i),H,I.tok _,⟨_,rfl⟩,q⟩
theorem QZ:UnR X (unaryOp .USub) (rU fun i=>.int (-i)):=unI fun _ _ _ _ _ q=>neg_int q
end
def qll:V->V->Bool
 | .non,.non=>true|.non,.int _=>true|.int _,.non=>true|.non,.bl _=>true|.bl _,.non=>true|.non,.str _=>true|.str _,.non=>true
 | .int _,.int _=>true|.bl _,.bl _=>true|.str _,.str _=>true|.byt _,.byt _=>true
 | .int _,.str _=>true|.str _,.int _=>true|.bl _,.str _=>true|.str _,.bl _=>true
 | _,_=>false
def rEq:R2:=fun x y H Q=>qll x y=true∧Q (.bl (decide (x=y))) H
def rNe:R2:=fun x y H Q=>qll x y=true∧Q (.bl (!decide (x=y))) H
theorem qgO {i j:Int}:decide (V.int i=V.int j)=(i == j):=by
 rw[Bool.eq_iff_iff];simp
theorem qiK {i j:Bool}:decide (V.bl i=V.bl j)=(i == j):=by
 rw[Bool.eq_iff_iff];simp
theorem qgN {i j:Str}:decide (V.str i=V.str j)=(i == j):=by
 rw[Bool.eq_iff_iff];simp
theorem qgP {i j:Array UInt8}:decide (V.byt i=V.byt j)=(i.toList == j.toList):=by
 rw[Bool.eq_iff_iff];cases i;cases j;simp
section
variable {X:Cx}{a b c:Expr}{ta tb tc:TE}{pos:Pos}
theorem za {pins:List (Addr×Obj)}{σ:St}{H:Hp}{s:Shared}{Q:VK}{k k':Bool} (I:Inv X pins σ H s) (q:Q (.bl k) H) (e:k=k'):EP X pins σ Q (.bool k') s:=by
 subst e;exact⟨.bl k,H,I,rfl,q⟩
theorem op_eq:OpR X (compareOp .Eq) rEq:=by
 intro pins s σ H x y v u Q I rx ry h;obtain⟨hs,q⟩:=h
 cases x with
 | non =>
   cases rx
   cases y with
   | non=>cases ry;exact PySem.EqNone.eq_none_none (za I q (by simp))
   | bl j=>cases ry;exact PySem.EqNone.eq_none_bool (za I q (by simp))
   | int j=>obtain⟨t',rfl⟩:=ry;exact PySem.EqNone.eq_none_int (za I q (by simp))
   | str j=>obtain⟨t',rfl⟩:=ry;exact PySem.EqNone.eq_none_str (za I q (by simp))
   | _=>exact absurd (show false=true from hs) Bool.false_ne_true
 | bl i =>
   cases rx
   cases y with
   | non=>cases ry;exact PySem.EqNone.eq_bool_none (za I q (by simp))
   | bl j=>cases ry;exact eq_bool (za I q qiK)
   | str j=>obtain⟨t',rfl⟩:=ry;exact PySem.EqMixed.eq_bool_str (za I q (by simp))
   | _=>exact absurd (show false=true from hs) Bool.false_ne_true
 | int i =>
   obtain⟨t,rfl⟩:=rx
   cases y with
   | non=>cases ry;exact PySem.EqNone.eq_int_none (za I q (by simp))
   | int j=>obtain⟨t',rfl⟩:=ry;exact eq_int (za I q qgO)
   | str j=>obtain⟨t',rfl⟩:=ry;exact PySem.EqMixed.eq_int_str (za I q (by simp))
   | _=>exact absurd (show false=true from hs) Bool.false_ne_true
 | str i =>
   obtain⟨t,rfl⟩:=rx
   cases y with
   | non=>cases ry;exact PySem.EqNone.eq_str_none (za I q (by simp))
   | bl j=>cases ry;exact PySem.EqMixed.eq_str_bool (za I q (by simp))
   | int j=>obtain⟨t',rfl⟩:=ry;exact PySem.EqMixed.eq_str_int (za I q (by simp))
   | str j=>obtain⟨t',rfl⟩:=ry;exact eq_str (za I q qgN)
   | _=>exact absurd (show false=true from hs) Bool.false_ne_true
 | byt i =>
   obtain⟨t,rfl⟩:=rx
   cases y with
   | byt j=>obtain⟨t',rfl⟩:=ry;exact PySem.W.eq_bytes (za I q qgP)
   | _=>exact absurd (show false=true from hs) Bool.false_ne_true
 | _=>cases y<;>exact absurd (show false=true from hs) Bool.false_ne_true
theorem op_ne:OpR X (compareOp .NotEq) rNe:=by
 intro pins s σ H x y v u Q I rx ry h;obtain⟨hs,q⟩:=h
 cases x with
 | non =>
   cases rx
   cases y with
   | non=>cases ry;exact PySem.EqNone.ne_none_none (za I q (by simp))
   | bl j=>cases ry;exact PySem.EqNone.ne_none_bool (za I q (by simp))
   | int j=>obtain⟨t',rfl⟩:=ry;exact PySem.EqNone.ne_none_int (za I q (by simp))
   | str j=>obtain⟨t',rfl⟩:=ry;exact PySem.EqNone.ne_none_str (za I q (by simp))
   | _=>exact absurd (show false=true from hs) Bool.false_ne_true
 | bl i =>
   cases rx
   cases y with
   | non=>cases ry;exact PySem.EqNone.ne_bool_none (za I q (by simp))
   | bl j=>cases ry;exact ne_bool (za I q (congrArg not qiK))
   | str j=>obtain⟨t',rfl⟩:=ry;exact PySem.EqMixed.ne_bool_str (za I q (by simp))
   | _=>exact absurd (show false=true from hs) Bool.false_ne_true
 | int i =>
   obtain⟨t,rfl⟩:=rx
   cases y with
   | non=>cases ry;exact PySem.EqNone.ne_int_none (za I q (by simp))
   | int j=>obtain⟨t',rfl⟩:=ry;exact ne_int (za I q (congrArg not qgO))
   | str j=>obtain⟨t',rfl⟩:=ry;exact PySem.EqMixed.ne_int_str (za I q (by simp))
   | _=>exact absurd (show false=true from hs) Bool.false_ne_true
 | str i =>
   obtain⟨t,rfl⟩:=rx
   cases y with
   | non=>cases ry;exact PySem.EqNone.ne_str_none (za I q (by simp))
   | bl j=>cases ry;exact PySem.EqMixed.ne_str_bool (za I q (by simp))
   | int j=>obtain⟨t',rfl⟩:=ry;exact PySem.EqMixed.ne_str_int (za I q (by simp))
   | str j=>obtain⟨t',rfl⟩:=ry;exact ne_str (za I q (congrArg not qgN))
   | _=>exact absurd (show false=true from hs) Bool.false_ne_true
 | byt i =>
   obtain⟨t,rfl⟩:=rx
   cases y with
   | byt j=>obtain⟨t',rfl⟩:=ry;exact PySem.W.ne_bytes (za I q (congrArg not qgP))
   | _=>exact absurd (show false=true from hs) Bool.false_ne_true
 | _=>cases y<;>exact absurd (show false=true from hs) Bool.false_ne_true
theorem qlw:OpR X (compareOp .Lt) (rI0 fun i j=>.bl (decide (i < j))):=qk3 fun _ _ _ _ _ _ _ q=>lt_int q
theorem qe7:OpR X (compareOp .LtE) (rI0 fun i j=>.bl (decide (i≤j))):=qk3 fun _ _ _ _ _ _ _ q=>le_int q
theorem qgd:OpR X (compareOp .Gt) (rI0 fun i j=>.bl (decide (j < i))):=qk3 fun _ _ _ _ _ _ _ q=>gt_int q
theorem qjm:OpR X (compareOp .GtE) (rI0 fun i j=>.bl (decide (j≤i))):=qk3 fun _ _ _ _ _ _ _ q=>ge_int q
theorem qkx:OpR X (compareOp .Is) (fun x y H Q=>y=.non∧Q (.bl (decide (x=.non))) H):=by
 intro pins s σ H x y v u Q I rx ry h;obtain⟨rfl,q⟩:=h;cases ry;refine is_none_gen (za I q ?_);cases x<;>first
   | (cases rx;rfl)
   | (obtain⟨t,rfl⟩:=rx;rfl)
theorem qd5:OpR X (compareOp .IsNot) (fun x y H Q=>y=.non∧Q (.bl (!decide (x=.non))) H):=by
 intro pins s σ H x y v u Q I rx ry h;obtain⟨rfl,q⟩:=h;cases ry;refine isnot_none_gen (za I q ?_);cases x<;>first
   | (cases rx;rfl)
   | (obtain⟨t,rfl⟩:=rx;rfl)
theorem OpR.or {f:Value->Value->Sem Value}{r r':R2} (h:OpR X f r) (h':OpR X f r'):OpR X f (fun x y H Q=>r x y H Q∨r' x y H Q):=by
 intro pins s σ H x y v u Q I rx ry q;rcases q with q|q
 · exact h pins s σ H x y v u Q I rx ry q
 · exact h' pins s σ H x y v u Q I rx ry q
theorem qJ (b:Expr) {op:CmpOp} (h:op≠.In:=by decide) (h2:op≠.NotIn:=by decide):behindInMarks op b=false:=by
 have e1:(op == CmpOp.In)=false:=by cases op<;>first|rfl|exact absurd rfl h
 have e2:(op == CmpOp.NotIn)=false:=by cases op<;>first|rfl|exact absurd rfl h2
 cases b<;>simp[behindInMarks,e1,e2]
theorem Jv {op:CmpOp}{r:R2} (ho:OpR X (compareOp op) r) (ha:PE X a ta) (hb:PE X b tb) (hm:behindInMarks op b=false):PE X (.Compare a [op] [b] pos) (tOp r ta tb):=by
 intro pins s σ H Q I h;exact wpAny_Compare1 (qlH ha hb I h fun v u s2 x y H2 I2 rx ry q=>ho pins s2 σ H2 x y v u Q I2 rx ry q) hm
inductive qfK (Q:(Bool->Hp->Prop)) (x:V) (H':Hp):Prop
 | mk (k:_) (h1:x=.bl k) (h2:Q k H'):qfK Q x H'
def qj3 (t:TE):TT:=fun σ H Q=>t σ H fun x H'=>qfK Q x H'
theorem qB {op:CmpOp}{r:R2} (ho:OpR X (compareOp op) r) (ha:PE X a ta) (hb:PE X b tb) (hm:behindInMarks op b=false):PT X (.Compare a [op] [b] pos) (qj3 (tOp r ta tb)):=by
 intro pins s σ H Q I h
 refine wpAny_isTrue_Compare1 (thn (ha pins s σ H _ I h) fun v s1 ⟨x,H1,I1,r1,q1⟩=>thn (hb pins s1 σ H1 _ I1 q1) fun u s2 ⟨y,H2,I2,r2,q2⟩ =>
   thn (ho pins s2 σ H2 x y v u _ I2 r1 r2 q2) fun c s3 ⟨z,H3,I3,r3,k,e,q3⟩=>?_) hm
 subst e;cases r3;exact wpAny_truthy_bool ⟨H3,I3,q3⟩
def qio (r r':R2) (ta tb tc:TE):TE:=fun σ H Q=>ta σ H fun x H1=>tb σ H1 fun y H2=>r x y H2 fun z H3=>∃ k,z=.bl k ∧
 (if k=true then tc σ H3 fun w' H4=>r' y w' H4 Q else Q (.bl false) H3)
theorem qeK {op op':CmpOp}{r r':R2} (ho:OpR X (compareOp op) r) (ho':OpR X (compareOp op') r') (ha:PE X a ta) (hb:PE X b tb) (hc:PE X c tc)
   (hm:lastMarks [op,op'] [b,c]=false:=by with_unfolding_all rfl):PE X (.Compare a [op,op'] [b,c] pos) (qio r r' ta tb tc):=by
 intro pins s σ H Q I h
 refine Compare_chain (thn (ha pins s σ H _ I h) fun v s1 ⟨x,H1,I1,r1,q1⟩=>chain_link (thn (hb pins s1 σ H1 _ I1 q1) fun u s2 ⟨y,H2,I2,r2,q2⟩ =>
   thn (ho pins s2 σ H2 x y v u _ I2 r1 r2 q2) fun d s3 ⟨z,H3,I3,r3,k,e,q3⟩=>?_)) hm
 subst e;cases r3;refine wpAny_truthy_bool ?_
 cases k with
 | false=>exact ite_ff ⟨.bl false,H3,I3,rfl,q3⟩
 | true=>exact ite_tt (chain_last (thn (hc pins s3 σ H3 _ I3 q3) fun w' s4 ⟨z',H4,I4,r4,q4⟩=>ho' pins s4 σ H4 y z' u w' Q I4 r2 r4 q4))
theorem qhy {op op':CmpOp}{r r':R2} (ho:OpR X (compareOp op) r) (ho':OpR X (compareOp op') r') (ha:PE X a ta) (hb:PE X b tb) (hc:PE X c tc)
   (hm:lastMarks [op,op'] [b,c]=false:=by with_unfolding_all rfl):PT X (.Compare a [op,op'] [b,c] pos) (qj3 (qio r r' ta tb tc)):=by
 intro pins s σ H Q I h
 refine isTrue_chain (thn (ha pins s σ H _ I h) fun v s1 ⟨x,H1,I1,r1,q1⟩=>test_link (thn (hb pins s1 σ H1 _ I1 q1) fun u s2 ⟨y,H2,I2,r2,q2⟩ =>
   thn (ho pins s2 σ H2 x y v u _ I2 r1 r2 q2) fun d s3 ⟨z,H3,I3,r3,k,e,q3⟩=>?_)) hm
 subst e;cases r3;refine wpAny_truthy_bool ?_
 cases k with
 | false =>
   obtain⟨k',e',q'⟩:=q3;cases e';exact ite_ff ⟨H3,I3,q'⟩
 | true =>
   refine ite_tt (test_last (thn (hc pins s3 σ H3 _ I3 q3) fun w' s4 ⟨z',H4,I4,r4,q4⟩=>thn (ho' pins s4 σ H4 y z' u w' _ I4 r2 r4 q4) fun d' s5 zz_=>?_));obtain⟨z2,H5,I5,r5,k2,e2,q5⟩:=zz_;subst e2;cases r5;exact wpAny_truthy_bool ⟨H5,I5,q5⟩
def qlK (K:Frag) (x:V) (H:Hp) (k:Bool):Prop :=
 match x with
 | .non=>k=false
 | .bl b=>k=b
 | .int i=>k=(i != 0)
 | .str y=>y.length≤sizeLine∧k=((y.length:Int) != 0)
 | .byt y=>y.size≤sizeLine∧k=((y.size:Int) != 0)
 | .ref p=>(∃ xs,SqL K H p xs∧k=!xs.isEmpty)∨(∃ xs,SqT K H p xs∧k=!xs.isEmpty)∨∃ kvs,H p=some (.dK kvs)∧k=!kvs.isEmpty
 | _=>False
theorem qfd {κ:Type}{kvs:List (κ×V)}{vs:List (κ×Value)} (r:KV kvs vs):(!vs.isEmpty)=!kvs.isEmpty:=by
 cases r<;>rfl
theorem qce {xs:List V}{its:List Value} (r:Vals xs its):(!its.toArray.isEmpty)=!xs.isEmpty:=by
 cases r<;>simp
theorem qcd:(sizeLine:Nat) < 2 ^ 63:=by rw[sizeLine_eq];decide
theorem qjY:qmx X (fun x H Q=>∃ k,qlK X.K x H k∧Q k H):=by
 intro pins s σ H x v Q I rx h;obtain⟨k,e,q⟩:=h;have hl:=qcd;have hs:sizeLine=16777216:=sizeLine_eq
 cases x with
 | non =>
   cases rx;have e':k=false:=e;subst e';exact truthy_none ⟨H,I,q⟩
 | bl b =>
   cases rx;have e':k=b:=e;subst e';exact wpAny_truthy_bool ⟨H,I,q⟩
 | int i =>
   obtain⟨t,rfl⟩:=rx;have e':k=(i != 0):=e;subst e';exact PySem.P.truthy_int ⟨H,I,q⟩
 | str y =>
   obtain⟨t,rfl⟩:=rx;obtain⟨hy,e'⟩:y.length≤sizeLine∧k=((y.length:Int) != 0):=e;subst e';exact PySem.P.truthy_str (by omega) ⟨H,I.tok _,q⟩
 | byt y =>
   obtain⟨t,rfl⟩:=rx;obtain⟨hy,e'⟩:y.size≤sizeLine∧k=((y.size:Int) != 0):=e;subst e';exact PySem.W.truthy_bytes (by omega) ⟨H,I.tok _,q⟩
 | ref p =>
   cases rx;have e':(∃ xs,SqL X.K H p xs∧k=!xs.isEmpty)∨(∃ xs,SqT X.K H p xs∧k=!xs.isEmpty)∨∃ kvs,H p=some (.dK kvs)∧k=!kvs.isEmpty:=e;rcases e' with ⟨xs,hx,e'⟩|⟨xs,hx,e'⟩|⟨kvs,hx,e'⟩
   · subst e';obtain⟨its,r,pl,hz⟩:=I.list hx;have hlen:=r.length;exact wpAny_truthy_list pl.isList (by simp only[List.size_toArray];omega) ⟨H,I.tok _,by rw[qce r];exact q⟩
   · subst e';obtain⟨its,r,pl,hz⟩:=I.tuple hx;have hlen:=r.length;exact truthy_tuple pl (by simp only[List.size_toArray];omega) ⟨H,I.tok _,by rw[qce r];exact q⟩
   · subst e';obtain⟨hz,hS,vs,r,m⟩:kvs.length≤sizeLine∧(p == sysModules)=false∧∃ vs,KV kvs vs∧s.heap.DictOf (zj X.prog X.w) p vs:=I.hok p _ hx;have hlen:kvs.length=vs.length:=Paired.length r;exact wpAny_truthy_dict hS m (by omega) ⟨H,I.tok _,by rw[qfd r];exact q⟩
 | _=>exact(show False from e).elim
theorem qeF (ha:PE X a ta) (he:∀ whole,isTrue a X.env whole=(do let v ← whole;standAt a.pos;holding [v] (truthy v))) :
   PT X a (fun σ H Q=>ta σ H fun x H'=>∃ k,qlK X.K x H' k∧Q k H'):=by
 intro pins s σ H Q I h;exact isTrue_plain (thn (ha pins s σ H _ I h) fun v s1 ⟨x,H1,I1,r1,q1⟩=>qjY pins s1 σ H1 x v Q I1 r1 q1) (he _)
theorem qe8:OpR X (binaryOp .Add) (fun x y H Q=>∃ i j,x=.str i∧y=.str j∧i.length+j.length≤sizeLine∧Q (.str (i++j)) H):=by
 intro pins s σ H x y v u Q I rx ry h;obtain⟨i,j,rfl,rfl,hz,q⟩:=h;obtain⟨t,rfl⟩:=rx;obtain⟨t',rfl⟩:=ry;exact add_str (fun t' tk=>⟨.str (i++j),H,I.tok _,⟨_,rfl⟩,q⟩) hz
theorem qau {x:V}{us:List Value} (r:Vals [x] us):∃ u,us=[u]∧RelV x u:=by
 cases r with
 | cons r1 r2=>cases r2;exact⟨_,rfl,r1⟩
theorem qc0 {x y:V}{us:List Value} (r:Vals [x,y] us):∃ u w',us=[u,w']∧RelV x u∧RelV y w':=by
 cases r with
 | cons r1 r2 =>
   cases r2 with
   | cons r3 r4=>cases r4;exact⟨_,_,rfl,r1,r3⟩
theorem qbt (hc:X.calm=true):Zg X (.builtin "max") (fun xs H Q=>∃ i j,xs=[.int i,.int j]∧Q (.int (if j > i then j else i)) H):=by
 intro pins s σ H xs us Q I r h;obtain⟨i,j,rfl,q⟩:=h;obtain⟨u,w',rfl,⟨t,rfl⟩,⟨t',rfl⟩⟩:=qc0 r;refine max_two_ints (I.ok.hd hc) fun h' tk k=>⟨_,H,I.kept k,?_,q⟩
 by_cases hj:j > i
 · rw[if_pos hj,if_pos hj];exact⟨_,rfl⟩
 · rw[if_neg hj,if_neg hj];exact⟨_,rfl⟩
theorem qgY (hc:X.calm=true):Zg X (.builtin "min") (fun xs H Q=>∃ i j,xs=[.int i,.int j]∧Q (.int (if j < i then j else i)) H):=by
 intro pins s σ H xs us Q I r h;obtain⟨i,j,rfl,q⟩:=h;obtain⟨u,w',rfl,⟨t,rfl⟩,⟨t',rfl⟩⟩:=qc0 r;refine min_two_ints (I.ok.hd hc) fun h' tk k=>⟨_,H,I.kept k,?_,q⟩
 by_cases hj:j < i
 · rw[if_pos hj,if_pos hj];exact⟨_,rfl⟩
 · rw[if_neg hj,if_neg hj];exact⟨_,rfl⟩
theorem qg1:Zg X (.type "int") (fun xs H Q=>(∃ i,xs=[.int i]∧Q (.int i) H)∨∃ k,xs=[.bl k]∧Q (.int (if k then 1 else 0)) H):=by
 intro pins s σ H xs us Q I r h;rcases h with ⟨i,rfl,q⟩|⟨k,rfl,q⟩
 · obtain⟨u,rfl,t,rfl⟩:=qau r;exact call_int_int ⟨.int i,H,I,⟨_,rfl⟩,q⟩
 · obtain⟨u,rfl,r1⟩:=qau r;cases r1;exact call_int_bool ⟨.int (if k then 1 else 0),H,I.tok _,⟨_,rfl⟩,q⟩
def qmz (K:Frag) (x:V) (H:Hp) (n:Nat):Prop :=
 match x with
 | .str y=>y.length≤sizeLine∧n=y.length
 | .byt y=>y.size≤sizeLine∧n=y.size
 | .ref p=>(∃ xs,SqL K H p xs∧n=xs.length)∨∃ xs,SqT K H p xs∧n=xs.length
 | _=>False
theorem qR:Zg X (.builtin "len") (fun xs H Q=>∃ x n,xs=[x]∧qmz X.K x H n∧Q (.int n) H):=by
 intro pins s σ H xs us Q I r h;obtain⟨x,n,rfl,e,q⟩:=h;obtain⟨u,rfl,rx⟩:=qau r;have hl:=qcd;have hs:sizeLine=16777216:=sizeLine_eq
 cases x with
 | str y =>
   obtain⟨t,rfl⟩:=rx;obtain⟨hy,e'⟩:y.length≤sizeLine∧n=y.length:=e;subst e';exact len_str (by omega) ⟨.int _,H,I.tok _,⟨_,rfl⟩,q⟩
 | byt y =>
   obtain⟨t,rfl⟩:=rx;obtain⟨hy,e'⟩:y.size≤sizeLine∧n=y.size:=e;subst e';exact PySem.W.len_bytes (by omega) ⟨.int _,H,I.tok _,⟨_,rfl⟩,q⟩
 | ref p =>
   cases rx;have e':(∃ xs,SqL X.K H p xs∧n=xs.length)∨∃ xs,SqT X.K H p xs∧n=xs.length:=e;rcases e' with ⟨xs,hx,e'⟩|⟨xs,hx,e'⟩
   · subst e';obtain⟨its,r',pl,hz⟩:=I.list hx;have hlen:=r'.length;exact Calls.call_len_list pl.isList (by simp only[List.size_toArray];omega) ⟨.int xs.length,H,I.tok _,⟨_,by simp only[List.size_toArray];rw[hlen]⟩,q⟩
   · subst e';obtain⟨its,r',pl,hz⟩:=I.tuple hx;have hlen:=r'.length;exact len_tuple pl (by simp only[List.size_toArray];omega) ⟨.int xs.length,H,I.tok _,⟨_,by simp only[List.size_toArray];rw[hlen]⟩,q⟩
 | _=>exact(show False from e).elim
end
structure ObjM (h:Heap) (x dx C:Addr) (mA:Str->Option Value):Prop where
 obj:h.get? x=some (instObj C dx)
 ns:h.Ns1 dx mA
 ne:dx≠x
theorem qdE {h:Heap}{dx:Addr}{mA:Str->Option Value} (n:h.Ns1 dx mA):∃ od,h.get? dx=some od∧∀ name,lookIn name od=some (mA name):=by
 obtain⟨o,es,ep,ho,hd,hk,_,hm⟩:=n;refine⟨o,ho,fun name=>?_⟩;have e:=hm name;unfold nsFind findBy at e;rw[← Array.find?_toList]at e;unfold lookIn;rw[hd];dsimp only;split
 · rename_i y q
   rw[q]at e;exact congrArg some e
 · rename_i q
   rw[q]at e
   have a:es.toList.any (·.refKey)=false:=by
     rw[List.any_eq_false];intro y hy;obtain⟨z,t,hkey⟩:=hk y (Array.mem_toList_iff.mp hy);simp[DictEntry.refKey,hkey]
   have a':¬ es.toList.any (·.refKey)=true:=by rw[a];exact Bool.false_ne_true
   rw[if_neg a'];exact congrArg some e
theorem ObjM.look {h:Heap}{x dx C:Addr}{mA:Str->Option Value} (I:ObjM h x dx C mA):∃ od,PySem.W.InstAt h x (instObj C dx) C (some od)∧∀ name,lookIn name od=some (mA name) :=
 let ⟨od,ho,hl⟩:=qdE I.ns
 ⟨od,⟨I.obj,rfl,rfl,ho⟩,hl⟩
section
variable {prog:Program}{w:World}{A:Around}{E:Value->Shared->Prop}{s:Shared}{K:Frag}{x dx C f:Addr}{mA:Str->Option Value}{name:Str}{v:Value}
theorem qjC {expr:Bool}{Q:Value->Shared->Prop} (X:K.In s.heap) (I:ObjM s.heap x dx C mA) (hg:plainGet K C name=true) (hh:hasDictIn K C=true)
   (ha:findIn K (.ref C) name=some none) (hv:mA name=some v) (hv':handedIn v=true) (h:Q v { s with toks:=s.toks+1 }) :
   wpAny (model prog w) A (getAttr (.ref x) name expr) Q E s:=by
 obtain⟨od,J,hl⟩:=I.look;exact PySem.W.get_value X J (plainGet_of hg).1 (PySem.W.findObj_own hh ha rfl (by rw[hl,hv])) hv' h
theorem qh8 {pl:Sem Bool}{Q:Value×List Value->Shared->Prop} (X:K.In s.heap) (I:ObjM s.heap x dx C mA) (hg:plainGet K C name=true)
   (hf:findIn K (.ref C) name=some (some (.ref f))) (ht:isFn K (.ref f)=true) (hv:mA name=none) (h:Q (.ref f,[.ref x]) s) :
   wpAny (model prog w) A (getMethod (.ref x) name pl) Q E s:=by
 obtain⟨od,J,hl⟩:=I.look;exact PySem.W.method_fn X J (plainGet_of hg).1 (plainGet_of hg).2 hf (beq_iff_eq.mp ht) (by show (lookIn name od).map (·.isSome)=some false;rw[hl,hv];rfl) h
theorem qja {ns:List Str}{Q:Unit->Shared->Prop} (X:K.In s.heap) (I:ObjM s.heap x dx C mA)
   (hs:findIn K (.ref C) "__setattr__"=some (some (.builtin "object.__setattr__"))) (hp:plainOver K C=true) (ht:takerIn K C name=some none) (hh:hasDictIn K C=true)
   (hw:PySem.Within mA ns) (hsz:ns.length≤sizeLine)
   (h:∀ h',ObjM h' x dx C (fun y=>if y=name then some v else mA y)->Heap.SameBut dx s.heap h'->Q () { s with heap:=h',toks:=s.toks+2 }) :
   wpAny (model prog w) A (setAttr (.ref x) name v) Q E s:=by
 obtain⟨od,J,hl⟩:=I.look;refine PySem.W.set_plain X J hs (PySem.W.osa_open (s:={ s with toks:=s.toks+1 }) (r:=none) X J hp ht fun b=>?_);obtain⟨cd,hc,hd'⟩:=PySem.W.any_some hh;have hx:s.heap.get? x=some ⟨.ref C,some dx,.plain,#[]⟩:=I.obj;refine wpAny_bind (wpAny_pure (wpAny_bind (wpAny_bind (wpAny_loadPart hx (wpAny_bind (PySem.W.Looks.here (s:={ s with toks:=s.toks+1 }) (PySem.W.looks_clsIn X hc) ?_))))));rw[hd'];refine wpAny_pure (a:=some dx) (wpAny_bind (wpAny_pure (wpAny_bind ?_)));refine wpAny_nsSet1 (s:={ s with toks:=s.toks+1 }) I.ns fun h' hn2 hs2=>?_;obtain⟨oD,esD,epD,hoD,hdD,hcD⟩:=hn2.count (PySem.Within.cons name v hw);refine wpAny_bind (wpAny_lookBehind hoD (by rw[hdD];exact pastItsLine_dict (Nat.le_trans hcD (by rw[List.length_cons];omega))) ?_);exact wpAny_pure (h _ ⟨(hs2.2 _ (Ne.symm I.ne)).trans I.obj,hn2,I.ne⟩ hs2)
theorem qhY {R:Result->Shared->Prop}{vs:List Value}{kw:List (Str×Value)} (X:K.In s.heap) (hm:makesIn K C=true)
   (hi:findIn K (.ref C) "__init__"=some (some (.ref f))) (hf:PySem.W.typeIn K (.ref f)=some (.type "function"))
   (h:codeAny (model prog w) (A.under (.builtin "type.__call__" ⟨.ref C::vs,kw⟩)) (.call (.ref f) ⟨.ref (s.heap.objs.size+1)::vs,kw⟩) (PySem.W.InitBack (s.heap.objs.size+1) R)
     { s with heap:=(s.heap.push emptyDict).push (instObj C s.heap.objs.size) }) :
   codeAny (model prog w) A (.call (.ref C) ⟨vs,kw⟩) R s:=by
 obtain⟨hh,g,d,t,os⟩:=s;exact PySem.W.make_core (PySem.W.makes_of X hm) (PySem.W.looks_findIn X hi) (fun self=>PySem.W.bind_fn X self hf) (.inl rfl) h
end
def qds (f:Str) (v:V):List (Str×V)->List (Str×V)
 | []=>[(f,v)]
 | (g,x)::r=>if g=f then (g,v)::r else (g,x)::qds f v r
theorem qbe (f g:Str) (v:V):∀ fs:List (Str×V),(qds f v fs).lookup g=if g=f then some v else fs.lookup g
 | []=>by
   show List.lookup g [(f,v)]=_;by_cases h:g=f
   · have hb:(g == f)=true:=beq_iff_eq.mpr h;simp only[List.lookup,hb,if_pos h]
   · have hb:(g == f)=false:=beq_eq_false_iff_ne.mpr h;simp only[List.lookup,hb,if_neg h]
 | (k,x)::r=>by
   have ih:=qbe f g v r;rw[show qds f v ((k,x)::r)=(if k=f then (k,v)::r else (k,x)::qds f v r) from rfl];by_cases hk:k=f
   · rw[if_pos hk];by_cases h:g=k
     · have hb:(g == k)=true:=beq_iff_eq.mpr h;simp only[List.lookup,hb,if_pos (h.trans hk)]
     · have hb:(g == k)=false:=beq_eq_false_iff_ne.mpr h;simp only[List.lookup,hb,if_neg (fun e:g=f=>h (e.trans hk.symm))]
   · rw[if_neg hk];by_cases h:g=k
     · have hb:(g == k)=true:=beq_iff_eq.mpr h;simp only[List.lookup,hb,if_neg (fun e:g=f=>hk (h.symm.trans e))]
     · have hb:(g == k)=false:=beq_eq_false_iff_ne.mpr h;simp only[List.lookup,hb];exact ih
theorem qbn (f:Str) (v:V):∀ fs:List (Str×V),f∈(qds f v fs).map (·.1)∧∀ g,g∈fs.map (·.1)->g∈(qds f v fs).map (·.1)
 | []=>⟨by simp[qds],fun g h=>by simp at h⟩
 | (k,x)::r=>by
   obtain⟨i1,i2⟩:=qbn f v r;rw[show qds f v ((k,x)::r)=(if k=f then (k,v)::r else (k,x)::qds f v r) from rfl];by_cases hk:k=f
   · rw[if_pos hk];subst hk;exact⟨by simp,fun g h=>by simpa using h⟩
   · rw[if_neg hk];refine⟨?_,fun g h=>?_⟩
     · rw[List.map_cons];exact List.mem_cons_of_mem _ i1
     · rw[List.map_cons]at h ⊢;rcases List.mem_cons.mp h with e|e
       · exact List.mem_cons.mpr (.inl e)
       · exact List.mem_cons_of_mem _ (i2 g e)
theorem qbh (f:Str) (v:V):∀ fs:List (Str×V),(qds f v fs).length≤fs.length+1
 | []=>by simp[qds]
 | (k,x)::r=>by
   have ih:=qbh f v r;rw[show qds f v ((k,x)::r)=(if k=f then (k,v)::r else (k,x)::qds f v r) from rfl];by_cases hk:k=f
   · rw[if_pos hk,List.length_cons,List.length_cons];omega
   · rw[if_neg hk,List.length_cons,List.length_cons];omega
theorem RelO.some_of {v:V}{o:Option Value} (r:RelO (some v) o):∃ u,o=some u∧RelV v u:=by
 cases o with
 | none=>exact(show False from r).elim
 | some u=>exact⟨u,rfl,r⟩
theorem RelO.none_of {o:Option Value} (r:RelO none o):o=none:=by
 cases o with
 | none=>rfl
 | some u=>exact(show False from r).elim
theorem qdK {v:V}{u:Value} (r:RelV v u):handedIn u=true:=by
 cases v with
 | non=>cases (show u=Value.none from r);rfl
 | bl b=>cases (show u=Value.bool b from r);rfl
 | int i=>obtain⟨t,e⟩:=(show ∃ t,u=Value.int i t from r);cases e;rfl
 | str x=>obtain⟨t,e⟩:=(show ∃ t,u=Value.str x t from r);cases e;rfl
 | byt b=>obtain⟨t,e⟩:=(show ∃ t,u=Value.bytes b t from r);cases e;rfl
 | flt b=>obtain⟨t,e⟩:=(show ∃ t,u=Value.float b t from r);cases e;rfl
 | ref a=>cases (show u=Value.ref a from r);rfl
 | ty n=>cases (show u=Value.type n from r);rfl
section
variable {P:Program}{w:World}{H H':Hp}{h h':Heap}{a C dx:Addr}{fs fs':List (Str×V)}
theorem qcS (hok:HOk P w H h) (e:H a=some (.ins C dx fs)):∃ mA,ObjM h a dx C mA∧(∀ f,RelO (fs.lookup f) (mA f))∧PySem.Within mA (fs.map (·.1))∧fs.length≤1000∧H dx=some (.own a):=by
 obtain⟨d,z,ne,ob,mA,n,r,q⟩:=(show ObjOk P w H h a (.ins C dx fs) from hok a _ e)
 exact⟨mA,⟨ob,n,ne⟩,r,q,z,d⟩
end
structure Cls (K:Frag) (C:Addr):Prop where
 pg:plainGet K C Str.empty=true
 hd:hasDictIn K C=true
 po:plainOver K C=true
 sa:findIn K (.ref C) "__setattr__"=some (some (.builtin "object.__setattr__"))
theorem Cls.get {K:Frag}{C:Addr} (c:Cls K C) (f:Str):plainGet K C f=true:=c.pg
def NoAttr (K:Frag) (C:Addr) (f:Str):Prop:=findIn K (.ref C) f=some none
theorem NoAttr.taker {K:Frag}{C:Addr}{f:Str} (n:NoAttr K C f):takerIn K C f=some none:=by
 unfold takerIn;rw[show findIn K (.ref C) f=some none from n];rfl
structure qij (K:Frag) (C:Addr) (m:Str) (f:Addr):Prop where
 at_:findIn K (.ref C) m=some (some (.ref f))
 fn:isFn K (.ref f)=true
 kp:keepIn K (.ref f)=true
section
variable {X:Cx}{pins:List (Addr×Obj)}{σ:St}{H:Hp}{s:Shared}{a C dx:Addr}{fs:List (Str×V)}{f:Str}{v:V}{A:Around}{E:Value->Shared->Prop}
theorem qfe {b:Bool}{Q:Value->Shared->Prop} (I:Inv X pins σ H s) (e:H a=some (.ins C dx fs)) (c:Cls X.K C) (n:NoAttr X.K C f) (l:fs.lookup f=some v)
   (h:∀ u s',Inv X pins σ H s'->RelV v u->Q u s'):wpAny (model X.prog X.w) A (getAttr (.ref a) f b) Q E s:=by
 obtain⟨mA,O,r,_,_,_⟩:=qcS I.hok e;obtain⟨u,hu,ru⟩:=RelO.some_of (v:=v) (o:=mA f) (by rw[← l];exact r f);exact qjC I.kIn O (c.get f) c.hd n hu (qdK ru) (h u _ (I.tok _) ru)
theorem qcf {m:Str}{g:Addr}{pl:Sem Bool}{Q:Value×List Value->Shared->Prop} (I:Inv X pins σ H s) (e:H a=some (.ins C dx fs)) (c:Cls X.K C) (k:qij X.K C m g) (l:fs.lookup m=none)
   (h:Q (.ref g,[.ref a]) s):wpAny (model X.prog X.w) A (getMethod (.ref a) m pl) Q E s:=by
 obtain⟨mA,O,r,_,_,_⟩:=qcS I.hok e;have hn:mA m=none:=RelO.none_of (by rw[← l];exact r m);exact qh8 I.kIn O (c.get m) k.at_ k.fn hn h
theorem qe2 {y:V}{u:Value}{Q:Unit->Shared->Prop} (I:Inv X pins σ H s) (e:H a=some (.ins C dx fs)) (c:Cls X.K C) (n:NoAttr X.K C f) (hl:fs.length < 1000) (ry:RelV y u)
   (h:∀ s',Inv X pins σ (upd H a (.ins C dx (qds f y fs))) s'->Q () s'):wpAny (model X.prog X.w) A (setAttr (.ref a) f u) Q E s:=by
 obtain⟨mA,O,r,wi,_,ho⟩:=qcS I.hok e;have hz:(fs.map (·.1)).length≤sizeLine:=by rw[List.length_map,sizeLine_eq];omega
 refine qja I.kIn O c.sa c.po n.taker c.hd wi hz fun h' O' sb=>h _ ?_;have hd:∃ o,h'.get? dx=some o:=let ⟨o,_,_,e',_⟩:=O'.ns;⟨o,e'⟩;refine I.write (x:=a) (e:=dx) (by rw[e];exact True.intro) (.inr ho) (fun b q hb z=>(sb.2 b hb).trans z) hd ?_;refine⟨by rw[qg O.ne];exact ho,?_,O.ne,O'.obj,_,O'.ns,fun g=>?_,fun g hg=>?_⟩
 · have:=qbh f y fs;omega
 · show RelO ((qds f y fs).lookup g) (if g=f then some u else mA g);rw[qbe];by_cases q:g=f
   · rw[if_pos q,if_pos q];exact ry
   · rw[if_neg q,if_neg q];exact r g
 · by_cases q:g=f
   · rw[q];exact(qbn f y fs).1
   · refine(qbn f y fs).2 g (wi g fun z=>hg ?_);show (if g=f then some u else mA g)=none;rw[if_neg q];exact z
theorem Inv.made (I:Inv X pins σ H s):Inv X pins σ (upd (upd H s.heap.objs.size (.own (s.heap.objs.size+1))) (s.heap.objs.size+1) (.ins C s.heap.objs.size []))
   { s with heap:=(s.heap.push emptyDict).push (instObj C s.heap.objs.size) }:=by
 have e1:(s.heap.push emptyDict).get? s.heap.objs.size=some emptyDict:=Heap.get?_push_size s.heap rfl
 have e2:((s.heap.push emptyDict).push (instObj C s.heap.objs.size)).get? (s.heap.objs.size+1)=some (instObj C s.heap.objs.size):=by
   have:=Heap.get?_push_size (s.heap.push emptyDict) (o:=instObj C s.heap.objs.size) rfl
   rwa [Heap.size_push]at this
 have e3:(s.heap.push emptyDict).Ns s.heap.objs.size (fun _=>none):=⟨emptyDict,#[],_,e1,rfl,(fun e he=>absurd he (by simp)),fun _=>rfl⟩
 have I1:=I.laid (a:=s.heap.objs.size) (o:=.own (s.heap.objs.size+1)) (h':=s.heap.push emptyDict) (t':=s.toks) (fun b u q=>Heap.get?_push_of_some _ q) (Nat.le_refl _) ⟨_,e1⟩;refine I1.laid (a:=s.heap.objs.size+1) (o:=.ins C s.heap.objs.size []) (t':=s.toks) (fun b u q=>Heap.get?_push_of_some _ q) (Nat.le_of_eq (Heap.size_push _ _)) ?_;have ne:s.heap.objs.size≠s.heap.objs.size+1:=Nat.ne_of_lt (Nat.lt_succ_self _);refine⟨by rw[qg ne,qd],Nat.zero_le _,ne,e2,fun _=>none,(Heap.Ns1.of_empty e3).at fun o q=>Heap.get?_push_of_some _ q,fun _=>True.intro,fun y hy=>absurd rfl hy⟩
theorem qg9 {prog:Program}{w:World}{env:Env}{e:Expr}{f:Str}{pos:Pos}{s:Shared}{Q:Value->Shared->Prop} (hb:attributeBase e f env (eval e env)=eval e env)
   (h:wpAny (model prog w) A (eval e env) (fun o s₁=>wpAny (model prog w) A (getAttr o f true) Q E s₁) E s):wpAny (model prog w) A (eval (.Attribute e f pos) env) Q E s :=
 Attribute_any_ h (by rw[arm_eval_Attribute,hb])
end
inductive qin (K:Frag) (f:Str) (Q:VK) (x:V) (H1:Hp):Prop
 | mk (a C dx fs v:_) (h1:x=.ref a) (h2:H1 a=some (.ins C dx fs)) (h3:Cls K C) (h4:NoAttr K C f) (h5:fs.lookup f=some v) (h6:Q v H1):qin K f Q x H1
def qmf (K:Frag) (ta:TE) (f:Str):TE:=fun σ H Q=>ta σ H fun x H1=>qin K f Q x H1
def qmh (K:Frag) (ta tv:TE) (f:Str):TS:=fun D σ H=>tv σ H fun y H1=>ta σ H1 fun x H2=>∃ a C dx fs,x=.ref a∧H2 a=some (.ins C dx fs)∧Cls K C∧NoAttr K C f∧fs.length < 1000 ∧
 D.nx σ (upd H2 a (.ins C dx (qds f y fs)))
section
variable {X:Cx}{o e value:Expr}{f:Str}{pos pos' tpos:Pos}{ta tv:TE}
theorem qZ (he:PE X e ta) (hb:attributeBase e f X.env (eval e X.env)=eval e X.env):PE X (.Attribute e f pos) (qmf X.K ta f):=by
 intro pins s σ H Q I h;refine qg9 hb (thn (he pins s σ H _ I h) fun u s1 zz_=>?_);obtain⟨x,H1,I1,rx,a,C,dx,fs,v,ex,ea,c,n,l,q⟩:=zz_;subst ex;obtain rfl:u=Value.ref a:=rx;exact qfe I1 ea c n l fun u' s2 I2 ru=>⟨v,H1,I2,ru,q⟩
theorem Qw (ha:PE X o ta) (hv:PE X value tv) (hs:swapsWith value (some (.Attribute o f pos')) pos.line X.env=pure false):PS X (.Assign [.Attribute o f pos'] value pos) (qmh X.K ta tv f):=by
 intro pins s σ H D I h;refine plainObj_wpAny_Assign_Attribute (thn (hv pins s σ H _ I h) fun u s1 ⟨y,H1,I1,ry,q⟩=>thn (ha pins s1 σ H1 _ I1 q) fun ov s2 zz_=>?_) hs;obtain⟨x,H2,I2,rx,a,C,dx,fs,ex,ea,c,n,l,q2⟩:=zz_;subst ex;obtain rfl:ov=Value.ref a:=rx;exact qe2 I2 ea c n l ry fun s3 I3=>⟨σ,_,I3,q2⟩
end
section
variable {X:Cx}{pins:List (Addr×Obj)}{σ:St}{H:Hp}{s:Shared}{A:Around}{E:Value->Shared->Prop}{Q:Value->Shared->Prop}{c:Value}{b:Bool}
inductive qdU (K:Frag) (H:Hp):V->Value->Prop where
 | non:qdU K H .non (.type "NoneType")
 | bl (x:Bool):qdU K H (.bl x) (.type "bool")
 | int (i:Int):qdU K H (.int i) (.type "int")
 | str (x:Str):qdU K H (.str x) (.type "str")
 | flt (x:UInt64):qdU K H (.flt x) (.type "float")
 | lst {a:Addr}{xs:List V} (e:H a=some (.lst xs)):qdU K H (.ref a) (.type "list")
 | frz {a:Addr}{o:Obj}{xs:List V} (e:H a=some (.frz o (.lst xs))):qdU K H (.ref a) (.type "list")
 | tup {a:Addr}{xs:List V} (e:H a=some (.tup xs)):qdU K H (.ref a) (.type "tuple")
 | dK {a:Addr}{kvs:List (Key×V)} (e:H a=some (.dK kvs)):qdU K H (.ref a) (.type "dict")
 | dT {a:Addr}{kvs:List (List Key×V)} (e:H a=some (.dT kvs)):qdU K H (.ref a) (.type "dict")
 | ins {a C dx:Addr}{fs:List (Str×V)} (e:H a=some (.ins C dx fs)) (cl:Cls K C) (ha:findIn K (.ref C) "__class__"=some (some (.builtin "object.__class__")))
     (hn:PySem.W.specialIn K (.builtin "object.__class__") "__get__"=some (some (.builtin "getset_descriptor.__get__"))) (htk:PySem.W.takesIn K (.builtin "object.__class__")=some true)
     (hm:PySem.W.mroIn K C (.type "object")=some true):qdU K H (.ref a) (.ref C)
theorem qdJ {x:V}{u t:Value} (I:Inv X pins σ H s) (rx:RelV x u) (ty:qdU X.K H x t) (e:PySem.W.kitOne X.K t c=some b) (h:∀ tk,Q (.bool b) { s with toks:=tk }) :
   wpAny (model X.prog X.w) A (call (.builtin "isinstance") [u,c]) Q E s:=by
 cases ty with
 | non=>cases (show u=Value.none from rx);exact kia_one PySem.W.kitx_none I.kIn True.intro e (fun z=>nomatch z) h
 | bl y=>cases (show u=Value.bool y from rx);exact kia_one PySem.W.kitx_bool I.kIn True.intro e (fun z=>nomatch z) h
 | int i=>obtain⟨t,q⟩:=(show ∃ t,u=Value.int i t from rx);cases q;exact kia_one PySem.W.kitx_int I.kIn True.intro e (fun z=>nomatch z) h
 | str y=>obtain⟨t,q⟩:=(show ∃ t,u=Value.str y t from rx);cases q;exact kia_one PySem.W.kitx_str I.kIn True.intro e (fun z=>nomatch z) h
 | flt y=>obtain⟨t,q⟩:=(show ∃ t,u=Value.float y t from rx);cases q;exact kia_one PySem.W.kitx_float I.kIn True.intro e (fun z=>nomatch z) h
 | @lst a xs ea =>
   cases (show u=Value.ref a from rx);obtain⟨_,_,n,_,h1⟩:=(show ObjOk X.prog X.w H s.heap a (.lst xs) from I.hok a _ ea)
   exact kia_one kitx_list I.kIn ⟨_,h1,rfl⟩ e (fun z=>nomatch z) h
 | @frz a ob xs ea =>
   cases (show u=Value.ref a from rx);obtain⟨_,_,_,n,_,h1⟩:=(show ObjOk X.prog X.w H s.heap a (.frz ob (.lst xs)) from I.hok a _ ea)
   exact kia_one kitx_list I.kIn ⟨_,h1,rfl⟩ e (fun z=>nomatch z) h
 | @tup a xs ea =>
   cases (show u=Value.ref a from rx);obtain⟨_,_,_,p⟩:=(show ObjOk X.prog X.w H s.heap a (.tup xs) from I.hok a _ ea)
   obtain⟨o,h1,h2,_⟩:=p;exact kia_one PySem.W.kitx_tuple I.kIn ⟨o,h1,h2⟩ e (fun z=>nomatch z) h
 | @dK a kvs ea =>
   cases (show u=Value.ref a from rx);obtain⟨_,_,vs,_,p⟩:=(show ObjOk X.prog X.w H s.heap a (.dK kvs) from I.hok a _ ea)
   obtain⟨o,es,ep,h1,h2,_⟩:=p;exact kia_one kitx_dict I.kIn ⟨o,h1,h2.1⟩ e (fun z=>nomatch z) h
 | @dT a kvs ea =>
   cases (show u=Value.ref a from rx);obtain⟨_,_,xs,_,o,es,ep,h1,h2,_⟩:=(show ObjOk X.prog X.w H s.heap a (.dT kvs) from I.hok a _ ea)
   exact kia_one kitx_dict I.kIn ⟨o,h1,h2.1⟩ e (fun z=>nomatch z) h
 | @ins a C dx fs ea cl ha hn htk hm =>
   cases (show u=Value.ref a from rx);obtain⟨mA,O,_⟩:=qcS I.hok ea;obtain⟨od,J,_⟩:=O.look;exact kia_one (PySem.W.kitx_own (cl.get _) cl.hd ha hn htk hm) I.kIn J e (fun z=>nomatch z) h
end
structure Room (k:Nat) (A:Around):Prop where
 hd:A.handled=none
 dp:A.depth+3 * k+5 < recursionLimit
 un:A.units+16 * k+200 < cLine
 gd:A.guards=some []
theorem Room.mono {j k:Nat}{A:Around} (r:Room k A) (h:j≤k):Room j A:=⟨r.hd,by have:=r.dp;omega,by have:=r.un;omega,r.gd⟩
theorem Room.deeper {k:Nat}{A:Around} (r:Room (k+1) A) (env:Env):Room k (A.deeper env) :=
 ⟨r.hd,by have:=r.dp;show A.depth+1+3 * k+5 < _;omega,by have:=r.un;show A.units+3+16 * k+200 < _;omega,r.gd⟩
theorem qfb {A:Around}{C:Addr}{us:List Value}{kw:List (Str×Value)}:(A.under (.builtin "type.__call__" ⟨.ref C::us,kw⟩)).depth=A.depth+1:=by
 first|rfl|simp[Around.under,Code.weight,Code.isCreation,Code.isGuard,Code.isCaller,Code.frames,Code.isFrame,guardIds]
theorem qfa {A:Around}{C:Addr}{us:List Value}{kw:List (Str×Value)}:(A.under (.builtin "type.__call__" ⟨.ref C::us,kw⟩)).units=A.units+1:=by
 first|rfl|simp[Around.under,Code.cUnits,Code.frames,Code.isFrame]
theorem Room.make {k:Nat}{A:Around} (r:Room (k+1) A) (C:Addr) (us:List Value) (kw:List (Str×Value)):Room k (A.under (.builtin "type.__call__" ⟨.ref C::us,kw⟩)) :=
 ⟨r.hd,by have:=r.dp;rw[qfb];omega,by have:=r.un;rw[qfa];omega,r.gd⟩
theorem Room.depth {k:Nat}{A:Around} (r:Room k A):A.depth < recursionLimit:=by have:=r.dp;omega
theorem Room.units {k:Nat}{A:Around} (r:Room k A):A.units+64 < cLine:=by have:=r.un;omega
def qes:TA:=fun _ H Q=>Q [] H
def qlh (ta:TE) (tr:TA):TA:=fun σ H Q=>ta σ H fun x H1=>tr σ H1 fun xs H2=>Q (x::xs) H2
section
variable {X:Cx}{e:Expr}{es:List Expr}{te:TE}{t:TA}{pos:Pos}
theorem qb:PA X [] qes:=fun _ _ _ _ H Q I h=>Calls.spliced_nil ⟨[],H,I,.nil,h⟩
theorem qa (ha:PE X e te) (hr:PA X es t) (hs:starEach (e::es) X.env=(false,eval e X.env)::starEach es X.env:=by rfl):PA X (e::es) (qlh te t):=by
 intro pos pins s σ H Q I h;rw[hs];show wpAny _ _ (spliced ((false,eval e X.env)::backTo pos (starEach es X.env))) _ _ s;refine Calls.spliced_cons (thn (ha pins s σ H _ I h) fun u s1 zz_=>?_);obtain⟨x,H1,I1,r1,q1⟩:=zz_;exact thn (hr pos pins s1 σ H1 _ I1 q1) fun us s2 ⟨xs,H2,I2,r2,q2⟩=>⟨x::xs,H2,I2,.cons r1 r2,q2⟩
def qmb (t:TA):TE:=fun σ H Q=>t σ H fun xs H1=>xs.length≤sizeLine∧∀ p,H1 p=none->Q (.ref p) (upd H1 p (.tup xs))
def qmd (t:TA):TE:=fun σ H Q=>t σ H fun xs H1=>xs.length≤sizeLine∧∀ p,H1 p=none->Q (.ref p) (upd H1 p (.lst xs))
theorem qS {x1} (h:PA X es t):PE X (.Tuple es x1 pos) (qmb t):=by
 intro pins s σ H Q I hq;refine wpAny_Tuple_spliced (thn (h pos pins s σ H _ I hq) fun us s1 ⟨xs,H1,I1,r,z,q⟩=>⟨by rw[← r.length];exact z,?_⟩);have hf:H1 s1.heap.objs.size=none:=I1.hok.fresh (Nat.le_refl _);refine⟨.ref s1.heap.objs.size,upd H1 s1.heap.objs.size (.tup xs),I1.laid (t':=s1.toks) (fun b u e=>Heap.get?_push_of_some _ e) (Nat.le_refl _) ?_,rfl,q _ hf⟩;exact⟨z,us,r,⟨_,Heap.get?_push_size _ rfl,rfl,_,rfl⟩⟩
theorem qQ (h:PA X es t):PE X (.List es pos) (qmd t):=by
 intro pins s σ H Q I hq;refine wpAny_List_spliced (thn (h pos pins s σ H _ I hq) fun us s1 ⟨xs,H1,I1,r,z,q⟩=>⟨by rw[← r.length];exact z,?_⟩);have hf:H1 s1.heap.objs.size=none:=I1.hok.fresh (Nat.le_refl _);refine⟨.ref s1.heap.objs.size,upd H1 s1.heap.objs.size (.lst xs),I1.laid (t':=s1.toks) (fun b u e=>Heap.get?_push_of_some _ e) (Nat.le_refl _) ?_,rfl,q _ hf⟩;exact⟨z,us,0,r,Heap.get?_push_size _ rfl⟩
end
abbrev Sp:=List V->Hp->VK->XK->Prop
abbrev CXT:=List Env->Hp->Shared->XK->Value->Shared->Prop
structure Env0 (P:Program) (w:World) (K:Frag) (mg:Str->Option Value) (base:Heap) (A:Around) (outer:List Env) (s:Shared) (H:Hp):Prop where
 frames:A.frames=some outer
 mod:Mod K mg base
 bs:∀ b o,base.get? b=some o->s.heap.get? b=some o∧H b=none
 bsz:base.objs.size≤s.heap.objs.size
 funs:s.heap.FunFrames base outer
 frf:∀ b∈frs outer,H b=none
 hok:HOk P w H s.heap
 bare:AllBare s.gens
def CE (outer:List Env) (P:Program) (w:World) (H:Hp) (s:Shared) (Q:VK) (u:Value) (s':Shared):Prop :=
 ∃ v H',s'.os=s.os∧AllBare s'.gens∧Un (frs outer) [] H H' s.heap s'.heap∧HOk P w H' s'.heap∧RelV v u∧Q v H'
def CR (CX:CXT) (outer:List Env) (P:Program) (w:World) (H:Hp) (s:Shared) (Q:VK) (E:XK) (r:Result) (s':Shared):Prop :=
 match r with
 | .ok (.ret u)=>CE outer P w H s Q u s'
 | .ok _=>False
 | .error e=>CX outer H s E e s'
structure qu (P:Program) (w:World) (K:Frag) (mg:Str->Option Value) (base:Heap) (CX:CXT) (k:Nat) (f:Addr) (fd:FuncData) (ps:List Str) (sp:Sp):Prop where
 len:∀ vs H Q E,sp vs H Q E->vs.length=ps.length
 run:∀ (A:Around) (outer:List Env) (s:Shared) (H:Hp) (args:Args) (us:List Value) (vs:List V) (Q:VK) (E:XK),Room k A->Env0 P w K mg base A outer s H->BindsTo s fd args (ps.zip us)->Vals vs us->sp vs H Q E ->
   codeAny (model P w) A (.call (.ref f) args) (CR CX outer P w H s Q E) s
theorem Env0.make {P:Program}{w:World}{K:Frag}{mg:Str->Option Value}{base:Heap}{A:Around}{outer:List Env}{s:Shared}{H:Hp} (e:Env0 P w K mg base A outer s H) (C:Addr) (us:List Value) (kw:List (Str×Value)) :
   Env0 P w K mg base (A.under (.builtin "type.__call__" ⟨.ref C::us,kw⟩)) outer s H:=⟨by first|exact e.frames|(simpa[Around.under,Code.envs,Code.isFrame,pushEnvs] using e.frames),e.mod,e.bs,e.bsz,e.funs,e.frf,e.hok,e.bare⟩
section
variable {X:Cx}{pins:List (Addr×Obj)}{σ:St}{H:Hp}{s s':Shared}
theorem Inv.env0 (I:Inv X pins σ H s):Env0 X.prog X.w X.K X.mg X.base X.A X.stack s H :=
 ⟨I.ok.frames,I.ok.mod,I.bs,Nat.le_trans I.ok.bsz I.sz,I.stack,I.stkFree,I.hok,I.bare⟩
theorem Inv.after {Q:VK}{u:Value} (I:Inv X pins σ H s) (h:CE X.stack X.prog X.w H s Q u s'):EP X pins σ Q u s':=by
 obtain⟨v,H',os,bare,un,hok,r,q⟩:=h;obtain⟨hh,g,d,t,os'⟩:=s';obtain rfl:os'=s.os:=os;exact⟨v,H',I.call (h':=hh) (g':=g) (d':=d) (t':=t) (ch:=[]) un hok bare (fun b z=>absurd z (by simp)),r,q⟩
end
def qj9 (sp:Sp) (dvs:List V) (E:XK) (t:TA):TE:=fun σ H Q=>t σ H fun vs H1=>sp (vs++dvs) H1 Q E
inductive qfN (C:Addr) (m:Str) (sp:Sp) (dvs:List V) (E:XK) (t:TA) (σ:St) (Q:VK) (x:V) (H1:Hp):Prop
 | mk (a dx fs:_) (h1:x=.ref a) (h2:H1 a=some (.ins C dx fs)) (h3:fs.lookup m=none) (h4:t σ H1 fun vs H2=>sp (x::(vs++dvs)) H2 Q E):qfN C m sp dvs E t σ Q x H1
def Jl (C:Addr) (m:Str) (sp:Sp) (dvs:List V) (E:XK) (ta:TE) (t:TA):TE:=fun σ H Q=>ta σ H fun x H1=>qfN C m sp dvs E t σ Q x H1
def qj6 (C:Addr) (sp:Sp) (dvs:List V) (E:XK) (t:TA):TE:=fun σ H Q=>t σ H fun vs H1=>∀ x dx,H1 x=none->H1 dx=none->dx≠x ->
 sp (.ref x::(vs++dvs)) (upd (upd H1 dx (.own x)) x (.ins C dx [])) (fun v H2=>v=.non∧Q (.ref x) H2) E
def Binds (K:Frag) (fd:FuncData) (ps:List Str) (ds:List Value):Prop :=
 ∀ (s:Shared) (us:List Value),K.In s.heap->(us++ds).length=ps.length->BindsTo s fd ⟨us,[]⟩ (ps.zip (us++ds))
theorem Binds.all {K:Frag}{fd:FuncData}{ps:List Str} (h:∀ us:List Value,us.length=ps.length->bindArgs fd ⟨us,[]⟩=pure (ps.zip us)):Binds K fd ps []:=fun s us _ hl=>by
 rw[List.append_nil]at hl ⊢;exact .of_eq (h us hl)
def jC (CX:CXT) (X:Cx) (E:XK):Prop:=∀ (pins:List (Addr×Obj)) (σ:St) (H:Hp) (s:Shared) (e:Value) (s':Shared),Inv X pins σ H s->CX X.stack H s E e s'->X.xe e s'
section
variable {X:Cx}{CX:CXT}{k:Nat}{f C:Addr}{fd:FuncData}{ps:List Str}{sp:Sp}{dvs:List V}{ds:List Value}{E:XK}{x m:Str}{p pos apos:Pos}{e o:Expr}{es:List Expr}{ta:TE}{t:TA}
theorem qeC {pins:List (Addr×Obj)}{σ:St}{H:Hp}{s:Shared}{Q:VK}{us:List Value}{vs:List V} (F:qu X.prog X.w X.K X.mg X.base CX k f fd ps sp) (hr:Room k X.A) (hb:Binds X.K fd ps ds) (hd:Vals dvs ds) (hx:jC CX X E)
   (I:Inv X pins σ H s) (r:Vals vs us) (h:sp (vs++dvs) H Q E):wpAny (model X.prog X.w) X.A (call (.ref f) us) (EP X pins σ Q) X.xe s:=by
 have r2:Vals (vs++dvs) (us++ds):=r.append hd;have hl:(us++ds).length=ps.length:=by rw[← r2.length];exact F.len _ _ _ _ h
 refine wpAny_call (codeAny_mono (F.run X.A X.stack s H ⟨us,[]⟩ (us++ds) (vs++dvs) Q E hr I.env0 (hb s us I.kIn hl) r2 h) fun r s' hq=>?_)
 cases r with
 | error e=>exact hx pins σ H s e s' I hq
 | ok fl =>
   cases fl with
   | ret u=>exact I.after hq
   | next=>exact False.elim hq
   | brk=>exact False.elim hq
   | cont=>exact False.elim hq
theorem ql (F:qu X.prog X.w X.K X.mg X.base CX k f fd ps sp) (hr:Room k X.A) (hg:Gl X x) (hm:X.mg x=some (.ref f)) (hk:keepIn X.K (.ref f)=true) (hb:Binds X.K fd ps ds) (hd:Vals dvs ds) (hx:jC CX X E)
   (ha:PA X (e::es) t) (hdb:(x == ("__debug__":Str))=false:=by decide) (he:starEach (e::es) X.env=(false,eval e X.env)::starEach es X.env:=by rfl) (hpl:(backTo pos (starEach es X.env)).any (·.1)=false:=by rfl) :
   PE X (.Call (.Name x p) (e::es) [] pos) (qj9 sp dvs E t):=by
 intro pins s σ H Q I h;refine wpAny_Call_Name_kw (ZR I hg hm ?_ hdb);refine callWith_K (h₀:=X.base) I.ok.mod.kin hk (thn (ha pos pins s σ H _ I h) fun us s1 ⟨vs,H1,I1,r,q⟩=>⟨I1.kIn,?_⟩) he hpl;exact qeC F hr hb hd hx I1 r q
theorem q9 {pl:Sem Bool} (he:PE X o ta) (c:Cls X.K C) (hm:qij X.K C m f) (F:qu X.prog X.w X.K X.mg X.base CX k f fd ps sp) (hr:Room k X.A) (hb:Binds X.K fd ps ds) (hd:Vals dvs ds) (hx:jC CX X E) (ha:PA X (e::es) t)
   (hst:starEach (e::es) X.env=(false,eval e X.env)::starEach es X.env:=by rfl) (hpl:(backTo pos (starEach es X.env)).any (·.1)=false:=by rfl)
   (ht:eval (.Call (.Attribute o m apos) (e::es) [] pos) X.env=(do
     let ov ← eval o X.env
     standAt apos.atName
     let (f,first) ← holding [ov] (getMethod ov m pl)
     callWith pos f first (backTo pos (starEach (e::es) X.env)) (backToKw pos (keywordEach [] X.env))):=by rfl) :
   PE X (.Call (.Attribute o m apos) (e::es) [] pos) (Jl C m sp dvs E ta t):=by
 intro pins s σ H Q I h;refine PySem.W.methodCall_KW (pl:=pl) (thn (he pins s σ H _ I h) fun u s1 zz_=>?_) ht;obtain⟨x,H1,I1,rx,a,dx,fs,ex,ea,l,q⟩:=zz_;subst ex;obtain rfl:u=Value.ref a:=rx;refine qcf I1 ea c hm l ?_;refine callWith_K (first:=[.ref a]) (h₀:=X.base) I.ok.mod.kin hm.kp (thn (ha pos pins s1 σ H1 _ I1 q) fun us s2 ⟨vs,H2,I2,r,q2⟩=>⟨I2.kIn,?_⟩) hst hpl;exact qeC (us:=.ref a::us) (vs:=.ref a::vs) F hr hb hd hx I2 (.cons rfl r) q2
theorem qK {pl:Sem Bool} (he:PE X o ta) (c:Cls X.K C) (hm:qij X.K C m f) (F:qu X.prog X.w X.K X.mg X.base CX k f fd ps sp) (hr:Room k X.A) (hb:Binds X.K fd ps ds) (hd:Vals dvs ds) (hx:jC CX X E)
   (ht:eval (.Call (.Attribute o m apos) [] [] pos) X.env=(do
     let ov ← eval o X.env
     standAt apos.atName
     let (f,first) ← holding [ov] (getMethod ov m pl)
     callWith pos f first (backTo pos (starEach [] X.env)) (backToKw pos (keywordEach [] X.env))):=by rfl) :
   PE X (.Call (.Attribute o m apos) [] [] pos) (Jl C m sp dvs E ta qes):=by
 intro pins s σ H Q I h;refine PySem.W.methodCall_KW (pl:=pl) (thn (he pins s σ H _ I h) fun u s1 zz_=>?_) ht;obtain⟨x,H1,I1,rx,a,dx,fs,ex,ea,l,q⟩:=zz_;subst ex;obtain rfl:u=Value.ref a:=rx;refine qcf I1 ea c hm l ?_;exact callWith_K0 (first:=[.ref a]) I1.kIn hm.kp (qeC (us:=[.ref a]) (vs:=[.ref a]) F hr hb hd hx I1 (.cons rfl .nil) q)
structure Mk (K:Frag) (C f:Addr):Prop where
 makes:makesIn K C=true
 init:findIn K (.ref C) "__init__"=some (some (.ref f))
 fn:isFn K (.ref f)=true
 kp:keepIn K (.ref C)=true
theorem qeB {pins:List (Addr×Obj)}{σ:St}{H:Hp}{s:Shared}{Q:VK}{us:List Value}{vs:List V} (M:Mk X.K C f) (F:qu X.prog X.w X.K X.mg X.base CX k f fd ps sp) (hr:Room (k+1) X.A) (hb:Binds X.K fd ps ds) (hd:Vals dvs ds)
   (hx:jC CX X E) (I:Inv X pins σ H s) (r:Vals vs us)
   (h:∀ x dx,H x=none->H dx=none->dx≠x->sp (.ref x::(vs++dvs)) (upd (upd H dx (.own x)) x (.ins C dx [])) (fun v H2=>v=.non∧Q (.ref x) H2) E) :
   wpAny (model X.prog X.w) X.A (call (.ref C) us) (EP X pins σ Q) X.xe s:=by
 have hq:=h (s.heap.objs.size+1) s.heap.objs.size (I.hok.fresh (Nat.le_succ _)) (I.hok.fresh (Nat.le_refl _)) (Nat.ne_of_lt (Nat.lt_succ_self _));have I2:=Inv.made (C:=C) I;have r2:Vals (V.ref (s.heap.objs.size+1)::(vs++dvs)) (Value.ref (s.heap.objs.size+1)::(us++ds)):=.cons rfl (r.append hd)
 have hl:(Value.ref (s.heap.objs.size+1)::us++ds).length=ps.length:=by
   have e:=r2.length;rw[F.len _ _ _ _ hq]at e;exact e.symm
 refine wpAny_call (qhY (f:=f) I.kIn M.makes M.init (beq_iff_eq.mp M.fn) (codeAny_mono (F.run _ X.stack _ _ ⟨Value.ref (s.heap.objs.size+1)::us,[]⟩ (Value.ref (s.heap.objs.size+1)::(us++ds)) _ _ E (hr.make C us [])
   (I2.env0.make C us []) (hb _ (Value.ref (s.heap.objs.size+1)::us) I2.kIn hl) r2 hq) fun r s' hq'=>?_))
 cases r with
 | error e=>exact hx pins σ _ _ e s' I2 hq'
 | ok fl =>
   cases fl with
   | ret u =>
     obtain⟨v,H',I3,rv,ev,q3⟩:=I2.after hq';subst ev;exact⟨rv,⟨V.ref (s.heap.objs.size+1),H',I3,rfl,q3⟩⟩
   | next=>exact False.elim hq'
   | brk=>exact False.elim hq'
   | cont=>exact False.elim hq'
theorem zt (M:Mk X.K C f) (F:qu X.prog X.w X.K X.mg X.base CX k f fd ps sp) (hr:Room (k+1) X.A) (hg:Gl X x) (hm:X.mg x=some (.ref C)) (hb:Binds X.K fd ps ds) (hd:Vals dvs ds) (hx:jC CX X E)
   (ha:PA X (e::es) t) (hdb:(x == ("__debug__":Str))=false:=by decide) (he:starEach (e::es) X.env=(false,eval e X.env)::starEach es X.env:=by rfl) (hpl:(backTo pos (starEach es X.env)).any (·.1)=false:=by rfl) :
   PE X (.Call (.Name x p) (e::es) [] pos) (qj6 C sp dvs E t):=by
 intro pins s σ H Q I h;refine wpAny_Call_Name_kw (ZR I hg hm ?_ hdb);refine callWith_K (h₀:=X.base) I.ok.mod.kin M.kp (thn (ha pos pins s σ H _ I h) fun us s1 ⟨vs,H1,I1,r,q⟩=>⟨I1.kIn,?_⟩) he hpl;exact qeB M F hr hb hd hx I1 r q
theorem qhG (M:Mk X.K C f) (F:qu X.prog X.w X.K X.mg X.base CX k f fd ps sp) (hr:Room (k+1) X.A) (hg:Gl X x) (hm:X.mg x=some (.ref C)) (hb:Binds X.K fd ps ds) (hd:Vals dvs ds) (hx:jC CX X E)
   (hdb:(x == ("__debug__":Str))=false:=by decide):PE X (.Call (.Name x p) [] [] pos) (qj6 C sp dvs E qes):=by
 intro pins s σ H Q I h;refine wpAny_Call_Name_kw (ZR I hg hm ?_ hdb);exact callWith_K0 I.kIn M.kp (qeB (us:=[]) M F hr hb hd hx I .nil h)
end
section
variable {X:Cx}{CX:CXT}{k:Nat}{f C:Addr}{fd:FuncData}{ps ks:List Str}{sp:Sp}{E:XK}{x m:Str}{p pos apos kpos:Pos}{e o:Expr}{es:List Expr}{kws:List Keyword}{te ta:TE}{t tk:TA}{nm:Option Str}
variable {g:List Value->List Value->List Value}{gV:List V->List V->List V}
end
structure qo (N P:List Str) (sc:Scope):Prop where
 kind:sc.kind=.function
 co:sc.isCoroutine=false
 gen:sc.isGenerator=false
 nd:N.Nodup
 pre:N.take P.length=P
 par:∀ x∈P,sc.names.lookup x=some .local∨sc.names.lookup x=some .cell
 nofree:∀ y∈sc.names,y.2≠.free
theorem qdO {kindOf:Str->Option NameKind}{x:Str}:∀ {binds:List (Str×Value)}{m:Str->Option Value},(∀ v,(x,v)∉binds)->bindL kindOf binds m x=m x
 | [],_,_=>rfl
 | (n,v)::r,m,h=>by
   unfold bindL;rw[qdO fun w hw=>h w (List.mem_cons_of_mem _ hw)];split
   · have:x≠n:=by rintro rfl;exact h v List.mem_cons_self
     simp[this]
   · rfl
theorem qdQ {kindOf:Str->Option NameKind}{x:Str}:∀ {binds:List (Str×Value)}{m:Str->Option Value},(∀ v,(x,v)∉binds)->bindC kindOf binds m x=m x
 | [],_,_=>rfl
 | (n,v)::r,m,h=>by
   unfold bindC;rw[qdQ fun w hw=>h w (List.mem_cons_of_mem _ hw)];split
   · rfl
   · have:x≠n:=by rintro rfl;exact h v List.mem_cons_self
     simp[this]
theorem qdP {kindOf:Str->Option NameKind}{x:Str}{v:Value}:∀ {P:List Str}{vs:List Value}{i:Nat}{m:Str->Option Value},P.Nodup->P[i]?=some x->vs[i]?=some v->kindOf x=some .local ->
   bindL kindOf (P.zip vs) m x=some v
 | [],_,_,_,_,h,_,_=>by simp at h
 | _::_,[],_,_,_,_,h,_=>by simp at h
 | p::P,w::vs,0,m,nd,h1,h2,hk=>by
   simp at h1 h2;subst h1;subst h2;show bindL kindOf ((p,w)::P.zip vs) m p=_;unfold bindL;rw[qdO fun v hv=>(List.nodup_cons.mp nd).1 (List.of_mem_zip hv).1,if_pos hk];simp
 | p::P,w::vs,i+1,m,nd,h1,h2,hk=>by
   show bindL kindOf ((p,w)::P.zip vs) m x=_;unfold bindL;exact qdP (i:=i) (List.nodup_cons.mp nd).2 (by simpa using h1) (by simpa using h2) hk
theorem qdR {kindOf:Str->Option NameKind}{x:Str}{v:Value}:∀ {P:List Str}{vs:List Value}{i:Nat}{m:Str->Option Value},P.Nodup->P[i]?=some x->vs[i]?=some v->kindOf x≠some .local ->
   bindC kindOf (P.zip vs) m x=some v
 | [],_,_,_,_,h,_,_=>by simp at h
 | _::_,[],_,_,_,_,h,_=>by simp at h
 | p::P,w::vs,0,m,nd,h1,h2,hk=>by
   simp at h1 h2;subst h1;subst h2;show bindC kindOf ((p,w)::P.zip vs) m p=_;unfold bindC;rw[qdQ fun v hv=>(List.nodup_cons.mp nd).1 (List.of_mem_zip hv).1,if_neg hk];simp
 | p::P,w::vs,i+1,m,nd,h1,h2,hk=>by
   show bindC kindOf ((p,w)::P.zip vs) m x=_;unfold bindC;exact qdR (i:=i) (List.nodup_cons.mp nd).2 (by simpa using h1) (by simpa using h2) hk
def qby (N:List Str) (vs:List V):St:=vs.map some++List.replicate (N.length - vs.length) none
def zf (CX:CXT) (P:Program) (w:World) (K:Frag) (mg:Str->Option Value) (base:Heap) (N:List Str) (qual:Str) (scope:Scope) (f:Addr) (cd:Value) (A:Around) (outer:List Env) (s:Shared) (H:Hp) (E:XK):Cx where
 prog:=P
 w:=w
 K:=K
 mg:=mg
 base:=base
 A:=A.deeper (envOfC qual scope s.heap.objs.size f cd)
 N:=N
 s₀:=s
 H₀:=H
 env:=envOfC qual scope s.heap.objs.size f cd
 outer:=outer
 stack:=envOfC qual scope s.heap.objs.size f cd::outer
 ex:=[]
 calm:=true
 fn:=fun _=>true
 pn:=[]
 xe:=fun e s'=>wpAny (model P w) (A.deeper (envOfC qual scope s.heap.objs.size f cd)) (leaving (envOfC qual scope s.heap.objs.size f cd) e) (fun _ s''=>CX outer H s E e s'') (fun e' s''=>CX outer H s E e' s'') s'
theorem qeY {sc:Scope}{n:Nat}{x:Str} (h:sc.names.lookup x=some .cell):∃ c,(cellsFrom n sc.names []).lookup x=some c:=by
 have q:=PySem.W.cellsFrom_some sc.names n [] (.inl h);exact Option.isSome_iff_exists.mp q
theorem qgC {CX:CXT}{P:Program}{w:World}{K:Frag}{mg:Str->Option Value}{base:Heap}{N ps:List Str}{qual:Str}{scope:Scope}{f:Addr}{cd:Value}{A:Around}{outer:List Env}{s s1:Shared}{H:Hp}{E:XK}{us:List Value}{vs:List V}
   (S:qo N ps scope) (hd:A.handled=none) (e0:Env0 P w K mg base A outer s H) (hl:vs.length=ps.length) (r:Vals vs us)
   (x:InCallC s s.heap.objs.size (bindL (envOfC qual scope s.heap.objs.size f cd).kindOf (ps.zip us) fun _=>none) (cellsFrom (s.heap.objs.size+1) scope.names []) (bindC (envOfC qual scope s.heap.objs.size f cd).kindOf (ps.zip us) fun _=>none) s1) :
   Inv (zf CX P w K mg base N qual scope f cd A outer s H E) [] (qby N vs) H s1:=by
 have hpl:ps.length≤N.length:=by have:=congrArg List.length S.pre;rw[List.length_take]at this;omega
 obtain⟨h1,tk,rfl,hk⟩:=x.done;have noA:∀ b:Addr,b∉(zf CX P w K mg base N qual scope f cd A outer s H E).ex:=fun b z=>absurd (show b∈([]:List Addr) from z) (by simp)
 refine⟨⟨e0.mod,S.kind,rfl,rfl,Nat.le_refl _,fun y z c h1 h2=>?_,fun y hy=>?_,fun y c _ h=>?_,fun _=>hd,Around.frames_deeper e0.frames,.inr ⟨rfl,rfl⟩,fun b z=>absurd z (noA b),e0.bs,e0.bsz,fun b _ _=>noA b,fun b z=>absurd z (noA b),e0.funs,e0.frf⟩,
   rfl,e0.bare,Un.kept hk,⟨_,x.toInCall.ns,fun i y v h1 h2 h3=>?_⟩,fun y c h=>⟨_,x.cell y c h⟩,e0.hok.fresh (Nat.le_refl _),fun y c h=>?_,fun p hp=>absurd (show p∈([]:List (Addr×Obj)) from hp) (by simp),e0.hok.kept hk,?_⟩
 · exact name_of_addr x.apart (PySem.mem_of_lookup h1) (PySem.mem_of_lookup h2)
 · have hy:scope.names.lookup y=some .cell∨scope.names.lookup y=some .free:=hy;rcases hy with hy|hy
   · exact qeY hy
   · exact absurd rfl (S.nofree _ (PySem.mem_of_lookup hy))
 · exact Nat.le_of_lt (x.above y c (PySem.mem_of_lookup h))
 · have hi:i < vs.length:=by
     unfold qby at h2;by_cases hi:i < vs.length
     · exact hi
     · rw[List.getElem?_append_right (by simpa using hi)]at h2;rw[List.getElem?_replicate]at h2;split at h2<;>cases h2
   have ha:vs[i]?=some v:=by
     unfold qby at h2;rw[List.getElem?_append_left (by simpa using hi),List.getElem?_map]at h2
     cases e:vs[i]? with
     | none=>rw[e]at h2;cases h2
     | some a=>rw[e]at h2;cases h2;rfl
   obtain⟨u,hu,rv⟩:=r.get ha
   have hp:ps[i]?=some y:=by
     rw[← S.pre,List.getElem?_take_of_lt (by omega)];exact h1
   have ndP:ps.Nodup:=by rw[← S.pre];exact S.nd.sublist (List.take_sublist _ _)
   refine⟨u,rv,?_⟩;rcases S.par y (List.mem_of_getElem? hp) with k|k
   · exact .inl ⟨k,qdP ndP hp hu k⟩
   · obtain⟨c,e⟩:=qeY (n:=s.heap.objs.size+1) k;refine .inr ⟨.inl k,c,e,?_⟩;have q:=x.cell y c e;rw[qdR ndP hp hu (by show scope.names.lookup y≠_;rw[k];decide)]at q;exact q
 · exact e0.hok.fresh (Nat.le_of_lt (x.above y c (PySem.mem_of_lookup h)))
 · unfold qby;show _=N.length;rw[List.length_append,List.length_map,List.length_replicate];omega
theorem qjF {CX:CXT}{P:Program}{w:World}{K:Frag}{mg:Str->Option Value}{base:Heap}{k:Nat}{f:Addr}{name qual:Str}{params:Arguments}{body:List Stmt}{scope:Scope}{dV kV doc pm cdv ct oc:Value}{an od:Option Addr}
   {osl:Array (Option Value)}{N ps:List Str}{sp:Sp} (lk:K.lookup f=some ⟨oc,od,.func (fnOf name qual params body scope dV kV doc pm an cdv ct),osl⟩) (hcd:PySem.W.codeIn K cdv qual=true) (S:qo N ps scope)
   (len:∀ vs H Q E,sp vs H Q E->vs.length=ps.length)
   (hbody:∀ (A:Around) (outer:List Env) (s:Shared) (H:Hp) (vs:List V) (Q:VK) (E:XK),Room k (A.deeper (envOfC qual scope s.heap.objs.size f cdv))->sp vs H Q E ->
     ∃ t,PSs (zf CX P w K mg base N qual scope f cdv A outer s H E) body t∧t { nx:=fun _ H'=>Q .non H',rt:=Q } (qby N vs) H) :
   qu P w K mg base CX (k+1) f (fnOf name qual params body scope dV kV doc pm an cdv ct) ps sp:=by
 refine⟨len,fun A outer s H args us vs Q E hr e0 hb r hsp=>?_⟩;have hl:=len _ _ _ _ hsp;have KX:K.In s.heap:=e0.mod.kin.keeps fun b o e=>(e0.bs b o e).1;have lim:s.heap.NoLimit:=e0.mod.nolimit.keeps fun b o e=>(e0.bs b o e).1
 have hkind:∀ y∈ps.zip us,scope.names.lookup y.1=some .local∨(scope.names.lookup y.1=some .cell∧((cellsFrom (s.heap.objs.size+1) scope.names []).lookup y.1).isSome=true):=fun⟨n,v⟩ hy=>by
   rcases S.par n (List.of_mem_zip hy).1 with q|q
   · exact .inl q
   · exact .inr ⟨q,PySem.W.cellsFrom_some _ _ _ (.inl q)⟩
 refine codeAny_call_function hr.depth (KX _ _ lk) rfl S.co S.gen rfl (PySem.W.codeRec_of KX hcd) (hb _ _ _ _ ?_);refine wpAny_newFunctionEnv_cells S.kind hkind fun env he s1 x=>?_;subst he;refine⟨lim.keeps x.toInCall.keep,codeAny_func ?_⟩;obtain⟨t,ht,hq⟩:=hbody A outer s H vs Q E (hr.deeper _) hsp;have I:Inv (zf CX P w K mg base N qual scope f cdv A outer s H E) [] (qby N vs) H s1:=qgC S hr.hd e0 hl r x;refine wpAny_mono (ht [] s1 (qby N vs) H _ I hq) (fun fl s' hs=>?_) fun e s' hs=>hs
 have fin:∀ {σ':St}{H':Hp}{v:V}{u:Value},Inv (zf CX P w K mg base N qual scope f cdv A outer s H E) [] σ' H' s'->RelV v u->Q v H'->CE outer P w H s Q u s' :=
   fun {σ' H' v u} J rv q=>⟨v,H',J.os,J.bare,J.base,J.hok,rv,q⟩
 cases fl with
 | ret u =>
   obtain⟨v,σ',H',J,rv,q⟩:=hs;exact fin J rv q
 | next =>
   obtain⟨σ',H',J,q⟩:=hs;exact fin (v:=V.non) (u:=Value.none) J rfl q
 | brk =>
   obtain⟨_,_,_,q⟩:=hs;exact False.elim q
 | cont =>
   obtain⟨_,_,_,q⟩:=hs;exact False.elim q
section
variable {X:Cx}{x:Str}{p pos:Pos}{e:Expr}{es:List Expr}{t:TA}{id T:String}{r:List V->Hp->VK->Prop}
def tCB (r:List V->Hp->VK->Prop) (t:TA):TE:=fun σ H Q=>t σ H fun vs H1=>r vs H1 Q
theorem qp (hc:Zg X (.builtin id) r) (hg:Gl X x) (hm:X.mg x=none) (hv:bootBuiltins x=some (.builtin id)) (ha:PA X (e::es) t) (hn:x≠"__name__":=by decide) (hdb:(x == ("__debug__":Str))=false:=by decide)
   (he:starEach (e::es) X.env=(false,eval e X.env)::starEach es X.env:=by rfl) (hpl:(backTo pos (starEach es X.env)).any (·.1)=false:=by rfl):PE X (.Call (.Name x p) (e::es) [] pos) (tCB r t):=by
 intro pins s σ H Q I h;refine wpAny_Call_Name_kw (qbi I hg hm hv ?_ hn hdb);exact PyProof.Rows.callWith_builtin1 (thn (ha pos pins s σ H _ I h) fun us s1 ⟨vs,H1,I1,r1,q1⟩=>hc pins s1 σ H1 vs us Q I1 r1 q1) he hpl
theorem ZI (hc:Zg X (.type T) r) (hg:Gl X x) (hm:X.mg x=none) (hv:bootBuiltins x=some (.type T)) (ha:PA X (e::es) t) (hn:x≠"__name__":=by decide) (hdb:(x == ("__debug__":Str))=false:=by decide)
   (he:starEach (e::es) X.env=(false,eval e X.env)::starEach es X.env:=by rfl) (hpl:(backTo pos (starEach es X.env)).any (·.1)=false:=by rfl):PE X (.Call (.Name x p) (e::es) [] pos) (tCB r t):=by
 intro pins s σ H Q I h;refine wpAny_Call_Name_kw (qbi I hg hm hv ?_ hn hdb);exact PyProof.Rows.callWith_type1 (thn (ha pos pins s σ H _ I h) fun us s1 ⟨vs,H1,I1,r1,q1⟩=>hc pins s1 σ H1 vs us Q I1 r1 q1) he hpl
end
end L2
namespace HT
open PySem PyProof.Rows
section
open PySem.SeqAt
open PySem.AutoSeq1 (wpAny_loadPart')
open PySem.MeetsSeq PySem.MeetsSeq2 PySem.MeetsSeq3
end
section
variable {prog:Program}{w:World}{A:Around}{E:Value->Shared->Prop}{s:Shared}
theorem cat_tup {t b:Addr}{vs ws:List Value}{Q:Value->Shared->Prop} (ht:IsTup s.heap t vs.toArray) (hb:IsTup s.heap b ws.toArray) (hv:vs≠[])
   (h1:ws=[]->Q (.ref t) s) (h2:ws≠[]->Q (.ref s.heap.objs.size) { s with heap:=s.heap.push { cls:=.type "tuple",data:=.seq (vs++ws).toArray } })
   (hsz:vs.length+ws.length≤sizeLine):wpAny (model prog w) A (binaryOp .Add (.ref t) (.ref b)) Q E s:=by
 obtain⟨⟨cls,dd,data,sl⟩,ho,hc,n,hd⟩:=id ht;obtain⟨⟨cls2,dd2,data2,sl2⟩,ho2,hc2,n2,hd2⟩:=id hb;simp only at hc hd hc2 hd2;subst hc hd hc2 hd2;have e:vs.toArray++ws.toArray=(vs++ws).toArray:=by simp
 by_cases hw:ws=[]
 · exact concat_meets ⟨_,ho,rfl⟩ ⟨_,ho2,rfl⟩ noFill_tuple_add seq_tuple_add PySem.F.slot_tuple_add PySem.F.entry_tuple_add (PySem.F.args_tuple_add_2 _ _)
     (tuple_addW1 t b vs.toArray ws.toArray n n2 dd dd2 sl sl2 (by simpa using hv) (by simp[hw])) ⟨ho,ho2,h1 hw⟩
 · refine concat_meets ⟨_,ho,rfl⟩ ⟨_,ho2,rfl⟩ noFill_tuple_add seq_tuple_add PySem.F.slot_tuple_add PySem.F.entry_tuple_add (PySem.F.args_tuple_add_2 _ _)
     (tuple_addW2 t b vs.toArray ws.toArray n n2 dd dd2 sl sl2 (by simpa using hv) (by simpa using hw) (by rw[List.size_toArray,List.size_toArray];exact hsz)) ⟨ho,ho2,?_⟩
   rw[e];exact h2 hw
def sIx (n d:Nat):Option Int->Nat
 | none=>d
 | some v=>if v < 0 then (v+(n:Int)).toNat else min v.toNat n
theorem sIx_none (n d:Nat):sIx n d none=d:=rfl
theorem sIx_nat (n d k:Nat):sIx n d (some (k:Int))=min k n:=by
 show (if (k:Int) < 0 then ((k:Int)+(n:Int)).toNat else min (k:Int).toNat n)=min k n;rw[if_neg (by omega),Int.toNat_natCast]
theorem qke (n d:Nat) (hd:d≤n) (o:Option Int):sIx n d o≤n:=by
 cases o with
 | none=>exact hd
 | some v =>
   show (if v < 0 then (v+(n:Int)).toNat else min v.toNat n)≤n;by_cases hv:v < 0
   · rw[if_pos hv];omega
   · rw[if_neg hv];exact Nat.min_le_right _ _
theorem qgV (v:Int) (n d:Nat):(if v < 0 then max (v+(n:Int)) 0 else min v (n:Int))=((sIx n d (some v):Nat):Int):=by
 show (if v < 0 then max (v+(n:Int)) 0 else min v (n:Int))=(((if v < 0 then (v+(n:Int)).toNat else min v.toNat n):Nat):Int);by_cases hv:v < 0
 · simp only[if_pos hv];omega
 · simp only[if_neg hv];omega
theorem qfn (lo hi:Option Int) (n:Nat):Builtin.Slice.sliceAdjust lo hi 1 (n:Int)=(((sIx n 0 lo:Nat):Int),((sIx n n hi:Nat):Int)):=by
 have h1:¬ ((1:Int) < 0):=by omega
 unfold Builtin.Slice.sliceAdjust;simp only[h1,if_false];refine Prod.ext ?_ ?_
 · cases lo with
   | none=>rfl
   | some v=>exact qgV v n 0
 · cases hi with
   | none=>rfl
   | some v=>exact qgV v n n
theorem qe5 (i j:Nat):Builtin.Slice.slicePlaces (i:Int) (j:Int) 1=j - i:=by
 unfold Builtin.Slice.slicePlaces;have h1:(1:Int) > 0:=by omega
 simp only[h1,if_true,Int.ediv_one];split<;>omega
theorem qbY {v:Value}{o:Option Int}{Q:Option Int->Shared->Prop} (p:IsPart v o) (h:Q o s):wpAny (model prog w) A (Builtin.Slice.slicePartIndex v) Q E s:=by
 cases p with
 | none=>exact slicePart_none h
 | int i t=>exact slicePart_int h
theorem qac {sl:Addr}{vl vu:Value}{lo hi:Option Int}{n:Nat}{Q:Int×Int×Nat->Shared->Prop} (hs:s.heap.IsSliceOf sl vl vu .none) (pl:IsPart vl lo) (pu:IsPart vu hi)
   (h:Q (((sIx n 0 lo:Nat):Int),1,sIx n n hi - sIx n 0 lo) s):wpAny (model prog w) A (Builtin.Slice.sliceApplied (.ref sl) (pure (n:Int))) Q E s:=by
 obtain⟨os,hos,hcs,hds⟩:=id hs;unfold Builtin.Slice.sliceApplied Builtin.Slice.sliceFields;refine wpAny_bind (wpAny_bind (wpAny_field hos hds (x:=vl) rfl (wpAny_bind (wpAny_field hos hds (x:=vu) rfl (wpAny_bind (wpAny_field hos hds (x:=.none) rfl (wpAny_pure ?_)))))));refine wpAny_bind (slicePart_none ?_);show wpAny _ _ (if ((1:Int) == 0)=true then _ else _) _ _ s;rw[if_neg (by decide)];refine wpAny_bind (qbY pl (wpAny_bind (qbY pu (wpAny_bind (wpAny_pure ?_)))));show wpAny _ _ (match Builtin.Slice.sliceAdjust lo hi 1 (n:Int) with|(lo,hi)=>pure (lo,(1:Int),Builtin.Slice.slicePlaces lo hi 1)) _ _ s;rw[qfn lo hi n];show wpAny _ _ (pure (((sIx n 0 lo:Nat):Int),(1:Int),Builtin.Slice.slicePlaces ((sIx n 0 lo:Nat):Int) ((sIx n n hi:Nat):Int) 1)) _ _ s;rw[qe5];exact wpAny_pure h
theorem qhC (xs:Array Value) (i k:Nat):((List.range k).filterMap fun (m:Nat)=>xs[((i:Int)+(m:Int) * 1).toNat]?).toArray=((xs.toList.drop i).take k).toArray:=by
 have e:(fun (m:Nat)=>xs[((i:Int)+(m:Int) * 1).toNat]?)=fun m=>xs[i+m]?:=by
   funext m
   have:((i:Int)+(m:Int) * 1).toNat=i+m:=by omega
   rw[this]
 rw[e]
 have:=pick_run xs i k
 rw[List.filterMap_map]at this;have e2:((fun x=>xs[x]?) ∘ fun x=>i+x)=fun m=>xs[i+m]?:=rfl;rw[e2]at this;rw[this]
theorem getItem_tuple_cut {t sl:Addr}{items:Array Value}{vl vu:Value}{lo hi:Option Int}{Q:Value->Shared->Prop} (ht:IsTup s.heap t items) (hs:s.heap.IsSliceOf sl vl vu .none) (pl:IsPart vl lo) (pu:IsPart vu hi)
   (hw:¬ (sIx items.size 0 lo=0∧sIx items.size items.size hi=items.size))
   (h:Q (.ref s.heap.objs.size) { s with heap:=s.heap.push { cls:=.type "tuple",data:=.seq ((items.toList.drop (sIx items.size 0 lo)).take (sIx items.size items.size hi - sIx items.size 0 lo)).toArray } })
   (hsz:items.size≤sizeLine):wpAny (model prog w) A (getItem (.ref t) (.ref sl)) Q E s:=by
 have htake:sizeOk (.seq ((items.toList.drop (sIx items.size 0 lo)).take (sIx items.size items.size hi - sIx items.size 0 lo)).toArray):=by
   show ((items.toList.drop (sIx items.size 0 lo)).take (sIx items.size items.size hi - sIx items.size 0 lo)).toArray.size≤sizeLine;rw[List.size_toArray,List.length_take,List.length_drop,Array.length_toList];omega
 have hj:sIx items.size items.size hi≤items.size:=qke _ _ (Nat.le_refl _) hi;obtain⟨os,hos,hcs,hds⟩:=id hs;have hTs:s.TypeIs (.ref sl) "slice":=⟨os,hos,hcs⟩
 unfold getItem;(try with_reducible refine wpAny_holding ?_)
 first|refine wpAny_bind (wpAny_pure ?_)|skip
 refine wpAny_bind (wpAny_sequenceKey ht.typeIs (by decide) ?_)
 refine wpAny_bind (wpAny_callSpecial?_slot (name:=Str.ofString "__getitem__") ht.typeIs PyProof.Rows.slot_tuple_getitem
   (wpAny_call_entry PyProof.Rows.slot_tuple_getitem ht.typeIs entry_tuple_getitem ?_ (args_tuple_getitem _ _)))
 show wpAny _ _ (Builtin.Tuple.tupleItemsOf (.ref t) >>= _) _ _ s;refine wpAny_bind (tupleItemsOf_ ht ?_);refine wpAny_bind (wpAny_typeOf hTs ?_);rw[if_pos (by decide)];refine wpAny_bind (qac hs pl pu ?_)
 have hno:¬ ((((sIx items.size 0 lo:Nat):Int) == 0 && (1:Int) == 1 && (sIx items.size items.size hi - sIx items.size 0 lo) == items.size)=true):=by
   intro q;rw[Bool.and_eq_true,Bool.and_eq_true]at q;have q1:((sIx items.size 0 lo:Nat):Int)=0:=eq_of_beq q.1.1;have q2:sIx items.size items.size hi - sIx items.size 0 lo=items.size:=eq_of_beq q.2;exact hw ⟨by omega,by omega⟩
 show wpAny _ _ (if (((sIx items.size 0 lo:Nat):Int) == 0 && (1:Int) == 1 && (sIx items.size items.size hi - sIx items.size 0 lo) == items.size)=true then _ else _) _ _ s;rw[if_neg hno,qhC]
 first
   | exact wpAny_bind (m:=Builtin.Tuple.tupleExact _) (wpAny_newObj_type (wpAny_pure ⟨_,rfl,wpAny_pure h⟩) htake)
   | exact wpAny_bind (m:=Builtin.Tuple.tupleExact _) (wpAny_newObj_type (wpAny_bind (wpAny_pure (wpAny_pure ⟨_,rfl,wpAny_pure h⟩))) htake)
   | exact wpAny_bind (wpAny_bind (m:=Builtin.Tuple.tupleExact _) (wpAny_newObj_type (wpAny_pure (wpAny_pure ⟨_,rfl,wpAny_pure h⟩)) htake))
   | exact wpAny_bind (wpAny_bind (m:=Builtin.Tuple.tupleExact _) (wpAny_newObj_type (wpAny_pure ⟨_,rfl,wpAny_pure h⟩) htake))
end
end HT
namespace L2
open PySem PySem.Spec PyProof.Rows
open PySem.W (Frag)
abbrev TO:=St->Hp->(Option Int->Hp->Prop)->Prop
def PO (X:Cx) (e:Option Expr) (t:TO):Prop :=
 ∀ (pins:List (Addr×Obj)) (s:Shared) (σ:St) (H:Hp) (Q:Option Int->Hp->Prop),Inv X pins σ H s->t σ H Q ->
   wpAny (model X.prog X.w) X.A (evalPart e X.env) (fun u s'=>∃ o H',Inv X pins σ H' s'∧IsPart u o∧Q o H') X.xe s
def qi1:TO:=fun _ H Q=>Q none H
inductive qfL (Q:(Option Int->Hp->Prop)) (x:V) (H1:Hp):Prop
 | mk (i:_) (h1:x=.int i) (h2:Q (some i) H1):qfL Q x H1
def qld (t:TE):TO:=fun σ H Q=>t σ H fun x H1=>qfL Q x H1
section
variable {X:Cx}{e:Expr}{te:TE}{lo hi:Option Expr}{tl th:TO}{pos p2:Pos}
theorem QX:PO X none qi1:=by
 intro pins s σ H Q I h;rw[evalPart_none];exact wpAny_pure ⟨none,H,I,.none,h⟩
theorem Qf (h:PE X e te):PO X (some e) (qld te):=by
 intro pins s σ H Q I hw;rw[evalPart_some];refine thn (h pins s σ H _ I hw) fun u s1 zz_=>?_;obtain⟨x,H1,I1,r1,q1⟩:=zz_;obtain⟨i,rfl,q⟩:=q1;obtain⟨t,rfl⟩:=r1;exact⟨some i,H1,I1,.int i t,q⟩
def SlR (X:Cx) (r:V->Option Int->Option Int->Hp->VK->Prop):Prop :=
 ∀ (pins:List (Addr×Obj)) (s:Shared) (σ:St) (H:Hp) (x:V) (v vl vu:Value) (lo hi:Option Int) (sl:Addr) (Q:VK),Inv X pins σ H s->RelV x v->s.heap.IsSliceOf sl vl vu .none->IsPart vl lo->IsPart vu hi->r x lo hi H Q ->
   ∃ T id,typeLookup (.type T) "__getitem__"=pure (some (.builtin id))∧s.TypeIs v T∧wpAny (model X.prog X.w) X.A (getItem v (.ref sl)) (EP X pins σ Q) X.xe s
theorem SlR.or {r r':V->Option Int->Option Int->Hp->VK->Prop} (h:SlR X r) (h':SlR X r'):SlR X (fun x lo hi H Q=>r x lo hi H Q∨r' x lo hi H Q):=by
 intro pins s σ H x v vl vu lo hi sl Q I rx hs pl pu q;rcases q with q|q
 · exact h pins s σ H x v vl vu lo hi sl Q I rx hs pl pu q
 · exact h' pins s σ H x v vl vu lo hi sl Q I rx hs pl pu q
def tSl (r:V->Option Int->Option Int->Hp->VK->Prop) (te:TE) (tl th:TO):TE:=fun σ H Q=>te σ H fun x H1=>tl σ H1 fun l H2=>th σ H2 fun u H3=>r x l u H3 Q
theorem zK {r:V->Option Int->Option Int->Hp->VK->Prop} (hr:SlR X r) (he:PE X e te) (hl:PO X lo tl) (hu:PO X hi th):PE X (.Subscript e (.Slice lo hi none p2) pos) (tSl r te tl th):=by
 intro pins s σ H Q I h;refine Subscript_ (thn (he pins s σ H _ I h) fun v s1 zz_=>?_);obtain⟨x,H1,I1,r1,q1⟩:=zz_;refine wpAny_Slice (thn (hl pins s1 σ H1 _ I1 q1) fun vl s2 ⟨l,H2,I2,pl,q2⟩=>thn (hu pins s2 σ H2 _ I2 q2) fun vu s3 zz_=>?_);obtain⟨u,H3,I3,pu,q3⟩:=zz_;rw[evalPart_none];refine wpAny_pure ?_;have I4:Inv X pins σ H3 { s3 with heap:=s3.heap.push { cls:=.type "slice",data:=.fields #[vl,vu,.none] } }:=I3.kept (t':=s3.toks) fun b ob q=>Heap.get?_push_of_some _ q;obtain⟨T,id,hT,ht,hg⟩:=hr pins { s3 with heap:=s3.heap.push { cls:=.type "slice",data:=.fields #[vl,vu,.none] } } σ H3 x v vl vu l u s3.heap.objs.size Q I4 r1 (Heap.IsSliceOf.new ..) pl pu q3;show wpAny (model X.prog X.w) X.A (subscriptTail e (.Slice lo hi none p2) v (.ref s3.heap.objs.size)) (EP X pins σ Q) X.xe { s3 with heap:=s3.heap.push { cls:=.type "slice",data:=.fields #[vl,vu,.none] } };exact tail_any (ops:=[.ref s3.heap.objs.size,v]) ht hT hg (by with_unfolding_all rfl)
def qiM (xs:List V) (lo hi:Option Int):List V:=(xs.drop (HT.sIx xs.length 0 lo)).take (HT.sIx xs.length xs.length hi - HT.sIx xs.length 0 lo)
theorem qbr (xs:List V) (lo hi:Option Int):(qiM xs lo hi).length≤xs.length:=by
 unfold qiM;refine Nat.le_trans (List.length_take_le' _ _) ?_;rw[List.length_drop];exact Nat.sub_le _ _
def qmi (K:Frag):V->Option Int->Option Int->Hp->VK->Prop:=fun x lo hi H Q=>∃ a xs,x=.ref a∧SqT K H a xs ∧
 ¬ (HT.sIx xs.length 0 lo=0∧HT.sIx xs.length xs.length hi=xs.length)∧∀ p,H p=none->Q (.ref p) (upd H p (.tup (qiM xs lo hi)))
theorem qka:SlR X (qmi X.K):=by
 intro pins s σ H x v vl vu lo hi sl Q I rx hs pl pu h;obtain⟨a,xs,rfl,hx,hw,q⟩:=h;cases rx;obtain⟨its,r,ht,hz⟩:=I.tuple hx;have hlen:its.toArray.size=xs.length:=by rw[List.size_toArray];exact r.length.symm
 refine⟨"tuple",_,PyProof.Rows.slot_tuple_getitem.lookup,ht.typeIs,?_⟩;refine HT.getItem_tuple_cut ht hs pl pu (by rw[hlen];exact hw) ?_ (by rw[hlen];exact hz);rw[hlen];refine⟨.ref s.heap.objs.size,_,I.laid (t':=s.toks) (o:=.tup (qiM xs lo hi)) (fun b ob q=>Heap.get?_push_of_some _ q) (Nat.le_refl _) ?_,rfl,q _ (I.hok.fresh (Nat.le_refl _))⟩;exact⟨Nat.le_trans (qbr xs lo hi) hz,_,(r.drop (HT.sIx xs.length 0 lo)).take (HT.sIx xs.length xs.length hi - HT.sIx xs.length 0 lo),IsTup.new _ _⟩
def qlu (K:Frag):R2:=fun x y H Q=>∃ a b xs ys,x=.ref a∧y=.ref b∧SqT K H a xs∧SqT K H b ys∧xs≠[]∧xs.length+ys.length≤sizeLine ∧
 (ys=[]->Q (.ref a) H)∧(ys≠[]->∀ p,H p=none->Q (.ref p) (upd H p (.tup (xs++ys))))
theorem Vals.nil_iff {xs:List V}{us:List Value} (r:Vals xs us):us=[]↔xs=[]:=by
 cases r with
 | nil=>simp
 | cons _ _=>simp
theorem qjo:OpR X (binaryOp .Add) (qlu X.K):=by
 intro pins s σ H x y v u Q I rx ry h;obtain⟨a,b,xs,ys,rfl,rfl,ha,hb,hx,hz,q1,q2⟩:=h;cases rx;cases ry;obtain⟨its,r1,p1,_⟩:=I.tuple ha;obtain⟨its2,r2,p2,_⟩:=I.tuple hb;refine HT.cat_tup p1 p2 (fun z=>hx (r1.nil_iff.mp z)) (fun z=>⟨.ref a,H,I,rfl,q1 (r2.nil_iff.mp z)⟩) (fun z=>?_) (by rw[← r1.length,← r2.length];exact hz);refine⟨.ref s.heap.objs.size,_,I.laid (t':=s.toks) (o:=.tup (xs++ys)) (fun b ob q=>Heap.get?_push_of_some _ q) (Nat.le_refl _) ?_,rfl,q2 (fun w=>z (r2.nil_iff.mpr w)) _ (I.hok.fresh (Nat.le_refl _))⟩;exact⟨by rw[List.length_append];exact hz,_,r1.append r2,IsTup.new _ _⟩
end
def ixN (n:Nat) (i:Int):Option Nat:=if 0≤i then (if i < n then some i.toNat else none) else if -(n:Int)≤i then some (i+n).toNat else none
def atI {α:Type} (xs:List α) (i:Int):Option α:=(ixN xs.length i).bind fun j=>xs[j]?
theorem qec {n:Nat}{i:Int}{j:Nat} (h:ixN n i=some j):seqIndex? i n=some j∧j < n∧-(n:Int)≤i∧i < n:=by
 unfold ixN at h;by_cases h0:0≤i
 · rw[if_pos h0]at h;by_cases h1:i < n
   · rw[if_pos h1]at h;have e:i.toNat=j:=Option.some.inj h;exact⟨by rw[seqIndex_of h0 h1,e],by omega,by omega,h1⟩
   · rw[if_neg h1]at h;cases h
 · rw[if_neg h0]at h;by_cases h1:-(n:Int)≤i
   · rw[if_pos h1]at h;have e:(i+n).toNat=j:=Option.some.inj h;exact⟨by rw[seqIndex_neg (by omega) h1,e],by omega,h1,by omega⟩
   · rw[if_neg h1]at h;cases h
theorem qeg {α:Type}{xs:List α}{i:Int}{v:α} (h:atI xs i=some v):∃ j,seqIndex? i xs.length=some j∧xs[j]?=some v∧j < xs.length∧-(xs.length:Int)≤i∧i < xs.length:=by
 unfold atI at h
 cases e:ixN xs.length i with
 | none=>rw[e]at h;cases h
 | some j =>
   rw[e]at h;obtain⟨h1,h2,h3,h4⟩:=qec e;exact⟨j,h1,h,h2,h3,h4⟩
theorem QB {α:Type}{xs:List α}{j:Nat}{v:α} (h:xs[j]?=some v):atI xs (j:Int)=some v:=by
 have hj:j < xs.length:=(List.getElem?_eq_some_iff.mp h).1
 have e:ixN xs.length (j:Int)=some j:=by
   unfold ixN;rw[if_pos (by omega),if_pos (by omega)];simp
 unfold atI;rw[e];exact h
theorem atI_last {α:Type} (xs:List α) (v:α):atI (xs++[v]) (-1)=some v:=by
 have hl:(xs++[v]).length=xs.length+1:=by simp
 have e:ixN (xs++[v]).length (-1)=some xs.length:=by
   unfold ixN;rw[hl,if_neg (by decide),if_pos (by omega)];congr 1;omega
 unfold atI;rw[e];show (xs++[v])[xs.length]?=some v;simp
def qjL (b:Expr):Prop:=∀ o i,subscripted b false o i=operate [o,i] (getItem o i)
def IxR (X:Cx) (r:R2):Prop :=
 ∀ (value slice:Expr) (pins:List (Addr×Obj)) (s:Shared) (σ:St) (H:Hp) (x y:V) (v u:Value) (Q:VK),Inv X pins σ H s->RelV x v->RelV y u->r x y H Q ->
   subscripted slice false v u=operate [v,u] (getItem v u)->wpAny (model X.prog X.w) X.A (subscriptTail value slice v u) (EP X pins σ Q) X.xe s
def MtR (X:Cx) (id:String) (r:V->List V->Hp->VK->Prop):Prop :=
 ∀ (pins:List (Addr×Obj)) (s:Shared) (σ:St) (H:Hp) (x:V) (xs:List V) (v:Value) (us:List Value) (Q:VK),Inv X pins σ H s->RelV x v->Vals xs us->r x xs H Q ->
   wpAny (model X.prog X.w) X.A (call (.builtin id) (v::us)) (EP X pins σ Q) X.xe s
section
variable {X:Cx}{a b:Expr}{ta tb:TE}{pos:Pos}
theorem IxR.or {r r':R2} (h:IxR X r) (h':IxR X r'):IxR X (fun x y H Q=>r x y H Q∨r' x y H Q):=by
 intro value slice pins s σ H x y v u Q I rx ry q hs;rcases q with q|q
 · exact h value slice pins s σ H x y v u Q I rx ry q hs
 · exact h' value slice pins s σ H x y v u Q I rx ry q hs
theorem qD {r:R2} (hr:IxR X r) (ha:PE X a ta) (hb:PE X b tb) (hs:qjL b):PE X (.Subscript a b pos) (tOp r ta tb):=by
 intro pins s σ H Q I h;exact Subscript_ (qlH ha hb I h fun v u s2 x y H2 I2 rx ry q=>hr a b pins s2 σ H2 x y v u Q I2 rx ry q (hs _ _))
inductive qix (K:Frag) (x:V) (y:V) (H:Hp) (Q:VK):Prop
 | mk (p xs i v:_) (h1:x=.ref p) (h2:y=.int i) (h3:SqL K H p xs) (h4:atI xs i=some v) (h5:Q v H):qix K x y H Q
def qlW (K:Frag):R2:=fun x y H Q=>qix K x y H Q
inductive qiw (K:Frag) (x:V) (y:V) (H:Hp) (Q:VK):Prop
 | mk (p xs i v:_) (h1:x=.ref p) (h2:y=.int i) (h3:SqT K H p xs) (h4:atI xs i=some v) (h5:Q v H):qiw K x y H Q
def qlU (K:Frag):R2:=fun x y H Q=>qiw K x y H Q
def qlV:R2:=fun x y H Q=>∃ z i c,x=.str z∧y=.int i∧z.length≤sizeLine∧atI z.cps.toList i=some c∧Q (.str ⟨#[c]⟩) H
theorem ix_list:IxR X (qlW X.K):=by
 intro value slice pins s σ H x y v u Q I rx ry h hs;obtain⟨p,xs,i,z,rfl,rfl,hq,he,q⟩:=h;cases rx;obtain⟨t,rfl⟩:=ry;obtain⟨its,r,pl,hz⟩:=I.list hq;obtain⟨j,h1,h2,h3,h4,h5⟩:=qeg he;obtain⟨w,ew,rw'⟩:=r.get h2;have hl:=r.length;have hn:=qcd;have fin:EP X pins σ Q w s:=⟨z,H,I,rw',q⟩
 by_cases h0:0≤i
 · have hj:i.toNat=j:=by
     rw[seqIndex_of h0 h5]at h1;exact Option.some.inj h1
   exact item_listR pl.isList h0 (by omega) (by rw[hj];simpa using ew) fin hs
 · have hj:(i+(its.toArray.size:Int)).toNat=j:=by
     rw[seqIndex_neg (by omega) h4]at h1;rw[List.size_toArray,← hl];exact Option.some.inj h1
   exact subscriptTail_builtinR (x:=w) pl.isList.typeIs slot_list_getitem.lookup
     (wpAny_getItem_list_neg (Q:=fun r s'=>r=w∧EP X pins σ Q r s') pl.isList (by omega) (by rw[List.size_toArray]<;>omega) (by omega) (by rw[hj];simpa using ew) ⟨rfl,fin⟩) hs
theorem ix_tup:IxR X (qlU X.K):=by
 intro value slice pins s σ H x y v u Q I rx ry h hs;obtain⟨p,xs,i,z,rfl,rfl,hq,he,q⟩:=h;cases rx;obtain⟨t,rfl⟩:=ry;obtain⟨its,r,pl,hz⟩:=I.tuple hq;obtain⟨j,h1,h2,h3,h4,h5⟩:=qeg he;obtain⟨w,ew,rw'⟩:=r.get h2;have hl:=r.length;have hn:=qcd;have fin:EP X pins σ Q w s:=⟨z,H,I,rw',q⟩
 exact subscriptTail_builtinR (x:=w) pl.typeIs slot_tuple_getitem.lookup
   (getItem_tuple (j:=j) (Q:=fun r s'=>r=w∧EP X pins σ Q r s') pl (by omega) (by omega) (by rw[List.size_toArray,← hl];exact h1) (by simpa using ew) ⟨rfl,fin⟩) hs
theorem qkN:IxR X qlV:=by
 intro value slice pins s σ H x y v u Q I rx ry h hs;obtain⟨z,i,c,rfl,rfl,hz,he,q⟩:=h;obtain⟨t,rfl⟩:=rx;obtain⟨t',rfl⟩:=ry;obtain⟨j,h1,h2,h3,h4,h5⟩:=qeg he;have hl:z.cps.toList.length=z.length:=by simp[Str.length]
 rw[hl]at h1 h4 h5;have hn:=qcd
 exact tail_any (typeIs_str s z t) slot_str_getitem.lookup (getItem_str (c:=c) (by
   have e1:decide (i < -(2 ^ 63:Int))=false:=decide_eq_false (by omega);have e2:decide (i ≥ 2 ^ 63)=false:=decide_eq_false (by omega)
   rw[e1,e2,Bool.or_false]) (by rw[h1];simpa using h2) ⟨.str ⟨#[c]⟩,H,I.tok _,⟨_,rfl⟩,q⟩) hs
def rIx (K:Frag):R2:=fun x y H Q=>qlW K x y H Q∨qlU K x y H Q∨qlV x y H Q
theorem qr:IxR X (rIx X.K):=ix_list.or (ix_tup.or qkN)
theorem qe9 (its:List Value) (n j:Nat) (u:Value):Obj.mapSeq (·.setIfInBounds j u) { cls:=.type "list",data:=.seq its.toArray n }={ cls:=.type "list",data:=.seq (its.set j u).toArray n }:=by
 simp[Obj.mapSeq]
theorem Inv.lst {pins:List (Addr×Obj)}{σ:St}{H:Hp}{s:Shared}{p:Addr}{xs:List V} (I:Inv X pins σ H s) (h:H p=some (.lst xs)) :
   ∃ (its:List Value) (n:Nat),Vals xs its∧s.heap.get? p=some { cls:=.type "list",data:=.seq its.toArray n }∧xs.length≤sizeLine:=by
 obtain⟨z,its,n,r,e⟩:=I.hok p _ h;exact⟨its,n,r,e,z⟩
theorem Inv.lstUpd {pins:List (Addr×Obj)}{σ:St}{H:Hp}{s:Shared}{p:Addr}{xs ys:List V}{its its':List Value}{n n':Nat}{f:Obj->Obj} (I:Inv X pins σ H s) (h:H p=some (.lst xs))
   (ho:s.heap.get? p=some { cls:=.type "list",data:=.seq its.toArray n }) (hf:f { cls:=.type "list",data:=.seq its.toArray n }={ cls:=.type "list",data:=.seq its'.toArray n' }) (r:Vals ys its') (hz:ys.length≤sizeLine) (t:Nat) :
   Inv X pins σ (upd H p (.lst ys)) { s with heap:=s.heap.update p f,toks:=t }:=by
 have e:(s.heap.update p f).get? p=some { cls:=.type "list",data:=.seq its'.toArray n' }:=by
   rw[Heap.get?_update_self f ho (by rw[hf]<;>rfl),hf]
 refine I.write (x:=p) (e:=p) (by rw[h];trivial) (.inl rfl) (fun b u hb q=>(Heap.get?_update_other _ _ (Ne.symm hb)).trans q) ⟨_,e⟩ ?_;exact⟨hz,its',n',r,e⟩
inductive qf3 (o:V) (i:V) (v:V) (H:Hp) (Q:(Hp->Prop)):Prop
 | mk (p xs k j:_) (h1:o=.ref p) (h2:i=.int k) (h3:H p=some (.lst xs)) (h4:ixN xs.length k=some j) (h5:Q (upd H p (.lst (xs.set j v)))):qf3 o i v H Q
def qlp:V->V->V->Hp->(Hp->Prop)->Prop:=fun o i v H Q=>qf3 o i v H Q
theorem qaq:ql2 X qlp:=by
 intro pins s σ H o i v ov iv u Q I ro ri rv h;obtain⟨p,xs,k,j,rfl,rfl,hp,hj,q⟩:=h;cases ro;obtain⟨t,rfl⟩:=ri;obtain⟨its,n,r,ho,hz⟩:=I.lst hp;obtain⟨h1,h2,h3,h4⟩:=qec hj;have hl:=r.length;have hn:=qcd
 have I':Inv X pins σ (upd H p (.lst (xs.set j v))) { s with heap:=s.heap.update p (Obj.mapSeq (·.setIfInBounds j u)) } :=
   I.lstUpd hp ho (qe9 its n j u) (r.set rv j) (by rw[List.length_set];exact hz) s.toks
 by_cases h0:0≤k
 · have hk:k.toNat=j:=by
     rw[seqIndex_of h0 h4]at h1;exact Option.some.inj h1
   exact PySem.W.ki_setAt ho h0 (by omega) (by rw[List.size_toArray,← hl];exact h4) (by rw[hk];exact⟨_,I',q⟩)
 · have hk:(k+(its.toArray.size:Int)).toNat=j:=by
     rw[seqIndex_neg (by omega) h3]at h1;rw[List.size_toArray,← hl];exact Option.some.inj h1
   exact PySem.W.ki_setBack ho (by omega) (by rw[List.size_toArray,← hl];exact h3) (by omega) (by rw[hk];exact⟨_,I',q⟩)
theorem tn_ (n:Nat):((-1:Int)+(n:Int)).toNat=n - 1:=by
 rw[Int.add_comm];exact Int.toNat_sub n 1
theorem qiq (i:Int) (n:Nat):max 0 (min (if i < 0 then i+(n:Int) else i) (n:Int))=((if i < 0 then (i+(n:Int)).toNat else min i.toNat n:Nat):Int):=by
 by_cases h:i < 0
 · have h':i+(n:Int)≤n:=by have:=Int.add_le_add_right (Int.le_of_lt h) n;rwa [Int.zero_add]at this
   rw[if_pos h,if_pos h,Int.min_eq_left h',Int.ofNat_toNat,Int.max_comm]
 · obtain⟨k,rfl⟩:=Int.eq_ofNat_of_zero_le (Int.not_lt.mp h);rw[if_neg h,if_neg h,Int.toNat_natCast];rcases Nat.le_total k n with g|g
   · rw[Nat.min_eq_left g,Int.min_eq_left (Int.ofNat_le.mpr g),Int.max_eq_right (Int.natCast_nonneg _)]
   · rw[Nat.min_eq_right g,Int.min_eq_right (Int.ofNat_le.mpr g),Int.max_eq_right (Int.natCast_nonneg _)]
theorem qc9 (lo hi:Option Int) (n:Nat):(sliceBounds lo hi none n).1=((HT.sIx n 0 lo:Nat):Int)∧(sliceBounds lo hi none n).2.1=((HT.sIx n n hi:Nat):Int)∧(sliceBounds lo hi none n).2.2=1:=by
 refine⟨?_,?_,rfl⟩
 · cases lo with
   | none=>simp[sliceBounds,HT.sIx]
   | some i =>
     simp only[sliceBounds,HT.sIx,Option.getD_none,show (1:Int) > 0 by decide,if_true];exact qiq i n
 · cases hi with
   | none=>simp[sliceBounds,HT.sIx]
   | some i =>
     simp only[sliceBounds,HT.sIx,Option.getD_none,show (1:Int) > 0 by decide,if_true];exact qiq i n
theorem qco (its:List Value) (lo hi:Option Int):slicePick its.toArray lo hi none=((its.drop (HT.sIx its.length 0 lo)).take (HT.sIx its.length its.length hi - HT.sIx its.length 0 lo)).toArray:=by
 obtain⟨h1,h2,h3⟩:=qc9 lo hi its.toArray.size;unfold slicePick;rw[h1,h2,h3];simp only[sliceRange_one,pick_run,List.size_toArray]<;>rfl
inductive qit (K:Frag) (x:V) (lo:Option Int) (hi:Option Int) (H:Hp) (Q:VK):Prop
 | mk (a xs:_) (h1:x=.ref a) (h2:SqL K H a xs) (h3:∀ p,H p=none->Q (.ref p) (upd H p (.lst (qiM xs lo hi)))):qit K x lo hi H Q
def qlS (K:Frag):V->Option Int->Option Int->Hp->VK->Prop:=fun x lo hi H Q=>qit K x lo hi H Q
theorem sl_list:SlR X (qlS X.K):=by
 intro pins s σ H x v vl vu lo hi sl Q I rx hs pl pu h;obtain⟨a,xs,rfl,hx,q⟩:=h;cases rx;obtain⟨its,r,ht,hz⟩:=I.list hx;have hlen:=r.length;refine⟨"list",_,slot_list_getitem.lookup,ht.isList.typeIs,?_⟩;refine wpAny_getItem_list_slice ht.isList hs pl pu .none (by simp) ?_ (by rw[List.size_toArray]<;>omega);rw[qco,← hlen];refine⟨.ref s.heap.objs.size,_,I.laid (t':=s.toks) (o:=.lst (qiM xs lo hi)) (fun b ob q=>Heap.get?_push_of_some _ q) (Nat.le_refl _) ?_,rfl,q _ (I.hok.fresh (Nat.le_refl _))⟩;exact⟨Nat.le_trans (qbr xs lo hi) hz,_,0,(r.drop (HT.sIx xs.length 0 lo)).take (HT.sIx xs.length xs.length hi - HT.sIx xs.length 0 lo),Heap.get?_push_size _ rfl⟩
def qcT:V->Bool
 | .non=>true
 | .bl _=>true
 | .int _=>true
 | .str _=>true
 | _=>false
def eqV:V->V->Bool
 | .non,.non=>true
 | .bl a,.bl b=>a == b
 | .bl a,.int b=>(if a then 1 else 0) == b
 | .int a,.bl b=>a == (if b then 1 else 0)
 | .int a,.int b=>a == b
 | .str a,.str b=>a == b
 | _,_=>false
theorem qkW {A:Around}{s:Shared}{y x:V}{u v:Value} (ry:RelV y u) (rx:RelV x v) (fy:qcT y=true) (fx:qcT x=true):SeqAt.EqAt A s u v (eqV y x):=by
 cases y with
 | non =>
   cases ry
   cases x with
   | non=>cases rx;exact SeqAt.EqAt.same _
   | bl b=>cases rx;exact SeqAt.EqAt.none_bool b
   | int b=>obtain⟨t,rfl⟩:=rx;exact SeqAt.EqAt.none_int b t
   | str b=>obtain⟨t,rfl⟩:=rx;exact SeqAt.EqAt.none_str b t
   | _=>exact absurd (show false=true from fx) Bool.false_ne_true
 | bl a =>
   cases ry
   cases x with
   | non=>cases rx;exact SeqAt.EqAt.bool_none a
   | bl b=>cases rx;exact SeqAt.EqAt.bool_bool a b
   | int b=>obtain⟨t,rfl⟩:=rx;exact SeqAt.EqAt.bool_int a b t
   | str b=>obtain⟨t,rfl⟩:=rx;exact SeqAt.EqAt.bool_str a b t
   | _=>exact absurd (show false=true from fx) Bool.false_ne_true
 | int a =>
   obtain⟨t',rfl⟩:=ry
   cases x with
   | non=>cases rx;exact SeqAt.EqAt.int_none a t'
   | bl b=>cases rx;exact SeqAt.EqAt.int_bool a t' b
   | int b=>obtain⟨t,rfl⟩:=rx;exact SeqAt.EqAt.int_int a t' b t
   | str b=>obtain⟨t,rfl⟩:=rx;exact SeqAt.EqAt.int_str a t' b t
   | _=>exact absurd (show false=true from fx) Bool.false_ne_true
 | str a =>
   obtain⟨t',rfl⟩:=ry
   cases x with
   | non=>cases rx;exact SeqAt.EqAt.str_none a t'
   | bl b=>cases rx;exact SeqAt.EqAt.str_bool a t' b
   | int b=>obtain⟨t,rfl⟩:=rx;exact SeqAt.EqAt.str_int a t' b t
   | str b=>obtain⟨t,rfl⟩:=rx;exact SeqAt.EqAt.str_str a t' b t
   | _=>exact absurd (show false=true from fx) Bool.false_ne_true
 | _=>exact absurd (show false=true from fy) Bool.false_ne_true
def eqU (x:V) (u:Value):Bool:=match u with
 | .none=>eqV .non x
 | .bool b=>eqV (.bl b) x
 | .int i _=>eqV (.int i) x
 | .str z _=>eqV (.str z) x
 | _=>false
theorem qiH {x y:V}{u:Value} (r:RelV y u) (f:qcT y=true):eqU x u=eqV y x:=by
 cases y with
 | non=>cases r;rfl
 | bl b=>cases r;rfl
 | int i=>obtain⟨t,rfl⟩:=r;rfl
 | str z=>obtain⟨t,rfl⟩:=r;rfl
 | _=>exact absurd (show false=true from f) Bool.false_ne_true
theorem qei {x:V}:∀ {xs:List V}{us:List Value},Vals xs us->xs.all qcT=true->us.any (eqU x)=xs.any fun y=>eqV y x
 | _,_,.nil,_=>rfl
 | y::xs,u::us,.cons r t,f=>by
   rw[List.all_cons,Bool.and_eq_true]at f;rw[List.any_cons,List.any_cons,qiH r f.1,qei t f.2]
theorem qcN {A:Around}{s:Shared}{x:V}{v:Value} (rx:RelV x v) (fx:qcT x=true):∀ {xs:List V}{us:List Value},Vals xs us->xs.all qcT=true->∀ u∈us,SeqAt.EqAt A s u v (eqU x u)
 | _,_,.nil,_=>fun u hu=>by cases hu
 | y::xs,u::us,.cons r t,f=>fun u' hu=>by
   rw[List.all_cons,Bool.and_eq_true]at f;rcases List.mem_cons.mp hu with rfl|hu
   · rw[qiH r f.1];exact qkW r rx f.1 fx
   · exact qcN rx fx t f.2 u' hu
def inV (x:V) (xs:List V):Bool:=xs.any fun y=>eqV y x
inductive qkm (K:Frag) (neg:Bool) (x:V) (y:V) (H:Hp) (Q:VK):Prop
 | mk (p xs:_) (h1:y=.ref p) (h2:(SqL K H p xs∨SqT K H p xs)) (h3:qcT x=true) (h4:xs.all qcT=true) (h5:Q (.bl (if neg then !inV x xs else inV x xs)) H):qkm K neg x y H Q
def rIn (K:Frag) (neg:Bool):R2:=fun x y H Q=>qkm K neg x y H Q
theorem qdu:OpR X (compareOp .NotIn) (rIn X.K true):=by
 intro pins s σ H x y v u Q I rx ry h;obtain⟨p,xs,rfl,hq,fx,fs,q⟩:=h;cases ry;rcases hq with hq|hq
 · obtain⟨its,r,pl,hz⟩:=I.list hq;refine SeqAt.notIn_listAt (eqU x) pl.isList (fun w hw=>qcN rx fx r fs w (by simpa using hw)) ⟨.bl _,H,I,rfl,?_⟩;rw[show its.toArray.any (eqU x)=its.any (eqU x) by simp,qei r fs];exact q
 · obtain⟨its,r,pl,hz⟩:=I.tuple hq;refine SeqAt.notIn_tupleAt (eqU x) pl (fun w hw=>qcN rx fx r fs w (by simpa using hw)) ⟨.bl _,H,I,rfl,?_⟩;rw[show its.toArray.any (eqU x)=its.any (eqU x) by simp,qei r fs];exact q
theorem ZT:Zg X (.type "list") (fun xs H Q=>∃ p ys,xs=[.ref p]∧(SqL X.K H p ys∨SqT X.K H p ys)∧∀ l,H l=none->Q (.ref l) (upd H l (.lst ys))):=by
 intro pins s σ H xs us Q I r h;obtain⟨p,ys,rfl,hq,q⟩:=h;obtain⟨u,rfl,rx⟩:=qau r;cases rx;have fin:∀ (its:List Value),Vals ys its->ys.length≤sizeLine->∀ (h':Heap) (c':Nat),(∀ b o',s.heap.get? b=some o'->h'.get? b=some o') ->
     h'.get? s.heap.objs.size=some { cls:=.type "list",dict:=none,data:=.seq its.toArray c',slots:=#[] }->EP X pins σ Q (.ref s.heap.objs.size) { s with heap:=h' }:=fun its r' hz h' c' kp e =>
   ⟨.ref s.heap.objs.size,_,I.laid (t':=s.toks) kp (Nat.le_refl _) (show ObjOk X.prog X.w _ h' _ (.lst ys) from ⟨hz,its,c',r',e⟩),rfl,q _ (I.hok.fresh (Nat.le_refl _))⟩
 rcases hq with hq|hq
 · obtain⟨its,r',pl,hz⟩:=I.list hq;have hlen:=r'.length;obtain⟨o,ho,hc,n,hd⟩:=pl.isList;exact call_list_seq p (.inl rfl) ho hc hd (fun h' c' kp e=>fin its r' hz h' c' kp e) (by simp only[List.size_toArray]<;>omega)
 · obtain⟨its,r',pl,hz⟩:=I.tuple hq;have hlen:=r'.length;obtain⟨o,ho,hc,n,hd⟩:=pl;exact call_list_seq p (.inr rfl) ho hc hd (fun h' c' kp e=>fin its r' hz h' c' kp e) (by simp only[List.size_toArray]<;>omega)
def tyV (K:Frag) (T:String) (x:V) (H:Hp):Prop:=match x with
 | .str _=>T="str"
 | .int _=>T="int"
 | .ref p=>(T="list"∧∃ xs,SqL K H p xs)∨(T="tuple"∧∃ o,K.lookup p=some o∧o.cls=.type "tuple"∧o.dict=none) ∨
     (T="dict"∧((∃ kvs,H p=some (.dK kvs))∨∃ kvs,H p=some (.dT kvs)))∨(T="set"∧∃ S n,H p=some (.set S n))
 | _=>False
theorem qjW {pins:List (Addr×Obj)}{σ:St}{H:Hp}{s:Shared}{T:String}{x:V}{v:Value} (I:Inv X pins σ H s) (r:RelV x v) (ty:tyV X.K T x H) :
   s.TypeIs v T∧∀ a,v=.ref a->∃ ob,s.heap.get? a=some ob∧ob.dict=none:=by
 cases x with
 | str z =>
   obtain⟨t,rfl⟩:=r;cases (show T="str" from ty);exact⟨typeIs_str s z t,fun _ e=>nomatch e⟩
 | int i =>
   obtain⟨t,rfl⟩:=r;cases (show T="int" from ty);exact⟨typeIs_int s i t,fun _ e=>nomatch e⟩
 | ref p =>
   cases r;rcases ty with ⟨rfl,xs,hq⟩|⟨rfl,o,hk,hc,hd⟩|⟨rfl,hk⟩|⟨rfl,S,n,hk⟩
   · obtain⟨its,_,pl,_⟩:=I.list hq;refine⟨pl.isList.typeIs,fun a e=>?_⟩;cases e;obtain⟨o,n,e,c,hd,_⟩:=pl;exact⟨o,e,hd⟩
   · refine⟨⟨o,I.kIn p o hk,hc⟩,fun a e=>?_⟩;cases e;exact⟨o,I.kIn _ o hk,hd⟩
   · have z:∃ o,s.heap.get? p=some o∧o.ExactDict:=by
       rcases hk with ⟨kvs,hk⟩|⟨kvs,hk⟩
       · obtain⟨_,_,_,_,o,_,_,e,ex,_⟩:=I.hok p _ hk;exact⟨o,e,ex⟩
       · obtain⟨_,_,_,_,o,_,_,e,ex,_⟩:=I.hok p _ hk;exact⟨o,e,ex⟩
     obtain⟨o,e,ex⟩:=z;refine⟨⟨o,e,ex.1⟩,fun a e2=>?_⟩;cases e2;exact⟨o,e,ex.2.1⟩
   · obtain⟨o,_,_,_,e,ex,_⟩:=I.hok p _ hk;refine⟨⟨o,e,ex.1⟩,fun a e2=>?_⟩;cases e2;exact⟨o,e,ex.2.1⟩
 | _=>exact False.elim ty
def tBM (K:Frag) (T:String) (r:V->List V->Hp->VK->Prop) (to:TE) (t:TA):TE:=fun σ H Q=>to σ H fun x H1=>tyV K T x H1∧t σ H1 fun xs H2=>r x xs H2 Q
variable {o e:Expr}{es:List Expr}{to:TE}{t:TA}{name:Str}{apos cpos:Pos}{T id:String}{r:V->List V->Hp->VK->Prop}
theorem qe6 (pa:PlainAttrs T) (slot:Slot T name id) (hty:typeOf (.builtin id)=pure (.type "method_descriptor")) (hm:MtR X id r) (ho:PE X o to) (ha:PA X (e::es) t)
   (hbase:attributeBase o name X.env (eval o X.env)=eval o X.env:=by rfl)
   (hfew:((backTo cpos (starEach (e::es) X.env)).all (fun x=>!x.1) && (backToKw cpos (keywordEach [] X.env)).all (fun x=>x.1.isSome)
     && decide ((e::es).length+([]:List Keyword).length+(if ([]:List Keyword).isEmpty then 0 else 1) < 30))=true:=by rfl)
   (hline:(apos.endLine == cpos.line)=true:=by rfl) (hs:starEach (e::es) X.env=(false,eval e X.env)::starEach es X.env:=by rfl) (hplain:(backTo cpos (starEach es X.env)).any (·.1)=false:=by rfl) :
   PE X (.Call (.Attribute o name apos) (e::es) [] cpos) (tBM X.K T r to t):=by
 intro pins s σ H Q I h;refine wpAny_Call_method_late hbase hfew hline rfl (thn (ho pins s σ H _ I h) fun v s1 zz_=>?_);obtain⟨x,H1,I1,r1,ty,q1⟩:=zz_;obtain⟨h1,h2⟩:=qjW I1 r1 ty;refine⟨T,id,pa,slot,hty,h1,h2,?_⟩;have hA:=ha cpos pins s1 σ H1 _ I1 q1;rw[hs]at hA ⊢;refine Calls.callWith_builtin (by show (false || (backTo cpos (starEach es X.env)).any (·.1))=false;rw[hplain]<;>rfl) (Calls.evalArgs_plain ?_);exact thn hA fun us s2 ⟨vs,H2,I2,r2,q2⟩=>hm pins s2 σ H2 x vs v us Q I2 r1 r2 q2
end
def MtM (X:Cx) (id:String) (r:V->List V->Hp->VK->Prop):Prop :=
 ∀ (pins:List (Addr×Obj)) (s:Shared) (σ:St) (H:Hp) (x:V) (xs:List V) (v:Value) (us:List Value) (Q:VK),Inv X pins σ H s->RelV x v->Vals xs us->r x xs H Q ->
   wpAny (model X.prog X.w) X.A (call (.builtin id) (v::us)) (EP X pins σ Q) X.xe s
theorem Vals.one {x:V}{us:List Value} (h:Vals [x] us):∃ u,us=[u]∧RelV x u:=by
 cases h with
 | cons r t=>cases t;exact⟨_,rfl,r⟩
theorem Vals.eraseIdx:∀ {xs:List V}{us:List Value} (i:Nat),Vals xs us->Vals (xs.eraseIdx i) (us.eraseIdx i)
 | _,_,_,.nil=>.nil
 | _,_,0,.cons _ t=>t
 | _,_,i+1,.cons r t=>.cons r (Vals.eraseIdx i t)
theorem qdF {α:Type}:∀ (l:List α) (i:Nat),(l.eraseIdx i).length≤l.length
 | [],_=>Nat.le_refl _
 | _::_,0=>Nat.le_succ _
 | _::r,i+1=>Nat.succ_le_succ (qdF r i)
section
variable {X:Cx}{pins:List (Addr×Obj)}{σ:St}{H:Hp}{s:Shared}{l b:Addr}{xs ys zs:List V}
theorem Inv.lset {its its':List Value}{n:Nat}{f:Array Value->Array Value}{t':Nat} (I:Inv X pins σ H s) (hH:H l=some (.lst xs))
   (e:s.heap.get? l=some { cls:=.type "list",data:=.seq its.toArray n }) (hf:f its.toArray=its'.toArray) (hv:Vals ys its') (hz:ys.length≤sizeLine) :
   Inv X pins σ (upd H l (.lst ys)) { s with heap:=s.heap.update l (Obj.mapSeq f),toks:=t' }:=by
 have q:=PySem.IsL.update e f;rw[hf]at q;refine I.write (x:=l) (e:=l) (by rw[hH];exact trivial) (.inl rfl) (fun b' u hb hu=>(Heap.get?_update_other s.heap (Obj.mapSeq f) (Ne.symm hb)).trans hu) ⟨_,q⟩ ?_;exact⟨hz,its',_,hv,q⟩
theorem Inv.lnew {its:List Value}{t':Nat} (I:Inv X pins σ H s) (hv:Vals ys its) (hz:ys.length≤sizeLine) :
   Inv X pins σ (upd H s.heap.objs.size (.lst ys)) { s with heap:=s.heap.push { cls:=.type "list",data:=.seq its.toArray },toks:=t' } :=
 I.laid (fun _ _ q=>Heap.get?_push_of_some _ q) (Nat.le_refl _) ⟨hz,its,0,hv,Heap.get?_push_size _ rfl⟩
theorem Inv.fresh (I:Inv X pins σ H s):H s.heap.objs.size=none:=I.hok.fresh (Nat.le_refl _)
theorem Inv.lstM (I:Inv X pins σ H s) (hH:H l=some (.lst xs)):xs.length≤sizeLine∧∃ (its:List Value) (n:Nat),Vals xs its∧xs.length=its.length∧s.heap.get? l=some { cls:=.type "list",data:=.seq its.toArray n }:=by
 obtain⟨z,its,n,r,e⟩:=I.hok l _ hH;exact⟨z,its,n,r,r.length,e⟩
theorem qhR {n:Nat} (h:n≤sizeLine):Builtin.List.listTooLong n=false:=by
 unfold Builtin.List.listTooLong;exact decide_eq_false (by omega)
end
section
variable {X:Cx}
inductive qdp (x:V) (vs:List V) (H:Hp) (Q:VK):Prop
 | mk (l xs y:_) (h1:x=.ref l) (h2:vs=[y]) (h3:H l=some (.lst xs)) (h4:xs.length < sizeLine) (h5:Q .non (upd H l (.lst (xs++[y])))):qdp x vs H Q
def qjf:V->List V->Hp->VK->Prop:=fun x vs H Q=>qdp x vs H Q
theorem ZP:MtM X "list.append" qjf:=by
 intro pins s σ H x vs v us Q I rx rv h;obtain⟨l,xs,y,rfl,rfl,hH,hz,q⟩:=h;cases rx;obtain⟨u,rfl,ru⟩:=rv.one;obtain⟨z,its,n,r,hl,e⟩:=I.lstM hH;refine call_meets F.slot_list_append ⟨_,e,rfl⟩ F.entry_list_append (F.args_list_append_2 _ _) (PySem.list_append l its.toArray n u (by rw[List.size_toArray];omega)) ⟨e,?_⟩;refine⟨.non,_,I.lset (its':=its++[u]) hH e (by simp) (r.append (.cons ru .nil)) ?_,rfl,q⟩;rw[List.length_append,List.length_singleton];omega
def qje:V->List V->Hp->VK->Prop:=fun x vs H Q=>∃ l b xs zs,x=.ref l∧vs=[.ref b]∧H l=some (.lst xs)∧H b=some (.lst zs)∧xs.length+zs.length≤sizeLine∧Q .non (upd H l (.lst (xs++zs)))
theorem qgo:MtM X "list.extend" qje:=by
 intro pins s σ H x vs v us Q I rx rv h;obtain⟨l,b,xs,zs,rfl,rfl,hH,hB,hz,q⟩:=h;cases rx;obtain⟨u,rfl,ru⟩:=rv.one;cases ru;obtain⟨z,its,n,r,hl,e⟩:=I.lstM hH;obtain⟨z2,its2,n2,r2,hl2,e2⟩:=I.lstM hB;have hsz:its.toArray.size+its2.toArray.size≤sizeLine:=by rw[List.size_toArray,List.size_toArray];omega
 have hlong:¬ (!its.toArray.isEmpty && Builtin.List.listTooLong (its.toArray.size+its2.toArray.size))=true:=by
   rw[qhR hsz,Bool.and_false];exact Bool.false_ne_true
 refine call_meets F.slot_list_extend ⟨_,e,rfl⟩ F.entry_list_extend (F.args_list_extend_2 _ _)
   (AutoSeq1.list_extend_list_list_0 l its.toArray n b its2.toArray n2 hlong (by rw[List.size_toArray];omega) (by omega)) ⟨e,e2,?_⟩
 refine⟨.non,_,I.lset (its':=its++its2) hH e (by simp) (r.append r2) ?_,rfl,q⟩;rw[List.length_append];omega
def qkh:V->List V->Hp->VK->Prop:=fun x vs H Q=>∃ l xs i k y,x=.ref l∧vs=[.int i]∧H l=some (.lst xs)∧-(2 ^ 63)≤i∧i < 2 ^ 63∧seqIndex? i xs.length=some k∧xs[k]?=some y∧Q y (upd H l (.lst (xs.eraseIdx k)))
theorem qhW:MtM X "list.pop" qkh:=by
 intro pins s σ H x vs v us Q I rx rv h;obtain⟨l,xs,i,k,y,rfl,rfl,hH,h1,h2,hk,hy,q⟩:=h;cases rx;obtain⟨u,rfl,ru⟩:=rv.one;obtain⟨t,rfl⟩:=ru;obtain⟨z,its,n,r,hl,e⟩:=I.lstM hH;obtain⟨w,hw,rw'⟩:=r.get hy;refine call_meets F.slot_list_pop ⟨_,e,rfl⟩ F.entry_list_pop (F.args_list_pop_2 _ _)
   (MeetsSeq.list_pop_at l its.toArray n i t k w (fitsIndex_both h1 h2) (by rw[List.size_toArray,← hl];exact hk) (by rw[← Array.getElem?_toList];exact hw) (by rw[List.size_toArray];omega)) ⟨e,?_⟩
 refine⟨y,_,I.lset (its':=its.eraseIdx k) hH e ?_ (r.eraseIdx k) ?_,rw',q⟩
 · show its.toArray.eraseIdxIfInBounds k=(its.eraseIdx k).toArray;rw[List.eraseIdxIfInBounds_toArray]
 · have:=qdF xs k
   omega
inductive qiB (x:V) (y:V) (H:Hp) (Q:VK):Prop
 | mk (l b xs zs:_) (h1:x=.ref l) (h2:y=.ref b) (h3:H l=some (.lst xs)) (h4:H b=some (.lst zs)) (h5:xs.length+zs.length≤sizeLine) (h6:∀ p,H p=none->Q (.ref p) (upd H p (.lst (xs++zs)))):qiB x y H Q
def qlZ:R2:=fun x y H Q=>qiB x y H Q
theorem op_cat:OpR X (binaryOp .Add) qlZ:=by
 intro pins s σ H x y v u Q I rx ry h;obtain⟨l,b,xs,zs,rfl,rfl,hH,hB,hz,q⟩:=h;cases rx;cases ry;obtain⟨z,its,n,r,hl,e⟩:=I.lstM hH;obtain⟨z2,its2,n2,r2,hl2,e2⟩:=I.lstM hB;refine PySem.P.add_list e e2 ?_ (by rw[List.size_toArray,List.size_toArray];omega);have ea:its.toArray++its2.toArray=(its++its2).toArray:=by simp
 rw[ea];exact⟨.ref _,_,I.lnew (t':=s.toks) (r.append r2) (by rw[List.length_append];omega),rfl,q _ I.fresh⟩
end
section
variable {κ:Type} [DecidableEq κ]
def qc1 (kvs:List (κ×V)) (k:κ):Option V:=(kvs.find? fun kv=>decide (kv.1=k)).map (·.2)
def qdr (kvs:List (κ×V)) (k:κ) (v:V):List (κ×V) :=
 if (kvs.any fun kv=>decide (kv.1=k))=true then kvs.map (fun kv=>if kv.1=k then (kv.1,v) else kv) else kvs++[(k,v)]
def qed (kvs:List (κ×V)) (k:κ):List (κ×V):=kvs.filter fun kv=>decide (kv.1≠k)
theorem qcj {p:κ×V}{r:List (κ×V)}{k:κ} (e:p.1=k):qc1 (p::r) k=some p.2:=by simp[qc1,List.find?_cons,e]
theorem qck {p:κ×V}{r:List (κ×V)}{k:κ} (e:¬ p.1=k):qc1 (p::r) k=qc1 r k:=by simp[qc1,List.find?_cons,e]
theorem qcl (k:κ):∀ kvs:List (κ×V),(kvs.any fun kv=>decide (kv.1=k))=(qc1 kvs k).isSome
 | []=>rfl
 | p::r=>by
   rw[List.any_cons];by_cases e:p.1=k
   · simp only[qcj e,decide_eq_true e,Bool.true_or,Option.isSome_some]
   · rw[qck e,decide_eq_false e,Bool.false_or];exact qcl k r
theorem qbg (kvs:List (κ×V)) (k:κ) (v:V):(qdr kvs k v).length≤kvs.length+1:=by
 unfold qdr;split
 · rw[List.length_map];omega
 · rw[List.length_append,List.length_cons,List.length_nil];omega
theorem qhx {kvs:List (κ×V)}{k:κ} (v:V) (h:qc1 kvs k=none):qdr kvs k v=kvs++[(k,v)]:=by
 unfold qdr;rw[qcl,h];exact if_neg (by decide)
theorem RelO.isSome_eq {o:Option V}{u:Option Value} (r:RelO o u):o.isSome=u.isSome:=by
 cases o with
 | none=>cases u with
   | none=>rfl
   | some _=>exact(show False from r).elim
 | some _=>cases u with
   | none=>exact(show False from r).elim
   | some _=>rfl
theorem KV.val {kvs:List (κ×V)}{vs:List (κ×Value)} (r:KV kvs vs) (k:κ):RelO (qc1 kvs k) (valueAt vs k):=by
 unfold KV at r
 induction r with
 | nil=>exact True.intro
 | @cons p q ps qs h t ih =>
   obtain⟨h1,h2⟩:=h;by_cases e:p.1=k
   · have e':q.1=k:=h1.symm.trans e;have b:valueAt (q::qs) k=some q.2:=by simp[valueAt,List.find?_cons,e']
     rw[qcj e,b];exact h2
   · have e':¬ q.1=k:=fun z=>e (h1.trans z);have b:valueAt (q::qs) k=valueAt qs k:=by simp[valueAt,List.find?_cons,e']
     rw[qck e,b];exact ih
theorem KV.any {kvs:List (κ×V)}{vs:List (κ×Value)} (r:KV kvs vs) (k:κ):(kvs.any fun kv=>decide (kv.1=k))=vs.any fun kv=>decide (kv.1=k):=by
 unfold KV at r
 induction r with
 | nil=>rfl
 | cons h t ih=>rw[List.any_cons,List.any_cons,ih,h.1]
theorem KV.repl {kvs:List (κ×V)}{vs:List (κ×Value)} (r:KV kvs vs) (k:κ) {y:V}{u:Value} (ry:RelV y u) :
   KV (kvs.map fun kv=>if kv.1=k then (kv.1,y) else kv) (vs.map fun kv=>if kv.1=k then (kv.1,u) else kv):=by
 unfold KV at r ⊢
 induction r with
 | nil=>exact .nil
 | @cons p q ps qs h t ih =>
   rw[List.map_cons,List.map_cons];refine .cons ?_ ih;obtain⟨h1,h2⟩:=h;by_cases e:p.1=k
   · rw[if_pos e,if_pos (h1.symm.trans e)];exact⟨h1,ry⟩
   · rw[if_neg e,if_neg (fun z=>e (h1.trans z))];exact⟨h1,h2⟩
theorem KV.put {kvs:List (κ×V)}{vs:List (κ×Value)} (r:KV kvs vs) (k:κ) {y:V}{u:Value} (ry:RelV y u):KV (qdr kvs k y) (stored vs k u):=by
 unfold qdr stored;rw[r.any k];by_cases e:(vs.any fun kv=>decide (kv.1=k))=true
 · rw[if_pos e,if_pos e];exact r.repl k ry
 · rw[if_neg e,if_neg e];exact Paired.snoc r ⟨rfl,ry⟩
theorem KV.drop {kvs:List (κ×V)}{vs:List (κ×Value)} (r:KV kvs vs) (k:κ):KV (qed kvs k) (without vs k):=by
 unfold KV at r ⊢;unfold qed without
 induction r with
 | nil=>exact .nil
 | @cons p q ps qs h t ih =>
   obtain⟨h1,h2⟩:=h;rw[List.filter_cons,List.filter_cons];by_cases e:p.1=k
   · have a:¬ decide (p.1≠k)=true:=by simp[e]
     have b:¬ decide (q.1≠k)=true:=by simp[h1.symm.trans e]
     rw[if_neg a,if_neg b];exact ih
   · have e':¬ q.1=k:=fun z=>e (h1.trans z);have a:decide (p.1≠k)=true:=by simp[e]
     have b:decide (q.1≠k)=true:=by simp[e']
     rw[if_pos a,if_pos b];exact .cons ⟨h1,h2⟩ ih
theorem KV.length {kvs:List (κ×V)}{vs:List (κ×Value)} (r:KV kvs vs):kvs.length=vs.length:=Paired.length r
theorem qia (kvs:List (κ×V)) (k:κ):(qed kvs k).length≤kvs.length:=List.length_filter_le _ _
end
theorem qfc {P:Program}{w:World}{k:Key}{u:Value} (r:RelV (kV k) u):(zj P w).is k u=true:=by
 cases k with
 | inl i=>obtain⟨t,e⟩:=(show ∃ t,u=Value.int i t from r);subst e;exact qd9 P w i t
 | inr x=>obtain⟨t,e⟩:=(show ∃ t,u=Value.str x t from r);subst e;exact qd8 P w x t
theorem qdI {P:Program}{w:World}:∀ {ks:List Key}{us:List Value},Vals (ks.map kV) us->ItemsAre (zj P w) ks us
 | [],_,r=>by rw[List.map_nil]at r;cases r;exact .nil
 | k::ks,_,r=>by
   rw[List.map_cons]at r
   cases r with
   | cons h t=>exact .cons (qfc h) (qdI t)
abbrev KT (H:Hp):List (List Key×V)->List (List Key×Addr×Value)->Prop:=Paired fun p q=>p.1=q.1∧H q.2.1=some (.tup (p.1.map kV))∧RelV p.2 q.2.2
theorem KT.val {H:Hp}{kvs:List (List Key×V)}{xs:List (List Key×Addr×Value)} (r:KT H kvs xs) (k:List Key):RelO (qc1 kvs k) ((atKey xs k).map (·.2)):=by
 induction r with
 | nil=>exact True.intro
 | @cons p q ps qs h t ih =>
   obtain⟨h1,_,h2⟩:=h;by_cases e:p.1=k
   · have e':q.1=k:=h1.symm.trans e;have b:atKey (q::qs) k=some q.2:=by simp[atKey,List.find?_cons,e']
     rw[qcj e,b];exact h2
   · have e':¬ q.1=k:=fun z=>e (h1.trans z);have b:atKey (q::qs) k=atKey qs k:=by simp[atKey,List.find?_cons,e']
     rw[qck e,b];exact ih
theorem KT.repl {H:Hp}{kvs:List (List Key×V)}{xs:List (List Key×Addr×Value)} (r:KT H kvs xs) (k:List Key) {y:V}{u:Value} (ry:RelV y u) :
   KT H (kvs.map fun kv=>if kv.1=k then (kv.1,y) else kv) (xs.map (putAt k u)):=by
 induction r with
 | nil=>exact .nil
 | @cons p q ps qs h t ih =>
   rw[List.map_cons,List.map_cons];refine .cons ?_ ih;obtain⟨h1,h2,h3⟩:=h;unfold putAt;by_cases e:p.1=k
   · rw[if_pos e,if_pos (h1.symm.trans e)];exact⟨h1,h2,ry⟩
   · rw[if_neg e,if_neg (fun z=>e (h1.trans z))];exact⟨h1,h2,h3⟩
theorem KT.put {H:Hp}{kvs:List (List Key×V)}{xs:List (List Key×Addr×Value)} (r:KT H kvs xs) (k:List Key) {b:Addr}{y:V}{u:Value} (hb:H b=some (.tup (k.map kV))) (ry:RelV y u) :
   KT H (qdr kvs k y) (storedH xs k b u):=by
 have e:(kvs.any fun kv=>decide (kv.1=k))=(atKey xs k).isSome:=by
   rw[qcl,(r.val k).isSome_eq,Option.isSome_map]
 unfold qdr storedH;rw[e];by_cases q:(atKey xs k).isSome=true
 · rw[if_pos q,if_pos q];exact r.repl k ry
 · rw[if_neg q,if_neg q];exact Paired.snoc r ⟨rfl,hb,ry⟩
theorem KT.keeps {H H':Hp}{kvs:List (List Key×V)}{xs:List (List Key×Addr×Value)} (r:KT H kvs xs) (ht:∀ b ys,H b=some (.tup ys)->H' b=some (.tup ys)):KT H' kvs xs :=
 Paired.mapP r fun _ _ z=>⟨z.1,ht _ _ z.2.1,z.2.2⟩
section
variable {P:Program}{w:World}{H:Hp}{h:Heap}{a:Addr}
theorem qkf {u:HO} (ok:HOk P w H h) (e:Rd H a u):ObjOk P w H h a u:=e.ok ok
theorem qcV {kvs:List (Key×V)} (ok:HOk P w H h) (e:Rd H a (.dK kvs)):kvs.length≤sizeLine∧(a == sysModules)=false∧∃ vs,KV kvs vs∧h.DictOf (zj P w) a vs :=
 show ObjOk P w H h a (.dK kvs) from qkf ok e
theorem qkX {kvs:List (Key×V)} (ok:HOk P w H h) (e:H a=some (.dK kvs)):kvs.length≤sizeLine∧(a == sysModules)=false∧∃ vs,KV kvs vs∧h.DictOf (zj P w) a vs:=qcV ok (.inl e)
theorem qdH {ks:List Key} (ok:HOk P w H h) (e:H a=some (.tup (ks.map kV))):(tupleKind (zj P w)).is h ks a:=by
 obtain⟨_,its,r,o,h1,h2,n,h3⟩:=(show ObjOk P w H h a (.tup (ks.map kV)) from ok a _ e)
 exact⟨o,its.toArray,n,h1,h2,h3,by simpa using qdI r⟩
theorem qfg {kvs:List (List Key×V)} (ok:HOk P w H h) (e:Rd H a (.dT kvs)):kvs.length≤sizeLine∧(a == sysModules)=false ∧
   ∃ xs,KT H kvs xs∧h.DictOfH (tupleKind (zj P w)) a xs:=by
 obtain⟨z,y,xs,r,o,es,ep,h1,h2,h3,h4,h5⟩:=(show ObjOk P w H h a (.dT kvs) from qkf ok e)
 refine⟨z,y,xs,r,o,es,ep,h1,h2,h3,h4,fun x hx=>?_,h5⟩
 have all:∀ {l:List (List Key×V)}{m:List (List Key×Addr×Value)},KT H l m->∀ x∈m,(tupleKind (zj P w)).is h x.1 x.2.1:=by
   intro l m q
   induction q with
   | nil=>intro x hx;exact nomatch hx
   | @cons p q ps qs hq t ih =>
     intro x hx;rcases List.mem_cons.mp hx with e|hx
     · subst e;exact qdH ok (by rw[← hq.1];exact hq.2.1)
     · exact ih x hx
 exact all r x hx
theorem qlE {kvs:List (List Key×V)} (ok:HOk P w H h) (e:H a=some (.dT kvs)):kvs.length≤sizeLine∧(a == sysModules)=false ∧
   ∃ xs,KT H kvs xs∧h.DictOfH (tupleKind (zj P w)) a xs:=qfg ok (.inl e)
end
def qfp (H:Hp) (a:Addr) (y:V) (r:Option V):Prop :=
 (∃ kvs k,Rd H a (.dK kvs)∧y=kV k∧r=qc1 kvs k)∨∃ kvs k b,Rd H a (.dT kvs)∧y=.ref b∧H b=some (.tup (k.map kV))∧r=qc1 kvs k
def DPut (H:Hp) (a:Addr) (y v:V) (H':Hp):Prop :=
 (∃ kvs k,H a=some (.dK kvs)∧y=kV k∧kvs.length < sizeLine∧H'=upd H a (.dK (qdr kvs k v))) ∨
 ∃ kvs k b,H a=some (.dT kvs)∧y=.ref b∧H b=some (.tup (k.map kV))∧kvs.length < sizeLine∧H'=upd H a (.dT (qdr kvs k v))
theorem DPut.k {H:Hp}{a:Addr}{kvs:List (Key×V)}{k:Key}{v:V} (e:H a=some (.dK kvs)) (hl:kvs.length < sizeLine):DPut H a (kV k) v (upd H a (.dK (qdr kvs k v))):=.inl ⟨kvs,k,e,rfl,hl,rfl⟩
section
variable {X:Cx}{pins:List (Addr×Obj)}{σ:St}{H:Hp}{s:Shared}{a:Addr}{y v:V}{u r:Value}{o:Option V}{A:Around}{E:Value->Shared->Prop}
theorem Inv.big (I:Inv X pins σ H s):sysModules < s.heap.objs.size:=by
 have h:mainGlobals < s.heap.objs.size:=(I.mod.glob.keeps I.bk).lt;exact Nat.lt_trans (by decide) h
theorem qgR {Q:Value->Shared->Prop} (hu:A.units+1 < cLine) (I:Inv X pins σ H s) (g:qfp H a y (some v)) (ry:RelV y u) (h:∀ w' s',Inv X pins σ H s'->RelV v w'->Q w' s') :
   wpAny (model X.prog X.w) A (getItem (.ref a) u) Q E s:=by
 rcases g with ⟨kvs,k,e,ey,l⟩|⟨kvs,k,b,e,ey,eb,l⟩
 · subst ey;obtain⟨z,hd,vs,rel,dd⟩:=qcV I.hok e;obtain⟨w',hw,rw'⟩:=RelO.some_of (v:=v) (o:=valueAt vs k) (by rw[l];exact rel.val k);exact wpAny_getItem_of (qfc ry) dd.mapOf hw (h w' _ (I.tok _) rw')
 · subst ey;cases (show u=Value.ref b from ry);obtain⟨z,hd,xs,rel,dd⟩:=qfg I.hok e;obtain⟨w',hw,rw'⟩:=RelO.some_of (v:=v) (o:=(atKey xs k).map (·.2)) (by rw[l];exact rel.val k);obtain⟨p,hp,hp2⟩:=Option.map_eq_some_iff.mp hw;refine wpAny_getItem_heap (tupleKind_room_in1 hu) (qdH I.hok eb) dd hp ?_;rw[hp2];exact h w' _ (I.tok _) rw'
theorem qmu {Q:Value->Shared->Prop} (hu:A.units+1 < cLine) (I:Inv X pins σ H s) (g:qfp H a y o) (ry:RelV y u) (h:∀ s',Inv X pins σ H s'->Q (.bool o.isSome) s') :
   wpAny (model X.prog X.w) A (compareOp .In u (.ref a)) Q E s:=by
 rcases g with ⟨kvs,k,e,ey,l⟩|⟨kvs,k,b,e,ey,eb,l⟩
 · subst ey;obtain⟨z,hd,vs,rel,dd⟩:=qcV I.hok e;refine wpAny_in_of (qfc ry) hd dd.mapOf ?_;rw[← (rel.val k).isSome_eq,← l];exact h _ (I.tok _)
 · subst ey;cases (show u=Value.ref b from ry);obtain⟨z,hd,xs,rel,dd⟩:=qfg I.hok e;refine wpAny_in_heap (tupleKind_room_in1 hu) (qdH I.hok eb) hd dd ?_;have q:=(rel.val k).isSome_eq;rw[Option.isSome_map]at q;rw[← q,← l];exact h _ (I.tok _)
theorem qjI {Q:Value->Shared->Prop} (hu:A.units+1 < cLine) (I:Inv X pins σ H s) (g:qfp H a y o) (ry:RelV y u) (h:∀ s',Inv X pins σ H s'->Q (.bool (!o.isSome)) s') :
   wpAny (model X.prog X.w) A (compareOp .NotIn u (.ref a)) Q E s:=by
 rcases g with ⟨kvs,k,e,ey,l⟩|⟨kvs,k,b,e,ey,eb,l⟩
 · subst ey;obtain⟨z,hd,vs,rel,dd⟩:=qcV I.hok e;refine wpAny_notIn_of (qfc ry) hd dd.mapOf ?_;rw[← (rel.val k).isSome_eq,← l];exact h _ (I.tok _)
 · subst ey;cases (show u=Value.ref b from ry);obtain⟨z,hd,xs,rel,dd⟩:=qfg I.hok e;refine wpAny_notIn_heap (tupleKind_room_in1 hu) (qdH I.hok eb) hd dd ?_;have q:=(rel.val k).isSome_eq;rw[Option.isSome_map]at q;rw[← q,← l];exact h _ (I.tok _)
theorem qef {h':Heap}{t':Nat}{ob:HO} (I:Inv X pins σ H s) (mu:Mut (H a)) (hs:Heap.SameBut a s.heap h') (he:∃ q,h'.get? a=some q) (new:ObjOk X.prog X.w (upd H a ob) h' a ob) :
   Inv X pins σ (upd H a ob) { s with heap:=h',toks:=t' } :=
 I.write (x:=a) (e:=a) mu (.inl rfl) (fun b q hb z=>(hs.2 b hb).trans z) he new
theorem qiJ {P:Program}{w:World}{H':Hp}{h':Heap}{kvs:List (Key×V)}{vs:List (Key×Value)} (z:kvs.length≤sizeLine) (hd:(a == sysModules)=false) (rel:KV kvs vs) (dd:h'.DictOf (zj P w) a vs) :
   ObjOk P w H' h' a (.dK kvs):=⟨z,hd,vs,rel,dd⟩
theorem qgQ {H':Hp}{Q:Unit->Shared->Prop} (hu:A.units+1 < cLine) (I:Inv X pins σ H s) (g:DPut H a y v H') (ry:RelV y u) (rv:RelV v r) (h:∀ s',Inv X pins σ H' s'->Q () s') :
   wpAny (model X.prog X.w) A (setItem (.ref a) u r) Q E s:=by
 rcases g with ⟨kvs,k,e,ey,l,eH⟩|⟨kvs,k,b,e,ey,eb,l,eH⟩
 · subst ey eH;obtain⟨z,hd,vs,rel,dd⟩:=qkX I.hok e;have hz:vs.length≤sizeLine:=by rw[← rel.length];exact z
   have hl:(qdr kvs k v).length≤sizeLine:=by have:=qbg kvs k v;omega
   refine wpAny_setItem_pairs (hsz:=hz) (qfc ry) dd fun h' dd' hs=>h _ ?_;have he:∃ q,h'.get? a=some q:=let ⟨q,_,_,hq,_⟩:=dd';⟨q,hq⟩;exact qef I (by rw[e];exact True.intro) hs he (qiJ hl hd (rel.put k rv) dd')
 · subst ey eH;cases (show u=Value.ref b from ry);obtain⟨z,hd,xs,rel,dd⟩:=qlE I.hok e;have hz:xs.length≤sizeLine:=by rw[← Paired.length rel];exact z
   have hl:(qdr kvs k v).length≤sizeLine:=by have:=qbg kvs k v;omega
   refine wpAny_setItem_heap (hsz:=hz) (tupleKind_room_in1 hu) (qdH I.hok eb) dd fun h' dd' hs=>h _ ?_;obtain⟨q,es,ep,hq,h2,h3,h4,_,h5⟩:=dd';refine qef I (by rw[e];exact True.intro) hs ⟨q,hq⟩ ⟨hl,hd,_,(rel.put k eb rv).keeps fun c ys ec=>?_,q,es,ep,hq,h2,h3,h4,h5⟩;rw[qg (qX ec e (fun z=>nomatch z))];exact ec
end
section
variable {X:Cx}{pins:List (Addr×Obj)}{σ:St}{H:Hp}{s:Shared}{a:Addr}{kvs:List (Key×V)}{k:Key}{u:Value}{A:Around}{E:Value->Shared->Prop}
theorem qlF {v:V}{more:List Value}{Q:Value->Shared->Prop} (I:Inv X pins σ H s) (e:H a=some (.dK kvs)) (ry:RelV (kV k) u) (l:qc1 kvs k=some v) (hm:more=[]∨∃ x,more=[x])
   (h:∀ w' s',Inv X pins σ (upd H a (.dK (qed kvs k))) s'->RelV v w'->Q w' s'):wpAny (model X.prog X.w) A (call (.builtin "dict.pop") (.ref a::u::more)) Q E s:=by
 obtain⟨z,hd,vs,rel,dd⟩:=qkX I.hok e;obtain⟨w',hw,rw'⟩:=RelO.some_of (v:=v) (o:=valueAt vs k) (by rw[← l];exact rel.val k)
 have hp:(keyPart u).isSome=true:=by
   cases k with
   | inl i=>obtain⟨t,q⟩:=(show ∃ t,u=Value.int i t from ry);subst q;rfl
   | inr x=>obtain⟨t,q⟩:=(show ∃ t,u=Value.str x t from ry);subst q;rfl
 have ha:argsOk "dict.pop" ⟨.ref a::u::more,[]⟩:=by
   rcases hm with q|⟨x,q⟩
   · subst q;exact PySem.F.args_dict_pop_2 _ _
   · subst q;exact PySem.F.args_dict_pop_3 _ _ _
 refine call_meetsIn PySem.F.slot_dict_pop dd.typeIs PySem.F.entry_dict_pop ha (meets_dict_pop_there (zj X.prog X.w) a (qfc ry) more hm hp)
   ⟨vs,w',dd,by rw[← rel.length];exact z,hw,fun h' dd' hs=>h w' _ ?_ rw'⟩
 have he:∃ q,h'.get? a=some q:=let ⟨q,_,_,hq,_⟩:=dd';⟨q,hq⟩;exact qef I (by rw[e];exact True.intro) hs he (qiJ (Nat.le_trans (qia kvs k) z) hd (rel.drop k) dd')
theorem qlG {Q:Value->Shared->Prop} (I:Inv X pins σ H s) (e:Rd H a (.dK kvs)) (h:∀ t s',Inv X pins σ H s'->Q (.int kvs.length t) s'):wpAny (model X.prog X.w) A (call (.builtin "len") [.ref a]) Q E s:=by
 obtain⟨z,hd,vs,rel,dd⟩:=qcV I.hok e;refine call_len_dict hd dd (by rw[← rel.length];rw[sizeLine_eq]at z;omega) ?_;rw[← rel.length];exact h _ _ (I.tok _)
end
def ql4 (i:Expr):Prop:=∀ ov iv,subscripted i false ov iv=operate [ov,iv] (getItem ov iv)
theorem qi2 {prog:Program}{w:World}{A:Around}{E:Value->Shared->Prop}{s:Shared}{env:Env}{value slice:Expr}{pos:Pos}{T id:String}{Q:Value->Shared->Prop}
   (hl:typeLookup (.type T) "__getitem__"=pure (some (.builtin id))) (hs:ql4 slice)
   (h:wpAny (model prog w) A (eval value env) (fun o s₁=>wpAny (model prog w) A (eval slice env) (fun i s₂=>s₂.TypeIs o T∧wpAny (model prog w) A (getItem o i) Q E s₂) E s₁) E s) :
   wpAny (model prog w) A (eval (.Subscript value slice pos) env) Q E s:=by
 refine Subscript_ (wpAny_mono h (fun o s₁ h₁=>wpAny_mono h₁ (fun i s₂ h₂=>?_) fun _ _ x=>x) fun _ _ x=>x);obtain⟨hT,h₂⟩:=h₂;unfold subscriptTail;refine wpAny_bind ?_;rw[getitemInPython_of_ne hT.not_modules];refine wpAny_bind (wpAny_specialOf hT hl ?_)
 have fin:wpAny (model prog w) A (subscripted slice false o i) (fun r s₃=>wpAny (model prog w) A (letTemporaryGo value o r >>= fun _=>pure r) Q E s₃) E s₂:=by
   rw[hs o i];exact wpAny_operating (wpAny_mono h₂ (fun r s₃ h₃=>wpAny_bind (wpAny_letTemporaryGo (wpAny_pure h₃))) fun _ _ x=>x)
 first
   | exact wpAny_pure (wpAny_bind fin)
   | exact wpAny_bind (wpAny_pure (wpAny_bind fin))
   | exact wpAny_bind fin
theorem qee {X:Cx}{pins:List (Addr×Obj)}{σ:St}{H:Hp}{s:Shared}{a:Addr}{y:V}{o:Option V} (I:Inv X pins σ H s) (g:qfp H a y o):s.TypeIs (.ref a) "dict":=by
 rcases g with ⟨kvs,k,e,_,_⟩|⟨kvs,k,b,e,_,_,_⟩
 · obtain⟨_,_,vs,_,dd⟩:=qcV I.hok e;exact dd.typeIs
 · obtain⟨_,_,xs,_,dd⟩:=qfg I.hok e;exact dd.typeIs
def qlg (td ty:TE):TE:=fun σ H Q=>td σ H fun x H1=>ty σ H1 fun y H2=>∃ a v,x=.ref a∧qfp H2 a y (some v)∧Q v H2
def qln (td ty tv:TE):TS:=fun D σ H=>tv σ H fun v H1=>td σ H1 fun x H2=>ty σ H2 fun y H3=>∃ a H4,x=.ref a∧DPut H3 a y v H4∧D.nx σ H4
section
variable {X:Cx}{o i e value:Expr}{pos pos' tpos:Pos}{td ty tv:TE}
theorem qgb (hu:X.A.units+1 < cLine) (ho:PE X o td) (hi:PE X i ty) (hs:ql4 i):PE X (.Subscript o i pos) (qlg td ty):=by
 intro pins s σ H Q I h;refine qi2 PySem.F.slot_dict_getitem.lookup hs (thn (ho pins s σ H _ I h) fun u s1 ⟨x,H1,I1,rx,q1⟩=>thn (hi pins s1 σ H1 _ I1 q1) fun iv s2 zz_=>?_);obtain⟨y,H2,I2,ry,a,v,ex,g,q2⟩:=zz_;subst ex;obtain rfl:u=Value.ref a:=rx;exact⟨qee I2 g,qgR hu I2 g ry fun w' s3 I3 rw'=>⟨v,H2,I3,rw',q2⟩⟩
theorem qf5 (hu:X.A.units+1 < cLine) (ho:PE X o td) (hi:PE X i ty) (hv:PE X value tv) (hs:swapsWith value (some (.Subscript o i pos')) pos.line X.env=pure false) :
   PS X (.Assign [.Subscript o i pos'] value pos) (qln td ty tv):=by
 intro pins s σ H D I h;refine wpAny_Assign_Subscript (thn (hv pins s σ H _ I h) fun r s1 ⟨v,H1,I1,rv,q1⟩=>thn (ho pins s1 σ H1 _ I1 q1) fun u s2 ⟨x,H2,I2,rx,q2⟩=>thn (hi pins s2 σ H2 _ I2 q2) fun iv s3 zz_=>?_) hs;obtain⟨y,H3,I3,ry,a,H4,ex,g,q3⟩:=zz_;subst ex;obtain rfl:u=Value.ref a:=rx;exact qgQ hu I3 g ry rv fun s4 I4=>⟨σ,H4,I4,q3⟩
end
theorem qib {P:Program}{w:World}{H:Hp} (h:Heap) (hb:sysModules < h.objs.size):ObjOk P w H (h.push { cls:=.type "dict",data:=.dict #[] }) h.objs.size (.dK []) :=
 ⟨Nat.zero_le _,beq_eq_false_iff_ne.mpr (Ne.symm (Nat.ne_of_lt hb)),[],.nil,Heap.DictOf.new h⟩
def qj8:TE:=fun _ H Q=>∀ p,H p=none->Q (.ref p) (upd H p (.dK []))
section
variable {X:Cx}{pos:Pos}
theorem ZV:PE X (.Dict [] [] pos) qj8:=fun pins s σ H Q I h =>
 wpAny_Dict_empty ⟨.ref s.heap.objs.size,_,I.laid (a:=s.heap.objs.size) (o:=.dK []) (t':=s.toks) (fun _ _ q=>Heap.get?_push_of_some _ q) (Nat.le_refl _) (qib s.heap I.big),rfl,h _ (I.hok.fresh (Nat.le_refl _))⟩
end
structure M1 (X:Cx) (o:Expr) (m:Str) (apos:Pos) (e:Expr) (cpos:Pos):Prop where
 base:attributeBase o m X.env (eval o X.env)=eval o X.env
 few:((backTo cpos (starEach [e] X.env)).all (fun x=>!x.1) && (backToKw cpos (keywordEach [] X.env)).all (fun x=>x.1.isSome)
   && decide (([e]:List Expr).length+([]:List Keyword).length+(if ([]:List Keyword).isEmpty then 0 else 1) < 30))=true
 line:(apos.endLine == cpos.line)=true
 trees:backTo cpos (starEach [e] X.env)=[(false,eval e X.env)]
def IsD (H:Hp) (a:Addr):Prop:=(∃ kvs,Rd H a (.dK kvs))∨∃ kvs,Rd H a (.dT kvs)
theorem qkR {X:Cx}{pins:List (Addr×Obj)}{σ:St}{H:Hp}{s:Shared}{a:Addr} (I:Inv X pins σ H s) (d:IsD H a) :
   s.TypeIs (.ref a) "dict"∧(∀ b,Value.ref a=.ref b->∃ ob,s.heap.get? b=some ob∧ob.dict=none)∧(a == sysModules)=false:=by
 rcases d with ⟨kvs,e⟩|⟨kvs,e⟩
 · obtain⟨_,hd,vs,_,dd⟩:=qcV I.hok e;refine⟨dd.typeIs,fun b q=>?_,hd⟩;cases q;obtain⟨ob,_,_,h1,h2,_⟩:=dd;exact⟨ob,h1,h2.2.1⟩
 · obtain⟨_,hd,xs,_,dd⟩:=qfg I.hok e;refine⟨dd.typeIs,fun b q=>?_,hd⟩;cases q;obtain⟨ob,_,_,h1,h2,_⟩:=dd;exact⟨ob,h1,h2.2.1⟩
def qj7 (td ty:TE):TE:=fun σ H Q=>td σ H fun x H1=>∃ a,x=.ref a∧IsD H1 a∧ty σ H1 fun y H2=>∃ kvs k v,H2 a=some (.dK kvs)∧y=kV k∧qc1 kvs k=some v∧Q v (upd H2 a (.dK (qed kvs k)))
section
variable {X:Cx}{o e f:Expr}{apos cpos:Pos}{td ty tx:TE}
theorem qhH (ho:PE X o td) (he:PE X e ty) (m:M1 X o "pop" apos e cpos):PE X (.Call (.Attribute o "pop" apos) [e] [] cpos) (qj7 td ty):=by
 intro pins s σ H Q I h;refine wpAny_Call_method m.base m.few m.line PySem.F.plainAttrs_dict PySem.F.slot_dict_pop PySem.F.type_dict_pop (thn (ho pins s σ H _ I h) fun u s1 zz_=>?_);obtain⟨x,H1,I1,rx,a,ex,d,q1⟩:=zz_;subst ex;obtain rfl:u=Value.ref a:=rx;obtain⟨t1,t2,_⟩:=qkR I1 d;refine⟨t1,t2,?_⟩;rw[m.trees];refine Calls.callWith_builtin rfl (Calls.evalArgs_plain (Calls.spliced_cons (thn (he pins s1 σ H1 _ I1 q1) fun iv s2 ⟨y,H2,I2,ry,kvs,k,v,ea,ey,l,q2⟩=>Calls.spliced_nil ?_)));subst ey;exact qlF I2 ea ry l (.inl rfl) fun w' s3 I3 rw'=>⟨v,_,I3,rw',q2⟩
end
end L2
namespace Att
open PySem PySem.W PySem.Calls PyProof.Rows
theorem qbo {P:Params}{h:Heap}:∀ (ns:List Int) (vs:List Value),WellAll P h vs (ns.map WData.int)->IntsAre vs ns:=by
 intro ns
 induction ns with
 | nil =>
   intro vs w;rw[List.map_nil]at w;cases w;exact .nil
 | cons n ns ih =>
   intro vs w;rw[List.map_cons]at w
   cases w with
   | cons a b =>
     cases a;exact .cons _ _ (ih _ b)
theorem qfT {l:OpenLaw}{n:Nat} (hn:l.most=some n) {P:Params}{h:Heap}{args:List WData}{vals:List Value}
   (hpre:l.row.toRowW.claim.pre args=true) (hwl:WellAll P h vals args) :
   ∃ a vs ns,vals=[Value.ref a]∧args=[WData.list (ns.map WData.int)]∧h.get? a=some { cls:=.type "list",data:=.seq vs.toArray }∧IntsAre vs ns∧ns.length≤n:=by
 have hsh:WShape.hasAll [] args [.list .int]=true:=(pre_splitW hpre).1;have hc:l.pre.holds [] { args:=args }=true:=(pre_splitW hpre).2;obtain⟨d,r,rfl,h1,h2⟩:=hasAllW_cons hsh;obtain rfl:=hasAllW_nil h2;obtain⟨xs,rfl,h3⟩:=hasW_list h1;obtain⟨ns,rfl⟩:=items_int h3
 have hlen:ns.length≤n:=by
   unfold OpenLaw.pre at hc
   have h4:(WTm.not (.lt (.lit (.int (n:Int))) (.len (.arg 0)))).holds [] { args:=[.list (ns.map .int)] }=true:=by
     have h4:=(holds_andW hc).1;rw[hn]at h4;exact h4
   have h5:=condW_of h4 (w_not (w_lt w_lit (w_len_list (w_arg rfl))));rw[List.length_map]at h5;refine Nat.le_of_not_lt fun q=>?_;have q':(n:Int) < ((ns.length:Nat):Int):=by omega
   first
     | (rw[decide_eq_true q']at h5;exact absurd h5 (by decide))
     | (simp at h5;omega)
 cases hwl with
 | cons w1 w2 =>
   cases w2
   cases w1 with
   | list ho hall=>exact⟨_,_,ns,rfl,rfl,ho,qbo ns _ hall,hlen⟩
theorem qf6 (l:OpenLaw) (args:List WData):l.row.toRowW.claim.post args (.bool true) args=true :=
 postW_of (r:=l.row.toRowW) (X:=(true == true))
   (show WShape.has [] (.bool true) .bool=true by first|rfl|decide|simp[WShape.has,WShape.arms,WShape.armsAll])
   (show (WTm.eq .res (.lit (.bool true))).value [] { args:=args,res:=some (.bool true),after:=args }=some (.bool (true == true)) from w_eq_bool (w_res rfl) w_lit) rfl
theorem attach_call {l:OpenLaw}{n:Nat}{q:Program}{loose:List Str}{XP:(Str->Option Value)->Heap->Prop}{YP:World->Heap->Prop}{d:DefRec}
   (hn:l.most=some n) (hdf:d.params.defaults=[])
   (call:∀ (w:World) (s₀ s₁:Shared) (mg mb:Str->Option Value) (fa:Addr) (o:Obj) (pm cd doc:Value) (a:Addr) (vs:List Value) (ns:List Int),
     Ground q loose [] XP w s₀ mg mb s₁.heap->YP w s₁.heap ->
     s₁.heap.get? fa=some o->o.data=.func (docDef d.name d.params d.body d.scope pm cd doc)->s₁.heap.CodeRec cd d.name->mg d.name=some (.ref fa) ->
     s₁.heap.get? a=some { cls:=.type "list",data:=.seq vs.toArray }->IntsAre vs ns->ns.length≤n->s₁.gens=#[] ->
     codeAny (model l.prog w) callerA (.call (.ref fa) ⟨[.ref a],[]⟩) (fun r s'=>r=.ok (.ret (.bool true))∧OldK s₁.heap s'.heap∧s'.os=s₁.os∧AllBare s'.gens) s₁) :
   WalkO q loose XP YP l.row.toRowW d [] (fun f vs=>PySem.call f vs):=by
 intro w s₀ s₁ mg mb G Y fa o pm cd doc dV kV ho hd hcd hD hmg hg args vals as hpre hlay hrd hwl hlo;obtain rfl:dV=.none:=Dflts.none hD hdf;obtain rfl:kV=.none:=Dflts.noKw hD;obtain⟨a,vs,ns,rfl,rfl,hobj,hints,hlen⟩:=qfT hn hpre hwl;refine enter_call (codeAny_mono (call w s₀ s₁ mg mb fa o pm cd doc a vs ns G Y ho (fd_plain hd) hcd hmg hobj hints hlen hg) fun r s' hq=>?_);obtain⟨rfl,h2,h3,h4⟩:=hq;exact⟨.inl ⟨.bool true,.bool true,[],rfl,fun _=>rfl,.bool true,qf6 l _,fun _=>⟨List.Pairwise.nil,fun _ hm=>(nomatch hm)⟩⟩,h2,h3,h4⟩
end Att
namespace L2
open PySem PySem.Spec PyProof.Rows
open PySem.W (Frag keepIn kitOne fnOf codeIn)
theorem qcZ:∀ {vs:List Value}{ns:List Int},IntsAre vs ns->Vals (ns.map V.int) vs
 | _,_,.nil=>.nil
 | _,_,.cons n t h=>.cons ⟨t,rfl⟩ (qcZ h)
def qF (s:Stmt) (j:Nat):Stmt:=match s with
 | .ClassDef _ _ _ body _ _ _ _ _ _ _=>body.getD j (.Pass ⟨0,0,0,0⟩)
 | _=>.Pass ⟨0,0,0,0⟩
def QA (s:Stmt):Arguments:=match s with
 | .FunctionDef _ a _ _ _ _ _ _ _ _=>a
 | _=>{ posonlyargs:=[],args:=[],vararg:=none,kwonlyargs:=[],kw_defaults:=[],kwarg:=none,defaults:=[] }
def zH (s:Stmt):List Stmt:=match s with
 | .FunctionDef _ _ b _ _ _ _ _ _ _=>b
 | _=>[]
def qh (s:Stmt):Scope:=match s with
 | .FunctionDef _ _ _ _ _ _ sc _ _ _=>sc
 | _=>{ kind:=.function,names:=[],isGenerator:=false,isCoroutine:=false }
abbrev CX0:CXT:=fun _ _ _ _ _ _=>False
abbrev E0:XK:=fun _ _ _=>False
theorem qq {X:Cx}:jC CX0 X E0:=fun _ _ _ _ _ _ _ h=>h.elim
structure Fun (K:Frag) (x qual:Str) (st:Stmt) (f:Addr) (fd:FuncData):Prop where
 ex:∃ (oc:Value) (od:Option Addr) (kV doc pm:Value) (an:Option Addr) (cdv ct:Value) (osl:Array (Option Value)),
   fd=fnOf x qual (QA st) (zH st) (qh st) .none kV doc pm an cdv ct∧K.lookup f=some ⟨oc,od,.func fd,osl⟩∧codeIn K cdv qual=true
 kp:keepIn K (.ref f)=true
section
variable {P:Program}{w:World}{K:Frag}{mg:Str->Option Value}{base:Heap}
theorem Fun.ok {x qual:Str}{st:Stmt}{f:Addr}{fd:FuncData}{N ps:List Str}{k:Nat}{sp:Sp} (F:Fun K x qual st f fd) (S:qo N ps (qh st)) (len:∀ vs H Q E,sp vs H Q E->vs.length=ps.length)
   (hbody:∀ (cdv:Value) (A:Around) (outer:List Env) (s:Shared) (H:Hp) (vs:List V) (Q:VK) (E:XK),Room k (A.deeper (envOfC qual (qh st) s.heap.objs.size f cdv))->sp vs H Q E ->
     ∃ t,PSs (zf CX0 P w K mg base N qual (qh st) f cdv A outer s H E).nox (zH st) t∧t { nx:=fun _ H'=>Q .non H',rt:=Q } (qby N vs) H):qu P w K mg base CX0 (k+1) f fd ps sp:=by
 obtain⟨oc,od,kV,doc,pm,an,cdv,ct,osl,rfl,lk,hcd⟩:=F.ex;refine qjF lk hcd S len fun A outer s H vs Q E hr hsp=>?_;obtain⟨t,h,q⟩:=hbody cdv A outer s H vs Q E hr hsp;exact⟨t,h.nox,q⟩
theorem Fun.binds {x qual:Str}{st:Stmt}{f:Addr}{fd:FuncData}{ps:List Str} (F:Fun K x qual st f fd)
   (h:∀ (kV doc pm:Value) (an:Option Addr) (cdv ct:Value) (us:List Value),us.length=ps.length->bindArgs (fnOf x qual (QA st) (zH st) (qh st) .none kV doc pm an cdv ct) ⟨us,[]⟩=pure (ps.zip us)):Binds K fd ps []:=by
 obtain⟨oc,od,kV,doc,pm,an,cdv,ct,osl,rfl,lk,hcd⟩:=F.ex;exact .all (h kV doc pm an cdv ct)
theorem qeS {x qual:Str}{st:Stmt}{f:Addr}{oc:Value}{od an:Option Addr}{osl:Array (Option Value)}{kV doc pm cdv ct:Value} (l:K.lookup f=some ⟨oc,od,.func (fnOf x qual (QA st) (zH st) (qh st) .none kV doc pm an cdv ct),osl⟩)
   (c:codeIn K cdv qual=true) (k:keepIn K (.ref f)=true):Fun K x qual st f (fnOf x qual (QA st) (zH st) (qh st) .none kV doc pm an cdv ct):=⟨⟨oc,od,kV,doc,pm,an,cdv,ct,osl,rfl,l,c⟩,k⟩
end
theorem qG {A:Around}{k:Nat} (hr:Room k A):A.units+1 < cLine:=Nat.lt_of_le_of_lt (Nat.add_le_add_left (by decide:1≤64) _) hr.units
theorem zc {n:Nat} (h:n≤1000):n < sizeLine:=Nat.lt_of_le_of_lt h (by decide)
section
variable {X:Cx}
theorem pv (i:Nat) {x:Str}{pos:Pos} (hN:X.N[i]?=some x:=by rfl) (hv:Vis X.env.scope x:=by first|exact Or.inl rfl|exact Or.inr (Or.inl rfl)|exact Or.inr (Or.inr rfl)) (hd:(x == ("__debug__":Str))=false:=by decide)
   (hcd:(x == ("__classdict__":Str))=false:=by decide):PE X (.Name x pos) (qjO i):=qks hN hv hd hcd
theorem Jj:Zg X (.builtin "len") (fun xs H Q=>∃ a kvs,xs=[V.ref a]∧H a=some (.dK kvs)∧Q (.int kvs.length) H):=by
 intro pins s σ H xs us Q I r h;obtain⟨a,kvs,rfl,ha,q⟩:=h;obtain⟨u,rfl,ru⟩:=qau r;cases ru;exact qlG I (.inl ha) fun t s' I'=>⟨.int kvs.length,H,I',⟨t,rfl⟩,q⟩
end
theorem qjy {A B:Prop} (h:B):if false=true then A else B:=by
 rw[if_neg Bool.false_ne_true];exact h
theorem qgA {A B:Prop} (h:A):if true=true then A else B:=by
 rw[if_pos rfl];exact h
def Same (H H':Hp):Prop:=∀ b o,H b=some o->H' b=some o
theorem Same.refl (H:Hp):Same H H:=fun _ _ h=>h
theorem Same.trans {H H1 H2:Hp} (a:Same H H1) (b:Same H1 H2):Same H H2:=fun c o h=>b c o (a c o h)
section
variable {X:Cx}{pins:List (Addr×Obj)}{σ:St}{H:Hp}{s:Shared}{h':Heap}
theorem Inv.turnLaid {ch:List Addr}{a:Addr}{o:HO}{t':Nat} (I:Inv X pins σ H s) (k:∀ b u,b∉ch->s.heap.get? b=some u->h'.get? b=some u) (hf:∀ b∈ch,qeZ X pins H b)
   (hp:s.heap.objs.size≤a) (new:ObjOk X.prog X.w (upd H a o) h' a o):Inv X pins σ (upd H a o) { s with heap:=h',toks:=t' }:=by
 have hn:H a=none:=I.hok.fresh hp;refine I.step (g':=s.gens) (d':=s.drawn) (ch:=ch) (fun b hb=>?_) (fun b u _ _ hc e _=>k b u hc e) (fun b u _ _ hc e _=>⟨u.slots,k b u hc e⟩)
   (fun b u _ e n=>?_) (fun b u hc e=>⟨u,k b u hc e⟩) (fun b xs e=>?_) (fun b u v e=>?_) (fun b ps e=>?_) (fun m hm=>?_) (fun b u e=>?_) I.bare
 · obtain⟨_,f1,_,f3,f4,f5⟩:=hf b hb;exact⟨f3,f1,f4,f5⟩
 · rw[qg (Nat.ne_of_lt (Nat.lt_of_lt_of_le (Heap.lt_size e) hp))];exact n
 · rw[qg (qi e hn)];exact e
 · rw[qg (qi e hn)];exact e
 · exact⟨#[],by rw[qg (qi e hn),e];simp⟩
 · obtain⟨ob,es,ep,ho,r⟩:=hm;exact⟨ob,es,ep,k _ ob (fun z=>(hf _ z).2.1 rfl) ho,r⟩
 · by_cases hb:b=a
   · subst hb;rw[qd]at e;cases e;exact new
   · rw[qg hb]at e;refine(I.hok b u e).stay (fun c v hc q=>k c v ?_ q) (fun c q=>by rw[qg (qi q hn)];exact q) fun c xs q=>by rw[qg (qi q hn)];exact q
     intro z;have zz:=(hf c z).1;rcases hc with rfl|hc
     · rw[e]at zz;cases zz
     · rw[hc]at zz;cases zz
theorem Inv.turnL {ch:List Addr}{t':Nat} (I:Inv X pins σ H s) (k:∀ b u,b∉ch->s.heap.get? b=some u->h'.get? b=some u) (hf:∀ b∈ch,qeZ X pins H b) :
   Inv X pins σ H { s with heap:=h',toks:=t' }:=by
 refine I.step (g':=s.gens) (d':=s.drawn) (ch:=ch) (fun b hb=>?_) (fun b u _ _ hc e _=>k b u hc e) (fun b u _ _ hc e _=>⟨u.slots,k b u hc e⟩)
   (fun b u _ e n=>n) (fun b u hc e=>⟨u,k b u hc e⟩) (fun b xs e=>e) (fun b u v e=>e) (fun b ps e=>⟨#[],by rw[e];simp⟩) (fun m hm=>?_) (fun b u e=>?_) I.bare
 · obtain⟨_,f1,_,f3,f4,f5⟩:=hf b hb;exact⟨f3,f1,f4,f5⟩
 · obtain⟨ob,es,ep,ho,r⟩:=hm;exact⟨ob,es,ep,k _ ob (fun z=>(hf _ z).2.1 rfl) ho,r⟩
 · refine(I.hok b u e).stay (fun c v hc q=>k c v ?_ q) (fun c q=>q) fun c xs q=>q;intro z;have zz:=(hf c z).1;rcases hc with rfl|hc
   · rw[e]at zz;cases zz
   · rw[hc]at zz;cases zz
end
def Ite (K:Frag) (a:Addr):It :=
 ⟨fun i H=>∃ xs x,SqL K H a xs∧xs[i]?=some x,
  fun i H x H'=>∃ p v,H p=none∧x=.ref p∧(∀ xs,SqL K H a xs->xs[i]?=some v)∧H'=upd H p (.tup [.int i,v]),
  fun i H=>∃ xs,SqL K H a xs∧xs.length≤i⟩
theorem qfE {P:Program}{w:World}{K:Frag}{elts:List Expr}{k:Nat}{pos:Pos} (a e it:Addr) (hne:e≠it) :
   qk4 P w K (.Tuple elts k pos) (Ite K a) [e,it] e (fun i h=>(∃ old,IsEnum h e it i old)∧h.IsListIter it a i) where
 mem:=by simp
 obj:=fun i h st b hb=>by
   obtain⟨⟨old,he⟩,hit⟩:=st;rcases List.mem_cons.mp hb with rfl|hb
   · exact⟨_,he,fun v z=>by cases z⟩
   · have e1:b=it:=by simpa using hb
     subst e1;obtain⟨o,q,c,d⟩:=hit;exact⟨o,q,fun v z=>by rw[d]at z;cases z⟩
 keep:=fun i h h' st kk=>by
   obtain⟨⟨old,he⟩,hit⟩:=st;exact⟨⟨old,kk e (by simp) _ he⟩,hit.at fun o q=>kk it (by simp) o q⟩
 item:=by
   intro X hP hw hK hc i pins s σ H E I hf st hg;subst hP hw hK;obtain⟨xs,x,hq,hx⟩:=hg;obtain⟨its,rv,p,hz⟩:=I.list hq;obtain⟨u,hu,ru⟩:=rv.get hx;obtain⟨⟨old,he⟩,hit⟩:=st;refine wpAny_pyNext_enum_item he hit p.isList (x:=u) (by simpa using hu) hne fun h1 ho hit1 hT hsz hk=>?_;refine⟨_,rfl,wpAny_letOwnedTupleGo_enum (s:={ s with heap:=h1,toks:=s.toks+1 }) ho fun h2 he2 hs2=>?_⟩;have hel:e < s.heap.objs.size:=Heap.lt_size he;have hil:it < s.heap.objs.size:=by obtain⟨_,q,_⟩:=hit;exact Heap.lt_size q
   have hT2:h2.get? s.heap.objs.size=some { cls:=.type "tuple",data:=.seq #[.int i s.toks,u] }:=(hs2.2 _ (Nat.ne_of_gt hel)).trans hT
   have I1:Inv X pins σ (upd H s.heap.objs.size (.tup [.int i,x])) { s with heap:=h2,toks:=s.toks+1 }:=by
     refine I.turnLaid (ch:=[e,it]) (fun b o hb q=>?_) hf (Nat.le_refl _) ⟨by show 2≤sizeLine;decide,[.int i s.toks,u],.cons ⟨_,rfl⟩ (.cons ru .nil),⟨_,hT2,rfl,_,rfl⟩⟩;have b1:b≠e:=fun z=>hb (by simp[z]);have b2:b≠it:=fun z=>hb (by simp[z]);exact(hs2.2 b b1).trans (hk b o b1 b2 q)
   refine⟨.ref s.heap.objs.size,_,I1,rfl,⟨_,x,I.hok.fresh (Nat.le_refl _),rfl,fun ys hy=>by rw[I.list_inj hy hq];exact hx,rfl⟩,⟨⟨_,by simpa using he2⟩,hit1.at fun o q=>(hs2.2 it hne.symm).trans q⟩,fun b hb=>?_⟩
   have hbl:b < s.heap.objs.size:=by
     rcases List.mem_cons.mp hb with rfl|hb
     · exact hel
     · have e1:b=it:=by simpa using hb
       rw[e1];exact hil
   rw[qg (Nat.ne_of_lt hbl)];exact(hf b hb).1
 done:=by
   intro X hP hw hK hc i pins s σ H E I hf st hg;subst hP hw hK;obtain⟨xs,hq,hx⟩:=hg;obtain⟨its,rv,p,hz⟩:=I.list hq;obtain⟨⟨old,he⟩,hit⟩:=st;have hl:=rv.length;refine wpAny_pyNext_enum_end (I.ok.hd hc) he hit p.isList (by simp;omega) fun h' eb=>⟨rfl,I.turnL (t':=s.toks) (ch:=[e,it]) (fun b o hb q=>eb b o (fun z=>hb (by simp[z])) q) hf⟩
 self:=fun _ _ _ _ _ st h=>by
   obtain⟨⟨old,he⟩,_⟩:=st;exact wpAny_pyIter_enum he h
theorem qg6:bootBuiltins "enumerate"=some (.type "enumerate"):=by decide +kernel
inductive qgF (K:Frag) (R:(It->Hp->Prop)) (vs:List V) (H1:Hp):Prop
 | mk (a:_) (h1:vs=[.ref a]) (h2:(∃ xs,SqL K H1 a xs)) (h3:R (Ite K a) H1):qgF K R vs H1
def qlA (K:Frag) (ta:TA):TI:=fun σ H R=>ta σ H fun vs H1=>qgF K R vs H1
section
variable {X:Cx}
theorem qf9 {a:Expr}{ta:TA}{p pos tp:Pos}{elts:List Expr}{kk:Nat} (hg:Gl X "enumerate") (hm:X.mg "enumerate"=none) (ha:PA X [a] ta) (hs:starEach [a] X.env=[(false,eval a X.env)]:=by rfl) :
   PI X (.Tuple elts kk tp) (.Call (.Name "enumerate" p) [a] [] pos) (qlA X.K ta):=by
 intro pins s σ H R I h;refine Call_ (qbi I hg hm qg6 (PyProof.Rows.callWith_type1 (thn (ha pos pins s σ H _ I h) fun us s1 zz_=>?_) hs rfl));obtain⟨vs,H1,I1,r1,q1⟩:=zz_;obtain⟨l,e,⟨xs,hq⟩,q⟩:=q1;subst e;obtain⟨u,rfl,ru⟩:=qau r1;cases ru;obtain⟨its,rv,pl,hz⟩:=I1.list hq;refine call_enumerate_list pl.isList fun h' he hit hsz hk=>?_;have I2:Inv X pins σ H1 { s1 with heap:=h' }:=I1.kept (t':=s1.toks) hk;refine wpAny_pyIter_enum he ⟨s1.heap.objs.size+1,[s1.heap.objs.size+1,s1.heap.objs.size],_,Ite X.K l,H1,rfl,I2,qfE l _ _ (Nat.succ_ne_self _),⟨⟨_,he⟩,hit⟩,fun b hb=>?_,q⟩
 have hb1:s1.heap.objs.size≤b:=by
   rcases List.mem_cons.mp hb with e1|hb
   · rw[e1];exact Nat.le_succ _
   · have e1:b=s1.heap.objs.size:=by simpa using hb
     rw[e1];exact Nat.le_refl _
 exact I1.fpOk hb1 (I1.hok.fresh hb1)
end
theorem qeU {K:Frag}{a:Addr}{xs:List V}{g:TG}{tb:TS}{D:qhg}{σ:St}{H:Hp} (Pv:Nat->St->Hp->Prop) (h0:Pv 0 σ H) (hl:∀ i σ H,i≤xs.length->Pv i σ H->SqL K H a xs)
   (hs:∀ i x σ H p,xs[i]?=some x->Pv i σ H->H p=none->g (.ref p) σ (upd H p (.tup [.int i,x])) fun σ2 H2=>tb { D with nx:=Pv (i+1),ct:=Pv (i+1),bk:=D.nx } σ2 H2) (hd:∀ σ H,Pv xs.length σ H->D.nx σ H) :
   ∃ W:Nat->Nat->St->Hp->Prop,(∃ m,W 0 m σ H)∧∀ i m σ H,W i m σ H ->
     ((Ite K a).stop i H∧D.nx σ H)∨((Ite K a).go i H∧∃ N:St->Hp->Prop,(∀ σ' H',N σ' H'->∃ m',m' < m∧W (i+1) m' σ' H')∧∀ x H',(Ite K a).yld i H x H'->g x σ H' fun σ2 H2=>tb { D with nx:=N,ct:=N,bk:=D.nx } σ2 H2):=by
 refine⟨fun i m σ H=>m=xs.length - i∧i≤xs.length∧Pv i σ H,⟨xs.length,by simp,Nat.zero_le _,h0⟩,?_⟩;rintro i m σ H ⟨rfl,hi,p⟩;have q:=hl i σ H hi p;by_cases hlt:i < xs.length
 · refine .inr ⟨⟨xs,xs[i],q,by simp[hlt]⟩,Pv (i+1),fun σ' H' p'=>⟨xs.length - (i+1),by omega,rfl,hlt,p'⟩,fun x H' y=>?_⟩;obtain⟨t,v,hn,rfl,y,rfl⟩:=y;exact hs i v σ _ t (y xs q) p hn
 · have e:i=xs.length:=by omega
   subst e;exact .inl ⟨⟨xs,q,Nat.le_refl _⟩,hd σ H p⟩
def tyN (H:Hp):V->Option String
 | .non=>some "NoneType"
 | .bl _=>some "bool"
 | .int _=>some "int"
 | .str _=>some "str"
 | .ref a=>match H a with
   | some (.lst _)=>some "list"
   | some (.tup _)=>some "tuple"
   | some (.dK _)=>some "dict"
   | _=>none
 | _=>none
def qhi (c t:String):Bool:=t == c || (t == "bool" && c == "int")
theorem qem {K:Frag}{H:Hp}{v:V}{t:String} (h:tyN H v=some t):qdU K H v (.type t):=by
 cases v with
 | non=>cases h;exact .non
 | bl b=>cases h;exact .bl b
 | int b=>cases h;exact .int b
 | str b=>cases h;exact .str b
 | byt b=>cases h
 | flt b=>cases h
 | ty b=>cases h
 | ref a =>
   simp only[tyN]at h;split at h
   · rename_i e;cases h;exact .lst e
   · rename_i e;cases h;exact .tup e
   · rename_i e;cases h;exact .dK e
   · cases h
def qcm:List String:=["NoneType","bool","int","str","list","tuple","dict"]
theorem qfA {H:Hp}{v:V}{t:String} (h:tyN H v=some t):t∈qcm:=by
 cases v with
 | non=>cases h;decide
 | bl b=>cases h;decide
 | int b=>cases h;decide
 | str b=>cases h;decide
 | byt b=>cases h
 | flt b=>cases h
 | ty b=>cases h
 | ref a =>
   simp only[tyN]at h;split at h<;>first|(cases h;decide)|cases h
def qcR:List String:=["bool","int","str","list","tuple","dict"]
theorem qkQ (K:Frag) {t c:String} (ht:t∈qcm) (hc:c∈qcR):kitOne K (.type t) (.type c)=some (qhi c t):=by
 simp only[qcm,qcR,List.mem_cons,List.not_mem_nil,or_false]at ht hc;rcases ht with rfl|rfl|rfl|rfl|rfl|rfl|rfl<;>rcases hc with rfl|rfl|rfl|rfl|rfl|rfl<;>(unfold kitOne PySem.W.kitCls;rfl)
inductive qiy (xs:List V) (H:Hp) (Q:VK):Prop
 | mk (x c t:_) (h1:xs=[x,.ty c]) (h2:c∈qcR) (h3:tyN H x=some t) (h4:Q (.bl (qhi c t)) H):qiy xs H Q
def qmk:List V->Hp->VK->Prop:=fun xs H Q=>qiy xs H Q
section
variable {X:Cx}
theorem zC:Zg X (.builtin "isinstance") qmk:=by
 intro pins s σ H xs us Q I r h;obtain⟨x,c,t,rfl,hc,ht,q⟩:=h;obtain⟨u,w',rfl,ru,rw'⟩:=qc0 r;cases (show w'=Value.type c from rw');exact qdJ I ru (qem ht) (qkQ X.K (qfA ht) hc) fun tk=>⟨.bl _,H,I.tok tk,rfl,q⟩
end
mutual
inductive DV (H:Hp):V->PyData->Prop
 | non:DV H .non .none
 | bl (b):DV H (.bl b) (.bool b)
 | int (i):DV H (.int i) (.int i)
 | str (x):DV H (.str x) (.str x)
 | lst {a xs ds}:Rd H a (.lst xs)->DVs H xs ds->DV H (.ref a) (.list ds)
 | tup {a xs ds}:Rd H a (.tup xs)->DVs H xs ds->DV H (.ref a) (.tuple ds)
inductive DVs (H:Hp):List V->List PyData->Prop
 | nil:DVs H [] []
 | cons {x xs d ds}:DV H x d->DVs H xs ds->DVs H (x::xs) (d::ds)
end
section
variable {P:Program}{w:World}{H:Hp}{h:Heap}
mutual
theorem DV.reads (ok:HOk P w H h):∀ {v:V}{d:PyData}{u:Value},DV H v d->RelV v u->∃ as,Reads h u d as
 | _,_,u,.non,r=>by cases (show u=Value.none from r);exact⟨_,.none⟩
 | _,_,u,.bl b,r=>by cases (show u=Value.bool b from r);exact⟨_,.bool b⟩
 | _,_,u,.int i,r=>by obtain⟨t,q⟩:=(show ∃ t,u=Value.int i t from r);cases q;exact⟨_,.int i t⟩
 | _,_,u,.str x,r=>by obtain⟨t,q⟩:=(show ∃ t,u=Value.str x t from r);cases q;exact⟨_,.str x t⟩
 | _,_,u,.lst (a:=a) rd q,r=>by
   cases (show u=Value.ref a from r);obtain⟨_,its,n,rv,e⟩:=rd.ok ok;obtain⟨as,z⟩:=DVs.reads ok q rv;exact⟨_,.list e rfl rfl z⟩
 | _,_,u,.tup (a:=a) rd q,r=>by
   cases (show u=Value.ref a from r);obtain⟨_,its,rv,ob,e,c,n,d⟩:=rd.ok ok;obtain⟨as,z⟩:=DVs.reads ok q rv;exact⟨_,.tuple e c d z⟩
theorem DVs.reads (ok:HOk P w H h):∀ {vs:List V}{ds:List PyData}{us:List Value},DVs H vs ds->Vals vs us->∃ as,ReadsAll h us ds as
 | _,_,_,.nil,.nil=>⟨_,.nil⟩
 | _,_,_,.cons a b,.cons r t=>by
   obtain⟨as,z⟩:=DV.reads ok a r;obtain⟨bs,y⟩:=DVs.reads ok b t;exact⟨_,.cons z y⟩
end
end
section
variable {X:Cx}
inductive qiA (x:V) (y:V) (H:Hp) (Q:VK):Prop
 | mk (d e:_) (h1:DV H x d) (h2:DV H y e) (h3:SeqAt.shaped d=true) (h4:SeqAt.shaped e=true) (h5:Q (.bl (PyData.eqv d e)) H):qiA x y H Q
def qlY:R2:=fun x y H Q=>qiA x y H Q
inductive qiu (x:V) (y:V) (H:Hp) (Q:VK):Prop
 | mk (d e:_) (h1:DV H x d) (h2:DV H y e) (h3:SeqAt.shaped d=true) (h4:SeqAt.shaped e=true) (h5:Q (.bl (!PyData.eqv d e)) H):qiu x y H Q
def qlT:R2:=fun x y H Q=>qiu x y H Q
theorem qky (hu:X.A.units+64 < cLine):OpR X (compareOp .Eq) qlY:=by
 intro pins s σ H x y v u Q I rx ry h;obtain⟨d,e,hd,he,sd,se,q⟩:=h;obtain⟨as,ra⟩:=hd.reads I.hok rx;obtain⟨bs,rb⟩:=he.reads I.hok ry;exact eq_dataH ra rb sd se hu ⟨.bl _,H,I,rfl,q⟩
theorem qkw (hu:X.A.units+64 < cLine):OpR X (compareOp .NotEq) qlT:=by
 intro pins s σ H x y v u Q I rx ry h;obtain⟨d,e,hd,he,sd,se,q⟩:=h;obtain⟨as,ra⟩:=hd.reads I.hok rx;obtain⟨bs,rb⟩:=he.reads I.hok ry;exact ne_dataH ra rb sd se hu ⟨.bl _,H,I,rfl,q⟩
def qlv:R2:=fun x y H Q=>rI0 (fun i j=>.int (i+j)) x y H Q∨qlZ x y H Q∨∃ i j,x=.str i∧y=.str j∧i.length+j.length≤sizeLine∧Q (.str (i++j)) H
theorem qab:OpR X (binaryOp .Add) qlv:=op_add.or (op_cat.or qe8)
def qmn:R2:=fun x y H Q=>rEq x y H Q∨qlY x y H Q
def qmj:R2:=fun x y H Q=>rNe x y H Q∨qlT x y H Q
theorem uEq (hU:X.A.units+64 < cLine):OpR X (compareOp .Eq) qmn:=op_eq.or (qky hU)
theorem uNe (hU:X.A.units+64 < cLine):OpR X (compareOp .NotEq) qmj:=op_ne.or (qkw hU)
end
theorem qbu:bootBuiltins "tuple"=some (.type "tuple"):=by decide +kernel
theorem zI:bootBuiltins "list"=some (.type "list"):=by decide +kernel
theorem qdN:bootBuiltins "int"=some (.type "int"):=by decide +kernel
theorem JC:bootBuiltins "bool"=some (.type "bool"):=by decide +kernel
theorem qdM:bootBuiltins "str"=some (.type "str"):=by decide +kernel
theorem qE:bootBuiltins "len"=some (.builtin "len"):=by decide +kernel
theorem qbv:bootBuiltins "max"=some (.builtin "max"):=by decide +kernel
theorem qg5:bootBuiltins "min"=some (.builtin "min"):=by decide +kernel
theorem qm:bootBuiltins "isinstance"=some (.builtin "isinstance"):=by decide +kernel
structure Df (K:Frag) (mg:Str->Option Value) (x:Str) (st:Stmt) (ps:List Str) (f:Addr) (fd:FuncData):Prop where
 F:Fun K x x st f fd
 b:Binds K fd ps []
 m:mg x=some (.ref f)
 k:keepIn K (.ref f)=true
theorem Same.new {H:Hp}{p:Addr} (o:HO) (h:H p=none):Same H (upd H p o):=fun b u e=>by rw[qg (qi e h)];exact e
theorem Same.then {H H1:Hp} (s:Same H H1) {p:Addr} (o:HO) (h:H1 p=none):Same H (upd H1 p o):=s.trans (Same.new o h)
def But (p:Addr) (H H':Hp):Prop:=∀ b o,H b=some o->b≠p->H' b=some o
theorem But.refl (p:Addr) (H:Hp):But p H H:=fun _ _ h _=>h
theorem But.trans {p:Addr}{H H1 H2:Hp} (a:But p H H1) (b:But p H1 H2):But p H H2:=fun c o h n=>b c o (a c o h n) n
theorem But.put {p:Addr}{H H1:Hp} (s:But p H H1) (o:HO):But p H (upd H1 p o):=fun b u e n=>by rw[qg n];exact s b u e n
theorem But.same {p:Addr}{H H1 H2:Hp} (a:But p H H1) (b:Same H1 H2):But p H H2:=fun c o h n=>b c o (a c o h n)
theorem qk {n:Nat} (h:n≤1000):n≤sizeLine:=Nat.le_of_lt (zc h)
theorem qN {b:Bool}{A B:Prop} (e:b=false) (h:B):if b=true then A else B:=by rw[e];exact qjy h
theorem zU {b:Bool}{A B:Prop} (e:b=true) (h:A):if b=true then A else B:=by rw[e];exact qgA h
theorem qkP {b:Bool}{A B:Prop} (h1:b=true->A) (h2:b=false->B):if b=true then A else B:=by
 cases b
 · exact qjy (h2 rfl)
 · exact qgA (h1 rfl)
theorem zg {c A B:Prop} [Decidable c] (h1:c->A) (h2:¬ c->B):if (decide c)=true then A else B:=by
 by_cases h:c
 · rw[decide_eq_true h];exact qgA (h1 h)
 · rw[decide_eq_false h];exact qjy (h2 h)
theorem qkO {c A B:Prop} [Decidable c] (h1:¬ c->A) (h2:c->B):if (!decide c)=true then A else B:=by
 by_cases h:c
 · rw[decide_eq_true h];exact qjy (h2 h)
 · rw[decide_eq_false h];exact qgA (h1 h)
section
variable {prog:Program}{w:World}{A:Around}{R:Result->Shared->Prop}{s:Shared}
abbrev noE:Value->Shared->Prop:=fun _ _=>False
theorem qbs {elt target iter:Expr}{ifs:List Expr}{scope:Scope}{pos:Pos}{it acc:Value}{env:Env} (I:Nat->Shared->Prop)
   (turn:∀ n s,I n s->wpAny (model prog w) A (pyNext it) (fun r s₁=>match r with
     | none=>R (.ok .next) s₁
     | some v=>wpAny (model prog w) A (letOwnedTupleGo target it v) (fun _ s₀=>wpAny (model prog w) A (assign target env v) (fun _ s₂ =>
         wpAny (model prog w) A (forIn ifs true fun c r=>if r=true then do let ok ← isTrue c env (eval c env);pure (ForInStep.yield ok) else pure (ForInStep.yield r)) (fun ok s₃ =>
           if ok=true then wpAny (model prog w) A (eval elt env) (fun x s₄ =>
             wpAny (model prog w) A (call (.builtin "list.append") [acc,x]) (fun _ s₅=>∃ m,m < n∧I m s₅) noE s₄) noE s₃
           else ∃ m,m < n∧I m s₃) noE s₂) noE s₀) noE s₁) noE s)
   (n:Nat) (h:I n s) :
   codeAny (model prog w) A (.compLoop (.ListComp elt [⟨target,iter,ifs,0⟩] scope pos) 0 it acc env) R s:=by
 refine codeAny_loop rfl I (fun n s hI=>?_) n h;show wpAny _ A ((compTurn (.ListComp elt [⟨target,iter,ifs,0⟩] scope pos) 0 it acc env).onRaise (fun x=>do noteFrame x env;theTreesLotGoes x)) _ _ s;refine wpAny_noted ?_;rw[compTurn_list];refine wpAny_bind (wpAny_standAt (wpAny_bind (wpAny_mono (turn n s hI) (fun r s₁ h₁=>?_) fun _ _ h'=>h'.elim)))
 cases r with
 | none=>exact wpAny_pure h₁
 | some v =>
   refine wpAny_bind (wpAny_mono h₁ (fun _ s₀ h₀=>?_) fun _ _ h'=>h'.elim);refine wpAny_bind (wpAny_mono h₀ (fun _ s₂ h₂=>wpAny_bind (wpAny_mono h₂ (fun ok s₃ h₃=>?_) fun _ _ h'=>h'.elim)) fun _ _ h'=>h'.elim)
   cases ok with
   | false=>exact wpAny_pure ⟨rfl,h₃⟩
   | true =>
     exact wpAny_bind (wpAny_bind (wpAny_mono h₃ (fun x s₄ h₄=>wpAny_bind (wpAny_mono h₄ (fun _ s₅ h₅=>wpAny_pure (wpAny_pure ⟨rfl,h₅⟩)) fun _ _ h'=>h'.elim)) fun _ _ h'=>h'.elim))
end
def q8 (X:Cx) (scope:Scope) (N:List Str) (cl:List (Str×Addr)) (C:Addr) (s₀:Shared) (H₀:Hp) (ex:List Addr) (pn:List (Addr×Obj)):Cx where
 prog:=X.prog
 w:=X.w
 K:=X.K
 mg:=X.mg
 base:=X.base
 A:=X.A
 N:=N
 s₀:=s₀
 H₀:=H₀
 env:=compEnvC scope cl C X.env
 outer:=X.stack
 stack:=X.stack
 ex:=ex
 fn:=fun x=>!(cl.lookup x).isSome
 calm:=X.calm
 pn:=pn
 xe:=noE
def st0 (js:List (Option Nat)) (σ:St):St:=js.map fun o=>o.bind fun j=>(σ[j]?).join
def PTs (X:Cx) (ifs:List Expr) (t:TT):Prop :=
 ∀ (pins:List (Addr×Obj)) (s:Shared) (σ:St) (H:Hp) (Q:Bool->Hp->Prop),Inv X pins σ H s->t σ H Q ->
   wpAny (model X.prog X.w) X.A (forIn ifs true fun c r=>if r=true then do let ok ← isTrue c X.env (eval c X.env);pure (ForInStep.yield ok) else pure (ForInStep.yield r)) (TP X pins σ Q) X.xe s
def qma:TT:=fun _ H Q=>Q true H
theorem qd4 {X:Cx}:PTs X [] qma:=fun _ _ _ H _ I h=>wpAny_tests_nil ⟨H,I,h⟩
theorem qaZ {X:Cx}{c:Expr}{t:TT} (h:PT X c t):PTs X [c] t:=fun pins s σ H Q I q=>wpAny_tests_one (h pins s σ H Q I q)
def Ji (J:It) (g:TG) (tt:TT) (te:TE) (D:Addr) (Q:VK) (σ0:St) (H0:Hp):Prop :=
 ∃ W:Nat->Nat->St->Hp->Prop,(∃ m,W 0 m σ0 H0)∧∀ i m σ' H',W i m σ' H' ->
   (J.stop i H'∧Q (.ref D) H')∨(J.go i H'∧∃ N:St->Hp->Prop,(∀ σ2 H2,N σ2 H2->∃ m',m' < m∧W (i+1) m' σ2 H2) ∧
     ∀ x H2,J.yld i H' x H2->g x σ' H2 fun σ3 H3=>tt σ3 H3 fun ok H4=>if ok=true then te σ3 H4 fun y H5=>∃ ys,H5 D=some (.lst ys)∧ys.length < sizeLine∧N σ3 (upd H5 D (.lst (ys++[y]))) else N σ3 H4)
def qhq (wi:TI) (g:TG) (tt:TT) (te:TE) (js:List (Option Nat)):TE:=fun σ H Q=>wi σ H fun J H1=>∀ D,H1 D=none->Ji J g tt te D Q (st0 js σ) (upd H1 D (.lst []))
structure CompOk (X:Cx) (scope:Scope) (N:List Str) (cl:List (Str×Addr)) (js:List (Option Nat)):Prop where
 clos:closureFor scope X.env=pure cl
 sub:∀ x c,cl.lookup x=some c->X.env.cells.lookup x=some c
 all:∀ x,((relabel scope X.env).names.lookup x=some .cell∨(relabel scope X.env).names.lookup x=some .free)->∃ c,cl.lookup x=some c
 cell:∀ y∈scope.names,y.2≠.cell
 kind:scope.kind=.function
 names:∀ y∈scope.names,y.2=.local->scope.names.lookup y.1=some .local
 len:js.length=N.length
 fr:∀ (i j:Nat) (x:Str),js[i]?=some (some j)->N[i]?=some x->X.N[j]?=some x∧X.env.kindOf x=some .cell∧((relabel scope X.env).names.lookup x=some .cell∨(relabel scope X.env).names.lookup x=some .free)
section
variable {X:Cx}
theorem qi5 {js:List (Option Nat)}{σ:St}{i:Nat}{v:V} (h:(st0 js σ)[i]?=some (some v)):∃ j,js[i]?=some (some j)∧σ[j]?=some (some v):=by
 unfold st0 at h;rw[List.getElem?_map]at h
 cases e:js[i]? with
 | none=>rw[e]at h;cases h
 | some o =>
   rw[e]at h
   cases o with
   | none=>cases h
   | some j =>
     refine⟨j,rfl,?_⟩;have h':(σ[j]?).join=some v:=by simpa using h
     cases e2:σ[j]? with
     | none=>rw[e2]at h';cases h'
     | some o2=>rw[e2]at h';cases o2 with
       | none=>cases h'
       | some u=>rw[show u=v by simpa using h']
theorem qjJ {pins:List (Addr×Obj)}{σ:St}{H:Hp}{s:Shared}{scope:Scope}{N:List Str}{cl:List (Str×Addr)}{js:List (Option Nat)}{C:Addr}{fp:List Addr} (k:CompOk X scope N cl js) (I:Inv X pins σ H s)
   (hf:∀ b∈fp,qeZ X pins H b) (hfl:∀ b∈fp,b < s.heap.objs.size) (hC:s.heap.objs.size≤C):(q8 X scope N cl C s H fp (X.pn++pins)).Ok where
 mod:=I.ok.mod
 kind:=k.kind
 glob:=I.ok.glob
 blt:=I.ok.blt
 above:=hC
 inj:=fun x y c h1 h2=>I.ok.inj x y c (k.sub _ _ h1) (k.sub _ _ h2)
 has:=fun x h=>k.all x h
 cab:=fun x c h1 h2=>by
   have h1':(!(cl.lookup x).isSome)=true:=h1;have h2':cl.lookup x=some c:=h2;rw[h2']at h1';cases h1'
 hd:=I.ok.hd
 frames:=I.ok.frames
 stk:=.inl rfl
 exf:=fun b hb=>⟨Nat.ne_of_lt (Nat.lt_of_lt_of_le (hfl b hb) hC),fun x c h=>(hf b hb).2.2.2.2.1 x c (k.sub _ _ h)⟩
 bs:=I.bs
 bsz:=Nat.le_trans I.ok.bsz I.sz
 noex:=fun b o e hb=>by
   rcases (hf b hb).2.2.2.1 with z|z
   · exact I.ok.noex b o e z
   · exact absurd (Nat.lt_of_lt_of_le (Heap.lt_size e) (Nat.le_trans I.ok.bsz z)) (Nat.lt_irrefl _)
 exfs:=fun b hb z=>by
   rcases List.mem_cons.mp (I.stkSub b z) with e|e
   · exact(hf b hb).2.1 e
   · exact(hf b hb).2.2.1 e
 funs:=I.stack
 frf:=I.stkFree
theorem qeX {pins:List (Addr×Obj)}{σ:St}{H:Hp}{s:Shared}{h1:Heap}{t':Nat}{scope:Scope}{N:List Str}{cl:List (Str×Addr)}{js:List (Option Nat)}{C D:Addr}{fp:List Addr}{m:Str->Option Value} (k:CompOk X scope N cl js) (I:Inv X pins σ H s)
   (hf:∀ b∈fp,qeZ X pins H b) (hfl:∀ b∈fp,b < s.heap.objs.size) (hD:s.heap.objs.size≤D) (hC:s.heap.objs.size≤C) (hDC:D≠C)
   (hn:h1.Ns C m) (hl:h1.get? D=some { cls:=.type "list",data:=.seq ([]:List Value).toArray }) (hk:∀ b o,s.heap.get? b=some o->h1.get? b=some o) :
   Inv (q8 X scope N cl C s H fp (X.pn++pins)) [] (st0 js σ) (upd H D (.lst [])) { s with heap:=h1,toks:=t' }:=by
 have fD:H D=none:=I.hok.fresh hD;have fC:H C=none:=I.hok.fresh hC;have nC:∀ b,b < s.heap.objs.size->b≠C:=fun b hb=>Nat.ne_of_lt (Nat.lt_of_lt_of_le hb hC);refine⟨qjJ k I hf hfl hC,rfl,I.bare,?_,?_,?_,?_,?_,?_,?_,?_⟩
 · exact(Un.laid (fs:=frs X.stack) (ex:=fp) (o:=.lst []) hk hD fD)
 · refine⟨m,hn,fun i x v e1 e2 e3=>?_⟩;obtain⟨j,f1,f2⟩:=qi5 e2;obtain⟨g1,g2,g3⟩:=k.fr i j x f1 e1;obtain⟨m',hn',hl'⟩:=I.loc;obtain⟨u,ru,lk⟩:=hl' j x v g1 f2 (.inr (.inl g2));refine⟨u,ru,.inr ⟨g3,?_⟩⟩;obtain⟨c,hc⟩:=k.all x g3;rcases lk with ⟨z,_⟩|⟨_,c',hc',ic⟩
   · rw[g2]at z;cases z
   · have e:=k.sub _ _ hc;rw[hc']at e;cases e;obtain⟨o,ho,hd⟩:=ic;exact⟨c,hc,o,hk _ _ ho,hd⟩
 · intro x c h;obtain⟨v,o,ho,hd⟩:=I.cell x c (k.sub _ _ h);exact⟨v,o,hk _ _ ho,hd⟩
 · show (upd H D (.lst [])) C=none;rw[qg hDC.symm];exact fC
 · intro x c h;obtain⟨v,o,ho,hd⟩:=I.cell x c (k.sub _ _ h);rw[qg (Nat.ne_of_lt (Nat.lt_of_lt_of_le (Heap.lt_size ho) hD))];exact I.freeC x c (k.sub _ _ h)
 · intro p hp;have hp':p∈X.pn++pins:=by simpa[q8] using hp
   obtain⟨e,n,ne,nf,d⟩:=I.pin p hp';have lt:=Heap.lt_size e;refine⟨hk _ _ e,by rw[qg (Nat.ne_of_lt (Nat.lt_of_lt_of_le lt hD))];exact n,nC _ lt,fun z=>?_,d⟩;rcases List.mem_cons.mp (I.stkSub _ z) with e|e
   · exact ne e
   · exact nf e
 · exact I.hok.laid hk hD ⟨Nat.zero_le _,[],0,.nil,hl⟩
 · show (st0 js σ).length=N.length;unfold st0;rw[List.length_map];exact k.len
theorem qeJ {Cm:Cx->Prop}{elt iter tg:Expr}{ifs:List Expr}{scope:Scope}{pos:Pos}{wi:TI}{g:TG}{tt:TT}{te:TE}{N:List Str}{cl:List (Str×Addr)}{js:List (Option Nat)} (hc:∀ C s₀ H₀ ex pn,Cm (q8 X scope N cl C s₀ H₀ ex pn)) (k:CompOk X scope N cl js) (hi:PIC Cm X tg iter wi)
   (hg:∀ C s₀ H₀ ex pn,PG (q8 X scope N cl C s₀ H₀ ex pn) tg g) (ht:∀ C s₀ H₀ ex pn,PTs (q8 X scope N cl C s₀ H₀ ex pn) ifs tt) (he:∀ C s₀ H₀ ex pn,PE (q8 X scope N cl C s₀ H₀ ex pn) elt te)
   (hs:∀ x,foldedSetIterable iter X.env x=pure x:=by intro _;rfl) :
   PE X (.ListComp elt [⟨tg,iter,ifs,0⟩] scope pos) (qhq wi g tt te js):=by
 intro pins s σ H Q I h;rw[eval_ListComp];refine wpAny_comprehension_free (use:=none) rfl hs k.clos k.kind k.names ?_;refine thn (hi pins s σ H _ I h) fun v s1 h1=>thn h1 fun itv s2 h2=>?_;obtain⟨it,fp,tn,J,H2,e,I2,T,st2,f2,hD⟩:=h2;subst e;refine wpAny_newObj_type (wpAny_newFunctionEnv k.cell (by intro y hy;simp at hy) (fun h₁ hns₁ hsb₁=>?_) k.kind);dsimp only at hns₁ hsb₁ ⊢;generalize hH2:s2.heap.push { cls:=.type "list",dict:=none,data:=.seq ([]:List Value).toArray }=P2 at hns₁ hsb₁ ⊢;have hC:P2.objs.size=s2.heap.objs.size+1:=by rw[← hH2,Heap.size_push]
 have hDC:s2.heap.objs.size≠P2.objs.size:=by rw[hC];exact Nat.ne_of_lt (Nat.lt_succ_self _)
 have hCle:s2.heap.objs.size≤P2.objs.size:=by rw[hC];exact Nat.le_succ _
 have old:∀ b o,s2.heap.get? b=some o->h₁.get? b=some o:=fun b o e=>hsb₁.extBut b o (Nat.ne_of_lt (Nat.lt_of_lt_of_le (Heap.lt_size e) hCle)) (Heap.get?_push_of_some _ (hH2▸Heap.get?_push_of_some _ e));have hacc:h₁.get? s2.heap.objs.size=some { cls:=.type "list",data:=.seq ([]:List Value).toArray }:=hsb₁.extBut _ _ hDC (Heap.get?_push_of_some _ (hH2▸Heap.get?_push_size _ rfl))
 have hfl:∀ b∈fp,b < s2.heap.objs.size:=fun b hb=>by
   obtain⟨o,e,_⟩:=T.obj _ _ st2 b hb;exact Heap.lt_size e
 have fD:H2 s2.heap.objs.size=none:=I2.hok.fresh (Nat.le_refl _);obtain⟨W,⟨m0,w0⟩,turn⟩:=hD _ fD
 have IX:Inv (q8 X scope N cl P2.objs.size s2 H2 fp (X.pn++pins)) [] (st0 js σ) (upd H2 s2.heap.objs.size (.lst [])) { s2 with heap:=h₁,toks:=s2.toks+([]:List (Str×Value)).length } :=
   qeX k I2 f2 hfl (Nat.le_refl _) hCle hDC hns₁ hacc old
 have hg':=hg P2.objs.size s2 H2 fp (X.pn++pins);have ht':=ht P2.objs.size s2 H2 fp (X.pn++pins);have he':=he P2.objs.size s2 H2 fp (X.pn++pins)
 have stat:∀ {H':Hp},(∀ b∈fp,H' b=none)->∀ b∈fp,qeZ (q8 X scope N cl P2.objs.size s2 H2 fp (X.pn++pins)) [] H' b:=fun hn b hb=>by
   obtain⟨g0,g1,g2,g3,g4,g5⟩:=f2 b hb;refine⟨hn b hb,Nat.ne_of_lt (Nat.lt_of_lt_of_le (hfl b hb) hCle),fun z=>?_,.inl hb,fun x c h=>g4 x c (k.sub _ _ h),fun p hp=>g5 p (by simpa[q8] using hp)⟩;rcases List.mem_cons.mp (I2.stkSub b z) with e|e
   · exact g1 e
   · exact g2 e
 have loop:∀ s₃:Shared,s₃={ s2 with heap:=h₁,toks:=s2.toks+([]:List (Str×Value)).length } ->
     codeAny (model X.prog X.w) X.A (.compLoop (.ListComp elt [⟨tg,iter,ifs,0⟩] scope pos) 0 (.ref it) (.ref s2.heap.objs.size) (compEnvC scope cl P2.objs.size X.env))
       (compPost (model X.prog X.w) X.A X.xe none (EP X pins σ Q) (.ref s2.heap.objs.size) P2.objs.size) s₃:=by
   rintro s₃ rfl;refine qbs (fun n s'=>∃ i σ' H',Inv (q8 X scope N cl P2.objs.size s2 H2 fp (X.pn++pins)) [] σ' H' s'∧tn i s'.heap∧(∀ b∈fp,H' b=none)∧W i n σ' H') ?_ m0
     ⟨0,st0 js σ,_,IX,T.keep _ _ _ st2 (fun b hb o e=>old b o e),fun b hb=>by rw[qg (Nat.ne_of_lt (hfl b hb))];exact(f2 b hb).1,w0⟩
   rintro n s3 ⟨i,σ3,H3,I3,st3,fr3,w3⟩;rcases turn i n σ3 H3 w3 with ⟨stop,qn⟩|⟨go,N2,hN,step⟩
   · refine thn (T.done (q8 X scope N cl P2.objs.size s2 H2 fp (X.pn++pins)) rfl rfl rfl (hc _ _ _ _ _) i [] s3 σ3 H3 noE I3 (stat fr3) st3 stop) fun r s4 ⟨hr,I4⟩=>?_;subst hr;obtain⟨m4,hn4,_⟩:=id I4.loc;refine⟨m4,hn4,fun h' hsb=>⟨.ref s2.heap.objs.size,H3,?_,rfl,qn⟩⟩;have u4:Un (frs X.stack) fp H2 H3 s2.heap s4.heap:=I4.base;have ltC:∀ b o,s2.heap.get? b=some o->b≠P2.objs.size:=fun b o e=>Nat.ne_of_lt (Nat.lt_of_lt_of_le (Heap.lt_size e) hCle)
     have u5:Un (frs X.stack) fp H2 H3 s2.heap h' :=
       { keep:=fun b o e n hb hx=>hsb.extBut b o (ltC b o e) (u4.keep b o e n hb hx)
         slot:=fun b o e n hb hx=>by
           obtain⟨sl,q⟩:=u4.slot b o e n hb hx;exact⟨sl,hsb.extBut b _ (ltC b o e) q⟩
         free:=u4.free
         there:=fun b o e hx=>by
           obtain⟨o',q⟩:=u4.there b o e hx;exact⟨o',hsb.extBut b _ (ltC b o e) q⟩
         tups:=u4.tups
         frzs:=u4.frzs
         tbls:=u4.tbls }
     have fC:H3 P2.objs.size=none:=I4.free
     have hok5:HOk X.prog X.w H3 h':=fun b u e=>(I4.hok b u e).stay (fun c v hc' q=>hsb.extBut c v (fun z=>by
       rcases hc' with y|y
       · rw[y]at z;rw[z,fC]at e;cases e
       · rw[z,fC]at y;cases y) q) (fun _ q=>q) fun _ _ q=>q
     exact I2.call' (s':={ s4 with heap:=h' }) I4.os u5 hok5 I4.bare fun b hb=>by
       obtain⟨g0,g1,g2,g3,g4,g5⟩:=f2 b hb;exact⟨g3,g1,g4,g5⟩
   · refine thn (T.item (q8 X scope N cl P2.objs.size s2 H2 fp (X.pn++pins)) rfl rfl rfl (hc _ _ _ _ _) i [] s3 σ3 H3 noE I3 (stat fr3) st3 go) fun r s4 ⟨u,hr,h4⟩=>?_;subst hr;refine thn h4 fun _ s5 zz_=>?_;obtain⟨x,H5,I5,r5,y5,st5,fr5⟩:=zz_;have I5':=I5.pinned (stat fr5) (T.obj _ _ st5);refine thn (hg' _ s5 σ3 H5 x u _ I5' r5 (step x H5 y5)) fun _ s6 zz_=>?_;obtain⟨σ6,H6,I6,q6⟩:=zz_;refine thn (ht' _ s6 σ6 H6 _ I6 q6) fun ok s7 zz_=>?_;obtain⟨H7,I7,q7⟩:=zz_;have again:∀ {s8:Shared}{σ8:St}{H8:Hp},Inv (q8 X scope N cl P2.objs.size s2 H2 fp (X.pn++pins)) ([]++qb7 fp s5.heap) σ8 H8 s8->N2 σ8 H8 ->
         ∃ m,m < n∧∃ i σ' H',Inv (q8 X scope N cl P2.objs.size s2 H2 fp (X.pn++pins)) [] σ' H' s8∧tn i s8.heap∧(∀ b∈fp,H' b=none)∧W i m σ' H':=fun {s8 σ8 H8} I8 n8=>by
       obtain⟨m',hm,w8⟩:=hN σ8 H8 n8;refine⟨m',hm,i+1,σ8,H8,I8.unpinned,T.keep _ _ _ st5 fun b hb o e=>(I8.pin (b,o) (List.mem_append_right _ (List.mem_append_right _ (zG hb e)))).1,fun b hb=>?_,w8⟩;obtain⟨o,e,d⟩:=T.obj _ _ st5 b hb;exact(I8.pin (b,o) (List.mem_append_right _ (List.mem_append_right _ (zG hb e)))).2.1
     cases ok with
     | false=>exact again I7 (by simpa using q7)
     | true =>
       have q7':te σ6 H7 fun y H5=>∃ ys,H5 s2.heap.objs.size=some (.lst ys)∧ys.length < sizeLine∧N2 σ6 (upd H5 s2.heap.objs.size (.lst (ys++[y]))):=by simpa using q7
       refine thn (he' _ s7 σ6 H7 _ I7 q7') fun xv s8 zz_=>?_;obtain⟨y,H8,I8,r8,ys,hy,hlen,n8⟩:=zz_;refine thn (ZP (X:=q8 X scope N cl P2.objs.size s2 H2 fp (X.pn++pins)) _ s8 σ6 H8 (.ref s2.heap.objs.size) [y] (.ref s2.heap.objs.size) [xv] (fun _ H9=>N2 σ6 H9) I8 rfl (.cons r8 .nil) ⟨_,ys,y,rfl,rfl,hy,hlen,n8⟩) fun _ s9 ⟨_,H9,I9,_,n9⟩=>again I9 n9
 exact codeAny_compStart_list (loop _ rfl) (T.self _ 0 _ _ _ (T.keep _ _ _ st2 (fun b hb o e=>old b o e)) (loop _ rfl))
theorem Ju {elt iter tg:Expr}{ifs:List Expr}{scope:Scope}{pos:Pos}{wi:TI}{g:TG}{tt:TT}{te:TE}{N:List Str}{cl:List (Str×Addr)}{js:List (Option Nat)} (hc:X.calm=true) (k:CompOk X scope N cl js) (hi:PI X tg iter wi)
   (hg:∀ C s₀ H₀ ex pn,PG (q8 X scope N cl C s₀ H₀ ex pn) tg g) (ht:∀ C s₀ H₀ ex pn,PTs (q8 X scope N cl C s₀ H₀ ex pn) ifs tt) (he:∀ C s₀ H₀ ex pn,PE (q8 X scope N cl C s₀ H₀ ex pn) elt te)
   (hs:∀ x,foldedSetIterable iter X.env x=pure x:=by intro _;rfl) :
   PE X (.ListComp elt [⟨tg,iter,ifs,0⟩] scope pos) (qhq wi g tt te js):=qeJ (Cm:=fun X=>X.calm=true) (fun _ _ _ _ _=>hc) k hi hg ht he hs
end
def Its (x:Str):It:=⟨fun i _=>i < x.cps.size,fun i H v H'=>H'=H∧∃ c,x.cps[i]?=some c∧v=.str ⟨#[c]⟩,fun i _=>x.cps.size≤i⟩
theorem qiF {M:Model}{A:Around}{E:Value->Shared->Prop}{s:Shared}{tg:Expr}{it:Addr}{y:Str}{t:Tok}{Q:Unit->Shared->Prop} (hQ:Q () s):wpAny M A (letOwnedTupleGo tg (.ref it) (.str y t)) Q E s:=by
 unfold letOwnedTupleGo;cases tg<;>exact wpAny_pure hQ
theorem qho {P:Program}{w:World}{K:Frag}{tg:Expr} (it:Addr) (x:Str) (t:Tok) (ty:String) (hty:ty="str_ascii_iterator"∨ty="str_iterator") :
   qk4 P w K tg (Its x) [it] it (fun i h=>h.IsStrIter it ty x t i) where
 mem:=by simp
 obj:=fun i h st b hb=>by
   have e:b=it:=by simpa using hb
   subst e;obtain⟨o,e,c,d⟩:=st;exact⟨o,e,fun v z=>by rw[d]at z;cases z⟩
 keep:=fun i h h' st k=>by
   obtain⟨o,e,r⟩:=st;exact⟨o,k it (by simp) o e,r⟩
 item:=by
   intro X hP hw hK hc i pins s σ H E I hf st hg;subst hP hw hK;obtain⟨f0,f1,f2,f3,f4,f5⟩:=hf it (by simp);have hi:i < x.cps.size:=hg;rcases hty with rfl|rfl
   · refine wpAny_pyNext_ascii_item st (c:=x.cps[i]) (by simp[hi]) fun h' st' sb=>?_;have I1:Inv X pins σ H { s with heap:=h',toks:=s.toks+1 }:=I.turned (fun b o hb e=>sb.extBut b o hb e) f0 f1 f3 f4 f5;exact⟨_,rfl,qiF (s:={ s with heap:=h',toks:=s.toks+1 }) ⟨.str ⟨#[x.cps[i]]⟩,H,I1,⟨_,rfl⟩,⟨rfl,x.cps[i],by simp[hi],rfl⟩,st',fun b hb=>(hf b hb).1⟩⟩
   · refine wpAny_pyNext_wide_item st (c:=x.cps[i]) (by simp[hi]) fun h' st' sb=>?_;have I1:Inv X pins σ H { s with heap:=h',toks:=s.toks+1 }:=I.turned (fun b o hb e=>sb.extBut b o hb e) f0 f1 f3 f4 f5;exact⟨_,rfl,qiF (s:={ s with heap:=h',toks:=s.toks+1 }) ⟨.str ⟨#[x.cps[i]]⟩,H,I1,⟨_,rfl⟩,⟨rfl,x.cps[i],by simp[hi],rfl⟩,st',fun b hb=>(hf b hb).1⟩⟩
 done:=by
   intro X hP hw hK hc i pins s σ H E I hf st hg;subst hP hw hK;obtain⟨f0,f1,f2,f3,f4,f5⟩:=hf it (by simp);have hi:x.cps.size≤i:=hg;rcases hty with rfl|rfl
   · exact wpAny_pyNext_ascii_end (I.ok.hd hc) st (by simp[hi]) fun h' eb=>⟨rfl,I.turned (t':=s.toks) (fun b o hb e=>eb b o hb e) f0 f1 f3 f4 f5⟩
   · exact wpAny_pyNext_wide_end (I.ok.hd hc) st (by simp[hi]) fun h' eb=>⟨rfl,I.turned (t':=s.toks) (fun b o hb e=>eb b o hb e) f0 f1 f3 f4 f5⟩
 self:=fun _ _ _ _ _ st h=>by
   rcases hty with rfl|rfl
   · exact wpAny_pyIter_striter_ascii st h
   · exact wpAny_pyIter_striter_wide st h
def qmq (te:TE):TI:=fun σ H R=>te σ H fun x H1=>∃ z,x=.str z∧R (Its z) H1
section
variable {X:Cx}{tg:Expr}
theorem qkr {e:Expr}{te:TE} (he:PE X e te):PI X tg e (qmq te):=by
 intro pins s σ H R I h;refine thn (he pins s σ H _ I h) fun v s1 zz_=>?_;obtain⟨x,H1,I1,r1,q1⟩:=zz_;obtain⟨z,e,q⟩:=q1;subst e;obtain⟨t,rfl⟩:=r1
 have fin:∀ ty,(ty="str_ascii_iterator"∨ty="str_iterator")->PIE X pins σ tg R (.ref s1.heap.objs.size) { s1 with heap:=s1.heap.push { cls:=.type ty,data:=.fields #[.str z t,.int 0 0] } }:=fun ty hty=>by
   refine⟨s1.heap.objs.size,[s1.heap.objs.size],_,_,H1,rfl,I1.kept (t':=s1.toks) fun b o e=>Heap.get?_push_of_some _ e,qho _ z t ty hty,⟨_,Heap.get?_push_size _ rfl,rfl,rfl⟩,fun b hb=>?_,q⟩;have e:b=s1.heap.objs.size:=by simpa using hb
   subst e;exact I1.fpOk (Nat.le_refl _) (I1.hok.fresh (Nat.le_refl _))
 cases ha:z.cps.all (· < 128)
 · exact wpAny_pyIter_wide ha (fin _ (.inr rfl))
 · exact wpAny_pyIter_ascii ha (fin _ (.inl rfl))
end
theorem qig {x:Str}{g:TG}{tt:TT}{te:TE}{D:Addr}{Q:VK}{σ:St}{H:Hp} (Pv:Nat->St->Hp->Prop) (h0:Pv 0 σ H)
   (hs:∀ i c σ H,x.cps[i]?=some c->Pv i σ H->g (.str ⟨#[c]⟩) σ H fun σ3 H3=>tt σ3 H3 fun ok H4=>if ok=true then te σ3 H4 fun y H5=>∃ ys,H5 D=some (.lst ys)∧ys.length < sizeLine∧Pv (i+1) σ3 (upd H5 D (.lst (ys++[y]))) else Pv (i+1) σ3 H4)
   (hd:∀ σ H,Pv x.cps.size σ H->Q (.ref D) H) :
   Ji (Its x) g tt te D Q σ H:=by
 refine⟨fun i m σ H=>m=x.cps.size - i∧i≤x.cps.size∧Pv i σ H,⟨x.cps.size,by simp,Nat.zero_le _,h0⟩,?_⟩;rintro i m σ H ⟨rfl,hi,p⟩;by_cases hlt:i < x.cps.size
 · refine .inr ⟨hlt,Pv (i+1),fun σ' H' p'=>⟨x.cps.size - (i+1),by omega,rfl,hlt,p'⟩,fun v H' y=>?_⟩;obtain⟨rfl,c,hc,rfl⟩:=y;exact hs i c σ _ hc p
 · have e:i=x.cps.size:=by omega
   subst e;exact .inl ⟨Nat.le_refl _,hd σ H p⟩
theorem qfi {lo:Int}{n:Nat}{g:TG}{tt:TT}{te:TE}{D:Addr}{Q:VK}{σ:St}{H:Hp} (Pv:Nat->St->Hp->Prop) (h0:Pv 0 σ H)
   (hs:∀ i σ H,i < n->Pv i σ H->g (.int (lo+i)) σ H fun σ3 H3=>tt σ3 H3 fun ok H4=>if ok=true then te σ3 H4 fun y H5=>∃ ys,H5 D=some (.lst ys)∧ys.length < sizeLine∧Pv (i+1) σ3 (upd H5 D (.lst (ys++[y]))) else Pv (i+1) σ3 H4)
   (hd:∀ σ H,Pv n σ H->Q (.ref D) H) :
   Ji (Itr lo n) g tt te D Q σ H:=by
 refine⟨fun i m σ H=>m=n - i∧i≤n∧Pv i σ H,⟨n,by simp,Nat.zero_le _,h0⟩,?_⟩;rintro i m σ H ⟨rfl,hi,p⟩;by_cases hlt:i < n
 · refine .inr ⟨hlt,Pv (i+1),fun σ' H' p'=>⟨n - (i+1),by omega,rfl,hlt,p'⟩,fun v H' y=>?_⟩;obtain⟨rfl,rfl⟩:=y;exact hs i σ _ hlt p
 · have e:i=n:=by omega
   subst e;exact .inl ⟨Nat.le_refl _,hd σ H p⟩
theorem ZS {K:Frag}{a:Addr}{xs:List V}{g:TG}{tt:TT}{te:TE}{D:Addr}{Q:VK}{σ:St}{H:Hp} (Pv:Nat->St->Hp->Prop) (h0:Pv 0 σ H) (hl:∀ i σ H,i≤xs.length->Pv i σ H->SqL K H a xs)
   (hs:∀ i x σ H,xs[i]?=some x->Pv i σ H->g x σ H fun σ3 H3=>tt σ3 H3 fun ok H4=>if ok=true then te σ3 H4 fun y H5=>∃ ys,H5 D=some (.lst ys)∧ys.length < sizeLine∧Pv (i+1) σ3 (upd H5 D (.lst (ys++[y]))) else Pv (i+1) σ3 H4)
   (hd:∀ σ H,Pv xs.length σ H->Q (.ref D) H) :
   Ji (Itl K a) g tt te D Q σ H:=by
 refine⟨fun i m σ H=>m=xs.length - i∧i≤xs.length∧Pv i σ H,⟨xs.length,by simp,Nat.zero_le _,h0⟩,?_⟩;rintro i m σ H ⟨rfl,hi,p⟩;have q:=hl i σ H hi p;by_cases hlt:i < xs.length
 · refine .inr ⟨⟨xs,xs[i],q,by simp[hlt]⟩,Pv (i+1),fun σ' H' p'=>⟨xs.length - (i+1),by omega,rfl,hlt,p'⟩,fun v H' y=>?_⟩;obtain⟨e,y⟩:=y;subst e;exact hs i v σ _ (y xs q) p
 · have e:i=xs.length:=by omega
   subst e;exact .inl ⟨⟨xs,q,Nat.le_refl _⟩,hd σ H p⟩
theorem qg8:∀ {bs:List Bool}{us:List Value},Vals (bs.map V.bl) us->us=bs.map Value.bool
 | [],_,r=>by cases r;rfl
 | b::bs,_,r=>by
   cases r with
   | cons r t =>
     cases r;rw[qg8 t];rfl
section
variable {X:Cx}
def qmo (K:Frag):List V->Hp->VK->Prop:=fun xs H Q=>∃ (p:Addr) (bs:List Bool),xs=[.ref p]∧SqL K H p (bs.map V.bl)∧Q (.bl (bs.all id)) H
theorem qdT {α:Type} (f:α->Bool) (d:α):∀ l:List α,(List.range l.length).all (fun i=>f (l.getD i d))=l.all f
 | []=>rfl
 | a::l=>by
   rw[List.length_cons,List.range_succ_eq_map,List.all_cons,List.all_map,List.all_cons,← qdT f d l];rfl
theorem qg2 (hc:X.calm=true):Zg X (.builtin "all") (qmo X.K):=by
 intro pins s σ H xs us Q I r h;obtain⟨p,bs,rfl,hq,q⟩:=h;obtain⟨u,rfl,ru⟩:=qau r;cases ru;obtain⟨its,rv,pl,hz⟩:=I.list hq;have eits:=qg8 rv;subst eits;have hlt:p < s.heap.objs.size:=by obtain⟨_,_,e,_⟩:=pl;exact Heap.lt_size e
 refine call_all_walk (wpAny_pyIter_list pl.isList ?_);have W:=Walks.list (prog:=X.prog) (w:=X.w) (A:=X.A.in1) (I.ok.hd hc) s.heap.objs.size p (Nat.ne_of_lt hlt) (bs.map Value.bool).toArray;refine⟨_,_,_,_,_,_,(fun i=>(bs.getD i true)),rfl,W,⟨⟨_,Heap.get?_push_size _ rfl,rfl,rfl⟩,pl.isList.push _⟩,?_,?_⟩
 · intro i v s' Q' E' hP hQ;have hv:(bs.map Value.bool)[i]?=some v:=by simpa using hP
   rw[List.getElem?_map]at hv
   cases e:bs[i]? with
   | none=>rw[e]at hv;cases hv
   | some b =>
     rw[e]at hv;cases hv;have e2:bs.getD i true=b:=by rw[List.getD_eq_getElem?_getD,e];rfl
     have hQ:Q' (bs.getD i true) s':=hQ;rw[e2]at hQ;exact wpAny_truthy_bool hQ
 · intro h' tk hk;have es:(bs.map Value.bool).toArray.size=bs.length:=by simp
   have ea:(List.range (bs.map Value.bool).toArray.size).all (fun i=>bs.getD i true)=bs.all id:=by rw[es];exact qdT id true bs
   refine⟨.bl _,H,?_,by rw[ea];rfl,q⟩;exact I.kept (t':=tk) fun b o e=>hk b o (by simp;exact Nat.ne_of_lt (Heap.lt_size e)) (Heap.get?_push_of_some _ e)
end
theorem qg7:bootBuiltins "all"=some (.builtin "all"):=by decide +kernel
theorem qfO:∀ {ys:List Str}{us:List Value},Vals (ys.map V.str) us->StrsAre us ys
 | [],_,r=>by cases r;exact .nil
 | y::ys,_,r=>by
   cases r with
   | cons r t =>
     obtain⟨k,rfl⟩:=r;exact .cons y k (qfO t)
section
variable {X:Cx}
def qlr (K:Frag):V->List V->Hp->VK->Prop:=fun x xs H Q=>∃ (sep:Str) (p:Addr) (ys:List Str),x=.str sep∧xs=[.ref p]∧SqL K H p (ys.map V.str)∧(ys.map (·.length)).sum+ys.length * sep.length≤16777216∧Q (.str (Txt.join sep ys)) H
theorem qju:MtR X "str.join" (qlr X.K):=by
 intro pins s σ H x xs v us Q I rx r h;obtain⟨sep,p,ys,rfl,rfl,hq,hz,q⟩:=h;obtain⟨t,rfl⟩:=rx;obtain⟨u,rfl,ru⟩:=qau r;cases ru;obtain⟨its,rv,pl,_⟩:=I.list hq;exact join_list pl.isList (by simpa using qfO rv) hz fun t' k=>⟨.str _,H,I.tok k,⟨_,rfl⟩,q⟩
def qlR:V->Option Int->Option Int->Hp->VK->Prop:=fun x lo hi H Q=>∃ z,x=.str z∧z.length≤sizeLine∧Q (.str (Txt.slice z lo hi)) H
theorem qkb:SlR X qlR:=by
 intro pins s σ H x v vl vu lo hi sl Q I rx hs pl pu h;obtain⟨z,rfl,hz,q⟩:=h;obtain⟨t,rfl⟩:=rx;refine⟨"str",_,F.slot_str_getitem.lookup,typeIs_str _ _ _,?_⟩;have fin:∀ t' k,EP X pins σ Q (.str (Txt.slice z lo hi) t') { s with toks:=k }:=fun t' k=>⟨.str _,H,I.tok k,⟨_,rfl⟩,q⟩
 obtain⟨o,e1,e2,e3⟩:=hs
 cases pl with
 | none =>
   cases pu with
   | none=>exact wpAny_getItem_str_slice (l:=none) (u:=none) (st:=none) ⟨o,e1,e2,e3⟩ rfl (post_val_or_str ⟨Nat.le_trans (Txt.slice_le z _ _) hz,fin⟩)
   | int j u=>exact wpAny_getItem_str_slice (l:=none) (u:=some (j,u)) (st:=none) ⟨o,e1,e2,e3⟩ rfl (post_val_or_str ⟨Nat.le_trans (Txt.slice_le z _ _) hz,fin⟩)
 | int i ui =>
   cases pu with
   | none=>exact wpAny_getItem_str_slice (l:=some (i,ui)) (u:=none) (st:=none) ⟨o,e1,e2,e3⟩ rfl (post_val_or_str ⟨Nat.le_trans (Txt.slice_le z _ _) hz,fin⟩)
   | int j u=>exact wpAny_getItem_str_slice (l:=some (i,ui)) (u:=some (j,u)) (st:=none) ⟨o,e1,e2,e3⟩ rfl (post_val_or_str ⟨Nat.le_trans (Txt.slice_le z _ _) hz,fin⟩)
theorem uSl:SlR X (fun x lo hi H Q=>qlS X.K x lo hi H Q∨qlR x lo hi H Q):=sl_list.or qkb
theorem qdw:OpR X (compareOp .LtE) (fun x y H Q=>∃ i j,x=.str i∧y=.str j∧Q (.bl (!decide (j.cps.toList < i.cps.toList))) H):=by
 intro pins s σ H x y v u Q I rx ry h;obtain⟨i,j,rfl,rfl,q⟩:=h;obtain⟨t,rfl⟩:=rx;obtain⟨t',rfl⟩:=ry;exact P.le_str ⟨.bl _,H,I,rfl,q⟩
end
def Qm (cells:List (Str×Addr)):List (Str×NameKind)->List (Str×Addr)->List (Str×Addr)
 | [],acc=>acc
 | (n,k)::r,acc=>Qm cells r (if k == .free then (n,(cells.lookup n).getD 0)::acc else acc)
def qiN (env:Env) (x:Str×NameKind) (cs:List (Str×Addr)):Sem (ForInStep (List (Str×Addr))):=match x with
 | (name,kind)=>if (kind == NameKind.free)=true then (do let a ← cellOf env name;pure (ForInStep.yield ((name,a)::cs))) else pure (ForInStep.yield cs)
theorem qgW {env:Env}{n:Str}{k:NameKind}{acc:List (Str×Addr)} (h:k=.free->∃ c,env.cells.lookup n=some c) :
   qiN env (n,k) acc=pure (ForInStep.yield (if k == .free then (n,(env.cells.lookup n).getD 0)::acc else acc)):=by
 by_cases hk:k=.free
 · subst hk;obtain⟨c,hc⟩:=h rfl;show (do let a ← cellOf env n;pure (ForInStep.yield ((n,a)::acc)))=(pure (ForInStep.yield ((n,(env.cells.lookup n).getD 0)::acc)):Sem _);unfold cellOf;rw[hc];rfl
 · cases k<;>first|exact absurd rfl hk|rfl
theorem qci {env:Env}:∀ (names:List (Str×NameKind)) (acc:List (Str×Addr)),(∀ y∈names,y.2=.free->∃ c,env.cells.lookup y.1=some c) ->
   (forIn names acc (qiN env))=(pure (Qm env.cells names acc):Sem (List (Str×Addr)))
 | [],acc,_=>rfl
 | (n,k)::r,acc,h=>by
   rw[List.forIn_cons,qgW fun e=>h (n,k) List.mem_cons_self e];exact qci (env:=env) r _ fun y hy=>h y (List.mem_cons_of_mem _ hy)
theorem JB {scope:Scope}{env:Env} (h:∀ y∈scope.names,y.2=.free->∃ c,env.cells.lookup y.1=some c):closureFor scope env=pure (Qm env.cells scope.names []):=by
 unfold closureFor;exact(congrArg (fun (m:Sem (List (Str×Addr)))=>m >>= fun cs=>pure cs) (qci (env:=env) scope.names [] h)).trans rfl
theorem zV {cells:List (Str×Addr)}{x:Str}:∀ (names:List (Str×NameKind)) (acc:List (Str×Addr)),(∀ y∈names,y.2=.free->∃ c,cells.lookup y.1=some c)->(∀ c,acc.lookup x=some c->cells.lookup x=some c) ->
   (∀ c,(Qm cells names acc).lookup x=some c->cells.lookup x=some c)∧(((x,NameKind.free)∈names∨(acc.lookup x).isSome=true)->((Qm cells names acc).lookup x).isSome=true)
 | [],acc,_,ha=>⟨ha,fun h=>h.elim (fun z=>nomatch z) id⟩
 | (n,k)::r,acc,h,ha=>by
   unfold Qm;have hr:∀ y∈r,y.2=.free->∃ c,cells.lookup y.1=some c:=fun y hy=>h y (List.mem_cons_of_mem _ hy)
   cases hk:(k == NameKind.free) with
   | false =>
     obtain⟨i1,i2⟩:=zV (cells:=cells) (x:=x) r acc hr ha;refine⟨by simpa using i1,fun z=>?_⟩
     have:((Qm cells r acc).lookup x).isSome=true:=i2 (by
       rcases z with z|z
       · rcases List.mem_cons.mp z with e|e
         · cases e;cases hk
         · exact .inl e
       · exact .inr z)
     simpa using this
   | true =>
     obtain⟨c,hc⟩:=h (n,k) List.mem_cons_self (by simpa using hk);have hc:cells.lookup n=some c:=hc;have ek:k=NameKind.free:=by simpa using hk
     subst ek
     have ha':∀ c',((n,(cells.lookup n).getD 0)::acc).lookup x=some c'->cells.lookup x=some c':=fun c' z=>by
       rw[List.lookup_cons]at z
       cases e:x == n with
       | true =>
         rw[e]at z;have e':x=n:=by simpa using e
         rw[e',hc]at *;simpa using z
       | false=>rw[e]at z;exact ha c' z
     obtain⟨i1,i2⟩:=zV (cells:=cells) (x:=x) r _ hr ha';refine⟨i1,fun z=>i2 ?_⟩;by_cases e:x=n
     · right;rw[List.lookup_cons,e];simp
     · rcases z with z|z
       · rcases List.mem_cons.mp z with q|q
         · cases q;exact absurd rfl e
         · exact .inl q
       · right;rw[List.lookup_cons]
         have:(x == n)=false:=by simpa using e
         rw[this];exact z
theorem ZY {x:Str}{k:NameKind}:∀ {names:List (Str×NameKind)},names.lookup x=some k->(x,k)∈names
 | [],h=>by cases h
 | (n,j)::r,h=>by
   rw[List.lookup_cons]at h
   cases e:x == n with
   | true =>
     rw[e]at h;have e':x=n:=by simpa using e
     cases h;rw[e'];exact List.mem_cons_self
   | false=>rw[e]at h;exact List.mem_cons_of_mem _ (ZY h)
theorem qaX {scope:Scope}{env:Env}{x:Str}{k:NameKind} (h:(x,k)∈(relabel scope env).names):(x,k)∈scope.names∨(k=.cell∧(x,NameKind.free)∈scope.names):=by
 have h':(x,k)∈scope.names.map fun (n,k)=>if (k == .free && env.scope.kind == .function && env.kindOf n == some .cell) then (n,.cell) else (n,k):=h
 obtain⟨⟨n,j⟩,hm,e⟩:=List.mem_map.mp h';simp only at e;split at e
 · rename_i c
   cases e
   have:j=.free:=by
     have c1:=(Bool.and_eq_true_iff.mp (Bool.and_eq_true_iff.mp c).1).1;simpa using c1
   subst this;exact .inr ⟨rfl,hm⟩
 · cases e;exact .inl hm
theorem Ql {env:Env}{x:Str} (hX:env.scope.kind=.function) (g3:env.kindOf x=some .cell):∀ {names:List (Str×NameKind)},names.lookup x=some .free ->
   (names.map fun (n,k)=>if (k == NameKind.free && env.scope.kind == .function && env.kindOf n == some .cell) then (n,NameKind.cell) else (n,k)).lookup x=some .cell
 | [],h=>by cases h
 | (n,k)::r,h=>by
   have ih:=Ql hX g3 (names:=r);show List.lookup x ((if (k == NameKind.free && env.scope.kind == .function && env.kindOf n == some .cell)=true then (n,NameKind.cell) else (n,k))::_)=_;rw[List.lookup_cons]at h
   cases e:x == n with
   | true =>
     rw[e]at h;have e':x=n:=by simpa using e
     have ek:k=.free:=by simpa using h
     rw[ek,← e',if_pos (show (NameKind.free == NameKind.free && env.scope.kind == .function && env.kindOf x == some .cell)=true by rw[hX,g3];decide),List.lookup_cons];simp
   | false =>
     rw[e]at h;by_cases hc:(k == NameKind.free && env.scope.kind == .function && env.kindOf n == some .cell)=true
     · rw[if_pos hc,List.lookup_cons,e];exact ih h
     · rw[if_neg hc,List.lookup_cons,e];exact ih h
theorem CompOk.of {X:Cx}{scope:Scope}{N:List Str}{js:List (Option Nat)} (hkind:scope.kind=.function) (hcell:∀ y∈scope.names,y.2≠.cell) (hnames:∀ y∈scope.names,y.2=.local->scope.names.lookup y.1=some .local)
   (hX:X.env.scope.kind=.function) (hfree:∀ y∈scope.names,y.2=.free->X.env.kindOf y.1=some .cell∧∃ c,X.env.cells.lookup y.1=some c) (len:js.length=N.length)
   (hfr:∀ (i j:Nat) (x:Str),js[i]?=some (some j)->N[i]?=some x->X.N[j]?=some x∧scope.names.lookup x=some .free) :
   CompOk X scope N (Qm X.env.cells scope.names []) js where
 clos:=JB fun y hy z=>(hfree y hy z).2
 sub:=fun x c h=>(zV scope.names [] (fun y hy z=>(hfree y hy z).2) (fun c h=>by cases h)).1 c h
 all:=fun x h=>by
   have hm:(x,NameKind.free)∈scope.names:=by
     rcases h with h|h
     · rcases qaX (ZY h) with z|⟨_,z⟩
       · exact absurd rfl (hcell _ z)
       · exact z
     · rcases qaX (ZY h) with z|⟨e,_⟩
       · exact z
       · cases e
   have:=(zV (cells:=X.env.cells) (x:=x) scope.names [] (fun y hy z=>(hfree y hy z).2) (fun c h=>by cases h)).2 (.inl hm)
   exact Option.isSome_iff_exists.mp this
 cell:=hcell
 kind:=hkind
 names:=hnames
 len:=len
 fr:=fun i j x h1 h2=>by
   obtain⟨g1,g2⟩:=hfr i j x h1 h2;obtain⟨g3,_⟩:=hfree (x,.free) (ZY g2) rfl;refine⟨g1,g3,.inl ?_⟩;exact Ql hX g3 g2
def qjE (sc:Scope) (N0 N:List Str) (js:List (Option Nat)):Bool:=(js.zip N).all fun p=>match p.1 with
 | none=>true
 | some j=>N0[j]? == some p.2 && sc.names.lookup p.2 == some .free
theorem qeT {sc:Scope}{N0:List Str}:∀ {js:List (Option Nat)}{N:List Str},qjE sc N0 N js=true->∀ (i j:Nat) (x:Str),js[i]?=some (some j)->N[i]?=some x->N0[j]?=some x∧sc.names.lookup x=some .free:=by
 intro js N h i j x h1 h2
 have hm:(some j,x)∈js.zip N:=by
   refine List.mem_of_getElem? (i:=i) ?_;rw[List.getElem?_zip_eq_some];exact⟨h1,h2⟩
 have:=List.all_eq_true.mp h _ hm
 simpa using this
theorem CompOk.def {CX:CXT}{P:Program}{w:World}{K:Frag}{mg:Str->Option Value}{base:Heap}{N0:List Str}{qual:Str}{sc0:Scope}{f:Addr}{cd:Value}{A:Around}{outer:List Env}{s:Shared}{H:Hp}{E:XK}{scope:Scope}
   (N:List Str) (js:List (Option Nat)) (hk0:sc0.kind=.function:=by rfl) (hk:scope.kind=.function:=by rfl) (hcell:∀ y∈scope.names,y.2≠.cell:=by decide +kernel) (hnames:∀ y∈scope.names,y.2=.local->scope.names.lookup y.1=some .local:=by decide +kernel)
   (hfr0:∀ y∈scope.names,y.2=.free->sc0.names.lookup y.1=some .cell:=by decide +kernel) (len:js.length=N.length:=by rfl) (hfr:qjE scope N0 N js=true:=by decide +kernel) :
   CompOk (zf CX P w K mg base N0 qual sc0 f cd A outer s H E).nox scope N (Qm (zf CX P w K mg base N0 qual sc0 f cd A outer s H E).nox.env.cells scope.names []) js :=
 CompOk.of hk hcell hnames hk0 (fun y hy z=>⟨hfr0 y hy z,Option.isSome_iff_exists.mp (PySem.W.cellsFrom_some _ _ _ (.inl (hfr0 y hy z)))⟩) len (qeT hfr)
section
variable {prog:Program}{w:World}{A:Around}{E:Value->Shared->Prop}{s:Shared}
theorem qhP {j u:Addr}{k:Nat}{xs:Array Value}{x:Value}{Q:Value->Shared->Prop} (a:s.heap.IsTupleIter j u k) (b:s.heap.IsTuple u xs) (e:xs[k]?=some x)
   (q:∀ h',h'.IsTupleIter j u (k+1)->Heap.SameBut j s.heap h'->Q x { s with heap:=h' }):wpAny (model prog w) A (Builtin.SmallTypes.nextOf (.ref j)) Q E s:=by
 obtain⟨oj,gj,cj,dj⟩:=id a;obtain⟨ou,gu,_,nu,du⟩:=b;unfold Builtin.SmallTypes.nextOf;refine wpAny_bind (wpAny_callSpecial?_slot (name:=Str.ofString "__next__") a.typeIs F.slot_tuple_iterator_next (wpAny_call_entry F.slot_tuple_iterator_next a.typeIs F.entry_tuple_iterator_next ?_ (F.args_tuple_iterator_next_1 _)));show wpAny _ _ (field (.ref j) 0 >>= _) _ _ s;refine wpAny_bind (wpAny_field gj dj (x:=.ref u) rfl ?_);show wpAny _ _ (if (Value.ref u == Value.none)=true then _ else _) _ _ s;rw[if_neg (show ¬ ((Value.ref u == Value.none)=true) from Bool.false_ne_true)];show wpAny _ _ (field (.ref j) 1 >>= _) _ _ s;refine wpAny_bind (wpAny_field gj dj (x:=.int k 0) rfl ?_);show wpAny _ _ (seqItems? (.ref u) >>= _) _ _ s;refine wpAny_bind (wpAny_seqItems gu du ?_);simp only[Int.toNat_natCast,e];refine wpAny_bind (wpAny_setField gj dj (by simp) (wpAny_pure ⟨x,rfl,wpAny_pure (q _ ?_ (Heap.SameBut.update ..))⟩));refine⟨_,Heap.get?_update_self _ gj (Obj.isFreed_of_fields (Obj.data_mapFields dj _)),(Obj.cls_mapFields ..).trans cj,?_⟩;rw[Obj.data_mapFields dj];simp[rawInt]
def itK:Bool->Heap->Addr->Addr->Nat->Prop
 | false,h,j,u,k=>h.IsListIter j u k
 | true,h,j,u,k=>h.IsTupleIter j u k
def sqK:Bool->Heap->Addr->Array Value->Prop
 | false,h,u,xs=>h.IsList u xs
 | true,h,u,xs=>h.IsTuple u xs
theorem itK.at {t:Bool}{h h':Heap}{j u:Addr}{k:Nat} (x:itK t h j u k) (e:∀ o,h.get? j=some o->h'.get? j=some o):itK t h' j u k:=by
 cases t with
 | false=>exact Heap.IsListIter.at x e
 | true=>obtain⟨o,g,r⟩:=x;exact⟨o,e o g,r⟩
theorem itK.get {t:Bool}{h:Heap}{j u:Addr}{k:Nat} (x:itK t h j u k):∃ o,h.get? j=some o∧o.data=.fields #[.ref u,.int k 0]:=by
 cases t with
 | false=>obtain⟨o,g,_,d⟩:=x;exact⟨o,g,d⟩
 | true=>obtain⟨o,g,_,d⟩:=x;exact⟨o,g,d⟩
theorem sqK.at {t:Bool}{h h':Heap}{u:Addr}{xs:Array Value} (x:sqK t h u xs) (e:∀ o,h.get? u=some o->h'.get? u=some o):sqK t h' u xs:=by
 cases t with
 | false=>exact Heap.IsList.at x e
 | true=>obtain⟨o,g,r⟩:=x;exact⟨o,e o g,r⟩
theorem sqK.lt {t:Bool}{h:Heap}{u:Addr}{xs:Array Value} (x:sqK t h u xs):u < h.objs.size:=by
 cases t with
 | false=>obtain⟨o,g,_⟩:=x;exact Heap.lt_size g
 | true=>obtain⟨o,g,_⟩:=x;exact Heap.lt_size g
theorem qeM {t:Bool}{j u:Addr}{k:Nat}{xs:Array Value}{x:Value}{Q:Value->Shared->Prop} (a:itK t s.heap j u k) (b:sqK t s.heap u xs) (e:xs[k]?=some x)
   (q:∀ h',itK t h' j u (k+1)->Heap.SameBut j s.heap h'->Q x { s with heap:=h' }):wpAny (model prog w) A (Builtin.SmallTypes.nextOf (.ref j)) Q E s:=by
 cases t with
 | false=>exact wpAny_nextOf_list_item a b e q
 | true=>exact qhP a b e q
theorem qiS {t:Bool}{z TI TO i1 i2 l1 l2:Addr}{k:Nat}{xs ys:Array Value}{x y a b:Value}{Q:Value->Shared->Prop} (D:ZipApart z TI TO i1 i2 l1 l2)
   (gz:IsZip s.heap z TI TO .none) (gI:IsPair s.heap TI (.ref i1) (.ref i2)) (gO:IsPair s.heap TO a b) (j1:itK t s.heap i1 l1 k) (j2:itK t s.heap i2 l2 k) (m1:sqK t s.heap l1 xs) (m2:sqK t s.heap l2 ys) (ex:xs[k]?=some x) (ey:ys[k]?=some y)
   (q:∀ h',IsZip h' z TI TO (rawInt s.heap.objs.size)->IsPair h' TO x y->itK t h' i1 l1 (k+1)->itK t h' i2 l2 (k+1)->IsPair h' s.heap.objs.size x y ->
     (∀ c o,c≠z->c≠TO->c≠i1->c≠i2->s.heap.get? c=some o->h'.get? c=some o)->Q (.ref s.heap.objs.size) { s with heap:=h' }) :
   wpAny (model prog w) A (Builtin.«zip.__next__» ⟨[.ref z],[]⟩) (fun fin s'=>∃ v,fin=.done (.ret v)∧Q v s') E s:=by
 show wpAny _ _ (field (.ref z) 2 >>= _) _ _ s;refine wpAny_bind (wpAny_field gz rfl (x:=.bool false) rfl ?_);show wpAny _ _ (field (.ref z) 3 >>= _) _ _ s;refine wpAny_bind (wpAny_field gz rfl (x:=.ref TI) rfl (wpAny_bind (wpAny_seqItems gI rfl ?_)));show wpAny _ _ (Builtin.SmallTypes.ownedTupleIsFree (.ref z) >>= _) _ _ s;refine wpAny_bind ?_;unfold Builtin.SmallTypes.ownedTupleIsFree;refine wpAny_bind (wpAny_field gz rfl (x:=.none) rfl (wpAny_pure ?_));simp only[if_true];refine wpAny_bind (wpAny_rule (wpAny_bind (wpAny_field gz rfl (x:=.ref TO) rfl (wpAny_bind (wpAny_setField_rec gz (by simp) fun g1 z1 n1=>?_)))));replace z1:IsZip g1 z TI TO .ellipsis:=z1;refine wpAny_bind ?_;simp only[List.zipIdx_cons,List.zipIdx_nil,List.forIn_cons,List.forIn_nil];refine wpAny_bind (wpAny_bind (wpAny_onRaise ?_));show wpAny _ _ (Builtin.SmallTypes.nextOf (.ref i1) >>= _) _ _ { s with heap:=g1 };refine wpAny_bind (qeM (t:=t) (s:={ s with heap:=g1 }) (j1.at fun o e=>n1.extBut _ o D.i1z e) (m1.at fun o e=>n1.extBut _ o D.l1z e) ex fun g2 j12 n2=>wpAny_pure ?_);have O2:IsPair g2 TO a b:=n2.extBut _ _ D.TOi1 (n1.extBut _ _ D.TOz gO);refine wpAny_bind (wpAny_seqItems O2 rfl (wpAny_bind (wpAny_updateSeq_pair O2 fun g3 O3 n3=>?_)));replace O3:IsPair g3 TO x b:=O3;refine wpAny_bind (wpAny_letGo (wpAny_pure (wpAny_bind (wpAny_bind (wpAny_onRaise ?_)))));show wpAny _ _ (Builtin.SmallTypes.nextOf (.ref i2) >>= _) _ _ { s with heap:=g3 };have k3:∀ c o,c≠z->c≠i1->c≠TO->s.heap.get? c=some o->g3.get? c=some o:=fun c o c1 c2 c3 e=>n3.extBut _ _ c3 (n2.extBut _ _ c2 (n1.extBut _ _ c1 e));refine wpAny_bind (qeM (t:=t) (s:={ s with heap:=g3 }) (j2.at fun o e=>k3 _ o D.i2z D.i12.symm D.TOi2.symm e) (m2.at fun o e=>k3 _ o D.l2z D.l2i1 D.l2TO e) ey fun g4 j24 n4=>wpAny_pure ?_);have O4:IsPair g4 TO x b:=n4.extBut _ _ D.TOi2 O3;refine wpAny_bind (wpAny_seqItems O4 rfl (wpAny_bind (wpAny_updateSeq_pair O4 fun g5 O5 n5=>?_)));replace O5:IsPair g5 TO x y:=O5;refine wpAny_bind (wpAny_letGo (wpAny_pure (wpAny_pure (wpAny_bind (wpAny_seqItems O5 rfl (wpAny_bind (wpAny_newTuple ?_)))))));have sz:g5.objs.size=s.heap.objs.size:=by rw[n5.1,n4.1,n3.1,n2.1,n1.1]
 have z5:IsZip g5 z TI TO .ellipsis:=n5.extBut _ _ D.TOz.symm (n4.extBut _ _ D.i2z.symm (n3.extBut _ _ D.TOz.symm (n2.extBut _ _ D.i1z.symm z1)));have k5:∀ c o,c≠z->c≠TO->c≠i1->c≠i2->s.heap.get? c=some o->g5.get? c=some o:=fun c o c1 c2 c3 c4 e=>n5.extBut _ _ c2 (n4.extBut _ _ c4 (k3 c o c1 c3 c2 e));have p1:itK t g5 i1 l1 (k+1):=((j12.at fun o e=>n3.extBut _ o D.TOi1.symm e).at fun o e=>n4.extBut _ o D.i12 e).at fun o e=>n5.extBut _ o D.TOi1.symm e;have p2:itK t g5 i2 l2 (k+1):=j24.at fun o e=>n5.extBut _ o D.TOi2.symm e;have lz:z < g5.objs.size:=Heap.lt_size z5;show wpAny _ _ (Builtin.SmallTypes.ownedTupleHandOut (.ref z) (.ref g5.objs.size) >>= _) _ _ { s with heap:=_ };refine wpAny_bind ?_;unfold Builtin.SmallTypes.ownedTupleHandOut;have z6:IsZip (g5.push { cls:=.type "tuple",data:=.seq #[x,y] }) z TI TO .ellipsis:=Heap.get?_push_of_some _ z5;refine wpAny_bind (wpAny_setField_rec z6 (by simp) fun g7 z7 n7=>?_);replace z7:IsZip g7 z TI TO (rawInt g5.objs.size):=z7;refine wpAny_setField_rec z7 (by simp) fun g8 z8 n8=>?_;replace z8:IsZip g8 z TI TO (rawInt g5.objs.size):=z8;have up:∀ c o,c≠z->g5.get? c=some o->g8.get? c=some o:=fun c o c1 e=>n8.extBut _ _ c1 (n7.extBut _ _ c1 (Heap.get?_push_of_some _ e));have T8:IsPair g8 g5.objs.size x y:=n8.extBut _ _ (Nat.ne_of_gt lz) (n7.extBut _ _ (Nat.ne_of_gt lz) (Heap.get?_push_size _ rfl));rw[sz]at z8 T8;refine wpAny_pure ⟨_,rfl,?_⟩;show Q (.ref g5.objs.size) { s with heap:=g8 };rw[sz];exact q g8 z8 (up _ _ D.TOz O5) (p1.at fun o e=>up _ o D.i1z e) (p2.at fun o e=>up _ o D.i2z e) T8 fun c o c1 c2 c3 c4 e=>up c o c1 (k5 c o c1 c2 c3 c4 e)
theorem qhB {t:Bool}{z TI TO i1 i2 l1 l2:Addr}{k:Nat}{xs ys:Array Value}{x y a b:Value}{Q:Option Value->Shared->Prop} (D:ZipApart z TI TO i1 i2 l1 l2)
   (gz:IsZip s.heap z TI TO .none) (gI:IsPair s.heap TI (.ref i1) (.ref i2)) (gO:IsPair s.heap TO a b) (j1:itK t s.heap i1 l1 k) (j2:itK t s.heap i2 l2 k) (m1:sqK t s.heap l1 xs) (m2:sqK t s.heap l2 ys) (ex:xs[k]?=some x) (ey:ys[k]?=some y)
   (q:∀ h',IsZip h' z TI TO (rawInt s.heap.objs.size)->IsPair h' TO x y->itK t h' i1 l1 (k+1)->itK t h' i2 l2 (k+1)->IsPair h' s.heap.objs.size x y ->
     (∀ c o,c≠z->c≠TO->c≠i1->c≠i2->s.heap.get? c=some o->h'.get? c=some o)->Q (some (.ref s.heap.objs.size)) { s with heap:=h' }) :
   wpAny (model prog w) A (pyNext (.ref z)) Q E s:=by
 have T:s.TypeIs (.ref z) "zip":=⟨_,gz,rfl⟩
 unfold pyNext
 exact wpAny_bind (wpAny_attempt (wpAny_callSpecial?_slot (name:=Str.ofString "__next__") T F.slot_zip_next (wpAny_call_entry F.slot_zip_next T F.entry_zip_next
   (qiS D gz gI gO j1 j2 m1 m2 ex ey fun h' c1 c2 c3 c4 c5 c6=>wpAny_pure (q h' c1 c2 c3 c4 c5 c6)) (F.args_zip_next_1 _))))
end
def itN:Bool->String
 | false=>"list_iterator"
 | true=>"tuple_iterator"
abbrev zk1 (t:Bool) (h:Heap) (u:Addr):Heap:=h.push { cls:=.type (itN t),data:=.fields #[.ref u,.int 0 0] }
abbrev zk3 (t:Bool) (h:Heap) (u v:Addr):Heap:=(zk1 t (zk1 t h u) v).push { cls:=.type "tuple",data:=.seq #[.ref h.objs.size,.ref (zk1 t h u).objs.size] }
abbrev zk4 (t:Bool) (h:Heap) (u v:Addr):Heap:=(zk3 t h u v).push { cls:=.type "tuple",data:=.seq #[.none,.none] }
abbrev zk5 (t:Bool) (h:Heap) (u v:Addr):Heap:=(zk4 t h u v).push { cls:=.type "zip",data:=.fields #[.none,.bool false,.bool false,.ref (zk1 t (zk1 t h u) v).objs.size,.ref (zk3 t h u v).objs.size] }
theorem qjR (t:Bool) (u v:Addr) (xs ys:Array Value):Meets (Builtin.«zip.__new__» ⟨[.type "zip",.ref u,.ref v],[]⟩) (fun _ R s=>sqK t s.heap u xs∧sqK t s.heap v ys ∧
     R (.ok (.ret (.ref (zk4 t s.heap u v).objs.size))) { s with heap:=zk5 t s.heap u v }) :=
 .of_wp fun prog w A R s h=>by
   obtain⟨hp,g,d,tk,os⟩:=s;obtain⟨m1,m2,h⟩:=h;have hsub:=sub_zip
   cases t with
   | false =>
     have L1:Heap.IsList (Shared.heap ⟨hp,g,d,tk,os⟩) u xs:=m1;have L2:Heap.IsList (Shared.heap ⟨hp.push { cls:=.type "list_iterator",data:=.fields #[.ref u,.int 0 0] },g,d,tk,os⟩) v ys:=Heap.IsList.push m2 _
     wp_walk using wpAny_pyIter_list L1,wpAny_pyIter_list L2
     exact⟨_,rfl,h⟩
   | true =>
     have L1:Heap.IsTuple (Shared.heap ⟨hp,g,d,tk,os⟩) u xs:=m1;have L2:Heap.IsTuple (Shared.heap ⟨hp.push { cls:=.type "tuple_iterator",data:=.fields #[.ref u,.int 0 0] },g,d,tk,os⟩) v ys:=Heap.IsTuple.push m2 _
     wp_walk using wpAny_pyIter_tuple L1,wpAny_pyIter_tuple L2
     exact⟨_,rfl,h⟩
section
variable {prog:Program}{w:World}{A:Around}{E:Value->Shared->Prop}{s:Shared}
theorem itK.new {t:Bool}{h:Heap}{j u:Addr} (g:h.get? j=some { cls:=.type (itN t),data:=.fields #[.ref u,.int 0 0] }):itK t h j u 0:=by
 cases t with
 | false=>exact⟨_,g,rfl,rfl⟩
 | true=>exact⟨_,g,rfl,rfl⟩
theorem qgX {t:Bool}{u v:Addr}{xs ys:Array Value}{Q:Value->Shared->Prop} (m1:sqK t s.heap u xs) (m2:sqK t s.heap v ys)
   (q:∀ h',IsZip h' (s.heap.objs.size+4) (s.heap.objs.size+2) (s.heap.objs.size+3) .none->IsPair h' (s.heap.objs.size+2) (.ref s.heap.objs.size) (.ref (s.heap.objs.size+1)) ->
     IsPair h' (s.heap.objs.size+3) .none .none->itK t h' s.heap.objs.size u 0->itK t h' (s.heap.objs.size+1) v 0->(∀ c o,s.heap.get? c=some o->h'.get? c=some o)->Q (.ref (s.heap.objs.size+4)) { s with heap:=h' }) :
   wpAny (model prog w) A (call (.type "zip") [.ref u,.ref v]) Q E s:=by
 refine callType_new F.called_zip (by decide) (F.typeCall_zip_2 _ _) (F.newCall_zip_2 _ _) (fun obj=>F.args_object_init_3 obj _ _) F.entry_zip_new (qjR t u v xs ys) ⟨m1,m2,?_⟩;have y1:(zk1 t s.heap u).objs.size=s.heap.objs.size+1:=Heap.size_push ..;have y2:(zk1 t (zk1 t s.heap u) v).objs.size=s.heap.objs.size+2:=by rw[Heap.size_push,y1]
 have y3:(zk3 t s.heap u v).objs.size=s.heap.objs.size+3:=by rw[Heap.size_push,y2]
 have y4:(zk4 t s.heap u v).objs.size=s.heap.objs.size+4:=by rw[Heap.size_push,y3]
 have f5:(zk5 t s.heap u v).get? (zk4 t s.heap u v).objs.size=some _:=Heap.get?_push_size _ rfl;have f4:(zk5 t s.heap u v).get? (zk3 t s.heap u v).objs.size=some _:=Heap.get?_push_of_some _ (Heap.get?_push_size _ rfl);have f3:(zk5 t s.heap u v).get? (zk1 t (zk1 t s.heap u) v).objs.size=some _:=Heap.get?_push_of_some _ (Heap.get?_push_of_some _ (Heap.get?_push_size _ rfl));have f2:(zk5 t s.heap u v).get? (zk1 t s.heap u).objs.size=some _:=Heap.get?_push_of_some _ (Heap.get?_push_of_some _ (Heap.get?_push_of_some _ (Heap.get?_push_size _ rfl)));have f1:(zk5 t s.heap u v).get? s.heap.objs.size=some _:=Heap.get?_push_of_some _ (Heap.get?_push_of_some _ (Heap.get?_push_of_some _ (Heap.get?_push_of_some _ (Heap.get?_push_size _ rfl))));show _∧_;rw[y2,y3,y4]at f5;rw[y1,y2]at f3;rw[y3]at f4;rw[y1]at f2;rw[y4];exact⟨⟨_,f5,rfl⟩,q _ f5 f3 f4 (.new f1) (.new f2) fun c o e=>Heap.get?_push_of_some _ (Heap.get?_push_of_some _ (Heap.get?_push_of_some _ (Heap.get?_push_of_some _ (Heap.get?_push_of_some _ e))))⟩
end
def SqK (K:Frag):Bool->Hp->Addr->List V->Prop
 | false=>SqL K
 | true=>SqT K
def Itz (K:Frag) (t:Bool) (a b:Addr):It :=
 ⟨fun i H=>∃ xs ys x y,SqK K t H a xs∧SqK K t H b ys∧xs[i]?=some x∧ys[i]?=some y,
  fun i H v H'=>∃ p x y,H p=none∧v=.ref p∧(∀ xs ys,SqK K t H a xs->SqK K t H b ys->xs[i]?=some x∧ys[i]?=some y)∧H'=upd H p (.tup [x,y]),
  fun i H=>∃ xs ys,SqK K t H a xs∧SqK K t H b ys∧(xs.length≤i∨ys.length≤i)⟩
section
variable {X:Cx}{pins:List (Addr×Obj)}{σ:St}{H:Hp}{s:Shared}
theorem Inv.seqK {t:Bool}{a:Addr}{xs:List V} (I:Inv X pins σ H s) (h:SqK X.K t H a xs):∃ its:List Value,Vals xs its∧sqK t s.heap a its.toArray∧xs.length≤sizeLine:=by
 cases t with
 | false =>
   obtain⟨its,rv,p,z⟩:=I.list h;exact⟨its,rv,p.isList,z⟩
 | true=>exact I.tuple h
theorem Inv.seqK_inj {t:Bool}{a:Addr}{xs ys:List V} (I:Inv X pins σ H s) (h:SqK X.K t H a xs) (h':SqK X.K t H a ys):xs=ys:=by
 cases t with
 | false=>exact I.list_inj h h'
 | true=>exact I.tuple_inj h h'
end
structure ZSt (t:Bool) (z TI TO i1 i2 a b:Addr) (i:Nat) (h:Heap):Prop where
 gz:IsZip h z TI TO .none
 gI:IsPair h TI (.ref i1) (.ref i2)
 gO:∃ u v,IsPair h TO u v
 j1:itK t h i1 a i
 j2:itK t h i2 b i
theorem qfC {Cm:Cx->Prop}{sp:Nat->Hp->Prop}{P:Program}{w:World}{K:Frag}{elts:List Expr}{k:Nat}{pos:Pos}{t:Bool} (z TI TO i1 i2 a b:Addr) (D:ZipApart z TI TO i1 i2 a b)
   (dn:∀ (X:Cx),X.prog=P->X.w=w->X.K=K->Cm X->∀ (i:Nat) (pins:List (Addr×Obj)) (s:Shared) (σ:St) (H:Hp) (E:Value->Shared->Prop),Inv X pins σ H s->(∀ b∈[z,TI,TO,i1,i2],qeZ X pins H b)->ZSt t z TI TO i1 i2 a b i s.heap->sp i H ->
     wpAny (model P w) X.A (pyNext (.ref z)) (fun r s1=>r=none∧Inv X pins σ H s1) E s) :
   qhc Cm P w K (.Tuple elts k pos) ⟨(Itz K t a b).go,(Itz K t a b).yld,sp⟩ [z,TI,TO,i1,i2] z (ZSt t z TI TO i1 i2 a b) where
 mem:=by simp
 obj:=fun i h st c hc=>by
   obtain⟨gz,gI,⟨u,v,gO⟩,j1,j2⟩:=st;simp only[List.mem_cons,List.not_mem_nil,or_false]at hc;rcases hc with rfl|rfl|rfl|rfl|rfl
   · exact⟨_,gz,fun v e=>by cases e⟩
   · exact⟨_,gI,fun v e=>by cases e⟩
   · exact⟨_,gO,fun v e=>by cases e⟩
   · obtain⟨o,g,d⟩:=j1.get;exact⟨o,g,fun v e=>by rw[d]at e;cases e⟩
   · obtain⟨o,g,d⟩:=j2.get;exact⟨o,g,fun v e=>by rw[d]at e;cases e⟩
 keep:=fun i h h' st kk=>by
   obtain⟨gz,gI,⟨u,v,gO⟩,j1,j2⟩:=st;exact⟨kk z (by simp) _ gz,kk TI (by simp) _ gI,⟨u,v,kk TO (by simp) _ gO⟩,j1.at fun o e=>kk i1 (by simp) o e,j2.at fun o e=>kk i2 (by simp) o e⟩
 item:=by
   intro X hP hw hK hc i pins s σ H E I hf st hg;subst hP hw hK;obtain⟨xs,ys,x,y,hq,hq2,hx,hy⟩:=hg;obtain⟨its,rv,p,hz⟩:=I.seqK hq;obtain⟨its2,rv2,p2,hz2⟩:=I.seqK hq2;obtain⟨u,hu,ru⟩:=rv.get hx;obtain⟨u2,hu2,ru2⟩:=rv2.get hy;obtain⟨gz,gI,⟨_,_,gO⟩,j1,j2⟩:=st;refine qhB (t:=t) D gz gI gO j1 j2 p p2 (x:=u) (y:=u2) (by simpa using hu) (by simpa using hu2) fun h1 w1 w2 w3 w4 w5 hk=>?_;refine⟨_,rfl,wpAny_letOwnedTupleGo_zip (s:={ s with heap:=h1 }) w1 fun h2 gz2 hs2=>?_⟩;have lz:z < s.heap.objs.size:=Heap.lt_size gz;have lI:TI < s.heap.objs.size:=Heap.lt_size gI;have lO:TO < s.heap.objs.size:=Heap.lt_size gO;have l1:i1 < s.heap.objs.size:=by obtain⟨o,g,_⟩:=j1.get;exact Heap.lt_size g
   have l2:i2 < s.heap.objs.size:=by obtain⟨o,g,_⟩:=j2.get;exact Heap.lt_size g
   have T2:h2.get? s.heap.objs.size=some { cls:=.type "tuple",data:=.seq #[u,u2] }:=(hs2.2 _ (Nat.ne_of_gt lz)).trans w5
   have I1:Inv X pins σ (upd H s.heap.objs.size (.tup [x,y])) { s with heap:=h2,toks:=s.toks }:=by
     refine I.turnLaid (ch:=[z,TI,TO,i1,i2]) (fun c o hc q=>?_) hf (Nat.le_refl _) ⟨by show 2≤sizeLine;decide,[u,u2],.cons ru (.cons ru2 .nil),⟨_,T2,rfl,_,rfl⟩⟩;have c1:c≠z:=fun e=>hc (by simp[e]);exact(hs2.2 c c1).trans (hk c o c1 (fun e=>hc (by simp[e])) (fun e=>hc (by simp[e])) (fun e=>hc (by simp[e])) q)
   refine⟨.ref s.heap.objs.size,_,I1,rfl,⟨_,x,y,I.hok.fresh (Nat.le_refl _),rfl,fun ys1 ys2 q1 q2=>by rw[I.seqK_inj q1 hq,I.seqK_inj q2 hq2];exact⟨hx,hy⟩,rfl⟩,?_,fun c hc=>?_⟩
   · exact⟨gz2,(hs2.2 _ D.TIz).trans (hk _ _ D.TIz D.TITO D.TIi1 D.TIi2 gI),⟨_,_,(hs2.2 _ D.TOz).trans w2⟩,w3.at fun o e=>(hs2.2 _ D.i1z).trans e,w4.at fun o e=>(hs2.2 _ D.i2z).trans e⟩
   · have hcl:c < s.heap.objs.size:=by
       simp only[List.mem_cons,List.not_mem_nil,or_false]at hc;rcases hc with rfl|rfl|rfl|rfl|rfl<;>assumption
     rw[qg (Nat.ne_of_lt hcl)];exact(hf c hc).1
 done:=dn
 self:=fun _ _ _ _ _ st h=>wpAny_pyIter_zip st.gz h
theorem qg4:bootBuiltins "zip"=some (.type "zip"):=by decide +kernel
inductive qiE (K:Frag) (sp:Bool->Addr->Addr->Nat->Hp->Prop) (R:(It->Hp->Prop)) (vs:List V) (H1:Hp):Prop
 | mk (t a b:_) (h1:vs=[.ref a,.ref b]) (h2:(∃ xs,SqK K t H1 a xs)) (h3:(∃ ys,SqK K t H1 b ys)) (h4:R ⟨(Itz K t a b).go,(Itz K t a b).yld,sp t a b⟩ H1):qiE K sp R vs H1
def qkS (K:Frag) (sp:Bool->Addr->Addr->Nat->Hp->Prop) (ta:TA):TI:=fun σ H R=>ta σ H fun vs H1=>qiE K sp R vs H1
section
variable {X:Cx}
theorem qjk {Cm:Cx->Prop}{sp:Bool->Addr->Addr->Nat->Hp->Prop}{e1 e2:Expr}{ta:TA}{p pos tp:Pos}{elts:List Expr}{kk:Nat} (T:∀ (t:Bool) (z TI TO i1 i2 a b:Addr),ZipApart z TI TO i1 i2 a b->qhc Cm X.prog X.w X.K (.Tuple elts kk tp) ⟨(Itz X.K t a b).go,(Itz X.K t a b).yld,sp t a b⟩ [z,TI,TO,i1,i2] z (ZSt t z TI TO i1 i2 a b)) (hg:Gl X "zip") (hm:X.mg "zip"=none) (ha:PA X [e1,e2] ta) (hs:starEach [e1,e2] X.env=(false,eval e1 X.env)::starEach [e2] X.env:=by rfl)
   (hpl:(backTo pos (starEach [e2] X.env)).any (·.1)=false:=by rfl):PIC Cm X (.Tuple elts kk tp) (.Call (.Name "zip" p) [e1,e2] [] pos) (qkS X.K sp ta):=by
 intro pins s σ H R I h;refine Call_ (qbi I hg hm qg4 (PyProof.Rows.callWith_type1 (thn (ha pos pins s σ H _ I h) fun us s1 zz_=>?_) hs hpl));obtain⟨vs,H1,I1,r1,q1⟩:=zz_;obtain⟨t,a,b,e,⟨xs,hq⟩,⟨ys,hq2⟩,q⟩:=q1;subst e;obtain⟨u,v,rfl,ru,rv⟩:=qc0 r1;cases ru;cases rv;obtain⟨its,rv,pl,hz⟩:=I1.seqK hq;obtain⟨its2,rv2,pl2,hz2⟩:=I1.seqK hq2;refine qgX (t:=t) pl pl2 fun h' gz gI gO j1 j2 hk=>?_;have I2:Inv X pins σ H1 { s1 with heap:=h' }:=I1.kept (t':=s1.toks) hk;have la:=pl.lt;have lb:=pl2.lt
 have D:ZipApart (s1.heap.objs.size+4) (s1.heap.objs.size+2) (s1.heap.objs.size+3) s1.heap.objs.size (s1.heap.objs.size+1) a b:=by
   constructor<;>(intro h;have h':=@id (@Eq Nat _ _) h;clear h;revert la lb h';exact fun (la:@LT.lt Nat _ _ _) (lb:@LT.lt Nat _ _ _) h'=>by omega)
 refine wpAny_pyIter_zip gz ⟨s1.heap.objs.size+4,_,_,_,H1,rfl,I2,T t _ _ _ _ _ _ _ D,⟨gz,gI,⟨_,_,gO⟩,j1,j2⟩,fun c hc=>?_,q⟩
 have hc1:s1.heap.objs.size≤c:=by
   simp only[List.mem_cons,List.not_mem_nil,or_false]at hc;rcases hc with rfl|rfl|rfl|rfl|rfl<;>omega
 exact I1.fpOk hc1 (I1.hok.fresh hc1)
end
theorem Same.but {G H H':Hp}{p:Addr} (s:Same G H) (b:But p H H') (n:G p=none):Same G H':=fun c o e=>b c o (s c o e) (qi e n)
theorem Same.put {G H:Hp}{p:Addr} (s:Same G H) (n:G p=none) (o:HO):Same G (upd H p o):=fun c u e=>by rw[qg (qi e n)];exact s c u e
theorem Same.none {G H:Hp}{p:Addr} (s:Same G H) (n:H p=none):G p=none:=by
 cases e:G p with
 | none=>rfl
 | some o=>rw[s p o e]at n;cases n
theorem But.none {H H':Hp}{p q:Addr} (b:But p H H') (n:H' q=none) (h:q≠p):H q=none:=by
 cases e:H q with
 | none=>rfl
 | some o=>rw[b q o e h]at n;cases n
def cut (H:Hp) (ts:List Addr):Hp:=fun b=>if b∈ts then none else H b
theorem qiL {H:Hp}{ts:List Addr}{b:Addr} (h:b∈ts):cut H ts b=none:=by unfold cut;rw[if_pos h]
theorem qgS {H:Hp}{ts:List Addr}{b:Addr} (h:b∉ts):cut H ts b=H b:=by unfold cut;rw[if_neg h]
theorem qic (H:Hp) (ts:List Addr):Same (cut H ts) H:=fun b o e=>by
 by_cases h:b∈ts
 · rw[qiL h]at e;cases e
 · rw[qgS h]at e;exact e
theorem qcn {α:Type}{xs:List α}{x y:α}{i:Nat} (h:(xs++[x])[i]?=some y):xs[i]?=some y∨(i=xs.length∧y=x):=by
 rw[List.getElem?_append]at h;by_cases hi:i < xs.length
 · rw[if_pos hi]at h;exact .inl h
 · rw[if_neg hi]at h
   have e:i - xs.length=0:=by
     cases n:i - xs.length with
     | zero=>rfl
     | succ k=>rw[n]at h;simp at h
   rw[e]at h;exact .inr ⟨by omega,by simpa using h.symm⟩
def qlq (K:Frag):List V->Hp->VK->Prop:=fun xs H Q=>∃ p ys,xs=[.ref p]∧(SqL K H p ys∨SqT K H p ys)∧∀ l,H l=none->Q (.ref l) (upd H l (.lst ys))
section
variable {X:Cx}
theorem qjh {i:Nat}{x:Str}{pos' pos:Pos}{elt iter tg:Expr}{ifs:List Expr}{scope:Scope}{cpos:Pos}{wi:TI}{g:TG}{tt:TT}{te:TE}{N:List Str}{cl:List (Str×Addr)}{js:List (Option Nat)} (hN:X.N.Nodup) (hi0:X.N[i]?=some x) (hx:Loc X.env.scope x)
   (hc:X.calm=true) (k:CompOk X scope N cl js) (hi:PI X tg iter wi)
   (hg:∀ C s₀ H₀ ex pn,PG (q8 X scope N cl C s₀ H₀ ex pn) tg g) (ht:∀ C s₀ H₀ ex pn,PTs (q8 X scope N cl C s₀ H₀ ex pn) ifs tt) (he:∀ C s₀ H₀ ex pn,PE (q8 X scope N cl C s₀ H₀ ex pn) elt te)
   (hsw:swapsWith (.ListComp elt [⟨tg,iter,ifs,0⟩] scope cpos) (some (.Name x pos')) pos.line X.env=pure true:=by rfl)
   (hf:X.fn x=true∨X.env.scope.names.lookup x=some .local:=by first|exact .inl rfl|exact .inr rfl|assumption)
   (hs:∀ x,foldedSetIterable iter X.env x=pure x:=by intro _;rfl) :
   PS X (.Assign [.Name x pos'] (.ListComp elt [⟨tg,iter,ifs,0⟩] scope cpos) pos) (qli (qhq wi g tt te js) (qjD i)):=by
 intro pins s σ H D0 I h;rw[exec_Assign_Name_used _ _ _ _ hsw];refine wpAny_bind (wpAny_standAt (wpAny_bind ?_));show wpAny _ X.A (do let _ ← comprehension (.ListComp elt [⟨tg,iter,ifs,0⟩] scope cpos) scope X.env _ (newList []) false (eval iter X.env) (some (assign (.Name x pos') X.env))) _ _ s;refine wpAny_bind (wpAny_mono (wpAny_comprehension_free (use:=some (assign (.Name x pos') X.env)) (Q:=fun _ s'=>∃ σ' H',Inv X pins σ' H' s'∧D0.nx σ' H') rfl hs k.clos k.kind k.names ?_) (fun _ s' hq=>wpAny_pure (wpAny_pure hq)) fun _ _ e=>e);refine thn (hi pins s σ H _ I h) fun v s1 h1=>thn h1 fun itv s2 h2=>?_;obtain⟨it,fp,tn,J,H2,e,I2,T,st2,f2,hD⟩:=h2;subst e;refine wpAny_newObj_type (wpAny_newFunctionEnv k.cell (by intro y hy;simp at hy) (fun h₁ hns₁ hsb₁=>?_) k.kind);dsimp only at hns₁ hsb₁ ⊢;generalize hH2:s2.heap.push { cls:=.type "list",dict:=none,data:=.seq ([]:List Value).toArray }=P2 at hns₁ hsb₁ ⊢;have hC:P2.objs.size=s2.heap.objs.size+1:=by rw[← hH2,Heap.size_push]
 have hDC:s2.heap.objs.size≠P2.objs.size:=by rw[hC];exact Nat.ne_of_lt (Nat.lt_succ_self _)
 have hCle:s2.heap.objs.size≤P2.objs.size:=by rw[hC];exact Nat.le_succ _
 have old:∀ b o,s2.heap.get? b=some o->h₁.get? b=some o:=fun b o e=>hsb₁.extBut b o (Nat.ne_of_lt (Nat.lt_of_lt_of_le (Heap.lt_size e) hCle)) (Heap.get?_push_of_some _ (hH2▸Heap.get?_push_of_some _ e));have hacc:h₁.get? s2.heap.objs.size=some { cls:=.type "list",data:=.seq ([]:List Value).toArray }:=hsb₁.extBut _ _ hDC (Heap.get?_push_of_some _ (hH2▸Heap.get?_push_size _ rfl))
 have hfl:∀ b∈fp,b < s2.heap.objs.size:=fun b hb=>by
   obtain⟨o,e,_⟩:=T.obj _ _ st2 b hb;exact Heap.lt_size e
 have fD:H2 s2.heap.objs.size=none:=I2.hok.fresh (Nat.le_refl _);obtain⟨W,⟨m0,w0⟩,turn⟩:=hD _ fD
 have IX:Inv (q8 X scope N cl P2.objs.size s2 H2 fp (X.pn++pins)) [] (st0 js σ) (upd H2 s2.heap.objs.size (.lst [])) { s2 with heap:=h₁,toks:=s2.toks+([]:List (Str×Value)).length } :=
   qeX k I2 f2 hfl (Nat.le_refl _) hCle hDC hns₁ hacc old
 have hg':=hg P2.objs.size s2 H2 fp (X.pn++pins);have ht':=ht P2.objs.size s2 H2 fp (X.pn++pins);have he':=he P2.objs.size s2 H2 fp (X.pn++pins)
 have stat:∀ {H':Hp},(∀ b∈fp,H' b=none)->∀ b∈fp,qeZ (q8 X scope N cl P2.objs.size s2 H2 fp (X.pn++pins)) [] H' b:=fun hn b hb=>by
   obtain⟨g0,g1,g2,g3,g4,g5⟩:=f2 b hb;refine⟨hn b hb,Nat.ne_of_lt (Nat.lt_of_lt_of_le (hfl b hb) hCle),fun z=>?_,.inl hb,fun x c h=>g4 x c (k.sub _ _ h),fun p hp=>g5 p (by simpa[q8] using hp)⟩;rcases List.mem_cons.mp (I2.stkSub b z) with e|e
   · exact g1 e
   · exact g2 e
 have loop:∀ s₃:Shared,s₃={ s2 with heap:=h₁,toks:=s2.toks+([]:List (Str×Value)).length } ->
     codeAny (model X.prog X.w) X.A (.compLoop (.ListComp elt [⟨tg,iter,ifs,0⟩] scope cpos) 0 (.ref it) (.ref s2.heap.objs.size) (compEnvC scope cl P2.objs.size X.env))
       (compPost (model X.prog X.w) X.A X.xe (some (assign (.Name x pos') X.env)) (fun _ s'=>∃ σ' H',Inv X pins σ' H' s'∧D0.nx σ' H') (.ref s2.heap.objs.size) P2.objs.size) s₃:=by
   rintro s₃ rfl;refine qbs (fun n s'=>∃ i σ' H',Inv (q8 X scope N cl P2.objs.size s2 H2 fp (X.pn++pins)) [] σ' H' s'∧tn i s'.heap∧(∀ b∈fp,H' b=none)∧W i n σ' H') ?_ m0
     ⟨0,st0 js σ,_,IX,T.keep _ _ _ st2 (fun b hb o e=>old b o e),fun b hb=>by rw[qg (Nat.ne_of_lt (hfl b hb))];exact(f2 b hb).1,w0⟩
   rintro n s3 ⟨i,σ3,H3,I3,st3,fr3,w3⟩;rcases turn i n σ3 H3 w3 with ⟨stop,qn⟩|⟨go,N2,hN,step⟩
   · refine thn (T.done (q8 X scope N cl P2.objs.size s2 H2 fp (X.pn++pins)) rfl rfl rfl hc i [] s3 σ3 H3 noE I3 (stat fr3) st3 stop) fun r s4 ⟨hr,I4⟩=>?_;subst hr;obtain⟨m4,hn4,_⟩:=id I4.loc;have u4:Un (frs X.stack) fp H2 H3 s2.heap s4.heap:=I4.base;have fC:H3 P2.objs.size=none:=I4.free
     have I6:Inv X pins σ H3 s4:=I2.call' (s':=s4) I4.os u4 I4.hok I4.bare fun b hb=>by
       obtain⟨g0,g1,g2,g3,g4,g5⟩:=f2 b hb;exact⟨g3,g1,g4,g5⟩
     have fpC:qeZ X pins H3 P2.objs.size:=I2.fpOk hCle fC;have hn4':s4.heap.Ns P2.objs.size m4:=hn4;obtain⟨oC,esC,epC,gC,rC⟩:=id hn4';have I7:=I6.pinned (fp:=[P2.objs.size]) (fun b hb=>by rw[show b=P2.objs.size by simpa using hb];exact fpC) (fun b hb=>⟨oC,by rw[show b=P2.objs.size by simpa using hb];exact gC,fun v z=>by rw[rC.1]at z;cases z⟩);show wpAny _ X.A (assign (.Name x pos') X.env (.ref s2.heap.objs.size)) _ _ s4;refine wpAny_assign_Name (qap I7 hN hi0 hx (v:=.ref s2.heap.objs.size) rfl (fun s5 I8=>?_) hf);have g5:=(I8.pin (P2.objs.size,oC) (List.mem_append_right _ (List.mem_append_right _ (zG (by simp) gC)))).1;refine⟨m4,hn4'.at' (fun o e=>by rw[gC]at e;cases e;exact g5),fun h' hsb=>⟨_,H3,?_,qn⟩⟩;exact I8.unpinned.turnL (t':=s5.toks) (ch:=[P2.objs.size]) (fun b o hb e=>hsb.extBut b o (fun z=>hb (by simp[z])) e) (fun b hb=>by rw[show b=P2.objs.size by simpa using hb];exact fpC)
   · refine thn (T.item (q8 X scope N cl P2.objs.size s2 H2 fp (X.pn++pins)) rfl rfl rfl hc i [] s3 σ3 H3 noE I3 (stat fr3) st3 go) fun r s4 ⟨u,hr,h4⟩=>?_;subst hr;refine thn h4 fun _ s5 zz_=>?_;obtain⟨x,H5,I5,r5,y5,st5,fr5⟩:=zz_;have I5':=I5.pinned (stat fr5) (T.obj _ _ st5);refine thn (hg' _ s5 σ3 H5 x u _ I5' r5 (step x H5 y5)) fun _ s6 zz_=>?_;obtain⟨σ6,H6,I6,q6⟩:=zz_;refine thn (ht' _ s6 σ6 H6 _ I6 q6) fun ok s7 zz_=>?_;obtain⟨H7,I7,q7⟩:=zz_;have again:∀ {s8:Shared}{σ8:St}{H8:Hp},Inv (q8 X scope N cl P2.objs.size s2 H2 fp (X.pn++pins)) ([]++qb7 fp s5.heap) σ8 H8 s8->N2 σ8 H8 ->
         ∃ m,m < n∧∃ i σ' H',Inv (q8 X scope N cl P2.objs.size s2 H2 fp (X.pn++pins)) [] σ' H' s8∧tn i s8.heap∧(∀ b∈fp,H' b=none)∧W i m σ' H':=fun {s8 σ8 H8} I8 n8=>by
       obtain⟨m',hm,w8⟩:=hN σ8 H8 n8;refine⟨m',hm,i+1,σ8,H8,I8.unpinned,T.keep _ _ _ st5 fun b hb o e=>(I8.pin (b,o) (List.mem_append_right _ (List.mem_append_right _ (zG hb e)))).1,fun b hb=>?_,w8⟩;obtain⟨o,e,d⟩:=T.obj _ _ st5 b hb;exact(I8.pin (b,o) (List.mem_append_right _ (List.mem_append_right _ (zG hb e)))).2.1
     cases ok with
     | false=>exact again I7 (by simpa using q7)
     | true =>
       have q7':te σ6 H7 fun y H5=>∃ ys,H5 s2.heap.objs.size=some (.lst ys)∧ys.length < sizeLine∧N2 σ6 (upd H5 s2.heap.objs.size (.lst (ys++[y]))):=by simpa using q7
       refine thn (he' _ s7 σ6 H7 _ I7 q7') fun xv s8 zz_=>?_;obtain⟨y,H8,I8,r8,ys,hy,hlen,n8⟩:=zz_;refine thn (ZP (X:=q8 X scope N cl P2.objs.size s2 H2 fp (X.pn++pins)) _ s8 σ6 H8 (.ref s2.heap.objs.size) [y] (.ref s2.heap.objs.size) [xv] (fun _ H9=>N2 σ6 H9) I8 rfl (.cons r8 .nil) ⟨_,ys,y,rfl,rfl,hy,hlen,n8⟩) fun _ s9 ⟨_,H9,I9,_,n9⟩=>again I9 n9
 exact codeAny_compStart_list (loop _ rfl) (T.self _ 0 _ _ _ (T.keep _ _ _ st2 (fun b hb o e=>old b o e)) (loop _ rfl))
end
theorem zp {t u:TS}{D:qhg}{σ:St}{H:Hp} (Post:St->Hp->Prop) (h1:∀ N:St->Hp->Prop,(∀ σ' H',Post σ' H'->N σ' H')->t { D with nx:=N } σ H) (h2:∀ σ' H',Post σ' H'->u D σ' H'):qlO t u D σ H:=h1 (u D) h2
inductive qhe (H:Hp) (p:Addr):Prop
 | mk (c x y:Int) (h1:0≤c) (h2:H p=some (.lst [.int c,.int x,.int y])):qhe H p
def PenAt (H:Hp) (p:Addr):Prop:=qhe H p
theorem PenAt.ne {H:Hp}{p q:Addr} (h:PenAt H p) (hq:H q=none):q≠p:=by
 obtain⟨c,x,y,_,e⟩:=h;exact(qi e hq).symm
theorem PenAt.same {H H':Hp}{p:Addr} (h:PenAt H p) (s:Same H H'):PenAt H' p:=by
 obtain⟨c,x,y,k,e⟩:=h;exact⟨c,x,y,k,s _ _ e⟩
theorem PenAt.upd {H:Hp}{p q:Addr} (h:PenAt H p) (n:q≠p) (o:HO):PenAt (L2.upd H q o) p:=by
 obtain⟨c,x,y,k,e⟩:=h;exact⟨c,x,y,k,by rw[qg n.symm];exact e⟩
structure Gh (p:Addr) (E H:Hp):Prop where
 s:Same E H
 n:E p=none
 pen:PenAt H p
theorem Gh.take {p:Addr}{E H H':Hp} (g:Gh p E H) (b:But p H H') (h:PenAt H' p):Gh p E H':=⟨g.s.but b g.n,g.n,h⟩
theorem Gh.same {p:Addr}{E H H':Hp} (g:Gh p E H) (s:Same H H'):Gh p E H':=⟨g.s.trans s,g.n,g.pen.same s⟩
inductive qkY {β:Type} (f:β->List V) (H:Hp) (ps:List β) (i:Nat) (z:V):Prop
 | mk (p:β) (t:Addr) (h1:ps[i]?=some p) (h2:z=.ref t) (h3:H t=some (.tup (f p))):qkY f H ps i z
inductive qkZ {β:Type} (f:β->List V) (H:Hp) (zs:List V) (i:Nat) (p:β):Prop
 | mk (t:Addr) (h1:zs[i]?=some (.ref t)) (h2:H t=some (.tup (f p))):qkZ f H zs i p
def TupL {β:Type} (f:β->List V) (H:Hp) (zs:List V) (ps:List β):Prop:=zs.length=ps.length∧∀ (i:Nat) z p,zs[i]?=some z->ps[i]?=some p->∃ t,z=.ref t∧H t=some (.tup (f p))
section
variable {β:Type}{f:β->List V}{H H':Hp}{zs:List V}{ps:List β}
theorem TupL.nil:TupL f H [] []:=⟨rfl,fun i z p e=>by simp at e⟩
theorem TupL.same (h:TupL f H zs ps) (s:Same H H'):TupL f H' zs ps:=⟨h.1,fun i z p e1 e2=>by
 obtain⟨t,e,q⟩:=h.2 i z p e1 e2
 exact⟨t,e,s _ _ q⟩⟩
theorem TupL.put {q:Addr}{xs ys:List V} (h:TupL f H zs ps) (hq:H q=some (.lst xs)):TupL f (upd H q (.lst ys)) zs ps:=⟨h.1,fun i z y e1 e2=>by
 obtain⟨t,e,r⟩:=h.2 i z y e1 e2
 exact⟨t,e,by rw[qg (qX r hq (by intro z;cases z))];exact r⟩⟩
theorem TupL.snoc {t:Addr}{p:β} (h:TupL f H zs ps) (q:H t=some (.tup (f p))):TupL f H (zs++[.ref t]) (ps++[p]):=⟨by rw[List.length_append,List.length_append,h.1];rfl,fun i z y e1 e2=>by
 rcases qcn e1 with e|⟨ei,e⟩
 · rcases qcn e2 with e'|⟨ei',_⟩
   · exact h.2 i z y e e'
   · have:=(List.getElem?_eq_some_iff.mp e).1
     rw[ei',← h.1]at this;exact absurd this (Nat.lt_irrefl _)
 · rcases qcn e2 with e'|⟨_,e'⟩
   · have:=(List.getElem?_eq_some_iff.mp e').1
     rw[ei,h.1]at this;exact absurd this (Nat.lt_irrefl _)
   · exact⟨t,e,e'▸q⟩⟩
theorem TupL.at_ (h:TupL f H zs ps) {i:Nat}{p:β} (e:ps[i]?=some p):qkZ f H zs i p:=by
 have hi:i < zs.length:=by rw[h.1];exact(List.getElem?_eq_some_iff.mp e).1
 obtain⟨t,et,q⟩:=h.2 i _ p (List.getElem?_eq_getElem hi) e;exact⟨t,by rw[List.getElem?_eq_getElem hi,et],q⟩
theorem TupL.of (h:TupL f H zs ps) {i:Nat}{z:V} (e:zs[i]?=some z):qkY f H ps i z:=by
 have hi:i < ps.length:=by rw[← h.1];exact(List.getElem?_eq_some_iff.mp e).1
 obtain⟨t,et,q⟩:=h.2 i z _ e (List.getElem?_eq_getElem hi);exact⟨_,t,List.getElem?_eq_getElem hi,et,q⟩
end
end L2
namespace L2
open PySem PySem.Spec PyProof.Rows PySem.Builtin.Str PySem.NumText
theorem qi3 {x y:Str} (h:x.cps.toList=y.cps.toList):x=y:=by
 obtain⟨a⟩:=x;obtain⟨b⟩:=y
 have:a=b:=by
   have:=congrArg List.toArray h
   simpa using this
 rw[this]
theorem Jz (x:Str):x.cps.toList.length=x.length:=Array.length_toList
end L2
namespace KC
open PySem L2 PySem.NumText PyProof.Rows
theorem zS {xs:List V}{i:Int} (h0:0≤i) (h1:i < xs.length):∃ v,atI xs i=some v∧v∈xs:=by
 obtain⟨n,rfl⟩:=Int.eq_ofNat_of_zero_le h0;have hn:n < xs.length:=by omega
 exact⟨xs[n],QB (List.getElem?_eq_getElem hn),List.getElem_mem hn⟩
end KC
namespace L2
open PySem PySem.Spec PyProof.Rows
open PySem.W (Frag InstAt hasDictIn findIn isFn Looks looks_clsIn typeIn looks_findIn keepIn specialIn takesIn mroIn callWith_K clsIn notCls looks_mroIn check_slot findObj looks_find findCls subIn looks_typeIn looks_subIn isClsIn)
def ExO (ea C:Addr) (dx:Option Addr) (tb:Value):Heap->Prop:=fun h =>
 ∃ o vs,h.get? ea=some o∧o.cls=.ref C∧o.dict=dx∧o.data=.fields vs∧vs.size=6∧vs[1]?=some tb∧vs[2]?=some Value.none
def TbO (T:Addr):Heap->Prop:=fun h=>∃ o ts,h.get? T=some o∧o.data=.fields ts∧ts[3]?=some Value.none
def XAt (H:Hp) (ea C:Addr) (dx:Option Addr):Prop :=
 ∃ tb,H ea=some (.ext (ExO ea C dx tb))∧(tb=.none∨∃ T,tb=.ref T∧H T=some (.ext (TbO T))∧T≠ea)
theorem qeW {P:Program}{w:World}{H:Hp}{h:Heap}{ea C:Addr}{dx:Option Addr}{tb:Value} (x:ExO ea C dx tb h):ObjOk P w H h ea (.ext (ExO ea C dx tb)):=by
 obtain⟨o,vs,e,r⟩:=id x;exact⟨x,⟨o,e⟩,fun h1 h2 ⟨o',vs',e',r'⟩ k=>⟨o',vs',k _ e',r'⟩⟩
theorem qjZ {P:Program}{w:World}{H:Hp}{h:Heap}{T:Addr} (x:TbO T h):ObjOk P w H h T (.ext (TbO T)):=by
 obtain⟨o,vs,e,r⟩:=id x;exact⟨x,⟨o,e⟩,fun h1 h2 ⟨o',vs',e',r'⟩ k=>⟨o',vs',k _ e',r'⟩⟩
section
variable {M:Model}{A:Around}{E:Value->Shared->Prop}{s:Shared}
structure qhf (L:List Addr) (e:Addr) (oe:Obj) (h h':Heap) (T:Addr) (fl:Value):Prop where
 new:T=h.objs.size
 keep:∀ b o,b≠e->b∉L->h.get? b=some o->h'.get? b=some o
 slot:∀ b o,b≠e->h.get? b=some o->∃ sl,h'.get? b=some { o with slots:=sl }
 exc:h'.get? e=some (oe.mapFields (·.setIfInBounds 1 (.ref T)))
 tb:∃ oT ts,h'.get? T=some oT∧oT.data=.fields ts∧ts[3]?=some fl
theorem qcg {base:Heap}{env:Env}{outer:List Env}{L e:Addr}{oe:Obj}{vs:Array Value}{head:Value}{hadNext:Bool}{Q:Unit->Shared->Prop}
   (hfr:A.frames=some (env::outer)) (hl:s.heap.FunFrames base (env::outer)) (hf:env.frame=some L)
   (he:s.heap.get? e=some oe) (hd:oe.data=.fields vs) (hsz:1 < vs.size)
   (h:∀ h' T,qhf (frs (env::outer)) e oe s.heap h' T (rawInt L)->Q () { s with heap:=h' }) :
   wpAny M A (do
     let a ← frameOf env;let pl ← entryPlaceOf L hadNext;let b ← EntryCells.newEntry head a .none (rawInt L) .none pl
     setField (.ref e) 1 b) Q E s:=by
 have hene:e∉(env::outer).filterMap (·.frame):=fun hm=>by
   obtain⟨_,o,ho,hnf⟩:=hl.mem hm;rw[he]at ho;cases ho;exact hnf vs hd
 refine wpAny_bind (wpAny_frameOf_fun hfr hl hf fun g1 hs1=>?_);refine wpAny_bind (wpAny_entryPlaceOf fun pl hpl=>?_);unfold EntryCells.newEntry newFields;refine wpAny_bind (wpAny_newObj_type ?_ (hpl.sizeOk5 _ _ _ _ _));have he1:g1.get? e=some oe:=(hs1.2.1 e hene).trans he;generalize hob:({ cls:=.type "traceback",dict:=none,data:=.fields ([head,.ref L,.none,rawInt L,.none]++(if pl.isEmpty then List.replicate 6 Value.none else pl)).toArray }:Obj)=ob;have hobd:ob.data=.fields ([head,.ref L,.none,rawInt L,.none]++(if pl.isEmpty then List.replicate 6 Value.none else pl)).toArray:=by rw[← hob]
 have hof:ob.isFreed=false:=by rw[← hob];rfl
 have he2:=Heap.get?_push_of_some (h:=g1) ob he1;refine wpAny_setField he2 hd hsz (h _ g1.objs.size ?_);have hTe:g1.objs.size≠e:=Nat.ne_of_gt (Heap.lt_size he1);have hd3:=Obj.data_mapFields hd (·.setIfInBounds 1 (Value.ref g1.objs.size))
 have keep:∀ b o,b≠e->g1.get? b=some o->((g1.push ob).update e (Obj.mapFields (·.setIfInBounds 1 (Value.ref g1.objs.size)))).get? b=some o:=fun b o hbe hb=>by
   rw[Heap.get?_update_other _ _ (Ne.symm hbe)];exact Heap.get?_push_of_some _ hb
 refine⟨hs1.1,fun b o hbe hbL hb=>keep b o hbe ((hs1.2.1 b hbL).trans hb),fun b o hbe hb=>?_,Heap.get?_update_self _ he2 (Obj.isFreed_of_fields hd3),ob,_,?_,hobd,?_⟩
 · obtain⟨sl,q⟩:=hs1.2.2 b o hb;exact⟨sl,keep b _ hbe q⟩
 · rw[Heap.get?_update_other _ _ (Ne.symm hTe)];exact Heap.get?_push_size g1 hof
 · simp
theorem qgj {base:Heap}{env:Env}{outer:List Env}{L e:Addr}{oe:Obj}{vs:Array Value}{tb:Value}{Q:Unit->Shared->Prop}
   (hfr:A.frames=some (env::outer)) (hl:s.heap.FunFrames base (env::outer)) (hf:env.frame=some L)
   (he:s.heap.get? e=some oe) (hd:oe.data=.fields vs) (h1:vs[1]?=some tb) (ht:tb=.none∨∃ T,tb=.ref T∧TbO T s.heap)
   (h:∀ h' T,qhf (frs (env::outer)) e oe s.heap h' T (rawInt L)->Q () { s with heap:=h' }):wpAny M A (noteFrame (.ref e) env) Q E s:=by
 unfold noteFrame;simp only[hf];refine wpAny_bind (wpAny_field he hd h1 ?_);have hsz:=(Array.getElem?_eq_some_iff.mp h1).1;rcases ht with rfl|⟨T,rfl,oT,ts,hT,hdT,h3⟩
 · rw[if_neg (by decide)];exact qcg hfr hl hf he hd hsz h
 · rw[if_pos (show (Value.ref T != Value.none)=true from by simp)];refine wpAny_bind (wpAny_field hT hdT h3 ?_);rw[if_neg (show ¬ ((Value.none == rawInt L)=true) from by simp[rawInt])];refine wpAny_bind (wpAny_setField hT hdT (Array.getElem?_eq_some_iff.mp h3).1 ?_);rw[Heap.update_setField_same s.heap T oT ts 3 Value.none hT hdT h3];exact qcg hfr hl hf he hd hsz h
theorem qgr {base:Heap}{env:Env}{outer:List Env}{L e:Addr}{oe:Obj}{vs:Array Value}{tb:Value}{Q:Unit->Shared->Prop}
   (hfr:A.frames=some (env::outer)) (hl:s.heap.FunFrames base (env::outer)) (hf:env.frame=some L)
   (he:s.heap.get? e=some oe) (hd:oe.data=.fields vs) (h1:vs[1]?=some tb) (ht:tb=.none∨∃ T,tb=.ref T∧TbO T s.heap)
   (h:∀ h' T,qhf (frs (env::outer)) e oe s.heap h' T .none->Q () { s with heap:=h' }) :
   wpAny M A (noteFrame (.ref e) env) (fun _ s2=>wpAny M A (setFlight (.ref e) none) Q E s2) E s:=by
 refine qgj hfr hl hf he hd h1 ht fun h' T K=>?_;obtain⟨k1,k2,k3,k4,oT,ts,k5,k6,k7⟩:=K;have hsz:=(Array.getElem?_eq_some_iff.mp h1).1;have h3:3 < ts.size:=(Array.getElem?_eq_some_iff.mp k7).1;have hTe:e≠T:=by rw[k1];exact Nat.ne_of_lt (Heap.lt_size he)
 unfold setFlight;refine wpAny_bind (wpAny_field k4 (Obj.data_mapFields hd _) (x:=.ref T) (by simp[hsz]) ?_);rw[if_pos (show (Value.ref T != Value.none)=true from by simp)];refine wpAny_setField k5 k6 h3 (h _ T ⟨k1,fun b o hbe hbL hb=>?_,fun b o hbe hb=>?_,?_,_,_,Heap.get?_update_self _ k5 (Obj.isFreed_of_fields (Obj.data_mapFields k6 _)),Obj.data_mapFields k6 _,by simp[h3]⟩)
 · have:T≠b:=by rw[k1];exact Nat.ne_of_gt (Heap.lt_size hb)
   rw[Heap.get?_update_other _ _ this];exact k2 b o hbe hbL hb
 · have:T≠b:=by rw[k1];exact Nat.ne_of_gt (Heap.lt_size hb)
   rw[Heap.get?_update_other _ _ this];exact k3 b o hbe hb
 · rw[Heap.get?_update_other _ _ (Ne.symm hTe)];exact k4
end
section
variable {X:Cx}{pins:List (Addr×Obj)}{σ:St}{H:Hp}{s:Shared}{ea C:Addr}{dx:Option Addr}
def Zf (H:Hp) (ea C:Addr) (dx:Option Addr) (T:Addr):Hp:=upd (upd H ea (.ext (ExO ea C dx (.ref T)))) T (.ext (TbO T))
theorem qbf {T:Addr}{b:Addr}{o:HO} (hT:H T=none) (hb:b≠ea) (e:H b=some o):Zf H ea C dx T b=some o:=by
 unfold Zf;rw[qg (qi e hT),qg hb];exact e
theorem qgs {T:Addr} (hT:H T=none) (hne:T≠ea):XAt (Zf H ea C dx T) ea C dx:=by
 refine⟨.ref T,?_,.inr ⟨T,rfl,?_,hne⟩⟩
 · unfold Zf;rw[qg (Ne.symm hne),qd]
 · unfold Zf;rw[qd]
theorem qgq {M:Model}{A:Around}{E:Value->Shared->Prop}{Q:Unit->Shared->Prop} (I:Inv X pins σ H s) (hst:X.stack=X.env::X.outer) (hf:X.env.frame=some X.env.locals) (hfr:A.frames=some X.stack) (x:XAt H ea C dx)
   (h:∀ s' T,H T=none->T≠ea->Inv X pins σ (Zf H ea C dx T) s'->Q () s') :
   wpAny M A (noteFrame (.ref ea) X.env) (fun _ s2=>wpAny M A (setFlight (.ref ea) none) Q E s2) E s:=by
 obtain⟨tb,e1,e2⟩:=x;obtain⟨⟨oe,vs,he,hc,hdx,hd,hz,h1,hx2⟩,_,_⟩:=(show ObjOk X.prog X.w H s.heap ea (.ext (ExO ea C dx tb)) from I.hok ea _ e1)
 have ht:tb=.none∨∃ T,tb=.ref T∧TbO T s.heap:=by
   rcases e2 with e2|⟨T,e2,e3,_⟩
   · exact .inl e2
   · obtain⟨q,_,_⟩:=(show ObjOk X.prog X.w H s.heap T (.ext (TbO T)) from I.hok T _ e3)
     exact .inr ⟨T,e2,q⟩
 have hl:=I.stack;rw[hst]at hl hfr;have hea:ea∉frs X.stack:=fun z=>by have:=I.stkFree ea z;rw[e1]at this;cases this
 refine qgr hfr hl hf he hd h1 ht fun h' T K=>?_;obtain⟨k1,k2,k3,k4,oT,ts,k5,k6,k7⟩:=K;rw[← hst]at k2;have hT:H T=none:=I.hok.fresh (by rw[k1];exact Nat.le_refl _);have hTe:T≠ea:=by rw[k1];exact Nat.ne_of_gt (Heap.lt_size he)
 have nT:∀ b ob,s.heap.get? b=some ob->b≠T:=fun b ob e=>by rw[k1];exact Nat.ne_of_lt (Heap.lt_size e)
 have trk:∀ b u,H b=some u->b∉frs X.stack:=fun b u e z=>by have:=I.stkFree b z;rw[e]at this;cases this
 have nex:∀ b u,H b=some u->(∀ φ,u≠.ext φ)->b≠ea:=fun b u e n z=>by subst z;rw[e1]at e;cases e;exact n _ rfl
 have old:∀ b u,H b=some u->(∀ φ,u≠.ext φ)->Zf H ea C dx T b=some u:=fun b u e n=>qbf hT (nex b u e n) e
 have un:Un (frs X.stack) [] H (Zf H ea C dx T) s.heap h':=by
   refine⟨fun b o e n hb _=>k2 b o (fun z=>by subst z;rw[e1]at n;cases n) hb e,fun b o e n hb _=>k3 b o (fun z=>by subst z;rw[e1]at n;cases n) e,fun b o e n _=>?_,fun b o e _=>?_,
     fun b xs e=>old b _ e fun φ z=>(nomatch z),fun b o u e=>old b _ e fun φ z=>(nomatch z),fun b ps e=>⟨#[],by rw[old b _ e fun φ z=>(nomatch z)];simp⟩⟩
   · unfold Zf;rw[qg (nT b o e),qg fun z=>by subst z;rw[e1]at n;cases n];exact n
   · by_cases z:b=ea
     · subst z;exact⟨_,k4⟩
     · obtain⟨sl,q⟩:=k3 b o z e;exact⟨_,q⟩
 have hok:HOk X.prog X.w (Zf H ea C dx T) h':=fun b u e=>by
   by_cases z:b=T
   · subst z;unfold Zf at e;rw[qd]at e;cases e;exact qjZ ⟨oT,ts,k5,k6,k7⟩
   · by_cases z2:b=ea
     · subst z2;unfold Zf at e;rw[qg z,qd]at e;cases e;refine qeW ⟨_,_,k4,(Obj.cls_mapFields _ _).trans hc,?_,Obj.data_mapFields hd _,by simp[hz],by simp[hz],by rw[Array.getElem?_setIfInBounds_ne (by decide)];exact hx2⟩;rw[← hdx];obtain⟨oc,od,odt,osl⟩:=oe;have hd':odt=.fields vs:=hd;subst hd';rfl
     · have e':H b=some u:=by
         unfold Zf at e;rw[qg z,qg z2]at e;exact e
       refine(I.hok b u e').stay (fun c v hc q=>?_) (fun c q=>old c _ q fun φ z=>(nomatch z)) fun c xs q=>old c _ q fun φ z=>(nomatch z)
       rcases hc with hc|hc
       · subst hc;exact k2 c v z2 (trk c u e') q
       · exact k2 c v (nex c _ hc fun φ z=>(nomatch z)) (trk c _ hc) q
 exact h _ T hT hTe (I.call' (s':={ s with heap:=h' }) rfl un hok I.bare fun b z=>absurd z (by simp))
def Sure (E:XK) (C ea:Addr) (dx:Option Addr) (H:Hp):Prop:=∀ H',(∀ b o,b≠ea->H b=some o->H' b=some o)->XAt H' ea C dx->E (.ref C) (some ea) H'
theorem Sure.look {E:XK}{T:Addr} (h:Sure E C ea dx H) (hT:H T=none):Sure E C ea dx (Zf H ea C dx T):=fun H' k x=>h H' (fun b o hb e=>k b o hb (qbf hT hb e)) x
inductive qk1 (P:Program) (w:World) (outer:List Env) (H:Hp) (s:Shared) (E:XK) (e:Value) (s':Shared):Prop
 | mk (ea C dx H':_) (h1:e=.ref ea) (h2:s'.os=s.os) (h3:AllBare s'.gens) (h4:Un (frs outer) [] H H' s.heap s'.heap) (h5:HOk P w H' s'.heap) (h6:XAt H' ea C dx) (h7:Sure E C ea dx H'):qk1 P w outer H s E e s'
def CX1 (P:Program) (w:World):CXT:=fun outer H s E e s'=>qk1 P w outer H s E e s'
def Throws (X:Cx) (E:XK):Prop:=∀ (pins:List (Addr×Obj)) (σ:St) (H:Hp) (s:Shared) (ea C:Addr) (dx:Option Addr),Inv X pins σ H s->XAt H ea C dx->Sure E C ea dx H->X.xe (.ref ea) s
theorem Throws.passes {E:XK} (t:Throws X E):jC (CX1 X.prog X.w) X E:=by
 intro pins σ H s e s' I ⟨ea,C,dx,H',e1,os,bare,un,hok,x,q⟩;subst e1;exact t pins σ H' s' ea C dx (I.call' os un hok bare fun b z=>absurd z (by simp)) x q
theorem throws_cx {P:Program}{w:World}{K:Frag}{mg:Str->Option Value}{base:Heap}{N:List Str}{qual:Str}{scope:Scope}{f:Addr}{cd:Value}{A:Around}{outer:List Env}{s₀:Shared}{H₀:Hp}{E:XK} :
   Throws (zf (CX1 P w) P w K mg base N qual scope f cd A outer s₀ H₀ E) E:=by
 intro pins σ H s ea C dx I x q;show wpAny _ _ (leaving _ _) _ _ _;unfold leaving;refine wpAny_bind (qgq I rfl rfl I.ok.frames x fun s' T hT hne J=>?_);exact⟨ea,C,dx,_,rfl,J.os,J.bare,J.base,J.hok,qgs hT hne,q.look hT⟩
end
def tyS:Value->String
 | .type a=>a
 | _=>""
theorem qjX {v:Value}{s:String} (h:tyS v=s) (n:s≠""):v=.type s:=by
 cases v with
 | type a=>exact congrArg _ h
 | _=>exact absurd h.symm n
theorem qiY {l:List Value}:∀ {ss:List String},l.map tyS=ss->(∀ s∈ss,s≠"")->l=ss.map Value.type:=by
 induction l with
 | nil=>intro ss h _;rw[← h];rfl
 | cons v l ih =>
   intro ss h n
   cases ss with
   | nil=>cases h
   | cons s ss =>
     have h1:tyS v=s:=(List.cons.inj h).1;have h2:l.map tyS=ss:=(List.cons.inj h).2;rw[qjX h1 (n s List.mem_cons_self),ih h2 fun x m=>n x (List.mem_cons_of_mem _ m)];rfl
def qaa:List Value->Bool
 | []=>false
 | x::r=>match x with
   | .ref _=>qaa r
   | _=>(x::r).map tyS == ["ValueError","Exception","BaseException","object"]
theorem qat {l:List Value} (e:qaa l=true):(∃ c r,l=.ref c::r∧qaa r=true)∨l=[.type "ValueError",.type "Exception",.type "BaseException",.type "object"]:=by
 cases l with
 | nil=>cases e
 | cons x r =>
   unfold qaa at e;split at e
   · exact .inl ⟨_,r,rfl,e⟩
   · exact .inr (qiY (eq_of_beq e) (by decide))
theorem zW {T:String}{v:Bool} (h4:([.type "ValueError",.type "Exception",.type "BaseException",.type "object"]:List Value).contains (.type T)=v) {l:List Value}:qaa l=true->l.contains (.type T)=v:=by
 induction l with
 | nil=>intro e;cases e
 | cons x r ih =>
   intro e;rcases qat e with ⟨c,r',h,e'⟩|h
   · cases h;rw[List.contains_cons,ih e',show (Value.type T == Value.ref c)=false from rfl,Bool.false_or]
   · rw[h];exact h4
inductive qiP (K:Frag) (C:Addr):Prop
 | mk (nm qn:Str) (N:Addr) (bs bm:List Value) (sn:List Str) (sub:List Value) (ab:Bool) (col:Option Bool) (dd:Option Addr) (k0 k1 k2 k3 k5:Option Value) (h1:K.lookup C=some (excClassObj nm qn C N bs bm true sn sub ab col dd k0 k1 k2 k3 k5 "ValueError.__new__")) (h2:qaa bm=true):qiP K C
def qlI (K:Frag) (C:Addr):Prop:=qiP K C
noncomputable def xIn (K:Frag) (C:Addr):Bool:=@decide (qlI K C) (Classical.propDecidable _)
theorem xIn_iff {K:Frag}{C:Addr}:xIn K C=true↔qlI K C:=@decide_eq_true_iff (qlI K C) (Classical.propDecidable _)
theorem qk2 {K:Frag}{h:Heap}{C:Addr} (X:K.In h) (q:xIn K C=true):∃ nm qn N bs bm sn sub ab col dd k0 k1 k2 k3 k5,
   h.get? C=some (excClassObj nm qn C N bs bm true sn sub ab col dd k0 k1 k2 k3 k5 "ValueError.__new__")∧qaa bm=true:=by
 obtain⟨nm,qn,N,bs,bm,sn,sub,ab,col,dd,k0,k1,k2,k3,k5,ho,hx⟩:=xIn_iff.mp q;exact⟨nm,qn,N,bs,bm,sn,sub,ab,col,dd,k0,k1,k2,k3,k5,X _ _ ho,hx⟩
section
variable {M:Model}{A:Around}{E:Value->Shared->Prop}{h:Heap}{g:Array GenState}{d:Drawn}{t:Nat}{os:OsState}
variable {nm q:Str}{C N:Addr}{bs bm bmB:List Value}{sn:List Str}{sub:List Value}{ab:Bool}{col:Option Bool}{dd:Option Addr}{k0 k1 k2 k3 k5:Option Value}{B newId initId:String}
theorem qdV (F:ExcBaseFacts B newId initId bmB) {rest:List Value}{Q:Unit->Shared->Prop} (hC:h.get? C=some (excClassObj nm q C N bs bm true sn sub ab col dd k0 k1 k2 k3 k5 newId))
   (hcont:(Value.ref C::bm).contains (.type B)=true) (hq:Q () ⟨h,g,d,t,os⟩):wpAny M A (checkBuiltinCall newId ⟨.ref C::rest,[]⟩) Q E ⟨h,g,d,t,os⟩:=by
 have hstar:=F.noStar;simp only[checkBuiltinCall,F.newKind,F.newSplit,F.newRow]
 repeat (first
   | refine wpAny_loadPart_at hC ?_
   | (refine wpAny_isSubtype_exc hC ?_;rw[hcont])
   | refine wpAny_staticBase_exc hC ?_
   | refine wpAny_madeBy_exc hC ?_
   | simp only[bne_self_eq_false,Bool.false_eq_true,if_false]
   | wp_step)
 exact hq
end
section
variable {prog:Program}{w:World}{A:Around}{R:Result->Shared->Prop}{E:Value->Shared->Prop}{h:Heap}{g:Array GenState}{d:Drawn}{t:Nat}{os:OsState}
variable {nm q:Str}{C N:Addr}{bs bm bmB:List Value}{sn:List Str}{sub:List Value}{ab:Bool}{col:Option Bool}{dd:Option Addr}{k0 k1 k2 k3 k5:Option Value}{B newId initId:String}
abbrev jB (C:Addr) (t:Addr):Obj:={ cls:=.ref C,data:=.fields #[.ref t,.none,.none,.none,.bool false,.none] }
theorem qk7 (F:ExcBaseFacts B newId initId bmB) {rest:List Value} (hC:h.get? C=some (excClassObj nm q C N bs bm true sn sub ab col dd k0 k1 k2 k3 k5 newId))
   (hcB:(Value.ref C::bm).contains (.type B)=true) (hcA:(Value.ref C::bm).contains (.type "AttributeError")=false) (hcN:(Value.ref C::bm).contains (.type "NameError")=false)
   (hq:R (.ok (.ret (.ref (h.objs.size+1)))) ⟨(h.push { cls:=.type "tuple",data:=.seq rest.toArray }).push (jB C h.objs.size),g,d,t,os⟩) (hrest:rest.length≤sizeLine) :
   codeAny (model prog w) A (.builtin newId ⟨.ref C::rest,[]⟩) R ⟨h,g,d,t,os⟩:=by
 have hends:=F.ends;refine codeAny_builtinAt F.entry ?_;unfold Builtin.«BaseException.__new__»;refine PySem.wpAt_bind ?_;show PySem.wpAt _ _ _ (stack >>= _) _ _ _;refine PySem.wpAt_bind (PySem.wpAt_stack fun p below=>PySem.wpAt_of_wpAny ?_)
 wp_walk
 refine PySem.wpAt_of_wpAny ?_;rw[F.owner]
 repeat (first
   | with_reducible refine wpAny_madeHere_exc F.canon hC ?_
   | with_reducible refine wpAny_loadPart_at hC ?_
   | (with_reducible refine wpAny_isSubtype_exc hC ?_;first|rw[hcB]|rw[hcA]|rw[hcN])
   | wp_step)
 show R _ _;rw[Heap.size_push];exact hq
theorem qjT {K:Frag}{rest:List Value}{fI:Addr}{Q:Value->Shared->Prop} (X:K.In h) (xi:xIn K C=true)
   (hi:findIn K (.ref C) "__init__"=some (some (.ref fI))) (hf:typeIn K (.ref fI)=some (.type "function"))
   (hq:wpAny (model prog w) (A.under (.builtin "type.__call__" ⟨.ref C::rest,[]⟩)) (call (.ref fI) (.ref (h.objs.size+1)::rest)) (fun r s'=>r=.none∧Q (.ref (h.objs.size+1)) s') E
     ⟨(h.push { cls:=.type "tuple",data:=.seq rest.toArray }).push (jB C h.objs.size),g,d,t,os⟩) (hrest:rest.length≤sizeLine) :
   wpAny (model prog w) A (call (.ref C) rest) Q E ⟨h,g,d,t,os⟩:=by
 obtain⟨nm,qn,N,bs,bm,sn,sub,ab,col,dd,k0,k1,k2,k3,k5,hC,hx⟩:=qk2 X xi;have F:=PySem.F.excBase_ValueError;have f1:=tc_lookup;have f2:=tc_bind (.ref C);have hT:(⟨h,g,d,t,os⟩:Shared).TypeIs (.ref C) "type":=⟨_,hC,rfl⟩
 have hcB:(Value.ref C::bm).contains (.type "ValueError")=true:=by rw[List.contains_cons,zW (v:=true) (by decide +kernel) hx,Bool.or_true]
 have hcA:(Value.ref C::bm).contains (.type "AttributeError")=false:=by rw[List.contains_cons,zW (v:=false) (by decide +kernel) hx];rfl
 have hcN:(Value.ref C::bm).contains (.type "NameError")=false:=by rw[List.contains_cons,zW (v:=false) (by decide +kernel) hx];rfl
 refine wpAny_call (codeAny_of_tree ?_);show wpAny _ _ (callAny (.ref C) _) _ _ _
 repeat (any_goals (first
   | assumption
   | with_reducible refine wpAny_loadPart_at hC ?_
   | wp_step))
 refine⟨rfl,?_⟩;refine codeAny_call_builtin_at (Code.quiet_builtin _ (by decide +kernel)) entry_typeCall (wpAny_check_type_call_sub hC ?_)
 repeat (first
   | with_reducible refine wpAny_loadPart_at hC ?_
   | with_reducible refine wpAny_madeBy_exc hC ?_
   | wp_step)
 refine codeAny_call_builtin_code (Code.quiet_builtin _ F.quiet) (qdV F hC hcB ?_);refine qk7 F hC hcB hcA hcN ?_ hrest;show wpAny _ _ _ _ _ (⟨(h.push { cls:=.type "tuple",data:=.seq rest.toArray }).push (jB C h.objs.size),g,d,t,os⟩:Shared);have kp:∀ b o,h.get? b=some o->((h.push { cls:=.type "tuple",data:=.seq rest.toArray }).push (jB C h.objs.size)).get? b=some o:=fun b o e=>Heap.get?_push_of_some _ (Heap.get?_push_of_some _ e);have hC1:=kp _ _ hC;have X1:=X.keeps kp;have hget:((h.push { cls:=.type "tuple",data:=.seq rest.toArray }).push (jB C h.objs.size)).get? (h.objs.size+1)=some (jB C h.objs.size):=by heap_get
 have hcC:(Value.ref C::bm).contains (.ref C)=true:=by simp
 unfold isInstance
 repeat (first
   | with_reducible refine wpAny_loadPart_at hget ?_
   | (show wpAny _ _ (isSubtype (.ref C) _) _ _ _;with_reducible refine wpAny_isSubtype_exc hC1 ?_;rw[hcC])
   | wp_step)
 show wpAny _ _ (typeLookup (.ref C) _) _ _ _;refine(looks_findIn X1 hi).at ?_;refine wpAny_holding (wpAny_bind ((PySem.W.bind_fn X1 _ hf).at ?_));refine wpAny_bind (wpAny_mono hq (fun r s' hr=>?_) fun _ _ x=>x);obtain⟨rfl,hQ⟩:=hr
 wp_walk
 exact hQ
end
theorem xcd {K:Frag}{C:Addr} (q:xIn K C=true):∃ cd bm,clsIn K C=some cd∧cd.mro=.ref C::bm∧qaa bm=true∧cd.hasDict=true:=by
 obtain⟨nm,qn,N,bs,bm,sn,sub,ab,col,dd,k0,k1,k2,k3,k5,ho,hx⟩:=xIn_iff.mp q
 have e:∃ cd,clsIn K C=some cd∧cd.mro=.ref C::bm∧cd.hasDict=true:=by
   unfold clsIn;rw[ho];exact⟨_,rfl,rfl,rfl⟩
 obtain⟨cd,h1,h2,h3⟩:=e;exact⟨cd,bm,h1,h2,hx,h3⟩
theorem qjS {K:Frag}{C:Addr}{T:String} (q:xIn K C=true) (h4:([.type "ValueError",.type "Exception",.type "BaseException",.type "object"]:List Value).contains (.type T)=true):mroIn K C (.type T)=some true:=by
 obtain⟨cd,bm,h1,h2,h3,_⟩:=xcd q;unfold mroIn;rw[h1,Option.bind_some,h2,if_neg (by simp),List.contains_cons,zW h4 h3,Bool.or_true]
section
variable {M:Model}{A:Around}{E:Value->Shared->Prop}{s:Shared}{env:Env}
theorem qiT {x:Sem Value}{Q:Flow->Shared->Prop} (hh:A.handled=none)
   (h:wpAny M A x (fun v s1=>∃ (ea C:Addr) (o:Obj) (vs:Array Value) (K:Frag),v=.ref ea∧K.In s1.heap∧xIn K C=true∧s1.heap.get? ea=some o∧o.cls=.ref C∧o.data=.fields vs∧vs[1]?=some .none∧E (.ref ea) s1) E s) :
   wpAny M A (raiseStmt env (some x) none) Q E s:=by
 unfold raiseStmt;refine wpAny_bind (wpAny_mono h (fun v s1 h1=>?_) fun _ _ x=>x);obtain⟨ea,C,o,vs,K,rfl,X,xi,he,hc,hd,hv,hE⟩:=h1;obtain⟨nm,qn,N,bs,bm,sn,sub,ab,col,dd,k0,k1,k2,k3,k5,hC,hx⟩:=qk2 X xi;have hcB:(Value.ref C::bm).contains (.type "BaseException")=true:=by rw[List.contains_cons,zW (v:=true) (by decide +kernel) hx,Bool.or_true]
 obtain⟨oc,od,odt,osl⟩:=o;dsimp only at hc hd;subst hc hd;obtain⟨hp,g,d,tk,os⟩:=s1
 repeat (first
   | with_reducible refine wpAny_field he rfl hv ?_
   | with_reducible refine wpAny_loadPart_at he ?_
   | with_reducible refine wpAny_loadPart_at hC ?_
   | (with_reducible refine wpAny_isSubtype_exc hC ?_;rw[hcB])
   | wp_step)
 exact wpAny_raiseNew_none hh hE
end
section
variable {prog:Program}{w:World}{A:Around}{E:Value->Shared->Prop}{s:Shared}{K:Frag}{C x:Addr}{ox:Obj}{name:Str}{v:Value}
theorem qiV {rest:List Value}{vs:Array Value}{Q:Value->Shared->Prop} (X:K.In s.heap) (xi:xIn K C=true) (hx:s.heap.get? x=some ox) (hc:ox.cls=.ref C) (hd:ox.data=.fields vs) (hz:vs.size=6) (hl:rest.length≤sizeLine)
   (h:∀ h' tp,(∀ b o,b≠x->s.heap.get? b=some o->h'.get? b=some o)->h'.get? x=some (ox.mapFields (·.setIfInBounds 0 tp))->Q .none { s with heap:=h' }) :
   wpAny (model prog w) A (call (.builtin "ValueError.__init__") (.ref x::rest)) Q E s:=by
 obtain⟨hp,g,d,tk,os⟩:=s;have F:=PySem.F.excBase_ValueError;obtain⟨nm,qn,N,bs,bm,sn,sub,ab,col,dd,k0,k1,k2,k3,k5,hC,hxt⟩:=qk2 X xi;have hcB:(Value.ref C::bm).contains (.type "ValueError")=true:=by rw[List.contains_cons,zW (v:=true) (by decide +kernel) hxt,Bool.or_true]
 have hshort:=F.noStar
 have chk:wpAny (model prog w) A.in1 (checkBuiltinCall "ValueError.__init__" ⟨.ref x::rest,[]⟩) (fun _ s'=>s'=⟨hp,g,d,tk,os⟩) (fun _ _=>False) ⟨hp,g,d,tk,os⟩:=by
   simp only[checkBuiltinCall,F.initKind,F.initSplit,F.initRow]
   repeat (first
     | (with_reducible refine wpAny_loadPart_at hx ?_;rw[hc])
     | with_reducible refine wpAny_loadPart_at hC ?_
     | (with_reducible refine wpAny_isSubtype_exc hC ?_;rw[hcB])
     | wp_step)
   refine wpAny_onRaise ?_
   rw[show ∀ (a b:String) (n:Nat),Bind.check ⟨.positional,"*","ValueError",.self,[⟨"args",.varPos,false⟩]⟩ a b n (List.map (fun x=>x.fst) ({ pos:=Value.ref x::rest }:Args).kw)=pure () from
     fun a b n=>check_star_args _ _ _ _ _ _]
   exact wpAny_pure rfl
 refine wpAny_call (codeAny_call_builtin F.init.plain F.initEntry (wpAny_mono chk (fun _ s1 e=>?_) fun _ _ z=>z.elim));subst e;unfold Builtin.«BaseException.__init__»
 repeat (first
   | with_reducible refine wpAny_loadPart_at hx ?_
   | wp_step)
 obtain⟨a0,h0⟩:∃ a0,vs[0]?=some a0:=⟨_,Array.getElem?_eq_getElem (by omega)⟩
 rw[hd];refine wpAny_pure ?_;rw[h0];refine wpAny_pure ?_;have hx1:(hp.push { cls:=.type "tuple",data:=.seq rest.toArray }).get? x=some ox:=Heap.get?_push_of_some _ hx;refine wpAny_bind (wpAny_setField hx1 hd (by omega) ?_)
 have fin:=h ((hp.push { cls:=.type "tuple",data:=.seq rest.toArray }).update x (Obj.mapFields (·.setIfInBounds 0 (.ref hp.objs.size)))) (.ref hp.objs.size) (fun b o hb e=>by
   rw[Heap.get?_update_other _ _ (Ne.symm hb)]
   exact Heap.get?_push_of_some _ e) (Heap.get?_update_self _ hx1 (Obj.isFreed_of_fields (Obj.data_mapFields hd _)))
 cases a0<;>(repeat wp_step)<;>exact fin
end
theorem qhk (self:Value) {l:List Value}:qaa l=true->refuseLoop self "__setattr__" l=pure ():=by
 induction l with
 | nil=>intro e;cases e
 | cons x r ih =>
   intro e;rcases qat e with ⟨c,r',h,e'⟩|h
   · cases h;rw[refuseLoop_ref];exact ih e'
   · rw[h];exact PySem.F.store_ValueError.passes self
section
variable {prog:Program}{w:World}{A:Around}{E:Value->Shared->Prop}{s:Shared}{K:Frag}{C x:Addr}{ox:Obj}{name:Str}{v:Value}
theorem qk6 {vs:Array Value}{Q:Unit->Shared->Prop} (X:K.In s.heap) (xi:xIn K C=true) (hx:s.heap.get? x=some ox) (hc:ox.cls=.ref C) (hd:ox.data=.fields vs) (hdn:ox.dict=none)
   (hs:findIn K (.ref C) "__setattr__"=some (some (.builtin "object.__setattr__"))) (ha:findIn K (.ref C) name=some none)
   (h:∀ h' dx,s.heap.objs.size≤dx->h'.get? x=some { ox with dict:=some dx }->h'.Ns1 dx (fun y=>if y=name then some v else none)->(∀ b o,b≠x->s.heap.get? b=some o->h'.get? b=some o) ->
     Q () { s with heap:=h',toks:=s.toks+2 }) :
   wpAny (model prog w) A (setAttr (.ref x) name v) Q E s:=by
 have SF:=PySem.F.store_object;obtain⟨cd,bm,hcd,hmro,hxt,hdict⟩:=xcd xi;have I:InstAt s.heap x ox C none:=⟨hx,hc,by unfold notCls;rw[hd],by rw[hdn];exact True.intro⟩
 refine PySem.W.set_plain X I hs ?_;have sub:Looks (model prog w) s.heap (isInstance (.ref x) (.type "object")) true:=I.type.andThen (looks_mroIn X (qjS xi (by decide +kernel)));refine codeAny_call_builtin SF.slot.plain SF.entry (@check_slot (model prog w) _ _ { s with toks:=s.toks+1 } "object.__setattr__" "object" "__setattr__" (.ref x) [.str name s.toks,v] [] _ SF.kind SF.split sub (SF.args (.ref x) (.str name s.toks) v) ?_);have hm:Looks (model prog w) s.heap (mroOf (.ref C)) cd.mro:=(looks_clsIn X hcd).andThen .now;rw[PySem.W.osa_eq,refuse_eq];refine wpAny_bind (wpAny_bind (I.type.here (s:={ s with toks:=s.toks+1 }) (wpAny_bind (hm.here (s:={ s with toks:=s.toks+1 }) ?_))));rw[hmro,refuseLoop_ref,qhk _ hxt];refine wpAny_pure (wpAny_bind (I.type.here (s:={ s with toks:=s.toks+1 }) (wpAny_bind ((looks_findIn X ha).here (s:={ s with toks:=s.toks+1 }) (wpAny_bind (wpAny_pure ?_))))));dsimp only;unfold PySem.Builtin.ObjectAttr.storeInOwnDict;refine wpAny_bind (wpAny_pure ?_);rw[if_neg (by simp)];refine wpAny_bind (wpAny_bind (wpAny_loadPart hx ?_));rw[hc];dsimp only;refine wpAny_bind ((looks_clsIn X hcd).here (s:={ s with toks:=s.toks+1 }) ?_);rw[hdict,hdn,if_neg (by decide)];dsimp only;rw[if_neg (by simp[typeHasDict]),hd];dsimp only;have hx1:(s.heap.push { cls:=.type "dict",data:=.dict #[] }).get? x=some ox:=Heap.get?_push_of_some _ hx;have hxs:x≠s.heap.objs.size:=Nat.ne_of_lt (Heap.lt_size hx);refine wpAny_bind (wpAny_alloc' ?_);refine wpAny_bind (wpAny_update' hx1 ?_);refine wpAny_pure (a:=some s.heap.objs.size) ?_;generalize hg:((s.heap.push { cls:=.type "dict",data:=.dict #[] }).update x fun o=>{ cls:=o.cls,dict:=some s.heap.objs.size,data:=o.data,slots:=o.slots })=g1
 have hgd:g1.get? s.heap.objs.size=some { cls:=.type "dict",data:=.dict #[] }:=by
   rw[← hg];exact(Heap.get?_update_ne _ _ _ _ hxs.symm).trans (Heap.get?_push_at rfl rfl)
 have hnd:g1.Ns s.heap.objs.size (fun _=>none):=⟨_,#[],_,hgd,rfl,fun e he=>absurd he (by simp),fun _=>rfl⟩
 have hgx:g1.get? x=some { ox with dict:=some s.heap.objs.size }:=by
   rw[← hg];refine Heap.get?_update_self _ hx1 ?_;have hfr:=(Heap.get?_some_iff.mp hx).2;obtain⟨oc,od,odt,osl⟩:=ox;cases odt<;>first|rfl|exact hfr
 have hgo:∀ b o,b≠x->s.heap.get? b=some o->g1.get? b=some o:=fun b o hb e=>by
   rw[← hg];exact(Heap.get?_update_ne _ _ _ _ hb).trans (Heap.get?_push_of_some _ e)
 show wpAny _ _ (PySem.Builtin.ObjectAttr.storeInDict s.heap.objs.size (.str name s.toks) name v) _ _ _;unfold PySem.Builtin.ObjectAttr.storeInDict PySem.Builtin.ObjectAttr.newKeyGuard;refine wpAny_bind (wpAny_pure (wpAny_bind (wpAny_nsSet1 (Heap.Ns1.of_empty hnd) fun h' hn' hs'=>?_)));obtain⟨oD,esD,epD,hoD,hdD,hcD⟩:=hn'.count (Within.cons name v Within.nil);refine wpAny_bind (wpAny_lookBehind hoD (by rw[hdD];exact pastItsLine_dict (Nat.le_trans hcD (by rw[List.length_cons,List.length_nil,sizeLine_eq];omega))) ?_);refine wpAny_pure (h h' s.heap.objs.size (Nat.le_refl _) ((hs'.2 x hxs).trans hgx) hn' fun b o hb e=>(hs'.2 b (Nat.ne_of_lt (Heap.lt_size e))).trans (hgo b o hb e))
end
section
variable {prog:Program}{w:World}{A:Around}{E:Value->Shared->Prop}{s:Shared}{K:Frag}{C x:Addr}{ox:Obj}{od:Option Obj}{name:Str}{v:Value}
theorem qfv {tk:Tok}{fill expr:Bool}{Q:Value->Shared->Prop} (X:K.In s.heap) (I:InstAt s.heap x ox C od) (xi:xIn K C=true)
   (hga:findIn K (.ref C) "__getattribute__"=some (some (.builtin "BaseException.__getattribute__"))) (hna:findIn K (.ref C) "__getattr__"=some none)
   (h:wpAny (model prog w) A.in1 (Builtin.«object.__getattribute__» ⟨[.ref x,.str name tk],[]⟩) (fun fin s'=>match fin with|.done (.ret v)=>wpAny (model prog w) A (handedOut v) Q E s'|_=>False) (fun _ _=>False) s) :
   wpAny (model prog w) A (getAttrBy (.ref x) (.str name tk) fill expr) Q E s:=by
 have hx2:(Value.builtin "BaseException.__getattribute__" == Value.builtin "object.__getattribute__")=false:=by decide +kernel
 unfold getAttrBy;refine wpAny_holding (wpAny_bind (I.type.here (wpAny_bind ((looks_findIn X hga).here ?_))));dsimp only;rw[hx2,Bool.and_false,if_neg (by decide)];unfold getAttrByItsOwn;refine wpAny_bind ((PySem.W.looks_hook X (r:=none) (by rw[if_pos (by rfl)];exact hna)).here (wpAny_bind (wpAny_attempt (wpAny_holding ?_))));unfold callGetattribute;rw[show (expr && onTheHeap (Value.builtin "BaseException.__getattribute__"))=false from by cases expr<;>rfl,if_neg (by decide)];unfold boundAndCalled;rw[PySem.F.excAttr_ValueError.ga.bind];refine wpAny_bind (wpAny_pure ?_);show wpAny _ _ (call (.builtin "BaseException.__getattribute__") [.ref x,.str name tk]) _ _ _;refine wpAny_call (codeAny_call_builtin PySem.F.excAttr_ValueError.ga.plain PySem.F.entry_bexc_ga ?_);refine @check_slot (model prog w) _ _ s "BaseException.__getattribute__" "BaseException" "__getattribute__" (.ref x) [.str name tk] [] _ (by decide +kernel) (by decide +kernel) (I.type.andThen (looks_mroIn X (qjS xi (by decide +kernel)))) (PySem.F.args_bexc_ga (.ref x) (.str name tk)) ?_;refine wpAny_mono h (fun fin s' z=>?_) fun _ _ z=>z.elim;rcases fin with (_|_|_|_)|_<;>first|exact z|exact z.elim
theorem qk8 {expr:Bool}{Q:Value->Shared->Prop} (X:K.In s.heap) (I:InstAt s.heap x ox C od) (xi:xIn K C=true)
   (hga:findIn K (.ref C) "__getattribute__"=some (some (.builtin "BaseException.__getattribute__"))) (hna:findIn K (.ref C) "__getattr__"=some none)
   (hf:findObj K C od name=some (.value v)) (hh:PySem.W.handedIn v=true) (h:Q v { s with toks:=s.toks+1 }):wpAny (model prog w) A (getAttr (.ref x) name expr) Q E s:=by
 unfold getAttr;refine wpAny_bind (wpAny_mkText (qfv (s:={ s with toks:=s.toks+1 }) X I xi hga hna ?_));have L1:=looks_find (M:=model prog w) X I hf;unfold Builtin.«object.__getattribute__»;refine wpAny_bind (wpAny_pure (wpAny_bind (wpAny_pure (wpAny_bind (I.type.here (s:={ s with toks:=s.toks+1 }) (wpAny_bind (L1.here (s:={ s with toks:=s.toks+1 }) ?_)))))));refine wpAny_pure ?_;show wpAny _ _ (handedOut v) _ _ _;rw[PySem.W.handedOut_of hh];exact wpAny_pure h
end
structure XC (K:Frag) (C:Addr):Prop where
 xi:xIn K C=true
 ga:findIn K (.ref C) "__getattribute__"=some (some (.builtin "BaseException.__getattribute__"))
 na:findIn K (.ref C) "__getattr__"=some none
 sa:findIn K (.ref C) "__setattr__"=some (some (.builtin "object.__setattr__"))
 cl:findIn K (.ref C) "__class__"=some (some (.builtin "object.__class__"))
 gt:specialIn K (.builtin "object.__class__") "__get__"=some (some (.builtin "getset_descriptor.__get__"))
 tk:takesIn K (.builtin "object.__class__")=some true
section
variable {prog:Program}{w:World}{A:Around}{E:Value->Shared->Prop}{s:Shared}{K:Frag}{C x:Addr}{ox:Obj}{od:Option Obj}
theorem qiU {Q:Option Value->Shared->Prop} (X:K.In s.heap) (I:InstAt s.heap x ox C od) (c:XC K C) (hn:specialIn K (.builtin "object.__class__") "__get__"=some (some (.builtin "getset_descriptor.__get__")))
   (htk:takesIn K (.builtin "object.__class__")=some true) (h:Q (some (.ref C)) { s with toks:=s.toks+1 }):wpAny (model prog w) A (getAttr? (.ref x) "__class__") Q E s:=by
 obtain⟨cd,bm,hcd,hmro,hxt,hdict⟩:=xcd c.xi
 have hf:findObj K C od "__class__"=some (.bind (.builtin "getset_descriptor.__get__") (.builtin "object.__class__")):=by
   unfold findObj;rw[hcd,Option.bind_some,c.cl,Option.bind_some];simp[hn,htk]
 have L1:=looks_find (M:=model prog w) X I hf;unfold getAttr? getAttrBy?;refine wpAny_bind (wpAny_mkText (wpAny_bind (wpAny_attempt (qfv (s:={ s with toks:=s.toks+1 }) X I c.xi c.ga c.na ?_))));unfold Builtin.«object.__getattribute__»;refine wpAny_bind (wpAny_pure (wpAny_bind (wpAny_pure (wpAny_bind (I.type.here (s:={ s with toks:=s.toks+1 }) (wpAny_bind (L1.here (s:={ s with toks:=s.toks+1 }) ?_)))))));show wpAny _ _ (holding [.builtin "object.__class__"] (call (.builtin "getset_descriptor.__get__") [.builtin "object.__class__",.ref x,.ref C]) >>= ret) _ _ _;refine wpAny_bind (wpAny_holding (wpAny_call (PySem.W.class_get (s:={ s with toks:=s.toks+1 }) (ox:=ox) (od:=od) X I (qjS c.xi (by decide +kernel)) ?_)));refine wpAny_pure ?_;exact PySem.W.handed_on rfl (wpAny_pure h)
theorem qel {cc:Value}{dep:Int}{tk:Tok}{b:Bool}{Q:Fin->Shared->Prop} (X:K.In s.heap) (I:InstAt s.heap x ox C od) (c:XC K C) (hn:specialIn K (.builtin "object.__class__") "__get__"=some (some (.builtin "getset_descriptor.__get__")))
   (htk:takesIn K (.builtin "object.__class__")=some true)
   (hty:Looks (model prog w) s.heap (typeOf cc) (.type "type")) (his:Looks (model prog w) s.heap (isType cc) true)
   (hne:(Value.ref C == cc)=true->b=true) (hsub:Looks (model prog w) s.heap (isSubtype (.ref C) cc) b) (h:∀ t,Q (.done (.ret (.bool b))) { s with toks:=t }) :
   wpAny (model prog w) A (Builtin.«isinstance.nested» ⟨[.ref x,cc,.int dep tk],[]⟩) Q E s:=by
 obtain⟨cd,bm,hcd,hmro,hxt,hdict⟩:=xcd c.xi
 have hisD:Looks (model prog w) s.heap (isType (.ref C)) true:=by
   unfold clsIn at hcd;split at hcd
   · rename_i c' d' cd' sl' ho
     intro A' Q' E' s' k q;unfold isType loadHead;exact wpAny_bind (wpAny_loadPart (k _ _ (X _ _ ho)) (wpAny_pure q))
   · cases hcd
 obtain⟨h0,g,d,tt,os⟩:=s;have L0:=I.type (M:=model prog w);have LI:Looks (model prog w) h0 (isInstance (.ref x) cc) b:=L0.andThen hsub;unfold Builtin.«isinstance.nested»;refine wpAny_bind (L0.at ?_);by_cases hq:(Value.ref C == cc)=true
 · rw[if_pos hq];have hb:=hne hq;subst hb;exact wpAny_pure (M:=model prog w) (E:=E) (h tt)
 rw[if_neg hq];refine wpAny_bind (hty.at ?_);rw[if_pos (by decide)]
 k_delta "plainIsInstance"
 refine wpAny_bind (wpAny_bind (his.at ?_));simp only[Bool.not_true,Bool.false_eq_true,if_false];refine wpAny_bind (LI.at ?_)
 cases b with
 | true =>
   simp only[if_true]
   first
     | exact wpAny_pure (h tt)
     | exact wpAny_pure (wpAny_pure (h tt))
     | exact wpAny_bind (wpAny_pure (wpAny_pure (h tt)))
 | false =>
   simp only[Bool.false_eq_true,if_false];refine wpAny_bind (qiU X I c hn htk ?_);refine wpAny_bind (hisD.at ?_);simp only[Bool.not_true,Bool.false_eq_true,if_false];refine wpAny_bind (wpAny_rule ?_);refine hsub.at ?_
   first
     | exact wpAny_pure (h _)
     | exact wpAny_pure (wpAny_pure (h _))
     | exact wpAny_bind (wpAny_pure (wpAny_pure (h _)))
theorem qhl {cc:Value}{b:Bool}{Q:Value->Shared->Prop} (X:K.In s.heap) (I:InstAt s.heap x ox C od) (c:XC K C) (hn:specialIn K (.builtin "object.__class__") "__get__"=some (some (.builtin "getset_descriptor.__get__")))
   (htk:takesIn K (.builtin "object.__class__")=some true)
   (hty:∀ (M:Model) h',K.In h'->Looks M h' (typeOf cc) (.type "type")) (his:∀ (M:Model) h',K.In h'->Looks M h' (isType cc) true)
   (hne:(Value.ref C == cc)=true->b=true) (hsub:∀ (M:Model) h',K.In h'->Looks M h' (isSubtype (.ref C) cc) b) (h:∀ t,Q (.bool b) { s with toks:=t }) :
   wpAny (model prog w) A (call (.builtin "isinstance") [.ref x,cc]) Q E s :=
 call_isinstance (S:=fun _ R s=>(K.In s.heap∧InstAt s.heap x ox C od)∧∀ t,R (.ok (.ret (.bool b))) { s with toks:=t })
   (fun _ _ _ _ _ hs=>isinstance_outer (qel hs.1.1 hs.1.2 c hn htk (hty _ _ hs.1.1) (his _ _ hs.1.1) hne (hsub _ _ hs.1.1) hs.2) (by intro q;cases q)) ⟨⟨X,I⟩,h⟩
end
section
variable {X:Cx}{pins:List (Addr×Obj)}{σ:St}{H:Hp}{s:Shared}{h':Heap}
theorem Inv.two {x a:Addr}{o1 o2:HO}{t':Nat} (I:Inv X pins σ H s) (mu:Mut (H x)) (hp:s.heap.objs.size≤a) (k:∀ b u,b≠x->s.heap.get? b=some u->h'.get? b=some u) (hx:∃ u,h'.get? x=some u)
   (n1:ObjOk X.prog X.w (upd (upd H x o1) a o2) h' x o1) (n2:ObjOk X.prog X.w (upd (upd H x o1) a o2) h' a o2):Inv X pins σ (upd (upd H x o1) a o2) { s with heap:=h',toks:=t' }:=by
 have ha:H a=none:=I.hok.fresh hp;have ne:∀ b,H b=none->b≠x:=fun b n z=>by subst z;rw[n]at mu;exact mu
 have nm:∀ b u,H b=some u->¬ Mut (some u)->b≠x:=fun b u q n z=>by subst z;rw[q]at mu;exact n mu
 have old:∀ b u,H b=some u->¬ Mut (some u)->upd (upd H x o1) a o2 b=some u:=fun b u q n=>by rw[qg (qi q ha),qg (nm b u q n)];exact q
 refine I.un ⟨fun b u e n _ _=>k b u (ne b n) e,fun b u e n _ _=>⟨u.slots,k b u (ne b n) e⟩,fun b u e n _=>?_,fun b u e _=>?_,fun b xs e=>old b _ e fun z=>z,fun b o u e=>old b _ e fun z=>z,fun b ps e=>⟨#[],by rw[old b _ e fun z=>z];simp⟩⟩ fun b u e=>?_
 · rw[qg (Nat.ne_of_lt (Nat.lt_of_lt_of_le (Heap.lt_size e) hp)),qg (ne b n)];exact n
 · by_cases z:b=x
   · subst z;exact hx
   · exact⟨u,k b u z e⟩
 · by_cases z:b=a
   · subst z;rw[qd]at e;cases e;exact n2
   · rw[qg z]at e;by_cases z2:b=x
     · subst z2;rw[qd]at e;cases e;exact n1
     · rw[qg z2]at e;refine(I.hok b u e).stay (fun c v hc q=>?_) (fun c q=>old c _ q fun z=>z) fun c xs q=>old c _ q fun z=>z;rcases hc with hc|hc
       · subst hc;exact k c v z2 q
       · exact k c v (nm c _ hc fun z=>z) q
end
section
variable {X:Cx}{o e value:Expr}{es:List Expr}{f x:Str}{p apos pos pos' tpos:Pos}{ta tv:TE}{t:TA}{C fa:Addr}
structure XMk (K:Frag) (C f:Addr):Prop where
 c:XC K C
 init:findIn K (.ref C) "__init__"=some (some (.ref f))
 fn:isFn K (.ref f)=true
 kp:keepIn K (.ref C)=true
def qj0 (C:Addr) (sp:Sp) (t:TA):TE:=fun σ H Q=>t σ H fun vs H1=>vs.length≤10∧∀ ea,H1 ea=none ->
 sp (.ref ea::vs) (upd H1 ea (.ext (ExO ea C none .none))) (fun v H2=>v=.non∧Q (.ref ea) H2) E0
theorem qf1 {k:Nat}{fd:FuncData}{ps:List Str}{sp:Sp}{pins:List (Addr×Obj)}{σ:St}{H:Hp}{s:Shared}{Q:VK}{us:List Value}{vs:List V} (M:XMk X.K C fa) (F:qu X.prog X.w X.K X.mg X.base CX0 k fa fd ps sp)
   (hr:Room (k+1) X.A) (hb:Binds X.K fd ps []) (I:Inv X pins σ H s) (r:Vals vs us) (hl10:vs.length≤10)
   (h:∀ ea,H ea=none->sp (.ref ea::vs) (upd H ea (.ext (ExO ea C none .none))) (fun v H2=>v=.non∧Q (.ref ea) H2) E0) :
   wpAny (model X.prog X.w) X.A (call (.ref C) us) (EP X pins σ Q) X.xe s:=by
 have hq:=h (s.heap.objs.size+1) (I.hok.fresh (Nat.le_succ _));have hul:us.length≤sizeLine:=by rw[← r.length,sizeLine_eq];omega
 have kp:∀ b o,s.heap.get? b=some o->((s.heap.push { cls:=.type "tuple",data:=.seq us.toArray }).push (jB C s.heap.objs.size)).get? b=some o:=fun b o e=>Heap.get?_push_of_some _ (Heap.get?_push_of_some _ e);have hget:((s.heap.push { cls:=.type "tuple",data:=.seq us.toArray }).push (jB C s.heap.objs.size)).get? (s.heap.objs.size+1)=some (jB C s.heap.objs.size):=by heap_get
 have I2:Inv X pins σ (upd H (s.heap.objs.size+1) (.ext (ExO (s.heap.objs.size+1) C none .none))) { s with heap:=(s.heap.push { cls:=.type "tuple",data:=.seq us.toArray }).push (jB C s.heap.objs.size) } :=
   I.laid (t':=s.toks) kp (Nat.le_succ _) (qeW ⟨_,_,hget,rfl,rfl,rfl,rfl,rfl,rfl⟩)
 have r2:Vals (V.ref (s.heap.objs.size+1)::vs) (Value.ref (s.heap.objs.size+1)::us):=.cons rfl r
 have hl:(Value.ref (s.heap.objs.size+1)::us++[]).length=ps.length:=by
   have e:=r2.length;rw[F.len _ _ _ _ hq]at e;rw[List.append_nil];exact e.symm
 obtain⟨hp,g,d,tk,os⟩:=s
 refine qjT I.kIn M.c.xi M.init (beq_iff_eq.mp M.fn) (wpAny_call (codeAny_mono (F.run _ X.stack _ _ ⟨Value.ref (hp.objs.size+1)::us,[]⟩ (Value.ref (hp.objs.size+1)::us) _ _ E0 (hr.make C us [])
   (I2.env0.make C us []) (by have:=hb _ (Value.ref (hp.objs.size+1)::us) I2.kIn hl;rw[List.append_nil]at this;exact this) r2 hq) fun r s' hq'=>?_)) hul
 cases r with
 | error e=>exact False.elim hq'
 | ok fl =>
   cases fl with
   | ret u =>
     obtain⟨v,H',I3,rv,ev,q3⟩:=I2.after hq';subst ev;exact⟨rv,⟨V.ref (hp.objs.size+1),H',I3,rfl,q3⟩⟩
   | next=>exact False.elim hq'
   | brk=>exact False.elim hq'
   | cont=>exact False.elim hq'
theorem zr {k:Nat}{fd:FuncData}{ps:List Str}{sp:Sp} (M:XMk X.K C fa) (F:qu X.prog X.w X.K X.mg X.base CX0 k fa fd ps sp) (hr:Room (k+1) X.A) (hg:Gl X x) (hm:X.mg x=some (.ref C)) (hb:Binds X.K fd ps [])
   (ha:PA X (e::es) t) (hdb:(x == ("__debug__":Str))=false:=by decide) (he:starEach (e::es) X.env=(false,eval e X.env)::starEach es X.env:=by rfl) (hpl:(backTo pos (starEach es X.env)).any (·.1)=false:=by rfl) :
   PE X (.Call (.Name x p) (e::es) [] pos) (qj0 C sp t):=by
 intro pins s σ H Q I h;refine wpAny_Call_Name_kw (ZR I hg hm ?_ hdb);refine callWith_K (h₀:=X.base) I.ok.mod.kin M.kp (thn (ha pos pins s σ H _ I h) fun us s1 ⟨vs,H1,I1,r,q⟩=>⟨I1.kIn,?_⟩) he hpl;exact qf1 M F hr hb I1 r q.1 q.2
inductive qer (K:Frag) (E:XK) (x:V) (H1:Hp):Prop
 | mk (ea C dx:_) (h1:x=.ref ea) (h2:xIn K C=true) (h3:H1 ea=some (.ext (ExO ea C dx .none))) (h4:Sure E C ea dx H1):qer K E x H1
def qj4 (K:Frag) (E:XK) (te:TE):TS:=fun _ σ H=>te σ H fun x H1=>qer K E x H1
theorem zq {E:XK}{te:TE} (th:Throws X E) (hc:X.calm=true) (he:PE X e te):PS X (.Raise (some e) none pos) (qj4 X.K E te):=by
 intro pins s σ H D I h;rw[arm_exec_Raise];refine wpAny_bind (wpAny_standAt ?_);simp only[evalOpt,Option.map];refine qiT (I.ok.hd hc) (wpAny_bind (thn (he pins s σ H _ I h) fun u s1 ⟨x,H1,I1,rx,ea,C,dx,ex,xi,e1,sr⟩=>wpAny_bind (wpAny_standAt (wpAny_pure ?_))));subst ex;obtain rfl:u=Value.ref ea:=rx;obtain⟨⟨oe,vs,hx,hcl,hdx,hd,hz,h1,hx2⟩,_,_⟩:=(show ObjOk X.prog X.w H1 s1.heap ea (.ext (ExO ea C dx .none)) from I1.hok ea _ e1)
 exact⟨ea,C,oe,vs,X.K,rfl,I1.kIn,xi,hx,hcl,hd,h1,th pins σ H1 s1 ea C dx I1 ⟨.none,e1,.inl rfl⟩ sr⟩
inductive qeq (K:Frag) (Q:VK) (vs:List V) (H1:Hp):Prop
 | mk (ea C dx tb rest:_) (h1:vs=.ref ea::rest) (h2:rest.length≤10) (h3:H1 ea=some (.ext (ExO ea C dx tb))) (h4:xIn K C=true) (h5:Q .non H1):qeq K Q vs H1
def qj1 (K:Frag) (t:TA):TE:=fun σ H Q=>t σ H fun vs H1=>qeq K Q vs H1
theorem qhn {H:Hp}{a:Addr}{o:HO} (h:H a=some o):upd H a o=H:=by
 funext b;unfold upd;split
 · rename_i e;rw[e,h]
 · rfl
theorem qfy:findCls [] (.type "ValueError") (.type "type") "__init__"=some (.val (.builtin "ValueError.__init__")):=by kernel_rfl
theorem qhF {pl:Sem Bool} (hg:Gl X x) (hm:X.mg x=none) (hv:bootBuiltins x=some (.type "ValueError")) (ha:PA X (e::es) t) (hn:x≠"__name__":=by decide) (hdb:(x == ("__debug__":Str))=false:=by decide)
   (hst:starEach (e::es) X.env=(false,eval e X.env)::starEach es X.env:=by rfl) (hpl:(backTo pos (starEach es X.env)).any (·.1)=false:=by rfl)
   (ht:eval (.Call (.Attribute (.Name x p) "__init__" apos) (e::es) [] pos) X.env=(do
     let ov ← eval (.Name x p) X.env
     standAt apos.atName
     let (f,first) ← holding [ov] (getMethod ov "__init__" pl)
     callWith pos f first (backTo pos (starEach (e::es) X.env)) (backToKw pos (keywordEach [] X.env))):=by rfl) :
   PE X (.Call (.Attribute (.Name x p) "__init__" apos) (e::es) [] pos) (qj1 X.K t):=by
 intro pins s σ H Q I h;refine PySem.W.methodCall_KW (pl:=pl) (qbi I hg hm hv ?_ hn hdb) ht;obtain⟨m,F⟩:=I.fr;refine PySem.W.method_type (v:=.builtin "ValueError.__init__") F I.mod.kin (by kernel_rfl) (by decide +kernel) qfy rfl ?_;have I0:=I.tok (s.toks+1);refine PyProof.Rows.callWith_builtin1 (thn (ha pos pins _ σ H _ I0 h) fun us s1 zz_=>?_) hst hpl;obtain⟨vs,H1,I1,r,ea,C,dx,tb,rest,ev,hl,e1,xi,q⟩:=zz_;subst ev
 obtain⟨u0,us0,rfl,r0,r1⟩:∃ u0 us0,us=u0::us0∧RelV (.ref ea) u0∧Vals rest us0:=by
   cases r with
   | cons a b=>exact⟨_,_,rfl,a,b⟩
 obtain rfl:u0=Value.ref ea:=r0;obtain⟨⟨oe,vs,hx,hcl,hdx,hd,hz,h1,hx2⟩,_,_⟩:=(show ObjOk X.prog X.w H1 s1.heap ea (.ext (ExO ea C dx tb)) from I1.hok ea _ e1)
 refine qiV I1.kIn xi hx hcl hd hz (by rw[← r1.length,sizeLine_eq];omega) fun h' tp k1 k2=>⟨.non,H1,?_,rfl,q⟩
 have J:Inv X pins σ (upd H1 ea (.ext (ExO ea C dx tb))) { s1 with heap:=h',toks:=s1.toks }:=by
   refine I1.write (x:=ea) (e:=ea) (by rw[e1];exact True.intro) (.inl rfl) k1 ⟨_,k2⟩ (qeW ⟨_,_,k2,(Obj.cls_mapFields _ _).trans hcl,?_,Obj.data_mapFields hd _,by simp[hz],?_,?_⟩)
   · rw[← hdx];obtain⟨oc,od,odt,osl⟩:=oe;have hd':odt=.fields vs:=hd;subst hd';rfl
   · rw[Array.getElem?_setIfInBounds_ne (by decide)];exact h1
   · rw[Array.getElem?_setIfInBounds_ne (by decide)];exact hx2
 rw[qhn e1]at J;exact J
structure qhh (K:Frag) (C f:Addr):Prop where
 sp:specialIn K (.ref C) "__getattribute__"=some (some (.builtin "type.__getattribute__"))
 rd:PySem.W.readsIn K C (.type "type")=true
 at_:findCls K (.ref C) (.type "type") "__init__"=some (.val (.ref f))
 kp:keepIn K (.ref f)=true
theorem zm {k:Nat}{fd:FuncData}{ps:List Str}{sp:Sp}{pl:Sem Bool} (c:qhh X.K C fa) (F:qu X.prog X.w X.K X.mg X.base CX0 k fa fd ps sp) (hr:Room k X.A) (hb:Binds X.K fd ps []) (hg:Gl X x) (hm:X.mg x=some (.ref C))
   (ha:PA X (e::es) t) (hdb:(x == ("__debug__":Str))=false:=by decide)
   (hst:starEach (e::es) X.env=(false,eval e X.env)::starEach es X.env:=by rfl) (hpl:(backTo pos (starEach es X.env)).any (·.1)=false:=by rfl)
   (ht:eval (.Call (.Attribute (.Name x p) "__init__" apos) (e::es) [] pos) X.env=(do
     let ov ← eval (.Name x p) X.env
     standAt apos.atName
     let (f,first) ← holding [ov] (getMethod ov "__init__" pl)
     callWith pos f first (backTo pos (starEach (e::es) X.env)) (backToKw pos (keywordEach [] X.env))):=by rfl) :
   PE X (.Call (.Attribute (.Name x p) "__init__" apos) (e::es) [] pos) (qj9 sp [] E0 t):=by
 intro pins s σ H Q I h;refine PySem.W.methodCall_KW (pl:=pl) (ZR I hg hm ?_ hdb) ht;refine PySem.W.method_cls I.kIn c.sp (PySem.W.cls_value I.kIn c.rd c.at_ rfl ?_);have I0:=I.tok (s.toks+1);refine callWith_K (h₀:=X.base) I.ok.mod.kin c.kp (thn (ha pos pins _ σ H _ I0 h) fun us s1 ⟨vs,H1,I1,r,q⟩=>⟨I1.kIn,?_⟩) hst hpl;exact qeC F hr hb .nil qq I1 r q
def qlm (K:Frag) (ta tv:TE) (f:Str):TS:=fun D σ H=>tv σ H fun y H1=>ta σ H1 fun x H2=>∃ ea C tb,x=.ref ea∧H2 ea=some (.ext (ExO ea C none tb))∧XC K C∧NoAttr K C f ∧
 ∀ dx,H2 dx=none->dx≠ea->D.nx σ (upd (upd H2 ea (.ext (ExO ea C (some dx) tb))) dx (.xd [(f,y)]))
theorem ZH (ha:PE X o ta) (hv:PE X value tv) (hs:swapsWith value (some (.Attribute o f pos')) pos.line X.env=pure false):PS X (.Assign [.Attribute o f pos'] value pos) (qlm X.K ta tv f):=by
 intro pins s σ H D I h;refine plainObj_wpAny_Assign_Attribute (thn (hv pins s σ H _ I h) fun u s1 ⟨y,H1,I1,ry,q⟩=>thn (ha pins s1 σ H1 _ I1 q) fun ov s2 zz_=>?_) hs;obtain⟨x,H2,I2,rx,ea,C,tb,ex,e1,c,n,q2⟩:=zz_;subst ex;obtain rfl:ov=Value.ref ea:=rx;obtain⟨⟨oe,vs,hx,hcl,hdx,hd,hz,h1,hx2⟩,_,_⟩:=(show ObjOk X.prog X.w H2 s2.heap ea (.ext (ExO ea C none tb)) from I2.hok ea _ e1)
 refine qk6 I2.kIn c.xi hx hcl hd hdx c.sa n fun h' dx hp k1 k2 k3=>⟨σ,_,?_,q2 dx (I2.hok.fresh hp) (Nat.ne_of_gt (Nat.lt_of_lt_of_le (Heap.lt_size hx) hp))⟩
 refine I2.two (by rw[e1];exact True.intro) hp k3 ⟨_,k1⟩ (qeW ⟨_,_,k1,hcl,rfl,hd,hz,h1,hx2⟩) ⟨_,k2,fun g=>?_⟩;by_cases z:g=f
 · subst z;simp[List.lookup];exact ry
 · have:(g == f)=false:=by simp[z]
   simp[List.lookup,this,z];exact True.intro
inductive qfJ (K:Frag) (f:Str) (Q:VK) (x:V) (H1:Hp):Prop
 | mk (ea C dx fs v:_) (h1:x=.ref ea) (h2:XAt H1 ea C (some dx)) (h3:H1 dx=some (.xd fs)) (h4:XC K C) (h5:NoAttr K C f) (h6:fs.lookup f=some v) (h7:Q v H1):qfJ K f Q x H1
def qi0 (K:Frag) (ta:TE) (f:Str):TE:=fun σ H Q=>ta σ H fun x H1=>qfJ K f Q x H1
theorem qfu {pins:List (Addr×Obj)}{σ:St}{H:Hp}{s:Shared}{ea C dx:Addr}{fs:List (Str×V)} (I:Inv X pins σ H s) (x:XAt H ea C (some dx)) (hd:H dx=some (.xd fs)) :
   ∃ (ox od:Obj) (mA:Str->Option Value),InstAt s.heap ea ox C (some od)∧(∀ name,PySem.W.lookIn name od=some (mA name))∧∀ f,RelO (fs.lookup f) (mA f):=by
 obtain⟨tb,e1,_⟩:=x;obtain⟨⟨oe,vs,hx,hcl,hdx,hdt,hz,h1,hx2⟩,_,_⟩:=(show ObjOk X.prog X.w H s.heap ea (.ext (ExO ea C (some dx) tb)) from I.hok ea _ e1)
 obtain⟨mA,n,r⟩:=(show ObjOk X.prog X.w H s.heap dx (.xd fs) from I.hok dx _ hd)
 obtain⟨od,ho,hl⟩:=qdE n;exact⟨oe,od,mA,⟨hx,hcl,by unfold notCls;rw[hdt],by rw[hdx];exact ho⟩,hl,r⟩
theorem qga (he:PE X e ta) (hb:attributeBase e f X.env (eval e X.env)=eval e X.env):PE X (.Attribute e f pos) (qi0 X.K ta f):=by
 intro pins s σ H Q I h;refine qg9 hb (thn (he pins s σ H _ I h) fun u s1 zz_=>?_);obtain⟨x,H1,I1,rx,ea,C,dx,fs,v,ex,xa,hd,c,n,l,q⟩:=zz_;subst ex;obtain rfl:u=Value.ref ea:=rx;obtain⟨ox,od,mA,J,hl,r⟩:=qfu I1 xa hd;obtain⟨uv,hu,ru⟩:=RelO.some_of (v:=v) (o:=mA f) (by rw[← l];exact r f)
 have hh:hasDictIn X.K C=true:=by
   obtain⟨cd,bm,hcd,_,_,hdict⟩:=xcd c.xi;unfold hasDictIn;rw[hcd];exact hdict
 exact qk8 I1.kIn J c.xi c.ga c.na (PySem.W.findObj_own hh n rfl (by rw[hl,hu])) (qdK ru) ⟨v,H1,I1.tok _,ru,q⟩
def zh (K:Frag) (C:Addr):V->Option Bool
 | .ref D=>if (clsIn K D).isSome && typeIn K (.ref D) == some (.type "type") then subIn K (.ref C) (.ref D) else none
 | .ty T=>if T == "ValueError" then some true else none
 | _=>none
inductive qiz (K:Frag) (xs:List V) (H:Hp) (Q:VK):Prop
 | mk (ea C dx fs c b:_) (h1:xs=[.ref ea,c]) (h2:XAt H ea C (some dx)) (h3:H dx=some (.xd fs)) (h4:XC K C) (h5:zh K C c=some b) (h6:Q (.bl b) H):qiz K xs H Q
def qml (K:Frag):List V->Hp->VK->Prop:=fun xs H Q=>qiz K xs H Q
theorem qii:Zg X (.builtin "isinstance") (qml X.K):=by
 intro pins s σ H xs us Q I r h;obtain⟨ea,C,dx,fs,c,b,rfl,xa,hd,xc,hi,q⟩:=h;obtain⟨u,w',rfl,ru,rw'⟩:=qc0 r;cases (show u=Value.ref ea from ru);obtain⟨ox,od,mA,J,hl,_⟩:=qfu I xa hd
 cases c with
 | ref D =>
   cases (show w'=Value.ref D from rw');simp only[zh]at hi;split at hi
   · rename_i hq
     simp only[Bool.and_eq_true,beq_iff_eq]at hq;obtain⟨q1,q2⟩:=hq;refine qhl I.kIn J xc xc.gt xc.tk (b:=b) (fun _ h' X'=>looks_typeIn X' q2) (fun _ h' X'=>?_) (fun z=>?_) (fun _ h' X'=>looks_subIn X' hi) fun t=>⟨.bl b,H,I.tok t,rfl,q⟩
     · unfold clsIn at q1;split at q1
       · rename_i c' d' cd' sl' ho
         intro A' Q' E' s' k q;unfold isType loadHead;exact wpAny_bind (wpAny_loadPart (k _ _ (X' _ _ ho)) (wpAny_pure q))
       · cases q1
     · have z':C=D:=Value.ref.inj (beq_iff_eq.mp z);subst z';obtain⟨cd,bm,hcd,hmro,_,_⟩:=xcd xc.xi
       have e2:mroIn X.K C (.ref C)=some true:=by
         unfold mroIn;rw[hcd,Option.bind_some,hmro,if_neg (by simp)];simp
       have e3:subIn X.K (.ref C) (.ref C)=some true:=e2;rw[e3]at hi;exact(Option.some.inj hi).symm
   · cases hi
 | ty T =>
   cases (show w'=Value.type T from rw');simp only[zh]at hi;split at hi
   · rename_i hq
     rw[beq_iff_eq]at hq;subst hq;cases hi;refine qhl I.kIn J xc xc.gt xc.tk (b:=true) (fun _ h' X'=>Looks.of_pure (by kernel_rfl)) (fun _ h' X'=>Looks.of_pure rfl) (fun _=>rfl) (fun _ h' X'=>looks_mroIn X' (qjS xc.xi (by decide +kernel))) fun t=>⟨.bl true,H,I.tok t,rfl,q⟩
   · cases hi
 | non=>cases hi
 | bl _=>cases hi
 | int _=>cases hi
 | str _=>cases hi
 | byt _=>cases hi
 | flt _=>cases hi
end
abbrev qjH (X:Cx):Cx:={ X with xe:=fun _ _=>False }
abbrev qbd (X:Cx) (ea:Addr):Cx:={ X with A:=X.A.mark (some (.ref ea)),calm:=false,xe:=fun _ _=>False }
section
variable {X:Cx}{pins:List (Addr×Obj)}{σ:St}{H:Hp}{s:Shared}
theorem Inv.dead (I:Inv X pins σ H s):Inv (qjH X) pins σ H s:=by
 obtain⟨⟨a1,a2,a3,a4,a5,a6,a7,a8,a9,a10,a11,a12,a13,a14,a15,a16,a17,a18⟩,b1,b2,b3,b4,b5,b6,b7,b8,b9,b10⟩:=I;exact⟨⟨a1,a2,a3,a4,a5,a6,a7,a8,a9,a10,a11,a12,a13,a14,a15,a16,a17,a18⟩,b1,b2,b3,b4,b5,b6,b7,b8,b9,b10⟩
theorem Inv.live (I:Inv (qjH X) pins σ H s):Inv X pins σ H s:=by
 obtain⟨⟨a1,a2,a3,a4,a5,a6,a7,a8,a9,a10,a11,a12,a13,a14,a15,a16,a17,a18⟩,b1,b2,b3,b4,b5,b6,b7,b8,b9,b10⟩:=I;exact⟨⟨a1,a2,a3,a4,a5,a6,a7,a8,a9,a10,a11,a12,a13,a14,a15,a16,a17,a18⟩,b1,b2,b3,b4,b5,b6,b7,b8,b9,b10⟩
theorem Inv.mark (I:Inv X pins σ H s) (ea:Addr):Inv (qbd X ea) pins σ H s:=by
 obtain⟨⟨a1,a2,a3,a4,a5,a6,a7,a8,a9,a10,a11,a12,a13,a14,a15,a16,a17,a18⟩,b1,b2,b3,b4,b5,b6,b7,b8,b9,b10⟩:=I;exact⟨⟨a1,a2,a3,a4,a5,a6,a7,a8,fun z=>(nomatch z),a10,a11,a12,a13,a14,a15,a16,a17,a18⟩,b1,b2,b3,b4,b5,b6,b7,b8,b9,b10⟩
theorem Inv.unmark {ea:Addr}{A0:Prop} (k:X.Ok) (I:Inv (qbd X ea) pins σ H s):Inv X pins σ H s:=by
 obtain⟨_,b1,b2,b3,b4,b5,b6,b7,b8,b9,b10⟩:=I;exact⟨k,b1,b2,b3,b4,b5,b6,b7,b8,b9,b10⟩
theorem Inv.lose {h':Heap}{m':Str->Option Value}{t':Nat} (I:Inv X pins σ H s) (hn:h'.Ns X.env.locals m') (hs:Heap.SameBut X.env.locals s.heap h'):Inv X pins (List.replicate X.N.length none) H { s with heap:=h',toks:=t' }:=by
 have neL:∀ b o,X.s₀.heap.get? b=some o->b≠X.env.locals:=fun b o e=>Nat.ne_of_lt (Nat.lt_of_lt_of_le (Heap.lt_size e) I.ok.above);have up:∀ b o,b≠X.env.locals->s.heap.get? b=some o->h'.get? b=some o:=fun b o hb e=>(hs.2 b hb).trans e
 refine⟨I.ok,I.os,I.bare,⟨fun b o e n hb hx=>up b o (neL b o e) (I.base.keep b o e n hb hx),fun b o e n hb hx=>?_,I.base.free,fun b o e hx=>?_,I.base.tups,I.base.frzs,I.base.tbls⟩,
   ⟨m',hn,fun i x v _ e2 _=>?_⟩,fun x c e=>?_,I.free,I.freeC,fun p hp=>?_,fun b u e=>?_,by simp⟩
 · obtain⟨sl,q⟩:=I.base.slot b o e n hb hx;exact⟨sl,up b _ (neL b o e) q⟩
 · obtain⟨o',q⟩:=I.base.there b o e hx;exact⟨o',up b _ (neL b o e) q⟩
 · rw[List.getElem?_replicate]at e2;split at e2<;>cases e2
 · obtain⟨v,o,ho,hd⟩:=I.cell x c e;exact⟨v,o,up c o (I.cne x c e) ho,hd⟩
 · obtain⟨e,n,ne,nf,d⟩:=I.pin p hp;exact⟨up p.1 p.2 ne e,n,ne,nf,d⟩
 · refine(I.hok b u e).stay (fun c v hc q=>up c v (fun z=>?_) q) (fun _ q=>q) fun _ _ q=>q;rcases hc with hc|hc
   · rw[← hc,z,I.free]at e;cases e
   · rw[z,I.free]at hc;cases hc
end
section
variable {M:Model}{A:Around}{E:Value->Shared->Prop}{s:Shared}
theorem qfs {K:Frag}{C L x:Addr}{ox:Obj}{Q:Bool->Shared->Prop} (X:K.In s.heap) (xc:xIn K C=true) (xl:xIn K L=true) (hm:mroIn K C (.ref L)=some true) (hx:s.heap.get? x=some ox) (hc:ox.cls=.ref C)
   (h:Q true s):wpAny M A (excMatches (.ref x) (.ref L)) Q E s:=by
 obtain⟨hp,g,d,tk,os⟩:=s;obtain⟨nm,qn,N,bs,bm,sn,sub,ab,col,dd,k0,k1,k2,k3,k5,hC,hxt⟩:=qk2 X xl;have hcB:(Value.ref L::bm).contains (.type "BaseException")=true:=by rw[List.contains_cons,zW (v:=true) (by decide +kernel) hxt,Bool.or_true]
 have f:=tc_notTuple;have LL:=looks_mroIn (M:=M) X hm;unfold excMatches
 repeat (first
   | (with_reducible refine wpAny_loadPart_at hx ?_;rw[hc])
   | with_reducible refine wpAny_loadPart_at hC ?_
   | (with_reducible refine wpAny_isSubtype_exc hC ?_;rw[hcB])
   | (with_reducible refine LL.at ?_)
   | wp_step)
 exact h
end
abbrev XTE:=St->Hp->VK->XK->Prop
abbrev XTS:=qhg->XK->St->Hp->Prop
def qlJ (X:Cx) (pins:List (Addr×Obj)) (σ:St) (E:XK) (Ex:Value->Shared->Prop):Prop :=
 ∀ (ea C:Addr) (dx:Option Addr) (H':Hp) (s':Shared),Inv X pins σ H' s'->XAt H' ea C dx->Sure E C ea dx H'->Ex (.ref ea) s'
def PEX (X:Cx) (e:Expr) (t:XTE):Prop :=
 ∀ (pins:List (Addr×Obj)) (s:Shared) (σ:St) (H:Hp) (Q:VK) (E:XK) (Ex:Value->Shared->Prop),Inv X pins σ H s->t σ H Q E->qlJ X pins σ E Ex->wpAny (model X.prog X.w) X.A (eval e X.env) (EP X pins σ Q) Ex s
def PX (X:Cx) (st:List Stmt) (t:XTS):Prop :=
 ∀ (pins:List (Addr×Obj)) (s:Shared) (σ:St) (H:Hp) (D:qhg) (E:XK) (Ex:Value->Shared->Prop),Inv X pins σ H s->t D E σ H->qlJ X pins σ E Ex->wpAny (model X.prog X.w) X.A (execs st X.env) (SP X pins D) Ex s
section
variable {X:Cx}{e o c:Expr}{es:List Expr}{a b:List Stmt}{x m:Str}{p pos apos:Pos}{ta:TE}{t:TA}{tc:TT}{f C:Addr}{fd:FuncData}{ps:List Str}{sp:Sp}{k:Nat}
theorem qeh {α:Type}{u:Sem α}{Q:α->Shared->Prop}{M:Model}{A:Around}{Ex:Value->Shared->Prop}{s:Shared} (h:wpAny M A u Q (fun _ _=>False) s):wpAny M A u Q Ex s:=wpAny_mono h (fun _ _ z=>z) fun _ _ z=>z.elim
theorem qjb {pins:List (Addr×Obj)}{σ:St}{H:Hp}{s:Shared}{Q:VK}{E:XK}{Ex:Value->Shared->Prop}{us:List Value}{vs:List V} (F:qu X.prog X.w X.K X.mg X.base (CX1 X.prog X.w) k f fd ps sp) (hr:Room k X.A) (hb:Binds X.K fd ps [])
   (I:Inv X pins σ H s) (r:Vals vs us) (h:sp vs H Q E) (w:qlJ X pins σ E Ex):wpAny (model X.prog X.w) X.A (call (.ref f) us) (EP X pins σ Q) Ex s:=by
 have hl:(us++[]).length=ps.length:=by rw[List.append_nil,← r.length];exact F.len _ _ _ _ h
 have hbb:=hb s us I.kIn hl;rw[List.append_nil]at hbb;refine wpAny_call (codeAny_mono (F.run X.A X.stack s H ⟨us,[]⟩ us vs Q E hr I.env0 hbb r h) fun r s' hq=>?_)
 cases r with
 | error e =>
   obtain⟨ea,C,dx,H',e1,os,bare,un,hok,x,q⟩:=hq;subst e1;exact w ea C dx H' s' (I.call' os un hok bare fun b z=>absurd z (by simp)) x q
 | ok fl =>
   cases fl with
   | ret u=>exact I.after hq
   | next=>exact False.elim hq
   | brk=>exact False.elim hq
   | cont=>exact False.elim hq
def qla (sp:Sp) (t:TA):XTE:=fun σ H Q E=>t σ H fun vs H1=>sp vs H1 Q E
theorem qhD (F:qu X.prog X.w X.K X.mg X.base (CX1 X.prog X.w) k f fd ps sp) (hr:Room k X.A) (hg:Gl X x) (hm:X.mg x=some (.ref f)) (hk:keepIn X.K (.ref f)=true) (hb:Binds X.K fd ps [])
   (ha:PA (qjH X) (e::es) t) (hdb:(x == ("__debug__":Str))=false:=by decide) (he:starEach (e::es) X.env=(false,eval e X.env)::starEach es X.env:=by rfl) (hpl:(backTo pos (starEach es X.env)).any (·.1)=false:=by rfl) :
   PEX X (.Call (.Name x p) (e::es) [] pos) (qla sp t):=by
 intro pins s σ H Q E Ex I h w;refine wpAny_Call_Name_kw (ZR I hg hm ?_ hdb);refine callWith_K (h₀:=X.base) I.ok.mod.kin hk (thn (qeh (ha pos pins s σ H _ I.dead h)) fun us s1 ⟨vs,H1,I1,r,q⟩=>⟨I1.kIn,?_⟩) he hpl;exact qjb F hr hb I1.live r q w
def qk9 (te:XTE):XTS:=fun D E σ H=>te σ H (fun _ H1=>D.nx σ H1) E
theorem qjg {te:XTE} (he:PEX X e te) (hs:swapsWith e none pos.line X.env=pure false:=by rfl):PX X [.Expr e pos] (qk9 te):=by
 intro pins s σ H D E Ex I h w;refine wpAny_execs_cons (wpAny_Expr_any (thn (he pins s σ H _ E Ex I h w) fun v s1 zz_=>?_) I.quiet hs);obtain⟨x,H1,I1,r1,q1⟩:=zz_;exact wpAny_execs_nil (show SP X pins D .next s1 from ⟨σ,H1,I1,q1⟩)
end
def qjz (v:Value):Bool:=match v with
 | .type s=>s == "type"
 | _=>false
def qjA (v:Option Value):Bool:=match v with
 | some (.builtin s)=>s == "ValueError.__new__"
 | _=>false
def qlx (C:Addr) (l:List Value):Bool:=match l with
 | .ref C1::bm=>C1 == C && qaa bm
 | _=>false
def xOb (C:Addr) (o:Obj):Bool:=match o.data with
 | .cls cd=>qjz o.cls && qlx C cd.mro && !cd.hasDel && cd.hasDict && o.slots.size == 6 && qjA (o.slots.getD 4 none)
 | _=>false
theorem qh1 {v:Value} (h:qjz v=true):v=.type "type":=by
 cases v with
 | type s=>rw[eq_of_beq (show (s == "type")=true from h)]
 | _=>cases h
theorem qh2 {v:Option Value} (h:qjA v=true):v=some (.builtin "ValueError.__new__"):=by
 cases v with
 | none=>cases h
 | some v =>
   cases v with
   | builtin s=>rw[eq_of_beq (show (s == "ValueError.__new__")=true from h)]
   | _=>cases h
theorem qjv {C:Addr}{l:List Value} (h:qlx C l=true):∃ bm,l=.ref C::bm∧qaa bm=true:=by
 cases l with
 | nil=>cases h
 | cons v bm =>
   cases v with
   | ref C1 =>
     have h':(C1 == C && qaa bm)=true:=h;rw[Bool.and_eq_true]at h';exact⟨bm,by rw[eq_of_beq h'.1],h'.2⟩
   | _=>cases h
theorem six {α:Type}{l:List α} (h:l.length=6):∃ a b c d e f,l=[a,b,c,d,e,f]:=by
 obtain⟨a,l,rfl⟩:=List.exists_cons_of_length_eq_add_one h;obtain⟨b,l,rfl⟩:=List.exists_cons_of_length_eq_add_one (Nat.succ.inj h);obtain⟨c,l,rfl⟩:=List.exists_cons_of_length_eq_add_one (Nat.succ.inj (Nat.succ.inj h));obtain⟨d,l,rfl⟩:=List.exists_cons_of_length_eq_add_one (Nat.succ.inj (Nat.succ.inj (Nat.succ.inj h)));obtain⟨e,l,rfl⟩:=List.exists_cons_of_length_eq_add_one (Nat.succ.inj (Nat.succ.inj (Nat.succ.inj (Nat.succ.inj h))));obtain⟨f,l,rfl⟩:=List.exists_cons_of_length_eq_add_one (Nat.succ.inj (Nat.succ.inj (Nat.succ.inj (Nat.succ.inj (Nat.succ.inj h)))))
 have:l=[]:=List.eq_nil_of_length_eq_zero (Nat.succ.inj (Nat.succ.inj (Nat.succ.inj (Nat.succ.inj (Nat.succ.inj (Nat.succ.inj h))))))
 subst this;exact⟨a,b,c,d,e,f,rfl⟩
theorem xIn_of {K:Frag}{C:Addr}{o:Obj} (h:K.lookup C=some o) (q:xOb C o=true):xIn K C=true:=by
 obtain⟨oc,dd,od,⟨sl⟩⟩:=o
 cases od with
 | cls cd =>
   have q':(qjz oc && qlx C cd.mro && !cd.hasDel && cd.hasDict && sl.length == 6 && qjA ((Array.mk sl).getD 4 none))=true:=q;simp only[Bool.and_eq_true,beq_iff_eq,Bool.not_eq_true']at q';obtain⟨⟨⟨⟨⟨q0,q1⟩,q2⟩,q3⟩,q4⟩,q5⟩:=q';obtain⟨bm,hm,hx⟩:=qjv q1;obtain⟨k0,k1,k2,k3,k4,k5,rfl⟩:=six q4;have e4:k4=some (.builtin "ValueError.__new__"):=qh2 q5;have e0:=qh1 q0;obtain⟨nm,bs,mro,ns,qn,hdc,sn,sub,ab,col,del⟩:=cd;dsimp only at hm q2 q3;subst hm q2 q3 e4 e0;exact xIn_iff.mpr ⟨nm,qn,ns,bs,bm,sn,sub,ab,col,dd,k0,k1,k2,k3,k5,h,hx⟩
 | _=>cases q
theorem xIsa_of {K:Frag}{C D:Addr}{b:Bool} (h1:isClsIn K D=true) (h2:typeIn K (.ref D)=some (.type "type")) (h3:subIn K (.ref C) (.ref D)=some b):zh K C (.ref D)=some b:=by
 unfold zh;have h1':(clsIn K D).isSome=true:=h1;simp only[h1',h2,Bool.true_and,beq_self_eq_true,if_true];exact h3
theorem qfh {P:Program}{w:World}{X:Cx}:jC (CX1 P w) X E0:=fun _ _ _ _ _ _ _ ⟨_,_,_,H',_,_,_,_,_,x,q⟩=>(q H' (fun _ _ _ e=>e) x).elim
def Rz (C:Addr) (f:Str) (v:V) (H:Hp) (E:XK):Prop:=∀ (ea dx:Addr) (H':Hp),Same H H'->H ea=none->H dx=none->H' dx=some (.xd [(f,v)])->XAt H' ea C (some dx)->E (.ref C) (some ea) H'
theorem Rz.same {C:Addr}{f:Str}{v:V}{H G:Hp}{E:XK} (h:Rz C f v H E) (s:Same H G):Rz C f v G E:=fun ea dx H' s' n1 n2 e x=>h ea dx H' (s.trans s') (s.none n1) (s.none n2) e x
theorem Rz.sure {C:Addr}{f:Str}{v:V}{H:Hp}{E:XK} (h:Rz C f v H E) {ea dx:Addr}{tb:Value} (n1:H ea=none) (n2:H dx=none) (ne:dx≠ea) :
   Sure E C ea (some dx) (upd (upd (upd H ea (.ext (ExO ea C none .none))) ea (.ext (ExO ea C (some dx) tb))) dx (.xd [(f,v)])):=by
 intro H' k x;refine h ea dx H' (fun b o e=>k b o (qi e n1) ?_) n1 n2 (k dx _ ne qd) x;rw[qg (qi e n2),qg (qi e n1),qg (qi e n1)];exact e
section
variable {P:Program}{w:World}{K:Frag}{mg:Str->Option Value}{base:Heap}
theorem Fun.okX {x qual:Str}{st:Stmt}{f:Addr}{fd:FuncData}{N ps:List Str}{k:Nat}{sp:Sp} (F:Fun K x qual st f fd) (S:qo N ps (qh st)) (len:∀ vs H Q E,sp vs H Q E->vs.length=ps.length)
   (hbody:∀ (cdv:Value) (A:Around) (outer:List Env) (s:Shared) (H:Hp) (vs:List V) (Q:VK) (E:XK),Room k (A.deeper (envOfC qual (qh st) s.heap.objs.size f cdv))->sp vs H Q E ->
     ∃ t,PSs (zf (CX1 P w) P w K mg base N qual (qh st) f cdv A outer s H E) (zH st) t∧t { nx:=fun _ H'=>Q .non H',rt:=Q } (qby N vs) H):qu P w K mg base (CX1 P w) (k+1) f fd ps sp:=by
 obtain⟨oc,od,kV,doc,pm,an,cdv,ct,osl,rfl,lk,hcd⟩:=F.ex;exact qjF lk hcd S len fun A outer s H vs Q E hr hsp=>hbody cdv A outer s H vs Q E hr hsp
end
theorem CompOk.defX {CX:CXT}{P:Program}{w:World}{K:Frag}{mg:Str->Option Value}{base:Heap}{N0:List Str}{qual:Str}{sc0:Scope}{f:Addr}{cd:Value}{A:Around}{outer:List Env}{s:Shared}{H:Hp}{E:XK}{scope:Scope}
   (N:List Str) (js:List (Option Nat)) (hk0:sc0.kind=.function:=by rfl) (hk:scope.kind=.function:=by rfl) (hcell:∀ y∈scope.names,y.2≠.cell:=by decide +kernel) (hnames:∀ y∈scope.names,y.2=.local->scope.names.lookup y.1=some .local:=by decide +kernel)
   (hfr0:∀ y∈scope.names,y.2=.free->sc0.names.lookup y.1=some .cell:=by decide +kernel) (len:js.length=N.length:=by rfl) (hfr:qjE scope N0 N js=true:=by decide +kernel) :
   CompOk (zf CX P w K mg base N0 qual sc0 f cd A outer s H E) scope N (Qm (zf CX P w K mg base N0 qual sc0 f cd A outer s H E).env.cells scope.names []) js :=
 CompOk.of hk hcell hnames hk0 (fun y hy z=>⟨hfr0 y hy z,Option.isSome_iff_exists.mp (PySem.W.cellsFrom_some _ _ _ (.inl (hfr0 y hy z)))⟩) len (qeT hfr)
theorem qjs {h:Heap}{a:Addr}{m m':Str->Option Value} (x:h.Ns a m) (y:h.Ns a m'):m=m':=by
 obtain⟨o,es,ep,ho,hd,_,f⟩:=x;obtain⟨o',es',ep',ho',hd',_,f'⟩:=y;rw[ho]at ho';cases ho';rw[hd]at hd';cases hd';exact funext fun n=>(f n).symm.trans (f' n)
section
variable {X:Cx}{pins:List (Addr×Obj)}{σ:List (Option V)}{H:Hp}{s:Shared}{pos:Pos}
theorem Inv.gone {h':Heap}{m:Str->Option Value}{n:Str}{i:Nat}{v:Option Value}{t':Nat} (I:Inv X pins σ H s) (hN:X.N.Nodup) (hi:X.N[i]?=some n) (hm:s.heap.Ns X.env.locals m)
   (hn:h'.Ns X.env.locals (fun x=>if x=n then v else m x)) (hs:Heap.SameBut X.env.locals s.heap h'):Inv X pins (σ.set i none) H { s with heap:=h',toks:=t' }:=by
 have J:=I.lose (t':=t') hn hs;refine⟨J.ok,J.os,J.bare,J.base,?_,J.cell,J.free,J.freeC,J.pin,J.hok,by rw[List.length_set];exact I.len⟩;obtain⟨m0,hm0,hl⟩:=I.loc;rw[qjs hm0 hm]at hl;refine⟨_,hn,fun j x w e1 e2 e3=>?_⟩
 have ne:i≠j:=fun z=>by
   subst z;by_cases lt:i < σ.length
   · rw[List.getElem?_set_self lt]at e2;cases e2
   · rw[List.getElem?_eq_none (by rw[List.length_set];omega)]at e2;cases e2
 rw[List.getElem?_set_ne ne]at e2;have nx:x≠n:=fun z=>ne (qcM hN hi (z▸e1));obtain⟨u,r,l⟩:=hl j x w e1 e2 e3;refine⟨u,r,?_⟩;rcases l with l|⟨k,c,e,ob,ho,hd⟩
 · refine .inl ⟨l.1,?_⟩;show (if x=n then v else m x)=some u;rw[if_neg nx];exact l.2
 · exact .inr ⟨k,c,e,ob,(hs.2 c (I.cne x c e)).trans ho,hd⟩
end
def qlN (i j:Int):Prop:=0 < j∧j < 340282366920938463463374607431768211456
theorem qhL {X:Cx}:OpR X (binaryOp .FloorDiv) (rI qlN fun i j=>.int (i / j)):=opI fun i j _ _ _ _ _ hc q=>by
 have h1:(0:Int) < j:=hc.1;have h2:j < 340282366920938463463374607431768211456:=hc.2;have h3:j.natAbs < 2 ^ 128:=by omega
 have h4:j.natAbs.log2 < 128:=(Nat.log2_lt (by omega)).mpr h3;exact floordiv_int (by omega) (by rw[Int.fdiv_eq_ediv_of_nonneg i (by omega)];exact q) (.inl (PyProof.noPylong_of_log2 (by omega)))
section
variable {X:Cx}{o e value:Expr}{es:List Expr}{f x:Str}{p apos pos pos' tpos:Pos}{ta tv:TE}{t:TA}{C fa:Addr}
inductive qf4 (K:Frag) (xs:List V) (H:Hp) (Q:VK):Prop
 | mk (ea C c b:_) (h1:xs=[.ref ea,c]) (h2:XAt H ea C none) (h4:XC K C) (h5:zh K C c=some b) (h6:Q (.bl b) H):qf4 K xs H Q
def qls (K:Frag):List V->Hp->VK->Prop:=fun xs H Q=>qf4 K xs H Q
theorem qft {pins:List (Addr×Obj)}{σ:St}{H:Hp}{s:Shared}{ea C:Addr} (I:Inv X pins σ H s) (x:XAt H ea C none):∃ (ox:Obj),InstAt s.heap ea ox C none:=by
 obtain⟨tb,e1,_⟩:=x;obtain⟨⟨oe,vs,hx,hcl,hdx,hdt,hz,h1,hx2⟩,_,_⟩:=(show ObjOk X.prog X.w H s.heap ea (.ext (ExO ea C none tb)) from I.hok ea _ e1)
 exact⟨oe,hx,hcl,by unfold notCls;rw[hdt],by rw[hdx];exact True.intro⟩
theorem qg0:Zg X (.builtin "isinstance") (qls X.K):=by
 intro pins s σ H xs us Q I r h;obtain⟨ea,C,c,b,rfl,xa,xc,hi,q⟩:=h;obtain⟨u,w',rfl,ru,rw'⟩:=qc0 r;cases (show u=Value.ref ea from ru);obtain⟨ox,J⟩:=qft I xa
 cases c with
 | ref D =>
   cases (show w'=Value.ref D from rw');simp only[zh]at hi;split at hi
   · rename_i hq
     simp only[Bool.and_eq_true,beq_iff_eq]at hq;obtain⟨q1,q2⟩:=hq;refine qhl I.kIn J xc xc.gt xc.tk (b:=b) (fun _ h' X'=>looks_typeIn X' q2) (fun _ h' X'=>?_) (fun z=>?_) (fun _ h' X'=>looks_subIn X' hi) fun t=>⟨.bl b,H,I.tok t,rfl,q⟩
     · unfold clsIn at q1;split at q1
       · rename_i c' d' cd' sl' ho
         intro A' Q' E' s' k q;unfold isType loadHead;exact wpAny_bind (wpAny_loadPart (k _ _ (X' _ _ ho)) (wpAny_pure q))
       · cases q1
     · have z':C=D:=Value.ref.inj (beq_iff_eq.mp z);subst z';obtain⟨cd,bm,hcd,hmro,_,_⟩:=xcd xc.xi
       have e2:mroIn X.K C (.ref C)=some true:=by
         unfold mroIn;rw[hcd,Option.bind_some,hmro,if_neg (by simp)];simp
       have e3:subIn X.K (.ref C) (.ref C)=some true:=e2;rw[e3]at hi;exact(Option.some.inj hi).symm
   · cases hi
 | ty T =>
   cases (show w'=Value.type T from rw');simp only[zh]at hi;split at hi
   · rename_i hq
     rw[beq_iff_eq]at hq;subst hq;cases hi;refine qhl I.kIn J xc xc.gt xc.tk (b:=true) (fun _ h' X'=>Looks.of_pure (by kernel_rfl)) (fun _ h' X'=>Looks.of_pure rfl) (fun _=>rfl) (fun _ h' X'=>looks_mroIn X' (qjS xc.xi (by decide +kernel))) fun t=>⟨.bl true,H,I.tok t,rfl,q⟩
   · cases hi
 | non=>cases hi
 | bl _=>cases hi
 | int _=>cases hi
 | str _=>cases hi
 | byt _=>cases hi
 | flt _=>cases hi
end
def qlo:Value->Option Addr
 | .ref a=>some a
 | _=>none
theorem qf2 (D:Addr):∀ l:List Value,l.contains (.ref D)=(l.map qlo).contains (some D)
 | []=>rfl
 | v::l=>by
   rw[List.map_cons,List.contains_cons,List.contains_cons,qf2 D l];congr 1
   cases v with
   | ref c =>
     show (Value.ref D == Value.ref c)=(some D == some c);by_cases e:D=c
     · subst e;simp
     · rw[beq_eq_false_iff_ne.mpr (fun z=>e (Value.ref.inj z)),beq_eq_false_iff_ne.mpr (fun z=>e (Option.some.inj z))]
   | _=>rfl
def XMro (K:Frag) (C:Addr) (l:List (Option Addr)):Prop:=∃ cd,clsIn K C=some cd∧cd.mro.map qlo=l
def qkF (l:List (Option Addr)) (o:Obj):Bool:=match o.data with
 | .cls cd=>cd.mro.map qlo == l
 | _=>false
theorem XMro.of {K:Frag}{C:Addr}{o:Obj}{l:List (Option Addr)} (h:K.lookup C=some o) (q:qkF l o=true):XMro K C l:=by
 obtain⟨oc,od,odt,osl⟩:=o;unfold qkF at q
 cases odt with
 | cls cd =>
   refine⟨cd,?_,eq_of_beq q⟩;unfold clsIn;rw[h]
 | _=>cases q
def qfq (K:Frag) (D:Addr):Prop:=isClsIn K D=true∧typeIn K (.ref D)=some (.type "type")
theorem qhm {K:Frag}{C D:Addr}{l:List (Option Addr)} (m:XMro K C l) (hl:l≠[]) (d:qfq K D):zh K C (.ref D)=some (l.contains (some D)):=by
 obtain⟨cd,h1,h2⟩:=m;refine xIsa_of d.1 d.2 ?_;show mroIn K C (.ref D)=_;unfold mroIn;rw[h1,Option.bind_some,if_neg,qf2,h2];intro z;rw[List.isEmpty_iff]at z;rw[z]at h2;exact hl h2.symm
def XE (K:Frag) (H:Hp) (e:V) (C:Addr):Prop:=XC K C∧∃ ea,e=.ref ea∧(XAt H ea C none∨∃ dx fs,XAt H ea C (some dx)∧H dx=some (.xd fs))
theorem XAt.same {H H':Hp} (s:Same H H') {ea C:Addr}{dx:Option Addr} (h:XAt H ea C dx):XAt H' ea C dx:=by
 obtain⟨tb,h1,h2⟩:=h;refine⟨tb,s _ _ h1,h2.imp id fun⟨T,a,b,c⟩=>⟨T,a,s _ _ b,c⟩⟩
theorem XE.same {K:Frag}{H H':Hp} (s:Same H H') {e:V}{C:Addr} (h:XE K H e C):XE K H' e C:=by
 obtain⟨c,ea,r,h⟩:=h;exact⟨c,ea,r,h.imp (fun h=>h.same s) fun⟨dx,fs,a,b⟩=>⟨dx,fs,a.same s,s _ _ b⟩⟩
section
variable {X:Cx}{o e e2 value:Expr}{es:List Expr}{f g x:Str}{p apos pos pos' tpos:Pos}{ta tv:TE}{t:TA}{C fa:Addr}
def qbF (K:Frag):List V->Hp->VK->Prop:=fun xs H Q=>∃ e C c b,xs=[e,c]∧XE K H e C∧zh K C c=some b∧Q (.bl b) H
theorem zD:Zg X (.builtin "isinstance") (qbF X.K):=by
 intro pins s σ H xs us Q I r h;obtain⟨e,C,c,b,rfl,⟨xc,ea,rfl,h⟩,hi,q⟩:=h;rcases h with h|⟨dx,fs,h,hd⟩
 · exact qg0 pins s σ H _ us Q I r ⟨ea,C,c,b,rfl,h,xc,hi,q⟩
 · exact qii pins s σ H _ us Q I r ⟨ea,C,dx,fs,c,b,rfl,h,hd,xc,hi,q⟩
end
end L2
namespace Srt
open PySem PySem.W PyProof.Rows
def RunP {α:Type} (lt:Nat->Nat->Bool) (n:Nat):KasT α->(α->Prop)->Prop
 | .ret a,P=>P a
 | .ask i j k,P=>i < n∧j < n∧RunP lt n (k (lt i j)) P
section
variable {lt:Nat->Nat->Bool}{n:Nat}
theorem RunP.bind {α β:Type}{f:α->KasT β}{P:β->Prop}:∀ {t:KasT α},RunP lt n t (fun a=>RunP lt n (f a) P)->RunP lt n (t.bind f) P
 | .ret _,h=>h
 | .ask i j k,h=>⟨h.1,h.2.1,RunP.bind (t:=k (lt i j)) h.2.2⟩
theorem RunP.mono {α:Type}{P P':α->Prop} (hp:∀ a,P a->P' a):∀ {t:KasT α},RunP lt n t P->RunP lt n t P'
 | .ret _,h=>hp _ h
 | .ask i j k,h=>⟨h.1,h.2.1,RunP.mono hp (t:=k (lt i j)) h.2.2⟩
theorem RunP.wp {α:Type}{cmp:Nat->Nat->(Bool->Shared->Prop)->Shared->Prop}{Q:α->Shared->Prop}{P:α->Prop}{s:Shared} (hc:∀ i j (C:Bool->Shared->Prop),i < n->j < n->C (lt i j) s->cmp i j C s) (hq:∀ a,P a->Q a s):∀ {t:KasT α},RunP lt n t P->t.kasWp cmp Q s
 | .ret _,h=>hq _ h
 | .ask i j k,h=>hc i j _ h.1 h.2.1 (RunP.wp hc hq (t:=k (lt i j)) h.2.2)
theorem RunP.ite {α:Type}{c:Prop} [Decidable c] {t u:KasT α}{P:α->Prop} (h1:c->RunP lt n t P) (h2:¬ c->RunP lt n u P):RunP lt n (if c then t else u) P:=by
 by_cases h:c
 · rw[if_pos h];exact h1 h
 · rw[if_neg h];exact h2 h
def Bd (n:Nat) (p:Array Nat):Prop:=∀ x,p.getD x 0 < n
theorem qbp {p q:Array Nat}{x y:Nat} (h:p[x]?=q[y]?):p.getD x 0=q.getD y 0:=by
 simp only[Array.getD_eq_getD_getElem?,h]
theorem qb6 {p:Array Nat}{i j:Nat} (hj:j≤p.size) (x:Nat):(kas_rev p i j).getD x 0=if i≤x∧x < j then p.getD (i+j - 1 - x) 0 else p.getD x 0:=by
 have h:=getElem?_mirror_all (xs:=p) (i:=i) hj x;by_cases c:i≤x∧x < j
 · rw[if_pos c]at h ⊢;exact qbp h
 · rw[if_neg c]at h ⊢;exact qbp h
theorem Bd.rev {p:Array Nat}{i j:Nat} (h:Bd n p) (hj:j≤p.size):Bd n (kas_rev p i j):=fun x=>by
 rw[qb6 hj];split<;>exact h _
theorem qg3 {p:Array Nat}{k d:Nat} (hk:k < p.size) (hd:d≤k) (x:Nat):(bubble p k d).getD x 0=if x=k - d then p.getD k 0 else if k - d < x∧x≤k then p.getD (x - 1) 0 else p.getD x 0:=by
 have h:=getElem?_bubble (xs:=p) hk d hd x;by_cases c:x=k - d
 · rw[if_pos c]at h ⊢;exact qbp h
 · rw[if_neg c]at h ⊢;by_cases c2:k - d < x∧x≤k
   · rw[if_pos c2]at h ⊢;exact qbp h
   · rw[if_neg c2]at h ⊢;exact qbp h
theorem Bd.bub {p:Array Nat}{k d:Nat} (h:Bd n p) (hk:k < p.size) (hd:d≤k):Bd n (bubble p k d):=fun x=>by
 rw[qg3 hk hd];by_cases c:x=k - d
 · rw[if_pos c];exact h _
 · rw[if_neg c];by_cases c2:k - d < x∧x≤k
   · rw[if_pos c2];exact h _
   · rw[if_neg c2];exact h _
structure Ord (lt:Nat->Nat->Bool):Prop where
 tr:∀ a b c,lt b a=false->lt c b=false->lt c a=false
 asy:∀ a b,lt a b=true->lt b a=false
theorem Ord.irr (O:Ord lt) (a:Nat):lt a a=false:=by
 cases h:lt a a with
 | false=>rfl
 | true=>rw[← h];exact O.asy _ _ h
def Up (lt:Nat->Nat->Bool) (p:Array Nat) (k:Nat):Prop:=∀ x,x+1 < k->lt (p.getD (x+1) 0) (p.getD x 0)=false
def Dn (lt:Nat->Nat->Bool) (p:Array Nat) (k:Nat):Prop:=∀ x,x+1 < k->lt (p.getD x 0) (p.getD (x+1) 0)=false
def Eqv (lt:Nat->Nat->Bool) (a b:Nat):Prop:=lt a b=false∧lt b a=false
theorem Eqv.not (O:Ord lt) {a a' b b':Nat} (h1:Eqv lt a a') (h2:Eqv lt b b') (h:lt a b=false):lt a' b'=false:=O.tr _ _ _ (O.tr _ _ _ h2.1 h) h1.2
theorem Up.le (O:Ord lt) {p:Array Nat}{k:Nat} (h:Up lt p k) {x:Nat}:∀ d,x+d < k->lt (p.getD (x+d) 0) (p.getD x 0)=false
 | 0,_=>O.irr _
 | d+1,hd=>O.tr _ _ _ (Up.le O h d (by omega)) (h (x+d) (by omega))
theorem qha (p:Array Nat) (hb:Bd n p):∀ (f m:Nat),1≤m->Up lt p m->RunP lt n (kas_asc p f m) fun r=>m≤r∧r≤m+f∧Up lt p r∧(r < m+f->lt (p.getD r 0) (p.getD (r - 1) 0)=true)
 | 0,m,_,hu=>⟨Nat.le_refl _,Nat.le_refl _,hu,fun h=>absurd h (by omega)⟩
 | f+1,m,h1,hu=>by
   refine⟨hb _,hb _,RunP.ite (fun c=>?_) (fun c=>?_)⟩
   · exact⟨Nat.le_refl _,by omega,hu,fun _=>c⟩
   · have c:lt (p.getD m 0) (p.getD (m - 1) 0)=false:=by simpa using c
     refine RunP.mono (fun r h=>?_) (qha p hb f (m+1) (by omega) (fun x hx=>?_))
     · exact⟨by omega,by omega,h.2.2.1,fun z=>h.2.2.2 (by omega)⟩
     · by_cases e:x+1=m
       · have e1:x=m - 1:=by omega
         rw[e1,show m - 1+1=m by omega];exact c
       · exact hu x (by omega)
def Blk (lt:Nat->Nat->Bool) (p:Array Nat) (m q:Nat):Prop:=q+1≤m∧∀ x,m - (q+1)≤x->x < m->Eqv lt (p.getD x 0) (p.getD (m - 1) 0)
theorem Blk.rev (O:Ord lt) {p:Array Nat}{m q:Nat} (hm:m≤p.size) (h:Blk lt p m q) (x:Nat) (hx:x < m):Eqv lt (p.getD x 0) ((kas_rev p (m - (q+1)) m).getD x 0):=by
 rw[qb6 hm];by_cases c:m - (q+1)≤x∧x < m
 · rw[if_pos c];have h1:=h.2 x c.1 c.2;have hq:=h.1;have h2:=h.2 (m - (q+1)+m - 1 - x) (by omega) (by omega);exact⟨O.tr _ _ _ h2.2 h1.1,O.tr _ _ _ h1.2 h2.1⟩
 · rw[if_neg c];exact⟨O.irr _,O.irr _⟩
theorem Dn.eqv (O:Ord lt) {p p':Array Nat}{m:Nat} (h:Dn lt p m) (e:∀ x,x < m->Eqv lt (p.getD x 0) (p'.getD x 0)):Dn lt p' m:=fun x hx=>(e x (by omega)).not O (e (x+1) hx) (h x hx)
theorem qcW (O:Ord lt):∀ (f:Nat) (p:Array Nat) (m q:Nat),Bd n p->1≤m->m+f≤p.size->Dn lt p m->Blk lt p m q->RunP lt n (kas_desc f p m q) fun r =>
   Bd n r.1∧r.1.Perm p∧r.1.size=p.size∧m≤r.2.1∧r.2.1≤m+f∧Dn lt r.1 r.2.1∧Blk lt r.1 r.2.1 r.2.2
 | 0,p,m,q,hb,h1,hs,hd,bl=>⟨hb,Array.Perm.refl _,rfl,Nat.le_refl _,Nat.le_refl _,hd,bl⟩
 | f+1,p,m,q,hb,h1,hs,hd,bl=>by
   have one:∀ p':Array Nat,p'.getD m 0=p'.getD (m+1 - 1) 0:=fun p'=>rfl;refine⟨hb _,hb _,RunP.ite (fun c=>RunP.ite (fun hq=>?_) (fun hq=>?_)) (fun c=>⟨hb _,hb _,RunP.ite (fun d=>?_) (fun d=>?_)⟩)⟩
   · have hm:m≤p.size:=by omega
     have ev:=bl.rev O hm;have sz:(kas_rev p (m - (q+1)) m).size=p.size:=kas_rev_size _ _;have out:(kas_rev p (m - (q+1)) m).getD m 0=p.getD m 0:=by rw[qb6 hm,if_neg (by omega)]
     refine RunP.mono (fun r h=>?_) (qcW O f (kas_rev p (m - (q+1)) m) (m+1) 0 (hb.rev hm) (by omega) (by omega) (fun x hx=>?_) ⟨by omega,fun x h0 h2=>?_⟩)
     · exact⟨h.1,h.2.1.trans (mirror_perm _ _ _ _),by rw[h.2.2.1,sz],by omega,by omega,h.2.2.2.2.2.1,h.2.2.2.2.2.2⟩
     · by_cases e:x+1=m
       · have e1:x=m - 1:=by omega
         subst e1;rw[show m - 1+1=m by omega,out];exact(ev (m - 1) (by omega)).not O ⟨O.irr _,O.irr _⟩ (O.asy _ _ c)
       · exact hd.eqv O ev x (by omega)
     · have e:x=m:=by omega
       subst e;exact⟨O.irr _,O.irr _⟩
   · refine RunP.mono (fun r h=>?_) (qcW O f p (m+1) 0 hb (by omega) (by omega) (fun x hx=>?_) ⟨by omega,fun x h0 h2=>?_⟩)
     · exact⟨h.1,h.2.1,h.2.2.1,by omega,by omega,h.2.2.2.2.2.1,h.2.2.2.2.2.2⟩
     · by_cases e:x+1=m
       · have e1:x=m - 1:=by omega
         subst e1;rw[show m - 1+1=m by omega];exact O.asy _ _ c
       · exact hd x (by omega)
     · have e:x=m:=by omega
       subst e;exact⟨O.irr _,O.irr _⟩
   · exact⟨hb,Array.Perm.refl _,rfl,Nat.le_refl _,(by show m≤m+(f+1);omega),hd,bl⟩
   · have c:lt (p.getD m 0) (p.getD (m - 1) 0)=false:=by simpa using c
     have d:lt (p.getD (m - 1) 0) (p.getD m 0)=false:=by simpa using d
     refine RunP.mono (fun r h=>?_) (qcW O f p (m+1) (q+1) hb (by omega) (by omega) (fun x hx=>?_) ⟨by have:=bl.1;omega,fun x h0 h2=>?_⟩)
     · exact⟨h.1,h.2.1,h.2.2.1,by omega,by omega,h.2.2.2.2.2.1,h.2.2.2.2.2.2⟩
     · by_cases e:x+1=m
       · have e1:x=m - 1:=by omega
         subst e1;rw[show m - 1+1=m by omega];exact d
       · exact hd x (by omega)
     · show Eqv lt (p.getD x 0) (p.getD m 0);by_cases e:x=m
       · rw[e];exact⟨O.irr _,O.irr _⟩
       · have:=bl.2 x (by omega) (by omega)
         exact⟨O.tr _ _ _ d this.1,O.tr _ _ _ this.2 c⟩
theorem Dn.rev {p:Array Nat}{m:Nat} (h:Dn lt p m) (hm:m≤p.size):Up lt (kas_rev p 0 m) m:=fun x hx=>by
 rw[qb6 hm,qb6 hm,if_pos ⟨Nat.zero_le _,by omega⟩,if_pos ⟨Nat.zero_le _,by omega⟩]
 have:=h (m - 2 - x) (by omega)
 rw[show m - 2 - x+1=0+m - 1 - x by omega]at this;rw[show 0+m - 1 - (x+1)=m - 2 - x by omega];exact this
def Cnt (lt:Nat->Nat->Bool) (n N:Nat) (p:Array Nat) (r:Nat×Array Nat):Prop:=Bd n r.2∧r.2.Perm p∧r.2.size=p.size∧1≤r.1∧r.1≤N∧Up lt r.2 r.1
theorem qep {N m:Nat}{p:Array Nat} (hb:Bd n p) (h1:1≤m) (hm:m≤N) (hs:N≤p.size) (hd:Dn lt p m):RunP lt n (kas_tail3 m N p) (Cnt lt n N p):=by
 unfold kas_tail3;refine RunP.bind (RunP.mono (fun r h=>?_) (qha (kas_rev p 0 m) (hb.rev (by omega)) (N - m) m h1 (hd.rev (by omega))));exact⟨hb.rev (by omega),mirror_perm _ _ _ _,kas_rev_size _ _,by omega,by omega,h.2.2.1⟩
theorem qbq (O:Ord lt) {N m:Nat}{p:Array Nat} (hb:Bd n p) (h1:1≤m) (hm:m < N) (hs:N≤p.size) (hd:Dn lt p (m+1)):RunP lt n (kas_descPart m N p) (Cnt lt n N p):=by
 unfold kas_descPart
 refine RunP.bind (RunP.mono (fun r h=>?_) (qcW O (N - (m+1)) p (m+1) 0 hb (by omega) (by omega) hd ⟨by omega,fun x h0 h2=>by
   have e:x=m:=by omega
   subst e
   exact⟨O.irr _,O.irr _⟩⟩))
 obtain⟨g1,g2,g3,g4,g5,g6,g7⟩:=h;refine RunP.ite (fun hq=>?_) (fun hq=>?_)
 · have hm2:r.2.1≤r.1.size:=by omega
   refine RunP.mono (fun z hz=>?_) (qep (g1.rev hm2) (by omega) (by omega) (by rw[kas_rev_size];omega) (g6.eqv O (g7.rev O hm2)));exact⟨hz.1,(hz.2.1.trans (mirror_perm _ _ _ _)).trans g2,by rw[hz.2.2.1,kas_rev_size,g3],hz.2.2.2⟩
 · refine RunP.mono (fun z hz=>?_) (qep g1 (by omega) (by omega) (by omega) g6);exact⟨hz.1,hz.2.1.trans g2,by rw[hz.2.2.1,g3],hz.2.2.2⟩
theorem qif (O:Ord lt) {N:Nat}{p:Array Nat} (hb:Bd n p) (h2:1≤N) (hs:N≤p.size):RunP lt n (kas_count N p) (Cnt lt n N p):=by
 unfold kas_count;refine RunP.bind (RunP.mono (fun m h=>?_) (qha p hb (N - 1) 1 (Nat.le_refl _) (fun x hx=>by omega)));obtain⟨m1,mN,up,stop⟩:=h;refine RunP.ite (fun c=>?_) (fun c=>?_)
 · exact⟨hb,Array.Perm.refl _,rfl,m1,by omega,up⟩
 · have c:m≠N:=by simpa using c
   have st:=stop (by omega);refine RunP.ite (fun g=>⟨hb _,hb _,RunP.ite (fun e=>?_) (fun e=>?_)⟩) (fun g=>?_)
   · exact⟨hb,Array.Perm.refl _,rfl,m1,by omega,up⟩
   · have e:lt (p.getD 0 0) (p.getD (m - 1) 0)=false:=by simpa using e
     -- all of the first m are alike
     have alike:∀ x,x < m->Eqv lt (p.getD x 0) (p.getD (m - 1) 0):=fun x hx=>by
       have a1:=up.le O (x:=x) (m - 1 - x) (by omega);rw[show x+(m - 1 - x)=m - 1 by omega]at a1;have a2:=up.le O (x:=0) x (by omega);rw[Nat.zero_add]at a2;exact⟨O.tr _ _ _ e a2,a1⟩
     have hmp:m≤p.size:=by omega
     have blk:Blk lt p m (m - 1):=⟨by omega,fun x _ hx=>alike x hx⟩
     have ev:=blk.rev O hmp;rw[show m - (m - 1+1)=0 by omega]at ev;have dn0:Dn lt p m:=fun x hx=>O.tr _ _ _ (alike (x+1) hx).2 (alike x (by omega)).1
     have dn:Dn lt (kas_rev p 0 m) (m+1):=fun x hx=>by
       by_cases e1:x+1=m
       · have e2:x=m - 1:=by omega
         subst e2;have out:(kas_rev p 0 m).getD (m - 1+1) 0=p.getD m 0:=by rw[qb6 hmp,if_neg (by omega),show m - 1+1=m by omega]
         rw[out];exact(ev (m - 1) (by omega)).not O ⟨O.irr _,O.irr _⟩ (O.asy _ _ st)
       · exact dn0.eqv O ev x (by omega)
     refine RunP.mono (fun z hz=>?_) (qbq O (hb.rev hmp) m1 (by omega) (by rw[kas_rev_size];exact hs) dn);exact⟨hz.1,hz.2.1.trans (mirror_perm _ _ _ _),by rw[hz.2.2.1,kas_rev_size],hz.2.2.2⟩
   · have e1:m=1:=by omega
     subst e1
     exact qbq O hb (Nat.le_refl _) (by omega) hs (fun x hx=>by
       have:x=0:=by omega
       subst this
       exact O.asy _ _ st)
theorem qcA (O:Ord lt) {p:Array Nat}{k:Nat} (hb:Bd n p) (up:Up lt p k):∀ (f l r:Nat),l≤r->r≤k->r - l≤f->(∀ x,x < l->lt (p.getD k 0) (p.getD x 0)=false)->(∀ x,r≤x->x < k->lt (p.getD k 0) (p.getD x 0)=true) ->
   RunP lt n (kas_place p k f l r) fun m=>m≤k∧(∀ x,x < m->lt (p.getD k 0) (p.getD x 0)=false)∧∀ x,m≤x->x < k->lt (p.getD k 0) (p.getD x 0)=true
 | 0,l,r,h1,h2,h3,a,b=>⟨by omega,a,fun x hx=>b x (by omega)⟩
 | f+1,l,r,h1,h2,h3,a,b=>by
   refine RunP.ite (fun c=>?_) (fun c=>⟨hb _,hb _,RunP.ite (fun d=>?_) (fun d=>?_)⟩)
   · exact⟨by omega,a,fun x hx=>b x (by omega)⟩
   · refine qcA O hb up f l ((l+r) / 2) (by omega) (by omega) (by omega) a fun x hx hk=>?_
     cases hz:lt (p.getD k 0) (p.getD x 0) with
     | true=>rfl
     | false =>
       have q:=up.le O (x:=(l+r) / 2) (x - (l+r) / 2) (by omega);rw[show (l+r) / 2+(x - (l+r) / 2)=x by omega]at q
       have:=O.tr _ _ _ q hz
       rw[d]at this;cases this
   · have d:lt (p.getD k 0) (p.getD ((l+r) / 2) 0)=false:=by simpa using d
     refine qcA O hb up f ((l+r) / 2+1) r (by omega) h2 (by omega) (fun x hx=>?_) b;have q:=up.le O (x:=x) ((l+r) / 2 - x) (by omega);rw[show x+((l+r) / 2 - x)=(l+r) / 2 by omega]at q;exact O.tr _ _ _ q d
theorem qiO (O:Ord lt):∀ (f:Nat) (p:Array Nat) (k:Nat),Bd n p->k+f≤p.size->Up lt p k->RunP lt n (kas_bin f p k) fun r=>r.Perm p∧Up lt r (k+f)
 | 0,p,k,hb,hs,up=>⟨Array.Perm.refl _,up⟩
 | f+1,p,k,hb,hs,up=>by
   refine RunP.bind (RunP.mono (fun l h=>?_) (qcA O hb up k 0 k (Nat.zero_le _) (Nat.le_refl _) (by omega) (fun x hx=>absurd hx (by omega)) (fun x h1 h2=>absurd h1 (by omega))));obtain⟨lk,lo,hi⟩:=h;have hk:k < p.size:=by omega
   refine RunP.mono (fun r h=>⟨h.1.trans (bubble_perm _ _ _),by rw[show k+(f+1)=k+1+f by omega];exact h.2⟩) (qiO O f (bubble p k (k - l)) (k+1) (hb.bub hk (by omega)) (by rw[bubble_size];omega) (fun x hx=>?_));have e:k - (k - l)=l:=by omega
   rw[qg3 hk (by omega),qg3 hk (by omega),e];by_cases c1:x+1=l
   · rw[if_pos c1,if_neg (by omega),if_neg (by omega)];exact lo x (by omega)
   · rw[if_neg c1];by_cases c2:x=l
     · rw[if_pos c2,if_pos ⟨by omega,by omega⟩,show x+1 - 1=x by omega];exact O.asy _ _ (hi x (by omega) (by omega))
     · rw[if_neg c2];by_cases c3:l < x
       · rw[if_pos ⟨by omega,by omega⟩,if_pos ⟨c3,by omega⟩]
         have:=up (x - 1) (by omega)
         rw[show x - 1+1=x by omega]at this;rw[show x+1 - 1=x by omega];exact this
       · rw[if_neg (by omega),if_neg (by omega)];exact up x (by omega)
theorem sort_ok (O:Ord lt) (h:1≤n):RunP lt n (kas_sort n) fun r=>r.Perm (List.toArray (List.range n))∧Up lt r n:=by
 have hb:Bd n (List.toArray (List.range n)):=fun x=>by
   simp only[Array.getD_eq_getD_getElem?,List.getElem?_toArray];by_cases hx:x < n
   · rw[List.getElem?_range hx];exact hx
   · rw[List.getElem?_eq_none (by simp;omega)];exact h
 have sz:(List.toArray (List.range n)).size=n:=by simp
 unfold kas_sort;refine RunP.bind (RunP.mono (fun r hr=>?_) (qif O hb h (by omega)));obtain⟨g1,g2,g3,g4,g5,g6⟩:=hr;refine RunP.ite (fun c=>?_) (fun c=>?_)
 · have e:max r.1 1=r.1:=by omega
   rw[e];refine RunP.mono (fun z hz=>⟨hz.1.trans g2,?_⟩) (qiO O (n - r.1) r.2 r.1 g1 (by omega) g6)
   have:=hz.2
   rw[show r.1+(n - r.1)=n by omega]at this;exact this
 · have e:r.1=n:=by omega
   rw[e]at g6;exact⟨g2,g6⟩
end
end Srt
namespace L2
open PySem PySem.Spec PyProof.Rows
open PySem.W (Frag InstAt mroIn kitOne clsIn kdl_dict)
theorem ObjOk.lies {P:Program}{w:World}{H:Hp}{h:Heap}{a:Addr}{o:HO} (x:ObjOk P w H h a o):∃ ob,h.get? a=some ob:=by
 cases o with
 | lst xs=>obtain⟨_,_,_,_,e⟩:=x;exact⟨_,e⟩
 | tup xs=>obtain⟨_,_,_,o,e,_⟩:=x;exact⟨_,e⟩
 | dK kvs=>obtain⟨_,_,_,_,o,_,_,e,_⟩:=x;exact⟨_,e⟩
 | dT kvs=>obtain⟨_,_,_,_,o,_,_,e,_⟩:=x;exact⟨_,e⟩
 | set S n=>obtain⟨o,_,_,_,e,_⟩:=x;exact⟨_,e⟩
 | ins C dx fs=>obtain⟨_,_,_,e,_⟩:=x;exact⟨_,e⟩
 | own y=>obtain⟨_,e⟩:=x;exact⟨_,e⟩
 | xd fs=>obtain⟨_,⟨_,_,_,e,_⟩,_⟩:=x;exact⟨_,e⟩
 | rng lo hi=>obtain⟨_,_,_,e⟩:=x;exact⟨_,e⟩
 | frz ob u=>obtain⟨e,_⟩:=x;exact⟨_,e⟩
 | tbl ps=>exact⟨_,(show h.get? a=some _ from x)⟩
 | met f y=>exact⟨_,(show h.get? a=some _ from x)⟩
 | ext φ=>obtain⟨_,⟨_,e⟩,_⟩:=x;exact⟨_,e⟩
section
variable {X:Cx}{pins:List (Addr×Obj)}{σ:List (Option V)}{H:Hp}{s:Shared}{h':Heap}
theorem Inv.unlaid {a:Addr} (I:Inv X pins σ H s) (e:s.heap.get? a=none):H a=none:=by
 cases q:H a with
 | none=>rfl
 | some o =>
   obtain⟨ob,z⟩:=(I.hok a o q).lies;rw[e]at z;cases z
theorem Inv.laidL {a:Addr}{o:HO}{t':Nat} (I:Inv X pins σ H s) (k:∀ b u,b≠X.env.locals->s.heap.get? b=some u->h'.get? b=some u) (ns:∀ m,s.heap.Ns X.env.locals m->h'.Ns X.env.locals m)
   (hp:s.heap.get? a=none) (new:ObjOk X.prog X.w (upd H a o) h' a o):Inv X pins σ (upd H a o) { s with heap:=h',toks:=t' }:=by
 have hn:H a=none:=I.unlaid hp;have nL:∀ b u,H b=some u->b≠X.env.locals:=fun b u e z=>by rw[z,I.free]at e;cases e
 have na:∀ b u,s.heap.get? b=some u->b≠a:=fun b u q z=>by rw[z,hp]at q;cases q
 refine I.step (g':=s.gens) (d':=s.drawn) (ch:=[]) (fun _ z=>nomatch z) (fun b o hb _ _ e _=>k b o hb e) (fun b o hb _ _ e _=>⟨o.slots,k b o hb e⟩) (fun b o _ e n=>by rw[qg (na b o e)];exact n) (fun b o _ e=>?_)
   (fun b xs q=>by rw[qg (qi q hn)];exact q) (fun b u xs q=>by rw[qg (qi q hn)];exact q) (fun b ps q=>⟨#[],by rw[qg (qi q hn),q];simp⟩) ns (fun b u e=>?_) I.bare
 · by_cases z:b=X.env.locals
   · obtain⟨m,hm,_⟩:=I.loc;obtain⟨o',_,_,ho',_⟩:=ns m hm;exact⟨o',by rw[z];exact ho'⟩
   · exact⟨o,k b o z e⟩
 · by_cases z:b=a
   · subst z;rw[qd]at e;cases e;exact new
   · rw[qg z]at e;refine(I.hok b u e).stay (fun c v hc q=>k c v ?_ q) (fun c q=>by rw[qg (qi q hn)];exact q) fun c xs q=>by rw[qg (qi q hn)];exact q
     rcases hc with z|z
     · rw[z];exact nL b u e
     · exact nL c _ z
end
def qej (base h:Heap) (L:Addr):List (Addr×Obj):=(List.range h.objs.size).filterMap fun a=>if a=L then none else if (base.get? a).isSome then none else (h.get? a).map fun o=>(a,o)
theorem qfm (base h:Heap) (L:Addr):News base L h (qej base h L):=by
 intro p hp;unfold qej at hp;obtain⟨a,_,e⟩:=List.mem_filterMap.mp hp;by_cases c1:a=L
 · rw[if_pos c1]at e;cases e
 · rw[if_neg c1]at e;by_cases c2:(base.get? a).isSome=true
   · rw[if_pos c2]at e;cases e
   · rw[if_neg c2]at e
     cases q:h.get? a with
     | none=>rw[q]at e;cases e
     | some o =>
       rw[q]at e;cases e;refine⟨q,c1,?_⟩
       cases z:base.get? a with
       | none=>rfl
       | some _=>rw[z]at c2;exact absurd rfl c2
theorem qbw {base h:Heap}{L b:Addr}{o:Obj} (e:h.get? b=some o) (ne:b≠L) (n:base.get? b=none):(b,o)∈qej base h L:=by
 unfold qej;refine List.mem_filterMap.mpr ⟨b,List.mem_range.mpr (Heap.lt_size e),?_⟩;rw[if_neg ne,n,e];rfl
theorem qkD {h:Heap}{a:Addr}{m m':Str->Option Value} (x:h.Ns a m) (y:h.Ns a m'):m=m':=by
 obtain⟨o,es,ep,ho,hd,_,f⟩:=x;obtain⟨o',es',ep',ho',hd',_,f'⟩:=y;rw[ho]at ho';cases ho';rw[hd]at hd';cases hd';exact funext fun n=>(f n).symm.trans (f' n)
section
variable {X:Cx}{pins:List (Addr×Obj)}{σ:List (Option V)}{H:Hp}{s:Shared}{h':Heap}
theorem Inv.laidN {D:Addr}{m:Str->Option Value}{vs:List Value}{c:Nat}{ys:List V} (I:Inv X pins σ H s) (F:Fr X.base X.env.locals s.heap m) (F':Fr X.base X.env.locals h' m)
   (N':News X.base X.env.locals h' ((D,PySem.W.listOf vs.toArray c)::qej X.base s.heap X.env.locals)) (hD:∀ q∈qej X.base s.heap X.env.locals,q.1 < D) (r:Vals ys vs) (hz:ys.length≤sizeLine) :
   H D=none∧Inv X pins σ (upd H D (.lst ys)) { s with heap:=h' }:=by
 obtain⟨e1,e2,e3⟩:=N' _ (.head _)
 have free:s.heap.get? D=none:=by
   cases q:s.heap.get? D with
   | none=>rfl
   | some o=>exact absurd (hD _ (qbw q e2 e3)) (Nat.lt_irrefl _)
 have kp:∀ b u,b≠X.env.locals->s.heap.get? b=some u->h'.get? b=some u:=fun b u ne q=>by
   cases z:X.base.get? b with
   | some o =>
     have:=I.bk b o z
     rw[q]at this;cases this;exact F'.keep b _ z
   | none=>exact(N' _ (List.mem_cons_of_mem _ (qbw q ne z))).1
 refine⟨I.unlaid free,I.laidL (t':=s.toks) kp (fun m' hm=>?_) free ⟨hz,vs,c,r,?_⟩⟩
 · rw[qkD hm F.ns];exact F'.ns
 · exact e1
end
def ZQ:List Int->List Int->Bool
 | a::as,b::bs=>if a=b then ZQ as bs else decide (a < b)
 | _,_=>false
theorem qdD:∀ as bs,ZQ as bs=true->ZQ bs as=false
 | [],_,h=>by simp[ZQ]at h
 | _::_,[],h=>by simp[ZQ]at h
 | a::as,b::bs,h=>by
   unfold ZQ at h ⊢;by_cases e:a=b
   · rw[if_pos e]at h;rw[if_pos e.symm];exact qdD as bs h
   · rw[if_neg e]at h;rw[if_neg fun z=>e z.symm]
     have:=of_decide_eq_true h
     exact decide_eq_false (by omega)
theorem qeO:∀ {as bs cs:List Int},as.length=bs.length->bs.length=cs.length->ZQ as bs=false->ZQ bs cs=false->ZQ as cs=false
 | [],_,_,_,_,_,_=>rfl
 | _::_,[],_,h,_,_,_=>by simp at h
 | _::_,_::_,[],_,h,_,_=>by simp at h
 | a::as,b::bs,c::cs,h1,h2,x,y=>by
   unfold ZQ at x y ⊢;by_cases e1:a=b
   · subst e1;rw[if_pos rfl]at x;by_cases e2:a=c
     · subst e2;rw[if_pos rfl]at y ⊢;exact qeO (by simpa using h1) (by simpa using h2) x y
     · rw[if_neg e2]at y ⊢;exact y
   · rw[if_neg e1]at x;have x':=of_decide_eq_false x;by_cases e2:b=c
     · subst e2;rw[if_neg e1];exact x
     · rw[if_neg e2]at y;have y':=of_decide_eq_false y;rw[if_neg (by omega)];exact decide_eq_false (by omega)
section
variable {prog:Program}{w:World}{A:Around}{s:Shared}
theorem qiD {b:Bool}{Q:Bool->Shared->Prop}:∀ {as bs:List Int}{us vs:List Value}{i:Nat},Vals (as.map V.int) us->Vals (bs.map V.int) vs->as.length=bs.length->Q (ZQ as bs) s->PySem.W.KatLex prog w A b false Q (us.zip vs) i s
 | [],[],_,_,_,.nil,.nil,_,h=>PySem.W.kat_nil h
 | [],_::_,_,_,_,_,_,e,_=>by simp at e
 | _::_,[],_,_,_,_,_,e,_=>by simp at e
 | a::as,c::cs,_,_,i,.cons r1 t1,.cons r2 t2,e,h=>by
   obtain⟨x,rfl⟩:=(show ∃ t,_=Value.int a t from r1)
   obtain⟨y,rfl⟩:=(show ∃ t,_=Value.int c t from r2)
   refine PySem.W.kat_cons (wpAny_eqBool_int ?_);unfold ZQ at h;by_cases z:a=c
   · rw[if_pos z]at h;rw[show (a == c)=true by rw[z];exact beq_self_eq_true c];exact PySem.W.kat_yes (qiD t1 t2 (by simpa using e) h)
   · rw[if_neg z]at h;rw[show (a == c)=false by exact beq_eq_false_iff_ne.mpr z];refine PySem.W.kat_no ?_
     cases (b && i == 0) with
     | true=>exact oneLt_int h
     | false=>exact PySem.W.kat_one _ _ (wpAny_lt_int h)
end
structure TupI (H:Hp) (zs:List V) (rs:List (List Int)):Prop where
 len:zs.length=rs.length
 at_:∀ (i:Nat) (z:V) (r:List Int),zs[i]?=some z->rs[i]?=some r->∃ t,z=.ref t∧H t=some (.tup (r.map V.int))
def ltI (k:Nat) (rs:List (List Int)) (i j:Nat):Bool:=ZQ (rs.getD i (List.replicate k 0)) (rs.getD j (List.replicate k 0))
theorem ZZ {k:Nat}{rs:List (List Int)} (h:∀ r∈rs,r.length=k) (i:Nat):(rs.getD i (List.replicate k 0)).length=k:=by
 rw[List.getD_eq_getElem?_getD]
 cases e:rs[i]? with
 | none=>exact List.length_replicate
 | some r=>exact h r (List.mem_of_getElem? e)
theorem qgp {k:Nat}{rs:List (List Int)} (h:∀ r∈rs,r.length=k):Srt.Ord (ltI k rs) :=
 ⟨fun a b c x y=>qeO ((ZZ h c).trans (ZZ h b).symm) ((ZZ h b).trans (ZZ h a).symm) y x,fun a b=>qdD _ _⟩
section
variable {X:Cx}{pins:List (Addr×Obj)}{σ:List (Option V)}{H:Hp}{s:Shared}
theorem Inv.tupI {t:Addr}{r:List Int} (I:Inv X pins σ H s) (h:H t=some (.tup (r.map V.int))):∃ (o:Obj) (us:List Value) (n:Nat),Vals (r.map V.int) us∧s.heap.get? t=some o∧o.cls=.type "tuple"∧o.data=.seq us.toArray n:=by
 obtain⟨_,its,rv,o,e,c,n,d⟩:=I.hok t _ h;exact⟨o,its,n,rv,e,c,d⟩
theorem Inv.kpN {h':Heap}{m:Str->Option Value}{x:Addr×Obj} (I:Inv X pins σ H s) (F':Fr X.base X.env.locals h' m) (N':News X.base X.env.locals h' (x::qej X.base s.heap X.env.locals)) :
   ∀ b u,b≠X.env.locals->s.heap.get? b=some u->h'.get? b=some u:=fun b u ne q=>by
 cases z:X.base.get? b with
 | some o =>
   have:=I.bk b o z
   rw[q]at this;cases this;exact F'.keep b _ z
 | none=>exact(N' _ (List.mem_cons_of_mem _ (qbw q ne z))).1
end
theorem TupI.tail {H:Hp}{z:V}{zs:List V}{r:List Int}{rs:List (List Int)} (h:TupI H (z::zs) (r::rs)):TupI H zs rs :=
 ⟨by have:=h.len;simpa using this,fun i z' r' e1 e2=>h.at_ (i+1) z' r' (by simpa using e1) (by simpa using e2)⟩
inductive qhd (h:Heap) (v:Value) (r:List Int):Prop
 | mk (t:Addr) (o:Obj) (us:List Value) (n:Nat) (h1:v=.ref t) (h2:Vals (r.map V.int) us) (h3:h.get? t=some o) (h4:o.cls=.type "tuple") (h5:o.data=.seq us.toArray n):qhd h v r
def qk0 (h:Heap) (v:Value) (r:List Int):Prop:=qhd h v r
theorem qeo {h:Heap}:∀ {vs:List Value}{rs:List (List Int)},Paired (qk0 h) vs rs->(∀ r∈rs,0 < r.length)->∃ fs,PySem.W.KatTups h vs fs∧fs.length=vs.length∧∀ v∈fs,∃ i t,v=Value.int i t
 | _,_,.nil,_=>⟨[],.nil,rfl,fun _ z=>nomatch z⟩
 | _,r::rs,.cons ⟨t,o,us,n,e,rv,ho,hc,hd⟩ q,k=>by
   obtain⟨fs,k1,k2,k3⟩:=qeo q fun r hr=>k r (List.mem_cons_of_mem _ hr);subst e;have pos:=k r List.mem_cons_self
   match r,us,rv,pos with
   | a::r,_,.cons ra rt,_ =>
     obtain⟨tk,rfl⟩:=(show ∃ t,_=Value.int a t from ra)
     refine⟨_::fs,.cons ho hc hd (by simp;rfl) k1,by simp[k2],fun v hv=>?_⟩;rcases List.mem_cons.mp hv with rfl|hv
     · exact⟨_,_,rfl⟩
     · exact k3 v hv
theorem ZW {α β:Type}{F:α->β->Prop}:∀ {xs:List α}{ys:List β}{i:Nat}{d:α}{e:β},Paired F xs ys->i < xs.length->F (xs.getD i d) (ys.getD i e)
 | _,_,_,_,_,.nil,h=>by simp at h
 | _,_,0,_,_,.cons r _,_=>by simpa using r
 | _,_,i+1,_,_,.cons _ t,h=>by
   simp only[List.getD_cons_succ];exact ZW t (by simpa using h)
theorem qb8 {α β:Type}{F:α->β->Prop}{xs:List α}{ys:List β}{d:α}{e:β} (r:Paired F xs ys):∀ {is:List Nat},(∀ i∈is,i < xs.length)->Paired F (is.map fun i=>xs.getD i d) (is.map fun i=>ys.getD i e)
 | [],_=>.nil
 | i::is,h=>.cons (ZW r (h i List.mem_cons_self)) (qb8 r fun j hj=>h j (List.mem_cons_of_mem _ hj))
theorem qbE {α:Type} (l:List α) (d:α):(List.range l.length).map (fun i=>l.getD i d)=l:=by
 apply List.ext_getElem
 · simp
 · intro i h1 h2;simp[h2]
section
variable {prog:Program}{w:World}{A:Around}{E:Value->Shared->Prop}{s:Shared}
theorem qhs {a:Addr}{vs:List Value}{n:Nat}{P:PySem.Fin->Shared->Prop} (ho:s.heap.get? a=some (seqObj "list" vs.toArray n)) (h2:vs.length < 2)
   (h:∀ c h',(∀ b o,b≠a->s.heap.get? b=some o->h'.get? b=some o)->h'.get? a=some (seqObj "list" vs.toArray c)->P (.done (.ret .none)) { s with heap:=h' }) :
   wpAny (model prog w) A (Builtin.«list.sort» ⟨[.ref a],[]⟩) P E s:=by
 obtain⟨e1,ho1⟩:∃ e1,(s.heap.update a (Obj.mapSeq fun _=>(#[]:Array Value))).get? a=some (seqObj "list" #[] e1):=⟨_,get?_update_seq ho fun _=>#[]⟩
 have s1:=Heap.SameBut.update s.heap a (Obj.mapSeq fun _=>(#[]:Array Value));rw[list_sort_plain];refine wpAny_bind (listItems_at ho rfl ?_);refine wpAny_bind (listUpdate_at ho rfl ?_ (by rw[List.size_toArray,sizeLine_eq];omega) (Nat.zero_le _));refine wpAny_bind (seqEpoch_at ho1 rfl ?_);refine wpAny_bind (wpAny_newTuple ?_ (by show vs.length≤_;rw[sizeLine_eq];omega));refine wpAny_bind (wpAny_newList ?_ (Nat.zero_le _));refine wpAny_holding ?_;dsimp only;have hn2:vs.toArray.size < 2:=by rw[List.size_toArray];omega
 rw[if_pos hn2];refine wpAny_bind (wpAny_pure ?_);rw[if_pos hn2];refine wpAny_bind (wpAny_pure ?_);have ho2:(((s.heap.update a (Obj.mapSeq fun _=>(#[]:Array Value))).push (seqObj "tuple" vs.toArray 0)).push (seqObj "list" #[] 0)).get? a=some (seqObj "list" #[] e1):=Heap.get?_push_of_some _ (Heap.get?_push_of_some _ ho1)
 have hsnd:Array.map (fun x:Keyed=>x.snd) (arrOf (SortSt.mk' general' (vs.toArray.zip vs.toArray) #[] 7 none))=vs.toArray:=by
   show Array.map (fun x:Value×Value=>x.snd) (vs.toArray.zip vs.toArray)=vs.toArray;apply Array.toList_inj.mp;simp only[Array.toList_map,Array.toList_zip];exact List.map_snd_zip (Nat.le_refl _)
 refine wpAny_bind (seqEpoch_at ho2 rfl ?_);dsimp only;rw[hsnd];refine wpAny_bind (listUpdate_at ho2 rfl ?_ (Nat.zero_le _) (by rw[List.size_toArray,sizeLine_eq];omega));show wpAny (model prog w) A (if (e1 != e1)=true then _ else ret Value.none) P E _;rw[if_neg (by simp)];refine wpAny_pure (h _ _ (fun b o hb q=>?_) (get?_update_seq ho2 fun _=>vs.toArray));rw[(Heap.SameBut.update _ a _).2 b hb];exact Heap.get?_push_of_some _ (Heap.get?_push_of_some _ ((s1.2 b hb).trans q))
theorem qe1 {l:Addr}{vs:List Value}{Q:Value->Shared->Prop} (hl:s.heap.IsList l vs.toArray) (h2:vs.length < 2)
   (h:∀ D c h',s.heap.get? D=none->(∀ b o,s.heap.get? b=some o->h'.get? b=some o)->h'.get? D=some (seqObj "list" vs.toArray c)->Q (.ref D) { s with heap:=h' }) :
   wpAny (model prog w) A (call (.builtin "sorted") [.ref l]) Q E s:=by
 refine Calls.call_function_entry kind_sorted plain_sorted entry_sorted (args_sorted1 _) ?_;unfold Builtin.«sorted»;refine wpAny_bind (m:=checkCount "sorted" 1 1 _) (wpAny_pure ?_);refine wpAny_bind (collect_list hl ?_ (by rw[sizeLine_eq];omega));refine wpAny_bind (wpAny_newList ?_ (by rw[sizeLine_eq];omega))
 have hsz:((s.heap.push (seqObj "list" #[] 0)).update s.heap.objs.size (Obj.mapSeq (·++vs.toArray))).objs.size=s.heap.objs.size+1:=by
   rw[Heap.size_update,size_push']
 have hoL:(((s.heap.push (seqObj "list" #[] 0)).update s.heap.objs.size (Obj.mapSeq (·++vs.toArray))).push (seqObj "list" vs.toArray 0)).get? (s.heap.objs.size+1)=some (seqObj "list" vs.toArray 0):=by
   rw[← hsz];exact Heap.get?_push_size _ rfl
 have keep:∀ b o,s.heap.get? b=some o->(((s.heap.push (seqObj "list" #[] 0)).update s.heap.objs.size (Obj.mapSeq (·++vs.toArray))).push (seqObj "list" vs.toArray 0)).get? b=some o:=fun b o q=>by
   have hlt:b < s.heap.objs.size:=Heap.lt_size q;rw[Heap.get?_push_ne _ _ _ (by rw[hsz];exact Nat.ne_of_lt (Nat.lt_succ_of_lt hlt)),Heap.get?_update_ne _ _ _ _ (Nat.ne_of_lt hlt),Heap.get?_push_ne _ _ _ (Nat.ne_of_lt hlt)];exact q
 show wpAny _ _ _ _ _ { s with heap:=((s.heap.push (seqObj "list" #[] 0)).update s.heap.objs.size (Obj.mapSeq (·++vs.toArray))).push (seqObj "list" vs.toArray 0) };rw[hsz];refine wpAny_bind (wpAny_holding (wpAny_call_entry slot_list_sort ⟨_,hoL,rfl⟩ entry_list_sort ?body (args_list_sort _)))
 case body =>
   refine qhs (s:={ s with heap:=((s.heap.push (seqObj "list" #[] 0)).update s.heap.objs.size (Obj.mapSeq (·++vs.toArray))).push (seqObj "list" vs.toArray 0) }) hoL h2 fun c h' k e=>?_;exact⟨_,rfl,wpAny_pure ⟨_,rfl,h (s.heap.objs.size+1) c h' (Heap.get?_none_of_le (Nat.le_succ _)) (fun b o q=>k b o (Nat.ne_of_lt (Nat.lt_succ_of_lt (Heap.lt_size q))) (keep b o q)) e⟩⟩
end
inductive qeD (K:Frag) (xs:List V) (H:Hp) (Q:VK):Prop
 | mk (l:Addr) (zs:List V) (rs:List (List Int)) (k:Nat) (h1:xs=[.ref l]) (h2:SqL K H l zs) (h3:TupI H zs rs) (h4:(∀ r∈rs,r.length=k)) (h5:0 < k) (h6:zs.length < 64) (h7:∀ (p:Addr) (zs':List V) (rs':List (List Int)),H p=none->rs'.Perm rs->TupI H zs' rs'->rs'.Pairwise (fun a b=>ZQ b a=false)->Q (.ref p) (upd H p (.lst zs'))):qeD K xs H Q
def qkg (K:Frag):List V->Hp->VK->Prop:=fun xs H Q=>qeD K xs H Q
theorem qfH {X:Cx}{pins:List (Addr×Obj)}{σ:List (Option V)}{H:Hp}{s:Shared}{h':Heap} (I:Inv X pins σ H s) (kp:∀ b u,b≠X.env.locals->s.heap.get? b=some u->h'.get? b=some u) :
   ∀ {zs:List V}{rs:List (List Int)}{vs:List Value},TupI H zs rs->Vals zs vs->Paired (qk0 h') vs rs
 | [],rs,_,h,.nil=>by
   have:rs=[]:=List.eq_nil_of_length_eq_zero h.len.symm
   subst this;exact .nil
 | z::zs,[],_,h,_=>by have:=h.len;simp at this
 | z::zs,r::rs,_,h,.cons r1 t1=>by
   refine .cons ?_ (qfH I kp h.tail t1);obtain⟨t,rfl,ht⟩:=h.at_ 0 z r rfl rfl;obtain⟨o,us,n,rv,e,c,d⟩:=I.tupI ht;exact⟨t,o,us,n,r1,rv,kp t o (fun q=>by rw[q,I.free]at ht;cases ht) e,c,d⟩
theorem qfG {H:Hp}{zs:List V}{rs:List (List Int)}{d:V}{e:List Int} (h:TupI H zs rs) {is:List Nat} (hi:∀ i∈is,i < zs.length):TupI H (is.map fun i=>zs.getD i d) (is.map fun i=>rs.getD i e):=by
 refine⟨by rw[List.length_map,List.length_map],fun j z r e1 e2=>?_⟩;rw[List.getElem?_map]at e1 e2
 cases q:is[j]? with
 | none=>rw[q]at e1;cases e1
 | some i =>
   rw[q]at e1 e2;have lt:=hi i (List.mem_of_getElem? q);have lt2:i < rs.length:=by rw[← h.len];exact lt
   have z1:zs.getD i d=z:=Option.some.inj e1;have r1:rs.getD i e=r:=Option.some.inj e2;rw[List.getD_eq_getElem?_getD,List.getElem?_eq_getElem lt]at z1;rw[List.getD_eq_getElem?_getD,List.getElem?_eq_getElem lt2]at r1;exact h.at_ i z r (by rw[List.getElem?_eq_getElem lt];exact congrArg some z1) (by rw[List.getElem?_eq_getElem lt2];exact congrArg some r1)
section
variable {X:Cx}
theorem qfj:Zg X (.builtin "sorted") (qkg X.K):=by
 intro pins s σ H xs us Q I r h;obtain⟨l,zs,rs,k,rfl,hq,tp,hk,k0,h64,q⟩:=h;obtain⟨u,rfl,ru⟩:=qau r;cases (show u=Value.ref l from ru);obtain⟨its,rv,p,hz⟩:=I.list hq;have hlen:=rv.length;by_cases h2:its.length < 2
 · refine qe1 p.isList h2 fun D c h' free kp e=>?_;have I':Inv X pins σ (upd H D (.lst zs)) { s with heap:=h' }:=I.laidL (t':=s.toks) (fun b u _ z=>kp b u z) (fun m ⟨o,es,ep,ho,r⟩=>⟨o,es,ep,kp _ _ ho,r⟩) free ⟨hz,its,c,rv,e⟩;refine⟨.ref D,_,I',rfl,q D zs rs (I.unlaid free) (List.Perm.refl _) tp ?_⟩;have l2:rs.length < 2:=by rw[← tp.len,hlen];exact h2
   match rs,l2 with
   | [],_=>exact .nil
   | [r],_=>exact List.pairwise_singleton _ _
   | _::_::_,l2=>simp at l2;omega
 · obtain⟨m,F⟩:=I.fr;refine PySem.W.kat_sorted F (qfm X.base s.heap X.env.locals) p.isList (by omega) (by omega) fun D e1 h' F' N' hD=>?_;have kp:=I.kpN F' N';have pa:=qfH I kp tp rv;obtain⟨fs,t1,t2,t3⟩:=qeo pa fun r hr=>by rw[hk r hr];exact k0
   refine PySem.W.kat_kind (T:=.type "int") t1 (by omega) (fun v hv=>?_) rfl ?_
   · obtain⟨i,t,rfl⟩:=t3 v hv;exact PySem.W.Looks.of_pure rfl
   refine Srt.RunP.wp (fun i j C hi hj hC=>?_) (fun a ha=>?_) (Srt.sort_ok (n:=its.length) (qgp hk) (by omega))
   · obtain⟨x,ox,ux,nx,ex,rx,hx,cx,dx⟩:=ZW (d:=Value.none) (e:=List.replicate k 0) pa hi;obtain⟨y,oy,uy,ny,ey,ry,hy,cy,dy⟩:=ZW (d:=Value.none) (e:=List.replicate k 0) pa hj;unfold PySem.W.kas_ask;rw[ex,ey];refine PySem.W.kat_lt hx dx hy dy ?_;have lx:=ZZ hk i;have ly:=ZZ hk j;have e1':=rx.length;have e2':=ry.length;rw[List.length_map]at e1' e2';rw[show decide (ux.toArray.size < uy.toArray.size)=false from decide_eq_false (by rw[List.size_toArray,List.size_toArray];omega)];exact qiD rx ry (by omega) hC
   · obtain⟨hp,up⟩:=ha
     have pl:a.toList.Perm (List.range its.length):=by
       have:=Array.perm_iff_toList_perm.mp hp
       simpa using this
     have inR:∀ i∈a.toList,i < zs.length:=fun i hi=>by rw[hlen];exact List.mem_range.mp (pl.mem_iff.mp hi)
     refine PySem.W.KasFin.intro F' N' (.head fun q hq=>Nat.ne_of_lt (hD q hq)) fun h2 c F2 N2=>?_;have rv2:Vals (a.toList.map fun i=>zs.getD i .non) (a.toList.map fun i=>its.getD i Value.none):=qb8 rv inR;obtain⟨hn,I'⟩:=I.laidN F F2 N2 hD rv2 (by rw[List.length_map,pl.length_eq,List.length_range,← hlen];exact hz);refine⟨.ref D,_,I',rfl,q D _ (a.toList.map fun i=>rs.getD i (List.replicate k 0)) hn ?_ (qfG tp inR) ?_⟩
     · have:=pl.map fun i=>rs.getD i (List.replicate k 0)
       rw[← hlen,tp.len,qbE]at this;exact this
     · have sz:a.size=its.length:=by
         have:=pl.length_eq
         rw[Array.length_toList,List.length_range]at this;exact this
       refine List.pairwise_iff_getElem.mpr fun i j hi hj lt=>?_;have hj':j < a.size:=by simpa using hj
       have hi':i < a.size:=by omega
       have:=Srt.Up.le (qgp hk) up (x:=i) (j - i) (by omega)
       rw[show i+(j - i)=j by omega]at this;simp only[List.getElem_map,Array.getElem_toList];simp only[ltI,Array.getD_eq_getD_getElem?,Array.getElem?_eq_getElem hj',Array.getElem?_eq_getElem hi',Option.getD_some]at this;exact this
end
theorem qdW:∀ {xs:List V}{us:List Value},us.length=xs.length->(∀ (i:Nat) (x:V) (u:Value),xs[i]?=some x->us[i]?=some u->RelV x u)->Vals xs us
 | [],[],_,_=>.nil
 | [],_::_,h,_=>by cases h
 | _::_,[],h,_=>by cases h
 | x::xs,u::us,h,r=>.cons (r 0 x u rfl rfl) (qdW (Nat.succ.inj h) fun i y v e1 e2=>r (i+1) y v e1 e2)
theorem qgv {k:Key}{v:Value} (h:qeb k v=true):RelV (kV k) v:=by
 rcases ze h with ⟨i,t,rfl,rfl⟩|⟨x,t,rfl,rfl⟩
 · exact⟨t,rfl⟩
 · exact⟨t,rfl⟩
theorem qgu:∀ {kvs:List (Key×V)}{vs:List (Key×Value)},KV kvs vs->∀ {i:Nat}{k:Key}{x:Value},vs[i]?=some (k,x)->∃ y,kvs[i]?=some (k,y)∧RelV y x
 | _,_,.nil,i,k,x,e=>by cases e
 | _,_,.cons (a:=a) (b:=b) r t,i,k,x,e=>by
   cases i with
   | zero =>
     cases e;exact⟨a.2,by rw[List.getElem?_cons_zero];obtain⟨a1,a2⟩:=a;have:=r.1;simp at this;rw[this],r.2⟩
   | succ i=>exact qgu t e
theorem qeP:∀ {kvs:List (Key×V)}{vs:List (Key×Value)},KV kvs vs->vs.length=kvs.length
 | _,_,.nil=>rfl
 | _,_,.cons _ t=>by rw[List.length_cons,List.length_cons,qeP t]
section
variable {X:Cx}
def qiv:List V->Hp->VK->Prop:=fun xs H Q=>∃ a kvs,xs=[V.ref a]∧Rd H a (.dK kvs)∧∀ l,H l=none->Q (.ref l) (upd H l (.lst (kvs.map fun p=>kV p.1)))
theorem qfl (hc:X.calm=true):Zg X (.type "list") qiv:=by
 intro pins s σ H xs us Q I r h;obtain⟨a,kvs,rfl,hq,q⟩:=h;obtain⟨u,rfl,ru⟩:=qau r;cases ru;obtain⟨hz,hS,vs,rel,o,es,ep,e,x,d,k,p,n⟩:=qcV I.hok hq;have D:s.heap.DictAt (zj X.prog X.w) a vs ep:=⟨o,es,e,x,d,k,p,n⟩
 refine PySem.W.kdl_call (kdl_dict (knd:=zj X.prog X.w) (kvs:=vs) (ep:=ep) hS) (I.ok.hd hc) D (by rw[qeP rel];exact hz) fun h' tk acc' c' kp e' it=>?_;obtain⟨al,ag⟩:=it
 have rv:Vals (kvs.map fun p=>kV p.1) acc'.toList:=by
   refine qdW (by rw[Array.length_toList,al,List.length_map,qeP rel]) fun i y v e1 e2=>?_;obtain⟨k',x',e3,e4⟩:=ag i v (by rw[← Array.getElem?_toList];exact e2);obtain⟨y',e5,_⟩:=qgu rel e3;rw[List.getElem?_map,e5]at e1;cases e1;exact qgv e4
 refine⟨.ref s.heap.objs.size,_,I.laid (t':=tk) kp (Nat.le_refl _) (show ObjOk X.prog X.w _ h' _ (.lst _) from ⟨by rw[List.length_map];exact hz,acc'.toList,c',rv,?_⟩),rfl,q _ (I.hok.fresh (Nat.le_refl _))⟩;rw[Array.toArray_toList];exact e'
theorem qet:∀ {ss:List Str}{vs:List Value},Vals (ss.map V.str) vs->StrsAre vs ss
 | [],_,.nil=>.nil
 | n::ns,_,.cons r t=>by
   obtain⟨tk,rfl⟩:=(show ∃ t,_=Value.str n t from r)
   exact .cons n tk (qet t)
theorem qc4:∀ {ss:List Str}{vs:List Value},StrsAre vs ss->Vals (ss.map V.str) vs
 | _,_,.nil=>.nil
 | _,_,.cons n t r=>.cons ⟨t,rfl⟩ (qc4 r)
def qis:List V->Hp->VK->Prop:=fun xs H Q=>∃ (a:Addr) (kvs:List (Str×V)),xs=[V.ref a]∧Rd H a (.dK (kvs.map fun p=>(.inr p.1,p.2)))∧kvs.length < 64∧∀ (p:Addr) (ss':List Str),H p=none->ss'.Perm (kvs.map (·.1))->sortedS ss'=true->Q (.ref p) (upd H p (.lst (ss'.map V.str)))
theorem qfk (hc:X.calm=true):Zg X (.builtin "sorted") qis:=by
 intro pins s σ H xs us Q I r h;obtain⟨a,kvs,rfl,hq,h64,q⟩:=h;obtain⟨u,rfl,ru⟩:=qau r;cases ru;obtain⟨hz,hS,vs,rel,o,es,ep,e,x,d,k,p,n⟩:=qcV I.hok hq;have D:s.heap.DictAt (zj X.prog X.w) a vs ep:=⟨o,es,e,x,d,k,p,n⟩
 have ln:vs.length=kvs.length:=by rw[qeP rel,List.length_map]
 refine Calls.call_function_entry kind_sorted plain_sorted entry_sorted (args_sorted1 _) ?_;unfold Builtin.«sorted»;refine wpAny_bind (m:=checkCount "sorted" 1 1 _) (wpAny_pure ?_);refine wpAny_bind (PySem.W.kdu_collect (A:=X.A.in1) (kdl_dict (knd:=zj X.prog X.w) (kvs:=vs) (ep:=ep) hS) (I.ok.hd hc) D (by rw[ln,sizeLine_eq];omega) fun h' tk acc hk it=>?_);obtain⟨al,ag⟩:=it
 have rv:Vals ((kvs.map (·.1)).map V.str) acc.toList:=by
   refine qdW (by rw[Array.length_toList,al,List.length_map,List.length_map,ln]) fun i y v e1 e2=>?_;obtain⟨k',x',e3,e4⟩:=ag i v (by rw[← Array.getElem?_toList];exact e2);obtain⟨y',e5,_⟩:=qgu rel e3;rw[List.getElem?_map]at e5;rw[List.getElem?_map,List.getElem?_map]at e1
   cases z:kvs[i]? with
   | none=>rw[z]at e1;cases e1
   | some w' =>
     rw[z]at e1 e5;cases e1;cases e5;exact qgv (k:=.inr w'.1) e4
 have hA:=qet rv;have hl:acc.toList.length < 64:=by rw[Array.length_toList,al,ln];exact h64
 refine wpAny_bind (wpAny_newList ?_ (by rw[sizeLine_eq];omega));have hoL:(h'.push (seqObj "list" acc.toList.toArray 0)).get? h'.objs.size=some (seqObj "list" acc.toList.toArray 0):=Heap.get?_push_size _ rfl;refine wpAny_bind (wpAny_holding (wpAny_call_entry slot_list_sort ⟨_,hoL,rfl⟩ entry_list_sort (list_sort_treeK strKind_oneLt hoL hA.keysOf (fun v₁ v₂ rest e=>keyKind_strs (by rw[← e];exact hA)) hl fun st' a1 a2=>⟨_,rfl,?_⟩) (args_list_sort _)));refine wpAny_pure ⟨_,rfl,?_⟩;obtain⟨ss',b1,b2,b3⟩:=sorted_out_str hA a1 a2;obtain⟨e',he⟩:=sortedHeap_at (out:=(arrOf st').map (·.2)) hoL
 have free:s.heap.get? h'.objs.size=none:=by
   cases z:s.heap.get? h'.objs.size with
   | none=>rfl
   | some o=>exact absurd (Heap.lt_size (hk _ _ z)) (Nat.lt_irrefl _)
 have kp:∀ b u,s.heap.get? b=some u->(sortedHeap (h'.push (seqObj "list" acc.toList.toArray 0)) h'.objs.size acc.toList ((arrOf st').map (·.2))).get? b=some u:=fun b u z=>by
   have z':=hk _ _ z;have lt:=Heap.lt_size z';rw[sortedHeap_old (Nat.ne_of_lt lt) (Nat.lt_of_lt_of_eq (Nat.lt_succ_of_lt lt) (Heap.size_push ..).symm)];exact Heap.get?_push_of_some _ z'
 have I':Inv X pins σ (upd H h'.objs.size (.lst (ss'.map V.str))) { s with heap:=_,toks:=tk }:=I.laidL (t':=tk) (fun b u _ z=>kp b u z) (fun m ⟨o,es,ep,ho,r⟩=>⟨o,es,ep,kp _ _ ho,r⟩) free ⟨by rw[List.length_map,b2.length_eq,List.length_map,sizeLine_eq];omega,_,e',qc4 b1,(by rw[Array.toArray_toList];exact he)⟩;exact⟨.ref _,_,I',rfl,q _ ss' (I.unlaid free) b2 b3⟩
def qkl (K:Frag):List V->Hp->VK->Prop:=fun xs H Q=>∃ x C t b,xs=[x,V.ref C]∧qdU K H x t∧kitOne K t (.ref C)=some b∧Q (.bl b) H
theorem qas:Zg X (.builtin "isinstance") (qkl X.K):=by
 intro pins s σ H xs us Q I r h;obtain⟨x,C,t,b,rfl,ht,hk,q⟩:=h;obtain⟨u,w',rfl,ru,rw'⟩:=qc0 r;cases (show w'=Value.ref C from rw');exact qdJ I ru ht hk fun tk=>⟨.bl _,H,I.tok tk,rfl,q⟩
theorem zP {K:Frag}{C D:Addr}{l:List (Option Addr)} (m:XMro K C l) (hl:l.head?=some (some C)) (d:qfq K D):kitOne K (.ref C) (.ref D)=some (l.contains (some D)):=by
 have e:=qhm m (by intro z;rw[z]at hl;cases hl) d;unfold kitOne;split
 · rename_i z
   have z':C=D:=Value.ref.inj (eq_of_beq z);subst z';congr 1
   cases l with
   | nil=>cases hl
   | cons x r=>rw[List.head?_cons]at hl;cases hl;simp
 · obtain⟨cd,h1,h2⟩:=m;unfold PySem.W.kitCls;have d1:(clsIn K D).isSome=true:=d.1;simp only[d.2,d1];simp only[zh,d.2,d1]at e;simpa using e
theorem PE.or {e:Expr}{t u:TE} (h:PE X e t) (h':PE X e u):PE X e (fun σ H Q=>t σ H Q∨u σ H Q):=fun pins s σ H Q I q=>q.elim (h pins s σ H Q I) (h' pins s σ H Q I)
def qmm:R2:=fun x y H Q=>∃ a o,y=.ref a∧qfp H a x o∧Q (.bl o.isSome) H
theorem qiC (hu:X.A.units+1 < cLine):OpR X (compareOp .In) qmm:=by
 intro pins s σ H x y v u Q I rx ry h;obtain⟨a,o,rfl,g,q⟩:=h;cases ry;exact qmu hu I g rx fun s' I'=>⟨.bl _,H,I',rfl,q⟩
def qjc:R2:=fun x y H Q=>∃ a o,y=.ref a∧qfp H a x o∧Q (.bl (!o.isSome)) H
theorem qdv (hu:X.A.units+1 < cLine):OpR X (compareOp .NotIn) qjc:=by
 intro pins s σ H x y v u Q I rx ry h;obtain⟨a,o,rfl,g,q⟩:=h;cases ry;exact qjI hu I g rx fun s' I'=>⟨.bl _,H,I',rfl,q⟩
end
section
variable {X:Cx}{tg:Expr}
structure InsF (K:Frag) (C:Addr):Prop where
 cl:Cls K C
 ha:PySem.W.findIn K (.ref C) "__class__"=some (some (.builtin "object.__class__"))
 hn:PySem.W.specialIn K (.builtin "object.__class__") "__get__"=some (some (.builtin "getset_descriptor.__get__"))
 htk:PySem.W.takesIn K (.builtin "object.__class__")=some true
 hm:mroIn K C (.type "object")=some true
theorem InsF.ty {K:Frag}{H:Hp}{a C dx:Addr}{fs:List (Str×V)} (i:InsF K C) (e:H a=some (.ins C dx fs)):qdU K H (.ref a) (.ref C):=.ins e i.cl i.ha i.hn i.htk i.hm
end
section
variable {prog:Program}{w:World}{A:Around}{E:Value->Shared->Prop}{s:Shared}{K:Frag}{C x:Addr}{ox:Obj}{od:Option Obj}
abbrev XP (K:Frag) (C x:Addr) (ox:Obj) (od:Option Obj):Shared->Prop:=fun s=>K.In s.heap∧InstAt s.heap x ox C od
theorem qfw (c:XC K C) {D:Addr}{b:Bool} (hi:zh K C (.ref D)=some b):Answers (XP K C x ox od) (.ref x) (.ref D) b:=by
 intro dep tk prog w A R s hs;simp only[zh]at hi;split at hi
 · rename_i hq
   simp only[Bool.and_eq_true,beq_iff_eq]at hq;obtain⟨q1,q2⟩:=hq;refine qel hs.1.1 hs.1.2 c c.gt c.tk (b:=b) (PySem.W.looks_typeIn hs.1.1 q2) ?_ (fun z=>?_) (PySem.W.looks_subIn hs.1.1 hi) hs.2
   · unfold clsIn at q1;split at q1
     · rename_i c' d' cd' sl' ho
       intro A' Q' E' s' k q;unfold isType loadHead;exact wpAny_bind (wpAny_loadPart (k _ _ (hs.1.1 _ _ ho)) (wpAny_pure q))
     · cases q1
   · have z':C=D:=Value.ref.inj (beq_iff_eq.mp z);subst z';obtain⟨cd,bm,hcd,hmro,_,_⟩:=xcd c.xi
     have e2:mroIn K C (.ref C)=some true:=by
       unfold mroIn;rw[hcd,Option.bind_some,hmro,if_neg (by simp)];simp
     have e3:PySem.W.subIn K (.ref C) (.ref C)=some true:=e2;rw[e3]at hi;exact(Option.some.inj hi).symm
 · cases hi
theorem qfr {tp:Addr}{ob:Obj}{n:Nat}{cs:List Value}{vs:List Bool}{tk:Tok}{Q:Fin->Shared->Prop} (X:K.In s.heap) (I:InstAt s.heap x ox C od) (hne:C≠tp) (ht:s.heap.get? tp=some ob) (hc:ob.cls=.type "tuple") (hd:ob.data=.seq cs.toArray n)
   (ha:AnswersAll (XP K C x ox od) (.ref x) cs vs) (h:∀ t,Q (.done (.ret (.bool (vs.any id)))) { s with toks:=t }) :
   wpAny (model prog w) A (Builtin.«isinstance.nested» ⟨[.ref x,.ref tp,.int 0 tk],[]⟩) Q E s:=by
 obtain⟨h0,g,d,tt,os⟩:=s;have L0:=I.type (M:=model prog w);have hT:Shared.TypeIs { heap:=h0,gens:=g,drawn:=d,toks:=tt,os:=os } (.ref tp) "tuple":=⟨ob,ht,hc⟩
 unfold Builtin.«isinstance.nested»;refine wpAny_bind (L0.at ?_);rw[if_neg (by intro z;exact hne (Value.ref.inj (beq_iff_eq.mp z)))];refine wpAny_bind (wpAny_typeOf hT ?_);rw[if_neg (by decide)];refine wpAny_bind ?_;unfold Builtin.Builtins.unionMembers;refine wpAny_bind (wpAny_typeOf hT ?_);rw[if_neg (by decide)];refine wpAny_pure ?_;refine wpAny_bind (wpAny_isInstance hT F.isi_sub_tuple ?_);simp only[if_true];rw[if_neg (by decide)];refine wpAny_bind (wpAny_seqItems (s:={ heap:=h0,gens:=g,drawn:=d,toks:=tt,os:=os }) ht hd ?_);refine wpAny_bind ?_;refine wpAny_arrayLoop ?_;refine isinstance_items (P:=XP K C x ox od) (fun s tk h=>h) cs vs _ _ ha ⟨X,I⟩ fun tk'=>?_
 cases hv:vs.any id with
 | true=>simp only[if_true];rw[hv]at h;exact wpAny_pure (h _)
 | false=>simp only[Bool.false_eq_true,if_false];rw[hv]at h;exact wpAny_pure (h _)
theorem qjU {tp:Addr}{ob:Obj}{n:Nat}{cs:List Value}{vs:List Bool}{Q:Value->Shared->Prop} (X:K.In s.heap) (I:InstAt s.heap x ox C od) (hne:C≠tp) (ht:s.heap.get? tp=some ob) (hc:ob.cls=.type "tuple") (hd:ob.data=.seq cs.toArray n)
   (ha:AnswersAll (XP K C x ox od) (.ref x) cs vs) (h:∀ t,Q (.bool (vs.any id)) { s with toks:=t }) :
   wpAny (model prog w) A (call (.builtin "isinstance") [.ref x,.ref tp]) Q E s :=
 call_isinstance (S:=fun _ R s=>(K.In s.heap∧InstAt s.heap x ox C od∧s.heap.get? tp=some ob)∧∀ t,R (.ok (.ret (.bool (vs.any id)))) { s with toks:=t })
   (fun _ _ _ _ _ hs=>isinstance_outer (qfr hs.1.1 hs.1.2.1 hne hs.1.2.2 hc hd ha hs.2) (by intro q;cases q)) ⟨⟨X,I,ht⟩,h⟩
end
section
variable {X:Cx}
theorem qdo:∀ {cs:List Addr}{us:List Value},Vals (cs.map V.ref) us->us=cs.map Value.ref
 | [],_,.nil=>rfl
 | c::cs,_,.cons r t=>by rw[qdo t];cases (show _=Value.ref c from r);rfl
end
theorem qdn:∀ (r:List Str) (x:Str),risingS x r=true->(x::r).Pairwise fun a b=>a.cps.toList≤b.cps.toList
 | [],x,_=>List.pairwise_singleton _ _
 | y::r,x,h=>by
   have h':ltCps y.cps.toList x.cps.toList=false∧risingS y r=true:=by simpa[risingS] using h
   have hxy:x.cps.toList≤y.cps.toList:=fun z=>by
     have:=h'.1
     rw[ltCps_eq]at this;exact(of_decide_eq_false this) z
   have ih:=qdn r y h'.2;refine List.pairwise_cons.mpr ⟨fun z m=>?_,ih⟩;rcases List.mem_cons.mp m with rfl|m
   · exact hxy
   · exact List.le_trans hxy ((List.pairwise_cons.mp ih).1 z m)
theorem qbX {l:List Str} (h:sortedS l=true):l.Pairwise fun a b=>a.cps.toList≤b.cps.toList:=by
 cases l with
 | nil=>exact List.Pairwise.nil
 | cons x r=>exact qdn r x h
theorem qdY {l l':List Str} (p:l.Perm l') (h:sortedS l=true) (h':sortedS l'=true):l=l' :=
 List.Perm.eq_of_pairwise (fun a b _ _ h1 h2=>qi3 (List.le_antisymm h1 h2)) (qbX h) (qbX h') p
def ExcAt (h:Heap) (x:Addr):Prop:=∃ o vs,h.get? x=some o∧o.data=.fields vs∧vs[2]?=some .none
theorem ExcAt.lt {h:Heap}{x:Addr} (e:ExcAt h x):x < h.objs.size:=let ⟨_,_,e,_⟩:=e;Heap.lt_size e
theorem ExcAt.at_ {h h':Heap}{x:Addr} (e:ExcAt h x) (k:∀ o,h.get? x=some o->h'.get? x=some o):ExcAt h' x:=let ⟨o,vs,e,d⟩:=e;⟨o,vs,k o e,d⟩
section
variable {prog:Program}{w:World}{A:Around}{E:Value->Shared->Prop}{s:Shared}{x:Addr}
theorem qcU:entryFor table "proto.unchain"=some Builtin.«proto.unchain»:=entryFor_of_tree (by kernel_rfl)
theorem qc2 {e:Value}{Q:Value->Shared->Prop} (hx:ExcAt s.heap x) (h:Q .none s) :
   wpAny (model prog w) A (runValue (.builtin "proto.unchain" ⟨[e,.ref x,.ref x,.bool false],[]⟩)) Q E s:=by
 obtain⟨o,vs,ho,hd,h2⟩:=hx;refine wpAny_runValue (codeAny_builtin qcU ?_);unfold Builtin.«proto.unchain»;refine wpAny_bind (wpAny_field ho hd h2 ?_);exact wpAny_pure h
theorem qd3 {α:Type}{a:Addr}{oe:Obj}{ws:Array Value}{Q:α->Shared->Prop} (hh:A.handled=some (.ref x)) (hx:ExcAt s.heap x) (ne:x≠a) (ha:s.heap.get? a=some oe) (hd:oe.data=.fields ws) (hz:2 < ws.size)
   (h:E (.ref a) { s with heap:=s.heap.update a (Obj.mapFields (·.setIfInBounds 2 (.ref x))) }):wpAny (model prog w) A (raiseNew (α:=α) (.ref a)) Q E s:=by
 unfold raiseNew;refine wpAny_bind (wpAny_handled ?_);rw[hh]
 have hne:((Value.ref x != Value.ref a)=true):=by
   rw[bne_iff_ne];intro z;injection z with z;exact ne z
 simp only[hne,if_true];refine wpAny_bind (wpAny_holding (qc2 hx ?_));show wpAny _ _ (setField (.ref a) 2 (.ref x) >>= fun _=>throw (Value.ref a)) Q E s;exact wpAny_bind (wpAny_setField ha hd hz (wpAny_throw h))
theorem qfQ {α:Type}{it:Addr}{g:Heap}{Q:α->Shared->Prop} (hh:A.handled=some (.ref x)) (hx:ExcAt s.heap x) (eb:Heap.ExtBut it g s.heap) (hg:∀ b o,g.get? b=some o->b < s.heap.objs.size)
   (h:∀ e h',Heap.ExtBut it g h'->(∃ o,h'.get? e=some o∧o.cls=.type "StopIteration")->E (.ref e) { s with heap:=h' }):wpAny (model prog w) A (newExc (.type "StopIteration") [] >>= fun e=>raiseNew (α:=α) e) Q E s:=by
 refine wpAny_bind ?_;simp only[newExc,newTuple];refine wpAny_bind (wpAny_newObj_type ?_ (by size_fits));refine wpAny_bind (m:=firstArgMember _ _) (wpAny_of_eq (a:=Value.none) (by first|rfl|(simp only[firstArgMember];rfl)) ?_);refine wpAny_newObj_type ?_ (by size_fits);have sz:x < s.heap.objs.size:=hx.lt;refine qd3 (A:=A) hh ((hx.at_ fun o e=>Heap.get?_push_of_some _ e).at_ fun o e=>Heap.get?_push_of_some _ e) (Nat.ne_of_lt (by rw[Heap.size_push];exact Nat.lt_succ_of_lt sz)) (Heap.get?_push_size _ rfl) rfl (Nat.le_of_ble_eq_true rfl) ?_;refine h _ _ (fun b o hb e=>?_) ⟨_,Heap.get?_update_self _ (Heap.get?_push_size _ rfl) rfl,rfl⟩;have lt:=hg b o e;exact(Heap.get?_update_other _ _ (Nat.ne_of_gt (by rw[Heap.size_push];exact Nat.lt_succ_of_lt lt))).trans (Heap.get?_push_of_some _ (Heap.get?_push_of_some _ (eb b o hb e)))
end
end L2
namespace L2
open PySem PySem.Spec PyProof.Rows
open PySem.W (Frag tabObj kla_obj keq_flat)
section
variable {prog:Program}{w:World}{A:Around}{E:Value->Shared->Prop}{s:Shared}{x:Addr}
theorem qhQ {j u:Addr}{k:Nat}{xs:Array Value}{Q:Value->Shared->Prop} (hh:A.handled=some (.ref x)) (hx:ExcAt s.heap x) (ne:x≠j) (a:s.heap.IsListIter j u k) (b:s.heap.IsList u xs) (e:xs[k]?=none)
   (q:∀ h' z,Heap.ExtBut j s.heap h'->(∃ o,h'.get? z=some o∧o.cls=.type "StopIteration")->E (.ref z) { s with heap:=h' }):wpAny (model prog w) A (Builtin.SmallTypes.nextOf (.ref j)) Q E s:=by
 obtain⟨oj,gj,cj,dj⟩:=id a;obtain⟨ou,gu,_,nu,du⟩:=b;unfold Builtin.SmallTypes.nextOf;refine wpAny_bind (wpAny_callSpecial?_slot (name:=Str.ofString "__next__") a.typeIs slot_listiter_next (wpAny_call_entry slot_listiter_next a.typeIs entry_listiter_next ?_ (args_listiter_next _)));show wpAny _ _ (field (.ref j) 0 >>= _) _ _ s;refine wpAny_bind (wpAny_field gj dj (x:=.ref u) rfl ?_);rw[if_neg (show ¬ ((Value.ref u == Value.none)=true) from Bool.false_ne_true)];refine wpAny_bind (wpAny_field gj dj (x:=.int k 0) rfl (wpAny_bind (wpAny_seqItems gu du ?_)));simp only[Int.toNat_natCast,e];refine wpAny_bind (wpAny_rule (wpAny_bind (wpAny_setField gj dj (by simp) ?_)));refine qfQ (A:=A.in1) (g:=s.heap) hh (hx.at_ fun o e=>(Heap.get?_update_other _ _ (Ne.symm ne)).trans e) (Heap.SameBut.update ..).extBut (fun b o e=>by rw[Heap.size_update];exact Heap.lt_size e) fun e h' eb he=>?_;exact q h' e eb he
theorem qiR {z TI TO i1 i2 l1 l2:Addr}{k:Nat}{xs:Array Value}{a b:Value}{Q:Fin->Shared->Prop} (hh:A.handled=some (.ref x)) (hx:ExcAt s.heap x) (nz:x≠z) (n1':x≠i1) (D:ZipApart z TI TO i1 i2 l1 l2)
   (gz:IsZip s.heap z TI TO .none) (gI:IsPair s.heap TI (.ref i1) (.ref i2)) (gO:IsPair s.heap TO a b) (j1:s.heap.IsListIter i1 l1 k) (m1:s.heap.IsList l1 xs) (ex:xs[k]?=none)
   (q:∀ h' v,(∀ c o,c≠z->c≠TO->c≠i1->c≠i2->s.heap.get? c=some o->h'.get? c=some o)->(∃ o,h'.get? v=some o∧o.cls=.type "StopIteration")->E (.ref v) { s with heap:=h' }) :
   wpAny (model prog w) A (Builtin.«zip.__next__» ⟨[.ref z],[]⟩) Q E s:=by
 show wpAny _ _ (field (.ref z) 2 >>= _) _ _ s;refine wpAny_bind (wpAny_field gz rfl (x:=.bool false) rfl ?_);show wpAny _ _ (field (.ref z) 3 >>= _) _ _ s;refine wpAny_bind (wpAny_field gz rfl (x:=.ref TI) rfl (wpAny_bind (wpAny_seqItems gI rfl ?_)));show wpAny _ _ (Builtin.SmallTypes.ownedTupleIsFree (.ref z) >>= _) _ _ s;refine wpAny_bind ?_;unfold Builtin.SmallTypes.ownedTupleIsFree;refine wpAny_bind (wpAny_field gz rfl (x:=.none) rfl (wpAny_pure ?_));simp only[if_true];refine wpAny_bind (wpAny_rule (wpAny_bind (wpAny_field gz rfl (x:=.ref TO) rfl (wpAny_bind (wpAny_setField_rec gz (by simp) fun g1 z1 n1=>?_)))));replace z1:IsZip g1 z TI TO .ellipsis:=z1;refine wpAny_bind ?_;simp only[List.zipIdx_cons,List.zipIdx_nil,List.forIn_cons,List.forIn_nil];refine wpAny_bind (wpAny_bind (wpAny_onRaise ?_));show wpAny _ _ (Builtin.SmallTypes.nextOf (.ref i1) >>= _) _ _ { s with heap:=g1 };have a1:g1.IsListIter i1 l1 k:=Heap.IsListIter.at j1 fun o e=>n1.extBut _ o D.i1z e;have b1:g1.IsList l1 xs:=Heap.IsList.at m1 fun o e=>n1.extBut _ o D.l1z e;refine wpAny_bind (qhQ (s:={ s with heap:=g1 }) hh (hx.at_ fun o e=>n1.extBut _ o nz e) n1' a1 b1 ex fun g2 v n2 sv=>?_);obtain⟨ov,gv,cv⟩:=sv;have z2:IsZip g2 z TI TO .ellipsis:=n2 _ _ D.i1z.symm z1;have vz:v≠z:=fun e=>by subst e;rw[z2]at gv;cases gv;simp at cv
 exact wpAny_setField_rec z2 (by simp) fun g3 _ n3=>q g3 v (fun c o c1 _ c3 _ e=>n3.extBut _ _ c1 (n2 _ _ c3 (n1.extBut _ _ c1 e))) ⟨ov,n3.extBut _ _ vz gv,cv⟩
theorem qhA {z TI TO i1 i2 l1 l2:Addr}{k:Nat}{xs:Array Value}{a b:Value}{Q:Option Value->Shared->Prop} (hh:A.handled=some (.ref x)) (hx:ExcAt s.heap x) (nz:x≠z) (n1':x≠i1) (D:ZipApart z TI TO i1 i2 l1 l2)
   (gz:IsZip s.heap z TI TO .none) (gI:IsPair s.heap TI (.ref i1) (.ref i2)) (gO:IsPair s.heap TO a b) (j1:s.heap.IsListIter i1 l1 k) (m1:s.heap.IsList l1 xs) (ex:xs[k]?=none)
   (q:∀ h',(∀ c o,c≠z->c≠TO->c≠i1->c≠i2->s.heap.get? c=some o->h'.get? c=some o)->Q none { s with heap:=h' }):wpAny (model prog w) A (pyNext (.ref z)) Q E s:=by
 have T:s.TypeIs (.ref z) "zip":=⟨_,gz,rfl⟩
 unfold pyNext
 refine wpAny_bind (wpAny_attempt (wpAny_callSpecial?_slot (name:=Str.ofString "__next__") T F.slot_zip_next (wpAny_call_entry F.slot_zip_next T F.entry_zip_next
   (qiR hh hx nz n1' D gz gI gO j1 m1 ex fun h' v hk sv=>?_) (F.args_zip_next_1 _))))
 obtain⟨o,go,co⟩:=sv;exact wpAny_bind (wpAny_isInstance (T:="StopIteration") (b:=true) ⟨o,go,co⟩ isSubtype_stop (wpAny_pure (q _ hk)))
end
def qiQ (K:Frag) (ea:Addr) (t:Bool) (a b:Addr) (i:Nat) (H:Hp):Prop:=t=false∧(∃ xs,SqL K H a xs∧xs.length≤i)∧∃ C dx tb,H ea=some (.ext (ExO ea C dx tb))
def inH (ea:Addr) (X:Cx):Prop:=X.A.handled=some (.ref ea)
theorem qfB {P:Program}{w:World}{K:Frag}{elts:List Expr}{k:Nat}{pos:Pos}{ea:Addr} (t:Bool) (z TI TO i1 i2 a b:Addr) (D:ZipApart z TI TO i1 i2 a b) :
   qhc (inH ea) P w K (.Tuple elts k pos) ⟨(Itz K t a b).go,(Itz K t a b).yld,qiQ K ea t a b⟩ [z,TI,TO,i1,i2] z (ZSt t z TI TO i1 i2 a b):=qfC z TI TO i1 i2 a b D (by
   intro X hP hw hK hc i pins s σ H E I hf st hg;subst hP hw hK;obtain⟨rfl,⟨xs,hq,hx⟩,C,dx,tb,ee⟩:=hg;obtain⟨its,rv,p,hz⟩:=I.seqK (t:=false) hq;obtain⟨gz,gI,⟨_,_,gO⟩,j1,j2⟩:=st;have e1:=rv.length;obtain⟨⟨oe,vs',g,_,_,d,_,_,x2⟩,_,_⟩:=(show ObjOk X.prog X.w H s.heap ea (.ext (ExO ea C dx tb)) from I.hok ea _ ee)
   have hn:∀ c∈[z,TI,TO,i1,i2],ea≠c:=fun c hc e=>by
     have:=(hf c hc).1
     rw[← e,ee]at this;cases this
   refine qhA (x:=ea) hc ⟨oe,vs',g,d,x2⟩ (hn z (by simp)) (hn i1 (by simp)) D gz gI gO j1 p (by simp;omega) fun h' hk=>⟨rfl,I.turnL (t':=s.toks) (ch:=[z,TI,TO,i1,i2]) (fun c o hc q=>hk c o (fun e=>hc (by simp[e])) (fun e=>hc (by simp[e])) (fun e=>hc (by simp[e])) (fun e=>hc (by simp[e])) q) hf⟩)
theorem qjj {X:Cx}{e1 e2:Expr}{ta:TA}{p pos tp:Pos}{elts:List Expr}{kk:Nat}{ea:Addr} (hg:Gl X "zip") (hm:X.mg "zip"=none) (ha:PA X [e1,e2] ta) (hs:starEach [e1,e2] X.env=(false,eval e1 X.env)::starEach [e2] X.env:=by rfl)
   (hpl:(backTo pos (starEach [e2] X.env)).any (·.1)=false:=by rfl):PIC (inH ea) X (.Tuple elts kk tp) (.Call (.Name "zip" p) [e1,e2] [] pos) (qkS X.K (qiQ X.K ea) ta):=qjk qfB hg hm ha hs hpl
section
variable {prog:Program}{w:World}{A:Around}{E:Value->Shared->Prop}{s:Shared}{x:Addr}
theorem qhp {it l:Addr}{i:Nat}{items:Array Value}{Q:Option Value->Shared->Prop} (hh:A.handled=some (.ref x)) (hx:ExcAt s.heap x) (ne:x≠it) (hit:s.heap.IsTupleIter it l i) (hl:s.heap.IsTuple l items) (hi:items[i]?=none)
   (hQ:∀ h',Heap.ExtBut it s.heap h'->Q none { s with heap:=h' }):wpAny (model prog w) A (pyNext (.ref it)) Q E s:=by
 obtain⟨o,ho,hc,hd⟩:=id hit;obtain⟨ol,hol,_,nl,hdl⟩:=hl;unfold pyNext;refine wpAny_bind (wpAny_attempt (wpAny_callSpecial?_slot (name:=Str.ofString "__next__") hit.typeIs F.slot_tuple_iterator_next (wpAny_call_entry F.slot_tuple_iterator_next hit.typeIs F.entry_tuple_iterator_next ?_ (F.args_tuple_iterator_next_1 _))));show wpAny _ _ (field (.ref it) 0 >>= _) _ _ s;refine wpAny_bind (wpAny_field ho hd (x:=.ref l) rfl ?_);show wpAny _ _ (if (Value.ref l == Value.none)=true then _ else _) _ _ s;rw[if_neg (show ¬ ((Value.ref l == Value.none)=true) from Bool.false_ne_true)];show wpAny _ _ (field (.ref it) 1 >>= _) _ _ s;refine wpAny_bind (wpAny_field ho hd (x:=.int i 0) rfl ?_);show wpAny _ _ (seqItems? (.ref l) >>= _) _ _ s;refine wpAny_bind (wpAny_seqItems hol hdl ?_);simp only[Int.toNat_natCast,hi];refine wpAny_bind (wpAny_rule (wpAny_bind (wpAny_setField ho hd (by simp) ?_)));refine qfQ (A:=A.in1) (g:=s.heap) hh (hx.at_ fun o e=>(Heap.get?_update_other _ _ (Ne.symm ne)).trans e) (Heap.SameBut.update ..).extBut (fun b o e=>by rw[Heap.size_update];exact Heap.lt_size e) fun e h' eb he=>?_;refine wpAny_bind (wpAny_isInstance (T:="StopIteration") (b:=true) he isSubtype_stop ?_);exact wpAny_pure (hQ _ eb)
theorem qbx {t:Addr}{items:Array Value}{Q:List Value->Shared->Prop} (hh:A.handled=some (.ref x)) (hx:ExcAt s.heap x) (ht:IsTup s.heap t items)
   (hQ:∀ h',Heap.ExtBut s.heap.objs.size s.heap h'->Q items.toList { s with heap:=h' }):wpAny (model prog w) A (unpackItems (.ref t) items.size none) Q E s:=by
 have hlt:t≠s.heap.objs.size:=let ⟨o,ho,_⟩:=ht;Nat.ne_of_lt (Heap.lt_size ho);have hxl:x≠s.heap.objs.size:=Nat.ne_of_lt hx.lt;unfold unpackItems;refine wpAny_bind ?_;unfold notIterableAtAll;refine wpAny_bind (wpAny_specialOf (IsTup.typeIs ht) slot_tuple_iter.lookup (wpAny_pure ?_));simp only[Bool.false_eq_true,if_false,Option.isNone_some];refine wpAny_bind (wpAny_holding (wpAny_pyIter_tuple ht ?_));have p1:IsTup (s.heap.push { cls:=.type "tuple_iterator",data:=.fields #[.ref t,.int 0 0] }) t items:=IsTup.push ht _;refine wpAny_bind (wpAny_holding (draw_tuple hlt items.size 0 _ _ (show IsTupIter _ _ t 0 from ⟨_,Heap.get?_push_size _ rfl,rfl,rfl⟩) p1 (by omega) fun h' it' sb=>?_))
 have el:List.take items.size (List.drop 0 items.toList)=items.toList:=by
   rw[List.drop_zero];exact List.take_of_length_le (by simp)
 rw[el];have nl:¬ items.toList.length < items.size:=by simp
 simp only[nl,if_false];have keep:∀ b o,s.heap.get? b=some o->h'.get? b=some o:=fun b o e=>sb.extBut b o (Nat.ne_of_lt (Heap.lt_size e)) (Heap.get?_push_of_some _ e);refine wpAny_bind (wpAny_holding (qhp (s:={ s with heap:=h' }) hh (hx.at_ fun o e=>keep _ o e) hxl it' (by obtain⟨o,ho,r⟩:=ht;exact⟨o,keep _ _ ho,r⟩) (by simp) fun h2 e2=>?_));simp only[Option.isSome_none,Bool.false_eq_true,if_false];exact wpAny_pure (hQ h2 fun b o n e=>e2 b o n (keep b o e))
theorem qcX {env:Env}{elts:List Expr}{x1:Nat}{pos:Pos}{t:Addr}{items:Array Value}{Q:Unit->Shared->Prop} (hh:A.handled=some (.ref x)) (hx:ExcAt s.heap x) (ht:IsTup s.heap t items) (hn:(assignEach elts env).length=items.size) (hst:(assignEach elts env).findIdx? (·.1)=none)
   (h:∀ h',Heap.ExtBut s.heap.objs.size s.heap h'->wpAny (model prog w) A (assignInOrder ((assignEach elts env).map (·.2)) items.toList) Q E { s with heap:=h' }):wpAny (model prog w) A (assign (.Tuple elts x1 pos) env (.ref t)) Q E s:=by
 rw[assign_Tuple];refine wpAny_bind (wpAny_standAt ?_);unfold unpack;rw[hn,hst];exact wpAny_bind (wpAny_holding (qbx hh hx ht h))
end
inductive qgI (K:Frag) (ea:Addr) (n:Nat) (t:TGs) (v:V) (σ:St) (H:Hp) (Q:(St->Hp->Prop)):Prop
 | mk (C:Addr) (dx:Option Addr) (tb:Value) (h0:H ea=some (.ext (ExO ea C dx tb))) (a xs:_) (h1:v=.ref a) (h2:SqT K H a xs) (h3:xs.length=n) (h4:t xs σ H Q):qgI K ea n t v σ H Q
def qkV (K:Frag) (ea:Addr) (n:Nat) (t:TGs):TG:=fun v σ H Q=>qgI K ea n t v σ H Q
theorem qjl {X:Cx}{pos:Pos}{es:List Expr}{k:Nat}{t:TGs}{n:Nat}{ea:Addr} (hc:inH ea X) (h:PGs X es t)
   (hn:(assignEach es X.env).length=n:=by rfl) (hst:(assignEach es X.env).findIdx? (·.1)=none:=by rfl):PG X (.Tuple es k pos) (qkV X.K ea n t):=by
 intro pins s σ H v u Q I r hw;obtain⟨C,dx,tb,ee,a,xs,e1,hq,hl,hw⟩:=hw;subst e1;cases r;obtain⟨its,rv,ht,hz⟩:=I.tuple hq;obtain⟨⟨oe,vs',g,_,_,d,_,_,x2⟩,_,_⟩:=(show ObjOk X.prog X.w H s.heap ea (.ext (ExO ea C dx tb)) from I.hok ea _ ee)
 refine qcX hc ⟨oe,vs',g,d,x2⟩ ht (by simp[hn,← hl,rv.length]) hst fun h' hx=>?_;have I1:Inv X pins σ H { s with heap:=h' }:=I.kept (t':=s.toks) fun b o e=>hx b o (Nat.ne_of_lt (Heap.lt_size e)) e;exact h pins _ σ H xs _ Q I1 (by simpa using rv) hw
theorem qgU {K:Frag}{ea a b:Addr}{xs ys:List V}{g:TG}{tt:TT}{te:TE}{D:Addr}{Q:VK}{σ0:St}{H0:Hp} (Pv:Nat->St->Hp->Prop) (he:xs.length=ys.length) (h0:Pv 0 σ0 H0)
   (hl:∀ i σ H,i≤xs.length->Pv i σ H->(SqL K H a xs∧SqL K H b ys)∧∃ C dx tb,H ea=some (.ext (ExO ea C dx tb)))
   (hs:∀ i x y σ H p,xs[i]?=some x->ys[i]?=some y->Pv i σ H->H p=none->g (.ref p) σ (upd H p (.tup [x,y])) fun σ3 H3=>tt σ3 H3 fun ok H4=>if ok=true then te σ3 H4 fun v H5=>∃ zs,H5 D=some (.lst zs)∧zs.length < sizeLine∧Pv (i+1) σ3 (upd H5 D (.lst (zs++[v]))) else Pv (i+1) σ3 H4)
   (hd:∀ σ H,Pv xs.length σ H->Q (.ref D) H):Ji ⟨(Itz K false a b).go,(Itz K false a b).yld,qiQ K ea false a b⟩ g tt te D Q σ0 H0:=by
 refine⟨fun i m σ H=>m=xs.length - i∧i≤xs.length∧Pv i σ H,⟨xs.length,by simp,Nat.zero_le _,h0⟩,?_⟩;rintro i m σ H ⟨rfl,hi,p⟩;obtain⟨⟨q1,q2⟩,ex⟩:=hl i σ H hi p;by_cases hlt:i < xs.length
 · have hlt2:i < ys.length:=by omega
   refine .inr ⟨⟨xs,ys,xs[i],ys[i],q1,q2,by simp[hlt],by simp[hlt2]⟩,Pv (i+1),fun σ' H' p'=>⟨xs.length - (i+1),by omega,rfl,hlt,p'⟩,fun x H' y=>?_⟩;obtain⟨c,u,v,hn,rfl,z,rfl⟩:=y;obtain⟨z1,z2⟩:=z xs ys q1 q2;exact hs i u v σ _ c z1 z2 p hn
 · have e:i=xs.length:=by omega
   subst e;exact .inl ⟨⟨rfl,⟨xs,q1,Nat.le_refl _⟩,ex⟩,hd σ H p⟩
theorem CompOk.mark {X:Cx}{scope:Scope}{N:List Str}{cl:List (Str×Addr)}{js:List (Option Nat)}{ea:Addr} (k:CompOk X scope N cl js):CompOk (qbd X ea) scope N cl js:=⟨k.clos,k.sub,k.all,k.cell,k.kind,k.names,k.len,k.fr⟩
section
variable {X:Cx}{pos:Pos}
def qj2 (K:Frag) (LC:Addr) (i:Nat) (tb:XTS) (th:Addr->TS):TS:=fun D σ H=>tb D (fun Cv eo H'=>∃ C ea,Cv=.ref C∧eo=some ea∧xIn K C=true∧PySem.W.mroIn K C (.ref LC)=some true ∧
 th ea { nx:=fun σ' H2=>D.nx (σ'.set i none) H2,rt:=D.rt } (σ.set i (some (.ref ea))) H') σ H
theorem qhz {body suite:List Stmt}{b₀:Stmt}{lx n:Str}{np hpos:Pos}{i:Nat}{LC:Addr}{tb:XTS}{th:Addr->TS} (hst:X.stack=X.env::X.outer) (hfr:X.env.frame=some X.env.locals)
   (hb:PX X body tb) (hg:Gl X lx) (hm:X.mg lx=some (.ref LC)) (xl:xIn X.K LC=true) (hN:X.N.Nodup) (hi:X.N[i]?=some n) (hx:Loc X.env.scope n) (hloc:X.env.kindOf n=some .local)
   (hh:∀ ea,PSs (qbd X ea) (b₀::suite) (th ea)) (hdb:(lx == ("__debug__":Str))=false:=by decide) (hf:X.fn n=true∨X.env.scope.names.lookup n=some .local:=by first|exact .inl rfl|exact .inr rfl) :
   PS X (.Try body [.ExceptHandler (some (.Name lx np)) (some n) (b₀::suite) hpos] [] [] pos) (qj2 X.K LC i tb th):=by
 intro pins s σ H D I h;refine wpAny_Try_except ?_;refine wpAny_mono (hb pins s σ H D _ (fun e s₁=>wpAny (model X.prog X.w) X.A (noteFrame e X.env) (fun _ s₂=>wpAny (model X.prog X.w) X.A (setFlight e none) (fun _ s₃=>wpAny (model X.prog X.w) X.A (handleBy e X.env [.ExceptHandler (some (.Name lx np)) (some n) (b₀::suite) hpos]) (SP X pins D) X.xe s₃) X.xe s₂) X.xe s₁) I h ?_)
   (fun f s1 q=>?_) fun e s1 q=>q
 · intro ea C dx H' s' J xa sr;refine qgq J hst hfr J.ok.frames xa fun s2 T hT hne J2=>?_;obtain⟨C1,ea1,e1,e2,xc,hmr,q⟩:=sr _ (fun b o hb e=>qbf hT hb e) (qgs hT hne);cases e1;cases e2;have tb1:Zf H' ea C dx T ea=some (.ext (ExO ea C dx (.ref T))):=by unfold Zf;rw[qg (Ne.symm hne),qd]
   have tb2:Zf H' ea C dx T T=some (.ext (TbO T)):=by unfold Zf;rw[qd]
   obtain⟨⟨oe,vs,hx1,hcl,hdx,hd,hz,h1,hx2⟩,_,_⟩:=(show ObjOk X.prog X.w _ s2.heap ea (.ext (ExO ea C dx (.ref T))) from J2.hok ea _ tb1)
   obtain⟨⟨oT,ts,hT1,hTd,hT3⟩,_,_⟩:=(show ObjOk X.prog X.w _ s2.heap T (.ext (TbO T)) from J2.hok T _ tb2)
   have JM:=J2.mark ea;refine wpAny_handleBy_cons (codeAny_handlers_test (ZR (X:=qbd X ea) JM hg hm ?_ hdb)) (by intro z;cases z);refine qfs J2.kIn xc xl hmr hx1 hcl ?_;refine codeAny_handlers_suite_as ?_;unfold setFlight;refine wpAny_bind (wpAny_field hx1 hd h1 ?_);rw[if_pos (show (Value.ref T != Value.none)=true from by simp)];refine wpAny_setField hT1 hTd (Array.getElem?_eq_some_iff.mp hT3).1 ?_;rw[show s2.heap.update T (Obj.mapFields (·.setIfInBounds 3 ((none:Option Addr).elim Value.none fun f=>rawInt f)))=s2.heap from Heap.update_setField_same s2.heap T oT ts 3 Value.none hT1 hTd hT3];refine qap (v:=.ref ea) J2 hN hi hx rfl (fun s3 J3=>?_) hf;refine wpAny_mono (hh ea pins s3 _ _ _ (J3.mark ea) q) (fun fl s4 q4=>?_) fun _ _ z=>z.elim
   cases fl with
   | next =>
     obtain⟨σ',H4,J4,z⟩:=q4;have J5:=Inv.unmark (A0:=True) J2.ok J4;obtain⟨m,hn,_⟩:=id J5.loc;refine wpAny_nameGoes_keeps hloc hn (by rw[J2.ok.kind];rfl) fun h' v hn' hs'=>?_;exact⟨_,H4,J5.gone hN hi hn hn' hs',z⟩
   | brk=>obtain⟨_,_,_,z⟩:=q4;exact z.elim
   | cont=>obtain⟨_,_,_,z⟩:=q4;exact z.elim
   | ret u =>
     obtain⟨v,σ',H4,J4,rv,z⟩:=q4;have J5:=Inv.unmark (A0:=True) J2.ok J4;obtain⟨m,hn,_⟩:=J5.loc;refine wpAny_nameGoes hloc hn (by rw[J2.ok.kind];rfl) fun h' m' hn' hs'=>?_;exact⟨v,_,H4,J5.lose hn' hs',rv,z⟩
 · cases f with
   | next=>exact wpAny_execs_nil q
   | ret v=>exact q
   | brk=>exact q
   | cont=>exact q
end
theorem qhI {X:Cx}{ea:Addr}{elt iter tg:Expr}{ifs:List Expr}{scope:Scope}{pos:Pos}{wi:TI}{g:TG}{tt:TT}{te:TE}{N:List Str}{cl:List (Str×Addr)}{js:List (Option Nat)} (k:CompOk X scope N cl js) (hi:PIC (inH ea) (qbd X ea) tg iter wi)
   (hg:∀ C s₀ H₀ ex pn,PG (q8 (qbd X ea) scope N cl C s₀ H₀ ex pn) tg g) (ht:∀ C s₀ H₀ ex pn,PTs (q8 (qbd X ea) scope N cl C s₀ H₀ ex pn) ifs tt) (he:∀ C s₀ H₀ ex pn,PE (q8 (qbd X ea) scope N cl C s₀ H₀ ex pn) elt te)
   (hs:∀ x,foldedSetIterable iter (qbd X ea).env x=pure x:=by intro _;rfl) :
   PE (qbd X ea) (.ListComp elt [⟨tg,iter,ifs,0⟩] scope pos) (qhq wi g tt te js):=qeJ (Cm:=inH ea) (fun _ _ _ _ _=>rfl) k.mark hi hg ht he hs
def qik (mg:Str->Option Value) (base:Heap):Prop:=∃ bm o,mg "__builtins__"=some (.ref bm)∧bm≠builtinsNs∧base.get? bm=some o∧o.cls=.type "module"∧o.dict=some builtinsNs∧o.data=.plain
def qjM (ts:List Addr) (H:Hp):Prop:=∀ b,H b=none∨(∃ o xs,H b=some (.frz o (.lst xs)))∨(b∈ts∧H b=some (.tbl #[]))
theorem qgt {P:Program}{w:World}{K:Frag}{mg mb:Str->Option Value}{CX:CXT}{k:Nat}{fa a:Addr}{fd:FuncData}{x:Str}{sp:Sp}{s₁:Shared}{vs:List Value}{ns:List Int}{ts:List Addr}
   (KX:K.In s₁.heap) (hns:s₁.heap.Ns mainGlobals mg) (hb:s₁.heap.Ns builtinsNs mb) (hbb:∀ x:Str,x≠"__name__"->mb x=bootBuiltins x) (hlim:s₁.heap.NoLimit) (hg:s₁.gens=#[])
   (ht:∀ t∈ts,s₁.heap.get? t=some (tabObj #[])) (hc:∀ t∈ts,isCodeTable s₁.heap t) (hk:∀ t∈ts,K.lookup t=none)
   (hB:qik mg s₁.heap) (ha:s₁.heap.get? a=some { cls:=.type "list",data:=.seq vs.toArray }) (hi:IntsAre vs ns) (hl:ns.length≤sizeLine) (hr:Room k callerA)
   (F:∀ base:Heap,K.In base->base.Ns mainGlobals mg->qik mg base->qu P w K mg base CX k fa fd [x] sp) (hbind:∀ (s:Shared) (u:Value),BindsTo s fd ⟨[u],[]⟩ [(x,u)])
   (hsp:∀ H:Hp,qjM ts H->(∀ t∈ts,H t=some (.tbl #[]))->SqL K H a (ns.map V.int)->sp [.ref a] H (fun v _=>v=.bl true) fun _ _ _=>False)
   (hCX:∀ H e s',CX [] H s₁ (fun _ _ _=>False) e s'->False) :
   codeAny (model P w) callerA (.call (.ref fa) ⟨[.ref a],[]⟩) (fun r s'=>r=.ok (.ret (.bool true))∧OldK s₁.heap s'.heap∧s'.os=s₁.os∧AllBare s'.gens) s₁:=by
 have rv:=qcZ hi;have lenV:=hi.length
 have nat:a∉ts:=fun m=>by
   have:=ht a m
   rw[ha]at this;cases this
 have core:∀ H:Hp,qjM ts H->(∀ t∈ts,H t=some (.tbl #[]))->SqL K H a (ns.map V.int)->HOk P w H s₁.heap->(∀ b,H b≠none->b=a∨b∈ts)->(H a≠none->K.lookup a=none) ->
     codeAny (model P w) callerA (.call (.ref fa) ⟨[.ref a],[]⟩) (fun r s'=>r=.ok (.ret (.bool true))∧OldK s₁.heap s'.heap∧s'.os=s₁.os∧AllBare s'.gens) s₁:=by
   intro H hO hT hS hok hA hK;have base_of:∀ {b:Addr}{o:Obj},s₁.heap.get? b=some o->H b=none->(qhj s₁.heap H).get? b=some o:=fun e n=>qh4 e n
   have noA:∀ {b:Addr}{o:Obj}{es:Array DictEntry}{ep:Nat},s₁.heap.get? b=some o->o.data=.dict es ep->H b=none:=fun {b o es ep} e d=>by
     cases q:H b with
     | none=>rfl
     | some u =>
       rcases hA b (by rw[q];simp) with rfl|m
       · rw[ha]at e;cases e;cases d
       · rw[ht b m]at e;cases e;cases d
   have nsK:∀ {b:Addr}{m:Str->Option Value},s₁.heap.Ns b m->(qhj s₁.heap H).Ns b m:=fun {b m} ⟨o,es,ep,e,d,r⟩=>⟨o,es,ep,base_of e (noA e d),d,r⟩
   have hKb:K.In (qhj s₁.heap H):=fun b o e=>base_of (KX b o e) (by
     cases q:H b with
     | none=>rfl
     | some u =>
       rcases hA b (by rw[q];simp) with z|m
       · subst z;rw[hK (by rw[q];simp)]at e;cases e
       · rw[hk b m]at e;cases e)
   have hBb:qik mg (qhj s₁.heap H):=by
     obtain⟨bm,o,b1,b2,b3,b4,b5,b6⟩:=hB;refine⟨bm,o,b1,b2,base_of b3 ?_,b4,b5,b6⟩
     cases q:H bm with
     | none=>rfl
     | some u =>
       rcases hA bm (by rw[q];simp) with z|m
       · rw[z,ha]at b3;cases b3;cases b6
       · rw[ht bm m]at b3;cases b3;cases b6
   have hM:Mod K mg (qhj s₁.heap H):=⟨hKb,nsK hns,⟨mb,nsK hb,hbb⟩,let ⟨mc,h1,h2⟩:=hlim;⟨mc,nsK h1,h2⟩⟩
   have e0:Env0 P w K mg (qhj s₁.heap H) callerA [] s₁ H:=⟨rfl,hM,fun b o e=>qjr e,Nat.le_of_eq (qgG _ _),trivial,fun b hb=>absurd (show b∈([]:List Addr) from hb) (by simp),hok,.of_eq hg⟩
   refine codeAny_mono ((F _ hKb (nsK hns) hBb).run callerA [] s₁ H ⟨[.ref a],[]⟩ [.ref a] [.ref a] _ _ hr e0 (hbind s₁ (.ref a)) (.cons rfl .nil) (hsp H hO hT hS)) fun r s' h=>?_
   cases r with
   | error e=>exact(hCX H e s' h).elim
   | ok fl =>
     cases fl with
     | next=>exact False.elim h
     | brk=>exact False.elim h
     | cont=>exact False.elim h
     | ret u =>
       obtain⟨v,H',os,bare,un,hok',r',q⟩:=h;have q':v=.bl true:=q;subst q';obtain rfl:u=Value.bool true:=r'
       have grown:∀ t∈ts,∃ more,s'.heap.get? t=some (tabObj more):=fun t m=>by
         obtain⟨more,z⟩:=un.tbls t #[] (hT t m);exact⟨_,(show ObjOk P w H' s'.heap t (.tbl (#[]++more)) from hok' t _ z)⟩
       have keep:∀ b o,b∉ts->s₁.heap.get? b=some o->s'.heap.get? b=some o:=fun b o nm e=>by
         rcases hO b with z|⟨ob,xs,z⟩|⟨m,_⟩
         · exact un.keep b o e z (by intro z;exact absurd (show b∈([]:List Addr) from z) (by simp)) (by simp)
         · have z2:=un.frzs b ob _ z;obtain⟨e1,_⟩:=hok b _ z;obtain⟨e2,_⟩:=hok' b _ z2;rw[e]at e1;cases e1;exact e2
         · exact absurd m nm
       refine⟨rfl,⟨fun b o e=>?_,fun b o e=>?_⟩,os,bare⟩
       · by_cases m:b∈ts
         · obtain⟨ps,g⟩:=grown b m;have e':=ht b m;rw[e]at e';cases e';exact .inr (.inl ⟨hc b m,rfl,#[],ps,rfl,by rw[Array.empty_append];exact g⟩)
         · exact .inl (keep b o m e)
       · by_cases m:b∈ts
         · obtain⟨ps,g⟩:=grown b m;exact⟨_,g⟩
         · exact⟨o,keep b o m e⟩
 cases hka:K.lookup a with
 | some o =>
   have e:=KX a o hka;rw[ha]at e;cases e;refine core (fun b=>if b∈ts then some (.tbl #[]) else none) (fun b=>?_) (fun t m=>if_pos m) (.inr ⟨_,vs.toArray,_,hka,rfl,rfl,rfl,by rw[List.size_toArray,lenV];exact hl,by simpa using rv⟩) (fun b u z=>?_) (fun b z=>?_) fun z=>absurd (if_neg nat) z
   · by_cases m:b∈ts
     · exact .inr (.inr ⟨m,if_pos m⟩)
     · exact .inl (if_neg m)
   · by_cases m:b∈ts
     · have z':=(if_pos m).symm.trans z;cases z';exact ht b m
     · have z':=(if_neg m).symm.trans z;cases z'
   · by_cases m:b∈ts
     · exact .inr m
     · exact absurd (if_neg m) z
 | none =>
   refine core (fun b=>if b=a then some (.frz { cls:=.type "list",data:=.seq vs.toArray } (.lst (ns.map V.int))) else if b∈ts then some (.tbl #[]) else none) (fun b=>?_) (fun t m=>?_) (.inl (.inr ⟨{ cls:=.type "list",data:=.seq vs.toArray },if_pos rfl⟩)) (fun b u z=>?_) (fun b z=>?_) fun _=>hka
   · by_cases hb:b=a
     · exact .inr (.inl ⟨_,_,if_pos hb⟩)
     · by_cases m:b∈ts
       · exact .inr (.inr ⟨m,(if_neg hb).trans (if_pos m)⟩)
       · exact .inl ((if_neg hb).trans (if_neg m))
   · have hb:t≠a:=fun z=>nat (z▸m);exact(if_neg hb).trans (if_pos m)
   · by_cases hb:b=a
     · have z':=(if_pos hb).symm.trans z;cases z';subst hb;exact⟨ha,by rw[List.length_map];exact hl,vs,_,rv,ha⟩
     · by_cases m:b∈ts
       · have z':=((if_neg hb).trans (if_pos m)).symm.trans z;cases z';exact ht b m
       · have z':=((if_neg hb).trans (if_neg m)).symm.trans z;cases z'
   · by_cases hb:b=a
     · exact .inl hb
     · by_cases m:b∈ts
       · exact .inr m
       · exact absurd ((if_neg hb).trans (if_neg m)) z
theorem walk_ofT {l:PySem.W.OpenLaw}{n k:Nat}{q:Program}{loose:List Str}{XP:(Str->Option Value)->Heap->Prop}{YP:World->Heap->Prop}{d:DefRec}{K:Params->Frag}{CX:World->CXT}{sp:World->Sp}{x:Str}{ts:List Addr}
   (hn:l.most=some n) (hn2:n≤sizeLine) (hdf:d.params.defaults=[]) (hr:Room k callerA)
   (hY:∀ (w:World) (h:Heap),YP w h->(K w.params).In h∧(∀ t∈ts,h.get? t=some (tabObj #[]))∧(∀ t∈ts,isCodeTable h t)∧∀ t∈ts,(K w.params).lookup t=none)
   (F:∀ (w:World) (mg:Str->Option Value) (fa:Addr) (h:Heap),(K w.params).In h->h.Ns mainGlobals mg->mg d.name=some (.ref fa) ->
     ∃ fd:FuncData,(∀ (s:Shared) (u:Value),BindsTo s fd ⟨[u],[]⟩ [(x,u)]) ∧
       ∀ base:Heap,(K w.params).In base->base.Ns mainGlobals mg->qik mg base->qu l.prog w (K w.params) mg base (CX w) k fa fd [x] (sp w))
   (hsp:∀ (w:World) (H:Hp) (a:Addr) (ns:List Int),ns.length≤n->qjM ts H->(∀ t∈ts,H t=some (.tbl #[]))->SqL (K w.params) H a (ns.map V.int)->sp w [.ref a] H (fun v _=>v=.bl true) fun _ _ _=>False)
   (hCX:∀ (w:World) (H:Hp) (s:Shared) (e:Value) (s':Shared),CX w [] H s (fun _ _ _=>False) e s'->False) :
   PySem.W.WalkO q loose XP YP l.row.toRowW d [] (fun f vs=>PySem.call f vs):=by
 refine Att.attach_call hn hdf fun w s₀ s₁ mg mb fa o pm cd doc a vs ns G Y ho hd hcd hmg hobj hints hlen hg=>?_;obtain⟨KX,h1,h2,h3⟩:=hY w _ Y;obtain⟨fd,hb,hF⟩:=F w mg fa _ KX G.T.g hmg;exact qgt KX G.T.g G.T.b G.T.builtins G.T.nolimit hg h1 h2 h3 (let ⟨bm,ob,b1,b2,b3,b4,b5,b6⟩:=G.T.bmain;⟨bm,ob,b1,b2,b3,b4,b5,b6⟩) hobj hints (Nat.le_trans hlen hn2) hr hF hb (fun H hO hT hS=>hsp w H a ns hlen hO hT hS) fun H e s'=>hCX w H s₁ e s'
def qek (c:Addr) (q:Str):Heap->Prop:=fun h=>h.CodeRec (.ref c) q
def qjN (f:Addr) (o:Obj):Heap->Prop:=fun h=>h.get? f=some o
section
variable {P:Program}{w:World}{H:Hp}{h:Heap}{c f:Addr}{q:Str}{o:Obj}
theorem qih (x:qek c q h):ObjOk P w H h c (.ext (qek c q)):=by
 obtain⟨c',o,vs,t,e,g,r⟩:=id x;cases e;exact⟨x,⟨o,g⟩,fun h1 h2 ⟨c',o',vs',t',e',g',r'⟩ k=>by cases e';exact⟨c,o',vs',t',rfl,k _ g',r'⟩⟩
theorem qgi (x:qjN f o h):ObjOk P w H h f (.ext (qjN f o)):=⟨x,⟨o,x⟩,fun _ _ e k=>k _ e⟩
end
def qk5 (H:Hp) (T:Addr) (pos:Pos) (q:Str):Prop :=
 ∃ ps,H T=some (.tbl ps)∧TriplesOk ps.toList∧(codeAmong pos ps.toList=none∨∃ c,codeAmong pos ps.toList=some (.ref c)∧H c=some (.ext (qek c q)))
theorem JD {i j:Int}{a b:Tok}{c:Value}:∀ {l:List Value},TriplesOk l->TriplesOk (l++[.int i a,.int j b,c])
 | [],_=>True.intro
 | .int _ _::.int _ _::_::r,h=>JD (l:=r) h
section
variable {X:Cx}{pins:List (Addr×Obj)}{σ:St}{H:Hp}{s:Shared}{h':Heap}
theorem Inv.lam {T c':Addr}{ps:Array Value}{more:Array Value}{q:Str}{t':Nat} (I:Inv X pins σ H s) (hT:H T=some (.tbl ps)) (hx:Heap.ExtBut T s.heap h') (c0:s.heap.objs.size≤c') (c1:c' < h'.objs.size) (hr:h'.CodeRec (.ref c') q)
   (ht:h'.get? T=some (tabObj (ps++more))) (fo:Obj) (hfo:fo.isFreed=false) :
   Inv X pins σ (upd (upd (upd H T (.tbl (ps++more))) c' (.ext (qek c' q))) h'.objs.size (.ext (qjN h'.objs.size fo))) { s with heap:=h'.push fo,toks:=t' }:=by
 have Tlt:T < s.heap.objs.size:=I.hok.lt hT;have nTc:T≠c':=Nat.ne_of_lt (Nat.lt_of_lt_of_le Tlt c0);have Tf:T < h'.objs.size:=Heap.lt_size ht;have nTf:T≠h'.objs.size:=Nat.ne_of_lt Tf;have ncf:c'≠h'.objs.size:=Nat.ne_of_lt c1;have hcn:H c'=none:=I.hok.fresh c0;have sle:s.heap.objs.size≤h'.objs.size:=Nat.le_trans c0 (Nat.le_of_lt c1);have hfn:H h'.objs.size=none:=I.hok.fresh sle;have oth:∀ b,b≠T->b≠c'->b≠h'.objs.size->upd (upd (upd H T (.tbl (ps++more))) c' (.ext (qek c' q))) h'.objs.size (.ext (qjN h'.objs.size fo)) b=H b:=fun b n1 n2 n3=>by rw[qg n3,qg n2,qg n1]
 have kp:∀ b o,b≠T->s.heap.get? b=some o->(h'.push fo).get? b=some o:=fun b o n e=>Heap.get?_push_of_some _ (hx b o n e);have nT:∀ {b u},H b=some u->u≠.tbl ps->b≠T:=fun e n z=>by rw[z,hT]at e;exact n (Option.some.inj e).symm
 have nc:∀ {b u},H b=some u->b≠c':=fun e z=>by rw[z,hcn]at e;cases e
 have nf:∀ {b u},H b=some u->b≠h'.objs.size:=fun e z=>by rw[z,hfn]at e;cases e
 have same:∀ {b u},H b=some u->u≠.tbl ps->upd (upd (upd H T (.tbl (ps++more))) c' (.ext (qek c' q))) h'.objs.size (.ext (qjN h'.objs.size fo)) b=some u:=fun e n=>by rw[oth _ (nT e n) (nc e) (nf e)];exact e
 refine I.un ⟨fun b o e n _ _=>kp b o (fun z=>by rw[z,hT]at n;cases n) e,fun b o e n _ _=>⟨o.slots,kp b o (fun z=>by rw[z,hT]at n;cases n) e⟩,fun b o e n _=>?_,fun b o e _=>?_,fun b xs e=>same e (by intro z;cases z),fun b o u e=>same e (by intro z;cases z),fun b qs e=>?_⟩ fun b u e=>?_
 · have lt:=Heap.lt_size e;rw[oth b (fun z=>by rw[z,hT]at n;cases n) (Nat.ne_of_lt (Nat.lt_of_lt_of_le lt c0)) (Nat.ne_of_lt (Nat.lt_of_lt_of_le lt sle))];exact n
 · by_cases z:b=T
   · subst z;exact⟨_,Heap.get?_push_of_some _ ht⟩
   · exact⟨o,kp b o z e⟩
 · by_cases z:b=T
   · subst z;rw[hT]at e;cases e;exact⟨more,by rw[qg nTf,qg nTc,qd]⟩
   · rw[oth b z (nc e) (nf e)];exact⟨#[],by rw[e];simp⟩
 · by_cases z3:b=h'.objs.size
   · subst z3;rw[qd]at e;cases e;exact qgi (Heap.get?_push_size _ hfo)
   · rw[qg z3]at e;by_cases z2:b=c'
     · subst z2;rw[qd]at e;cases e;exact qih (hr.push fo)
     · rw[qg z2]at e;by_cases z1:b=T
       · subst z1;rw[qd]at e;cases e;exact Heap.get?_push_of_some _ ht
       · rw[qg z1]at e;refine(I.hok b u e).stay (fun c v hc g=>kp c v (fun z=>?_) g) (fun c r=>same r (by intro z;cases z)) fun c xs r=>same r (by intro z;cases z);rcases hc with hc|hc
         · exact z1 (hc▸z)
         · rw[z,hT]at hc;cases hc
def qlM (X:Cx) (params:Arguments) (body:Expr) (scope:Scope) (c:Addr) (o:Obj):Prop :=
 ∃ pm ctv,o=kla_obj "<lambda>" (X.env.qual++"<lambda>") params body scope (Qm X.env.cells scope.names []) pm c ctv
def qme (X:Cx) (T:Addr) (pos:Pos) (params:Arguments) (body:Expr) (scope:Scope):TE:=fun σ H Q=>qk5 H T pos (X.env.qual++"<lambda>") ∧
 ∀ (f c:Addr) (o:Obj) (H':Hp),H f=none->f≠T->But T H H'->qk5 H' T pos (X.env.qual++"<lambda>")->H' f=some (.ext (qjN f o))->H' c=some (.ext (qek c (X.env.qual++"<lambda>")))->qlM X params body scope c o->Q (.ref f) H'
theorem qku {params:Arguments}{body:Expr}{scope:Scope}{pos:Pos}{c T:Addr} (hdef:defaultsOf params X.env=([],[])) (hfree:∀ y∈scope.names,y.2=.free->∃ c,X.env.cells.lookup y.1=some c) (hcode:X.env.code=.ref c)
   (hcd:PySem.W.codeHdIn X.K c T=true) (hbm:qik X.mg X.base):PE X (.Lambda params body scope pos) (qme X T pos params body scope):=by
 intro pins s σ H Q I h;obtain⟨⟨ps,hT,tr,hc⟩,h⟩:=h;have tb:s.heap.get? T=some (tabObj ps):=(show ObjOk X.prog X.w H s.heap T (.tbl ps) from I.hok T _ hT)
 have hg:s.heap.Ns mainGlobals X.mg:=I.mod.glob.keeps I.bk;have CH:=PySem.W.codeHd_of_K I.kIn hcd;obtain⟨bm,ob,b1,b2,b4,b5,b6,b7⟩:=hbm;have hbo:=I.bk bm ob b4
 have b3:bm≠mainGlobals:=fun z=>by
   obtain⟨o,es,ep,e,d,_⟩:=hg;rw[← z,hbo]at e;cases e;rw[b7]at d;cases d
 have nbT:bm≠T:=fun z=>by rw[z,tb]at hbo;cases hbo;cases b5
 have ngT:mainGlobals≠T:=fun z=>by
   obtain⟨o,es,ep,e,d,_⟩:=hg;rw[z,tb]at e;cases e;cases d
 have BA:s.heap.BuiltinsAt X.mg T:=⟨bm,ob,b1,b2,b3,nbT,hbo,b5,b6,b7⟩
 refine PySem.W.kla_eval hdef ?_;rcases hc with hn|⟨c',hc,hc'⟩
 · refine PySem.W.kla_makeFunction (clos:=Qm X.env.cells scope.names []) (JB hfree) I.ok.glob hg hcode CH tb tr hn ngT BA fun c' ctv h' tk hx hge hlt hrec htb=>?_;have Tlt:T < s.heap.objs.size:=I.hok.lt hT;have hfn:H h'.objs.size=none:=I.hok.fresh (Nat.le_trans hge (Nat.le_of_lt hlt));have hcn:H c'=none:=I.hok.fresh hge;have ncf:c'≠h'.objs.size:=Nat.ne_of_lt hlt;have nTf:T≠h'.objs.size:=Nat.ne_of_lt (Nat.lt_of_lt_of_le Tlt (Nat.le_trans hge (Nat.le_of_lt hlt)));have nTc:T≠c':=Nat.ne_of_lt (Nat.lt_of_lt_of_le Tlt hge);have J:=I.lam (t':=tk) hT hx hge hlt hrec htb (kla_obj "<lambda>" (X.env.qual++"<lambda>") params body scope (Qm X.env.cells scope.names []) ((X.mg "__name__").getD .none) c' ctv) rfl;refine⟨.ref h'.objs.size,_,J,rfl,h _ c' _ _ hfn (Ne.symm nTf) (fun b o e n=>?_) ⟨_,by rw[qg nTf,qg nTc,qd],?_,.inr ⟨c',?_,by rw[qg ncf,qd]⟩⟩ qd (by rw[qg ncf,qd]) ⟨_,_,rfl⟩⟩
   · rw[qg (qi e hfn),qg (qi e hcn),qg n];exact e
   · rw[Array.toList_append];exact JD tr
   · rw[Array.toList_append];exact codeAmong_snoc _ tr hn
 · refine PySem.W.kla_makeFunctionHit (clos:=Qm X.env.cells scope.names []) (JB hfree) I.ok.glob hg hcode CH tb tr hc BA fun ctv h' tk hk hsz=>?_;have hfn:H h'.objs.size=none:=I.hok.fresh hsz;have S:=Same.new (.ext (qjN h'.objs.size (kla_obj "<lambda>" (X.env.qual++"<lambda>") params body scope (Qm X.env.cells scope.names []) ((X.mg "__name__").getD .none) c' ctv))) hfn;refine⟨.ref h'.objs.size,_,I.laid (t':=tk) (fun b o e=>Heap.get?_push_of_some _ (hk b o e)) hsz (qgi (Heap.get?_push_size _ rfl)),rfl,h _ c' _ _ hfn (qi hT hfn).symm (fun b o e _=>S b o e) ⟨ps,S _ _ hT,tr,.inr ⟨c',hc,S _ _ hc'⟩⟩ qd (S _ _ hc') ⟨_,_,rfl⟩⟩
end
theorem Fun.okC {P:Program}{w:World}{K:Frag}{mg:Str->Option Value}{base:Heap}{x qual:Str}{st:Stmt}{f c:Addr}{fd:FuncData}{N ps:List Str}{k:Nat}{sp:Sp} (F:Fun K x qual st f fd) (hc:fd.code=.ref c) (S:qo N ps (qh st)) (len:∀ vs H Q E,sp vs H Q E->vs.length=ps.length)
   (hbody:∀ (cdv:Value) (A:Around) (outer:List Env) (s:Shared) (H:Hp) (vs:List V) (Q:VK) (E:XK),cdv=.ref c->Room k (A.deeper (envOfC qual (qh st) s.heap.objs.size f cdv))->sp vs H Q E ->
     ∃ t,PSs (zf CX0 P w K mg base N qual (qh st) f cdv A outer s H E).nox (zH st) t∧t { nx:=fun _ H'=>Q .non H',rt:=Q } (qby N vs) H):qu P w K mg base CX0 (k+1) f fd ps sp:=by
 obtain⟨oc,od,kV,doc,pm,an,cdv,ct,osl,rfl,lk,hcd⟩:=F.ex;refine qjF lk hcd S len fun A outer s H vs Q E hr hsp=>?_;obtain⟨t,h,q⟩:=hbody cdv A outer s H vs Q E hc hr hsp;exact⟨t,h.nox,q⟩
section
variable {X:Cx}
def JZ:V->Bool
 | .non=>true
 | .bl _=>true
 | .int _=>true
 | .str _=>true
 | .ref _=>true
 | _=>false
theorem qff {A:Around}{s:Shared}{v:V}{a b:Value} (h:JZ v=true) (ra:RelV v a) (rb:RelV v b):SeqAt.EqAt A s a b true:=by
 cases v with
 | non=>cases (show a=Value.none from ra);cases (show b=Value.none from rb);exact SeqAt.EqAt.same _
 | bl c=>cases (show a=Value.bool c from ra);cases (show b=Value.bool c from rb);exact SeqAt.EqAt.same _
 | int i =>
   obtain⟨t,q⟩:=(show ∃ t,a=Value.int i t from ra)
   obtain⟨t',q'⟩:=(show ∃ t,b=Value.int i t from rb)
   cases q;cases q'
   have:=keq_flat (A:=A) (s:=s) (.int i t) (.int i t')
   simpa[PyData.eqv] using this
 | str x =>
   obtain⟨t,q⟩:=(show ∃ t,a=Value.str x t from ra)
   obtain⟨t',q'⟩:=(show ∃ t,b=Value.str x t from rb)
   cases q;cases q'
   have:=keq_flat (A:=A) (s:=s) (.str x t) (.str x t')
   simpa[PyData.eqv] using this
 | ref p=>cases (show a=Value.ref p from ra);cases (show b=Value.ref p from rb);exact SeqAt.EqAt.same _
 | _=>cases h
theorem qbQ {K:Frag}{C x:Addr}{ox:Obj}{od:Option Obj} (c:XC K C):∀ {cs:List Addr}{bs:List Bool},Paired (fun D b=>zh K C (.ref D)=some b) cs bs->AnswersAll (XP K C x ox od) (.ref x) (cs.map Value.ref) bs
 | [],[],.nil=>True.intro
 | D::cs,b::bs,.cons h t=>⟨qfw c h,qbQ c t⟩
def qkk (K:Frag):List V->Hp->VK->Prop:=fun xs H Q=>∃ (e:V) (C tp:Addr) (cs:List Addr) (bs:List Bool),xs=[e,.ref tp]∧XE K H e C∧H tp=some (.tup (cs.map V.ref))∧Paired (fun D b=>zh K C (.ref D)=some b) cs bs∧Q (.bl (bs.any id)) H
theorem qgZ:Zg X (.builtin "isinstance") (qkk X.K):=by
 intro pins s σ H xs us Q I r h;obtain⟨e,C,tp,cs,bs,rfl,⟨xc,ea,rfl,h⟩,htp,hi,q⟩:=h;obtain⟨u,w',rfl,ru,rw'⟩:=qc0 r;cases (show u=Value.ref ea from ru);cases (show w'=Value.ref tp from rw');obtain⟨its,tv,⟨ob,hg,hc,n,hd⟩,_⟩:=I.tuple (SqT.of htp);have hv:=qdo tv;subst hv
 have J:∃ ox od,PySem.W.InstAt s.heap ea ox C od:=by
   rcases h with h|⟨dx,fs,h,hd⟩
   · obtain⟨ox,J⟩:=qft I h;exact⟨ox,none,J⟩
   · obtain⟨ox,od,mA,J,hl,_⟩:=qfu I h hd;exact⟨ox,od,J⟩
 obtain⟨ox,od,J⟩:=J
 have hne:C≠tp:=by
   intro z;subst z;obtain⟨cd,bm,hcd,_⟩:=xcd xc.xi;unfold PySem.W.clsIn at hcd;split at hcd
   · rename_i c' d' cd' sl' ho
     have:=I.kIn _ _ ho
     rw[this]at hg;cases hg;cases hd
   · cases hcd
 exact qjU (cs:=cs.map Value.ref) I.kIn J hne hg hc hd (qbQ xc hi) fun t=>⟨.bl (bs.any id),H,I.tok t,rfl,q⟩
end
end L2
namespace SetO
open PySem
end SetO
set_option maxHeartbeats 8000000
namespace L2
open PySem PySem.Spec PyProof.Rows
open PySem.W (Frag)
inductive qeE (K:Frag) (x:V) (y:V) (H:Hp) (Q:VK):Prop
 | mk (p b xs:_) (h1:x=.ref p) (h2:y=.ref b) (h3:SqL K H p xs) (h4:SqL K H b []) (h5:Q (.bl (!xs.isEmpty)) H):qeE K x y H Q
def qkj (K:Frag):R2:=fun x y H Q=>qeE K x y H Q
theorem qhK {X:Cx} (hu:X.A.units+64 < cLine):OpR X (compareOp .NotEq) (qkj X.K):=by
 intro pins s σ H x y v u Q I rx ry h;obtain⟨p,b,xs,rfl,rfl,hp,hb,q⟩:=h;cases rx;cases ry;obtain⟨its,rv,pl,_⟩:=I.list hp;obtain⟨its2,rv2,pl2,_⟩:=I.list hb;cases rv2;have hl:=rv.length
 cases xs with
 | nil =>
   cases rv;exact SeqAt.RcNeAt.lists (e:=fun _=>true) pl.isList pl2.isList rfl (by omega) (fun j h1 h2=>by simp at h1) _ _ _ _ ⟨.bl false,H,I,rfl,q⟩
 | cons a r=>exact SeqAt.RcNeAt.lists_lengths pl.isList pl2.isList (by simp;intro z;rw[z]at hl;cases hl) (by omega) _ _ _ _ ⟨.bl true,H,I,rfl,q⟩
end L2
namespace L2
open PySem PySem.Spec PyProof.Rows
section
variable {X:Cx}
inductive SelfN (H:Hp):V->Prop
 | flat {v:V} (h:qll v v=true):SelfN H v
 | lst {a:Addr}{xs:List V} (h:H a=some (.lst xs)):SelfN H (.ref a)
 | tup {a:Addr}{xs:List V} (h:H a=some (.tup xs)):SelfN H (.ref a)
 | dct {a:Addr} (h:H a=some (.dK [])):SelfN H (.ref a)
theorem SelfN.same {H H':Hp}{v:V} (h:SelfN H v) (s:Same H H'):SelfN H' v:=by
 cases h with
 | flat h=>exact .flat h
 | lst h=>exact .lst (s _ _ h)
 | tup h=>exact .tup (s _ _ h)
 | dct h=>exact .dct (s _ _ h)
def qjd:R2:=fun x y H Q=>x=y∧SelfN H x∧Q (.bl false) H
theorem qgc (hu:X.A.units+64 < cLine):OpR X (compareOp .NotEq) qjd:=by
 intro pins s σ H x y v u Q I rx ry h;obtain⟨rfl,hs,q⟩:=h
 cases hs with
 | flat hs=>exact op_ne pins s σ H x x v u Q I rx ry ⟨hs,by rw[decide_eq_true rfl];exact q⟩
 | @lst a xs ha =>
   cases (show v=Value.ref a from rx);cases (show u=Value.ref a from ry);obtain⟨_,i1,n1,r1,l1,e1⟩:=I.lstM ha;have k:=SeqAt.RcNeAt.lists (A:=X.A) (s:=s) (e:=fun _=>true) ⟨_,e1,rfl,_,rfl⟩ ⟨_,e1,rfl,_,rfl⟩ rfl (by omega) (fun j h1 h2=>SeqAt.EqAt.same _);refine k _ _ _ _ ⟨.bl false,H,I,?_,q⟩;rw[show (List.range i1.toArray.size).all (fun _=>true)=true by simp];rfl
 | @tup a xs ha =>
   cases (show v=Value.ref a from rx);cases (show u=Value.ref a from ry);obtain⟨its,tv,⟨ob,hg,hc,n,hd⟩,_⟩:=I.tuple (SqT.of ha);have k:=SeqAt.RcNeAt.tuples (A:=X.A) (s:=s) (e:=fun _=>true) ⟨ob,hg,hc,n,hd⟩ ⟨ob,hg,hc,n,hd⟩ (by omega) (fun j h1 h2=>SeqAt.EqAt.same _);refine k _ _ _ _ ⟨.bl false,H,I,?_,q⟩;rw[show (List.range (min its.toArray.size its.toArray.size)).all (fun _=>true)=true by simp];simp[RelV]
 | @dct a ha =>
   cases (show v=Value.ref a from rx);cases (show u=Value.ref a from ry);obtain⟨_,hs,vs,kv,d⟩:=(show ObjOk X.prog X.w H s.heap a (.dK []) from I.hok a _ ha)
   cases kv;exact PySem.W.keq_ne (r:=true) hs hs d d (by omega) (fun _=>.nil) ⟨.bl false,H,I,rfl,q⟩
inductive Tw (H:Hp):Nat->V->V->Prop
 | same {n:Nat}{v:V} (h:JZ v=true):Tw H n v v
 | lst {n:Nat}{a b:Addr}{xs ys:List V} (ha:H a=some (.lst xs)) (hb:H b=some (.lst ys)) (hl:xs.length=ys.length) (h:∀ (j:Nat) (x y:V),xs[j]?=some x->ys[j]?=some y->Tw H n x y):Tw H (n+1) (.ref a) (.ref b)
 | tup {n:Nat}{a b:Addr}{xs ys:List V} (ha:H a=some (.tup xs)) (hb:H b=some (.tup ys)) (hl:xs.length=ys.length) (h:∀ (j:Nat) (x y:V),xs[j]?=some x->ys[j]?=some y->Tw H n x y):Tw H (n+1) (.ref a) (.ref b)
theorem Tw.lstS {H:Hp}{n:Nat}{a b:Addr}{xs:List V} (ha:H a=some (.lst xs)) (hb:H b=some (.lst xs)) (h:xs.all JZ=true):Tw H (n+1) (.ref a) (.ref b) :=
 .lst ha hb rfl fun j x y e1 e2=>by
   rw[e1]at e2;cases e2;exact .same (List.all_eq_true.mp h _ (List.mem_of_getElem? e1))
theorem Tw.tupS {H:Hp}{n:Nat}{a b:Addr}{xs:List V} (ha:H a=some (.tup xs)) (hb:H b=some (.tup xs)) (h:xs.all JZ=true):Tw H (n+1) (.ref a) (.ref b) :=
 .tup ha hb rfl fun j x y e1 e2=>by
   rw[e1]at e2;cases e2;exact .same (List.all_eq_true.mp h _ (List.mem_of_getElem? e1))
theorem Tw.eqAt {pins:List (Addr×Obj)}{σ:St}{H:Hp}{s:Shared} (I:Inv X pins σ H s) {n:Nat}{x y:V} (t:Tw H n x y):∀ (A:Around) (u v:Value),RelV x u->RelV y v->A.units+n < cLine->SeqAt.EqAt A s u v true:=by
 induction t with
 | same h=>intro A u v r1 r2 _;exact qff h r1 r2
 | @lst n a b xs ys ha hb hl _ ih =>
   intro A u v r1 r2 hu;cases (show u=Value.ref a from r1);cases (show v=Value.ref b from r2);by_cases e:a=b
   · subst e;exact SeqAt.EqAt.same _
   obtain⟨_,i1,n1,q1,l1,e1⟩:=I.lstM ha;obtain⟨_,i2,n2,q2,l2,e2⟩:=I.lstM hb;have hs1:i1.toArray.size=xs.length:=by rw[List.size_toArray];exact q1.length.symm
   have hs2:i2.toArray.size=ys.length:=by rw[List.size_toArray];exact q2.length.symm
   have k:=SeqAt.RcAt.lists (A:=A) (s:=s) (e:=fun _=>true) ⟨_,e1,rfl,_,rfl⟩ ⟨_,e2,rfl,_,rfl⟩ (by omega) (by omega) (fun j h1 h2=>by
     have j1:j < xs.length:=by omega
     have j2:j < ys.length:=by omega
     obtain⟨w1,g1,p1⟩:=q1.get (List.getElem?_eq_getElem j1);obtain⟨w2,g2,p2⟩:=q2.get (List.getElem?_eq_getElem j2);have z1:i1.toArray[j]=w1:=by simpa using (List.getElem?_eq_some_iff.mp g1).2
     have z2:i2.toArray[j]=w2:=by simpa using (List.getElem?_eq_some_iff.mp g2).2
     rw[z1,z2]
     exact ih j _ _ (List.getElem?_eq_getElem j1) (List.getElem?_eq_getElem j2) _ _ _ p1 p2 (by rw[Around.in1_units];omega))
   rw[show (List.range i1.toArray.size).all (fun _=>true)=true by simp]at k;exact SeqAt.EqAt.of_refs e k
 | @tup n a b xs ys ha hb hl _ ih =>
   intro A u v r1 r2 hu;cases (show u=Value.ref a from r1);cases (show v=Value.ref b from r2);by_cases e:a=b
   · subst e;exact SeqAt.EqAt.same _
   obtain⟨i1,q1,⟨o1,g1',c1,n1,d1⟩,_⟩:=I.tuple (SqT.of ha);obtain⟨i2,q2,⟨o2,g2',c2,n2,d2⟩,_⟩:=I.tuple (SqT.of hb);have hs1:i1.toArray.size=xs.length:=by rw[List.size_toArray];exact q1.length.symm
   have hs2:i2.toArray.size=ys.length:=by rw[List.size_toArray];exact q2.length.symm
   have k:=SeqAt.RcAt.tuples (A:=A) (s:=s) (e:=fun _=>true) ⟨o1,g1',c1,n1,d1⟩ ⟨o2,g2',c2,n2,d2⟩ (by omega) (fun j h1 h2=>by
     have j1:j < xs.length:=by omega
     have j2:j < ys.length:=by omega
     obtain⟨w1,g1,p1⟩:=q1.get (List.getElem?_eq_getElem j1);obtain⟨w2,g2,p2⟩:=q2.get (List.getElem?_eq_getElem j2);have z1:i1.toArray[j]=w1:=by simpa using (List.getElem?_eq_some_iff.mp g1).2
     have z2:i2.toArray[j]=w2:=by simpa using (List.getElem?_eq_some_iff.mp g2).2
     rw[z1,z2]
     exact ih j _ _ (List.getElem?_eq_getElem j1) (List.getElem?_eq_getElem j2) _ _ _ p1 p2 (by rw[Around.in1_units];omega))
   rw[show (List.range (min i1.toArray.size i2.toArray.size)).all (fun _=>true)=true by simp,hs1,hs2,hl,beq_self_eq_true]at k;exact SeqAt.EqAt.of_refs e k
theorem Tw.all {H:Hp}{n:Nat}{xs:List V} (h:xs.all JZ=true):∀ (j:Nat) (x y:V),xs[j]?=some x->xs[j]?=some y->Tw H n x y:=fun j x y e1 e2=>by
 rw[e1]at e2;cases e2;exact .same (List.all_eq_true.mp h _ (List.mem_of_getElem? e1))
def qki:R2:=fun x y H Q=>∃ (a b:Addr) (xs ys:List V),x=.ref a∧y=.ref b∧H a=some (.tup xs)∧H b=some (.tup ys)∧xs.length=ys.length∧(∀ (j:Nat) (x y:V),xs[j]?=some x->ys[j]?=some y->Tw H 16 x y)∧Q (.bl false) H
theorem qhJ (hu:X.A.units+64 < cLine):OpR X (compareOp .NotEq) qki:=by
 intro pins s σ H x y v u Q I rx ry h;obtain⟨a,b,xs,ys,rfl,rfl,ha,hb,hl,tw,q⟩:=h;cases (show v=Value.ref a from rx);cases (show u=Value.ref b from ry);obtain⟨i1,q1,⟨o1,g1',c1,n1,d1⟩,_⟩:=I.tuple (SqT.of ha);obtain⟨i2,q2,⟨o2,g2',c2,n2,d2⟩,_⟩:=I.tuple (SqT.of hb);have hs1:i1.toArray.size=xs.length:=by rw[List.size_toArray];exact q1.length.symm
 have hs2:i2.toArray.size=ys.length:=by rw[List.size_toArray];exact q2.length.symm
 have k:=SeqAt.RcNeAt.tuples (A:=X.A) (s:=s) (e:=fun _=>true) ⟨o1,g1',c1,n1,d1⟩ ⟨o2,g2',c2,n2,d2⟩ (by omega) (fun j h1 h2=>by
   have j1:j < xs.length:=by omega
   have j2:j < ys.length:=by omega
   obtain⟨w1,g1,p1⟩:=q1.get (List.getElem?_eq_getElem j1);obtain⟨w2,g2,p2⟩:=q2.get (List.getElem?_eq_getElem j2);have z1:i1.toArray[j]=w1:=by simpa using (List.getElem?_eq_some_iff.mp g1).2
   have z2:i2.toArray[j]=w2:=by simpa using (List.getElem?_eq_some_iff.mp g2).2
   rw[z1,z2]
   exact(tw j _ _ (List.getElem?_eq_getElem j1) (List.getElem?_eq_getElem j2)).eqAt I _ _ _ p1 p2 (by rw[Around.in1_units];omega))
 rw[show (List.range (min i1.toArray.size i2.toArray.size)).all (fun _=>true)=true by simp,hs1,hs2,hl,beq_self_eq_true]at k;exact k _ _ _ _ ⟨.bl false,H,I,rfl,q⟩
def qlt:R2:=fun x y H Q=>∃ (a b:Addr) (xs ys:List V),x=.ref a∧y=.ref b∧H a=some (.lst xs)∧H b=some (.lst ys)∧xs.length=ys.length∧(∀ (j:Nat) (x y:V),xs[j]?=some x->ys[j]?=some y->Tw H 16 x y)∧Q (.bl true) H
theorem qjn (hu:X.A.units+64 < cLine):OpR X (compareOp .Eq) qlt:=by
 intro pins s σ H x y v u Q I rx ry h;obtain⟨a,b,xs,ys,rfl,rfl,ha,hb,hl,tw,q⟩:=h;cases (show v=Value.ref a from rx);cases (show u=Value.ref b from ry);obtain⟨_,i1,n1,q1,l1,e1⟩:=I.lstM ha;obtain⟨_,i2,n2,q2,l2,e2⟩:=I.lstM hb;have hs1:i1.toArray.size=xs.length:=by rw[List.size_toArray];exact q1.length.symm
 have hs2:i2.toArray.size=ys.length:=by rw[List.size_toArray];exact q2.length.symm
 refine SeqAt.eq_listAt (e:=fun _=>true) ⟨_,e1,rfl,_,rfl⟩ ⟨_,e2,rfl,_,rfl⟩ (by omega) (by omega) (fun j h1 h2=>?_) ⟨.bl true,H,I,?_,q⟩
 · have j1:j < xs.length:=by omega
   have j2:j < ys.length:=by omega
   obtain⟨w1,g1,p1⟩:=q1.get (List.getElem?_eq_getElem j1);obtain⟨w2,g2,p2⟩:=q2.get (List.getElem?_eq_getElem j2);have z1:i1.toArray[j]=w1:=by simpa using (List.getElem?_eq_some_iff.mp g1).2
   have z2:i2.toArray[j]=w2:=by simpa using (List.getElem?_eq_some_iff.mp g2).2
   rw[z1,z2];exact(tw j _ _ (List.getElem?_eq_getElem j1) (List.getElem?_eq_getElem j2)).eqAt I _ _ _ p1 p2 (by rw[Around.in1_units];omega)
 · rw[show (List.range i1.toArray.size).all (fun _=>true)=true by simp];rfl
end
theorem Gh.cut {p:Addr}{H:Hp} (h:PenAt H p):Gh p (cut H [p]) H:=⟨qic H [p],qiL (List.mem_singleton.mpr rfl),h⟩
theorem JA {p b:Addr}{H:Hp} (h:b≠p):cut H [p] b=H b:=qgS fun m=>h (List.mem_singleton.mp m)
theorem PenAt.nk {H:Hp}{p b:Addr}{o:HO} (h:PenAt H p) (e:H b=some o) (n:∀ xs,o≠.lst xs):b≠p:=fun z=>by
 obtain⟨_,_,_,_,q⟩:=h;rw[z,q]at e;injection e with e;exact n _ e.symm
theorem PenAt.but {H H':Hp}{p q:Addr} (h:PenAt H p) (b:But q H H') (n:q≠p):PenAt H' p:=by
 obtain⟨c,x,y,k,e⟩:=h;exact⟨c,x,y,k,b _ _ e (Ne.symm n)⟩
end L2
namespace M04
open L2
def Mem (ws:List (Int×Int)) (n:Int):Prop:=∃ w∈ws,w.1≤n∧n≤w.2
def Jk (ws:List (Int×Int)):Prop:=(∀ w∈ws,w.1≤w.2)∧ws.Pairwise fun a b=>a.2+1 < b.1
def qbS (acc:List (Int×Int)) (w:Int×Int):List (Int×Int):=match acc.getLast? with
 | some l=>if w.1≤l.2+1 then acc.set (acc.length - 1) (l.1,if w.2 > l.2 then w.2 else l.2) else acc++[w]
 | none=>[w]
theorem qcO (xs ys:List (Int×Int)) (n:Int):Mem (xs++ys) n↔Mem xs n∨Mem ys n:=by
 constructor
 · rintro⟨w,hw,h⟩;rcases List.mem_append.mp hw with m|m
   · exact .inl ⟨w,m,h⟩
   · exact .inr ⟨w,m,h⟩
 · rintro (⟨w,hw,h⟩|⟨w,hw,h⟩)
   · exact⟨w,List.mem_append.mpr (.inl hw),h⟩
   · exact⟨w,List.mem_append.mpr (.inr hw),h⟩
theorem qbc (w:Int×Int) (n:Int):Mem [w] n↔w.1≤n∧n≤w.2:=by
 constructor
 · rintro⟨x,hx,h⟩;have e:x=w:=by simpa using hx
   rw[← e];exact h
 · intro h;exact⟨w,by simp,h⟩
theorem mem_cons (w:Int×Int) (ws:List (Int×Int)) (n:Int):Mem (w::ws) n↔(w.1≤n∧n≤w.2)∨Mem ws n:=by
 rw[show w::ws=[w]++ws from rfl,qcO,qbc]
theorem qhZ {acc:List (Int×Int)}{l:Int×Int} (h:acc.getLast?=some l):∃ init,acc=init++[l] :=
 ⟨acc.dropLast,by
   have ne:acc≠[]:=fun z=>by rw[z]at h;cases h
   have e:acc.getLast ne=l:=by rw[List.getLast?_eq_some_getLast ne]at h;exact Option.some.inj h
   rw[← e];exact(List.dropLast_concat_getLast ne).symm⟩
theorem qht (init:List (Int×Int)) (l x:Int×Int):(init++[l]).set ((init++[l]).length - 1) x=init++[x]:=by
 rw[List.length_append,show init.length+[l].length - 1=init.length by simp,List.set_append_right _ _ (Nat.le_refl _),Nat.sub_self];rfl
theorem canon_snoc {init:List (Int×Int)}{l:Int×Int}:Jk (init++[l])↔Jk init∧l.1≤l.2∧∀ a∈init,a.2+1 < l.1:=by
 unfold Jk;constructor
 · rintro⟨h1,h2⟩;obtain⟨p1,_,p3⟩:=List.pairwise_append.mp h2;exact⟨⟨fun w m=>h1 w (by simp[m]),p1⟩,h1 l (by simp),fun a m=>p3 a m l (by simp)⟩
 · rintro⟨⟨h1,h2⟩,h3,h4⟩;refine⟨fun w m=>?_,List.pairwise_append.mpr ⟨h2,List.pairwise_singleton _ _,fun a ma b mb=>?_⟩⟩
   · rcases List.mem_append.mp m with m|m
     · exact h1 w m
     · have:w=l:=by simpa using m
       rw[this];exact h3
   · have:b=l:=by simpa using mb
     rw[this];exact h4 a ma
theorem qi4 {acc:List (Int×Int)}{w:Int×Int} (c:Jk acc) (hw:w.1≤w.2) (hl:∀ l∈acc,l.1≤w.1) :
   Jk (qbS acc w)∧(∀ n,Mem (qbS acc w) n↔Mem acc n∨(w.1≤n∧n≤w.2))∧∀ l∈qbS acc w,l.1≤w.1:=by
 cases e:acc.getLast? with
 | none =>
   have e0:acc=[]:=List.getLast?_eq_none_iff.mp e;subst e0;show Jk [w]∧(∀ n,Mem [w] n↔Mem [] n∨_)∧∀ l∈[w],l.1≤w.1;refine⟨⟨fun x m=>?_,List.pairwise_singleton _ _⟩,fun n=>?_,fun x m=>?_⟩
   · have:x=w:=by simpa using m
     rw[this];exact hw
   · rw[qbc];exact⟨.inr,fun h=>h.elim (fun⟨_,z,_⟩=>nomatch z) id⟩
   · have:x=w:=by simpa using m
     rw[this];exact Int.le_refl _
 | some l =>
   obtain⟨init,rfl⟩:=qhZ e;obtain⟨c1,c2,c3⟩:=canon_snoc.mp c;have hl1:=hl l (by simp);unfold qbS;rw[e];dsimp only;by_cases g:w.1≤l.2+1
   · rw[if_pos g,qht];refine⟨canon_snoc.mpr ⟨c1,by show l.1≤(if w.2 > l.2 then w.2 else l.2);split<;>omega,c3⟩,fun n=>?_,fun x m=>?_⟩
     · rw[qcO,qcO,qbc,qbc,or_assoc];show _∨(l.1≤n∧n≤(if w.2 > l.2 then w.2 else l.2))↔_
       have:(l.1≤n∧n≤(if w.2 > l.2 then w.2 else l.2))↔((l.1≤n∧n≤l.2)∨(w.1≤n∧n≤w.2)):=by
         split<;>omega
       rw[this]
     · rcases List.mem_append.mp m with m|m
       · exact hl x (by simp[m])
       · have:x=(l.1,if w.2 > l.2 then w.2 else l.2):=by simpa using m
         rw[this];exact hl1
   · rw[if_neg g];refine⟨canon_snoc.mpr ⟨c,hw,fun a m=>?_⟩,fun n=>by rw[qcO _ [w],qbc],fun x m=>?_⟩
     · rcases List.mem_append.mp m with m|m
       · have:=c3 a m;omega
       · have:a=l:=by simpa using m
         rw[this];omega
     · rcases List.mem_append.mp m with m|m
       · exact hl x m
       · have:x=w:=by simpa using m
         rw[this];exact Int.le_refl _
theorem qgK:∀ (S acc:List (Int×Int)),Jk acc->(∀ w∈S,w.1≤w.2)->S.Pairwise (fun a b=>a.1≤b.1)->(∀ l∈acc,∀ w∈S,l.1≤w.1)->Jk (S.foldl qbS acc)∧∀ n,Mem (S.foldl qbS acc) n↔Mem acc n∨Mem S n
 | [],acc,c,_,_,_=>⟨c,fun n=>⟨.inl,fun h=>h.elim id fun⟨_,z,_⟩=>nomatch z⟩⟩
 | w::S,acc,c,ok,hp,hl=>by
   obtain⟨p1,p2⟩:=List.pairwise_cons.mp hp;obtain⟨s1,s2,s3⟩:=qi4 c (ok w (by simp)) fun l m=>hl l m w (by simp);obtain⟨f1,f2⟩:=qgK S (qbS acc w) s1 (fun x m=>ok x (by simp[m])) p2 fun l m x mx=>Int.le_trans (s3 l m) (p1 x mx);refine⟨f1,fun n=>?_⟩;rw[List.foldl_cons,f2,s2,mem_cons,or_assoc]
theorem Z1 {w:Int×Int}{ws:List (Int×Int)} (c:Jk (w::ws)):Jk ws∧w.1≤w.2∧∀ n,Mem ws n->w.2+1 < n:=by
 obtain⟨h1,h2⟩:=c;obtain⟨p1,p2⟩:=List.pairwise_cons.mp h2;exact⟨⟨fun x m=>h1 x (by simp[m]),p2⟩,h1 w (by simp),fun n ⟨x,m,a,b⟩=>by have:=p1 x m;omega⟩
theorem qdL:∀ {xs ys:List (Int×Int)},Jk xs->Jk ys->(∀ n,Mem xs n↔Mem ys n)->xs=ys
 | [],[],_,_,_=>rfl
 | [],y::ys,_,c,h=>by
   obtain⟨_,k,_⟩:=Z1 c;obtain⟨_,z,_⟩:=(h y.1).mpr ((mem_cons _ _ _).mpr (.inl ⟨Int.le_refl _,k⟩));cases z
 | x::xs,[],c,_,h=>by
   obtain⟨_,k,_⟩:=Z1 c;obtain⟨_,z,_⟩:=(h x.1).mp ((mem_cons _ _ _).mpr (.inl ⟨Int.le_refl _,k⟩));cases z
 | x::xs,y::ys,c,d,h=>by
   obtain⟨c1,c2,c3⟩:=Z1 c;obtain⟨d1,d2,d3⟩:=Z1 d;have h':∀ n,((x.1≤n∧n≤x.2)∨Mem xs n)↔((y.1≤n∧n≤y.2)∨Mem ys n):=fun n=>by rw[← mem_cons,← mem_cons];exact h n
   have a1:y.1≤x.1:=by
     rcases (h' x.1).mp (.inl ⟨Int.le_refl _,c2⟩) with k|k
     · exact k.1
     · have:=d3 _ k;omega
   have a2:x.1≤y.1:=by
     rcases (h' y.1).mpr (.inl ⟨Int.le_refl _,d2⟩) with k|k
     · exact k.1
     · have:=c3 _ k;omega
   have b1:y.2≤x.2:=by
     rcases Int.lt_or_le x.2 y.2 with lt|le
     · rcases (h' (x.2+1)).mpr (.inl ⟨by omega,by omega⟩) with k|k
       · omega
       · have:=c3 _ k;omega
     · exact le
   have b2:x.2≤y.2:=by
     rcases Int.lt_or_le y.2 x.2 with lt|le
     · rcases (h' (y.2+1)).mp (.inl ⟨by omega,by omega⟩) with k|k
       · omega
       · have:=d3 _ k;omega
     · exact le
   have e:x=y:=Prod.ext (by omega) (by omega);subst e;rw[qdL c1 d1 fun n=>?_];constructor
   · intro k
     have:=c3 n k
     rcases (h' n).mp (.inr k) with z|z
     · omega
     · exact z
   · intro k
     have:=d3 n k
     rcases (h' n).mpr (.inr k) with z|z
     · omega
     · exact z
end M04
namespace K36
open PySem L2 PySem.NumText PyProof.Rows KC M04
open PySem.W (Frag keepIn mroIn kitOne fnOf codeIn nsIn)
def top (i:Nat):Stmt:=PySem.Challenge.pw_foldlog_k36_deeds_refused.main.body.getD i (.Pass ⟨0,0,0,0⟩)
abbrev qaO:Stmt:=top 20
theorem qdb:qo ["thing"] ["thing"] (qh qaO):=⟨rfl,rfl,rfl,by decide +kernel,rfl,by decide +kernel,by decide +kernel⟩
abbrev qb0:Stmt:=top 21
theorem qdZ:qo ["thing","low","high"] ["thing","low","high"] (qh qb0):=⟨rfl,rfl,rfl,by decide +kernel,rfl,by decide +kernel,by decide +kernel⟩
abbrev qaP:Stmt:=top 22
theorem qdc:qo ["thing"] ["thing"] (qh qaP):=⟨rfl,rfl,rfl,by decide +kernel,rfl,by decide +kernel,by decide +kernel⟩
abbrev JL:Stmt:=top 23
theorem qcq:qo ["thing"] ["thing"] (qh JL):=⟨rfl,rfl,rfl,by decide +kernel,rfl,by decide +kernel,by decide +kernel⟩
abbrev JN:Stmt:=top 24
theorem qcr:qo ["thing"] ["thing"] (qh JN):=⟨rfl,rfl,rfl,by decide +kernel,rfl,by decide +kernel,by decide +kernel⟩
abbrev qdk:Stmt:=top 25
theorem qe3:qo ["thing"] ["thing"] (qh qdk):=⟨rfl,rfl,rfl,by decide +kernel,rfl,by decide +kernel,by decide +kernel⟩
abbrev JK:Stmt:=top 27
theorem qcp:qo ["thing"] ["thing"] (qh JK):=⟨rfl,rfl,rfl,by decide +kernel,rfl,by decide +kernel,by decide +kernel⟩
abbrev QO:Stmt:=top 28
theorem sc_check_stretches:qo ["stretches","place","stretch"] ["stretches"] (qh QO):=⟨rfl,rfl,rfl,by decide +kernel,rfl,by decide +kernel,by decide +kernel⟩
abbrev qbZ:Stmt:=top 29
theorem sc_spans_of:qo ["stretches","told","low","high"] ["stretches"] (qh qbZ):=⟨rfl,rfl,rfl,by decide +kernel,rfl,by decide +kernel,by decide +kernel⟩
abbrev JQ:Stmt:=top 35
theorem qct:qo ["thing"] ["thing"] (qh JQ):=⟨rfl,rfl,rfl,by decide +kernel,rfl,by decide +kernel,by decide +kernel⟩
abbrev jj:Stmt:=top 36
theorem qaF:qo ["thing"] ["thing"] (qh jj):=⟨rfl,rfl,rfl,by decide +kernel,rfl,by decide +kernel,by decide +kernel⟩
abbrev ZB:Stmt:=top 37
theorem qad:qo ["thing"] ["thing"] (qh ZB):=⟨rfl,rfl,rfl,by decide +kernel,rfl,by decide +kernel,by decide +kernel⟩
abbrev j3:Stmt:=top 45
theorem sc_check_parts:qo ["parts","part"] ["parts"] (qh j3):=⟨rfl,rfl,rfl,by decide +kernel,rfl,by decide +kernel,by decide +kernel⟩
abbrev JP:Stmt:=top 46
theorem qcs:qo ["part","many"] ["part"] (qh JP):=⟨rfl,rfl,rfl,by decide +kernel,rfl,by decide +kernel,by decide +kernel⟩
abbrev qez:Stmt:=top 53
theorem qfV:qo ["thing","keyed"] ["thing","keyed"] (qh qez):=⟨rfl,rfl,rfl,by decide +kernel,rfl,by decide +kernel,by decide +kernel⟩
abbrev qey:Stmt:=top 56
theorem qfU:qo ["thing","widest"] ["thing","widest"] (qh qey):=⟨rfl,rfl,rfl,by decide +kernel,rfl,by decide +kernel,by decide +kernel⟩
abbrev qaN:Stmt:=top 57
theorem qda:qo ["rows","place"] ["rows","place"] (qh qaN):=⟨rfl,rfl,rfl,by decide +kernel,rfl,by decide +kernel,by decide +kernel⟩
abbrev JO:Stmt:=top 58
theorem sc_check_rows:qo ["rows","most","widest","place","row"] ["rows","most","widest"] (qh JO):=⟨rfl,rfl,rfl,by decide +kernel,rfl,by decide +kernel,by decide +kernel⟩
abbrev qf0:Stmt:=top 64
theorem qhu:qo ["_law_script","_law_k"] ["_law_script","_law_k"] (qh qf0):=⟨rfl,rfl,rfl,by decide +kernel,rfl,by decide +kernel,by decide +kernel⟩
abbrev qir:Stmt:=top 65
theorem sc_Lmix:qo ["_law_cell_here","_law_k","_law_number"] ["_law_cell_here","_law_k"] (qh qir):=⟨rfl,rfl,rfl,by decide +kernel,rfl,by decide +kernel,by decide +kernel⟩
abbrev qeA:Stmt:=top 66
theorem qfW:qo ["_law_cell_here"] ["_law_cell_here"] (qh qeA):=⟨rfl,rfl,rfl,by decide +kernel,rfl,by decide +kernel,by decide +kernel⟩
abbrev qfY:Stmt:=top 67
theorem sc_Lpull:qo ["_law_state","_law_many","_law_digit","_law_high","_law_low"] ["_law_state","_law_many"] (qh qfY):=⟨rfl,rfl,rfl,by decide +kernel,rfl,by decide +kernel,by decide +kernel⟩
abbrev Ja:Stmt:=top 68
theorem sc_Lmany_names:qo ["_law_state","_law_many","_law_letters","_law_word","_law_first","_law_step","_law_found","_law_k","_law_code","_law_ahead"] ["_law_state","_law_many"] (qh Ja):=⟨rfl,rfl,rfl,by decide +kernel,rfl,by decide +kernel,by decide +kernel⟩
abbrev qfZ:Stmt:=top 69
theorem sc_Ldeed:qo ["_law_log","_law_deed_here","_law_word"] ["_law_log","_law_deed_here"] (qh qfZ):=⟨rfl,rfl,rfl,by decide +kernel,rfl,by decide +kernel,by decide +kernel⟩
abbrev qb2:Stmt:=top 70
theorem sc_Lrefusal:qo ["_law_log","_law_deed_here","_law_told","_law_words","_law_kinds","e"] ["_law_log","_law_deed_here"] (qh qb2):=⟨rfl,rfl,rfl,by decide +kernel,rfl,by decide +kernel,by decide +kernel⟩
abbrev qfX:Stmt:=top 71
theorem sc_Lseen:qo ["_law_log","_law_names","_law_some"] ["_law_log"] (qh qfX):=⟨rfl,rfl,rfl,by decide +kernel,rfl,by decide +kernel,by decide +kernel⟩
abbrev qkd:Stmt:=top 72
theorem sc_Lis:qo ["_law_log","_law_deed_here","_law_word","_law_thing","_law_seen_here","_law_told"] ["_law_log","_law_deed_here","_law_word","_law_thing"] (qh qkd):=⟨rfl,rfl,rfl,by decide +kernel,rfl,by decide +kernel,by decide +kernel⟩
abbrev qb1:Stmt:=top 73
theorem sc_Lstrange:qo ["_law_state","_law_some"] ["_law_state"] (qh qb1):=⟨rfl,rfl,rfl,by decide +kernel,rfl,by decide +kernel,by decide +kernel⟩
abbrev j9:Stmt:=top 74
theorem sc_Lno_minutes:qo ["_law_state","_law_some"] ["_law_state"] (qh j9):=⟨rfl,rfl,rfl,by decide +kernel,rfl,by decide +kernel,by decide +kernel⟩
abbrev JV:Stmt:=top 75
theorem sc_Lno_number:qo ["_law_state","_law_many","_law_some"] ["_law_state","_law_many"] (qh JV):=⟨rfl,rfl,rfl,by decide +kernel,rfl,by decide +kernel,by decide +kernel⟩
abbrev JW:Stmt:=top 76
theorem sc_Lno_moment:qo ["_law_state","_law_some"] ["_law_state"] (qh JW):=⟨rfl,rfl,rfl,by decide +kernel,rfl,by decide +kernel,by decide +kernel⟩
abbrev Qv:Stmt:=top 77
theorem sc_Lquestions_right:qo ["_law_log","_law_state","_law_free","_law_turn","_law_thing","_law_word","_law_sort","_law_moment","_law_number"] ["_law_log","_law_state","_law_free"] (qh Qv):=⟨rfl,rfl,rfl,by decide +kernel,rfl,by decide +kernel,by decide +kernel⟩
abbrev j8:Stmt:=top 78
theorem sc_Lputs_right:qo ["_law_log","_law_state","_law_free","_law_names","_law_turn","_law_thing","_law_name","_law_entry","_law_place","_law_lone","_law_parts","_law_sifted"] ["_law_log","_law_state","_law_free"] (qh j8):=⟨rfl,rfl,rfl,by decide +kernel,rfl,by decide +kernel,by decide +kernel⟩
abbrev jr:Stmt:=top 79
theorem sc_Lbinds_right:qo ["_law_log","_law_state","_law_free","_law_names","_law_turn","_law_one","_law_other","_law_minutes","_law_first","_law_deed_here"] ["_law_log","_law_state","_law_free"] (qh jr):=⟨rfl,rfl,rfl,by decide +kernel,rfl,by decide +kernel,by decide +kernel⟩
abbrev ZF:Stmt:=top 80
theorem sc_Lbounds_right:qo ["_law_log","_law_state","_law_free","_law_names","_law_pair"] ["_law_log","_law_state","_law_free"] (qh ZF):=⟨rfl,rfl,rfl,by decide +kernel,rfl,by decide +kernel,by decide +kernel⟩
abbrev qkc:Stmt:=top 81
theorem sc_law:qo ["_law_script","_law_k","_law_state","_law_names","_law_free","_law_log","_law_place","_law_many","_law_name","_law_j"] ["_law_script"] (qh qkc):=⟨rfl,rfl,rfl,by decide +kernel,rfl,by decide +kernel,by decide +kernel⟩
abbrev JY:Stmt:=qF (top 38) 0
theorem qcz:qo ["self","name"] ["self","name"] (qh JY):=⟨rfl,rfl,rfl,by decide +kernel,rfl,by decide +kernel,by decide +kernel⟩
abbrev ju:Stmt:=qF (top 38) 2
theorem qaL:qo ["self"] ["self"] (qh ju):=⟨rfl,rfl,rfl,by decide +kernel,rfl,by decide +kernel,by decide +kernel⟩
abbrev Jb:Stmt:=qF (top 38) 3
theorem qbD:qo ["self","tables"] ["self","tables"] (qh Jb):=⟨rfl,rfl,rfl,by decide +kernel,rfl,by decide +kernel,by decide +kernel⟩
abbrev j4:Stmt:=qF (top 39) 0
theorem qbz:qo ["self","name","low","high"] ["self","name","low","high"] (qh j4):=⟨rfl,rfl,rfl,by decide +kernel,rfl,by decide +kernel,by decide +kernel⟩
abbrev jk:Stmt:=qF (top 39) 2
theorem qaG:qo ["self","tables"] ["self","tables"] (qh jk):=⟨rfl,rfl,rfl,by decide +kernel,rfl,by decide +kernel,by decide +kernel⟩
abbrev qdm:Stmt:=qF (top 40) 0
theorem qe4:qo ["self","name","moment"] ["self","name","moment"] (qh qdm):=⟨rfl,rfl,rfl,by decide +kernel,rfl,by decide +kernel,by decide +kernel⟩
abbrev jv:Stmt:=qF (top 41) 0
theorem qaM:qo ["self","name","place","low","high"] ["self","name","place","low","high"] (qh jv):=⟨rfl,rfl,rfl,by decide +kernel,rfl,by decide +kernel,by decide +kernel⟩
abbrev Zd:Stmt:=qF (top 41) 2
theorem Js:qo ["self"] ["self"] (qh Zd):=⟨rfl,rfl,rfl,by decide +kernel,rfl,by decide +kernel,by decide +kernel⟩
abbrev qaQ:Stmt:=qF (top 42) 0
theorem qdd:qo ["self","name","place","reading"] ["self","name","place","reading"] (qh qaQ):=⟨rfl,rfl,rfl,by decide +kernel,rfl,by decide +kernel,by decide +kernel⟩
abbrev JX:Stmt:=qF (top 43) 0
theorem qcy:qo ["self","name","parts"] ["self","name","parts"] (qh JX):=⟨rfl,rfl,rfl,by decide +kernel,rfl,by decide +kernel,by decide +kernel⟩
abbrev jt:Stmt:=qF (top 43) 3
theorem sc_Joint_places:qo ["self","told","part"] ["self"] (qh jt):=⟨rfl,rfl,rfl,by decide +kernel,rfl,by decide +kernel,by decide +kernel⟩
abbrev j5:Stmt:=qF (top 44) 0
theorem qbA:qo ["self","name","part","keeps"] ["self","name","part","keeps"] (qh j5):=⟨rfl,rfl,rfl,by decide +kernel,rfl,by decide +kernel,by decide +kernel⟩
abbrev ZC:Stmt:=qF (top 44) 2
theorem qae:qo ["self"] ["self"] (qh ZC):=⟨rfl,rfl,rfl,by decide +kernel,rfl,by decide +kernel,by decide +kernel⟩
abbrev qb3:Stmt:=qF (top 54) 0
theorem qd0:qo ["self"] ["self"] (qh qb3):=⟨rfl,rfl,rfl,by decide +kernel,rfl,by decide +kernel,by decide +kernel⟩
abbrev qaV:Stmt:=qF (top 54) 1
theorem qdi:qo ["self","place","table"] ["self","place","table"] (qh qaV):=⟨rfl,rfl,rfl,by decide +kernel,rfl,by decide +kernel,by decide +kernel⟩
abbrev qdl:Stmt:=qF (top 54) 2
theorem sc_Log_put:qo ["self","entry","place"] ["self","entry"] (qh qdl):=⟨rfl,rfl,rfl,by decide +kernel,rfl,by decide +kernel,by decide +kernel⟩
abbrev qb5:Stmt:=qF (top 54) 3
theorem qd2:qo ["self","later","earlier","minutes"] ["self","later","earlier","minutes"] (qh qb5):=⟨rfl,rfl,rfl,by decide +kernel,rfl,by decide +kernel,by decide +kernel⟩
abbrev JT:Stmt:=qF (top 54) 4
theorem qcw:qo ["self","number"] ["self","number"] (qh JT):=⟨rfl,rfl,rfl,by decide +kernel,rfl,by decide +kernel,by decide +kernel⟩
abbrev qb4:Stmt:=qF (top 54) 5
theorem qd1:qo ["self","name"] ["self","name"] (qh qb4):=⟨rfl,rfl,rfl,by decide +kernel,rfl,by decide +kernel,by decide +kernel⟩
abbrev QP:Stmt:=qF (top 54) 6
theorem jZ:qo ["self","name"] ["self","name"] (qh QP):=⟨rfl,rfl,rfl,by decide +kernel,rfl,by decide +kernel,by decide +kernel⟩
abbrev Zc:Stmt:=qF (top 54) 7
theorem Jr:qo ["self","number"] ["self","number"] (qh Zc):=⟨rfl,rfl,rfl,by decide +kernel,rfl,by decide +kernel,by decide +kernel⟩
abbrev qaT:Stmt:=qF (top 54) 8
theorem qdg:qo ["self"] ["self"] (qh qaT):=⟨rfl,rfl,rfl,by decide +kernel,rfl,by decide +kernel,by decide +kernel⟩
abbrev qaU:Stmt:=qF (top 54) 9
theorem qdh:qo ["self","name"] ["self","name"] (qh qaU):=⟨rfl,rfl,rfl,by decide +kernel,rfl,by decide +kernel,by decide +kernel⟩
abbrev qaS:Stmt:=qF (top 54) 10
theorem qdf:qo ["self","name"] ["self","name"] (qh qaS):=⟨rfl,rfl,rfl,by decide +kernel,rfl,by decide +kernel,by decide +kernel⟩
abbrev qaW:Stmt:=qF (top 54) 11
theorem qdj:qo ["self"] ["self"] (qh qaW):=⟨rfl,rfl,rfl,by decide +kernel,rfl,by decide +kernel,by decide +kernel⟩
abbrev JU:Stmt:=qF (top 54) 12
theorem qcx:qo ["self"] ["self"] (qh JU):=⟨rfl,rfl,rfl,by decide +kernel,rfl,by decide +kernel,by decide +kernel⟩
abbrev qaR:Stmt:=qF (top 54) 13
theorem qde:qo ["self","place"] ["self","place"] (qh qaR):=⟨rfl,rfl,rfl,by decide +kernel,rfl,by decide +kernel,by decide +kernel⟩
abbrev jq:Stmt:=qF (top 54) 14
theorem qaK:qo ["self","moment","told","place"] ["self","moment"] (qh jq):=⟨rfl,rfl,rfl,by decide +kernel,rfl,by decide +kernel,by decide +kernel⟩
abbrev JS:Stmt:=qF (top 62) 0
theorem qcv:qo ["self","rows"] ["self","rows"] (qh JS):=⟨rfl,rfl,rfl,by decide +kernel,rfl,by decide +kernel,by decide +kernel⟩
abbrev j7:Stmt:=qF (top 13) 0
theorem qbC:qo ["self","found"] ["self","found"] (qh j7):=⟨rfl,rfl,rfl,by decide +kernel,rfl,by decide +kernel,by decide +kernel⟩
abbrev jp:Stmt:=qF (top 10) 0
theorem qaJ:qo ["self","found"] ["self","found"] (qh jp):=⟨rfl,rfl,rfl,by decide +kernel,rfl,by decide +kernel,by decide +kernel⟩
abbrev Zb:Stmt:=qF (top 12) 0
theorem Jq:qo ["self","found"] ["self","found"] (qh Zb):=⟨rfl,rfl,rfl,by decide +kernel,rfl,by decide +kernel,by decide +kernel⟩
abbrev ZD:Stmt:=qF (top 6) 0
theorem qaf:qo ["self","found"] ["self","found"] (qh ZD):=⟨rfl,rfl,rfl,by decide +kernel,rfl,by decide +kernel,by decide +kernel⟩
abbrev j6:Stmt:=qF (top 8) 0
theorem qbB:qo ["self","found"] ["self","found"] (qh j6):=⟨rfl,rfl,rfl,by decide +kernel,rfl,by decide +kernel,by decide +kernel⟩
abbrev jo:Stmt:=qF (top 9) 0
theorem qaI:qo ["self","found"] ["self","found"] (qh jo):=⟨rfl,rfl,rfl,by decide +kernel,rfl,by decide +kernel,by decide +kernel⟩
abbrev JR:Stmt:=qF (top 11) 0
theorem qcu:qo ["self","found"] ["self","found"] (qh JR):=⟨rfl,rfl,rfl,by decide +kernel,rfl,by decide +kernel,by decide +kernel⟩
abbrev jm:Stmt:=qF (top 5) 0
theorem qaH:qo ["self","many"] ["self","many"] (qh jm):=⟨rfl,rfl,rfl,by decide +kernel,rfl,by decide +kernel,by decide +kernel⟩
abbrev ZE:Stmt:=qF (top 2) 0
theorem qag:qo ["self","text"] ["self","text"] (qh ZE):=⟨rfl,rfl,rfl,by decide +kernel,rfl,by decide +kernel,by decide +kernel⟩
set_option genInjectivity false in
structure Ad where
 k_Lputs_right:Addr
 t_Lputs_right:Addr
 c_LogError:Addr
 c_NoSpans:Addr
 c_NoTable:Addr
 c_TooMany:Addr
 c_NoMoment:Addr
 c_NoReading:Addr
 c_NoName:Addr
 c_NoPlace:Addr
 c_NoEntry:Addr
 c_Taken:Addr
 c_NoMinutes:Addr
 c_NoBond:Addr
 c_Entry:Addr
 c_Within:Addr
 c_At:Addr
 c_Between:Addr
 c_Read:Addr
 c_Joint:Addr
 c_Sifted:Addr
 c_Log:Addr
 c_Table:Addr
 f_n:Addr
 fd_n:FuncData
 f_e:Addr
 fd_e:FuncData
 f_l:Addr
 fd_l:FuncData
 f_P:Addr
 fd_P:FuncData
 f_Q:Addr
 fd_Q:FuncData
 f_s:Addr
 fd_s:FuncData
 f_R:Addr
 fd_R:FuncData
 f_S:Addr
 fd_S:FuncData
 f_T:Addr
 fd_T:FuncData
 f_t:Addr
 fd_t:FuncData
 f_J:Addr
 fd_J:FuncData
 f_K:Addr
 fd_K:FuncData
 f_U:Addr
 fd_U:FuncData
 f_V:Addr
 fd_V:FuncData
 f_u:Addr
 fd_u:FuncData
 f_W:Addr
 fd_W:FuncData
 f_X:Addr
 fd_X:FuncData
 f_Y:Addr
 fd_Y:FuncData
 f_Z:Addr
 fd_Z:FuncData
 f_L:Addr
 fd_L:FuncData
 f_0:Addr
 fd_0:FuncData
 f_a:Addr
 fd_a:FuncData
 f_1:Addr
 fd_1:FuncData
 f_2:Addr
 fd_2:FuncData
 f_h:Addr
 fd_h:FuncData
 f_M:Addr
 fd_M:FuncData
 f_b:Addr
 fd_b:FuncData
 f_m:Addr
 fd_m:FuncData
 f_N:Addr
 fd_N:FuncData
 f_3:Addr
 fd_3:FuncData
 f_4:Addr
 fd_4:FuncData
 f_5:Addr
 fd_5:FuncData
 f_O:Addr
 fd_O:FuncData
 f_6:Addr
 fd_6:FuncData
 f_7:Addr
 fd_7:FuncData
 f_am:Addr
 fd_am:FuncData
 f_d:Addr
 fd_d:FuncData
 f_o:Addr
 fd_o:FuncData
 f_8:Addr
 fd_8:FuncData
 f_w:Addr
 fd_w:FuncData
 f_9:Addr
 fd_9:FuncData
 f_F:Addr
 fd_F:FuncData
 f_x:Addr
 fd_x:FuncData
 f_g:Addr
 fd_g:FuncData
 f_v:Addr
 fd_v:FuncData
 f_aa:Addr
 fd_aa:FuncData
 f_ab:Addr
 fd_ab:FuncData
 f_ac:Addr
 fd_ac:FuncData
 f_y:Addr
 fd_y:FuncData
 f_ad:Addr
 fd_ad:FuncData
 f_z:Addr
 fd_z:FuncData
 f_A:Addr
 fd_A:FuncData
 f_B:Addr
 fd_B:FuncData
 f_C:Addr
 fd_C:FuncData
 f_D:Addr
 fd_D:FuncData
 f_i:Addr
 fd_i:FuncData
 f_ae:Addr
 fd_ae:FuncData
 f_f:Addr
 fd_f:FuncData
 f_r:Addr
 fd_r:FuncData
 f_E:Addr
 fd_E:FuncData
 f_j:Addr
 fd_j:FuncData
 f_k:Addr
 fd_k:FuncData
 f_af:Addr
 fd_af:FuncData
 f_ag:Addr
 fd_ag:FuncData
 f_G:Addr
 fd_G:FuncData
 f_ah:Addr
 fd_ah:FuncData
 f_H:Addr
 fd_H:FuncData
 f_ai:Addr
 fd_ai:FuncData
 f_aj:Addr
 fd_aj:FuncData
 f_ak:Addr
 fd_ak:FuncData
 f_I:Addr
 fd_I:FuncData
 f_al:Addr
 fd_al:FuncData
 f_p:Addr
 fd_p:FuncData
 f_c:Addr
 fd_c:FuncData
structure DfM (K:Frag) (C:Addr) (x q:Str) (st:Stmt) (ps:List Str) (f:Addr) (fd:FuncData):Prop where
 F:Fun K x q st f fd
 b:Binds K fd ps []
 mt:qij K C x f
structure Txt (K:Frag) (mg:Str->Option Value) (a:Ad):Prop where
 d_n:Df K mg "is_number" qaO ["thing"] a.f_n a.fd_n
 d_e:Df K mg "is_whole" qb0 ["thing","low","high"] a.f_e a.fd_e
 d_l:Df K mg "is_moment" qaP ["thing"] a.f_l a.fd_l
 d_P:Df K mg "is_reading" JL ["thing"] a.f_P a.fd_P
 d_Q:Df K mg "is_minutes" JN ["thing"] a.f_Q a.fd_Q
 d_s:Df K mg "is_name" qdk ["thing"] a.f_s a.fd_s
 d_R:Df K mg "is_stretch" JK ["thing"] a.f_R a.fd_R
 d_S:Df K mg "check_stretches" QO ["stretches"] a.f_S a.fd_S
 d_T:Df K mg "spans_of" qbZ ["stretches"] a.f_T a.fd_T
 d_t:Df K mg "check_name" JQ ["thing"] a.f_t a.fd_t
 d_J:Df K mg "check_moment" jj ["thing"] a.f_J a.fd_J
 d_K:Df K mg "check_reading" ZB ["thing"] a.f_K a.fd_K
 d_U:Df K mg "check_parts" j3 ["parts"] a.f_U a.fd_U
 d_V:Df K mg "check_part" JP ["part"] a.f_V a.fd_V
 d_u:Df K mg "is_key" qez ["thing","keyed"] a.f_u a.fd_u
 d_W:Df K mg "is_row" qey ["thing","widest"] a.f_W a.fd_W
 d_X:Df K mg "may_stand" qaN ["rows","place"] a.f_X a.fd_X
 d_Y:Df K mg "check_rows" JO ["rows","most","widest"] a.f_Y a.fd_Y
 d_Z:Df K mg "_law_cell" qf0 ["_law_script","_law_k"] a.f_Z a.fd_Z
 d_L:Df K mg "_law_mix" qir ["_law_cell_here","_law_k"] a.f_L a.fd_L
 d_0:Df K mg "_law_begun" qeA ["_law_cell_here"] a.f_0 a.fd_0
 d_a:Df K mg "_law_pull" qfY ["_law_state","_law_many"] a.f_a a.fd_a
 d_1:Df K mg "_law_many_names" Ja ["_law_state","_law_many"] a.f_1 a.fd_1
 d_2:Df K mg "_law_deed" qfZ ["_law_log","_law_deed_here"] a.f_2 a.fd_2
 d_h:Df K mg "_law_refusal" qb2 ["_law_log","_law_deed_here"] a.f_h a.fd_h
 d_M:Df K mg "_law_seen" qfX ["_law_log"] a.f_M a.fd_M
 d_b:Df K mg "_law_is" qkd ["_law_log","_law_deed_here","_law_word","_law_thing"] a.f_b a.fd_b
 d_m:Df K mg "_law_strange" qb1 ["_law_state"] a.f_m a.fd_m
 d_N:Df K mg "_law_no_minutes" j9 ["_law_state"] a.f_N a.fd_N
 d_3:Df K mg "_law_no_number" JV ["_law_state","_law_many"] a.f_3 a.fd_3
 d_4:Df K mg "_law_no_moment" JW ["_law_state"] a.f_4 a.fd_4
 d_5:Df K mg "_law_questions_right" Qv ["_law_log","_law_state","_law_free"] a.f_5 a.fd_5
 d_O:Df K mg "_law_puts_right" j8 ["_law_log","_law_state","_law_free"] a.f_O a.fd_O
 d_6:Df K mg "_law_binds_right" jr ["_law_log","_law_state","_law_free"] a.f_6 a.fd_6
 d_7:Df K mg "_law_bounds_right" ZF ["_law_log","_law_state","_law_free"] a.f_7 a.fd_7
 d_am:Df K mg "law" qkc ["_law_script"] a.f_am a.fd_am
 d_d:DfM K a.c_Entry "__init__" "Entry.__init__" JY ["self","name"] a.f_d a.fd_d
 d_o:DfM K a.c_Entry "places" "Entry.places" ju ["self"] a.f_o a.fd_o
 d_8:DfM K a.c_Entry "spans" "Entry.spans" Jb ["self","tables"] a.f_8 a.fd_8
 d_w:DfM K a.c_Within "__init__" "Within.__init__" j4 ["self","name","low","high"] a.f_w a.fd_w
 d_9:DfM K a.c_Within "spans" "Within.spans" jk ["self","tables"] a.f_9 a.fd_9
 d_F:DfM K a.c_At "__init__" "At.__init__" qdm ["self","name","moment"] a.f_F a.fd_F
 d_x:DfM K a.c_Between "__init__" "Between.__init__" jv ["self","name","place","low","high"] a.f_x a.fd_x
 d_g:DfM K a.c_Between "places" "Between.places" Zd ["self"] a.f_g a.fd_g
 d_v:DfM K a.c_Read "__init__" "Read.__init__" qaQ ["self","name","place","reading"] a.f_v a.fd_v
 d_aa:DfM K a.c_Joint "__init__" "Joint.__init__" JX ["self","name","parts"] a.f_aa a.fd_aa
 d_ab:DfM K a.c_Joint "places" "Joint.places" jt ["self"] a.f_ab a.fd_ab
 d_ac:DfM K a.c_Sifted "__init__" "Sifted.__init__" j5 ["self","name","part","keeps"] a.f_ac a.fd_ac
 d_y:DfM K a.c_Sifted "places" "Sifted.places" ZC ["self"] a.f_y a.fd_y
 d_ad:DfM K a.c_Log "__init__" "Log.__init__" qb3 ["self"] a.f_ad a.fd_ad
 d_z:DfM K a.c_Log "clock" "Log.clock" qaV ["self","place","table"] a.f_z a.fd_z
 d_A:DfM K a.c_Log "put" "Log.put" qdl ["self","entry"] a.f_A a.fd_A
 d_B:DfM K a.c_Log "bind" "Log.bind" qb5 ["self","later","earlier","minutes"] a.f_B a.fd_B
 d_C:DfM K a.c_Log "unbind" "Log.unbind" JT ["self","number"] a.f_C a.fd_C
 d_D:DfM K a.c_Log "drop" "Log.drop" qb4 ["self","name"] a.f_D a.fd_D
 d_i:DfM K a.c_Log "check_entry" "Log.check_entry" QP ["self","name"] a.f_i a.fd_i
 d_ae:DfM K a.c_Log "check_bond" "Log.check_bond" Zc ["self","number"] a.f_ae a.fd_ae
 d_f:DfM K a.c_Log "names" "Log.names" qaT ["self"] a.f_f a.fd_f
 d_r:DfM K a.c_Log "entry" "Log.entry" qaU ["self","name"] a.f_r a.fd_r
 d_E:DfM K a.c_Log "spans" "Log.spans" qaS ["self","name"] a.f_E a.fd_E
 d_j:DfM K a.c_Log "bonds" "Log.bonds" qaW ["self"] a.f_j a.fd_j
 d_k:DfM K a.c_Log "places" "Log.places" JU ["self"] a.f_k a.fd_k
 d_af:DfM K a.c_Log "table" "Log.table" qaR ["self","place"] a.f_af a.fd_af
 d_ag:DfM K a.c_Log "readings" "Log.readings" jq ["self","moment"] a.f_ag a.fd_ag
 d_G:DfM K a.c_Table "__init__" "Table.__init__" JS ["self","rows"] a.f_G a.fd_G
 d_ah:DfM K a.c_NoBond "__init__" "NoBond.__init__" j7 ["self","found"] a.f_ah a.fd_ah
 d_H:DfM K a.c_NoEntry "__init__" "NoEntry.__init__" jp ["self","found"] a.f_H a.fd_H
 d_ai:DfM K a.c_NoMinutes "__init__" "NoMinutes.__init__" Zb ["self","found"] a.f_ai a.fd_ai
 d_aj:DfM K a.c_NoMoment "__init__" "NoMoment.__init__" ZD ["self","found"] a.f_aj a.fd_aj
 d_ak:DfM K a.c_NoName "__init__" "NoName.__init__" j6 ["self","found"] a.f_ak a.fd_ak
 d_I:DfM K a.c_NoPlace "__init__" "NoPlace.__init__" jo ["self","found"] a.f_I a.fd_I
 d_al:DfM K a.c_Taken "__init__" "Taken.__init__" JR ["self","found"] a.f_al a.fd_al
 d_p:DfM K a.c_TooMany "__init__" "TooMany.__init__" jm ["self","many"] a.f_p a.fd_p
 d_c:DfM K a.c_LogError "__init__" "LogError.__init__" ZE ["self","text"] a.f_c a.fd_c
 g_Entry:mg "Entry"=some (.ref a.c_Entry)
 cl_Entry:Cls K a.c_Entry
 M_Entry:Mk K a.c_Entry a.f_d
 n_Entry_name:NoAttr K a.c_Entry "name"
 g_Within:mg "Within"=some (.ref a.c_Within)
 cl_Within:Cls K a.c_Within
 M_Within:Mk K a.c_Within a.f_w
 n_Within_low:NoAttr K a.c_Within "low"
 n_Within_high:NoAttr K a.c_Within "high"
 n_Within_name:NoAttr K a.c_Within "name"
 g_At:mg "At"=some (.ref a.c_At)
 cl_At:Cls K a.c_At
 M_At:Mk K a.c_At a.f_F
 n_At_low:NoAttr K a.c_At "low"
 n_At_high:NoAttr K a.c_At "high"
 n_At_name:NoAttr K a.c_At "name"
 g_Between:mg "Between"=some (.ref a.c_Between)
 cl_Between:Cls K a.c_Between
 M_Between:Mk K a.c_Between a.f_x
 n_Between_place:NoAttr K a.c_Between "place"
 n_Between_low:NoAttr K a.c_Between "low"
 n_Between_high:NoAttr K a.c_Between "high"
 n_Between_name:NoAttr K a.c_Between "name"
 g_Read:mg "Read"=some (.ref a.c_Read)
 cl_Read:Cls K a.c_Read
 M_Read:Mk K a.c_Read a.f_v
 n_Read_place:NoAttr K a.c_Read "place"
 n_Read_low:NoAttr K a.c_Read "low"
 n_Read_high:NoAttr K a.c_Read "high"
 n_Read_name:NoAttr K a.c_Read "name"
 g_Joint:mg "Joint"=some (.ref a.c_Joint)
 cl_Joint:Cls K a.c_Joint
 M_Joint:Mk K a.c_Joint a.f_aa
 n_Joint_kept_parts:NoAttr K a.c_Joint "kept_parts"
 n_Joint_name:NoAttr K a.c_Joint "name"
 g_Sifted:mg "Sifted"=some (.ref a.c_Sifted)
 cl_Sifted:Cls K a.c_Sifted
 M_Sifted:Mk K a.c_Sifted a.f_ac
 n_Sifted_part:NoAttr K a.c_Sifted "part"
 n_Sifted_keeps:NoAttr K a.c_Sifted "keeps"
 n_Sifted_name:NoAttr K a.c_Sifted "name"
 g_Log:mg "Log"=some (.ref a.c_Log)
 cl_Log:Cls K a.c_Log
 M_Log:Mk K a.c_Log a.f_ad
 n_Log_tables:NoAttr K a.c_Log "tables"
 n_Log_entries:NoAttr K a.c_Log "entries"
 n_Log_bound:NoAttr K a.c_Log "bound"
 g_Table:mg "Table"=some (.ref a.c_Table)
 cl_Table:Cls K a.c_Table
 M_Table:Mk K a.c_Table a.f_G
 n_Table_kept:NoAttr K a.c_Table "kept"
 n_all:mg "all"=none
 n_bool:mg "bool"=none
 n_enumerate:mg "enumerate"=none
 n_int:mg "int"=none
 n_isinstance:mg "isinstance"=none
 n_len:mg "len"=none
 n_list:mg "list"=none
 n_max:mg "max"=none
 n_min:mg "min"=none
 n_range:mg "range"=none
 n_sorted:mg "sorted"=none
 n_str:mg "str"=none
 n_tuple:mg "tuple"=none
 n_zip:mg "zip"=none
 g_LAST:∃ t,mg "LAST"=some (.int 1000000000 t)
 g_WIDEST_READING:∃ t,mg "WIDEST_READING"=some (.int 10000000000 t)
 g_MOST_MINUTES:∃ t,mg "MOST_MINUTES"=some (.int 2000000001 t)
 g_LONGEST_NAME:∃ t,mg "LONGEST_NAME"=some (.int 8 t)
 g_MOST_PARTS:∃ t,mg "MOST_PARTS"=some (.int 8 t)
 g_MOST_SIFTED:∃ t,mg "MOST_SIFTED"=some (.int 1000 t)
 g_MOST_ROWS:∃ t,mg "MOST_ROWS"=some (.int 21 t)
 g_WIDEST_SHIFT:∃ t,mg "WIDEST_SHIFT"=some (.int 2880 t)
 g_MOST_PLACES:∃ t,mg "MOST_PLACES"=some (.int 6 t)
 g_MOST_ENTRIES:∃ t,mg "MOST_ENTRIES"=some (.int 60 t)
 g_MOST_BONDS:∃ t,mg "MOST_BONDS"=some (.int 100 t)
 g_LATER:∃ t,mg "LATER"=some (.int 0 t)
 g_EARLIER:∃ t,mg "EARLIER"=some (.int 1 t)
 n_ValueError:mg "ValueError"=none
 g_LogError:mg "LogError"=some (.ref a.c_LogError)
 g_NoSpans:mg "NoSpans"=some (.ref a.c_NoSpans)
 g_NoTable:mg "NoTable"=some (.ref a.c_NoTable)
 g_TooMany:mg "TooMany"=some (.ref a.c_TooMany)
 g_NoMoment:mg "NoMoment"=some (.ref a.c_NoMoment)
 g_NoReading:mg "NoReading"=some (.ref a.c_NoReading)
 g_NoName:mg "NoName"=some (.ref a.c_NoName)
 g_NoPlace:mg "NoPlace"=some (.ref a.c_NoPlace)
 g_NoEntry:mg "NoEntry"=some (.ref a.c_NoEntry)
 g_Taken:mg "Taken"=some (.ref a.c_Taken)
 g_NoMinutes:mg "NoMinutes"=some (.ref a.c_NoMinutes)
 g_NoBond:mg "NoBond"=some (.ref a.c_NoBond)
 xl_LogError:xIn K a.c_LogError=true
 ci_LogError:qhh K a.c_LogError a.f_c
 X_NoBond:XMk K a.c_NoBond a.f_ah
 up_NoBond:mroIn K a.c_NoBond (.ref a.c_LogError)=some true
 n_NoBond_found:NoAttr K a.c_NoBond "found"
 X_NoEntry:XMk K a.c_NoEntry a.f_H
 up_NoEntry:mroIn K a.c_NoEntry (.ref a.c_LogError)=some true
 n_NoEntry_found:NoAttr K a.c_NoEntry "found"
 X_NoMinutes:XMk K a.c_NoMinutes a.f_ai
 up_NoMinutes:mroIn K a.c_NoMinutes (.ref a.c_LogError)=some true
 n_NoMinutes_found:NoAttr K a.c_NoMinutes "found"
 X_NoMoment:XMk K a.c_NoMoment a.f_aj
 up_NoMoment:mroIn K a.c_NoMoment (.ref a.c_LogError)=some true
 n_NoMoment_found:NoAttr K a.c_NoMoment "found"
 X_NoName:XMk K a.c_NoName a.f_ak
 up_NoName:mroIn K a.c_NoName (.ref a.c_LogError)=some true
 n_NoName_found:NoAttr K a.c_NoName "found"
 X_NoPlace:XMk K a.c_NoPlace a.f_I
 up_NoPlace:mroIn K a.c_NoPlace (.ref a.c_LogError)=some true
 n_NoPlace_found:NoAttr K a.c_NoPlace "found"
 X_Taken:XMk K a.c_Taken a.f_al
 up_Taken:mroIn K a.c_Taken (.ref a.c_LogError)=some true
 n_Taken_found:NoAttr K a.c_Taken "found"
 X_TooMany:XMk K a.c_TooMany a.f_p
 up_TooMany:mroIn K a.c_TooMany (.ref a.c_LogError)=some true
 n_TooMany_many:NoAttr K a.c_TooMany "many"
 is_NoBond_NoBond:zh K a.c_NoBond (.ref a.c_NoBond)=some true
 is_NoBond_NoEntry:zh K a.c_NoBond (.ref a.c_NoEntry)=some false
 is_NoBond_NoMinutes:zh K a.c_NoBond (.ref a.c_NoMinutes)=some false
 is_NoBond_NoMoment:zh K a.c_NoBond (.ref a.c_NoMoment)=some false
 is_NoBond_NoName:zh K a.c_NoBond (.ref a.c_NoName)=some false
 is_NoBond_NoPlace:zh K a.c_NoBond (.ref a.c_NoPlace)=some false
 is_NoBond_Taken:zh K a.c_NoBond (.ref a.c_Taken)=some false
 is_NoBond_TooMany:zh K a.c_NoBond (.ref a.c_TooMany)=some false
 is_NoEntry_NoBond:zh K a.c_NoEntry (.ref a.c_NoBond)=some false
 is_NoEntry_NoEntry:zh K a.c_NoEntry (.ref a.c_NoEntry)=some true
 is_NoEntry_NoMinutes:zh K a.c_NoEntry (.ref a.c_NoMinutes)=some false
 is_NoEntry_NoMoment:zh K a.c_NoEntry (.ref a.c_NoMoment)=some false
 is_NoEntry_NoName:zh K a.c_NoEntry (.ref a.c_NoName)=some false
 is_NoEntry_NoPlace:zh K a.c_NoEntry (.ref a.c_NoPlace)=some false
 is_NoEntry_Taken:zh K a.c_NoEntry (.ref a.c_Taken)=some false
 is_NoEntry_TooMany:zh K a.c_NoEntry (.ref a.c_TooMany)=some false
 is_NoMinutes_NoBond:zh K a.c_NoMinutes (.ref a.c_NoBond)=some false
 is_NoMinutes_NoEntry:zh K a.c_NoMinutes (.ref a.c_NoEntry)=some false
 is_NoMinutes_NoMinutes:zh K a.c_NoMinutes (.ref a.c_NoMinutes)=some true
 is_NoMinutes_NoMoment:zh K a.c_NoMinutes (.ref a.c_NoMoment)=some false
 is_NoMinutes_NoName:zh K a.c_NoMinutes (.ref a.c_NoName)=some false
 is_NoMinutes_NoPlace:zh K a.c_NoMinutes (.ref a.c_NoPlace)=some false
 is_NoMinutes_Taken:zh K a.c_NoMinutes (.ref a.c_Taken)=some false
 is_NoMinutes_TooMany:zh K a.c_NoMinutes (.ref a.c_TooMany)=some false
 is_NoMoment_NoBond:zh K a.c_NoMoment (.ref a.c_NoBond)=some false
 is_NoMoment_NoEntry:zh K a.c_NoMoment (.ref a.c_NoEntry)=some false
 is_NoMoment_NoMinutes:zh K a.c_NoMoment (.ref a.c_NoMinutes)=some false
 is_NoMoment_NoMoment:zh K a.c_NoMoment (.ref a.c_NoMoment)=some true
 is_NoMoment_NoName:zh K a.c_NoMoment (.ref a.c_NoName)=some false
 is_NoMoment_NoPlace:zh K a.c_NoMoment (.ref a.c_NoPlace)=some false
 is_NoMoment_Taken:zh K a.c_NoMoment (.ref a.c_Taken)=some false
 is_NoMoment_TooMany:zh K a.c_NoMoment (.ref a.c_TooMany)=some false
 is_NoName_NoBond:zh K a.c_NoName (.ref a.c_NoBond)=some false
 is_NoName_NoEntry:zh K a.c_NoName (.ref a.c_NoEntry)=some false
 is_NoName_NoMinutes:zh K a.c_NoName (.ref a.c_NoMinutes)=some false
 is_NoName_NoMoment:zh K a.c_NoName (.ref a.c_NoMoment)=some false
 is_NoName_NoName:zh K a.c_NoName (.ref a.c_NoName)=some true
 is_NoName_NoPlace:zh K a.c_NoName (.ref a.c_NoPlace)=some false
 is_NoName_Taken:zh K a.c_NoName (.ref a.c_Taken)=some false
 is_NoName_TooMany:zh K a.c_NoName (.ref a.c_TooMany)=some false
 is_NoPlace_NoBond:zh K a.c_NoPlace (.ref a.c_NoBond)=some false
 is_NoPlace_NoEntry:zh K a.c_NoPlace (.ref a.c_NoEntry)=some false
 is_NoPlace_NoMinutes:zh K a.c_NoPlace (.ref a.c_NoMinutes)=some false
 is_NoPlace_NoMoment:zh K a.c_NoPlace (.ref a.c_NoMoment)=some false
 is_NoPlace_NoName:zh K a.c_NoPlace (.ref a.c_NoName)=some false
 is_NoPlace_NoPlace:zh K a.c_NoPlace (.ref a.c_NoPlace)=some true
 is_NoPlace_Taken:zh K a.c_NoPlace (.ref a.c_Taken)=some false
 is_NoPlace_TooMany:zh K a.c_NoPlace (.ref a.c_TooMany)=some false
 is_Taken_NoBond:zh K a.c_Taken (.ref a.c_NoBond)=some false
 is_Taken_NoEntry:zh K a.c_Taken (.ref a.c_NoEntry)=some false
 is_Taken_NoMinutes:zh K a.c_Taken (.ref a.c_NoMinutes)=some false
 is_Taken_NoMoment:zh K a.c_Taken (.ref a.c_NoMoment)=some false
 is_Taken_NoName:zh K a.c_Taken (.ref a.c_NoName)=some false
 is_Taken_NoPlace:zh K a.c_Taken (.ref a.c_NoPlace)=some false
 is_Taken_Taken:zh K a.c_Taken (.ref a.c_Taken)=some true
 is_Taken_TooMany:zh K a.c_Taken (.ref a.c_TooMany)=some false
 is_TooMany_NoBond:zh K a.c_TooMany (.ref a.c_NoBond)=some false
 is_TooMany_NoEntry:zh K a.c_TooMany (.ref a.c_NoEntry)=some false
 is_TooMany_NoMinutes:zh K a.c_TooMany (.ref a.c_NoMinutes)=some false
 is_TooMany_NoMoment:zh K a.c_TooMany (.ref a.c_NoMoment)=some false
 is_TooMany_NoName:zh K a.c_TooMany (.ref a.c_NoName)=some false
 is_TooMany_NoPlace:zh K a.c_TooMany (.ref a.c_NoPlace)=some false
 is_TooMany_Taken:zh K a.c_TooMany (.ref a.c_Taken)=some false
 is_TooMany_TooMany:zh K a.c_TooMany (.ref a.c_TooMany)=some true
 i_Within_places:qij K a.c_Within "places" a.f_o
 i_At_places:qij K a.c_At "places" a.f_o
 i_At_spans:qij K a.c_At "spans" a.f_9
 i_Read_places:qij K a.c_Read "places" a.f_g
 ci_Entry:qhh K a.c_Entry a.f_d
 ci_Within:qhh K a.c_Within a.f_w
 ci_Between:qhh K a.c_Between a.f_x
 mr_Entry:XMro K a.c_Entry [some a.c_Entry,none]
 io_Entry:InsF K a.c_Entry
 mr_Within:XMro K a.c_Within [some a.c_Within,some a.c_Entry,none]
 io_Within:InsF K a.c_Within
 mr_At:XMro K a.c_At [some a.c_At,some a.c_Within,some a.c_Entry,none]
 io_At:InsF K a.c_At
 mr_Between:XMro K a.c_Between [some a.c_Between,some a.c_Entry,none]
 io_Between:InsF K a.c_Between
 mr_Read:XMro K a.c_Read [some a.c_Read,some a.c_Between,some a.c_Entry,none]
 io_Read:InsF K a.c_Read
 mr_Joint:XMro K a.c_Joint [some a.c_Joint,some a.c_Entry,none]
 io_Joint:InsF K a.c_Joint
 mr_Sifted:XMro K a.c_Sifted [some a.c_Sifted,some a.c_Entry,none]
 io_Sifted:InsF K a.c_Sifted
 mr_Log:XMro K a.c_Log [some a.c_Log,none]
 io_Log:InsF K a.c_Log
 mr_Table:XMro K a.c_Table [some a.c_Table,none]
 io_Table:InsF K a.c_Table
 t_Entry:qfq K a.c_Entry
 t_Within:qfq K a.c_Within
 t_At:qfq K a.c_At
 t_Between:qfq K a.c_Between
 t_Read:qfq K a.c_Read
 t_Joint:qfq K a.c_Joint
 t_Sifted:qfq K a.c_Sifted
 t_Log:qfq K a.c_Log
 t_Table:qfq K a.c_Table
 ndc:([a.c_Entry,a.c_Within,a.c_At,a.c_Between,a.c_Read,a.c_Joint,a.c_Sifted,a.c_Log,a.c_Table]:List Addr).Nodup
 cd_Lputs_right:a.fd_O.code=.ref a.k_Lputs_right
 hd_Lputs_right:PySem.W.codeHdIn K a.k_Lputs_right a.t_Lputs_right=true
theorem qjx {n j:Nat} (h:j < n):ixN n (j:Int)=some j:=by
 unfold ixN;rw[if_pos (by omega),if_pos (by omega)];simp
theorem zB {α β:Type}{f:α->β}{xs:List α}{i:Nat}{y:β} (h:(xs.map f)[i]?=some y):∃ x,xs[i]?=some x∧y=f x:=by
 rw[List.getElem?_map]at h
 cases e:xs[i]? with
 | none=>rw[e]at h;cases h
 | some x=>rw[e]at h;exact⟨x,rfl,(Option.some.inj h).symm⟩
def Asc (rows:List (Int×Int)):Prop:=rows.Pairwise fun a b=>a.1 < b.1
def g2 (p:Int×Int):List Int:=[p.1,p.2]
abbrev pr:Int×Int->List V:=fun p=>(g2 p).map V.int
structure Good (rows:List (Int×Int)):Prop where
 few:rows.length≤21
 fst:∃ n,rows.head?=some (0,n)
 asc:Asc rows
 ok:∀ r∈rows,0≤r.1∧r.1≤1000000000∧-2880≤r.2∧r.2≤2880
theorem atI_last {α:Type}{xs:List α}{x:α} (h:xs.getLast?=some x):atI xs (-1)=some x:=by
 have hne:0 < xs.length:=List.length_pos_iff.mpr (fun z=>by rw[z]at h;cases h);unfold atI ixN;rw[if_neg (by decide),if_pos (by omega)];show xs[((-1:Int)+(xs.length:Int)).toNat]?=_;rw[tn_ xs.length,← List.getLast?_eq_getElem?];exact h
theorem qh0 {n:Nat} (h:0 < n):ixN n (-1)=some (n - 1):=by
 unfold ixN;rw[if_neg (by decide),if_pos (by omega)];rw[tn_ n]
theorem TupL.last {H:Hp}{zs:List V}{ps:List (Int×Int)}{p:Int×Int} (h:TupL pr H zs ps) (e:ps.getLast?=some p):∃ t,zs.getLast?=some (.ref t)∧H t=some (.tup (pr p)):=by
 rw[List.getLast?_eq_getElem?]at e;obtain⟨t,h1,h2⟩:=h.at_ e;exact⟨t,by rw[List.getLast?_eq_getElem?,h.1];exact h1,h2⟩
theorem TupL.set {H:Hp}{zs:List V}{ps:List (Int×Int)}{i:Nat}{t:Addr}{p:Int×Int} (h:TupL pr H zs ps) (e:H t=some (.tup (pr p))):TupL pr H (zs.set i (.ref t)) (ps.set i p):=⟨by rw[List.length_set,List.length_set,h.1],fun j z y e1 e2=>by
 rw[List.getElem?_set]at e1 e2;by_cases hj:i=j
 · rw[if_pos hj]at e1 e2;split at e1
   · split at e2
     · cases e1;cases e2;exact⟨t,rfl,e⟩
     · cases e2
   · cases e1
 · rw[if_neg hj]at e1 e2
   exact h.2 j z y e1 e2⟩
inductive ql1 (H:Hp) (q:Addr) (rows:List (Int×Int)):Prop
 | mk (zs:_) (h1:H q=some (.lst zs)) (h2:TupL pr H zs rows):ql1 H q rows
def Rs (H:Hp) (q:Addr) (rows:List (Int×Int)):Prop:=ql1 H q rows
inductive qbW (K:Frag) (vs:List V) (H:Hp) (Q:VK):Prop
 | mk (a:Addr) (ns:List Int) (k:Int) (h1:vs=[.ref a,.int k]) (h2:SqL K H a (ns.map V.int)) (h3:0≤k) (h4:∀ c,Q (.int c) H):qbW K vs H Q
def qex (K:Frag):Sp:=fun vs H Q _=>qbW K vs H Q
inductive qc6 (vs:List V) (H:Hp) (Q:VK):Prop
 | mk (c k:Int) (h1:vs=[.int c,.int k]) (h2:∀ n:Int,0≤n->n < 268435456->Q (.int n) H):qc6 vs H Q
def qfR:Sp:=fun vs H Q _=>qc6 vs H Q
inductive qaB (vs:List V) (H:Hp) (Q:VK):Prop
 | mk (c:Int) (h1:vs=[.int c]) (h2:∀ (p:Addr) (A B:Int),H p=none->0≤A->Q (.ref p) (upd H p (.lst [.int A,.int B,.int 0]))):qaB vs H Q
def qc8:Sp:=fun vs H Q _=>qaB vs H Q
inductive qbU (vs:List V) (H:Hp) (Q:VK):Prop
 | mk (p:Addr) (many:Int) (h1:vs=[.ref p,.int many]) (h2:PenAt H p) (h3:0 < many) (h4:many < 340282366920938463463374607431768211456) (h5:∀ (d:Int) (H':Hp),0≤d->d < many->But p H H'->PenAt H' p->Q (.int d) H'):qbU vs H Q
def zx:Sp:=fun vs H Q _=>qbU vs H Q
theorem But.up {p:Addr}{H:Hp} (o:HO):But p H (upd H p o):=(But.refl p H).put o
section
variable {P:Program}{w:World}{K:Frag}{mg:Str->Option Value}{base:Heap}
theorem qjp {a:Ad} (T:Txt K mg a):qu P w K mg base CX0 1 a.f_L a.fd_L ["_law_cell_here","_law_k"] qfR:=by
 refine T.d_L.F.ok sc_Lmix (fun vs H Q E h=>?_) (fun cdv A outer s H vs Q E hr h=>?_)
 · obtain⟨c,k,rfl,kk⟩:=h;rfl
 · obtain⟨c,k,rfl,kk⟩:=h;have hU:=hr.units
   refine⟨_,(qc (qC (i:=2) sc_Lmix.nd rfl (Or.inl rfl) (qH jy (qH qab (qH qab (pv 0) (qH QQ qf (pv 1))) qf) qf))
     (qc (qC (i:=2) sc_Lmix.nd rfl (Or.inl rfl) (qH jy (qH QQ (qH jy (qH QQ (pv 2) (pv 2)) qf) qf) qf))
     (qe (qy (qH qge (qH jy (qH QQ (pv 2) (qH qab (pv 2) qf)) qf) qf))))),?_⟩
   try dsimp only [zf,Cx.nox]
   refine⟨_,rfl,_,rfl,_,_,rfl,rfl,.inl ⟨by decide,by decide⟩,.inl ⟨_,_,rfl,rfl,.inl ⟨_,_,rfl,rfl,_,_,rfl,rfl,(by show (0:Int) < _;decide),?_⟩⟩⟩;(try dsimp only);generalize hn:(c+7919 * k+12345) % 2147483629=n;have n0:0≤n:=by omega
   have n1:n < 2147483629:=by omega
   refine⟨_,rfl,_,rfl,_,_,rfl,rfl,.inl ⟨by omega,by omega⟩,_,_,rfl,rfl,(by show (0:Int) < _;decide),_,_,rfl,rfl,.inr ⟨by decide,by decide⟩,_,_,rfl,rfl,(by show (0:Int) < _;decide),?_⟩;(try dsimp only);generalize hm:n * n % 2147483587 * 48271 % 2147483549=m;have m0:0≤m:=by rw[← hm];exact Int.emod_nonneg _ (by decide)
   have m1:m < 2147483549:=by rw[← hm];exact Int.emod_lt_of_pos _ (by decide)
   refine⟨_,rfl,_,rfl,.inl ⟨_,_,rfl,rfl,_,_,rfl,rfl,.inl ⟨by omega,by omega⟩,_,_,rfl,rfl,(by show (0:Int) < _;decide),_,_,rfl,rfl,⟨by decide,by decide⟩,?_⟩⟩;(try dsimp only);generalize hz:m * (m+31) % 2147483543=z;have z0:0≤z:=by rw[← hz];exact Int.emod_nonneg _ (by decide)
   have z1:z < 2147483543:=by rw[← hz];exact Int.emod_lt_of_pos _ (by decide)
   exact kk _ (by omega) (by omega)
theorem qgg {a:Ad} (T:Txt K mg a):qu P w K mg base CX0 1 a.f_0 a.fd_0 ["_law_cell_here"] qc8:=by
 refine T.d_0.F.ok qfW (fun vs H Q E h=>?_) (fun cdv A outer s H vs Q E hr h=>?_)
 · obtain⟨c,rfl,kk⟩:=h;rfl
 · obtain⟨c,rfl,kk⟩:=h;refine⟨_,(qe (qy (qQ (qa (qp (qbt rfl) (by rfl) T.n_max qbv (qa qf (qa (qH Jc (pv 0) (qH jx qf qf)) qb))) (qa (qH jy (pv 0) qf) (qa qf qb)))))),?_⟩;(try dsimp only [zf,Cx.nox]);refine⟨_,rfl,_,_,rfl,rfl,⟨by decide,by decide,by decide⟩,_,_,rfl,rfl,_,_,rfl,?_⟩;refine⟨_,rfl,_,_,rfl,rfl,(by show (0:Int) < _;decide),qk (Nat.le_of_ble_eq_true rfl),fun p fp=>?_⟩;exact kk p _ _ fp (by split<;>omega)
theorem zL {a:Ad} (T:Txt K mg a):qu P w K mg base CX0 2 a.f_a a.fd_a ["_law_state","_law_many"] zx:=by
 have G_L:=qjp (P:=P) (w:=w) (base:=base) T;refine T.d_a.F.ok sc_Lpull (fun vs H Q E h=>?_) (fun cdv A outer s H vs Q E hr h=>?_)
 · obtain⟨p,many,rfl,⟨c,x,y,c0,hp⟩,m0,m1,kk⟩:=h;rfl
 · obtain⟨p,many,rfl,⟨c,x,y,c0,hp⟩,m0,m1,kk⟩:=h;have h_L:Room (1) _:=hr.mono (by decide)
   refine⟨_,(qc (qM (qB qgd (qD (r:=rIx K) qr (pv 0) qf (fun _ _=>rfl)) qf (qJ _))
       (qc (qC (i:=2) sc_Lpull.nd rfl (Or.inl rfl) (qH jy (qD (r:=rIx K) qr (pv 0) qf (fun _ _=>rfl)) (pv 1)))
       (qc (qeG (qH qhL (qD (r:=rIx K) qr (pv 0) qf (fun _ _=>rfl)) (pv 1)) (qeI (pv 0) qf qaq))
       (qe (qy (pv 2)))))
       qv)
     (qc (qeG (qH qab (qD (r:=rIx K) qr (pv 0) qf (fun _ _=>rfl)) qf) (qeI (pv 0) qf qaq))
     (qc (qC (i:=3) sc_Lpull.nd rfl (Or.inl rfl) (ql G_L h_L rfl T.d_L.m T.d_L.k T.d_L.b .nil qq (qa (qD (r:=rIx K) qr (pv 0) qf (fun _ _=>rfl)) (qa (qH QQ qf (qD (r:=rIx K) qr (pv 0) qf (fun _ _=>rfl))) qb))))
     (qc (qC (i:=4) sc_Lpull.nd rfl (Or.inl rfl) (ql G_L h_L rfl T.d_L.m T.d_L.k T.d_L.b .nil qq (qa (qD (r:=rIx K) qr (pv 0) qf (fun _ _=>rfl)) (qa (qH qab (qH QQ qf (qD (r:=rIx K) qr (pv 0) qf (fun _ _=>rfl))) qf) qb))))
     (qe (qy (qH jy (qH qab (qH QQ (pv 3) qf) (pv 4)) (pv 1)))))))),?_⟩
   try dsimp only [zf,Cx.nox]
   refine⟨_,rfl,.inl ⟨p,_,_,_,rfl,rfl,SqL.of hp,rfl,_,_,rfl,rfl,_,rfl,?_⟩⟩;refine zg (fun hL=>?_) (fun hL=>?_)
   · refine⟨_,rfl,.inl ⟨p,_,_,_,rfl,rfl,SqL.of hp,rfl,_,rfl,_,_,rfl,rfl,m0,?_⟩⟩;refine⟨_,rfl,.inl ⟨p,_,_,_,rfl,rfl,SqL.of hp,rfl,_,rfl,_,_,rfl,rfl,⟨m0,m1⟩,_,rfl,p,_,_,0,rfl,rfl,hp,rfl,?_⟩⟩;refine⟨_,rfl,?_⟩;exact kk _ _ (Int.emod_nonneg _ (by omega)) (Int.emod_lt_of_pos _ m0) (But.up _) ⟨_,x,y,Int.ediv_nonneg c0 (by omega),qd⟩
   · refine⟨_,rfl,.inl ⟨p,_,_,_,rfl,rfl,SqL.of hp,rfl,.inl ⟨_,_,rfl,rfl,_,rfl,p,_,_,2,rfl,rfl,hp,rfl,?_⟩⟩⟩;have h1:(upd H p (.lst ([.int c,.int x,.int y].set 2 (.int (y+1))))) p=some (.lst [.int c,.int x,.int (y+1)]):=qd;have B:But p H (upd H p (.lst ([.int c,.int x,.int y].set 2 (.int (y+1))))):=But.up _;(try dsimp only);generalize upd H p (.lst ([.int c,.int x,.int y].set 2 (.int (y+1))))=G at h1 B ⊢;refine⟨_,rfl,.inl ⟨p,_,_,_,rfl,rfl,SqL.of h1,rfl,_,rfl,.inl ⟨p,_,_,_,rfl,rfl,SqL.of h1,rfl,_,_,rfl,rfl,.inl ⟨by decide,by decide⟩,_,_,rfl,fun n n0 n1=>?_⟩⟩⟩;refine⟨_,rfl,.inl ⟨p,_,_,_,rfl,rfl,SqL.of h1,rfl,_,rfl,.inl ⟨p,_,_,_,rfl,rfl,SqL.of h1,rfl,_,_,rfl,rfl,.inl ⟨by decide,by decide⟩,.inl ⟨_,_,rfl,rfl,_,_,rfl,fun k k0 k1=>?_⟩⟩⟩⟩;refine⟨_,rfl,_,_,rfl,rfl,.inr ⟨by decide,by decide⟩,_,rfl,.inl ⟨_,_,rfl,rfl,_,rfl,_,_,rfl,rfl,m0,?_⟩⟩;exact kk _ _ (Int.emod_nonneg _ (by omega)) (Int.emod_lt_of_pos _ m0) B ⟨c,x,y+1,c0,h1⟩
end
def qeQ:V->Bool
 | .int _=>true
 | _=>false
theorem qkC {H:Hp}{v:V}{t:String} (h:tyN H v=some t):(qhi "int" t && !qhi "bool" t)=qeQ v:=by
 cases v with
 | non=>cases h;rfl
 | bl b=>cases h;rfl
 | int b=>cases h;rfl
 | str b=>cases h;rfl
 | byt b=>cases h
 | flt b=>cases h
 | ty b=>cases h
 | ref a =>
   simp only[tyN]at h;split at h<;>first|(cases h;rfl)|cases h
def Typed (H:Hp) (v:V):Prop:=∃ t,tyN H v=some t
theorem qen {H H':Hp} (e:Same H H') {v:V}{t:String} (h:tyN H v=some t):tyN H' v=some t:=by
 cases v with
 | ref a =>
   simp only[tyN]at h ⊢;split at h
   · rename_i q;rw[e _ _ q];exact h
   · rename_i q;rw[e _ _ q];exact h
   · rename_i q;rw[e _ _ q];exact h
   · cases h
 | _=>exact h
theorem Typed.same {H H':Hp} (e:Same H H') {v:V} (h:Typed H v):Typed H' v:=let ⟨t,q⟩:=h;⟨t,qen e q⟩
theorem qgB {x:V} (h:qeQ x=true):∃ i,x=.int i:=by
 cases x with
 | int i=>exact⟨i,rfl⟩
 | _=>cases h
theorem qip {H:Hp}{v:V}{t:String} (h:tyN H v=some t) (e:qhi "str" t=true):∃ x,v=.str x:=by
 cases v with
 | non=>cases h;cases e
 | bl b=>cases h;cases e
 | int b=>cases h;cases e
 | str b=>exact⟨b,rfl⟩
 | byt b=>cases h
 | flt b=>cases h
 | ty b=>cases h
 | ref a =>
   simp only[tyN]at h;split at h<;>first|(cases h;cases e)|cases h
def zu (v:V) (lo hi:Int):Bool:=match v with
 | .int i=>decide (lo≤i) && decide (i≤hi)
 | _=>false
theorem qfx {v:V} (lo hi:Int) (h:qeQ v=false):zu v lo hi=false:=by
 cases v with
 | int i=>cases h
 | _=>rfl
def sgn (c:Nat):Bool:=(!decide ((⟨#[c]⟩:Str).cps.toList < ("a":Str).cps.toList)) && (!decide (("z":Str).cps.toList < (⟨#[c]⟩:Str).cps.toList))
def qY:V->Bool
 | .str x=>decide (1≤x.length) && decide (x.length≤8) && x.cps.toList.all sgn
 | _=>false
theorem qhV {H:Hp}{v:V}{t:String} (h:tyN H v=some t) (e:qhi "str" t=false):qY v=false:=by
 cases v with
 | str b=>cases h;cases e
 | _=>rfl
theorem qi7 {n:Nat} (h:n≤2000):n≤sizeLine:=Nat.le_trans h (by decide)
def Thing (H:Hp) (v:V):Prop:=Typed H v∧∀ x,v=.str x->x.length≤2000
theorem Thing.same {H H':Hp} (e:Same H H') {v:V} (h:Thing H v):Thing H' v:=⟨h.1.same e,h.2⟩
theorem qfI {l:List Nat}{i c:Nat} (h:l[i]?=some c):l.take (i+1)=l.take i++[c]:=by
 rw[List.take_add_one,h];rfl
theorem qan:bootBuiltins "ValueError"=some (.type "ValueError"):=by decide +kernel
inductive Z3 (vs:List V) (H:Hp) (Q:VK):Prop
 | mk (v:_) (h1:vs=[v]) (h2:Typed H v) (h3:Q (.bl (qeQ v)) H):Z3 vs H Q
def Zj:Sp:=fun vs H Q _=>Z3 vs H Q
inductive jL (vs:List V) (H:Hp) (Q:VK):Prop
 | mk (v lo hi:_) (h1:vs=[v,.int lo,.int hi]) (h2:Typed H v) (h3:Q (.bl (zu v lo hi)) H):jL vs H Q
def zE:Sp:=fun vs H Q _=>jL vs H Q
def spW (lo hi:Int):Sp:=fun vs H Q _=>∃ v,vs=[v]∧Typed H v∧Q (.bl (zu v lo hi)) H
abbrev Qn:Sp:=spW 0 1000000000
abbrev jN:Sp:=spW (-10000000000) 10000000000
abbrev jO:Sp:=spW (-2000000000) 2000000001
inductive JF (vs:List V) (H:Hp) (Q:VK):Prop
 | mk (v:_) (h1:vs=[v]) (h2:Thing H v) (h3:∀ H',Same H H'->Q (.bl (qY v)) H'):JF vs H Q
def Jn:Sp:=fun vs H Q _=>JF vs H Q
inductive Qt (K:Frag) (vs:List V) (H:Hp) (Q:VK):Prop
 | mk (ea:Addr) (x:Str) (C:Addr) (dx:Option Addr) (tb:Value) (h1:vs=[.ref ea,.str x]) (h2:H ea=some (.ext (ExO ea C dx tb))) (h3:xIn K C=true) (h4:Q .non H):Qt K vs H Q
def qL (K:Frag):Sp:=fun vs H Q _=>Qt K vs H Q
inductive Q6 (a:Ad) (vs:List V) (H:Hp) (Q:VK):Prop
 | mk (ea:Addr) (v:V) (h1:vs=[.ref ea,v]) (h2:H ea=some (.ext (ExO ea a.c_NoBond none .none))) (h3:∀ dx,H dx=none->dx≠ea->Q .non (upd (upd H ea (.ext (ExO ea a.c_NoBond (some dx) .none))) dx (.xd [("found",v)]))):Q6 a vs H Q
def Z8 (a:Ad):Sp:=fun vs H Q _=>Q6 a vs H Q
inductive QI (a:Ad) (vs:List V) (H:Hp) (Q:VK):Prop
 | mk (ea:Addr) (v:V) (h1:vs=[.ref ea,v]) (h2:H ea=some (.ext (ExO ea a.c_NoEntry none .none))) (h3:∀ dx,H dx=none->dx≠ea->Q .non (upd (upd H ea (.ext (ExO ea a.c_NoEntry (some dx) .none))) dx (.xd [("found",v)]))):QI a vs H Q
def z4 (a:Ad):Sp:=fun vs H Q _=>QI a vs H Q
inductive zZ (a:Ad) (vs:List V) (H:Hp) (Q:VK):Prop
 | mk (ea:Addr) (v:V) (h1:vs=[.ref ea,v]) (h2:H ea=some (.ext (ExO ea a.c_NoMinutes none .none))) (h3:∀ dx,H dx=none->dx≠ea->Q .non (upd (upd H ea (.ext (ExO ea a.c_NoMinutes (some dx) .none))) dx (.xd [("found",v)]))):zZ a vs H Q
def QH (a:Ad):Sp:=fun vs H Q _=>zZ a vs H Q
inductive Qr (a:Ad) (vs:List V) (H:Hp) (Q:VK):Prop
 | mk (ea:Addr) (v:V) (h1:vs=[.ref ea,v]) (h2:H ea=some (.ext (ExO ea a.c_NoMoment none .none))) (h3:∀ dx,H dx=none->dx≠ea->Q .non (upd (upd H ea (.ext (ExO ea a.c_NoMoment (some dx) .none))) dx (.xd [("found",v)]))):Qr a vs H Q
def Q5 (a:Ad):Sp:=fun vs H Q _=>Qr a vs H Q
inductive Q4 (a:Ad) (vs:List V) (H:Hp) (Q:VK):Prop
 | mk (ea:Addr) (v:V) (h1:vs=[.ref ea,v]) (h2:H ea=some (.ext (ExO ea a.c_NoName none .none))) (h3:∀ dx,H dx=none->dx≠ea->Q .non (upd (upd H ea (.ext (ExO ea a.c_NoName (some dx) .none))) dx (.xd [("found",v)]))):Q4 a vs H Q
def Z7 (a:Ad):Sp:=fun vs H Q _=>Q4 a vs H Q
inductive QG (a:Ad) (vs:List V) (H:Hp) (Q:VK):Prop
 | mk (ea:Addr) (v:V) (h1:vs=[.ref ea,v]) (h2:H ea=some (.ext (ExO ea a.c_NoPlace none .none))) (h3:∀ dx,H dx=none->dx≠ea->Q .non (upd (upd H ea (.ext (ExO ea a.c_NoPlace (some dx) .none))) dx (.xd [("found",v)]))):QG a vs H Q
def zY (a:Ad):Sp:=fun vs H Q _=>QG a vs H Q
inductive Zp (a:Ad) (vs:List V) (H:Hp) (Q:VK):Prop
 | mk (ea:Addr) (v:V) (h1:vs=[.ref ea,v]) (h2:H ea=some (.ext (ExO ea a.c_Taken none .none))) (h3:∀ dx,H dx=none->dx≠ea->Q .non (upd (upd H ea (.ext (ExO ea a.c_Taken (some dx) .none))) dx (.xd [("found",v)]))):Zp a vs H Q
def jR (a:Ad):Sp:=fun vs H Q _=>Zp a vs H Q
inductive QF (a:Ad) (vs:List V) (H:Hp) (Q:VK):Prop
 | mk (ea:Addr) (v:V) (h1:vs=[.ref ea,v]) (h2:H ea=some (.ext (ExO ea a.c_TooMany none .none))) (h3:∀ dx,H dx=none->dx≠ea->Q .non (upd (upd H ea (.ext (ExO ea a.c_TooMany (some dx) .none))) dx (.xd [("many",v)]))):QF a vs H Q
def zw (a:Ad):Sp:=fun vs H Q _=>QF a vs H Q
inductive Zm (vs:List V) (H:Hp) (Q:VK):Prop
 | mk (x:Str) (h1:vs=[.str x]) (h2:qY (.str x)=true) (h3:∀ H',Same H H'->Q .non H'):Zm vs H Q
def QS:Sp:=fun vs H Q _=>Zm vs H Q
inductive QD (vs:List V) (H:Hp) (Q:VK):Prop
 | mk (i:Int) (h1:vs=[.int i]) (h2:0≤i) (h3:i≤1000000000) (h4:Q .non H):QD vs H Q
def Zn:Sp:=fun vs H Q _=>QD vs H Q
inductive Qp (vs:List V) (H:Hp) (Q:VK):Prop
 | mk (i:Int) (h1:vs=[.int i]) (h2:-10000000000≤i) (h3:i≤10000000000) (h4:Q .non H):Qp vs H Q
def Q0:Sp:=fun vs H Q _=>Qp vs H Q
inductive ZA (K:Frag) (vs:List V) (H:Hp) (Q:VK):Prop
 | mk (x C dx:Addr) (nm:Str) (h1:vs=[.ref x,.str nm]) (h2:H x=some (.ins C dx [])) (h3:qY (.str nm)=true) (h4:Cls K C) (h5:NoAttr K C "name") (h6:∀ H',But x H H'->H' x=some (.ins C dx [("name",.str nm)])->Q .non H'):ZA K vs H Q
def zi (K:Frag):Sp:=fun vs H Q _=>ZA K vs H Q
inductive Q2 (K:Frag) (vs:List V) (H:Hp) (Q:VK):Prop
 | mk (x C dx:Addr) (nm:Str) (lo hi:Int) (h1:vs=[.ref x,.str nm,.int lo,.int hi]) (h2:H x=some (.ins C dx [])) (h3:qY (.str nm)=true) (h4:(0≤lo∧lo≤1000000000)) (h5:(0≤hi∧hi≤1000000000)) (h6:Cls K C) (h7:NoAttr K C "name") (h8:NoAttr K C "low") (h9:NoAttr K C "high") (h10:∀ H',But x H H'->H' x=some (.ins C dx [("name",.str nm),("low",.int lo),("high",.int hi)])->Q .non H'):Q2 K vs H Q
def Qz (K:Frag):Sp:=fun vs H Q _=>Q2 K vs H Q
inductive JJ (a:Ad) (vs:List V) (H:Hp) (Q:VK):Prop
 | mk (x dx:Addr) (nm:Str) (m:Int) (h1:vs=[.ref x,.str nm,.int m]) (h2:H x=some (.ins a.c_At dx [])) (h3:qY (.str nm)=true) (h4:(0≤m∧m≤1000000000)) (h5:∀ H',But x H H'->H' x=some (.ins a.c_At dx [("name",.str nm),("low",.int m),("high",.int m)])->Q .non H'):JJ a vs H Q
def Jp (a:Ad):Sp:=fun vs H Q _=>JJ a vs H Q
inductive QN (K:Frag) (vs:List V) (H:Hp) (Q:VK):Prop
 | mk (x C dx:Addr) (nm pl:Str) (lo hi:Int) (h1:vs=[.ref x,.str nm,.str pl,.int lo,.int hi]) (h2:H x=some (.ins C dx [])) (h3:qY (.str nm)=true) (h4:qY (.str pl)=true) (h5:(-10000000000≤lo∧lo≤10000000000)) (h6:(-10000000000≤hi∧hi≤10000000000)) (h7:Cls K C) (h8:NoAttr K C "name") (h9:NoAttr K C "place") (h10:NoAttr K C "low") (h11:NoAttr K C "high") (h12:∀ H',But x H H'->H' x=some (.ins C dx [("name",.str nm),("place",.str pl),("low",.int lo),("high",.int hi)])->Q .non H'):QN K vs H Q
def Qd (K:Frag):Sp:=fun vs H Q _=>QN K vs H Q
inductive Z6 (a:Ad) (vs:List V) (H:Hp) (Q:VK):Prop
 | mk (x dx:Addr) (nm pl:Str) (m:Int) (h1:vs=[.ref x,.str nm,.str pl,.int m]) (h2:H x=some (.ins a.c_Read dx [])) (h3:qY (.str nm)=true) (h4:qY (.str pl)=true) (h5:(-10000000000≤m∧m≤10000000000)) (h6:∀ H',But x H H'->H' x=some (.ins a.c_Read dx [("name",.str nm),("place",.str pl),("low",.int m),("high",.int m)])->Q .non H'):Z6 a vs H Q
def JG (a:Ad):Sp:=fun vs H Q _=>Z6 a vs H Q
inductive QM (vs:List V) (H:Hp) (Q:VK):Prop
 | mk (v:V) (h1:vs=[v]) (h2:∀ l,H l=none->Q (.ref l) (upd H l (.lst []))):QM vs H Q
def zb:Sp:=fun vs H Q _=>QM vs H Q
inductive Qc (K:Frag) (vs:List V) (H:Hp) (Q:VK):Prop
 | mk (x C dx:Addr) (fs:List (Str×V)) (pl:Str) (h1:vs=[.ref x]) (h2:H x=some (.ins C dx fs)) (h3:Cls K C) (h4:NoAttr K C "place") (h5:fs.lookup ("place":Str)=some (.str pl)) (h6:∀ l,H l=none->Q (.ref l) (upd H l (.lst [.str pl]))):Qc K vs H Q
def qO (K:Frag):Sp:=fun vs H Q _=>Qc K vs H Q
theorem QC {H:Hp} (i:Int):Typed H (.int i):=⟨_,rfl⟩
theorem ZU {i lo hi:Int} (h1:lo≤i) (h2:i≤hi):zu (.int i) lo hi=true:=by
 show (decide (lo≤i) && decide (i≤hi))=true;rw[decide_eq_true h1,decide_eq_true h2];rfl
theorem ZX {x:Str} (h:qY (.str x)=true):x.length≤8:=by
 simp only[qY,Bool.and_eq_true,decide_eq_true_eq]at h;exact h.1.2
theorem qc3 {H:Hp}{x:Str} (h:x.length≤2000):Thing H (.str x):=⟨⟨_,rfl⟩,fun y e=>by injection e with e;rw[← e];exact h⟩
theorem qao {H:Hp}{x:Str} (h:qY (.str x)=true):Thing H (.str x):=qc3 (by have:=ZX h;omega)
theorem qW {H H':Hp}{x dx C:Addr} (h1:H x=none) (h2:H dx=none) (b:But x (upd (upd H dx (.own x)) x (.ins C dx [])) H'):Same H H':=fun c o e=>by
 have n1:=qi e h1;have n2:=qi e h2;exact b c o (by rw[qg n1,qg n2];exact e) n1
theorem qj {H G:Hp}{l:Addr}{o:HO} (h:upd H l o=G) (f:H l=none):Same H G∧G l=some o:=by
 subst h;exact⟨Same.new o f,qd⟩
section
variable {P:Program}{w:World}{K:Frag}{mg:Str->Option Value}{base:Heap}
theorem J0 {a:Ad} (T:Txt K mg a):qu P w K mg base CX0 1 a.f_n a.fd_n ["thing"] Zj:=by
 refine T.d_n.F.ok qdb (fun vs H Q E h=>?_) (fun cdv A outer s H vs Q E hr h=>?_)
 · obtain⟨v,rfl,ty,k⟩:=h;rfl
 · obtain⟨v,rfl,ty,k⟩:=h;refine⟨_,(qe (qy (qa1 (qp zC (by rfl) T.n_isinstance qm (qa (pv 0) (qa (Qh (v:=.ty "int") rfl T.n_int qdN rfl) qb))) (qdt (qkt (qp zC (by rfl) T.n_isinstance qm (qa (pv 0) (qa (Qh (v:=.ty "bool") rfl T.n_bool JC rfl) qb)))))))),?_⟩;(try dsimp only [zf,Cx.nox]);obtain⟨t,ht⟩:=ty;refine⟨_,rfl,_,_,_,rfl,(by decide),ht,_,rfl,?_⟩;have e:=qkC ht;refine qkP (fun h1=>?_) (fun h1=>?_)
   · refine⟨_,rfl,_,_,_,rfl,(by decide),ht,_,rfl,?_⟩;rw[h1,Bool.true_and]at e;rw[e];exact k
   · rw[h1,Bool.false_and]at e;rw[← e]at k;exact k
theorem Qi {a:Ad} (T:Txt K mg a):qu P w K mg base CX0 2 a.f_e a.fd_e ["thing","low","high"] zE:=by
 have G_n:=J0 (P:=P) (w:=w) (base:=base) T;refine T.d_e.F.ok qdZ (fun vs H Q E h=>?_) (fun cdv A outer s H vs Q E hr h=>?_)
 · obtain⟨v,lo,hi,rfl,ty,k⟩:=h;rfl
 · obtain⟨v,lo,hi,rfl,ty,k⟩:=h;have h_n:Room (1) _:=hr.mono (by decide);refine⟨_,(qe (qy (qa1 (ql G_n h_n rfl T.d_n.m T.d_n.k T.d_n.b .nil qq (qa (pv 0) qb)) (qdt (qeK qe7 qe7 (pv 1) (pv 0) (pv 2)))))),?_⟩;(try dsimp only [zf,Cx.nox]);refine⟨_,rfl,v,rfl,ty,_,rfl,?_⟩;refine qkP (fun h1=>?_) (fun h1=>?_)
   · obtain⟨i,rfl⟩:=qgB h1;refine⟨_,rfl,_,rfl,_,_,rfl,rfl,_,rfl,?_⟩;refine zg (fun h2=>?_) (fun h2=>?_)
     · refine⟨_,rfl,_,_,rfl,rfl,?_⟩;simp only[zu,decide_eq_true h2,Bool.true_and]at k;exact k
     · simp only[zu,decide_eq_false h2,Bool.false_and]at k;exact k
   · rw[qfx lo hi h1]at k;exact k
theorem ZJ {a:Ad} (T:Txt K mg a):qu P w K mg base CX0 3 a.f_l a.fd_l ["thing"] Qn:=by
 have G_e:=Qi (P:=P) (w:=w) (base:=base) T;refine T.d_l.F.ok qdc (fun vs H Q E h=>?_) (fun cdv A outer s H vs Q E hr h=>?_)
 · obtain⟨v,rfl,ty,k⟩:=h;rfl
 · obtain⟨v,rfl,ty,k⟩:=h;have h_e:Room (2) _:=hr.mono (by decide);obtain⟨t_LAST,c_LAST⟩:=T.g_LAST;refine⟨_,(qe (qy (ql G_e h_e rfl T.d_e.m T.d_e.k T.d_e.b .nil qq (qa (pv 0) (qa qf (qa (qI (v:=.int 1000000000) rfl c_LAST ⟨_,rfl⟩) qb)))))),?_⟩;(try dsimp only [zf,Cx.nox]);exact⟨_,rfl,v,_,_,rfl,ty,k⟩
theorem qcD {a:Ad} (T:Txt K mg a):qu P w K mg base CX0 3 a.f_P a.fd_P ["thing"] jN:=by
 have G_e:=Qi (P:=P) (w:=w) (base:=base) T;refine T.d_P.F.ok qcq (fun vs H Q E h=>?_) (fun cdv A outer s H vs Q E hr h=>?_)
 · obtain⟨v,rfl,ty,k⟩:=h;rfl
 · obtain⟨v,rfl,ty,k⟩:=h;have h_e:Room (2) _:=hr.mono (by decide);obtain⟨t_WIDEST_READING,c_WIDEST_READING⟩:=T.g_WIDEST_READING;refine⟨_,(qe (qy (ql G_e h_e rfl T.d_e.m T.d_e.k T.d_e.b .nil qq (qa (pv 0) (qa (qah QZ (qI (v:=.int 10000000000) rfl c_WIDEST_READING ⟨_,rfl⟩)) (qa (qI (v:=.int 10000000000) rfl c_WIDEST_READING ⟨_,rfl⟩) qb)))))),?_⟩;(try dsimp only [zf,Cx.nox]);exact⟨_,rfl,_,rfl,v,_,_,rfl,ty,k⟩
theorem qcE {a:Ad} (T:Txt K mg a):qu P w K mg base CX0 3 a.f_Q a.fd_Q ["thing"] jO:=by
 have G_e:=Qi (P:=P) (w:=w) (base:=base) T;refine T.d_Q.F.ok qcr (fun vs H Q E h=>?_) (fun cdv A outer s H vs Q E hr h=>?_)
 · obtain⟨v,rfl,ty,k⟩:=h;rfl
 · obtain⟨v,rfl,ty,k⟩:=h;have h_e:Room (2) _:=hr.mono (by decide);obtain⟨t_MOST_MINUTES,c_MOST_MINUTES⟩:=T.g_MOST_MINUTES;refine⟨_,(qe (qy (ql G_e h_e rfl T.d_e.m T.d_e.k T.d_e.b .nil qq (qa (pv 0) (qa (qH Jc qf (qI (v:=.int 2000000001) rfl c_MOST_MINUTES ⟨_,rfl⟩)) (qa (qI (v:=.int 2000000001) rfl c_MOST_MINUTES ⟨_,rfl⟩) qb)))))),?_⟩;(try dsimp only [zf,Cx.nox]);exact⟨_,rfl,_,_,rfl,rfl,v,_,_,rfl,ty,k⟩
theorem qb9 {a:Ad} (T:Txt K mg a):qu P w K mg base CX0 1 a.f_s a.fd_s ["thing"] Jn:=by
 refine T.d_s.F.ok qe3 (fun vs H Q E h=>?_) (fun cdv A outer s H vs Q E hr h=>?_)
 · obtain⟨v,rfl,th,k⟩:=h;rfl
 · obtain⟨v,rfl,th,k⟩:=h;obtain⟨t_LONGEST_NAME,c_LONGEST_NAME⟩:=T.g_LONGEST_NAME
   refine⟨_,(qc (qM (PW.pt (Jt (qV (qP (qp zC (by rfl) T.n_isinstance qm (qa (pv 0) (qa (Qh (v:=.ty "str") rfl T.n_str qdM rfl) qb))))) (ZG (qV (qhy qe7 qe7 qf (qp qR (by rfl) T.n_len qE (qa (pv 0) qb)) (qI (v:=.int 8) rfl c_LONGEST_NAME ⟨_,rfl⟩))))))
       (qe (qy zn))
       qv)
     (qe (qy (qp (qg2 rfl) (by rfl) T.n_all qg7 (qa (Ju rfl (CompOk.def ["sign"] [none]) (qkr (pv 0)) (fun _ _ _ _ _=>(qU (i:=0) (show List.Nodup (["sign"]:List Str) by decide +kernel) rfl (Or.inl rfl))) (fun _ _ _ _ _=>qd4) (fun _ _ _ _ _=>(qeK qdw qdw qt (pv 0) qt))) qb))))),?_⟩
   try dsimp only [zf,Cx.nox]
   obtain⟨t,ht⟩:=th.1;refine⟨_,rfl,_,_,_,rfl,(by decide),ht,_,rfl,?_⟩;refine qkP (fun h1=>?_) (fun h1=>?_)
   · have h1':qhi "str" t=false:=by simpa using h1
     rw[qhV ht h1']at k;exact qgA (k H (Same.refl H))
   · have h1':qhi "str" t=true:=by simpa using h1
     obtain⟨x,rfl⟩:=qip ht h1';have hl:=th.2 x rfl;have hx:x.length=x.cps.size:=rfl;refine⟨_,rfl,_,_,rfl,⟨qi7 hl,rfl⟩,_,_,rfl,rfl,_,rfl,?_⟩;refine zg (fun h2=>?_) (fun h2=>?_)
     · refine⟨_,_,rfl,rfl,_,rfl,?_⟩;refine qkO (fun h3=>?_) (fun h3=>?_)
       · have e:qY (.str x)=false:=by
           simp only[qY];rw[decide_eq_false (by omega:¬ x.length≤8),Bool.and_false,Bool.false_and]
         rw[e]at k;exact k H (Same.refl H)
       · refine⟨_,rfl,x,rfl,fun D fD=>?_⟩;refine qig (x:=x) (D:=D) (fun i σ H2=>∃ (s0:Option V) (bs:List Bool),σ=[s0]∧Same H H2∧H2 D=some (.lst (bs.map V.bl))∧bs=(x.cps.toList.take i).map sgn) ⟨none,[],rfl,Same.new _ fD,qd,rfl⟩ ?_ ?_
         · rintro i c σ H2 hc ⟨s0,bs,rfl,s2,hD,hb⟩;obtain⟨hi,_⟩:=Array.getElem?_eq_some_iff.mp hc;have hcl:x.cps.toList[i]?=some c:=by simpa using hc
           have hbl:bs.length≤i:=by rw[hb,List.length_map,List.length_take];omega
           refine⟨_,rfl,_,_,rfl,rfl,_,rfl,?_⟩
           have fin:∀ v:Bool,v=sgn c->∃ ys,H2 D=some (.lst ys)∧ys.length < sizeLine∧∃ (s0:Option V) (bs:List Bool),[some (V.str ⟨#[c]⟩)]=[s0]∧Same H (upd H2 D (.lst (ys++[.bl v])))∧(upd H2 D (.lst (ys++[.bl v]))) D=some (.lst (bs.map V.bl))∧bs=(x.cps.toList.take (i+1)).map sgn:=fun v e =>
             ⟨_,hD,zc (by rw[List.length_map];omega),_,bs++[v],rfl,(fun b o z=>by rw[qg (qi z fD)];exact s2 b o z),by rw[qd,List.map_append];rfl,by rw[qfI hcl,List.map_append,← hb,e];rfl⟩
           refine qkP (fun h4=>?_) (fun h4=>?_)
           · refine⟨_,_,rfl,rfl,fin _ ?_⟩;unfold sgn;rw[h4,Bool.true_and]
           · refine fin _ ?_;unfold sgn;rw[h4,Bool.false_and]
         · rintro σ H2 ⟨s0,bs,rfl,s2,hD,hb⟩;refine⟨D,bs,rfl,SqL.of hD,?_⟩
           have e:qY (.str x)=bs.all id:=by
             simp only[qY];rw[decide_eq_true (by omega:1≤x.length),decide_eq_true (by omega:x.length≤8),hb,List.all_map,List.take_of_length_le (by simp)];rfl
           rw[e]at k;exact k H2 s2
     · have e:qY (.str x)=false:=by
         simp only[qY];rw[decide_eq_false (by omega:¬ 1≤x.length),Bool.false_and,Bool.false_and]
       rw[e]at k;exact⟨_,rfl,qgA (k H (Same.refl H))⟩
theorem qT {a:Ad} (T:Txt K mg a):qu P w K mg base CX0 1 a.f_c a.fd_c ["self","text"] (qL K):=by
 refine T.d_c.F.ok qag (fun vs H Q E h=>?_) (fun cdv A outer s H vs Q E hr h=>?_)
 · obtain⟨ea,x,C,dx,tb,rfl,he,xi,kk⟩:=h;rfl
 · obtain⟨ea,x,C,dx,tb,rfl,he,xi,kk⟩:=h;refine⟨_,(qe (qx (qhF rfl T.n_ValueError qan (qa (pv 0) (qa (pv 1) qb))))),?_⟩;(try dsimp only [zf,Cx.nox]);exact⟨_,rfl,_,rfl,ea,C,dx,tb,_,rfl,Nat.le_of_ble_eq_true rfl,he,xi,kk⟩
theorem qbJ {a:Ad} (T:Txt K mg a):qu P w K mg base CX0 3 a.f_ah a.fd_ah ["self","found"] (Z8 a):=by
 have G_c:=qT (P:=P) (w:=w) (base:=base) T;refine T.d_ah.F.ok qbC (fun vs H Q E h=>?_) (fun cdv A outer s H vs Q E hr h=>?_)
 · obtain⟨ea,v,rfl,he,kk⟩:=h;rfl
 · obtain⟨ea,v,rfl,he,kk⟩:=h;have h_c:Room (1+1) _:=hr.mono (by decide)
   refine⟨_,(qc (qx (zm T.ci_LogError G_c (h_c.mono (by decide)) T.d_c.b rfl T.g_LogError (qa (pv 0) (qa qt qb))))
     (qe (ZH (pv 0) (pv 1) rfl))),?_⟩
   try dsimp only [zf,Cx.nox]
   refine⟨_,rfl,ea,_,_,_,_,rfl,he,T.X_NoBond.c.xi,?_⟩;exact⟨_,rfl,_,rfl,ea,_,_,rfl,he,T.X_NoBond.c,T.n_NoBond_found,kk⟩
theorem ZL {a:Ad} (T:Txt K mg a):qu P w K mg base CX0 3 a.f_H a.fd_H ["self","found"] (z4 a):=by
 have G_c:=qT (P:=P) (w:=w) (base:=base) T;refine T.d_H.F.ok qaJ (fun vs H Q E h=>?_) (fun cdv A outer s H vs Q E hr h=>?_)
 · obtain⟨ea,v,rfl,he,kk⟩:=h;rfl
 · obtain⟨ea,v,rfl,he,kk⟩:=h;have h_c:Room (1+1) _:=hr.mono (by decide)
   refine⟨_,(qc (qx (zm T.ci_LogError G_c (h_c.mono (by decide)) T.d_c.b rfl T.g_LogError (qa (pv 0) (qa qt qb))))
     (qe (ZH (pv 0) (pv 1) rfl))),?_⟩
   try dsimp only [zf,Cx.nox]
   refine⟨_,rfl,ea,_,_,_,_,rfl,he,T.X_NoEntry.c.xi,?_⟩;exact⟨_,rfl,_,rfl,ea,_,_,rfl,he,T.X_NoEntry.c,T.n_NoEntry_found,kk⟩
theorem Jw {a:Ad} (T:Txt K mg a):qu P w K mg base CX0 3 a.f_ai a.fd_ai ["self","found"] (QH a):=by
 have G_c:=qT (P:=P) (w:=w) (base:=base) T;refine T.d_ai.F.ok Jq (fun vs H Q E h=>?_) (fun cdv A outer s H vs Q E hr h=>?_)
 · obtain⟨ea,v,rfl,he,kk⟩:=h;rfl
 · obtain⟨ea,v,rfl,he,kk⟩:=h;have h_c:Room (1+1) _:=hr.mono (by decide)
   refine⟨_,(qc (qx (zm T.ci_LogError G_c (h_c.mono (by decide)) T.d_c.b rfl T.g_LogError (qa (pv 0) (qa qt qb))))
     (qe (ZH (pv 0) (pv 1) rfl))),?_⟩
   try dsimp only [zf,Cx.nox]
   refine⟨_,rfl,ea,_,_,_,_,rfl,he,T.X_NoMinutes.c.xi,?_⟩;exact⟨_,rfl,_,rfl,ea,_,_,rfl,he,T.X_NoMinutes.c,T.n_NoMinutes_found,kk⟩
theorem qaj {a:Ad} (T:Txt K mg a):qu P w K mg base CX0 3 a.f_aj a.fd_aj ["self","found"] (Q5 a):=by
 have G_c:=qT (P:=P) (w:=w) (base:=base) T;refine T.d_aj.F.ok qaf (fun vs H Q E h=>?_) (fun cdv A outer s H vs Q E hr h=>?_)
 · obtain⟨ea,v,rfl,he,kk⟩:=h;rfl
 · obtain⟨ea,v,rfl,he,kk⟩:=h;have h_c:Room (1+1) _:=hr.mono (by decide)
   refine⟨_,(qc (qx (zm T.ci_LogError G_c (h_c.mono (by decide)) T.d_c.b rfl T.g_LogError (qa (pv 0) (qa qt qb))))
     (qe (ZH (pv 0) (pv 1) rfl))),?_⟩
   try dsimp only [zf,Cx.nox]
   refine⟨_,rfl,ea,_,_,_,_,rfl,he,T.X_NoMoment.c.xi,?_⟩;exact⟨_,rfl,_,rfl,ea,_,_,rfl,he,T.X_NoMoment.c,T.n_NoMoment_found,kk⟩
theorem qbI {a:Ad} (T:Txt K mg a):qu P w K mg base CX0 3 a.f_ak a.fd_ak ["self","found"] (Z7 a):=by
 have G_c:=qT (P:=P) (w:=w) (base:=base) T;refine T.d_ak.F.ok qbB (fun vs H Q E h=>?_) (fun cdv A outer s H vs Q E hr h=>?_)
 · obtain⟨ea,v,rfl,he,kk⟩:=h;rfl
 · obtain⟨ea,v,rfl,he,kk⟩:=h;have h_c:Room (1+1) _:=hr.mono (by decide)
   refine⟨_,(qc (qx (zm T.ci_LogError G_c (h_c.mono (by decide)) T.d_c.b rfl T.g_LogError (qa (pv 0) (qa qt qb))))
     (qe (ZH (pv 0) (pv 1) rfl))),?_⟩
   try dsimp only [zf,Cx.nox]
   refine⟨_,rfl,ea,_,_,_,_,rfl,he,T.X_NoName.c.xi,?_⟩;exact⟨_,rfl,_,rfl,ea,_,_,rfl,he,T.X_NoName.c,T.n_NoName_found,kk⟩
theorem ZK {a:Ad} (T:Txt K mg a):qu P w K mg base CX0 3 a.f_I a.fd_I ["self","found"] (zY a):=by
 have G_c:=qT (P:=P) (w:=w) (base:=base) T;refine T.d_I.F.ok qaI (fun vs H Q E h=>?_) (fun cdv A outer s H vs Q E hr h=>?_)
 · obtain⟨ea,v,rfl,he,kk⟩:=h;rfl
 · obtain⟨ea,v,rfl,he,kk⟩:=h;have h_c:Room (1+1) _:=hr.mono (by decide)
   refine⟨_,(qc (qx (zm T.ci_LogError G_c (h_c.mono (by decide)) T.d_c.b rfl T.g_LogError (qa (pv 0) (qa qt qb))))
     (qe (ZH (pv 0) (pv 1) rfl))),?_⟩
   try dsimp only [zf,Cx.nox]
   refine⟨_,rfl,ea,_,_,_,_,rfl,he,T.X_NoPlace.c.xi,?_⟩;exact⟨_,rfl,_,rfl,ea,_,_,rfl,he,T.X_NoPlace.c,T.n_NoPlace_found,kk⟩
theorem qcH {a:Ad} (T:Txt K mg a):qu P w K mg base CX0 3 a.f_al a.fd_al ["self","found"] (jR a):=by
 have G_c:=qT (P:=P) (w:=w) (base:=base) T;refine T.d_al.F.ok qcu (fun vs H Q E h=>?_) (fun cdv A outer s H vs Q E hr h=>?_)
 · obtain⟨ea,v,rfl,he,kk⟩:=h;rfl
 · obtain⟨ea,v,rfl,he,kk⟩:=h;have h_c:Room (1+1) _:=hr.mono (by decide)
   refine⟨_,(qc (qx (zm T.ci_LogError G_c (h_c.mono (by decide)) T.d_c.b rfl T.g_LogError (qa (pv 0) (qa qt qb))))
     (qe (ZH (pv 0) (pv 1) rfl))),?_⟩
   try dsimp only [zf,Cx.nox]
   refine⟨_,rfl,ea,_,_,_,_,rfl,he,T.X_Taken.c.xi,?_⟩;exact⟨_,rfl,_,rfl,ea,_,_,rfl,he,T.X_Taken.c,T.n_Taken_found,kk⟩
theorem Qj {a:Ad} (T:Txt K mg a):qu P w K mg base CX0 3 a.f_p a.fd_p ["self","many"] (zw a):=by
 have G_c:=qT (P:=P) (w:=w) (base:=base) T;refine T.d_p.F.ok qaH (fun vs H Q E h=>?_) (fun cdv A outer s H vs Q E hr h=>?_)
 · obtain⟨ea,v,rfl,he,kk⟩:=h;rfl
 · obtain⟨ea,v,rfl,he,kk⟩:=h;have h_c:Room (1+1) _:=hr.mono (by decide)
   refine⟨_,(qc (qx (zm T.ci_LogError G_c (h_c.mono (by decide)) T.d_c.b rfl T.g_LogError (qa (pv 0) (qa qt qb))))
     (qe (ZH (pv 0) (pv 1) rfl))),?_⟩
   try dsimp only [zf,Cx.nox]
   refine⟨_,rfl,ea,_,_,_,_,rfl,he,T.X_TooMany.c.xi,?_⟩;exact⟨_,rfl,_,rfl,ea,_,_,rfl,he,T.X_TooMany.c,T.n_TooMany_many,kk⟩
theorem Je {a:Ad} (T:Txt K mg a):qu P w K mg base CX0 2 a.f_t a.fd_t ["thing"] QS:=by
 have G_s:=qb9 (P:=P) (w:=w) (base:=base) T;refine T.d_t.F.ok qct (fun vs H Q E h=>?_) (fun cdv A outer s H vs Q E hr h=>?_)
 · obtain⟨x,rfl,ok,k⟩:=h;rfl
 · obtain⟨x,rfl,ok,k⟩:=h;have h_s:Room (1) _:=hr.mono (by decide)
   refine⟨_,(qe (qM (qV (qP (ql G_s h_s rfl T.d_s.m T.d_s.k T.d_s.b .nil qq (qa (pv 0) qb))))
       (qe zd)
       qv)),?_⟩
   try dsimp only [zf,Cx.nox]
   refine⟨_,rfl,.str x,rfl,qao ok,fun H1 S1=>⟨_,rfl,?_⟩⟩;rw[ok];exact qN rfl (k H1 S1)
theorem qa2 {a:Ad} (T:Txt K mg a):qu P w K mg base CX0 4 a.f_J a.fd_J ["thing"] Zn:=by
 have G_l:=ZJ (P:=P) (w:=w) (base:=base) T;refine T.d_J.F.ok qaF (fun vs H Q E h=>?_) (fun cdv A outer s H vs Q E hr h=>?_)
 · obtain⟨i,rfl,h1,h2,k⟩:=h;rfl
 · obtain⟨i,rfl,h1,h2,k⟩:=h;have h_l:Room (3) _:=hr.mono (by decide)
   refine⟨_,(qe (qM (qV (qP (ql G_l h_l rfl T.d_l.m T.d_l.k T.d_l.b .nil qq (qa (pv 0) qb))))
       (qe zd)
       qv)),?_⟩
   try dsimp only [zf,Cx.nox]
   refine⟨_,rfl,.int i,rfl,QC i,_,rfl,?_⟩;rw[ZU h1 h2];exact qN rfl k
theorem qai {a:Ad} (T:Txt K mg a):qu P w K mg base CX0 4 a.f_K a.fd_K ["thing"] Q0:=by
 have G_P:=qcD (P:=P) (w:=w) (base:=base) T;refine T.d_K.F.ok qad (fun vs H Q E h=>?_) (fun cdv A outer s H vs Q E hr h=>?_)
 · obtain⟨i,rfl,h1,h2,k⟩:=h;rfl
 · obtain⟨i,rfl,h1,h2,k⟩:=h;have h_P:Room (3) _:=hr.mono (by decide)
   refine⟨_,(qe (qM (qV (qP (ql G_P h_P rfl T.d_P.m T.d_P.k T.d_P.b .nil qq (qa (pv 0) qb))))
       (qe zd)
       qv)),?_⟩
   try dsimp only [zf,Cx.nox]
   refine⟨_,rfl,.int i,rfl,QC i,_,rfl,?_⟩;rw[ZU h1 h2];exact qN rfl k
theorem zo {a:Ad} (T:Txt K mg a):qu P w K mg base CX0 3 a.f_d a.fd_d ["self","name"] (zi K):=by
 have G_t:=Je (P:=P) (w:=w) (base:=base) T;refine T.d_d.F.ok qcz (fun vs H Q E h=>?_) (fun cdv A outer s H vs Q E hr h=>?_)
 · obtain⟨x,C,dx,nm,rfl,hx,ok,cl,na,k⟩:=h;rfl
 · obtain⟨x,C,dx,nm,rfl,hx,ok,cl,na,k⟩:=h;have h_t:Room (2) _:=hr.mono (by decide)
   refine⟨_,(qc (qx (ql G_t h_t rfl T.d_t.m T.d_t.k T.d_t.b .nil qq (qa (pv 1) qb)))
     (qe (Qw (pv 0) (pv 1) rfl))),?_⟩
   try dsimp only [zf,Cx.nox]
   refine⟨_,rfl,nm,rfl,ok,fun H1 S1=>?_⟩;exact⟨_,rfl,_,rfl,x,C,dx,_,rfl,S1 _ _ hx,cl,na,(by decide),k _ (fun b o z nb=>by rw[qg nb];exact S1 b o z) qd⟩
theorem jz {a:Ad} (T:Txt K mg a):qu P w K mg base CX0 5 a.f_w a.fd_w ["self","name","low","high"] (Qz K):=by
 have G_d:=zo (P:=P) (w:=w) (base:=base) T;have G_J:=qa2 (P:=P) (w:=w) (base:=base) T;refine T.d_w.F.ok qbz (fun vs H Q E h=>?_) (fun cdv A outer s H vs Q E hr h=>?_)
 · obtain⟨x,C,dx,nm,lo,hi,rfl,hx,ok,hlo,hhi,cl,n1,n2,n3,k⟩:=h;rfl
 · obtain⟨x,C,dx,nm,lo,hi,rfl,hx,ok,hlo,hhi,cl,n1,n2,n3,k⟩:=h;have h_d:Room (3+1) _:=hr.mono (by decide);have h_J:Room (4) _:=hr.mono (by decide)
   refine⟨_,(qc (qx (zm T.ci_Entry G_d (h_d.mono (by decide)) T.d_d.b rfl T.g_Entry (qa (pv 0) (qa (pv 1) qb))))
     (qc (qx (ql G_J h_J rfl T.d_J.m T.d_J.k T.d_J.b .nil qq (qa (pv 2) qb)))
     (qc (qx (ql G_J h_J rfl T.d_J.m T.d_J.k T.d_J.b .nil qq (qa (pv 3) qb)))
     (qc (Qw (pv 0) (pv 2) rfl)
     (qe (Qw (pv 0) (pv 3) rfl)))))),?_⟩
   try dsimp only [zf,Cx.nox]
   refine⟨_,rfl,_,rfl,x,C,dx,nm,rfl,hx,ok,cl,n1,fun H1 B1 h1=>?_⟩;refine⟨_,rfl,lo,rfl,hlo.1,hlo.2,?_⟩;refine⟨_,rfl,hi,rfl,hhi.1,hhi.2,?_⟩;refine⟨_,rfl,_,rfl,x,C,dx,_,rfl,h1,cl,n2,(by simp),?_⟩;refine⟨_,rfl,_,rfl,x,C,dx,_,rfl,qd,cl,n3,(Nat.le_of_ble_eq_true rfl),?_⟩;exact k _ ((B1.put _).put _) (by rw[qd];rfl)
theorem qcb {a:Ad} (T:Txt K mg a):qu P w K mg base CX0 7 a.f_F a.fd_F ["self","name","moment"] (Jp a):=by
 have G_w:=jz (P:=P) (w:=w) (base:=base) T;refine T.d_F.F.ok qe4 (fun vs H Q E h=>?_) (fun cdv A outer s H vs Q E hr h=>?_)
 · obtain⟨x,dx,nm,m,rfl,hx,ok,hm,k⟩:=h;rfl
 · obtain⟨x,dx,nm,m,rfl,hx,ok,hm,k⟩:=h;have h_w:Room (5+1) _:=hr.mono (by decide);refine⟨_,(qe (qx (zm T.ci_Within G_w (h_w.mono (by decide)) T.d_w.b rfl T.g_Within (qa (pv 0) (qa (pv 1) (qa (pv 2) (qa (pv 2) qb))))))),?_⟩;(try dsimp only [zf,Cx.nox]);exact⟨_,rfl,_,rfl,_,rfl,_,rfl,x,a.c_At,dx,nm,m,m,rfl,hx,ok,hm,hm,T.cl_At,T.n_At_name,T.n_At_low,T.n_At_high,fun H1 B1 h1=>k H1 B1 h1⟩
theorem ZO {a:Ad} (T:Txt K mg a):qu P w K mg base CX0 5 a.f_x a.fd_x ["self","name","place","low","high"] (Qd K):=by
 have G_d:=zo (P:=P) (w:=w) (base:=base) T;have G_t:=Je (P:=P) (w:=w) (base:=base) T;have G_K:=qai (P:=P) (w:=w) (base:=base) T;refine T.d_x.F.ok qaM (fun vs H Q E h=>?_) (fun cdv A outer s H vs Q E hr h=>?_)
 · obtain⟨x,C,dx,nm,pl,lo,hi,rfl,hx,ok,okp,hlo,hhi,cl,n1,n2,n3,n4,k⟩:=h;rfl
 · obtain⟨x,C,dx,nm,pl,lo,hi,rfl,hx,ok,okp,hlo,hhi,cl,n1,n2,n3,n4,k⟩:=h;have h_d:Room (3+1) _:=hr.mono (by decide);have h_t:Room (2) _:=hr.mono (by decide);have h_K:Room (4) _:=hr.mono (by decide)
   refine⟨_,(qc (qx (zm T.ci_Entry G_d (h_d.mono (by decide)) T.d_d.b rfl T.g_Entry (qa (pv 0) (qa (pv 1) qb))))
     (qc (qx (ql G_t h_t rfl T.d_t.m T.d_t.k T.d_t.b .nil qq (qa (pv 2) qb)))
     (qc (qx (ql G_K h_K rfl T.d_K.m T.d_K.k T.d_K.b .nil qq (qa (pv 3) qb)))
     (qc (qx (ql G_K h_K rfl T.d_K.m T.d_K.k T.d_K.b .nil qq (qa (pv 4) qb)))
     (qc (Qw (pv 0) (pv 2) rfl)
     (qc (Qw (pv 0) (pv 3) rfl)
     (qe (Qw (pv 0) (pv 4) rfl)))))))),?_⟩
   try dsimp only [zf,Cx.nox]
   refine⟨_,rfl,_,rfl,x,C,dx,nm,rfl,hx,ok,cl,n1,fun H1 B1 h1=>?_⟩;refine⟨_,rfl,pl,rfl,okp,fun H2 S2=>?_⟩;refine⟨_,rfl,lo,rfl,hlo.1,hlo.2,?_⟩;refine⟨_,rfl,hi,rfl,hhi.1,hhi.2,?_⟩;refine⟨_,rfl,_,rfl,x,C,dx,_,rfl,S2 _ _ h1,cl,n2,(by simp),?_⟩;refine⟨_,rfl,_,rfl,x,C,dx,_,rfl,qd,cl,n3,(Nat.le_of_ble_eq_true rfl),?_⟩;refine⟨_,rfl,_,rfl,x,C,dx,_,rfl,qd,cl,n4,(Nat.le_of_ble_eq_true rfl),?_⟩;exact k _ ((((B1.same S2).put _).put _).put _) (by rw[qd];rfl)
theorem qdA {a:Ad} (T:Txt K mg a):qu P w K mg base CX0 7 a.f_v a.fd_v ["self","name","place","reading"] (JG a):=by
 have G_x:=ZO (P:=P) (w:=w) (base:=base) T;refine T.d_v.F.ok qdd (fun vs H Q E h=>?_) (fun cdv A outer s H vs Q E hr h=>?_)
 · obtain⟨x,dx,nm,pl,m,rfl,hx,ok,okp,hm,k⟩:=h;rfl
 · obtain⟨x,dx,nm,pl,m,rfl,hx,ok,okp,hm,k⟩:=h;have h_x:Room (5+1) _:=hr.mono (by decide);refine⟨_,(qe (qx (zm T.ci_Between G_x (h_x.mono (by decide)) T.d_x.b rfl T.g_Between (qa (pv 0) (qa (pv 1) (qa (pv 2) (qa (pv 3) (qa (pv 3) qb)))))))),?_⟩;(try dsimp only [zf,Cx.nox]);exact⟨_,rfl,_,rfl,_,rfl,_,rfl,_,rfl,x,a.c_Read,dx,nm,pl,m,m,rfl,hx,ok,okp,hm,hm,T.cl_Read,T.n_Read_name,T.n_Read_place,T.n_Read_low,T.n_Read_high,fun H1 B1 h1=>k H1 B1 h1⟩
theorem ZN {a:Ad} (T:Txt K mg a):qu P w K mg base CX0 1 a.f_o a.fd_o ["self"] zb:=by
 refine T.d_o.F.ok qaL (fun vs H Q E h=>?_) (fun cdv A outer s H vs Q E hr h=>?_)
 · obtain⟨v,rfl,k⟩:=h;rfl
 · obtain⟨v,rfl,k⟩:=h;refine⟨_,(qe (qy (qQ qb))),?_⟩;(try dsimp only [zf,Cx.nox]);exact⟨Nat.zero_le _,fun l f=>k l f⟩
theorem zF {a:Ad} (T:Txt K mg a):qu P w K mg base CX0 1 a.f_g a.fd_g ["self"] (qO K):=by
 refine T.d_g.F.ok Js (fun vs H Q E h=>?_) (fun cdv A outer s H vs Q E hr h=>?_)
 · obtain⟨x,C,dx,fs,pl,rfl,hx,cl,na,lk,k⟩:=h;rfl
 · obtain⟨x,C,dx,fs,pl,rfl,hx,cl,na,lk,k⟩:=h;refine⟨_,(qe (qy (qQ (qa (qZ (pv 0) rfl) qb)))),?_⟩;(try dsimp only [zf,Cx.nox]);exact⟨_,rfl,x,C,dx,fs,_,rfl,hx,cl,na,lk,qk (Nat.le_of_ble_eq_true rfl),fun l f=>k l f⟩
end
theorem Rs.same {H H':Hp}{q:Addr}{rows:List (Int×Int)} (h:Rs H q rows) (s:Same H H'):Rs H' q rows:=by
 obtain⟨zs,h1,h2⟩:=h;exact⟨zs,s _ _ h1,h2.same s⟩
theorem qh7 {rows:List (Int×Int)} (h:Good rows):0 < rows.length:=by
 obtain⟨n,hn⟩:=h.fst
 cases rows with
 | nil=>cases hn
 | cons r rs=>exact Nat.succ_pos _
theorem Good.ne {rows:List (Int×Int)} (h:Good rows):0 < rows.length:=qh7 h
inductive qax (vs:List V) (H:Hp) (Q:VK):Prop
 | mk (t:Addr) (r:Int×Int) (w:Int) (h1:vs=[.ref t,.int w]) (h2:H t=some (.tup (pr r))) (h3:0≤r.1) (h4:r.1≤1000000000) (h5:-w≤r.2) (h6:r.2≤w) (h7:Q (.bl true) H):qax vs H Q
def qc5:Sp:=fun vs H Q _=>qax vs H Q
inductive Z2 (vs:List V) (H:Hp) (Q:VK):Prop
 | mk (q:Addr) (i:Nat) (rows:List (Int×Int)) (h1:vs=[.ref q,.int i]) (h2:Rs H q rows) (h3:Good rows) (h4:i < rows.length) (h5:Q (.bl true) H):Z2 vs H Q
def JE:Sp:=fun vs H Q _=>Z2 vs H Q
inductive Zk (vs:List V) (H:Hp) (Q:VK):Prop
 | mk (q:Addr) (rows:List (Int×Int)) (h1:vs=[.ref q,.int 21,.int 2880]) (h2:Rs H q rows) (h3:Good rows) (h4:∀ H',Same H H'->Q .non H'):Zk vs H Q
def jP:Sp:=fun vs H Q _=>Zk vs H Q
inductive Zq (a:Ad) (vs:List V) (H:Hp) (Q:VK):Prop
 | mk (x dx q:Addr) (rows:List (Int×Int)) (h1:vs=[.ref x,.ref q]) (h2:H x=some (.ins a.c_Table dx [])) (h3:Rs H q rows) (h4:Good rows) (h5:∀ H',But x H H'->Q .non H'):Zq a vs H Q
def QT (a:Ad):Sp:=fun vs H Q _=>Zq a vs H Q
section
variable {P:Program}{w:World}{K:Frag}{mg:Str->Option Value}{base:Heap}
theorem qgf {a:Ad} (T:Txt K mg a):qu P w K mg base CX0 4 a.f_W a.fd_W ["thing","widest"] qc5:=by
 have G_l:=ZJ (P:=P) (w:=w) (base:=base) T;have G_e:=Qi (P:=P) (w:=w) (base:=base) T;refine T.d_W.F.ok qfU (fun vs H Q E h=>?_) (fun cdv A outer s H vs Q E hr h=>?_)
 · obtain⟨t,r,w,rfl,ht,h1,h2,h3,h4,kk⟩:=h;rfl
 · obtain⟨t,r,w,rfl,ht,h1,h2,h3,h4,kk⟩:=h;have hU:=hr.units;have h_l:Room (3) _:=hr.mono (by decide);have h_e:Room (2) _:=hr.mono (by decide)
   refine⟨_,(qc (qM (PW.pt (Jt (qV (qP (qp zC (by rfl) T.n_isinstance qm (qa (pv 0) (qa (Qh (v:=.ty "tuple") rfl T.n_tuple qbu rfl) qb))))) (ZG (qB (uNe hU) (qp qR (by rfl) T.n_len qE (qa (pv 0) qb)) qf (qJ _)))))
       (qe (qy zn))
       qv)
     (qe (qy (qa1 (ql G_l h_l rfl T.d_l.m T.d_l.k T.d_l.b .nil qq (qa (qD (r:=rIx K) qr (pv 0) qf (fun _ _=>rfl)) qb)) (qdt (ql G_e h_e rfl T.d_e.m T.d_e.k T.d_e.b .nil qq (qa (qD (r:=rIx K) qr (pv 0) qf (fun _ _=>rfl)) (qa (qah QZ (pv 1)) (qa (pv 1) qb))))))))),?_⟩
   try dsimp only [zf,Cx.nox]
   have ty:tyN H (.ref t)=some "tuple":=by simp only[tyN];rw[ht]
   refine⟨_,rfl,_,_,_,rfl,(by decide),ty,true,rfl,qN rfl ?_⟩;refine⟨_,rfl,_,_,rfl,.inr ⟨_,SqT.of ht,rfl⟩,.inl ⟨rfl,_,rfl,qkO (fun g=>absurd rfl g) (fun _=>?_)⟩⟩;refine⟨_,rfl,.inr (.inl ⟨t,_,_,_,rfl,rfl,SqT.of ht,rfl,_,rfl,QC r.1,_,rfl,?_⟩)⟩;rw[show zu (.int r.1) 0 1000000000=true from ZU h1 h2];refine qgA ?_;refine⟨_,rfl,.inr (.inl ⟨t,_,_,_,rfl,rfl,SqT.of ht,rfl,_,rfl,_,rfl,_,rfl,_,-w,w,rfl,QC r.2,?_⟩)⟩;rw[ZU h3 h4];exact kk
theorem qdy {a:Ad} (T:Txt K mg a):qu P w K mg base CX0 1 a.f_X a.fd_X ["rows","place"] JE:=by
 refine T.d_X.F.ok qda (fun vs H Q E h=>?_) (fun cdv A outer s H vs Q E hr h=>?_)
 · obtain⟨q,i,rows,rfl,⟨zs,hq,tp⟩,good,hi,kk⟩:=h;rfl
 · obtain⟨q,i,rows,rfl,⟨zs,hq,tp⟩,good,hi,kk⟩:=h;have hU:=hr.units
   refine⟨_,(qc (qM (qB (uEq hU) (pv 1) qf (qJ _))
       (qe (qy (Jv (uEq hU) (qD (r:=rIx K) qr (qD (r:=rIx K) qr (pv 0) qf (fun _ _=>rfl)) qf (fun _ _=>rfl)) qf (qJ _))))
       qv)
     (qe (qy (Jv qgd (qD (r:=rIx K) qr (qD (r:=rIx K) qr (pv 0) (pv 1) (fun _ _=>rfl)) qf (fun _ _=>rfl)) (qD (r:=rIx K) qr (qD (r:=rIx K) qr (pv 0) (qH Jc (pv 1) qf) (fun _ _=>rfl)) qf (fun _ _=>rfl)) (qJ _))))),?_⟩
   try dsimp only [zf,Cx.nox]
   refine⟨_,rfl,.inl ⟨rfl,_,rfl,?_⟩⟩;obtain⟨r,hr'⟩:∃ r,rows[i]?=some r:=⟨_,List.getElem?_eq_getElem hi⟩
   obtain⟨t,hz,ht⟩:=tp.at_ hr';refine zg (fun g=>?_) (fun g=>?_)
   · have g0:i=0:=by injection g with g;omega
     subst g0;obtain⟨n,hn⟩:=good.fst
     have e:r=(0,n):=by
       rw[List.head?_eq_getElem?,hr']at hn;exact Option.some.inj hn
     subst e;refine⟨_,rfl,.inl ⟨q,_,_,_,rfl,rfl,SqL.of hq,QB hz,.inr (.inl ⟨t,_,_,_,rfl,rfl,SqT.of ht,rfl,.inl ⟨rfl,?_⟩⟩)⟩⟩;exact kk
   · have g1:0 < i:=by
       refine Nat.pos_of_ne_zero fun z=>g ?_;rw[z];rfl
     obtain⟨r0,hr0⟩:∃ r,rows[i - 1]?=some r:=⟨_,List.getElem?_eq_getElem (by omega)⟩
     obtain⟨t0,hz0,ht0⟩:=tp.at_ hr0
     have lt:r0.1 < r.1:=by
       obtain⟨l1,e1⟩:=List.getElem?_eq_some_iff.mp hr0;obtain⟨l2,e2⟩:=List.getElem?_eq_some_iff.mp hr'
       have:=List.pairwise_iff_getElem.mp good.asc (i - 1) i l1 l2 (by omega)
       rw[e1,e2]at this;exact this
     refine⟨_,rfl,_,rfl,.inl ⟨q,_,_,_,rfl,rfl,SqL.of hq,QB hz,.inr (.inl ⟨t,_,_,_,rfl,rfl,SqT.of ht,rfl,_,rfl,_,rfl,_,_,rfl,rfl,.inl ⟨q,_,_,_,rfl,rfl,SqL.of hq,(by show atI zs ((i:Int) - 1)=_;rw[show (i:Int) - 1=((i - 1:Nat):Int) by omega];exact QB hz0),.inr (.inl ⟨t0,_,_,_,rfl,rfl,SqT.of ht0,rfl,_,_,rfl,rfl,?_⟩)⟩⟩)⟩⟩;show Q (.bl (decide (r0.1 < r.1))) H;rw[decide_eq_true lt];exact kk
theorem qcF {a:Ad} (T:Txt K mg a):qu P w K mg base CX0 5 a.f_Y a.fd_Y ["rows","most","widest"] jP:=by
 have G_W:=qgf (P:=P) (w:=w) (base:=base) T;have G_X:=qdy (P:=P) (w:=w) (base:=base) T;refine T.d_Y.F.ok sc_check_rows (fun vs H Q E h=>?_) (fun cdv A outer s H vs Q E hr h=>?_)
 · obtain⟨q,rows,rfl,⟨zs,hq,tp⟩,good,kk⟩:=h;rfl
 · obtain⟨q,rows,rfl,⟨zs,hq,tp⟩,good,kk⟩:=h;have hU:=hr.units;have h_W:Room (4) _:=hr.mono (by decide);have h_X:Room (1) _:=hr.mono (by decide)
   refine⟨_,(qc (qM (PW.pt (Jt (qV (qP (qp zC (by rfl) T.n_isinstance qm (qa (pv 0) (qa (Qh (v:=.ty "list") rfl T.n_list zI rfl) qb))))) (ZG (qB (uEq hU) (qp qR (by rfl) T.n_len qE (qa (pv 0) qb)) qf (qJ _)))))
       (qe zd)
       qv)
     (qc (qM (qB qgd (qp qR (by rfl) T.n_len qE (qa (pv 0) qb)) (pv 1) (qJ _))
       (qe zd)
       qv)
     (qe (Qe PassesOwn.never rfl (qf9 rfl T.n_enumerate (qa (pv 0) qb)) (qeH rfl (zJ (qU (i:=3) (sc_check_rows.nd) rfl (Or.inl rfl)) (zJ (qU (i:=4) (sc_check_rows.nd) rfl (Or.inl rfl)) qa0)))
       (qe (qM (PW.pt (Jt (qV (qP (ql G_W h_W rfl T.d_W.m T.d_W.k T.d_W.b .nil qq (qa (pv 4) (qa (pv 2) qb))))) (ZG (qV (qP (ql G_X h_X rfl T.d_X.m T.d_X.k T.d_X.b .nil qq (qa (pv 0) (qa (pv 3) qb))))))))
         (qe zd)
         qv)))))),?_⟩
   try dsimp only [zf,Cx.nox]
   have hl:zs.length=rows.length:=tp.1;have few:=good.few;have pos:=good.ne;have ty:tyN H (.ref q)=some "list":=by simp only[tyN];rw[hq]
   refine⟨_,rfl,_,_,_,rfl,(by decide),ty,true,rfl,qN rfl ?_⟩;refine⟨_,rfl,_,_,rfl,.inl ⟨_,SqL.of hq,rfl⟩,.inl ⟨rfl,_,rfl,zg (fun g=>?_) (fun _=>?_)⟩⟩
   · injection g with g;omega
   refine⟨_,rfl,_,_,rfl,.inl ⟨_,SqL.of hq,rfl⟩,_,rfl,_,_,rfl,rfl,_,rfl,zg (fun g=>?_) (fun _=>?_)⟩
   · omega
   refine⟨_,rfl,q,rfl,⟨zs,SqL.of hq⟩,qeU (K:=K) (a:=q) (xs:=zs) (fun i σ H2=>∃ s3 s4:Option V,σ=[some (.ref q),some (.int 21),some (.int 2880),s3,s4]∧Same H H2) ⟨none,none,rfl,Same.refl H⟩ (fun i σ H2 _ ⟨_,_,_,S⟩=>SqL.of (S _ _ hq)) ?_ ?_⟩
   · rintro i x σ H2 p hx ⟨s3,s4,rfl,S⟩ hn;have S2:Same H (upd H2 p (.tup [.int i,x])):=S.then _ hn
     have hi:i < rows.length:=by rw[← hl];exact(List.getElem?_eq_some_iff.mp hx).1
     obtain⟨r,hr'⟩:∃ r,rows[i]?=some r:=⟨_,List.getElem?_eq_getElem hi⟩
     obtain⟨t,rfl,ht⟩:=tp.2 i x r hx hr';have ok:=good.ok r (List.mem_of_getElem? hr');refine⟨p,_,rfl,SqT.of qd,rfl,_,_,rfl,_,_,rfl,rfl,?_⟩;refine⟨_,rfl,_,rfl,t,r,2880,rfl,S2 _ _ ht,ok.1,ok.2.1,ok.2.2.1,ok.2.2.2,true,rfl,qN rfl ?_⟩;exact⟨_,rfl,_,rfl,q,i,rows,rfl,⟨zs,S2 _ _ hq,tp.same S2⟩,good,hi,true,rfl,qN rfl ⟨_,_,rfl,S2⟩⟩
   · rintro σ H2 ⟨s3,s4,rfl,S⟩;exact kk H2 S
theorem Jf {a:Ad} (T:Txt K mg a):qu P w K mg base CX0 6 a.f_G a.fd_G ["self","rows"] (QT a):=by
 have G_Y:=qcF (P:=P) (w:=w) (base:=base) T;refine T.d_G.F.ok qcv (fun vs H Q E h=>?_) (fun cdv A outer s H vs Q E hr h=>?_)
 · obtain⟨x,dx,q,rows,rfl,hx,hrs,good,kk⟩:=h;rfl
 · obtain⟨x,dx,q,rows,rfl,hx,hrs,good,kk⟩:=h;have h_Y:Room (5) _:=hr.mono (by decide);obtain⟨t_MOST_ROWS,c_MOST_ROWS⟩:=T.g_MOST_ROWS;obtain⟨t_WIDEST_SHIFT,c_WIDEST_SHIFT⟩:=T.g_WIDEST_SHIFT
   refine⟨_,(qc (qx (ql G_Y h_Y rfl T.d_Y.m T.d_Y.k T.d_Y.b .nil qq (qa (pv 1) (qa (qI (v:=.int 21) rfl c_MOST_ROWS ⟨_,rfl⟩) (qa (qI (v:=.int 2880) rfl c_WIDEST_SHIFT ⟨_,rfl⟩) qb)))))
     (qe (Qw (pv 0) (ZI (r:=qlq K) ZT (by rfl) T.n_list zI (qa (pv 1) qb)) rfl))),?_⟩
   try dsimp only [zf,Cx.nox]
   refine⟨_,rfl,q,rows,rfl,hrs,good,fun G1 S1=>?_⟩;obtain⟨zs,hq,tp⟩:=hrs.same S1;have hx1:=S1 _ _ hx;refine⟨_,rfl,q,zs,rfl,.inl (SqL.of hq),fun k fk=>?_⟩;have nkx:x≠k:=qi hx1 fk;refine⟨_,rfl,x,_,dx,[],rfl,(qg nkx).trans hx1,T.cl_Table,T.n_Table_kept,(by show 0 < 1000;decide),?_⟩;have fkH:H k=none:=S1.none fk;refine kk _ (fun c o e n=>?_);rw[qg n,qg (qi e fkH)];exact S1 _ _ e
end
theorem J9:bootBuiltins "sorted"=some (.builtin "sorted"):=by decide +kernel
abbrev okw (w:Int×Int):Bool:=decide (w.1≤w.2)
theorem qiZ {H:Hp}{zs:List V}{ws:List (Int×Int)} (h:TupL pr H zs ws):TupI H zs (ws.map g2):=by
 refine⟨by rw[List.length_map];exact h.1,fun i z r e1 e2=>?_⟩;obtain⟨p,hp,rfl⟩:=zB e2;exact h.2 i z p e1 hp
theorem qjq {H:Hp}{zs:List V}{ws:List (Int×Int)} (h:TupI H zs (ws.map g2)):TupL pr H zs ws :=
 ⟨by have:=h.len;rwa [List.length_map]at this,fun i z p e1 e2=>h.at_ i z (g2 p) e1 (by rw[List.getElem?_map,e2];rfl)⟩
theorem qhE {rs:List (List Int)}{fs:List (Int×Int)} (h:rs.Perm (fs.map g2)):∃ ss:List (Int×Int),rs=ss.map g2∧ss.Perm fs:=by
 refine⟨rs.map fun r=>(r.getD 0 0,r.getD 1 0),?_,?_⟩
 · rw[List.map_map];refine(List.map_id rs).symm.trans (List.map_congr_left fun r hr=>?_);obtain⟨p,_,rfl⟩:=List.mem_map.mp (h.mem_iff.mp hr);rfl
 · have:=h.map fun r=>(r.getD 0 0,r.getD 1 0)
   rw[List.map_map]at this
   rwa [show (fs.map ((fun r:List Int=>(r.getD 0 0,r.getD 1 0)) ∘ g2))=fs from (List.map_congr_left fun p _=>rfl).trans (List.map_id fs)]at this
theorem qkv {ss:List (Int×Int)} (h:(ss.map g2).Pairwise fun a b=>ZQ b a=false):ss.Pairwise fun a b=>a.1≤b.1:=by
 refine(List.pairwise_map.mp h).imp fun {a b} g=>?_;have g':ZQ [b.1,b.2] [a.1,a.2]=false:=g;unfold ZQ at g';by_cases e:b.1=a.1
 · omega
 · rw[if_neg e]at g'
   have:=of_decide_eq_false g'
   omega
theorem qkG (ws:List (Int×Int)) (n:Int):Mem (ws.filter okw) n↔Mem ws n:=by
 constructor
 · rintro⟨w,hw,h⟩;exact⟨w,(List.mem_filter.mp hw).1,h⟩
 · rintro⟨w,hw,h⟩;exact⟨w,List.mem_filter.mpr ⟨hw,decide_eq_true (by omega)⟩,h⟩
theorem qhX {ss fs:List (Int×Int)} (h:ss.Perm fs) (n:Int):Mem ss n↔Mem fs n :=
 ⟨fun⟨w,hw,k⟩=>⟨w,h.mem_iff.mp hw,k⟩,fun⟨w,hw,k⟩=>⟨w,h.mem_iff.mpr hw,k⟩⟩
theorem qgH {acc:List (Int×Int)}{l w:Int×Int} (h:acc.getLast?=some l) (e:w.1≤l.2+1):qbS acc w=acc.set (acc.length - 1) (l.1,if w.2 > l.2 then w.2 else l.2):=by
 unfold qbS;rw[h];exact if_pos e
theorem qh5 {acc:List (Int×Int)}{l w:Int×Int} (h:acc.getLast?=some l) (e:¬ w.1≤l.2+1):qbS acc w=acc++[w]:=by
 unfold qbS;rw[h];exact if_neg e
theorem qh6 (acc:List (Int×Int)) (w:Int×Int):(qbS acc w).length≤acc.length+1:=by
 unfold qbS;split
 · split
   · rw[List.length_set];omega
   · rw[List.length_append];exact Nat.le_refl _
 · simp
theorem qeR {ws:List (Int×Int)}{i:Nat}{w:Int×Int} (h:ws[i]?=some w):(ws.take (i+1)).foldl qbS []=qbS ((ws.take i).foldl qbS []) w:=by
 rw[List.take_add_one,h,List.foldl_append];rfl
theorem Jh (ws:List (Int×Int)):∀ i,((ws.take i).foldl qbS []).length≤i
 | 0=>by simp
 | i+1=>by
   cases h:ws[i]? with
   | none =>
     have:=Jh ws i
     rw[List.take_add_one,h];simp only[Option.toList,List.append_nil];omega
   | some w =>
     have:=Jh ws i
     have:=qh6 ((ws.take i).foldl qbS []) w
     rw[qeR h];omega
inductive Zi (vs:List V) (H:Hp) (Q:VK):Prop
 | mk (t:Addr) (r:Int×Int) (h1:vs=[.ref t]) (h2:H t=some (.tup (pr r))) (h3:Q (.bl true) H):Zi vs H Q
def jM:Sp:=fun vs H Q _=>Zi vs H Q
inductive zQ (vs:List V) (H:Hp) (Q:VK):Prop
 | mk (q:Addr) (ws:List (Int×Int)) (h1:vs=[.ref q]) (h2:Rs H q ws) (h3:∀ H',Same H H'->Q .non H'):zQ vs H Q
def Qo:Sp:=fun vs H Q _=>zQ vs H Q
inductive jK (vs:List V) (H:Hp) (Q:VK):Prop
 | mk (q:Addr) (ws:List (Int×Int)) (h1:vs=[.ref q]) (h2:Rs H q ws) (h3:ws.length < 64) (h4:∀ (d:Addr) (r:List (Int×Int)) (H':Hp),H d=none->Same H H'->Rs H' d r->Jk r->r.length≤ws.length->(∀ n,Mem r n↔Mem ws n)->Q (.ref d) H'):jK vs H Q
def qaw:Sp:=fun vs H Q _=>jK vs H Q
section
variable {P:Program}{w:World}{K:Frag}{mg:Str->Option Value}{base:Heap}
theorem qcC {a:Ad} (T:Txt K mg a):qu P w K mg base CX0 2 a.f_R a.fd_R ["thing"] jM:=by
 have G_n:=J0 (P:=P) (w:=w) (base:=base) T;refine T.d_R.F.ok qcp (fun vs H Q E h=>?_) (fun cdv A outer s H vs Q E hr h=>?_)
 · obtain⟨t,r,rfl,ht,kk⟩:=h;rfl
 · obtain⟨t,r,rfl,ht,kk⟩:=h;have hU:=hr.units;have h_n:Room (1) _:=hr.mono (by decide);refine⟨_,(qe (qy (qa1 (qp zC (by rfl) T.n_isinstance qm (qa (pv 0) (qa (Qh (v:=.ty "tuple") rfl T.n_tuple qbu rfl) qb))) (qa1 (Jv (uEq hU) (qp qR (by rfl) T.n_len qE (qa (pv 0) qb)) qf (qJ _)) (qa1 (ql G_n h_n rfl T.d_n.m T.d_n.k T.d_n.b .nil qq (qa (qD (r:=rIx K) qr (pv 0) qf (fun _ _=>rfl)) qb)) (qdt (ql G_n h_n rfl T.d_n.m T.d_n.k T.d_n.b .nil qq (qa (qD (r:=rIx K) qr (pv 0) qf (fun _ _=>rfl)) qb)))))))),?_⟩;(try dsimp only [zf,Cx.nox]);have ty:tyN H (.ref t)=some "tuple":=by simp only[tyN];rw[ht]
   refine⟨_,rfl,_,_,_,rfl,(by decide),ty,_,rfl,zU rfl ?_⟩;refine⟨_,rfl,_,_,rfl,.inr ⟨_,SqT.of ht,rfl⟩,.inl ⟨rfl,_,rfl,zU (decide_eq_true rfl) ?_⟩⟩;refine⟨_,rfl,.inr (.inl ⟨t,_,_,_,rfl,rfl,SqT.of ht,rfl,_,rfl,QC _,true,rfl,qgA ?_⟩)⟩;exact⟨_,rfl,.inr (.inl ⟨t,_,_,_,rfl,rfl,SqT.of ht,rfl,_,rfl,QC _,kk⟩)⟩
theorem Jd {a:Ad} (T:Txt K mg a):qu P w K mg base CX0 3 a.f_S a.fd_S ["stretches"] Qo:=by
 have G_R:=qcC (P:=P) (w:=w) (base:=base) T;refine T.d_S.F.ok sc_check_stretches (fun vs H Q E h=>?_) (fun cdv A outer s H vs Q E hr h=>?_)
 · obtain⟨q,ws,rfl,hrs,kk⟩:=h;rfl
 · obtain⟨q,ws,rfl,hrs,kk⟩:=h;have h_R:Room (2) _:=hr.mono (by decide)
   refine⟨_,(qc (qM (qV (qP (qp zC (by rfl) T.n_isinstance qm (qa (pv 0) (qa (Qh (v:=.ty "list") rfl T.n_list zI rfl) qb)))))
       (qe zd)
       qv)
     (qe (Qe PassesOwn.never rfl (qf9 rfl T.n_enumerate (qa (pv 0) qb)) (qeH rfl (zJ (qU (i:=1) (sc_check_stretches.nd) rfl (Or.inl rfl)) (zJ (qU (i:=2) (sc_check_stretches.nd) rfl (Or.inl rfl)) qa0)))
       (qe (qM (qV (qP (ql G_R h_R rfl T.d_R.m T.d_R.k T.d_R.b .nil qq (qa (pv 2) qb))))
         (qe zd)
         qv))))),?_⟩
   try dsimp only [zf,Cx.nox]
   obtain⟨zs,hq,tp⟩:=id hrs;have ty:tyN H (.ref q)=some "list":=by simp only[tyN];rw[hq]
   refine⟨_,rfl,_,_,_,rfl,(by decide),ty,true,rfl,qN rfl ?_⟩;refine⟨_,rfl,q,rfl,⟨zs,SqL.of hq⟩,qeU (K:=K) (a:=q) (xs:=zs) (fun i σ H2=>∃ s1 s2:Option V,σ=[some (.ref q),s1,s2]∧Same H H2) ⟨none,none,rfl,Same.refl H⟩ (fun i σ H2 _ ⟨_,_,_,S⟩=>SqL.of (S _ _ hq)) ?_ ?_⟩
   · rintro i x σ H2 p hx ⟨s1,s2,rfl,S⟩ hn;have S2:Same H (upd H2 p (.tup [.int i,x])):=S.then _ hn
     obtain⟨r,t,hr',rfl,ht⟩:=tp.of hx;refine⟨p,_,rfl,SqT.of qd,rfl,_,_,rfl,_,_,rfl,rfl,?_⟩;exact⟨_,rfl,t,r,rfl,S2 _ _ ht,_,rfl,qN rfl ⟨_,_,rfl,S2⟩⟩
   · rintro σ H2 ⟨s1,s2,rfl,S⟩;exact kk H2 S
theorem qd6 {a:Ad} (T:Txt K mg a):qu P w K mg base CX0 4 a.f_T a.fd_T ["stretches"] qaw:=by
 have G_S:=Jd (P:=P) (w:=w) (base:=base) T;refine T.d_T.F.ok sc_spans_of (fun vs H Q E h=>?_) (fun cdv A outer s H vs Q E hr h=>?_)
 · obtain⟨q,ws,rfl,hrs,few,kk⟩:=h;rfl
 · obtain⟨q,ws,rfl,hrs,few,kk⟩:=h;have h_S:Room (3) _:=hr.mono (by decide)
   refine⟨_,(qc (qx (ql G_S h_S rfl T.d_S.m T.d_S.k T.d_S.b .nil qq (qa (pv 0) qb)))
     (qc (qC (i:=1) sc_spans_of.nd rfl (Or.inl rfl) (qQ qb))
     (qc (Qe PassesOwn.never rfl (zO (qp qfj (by rfl) T.n_sorted J9 (qa (Ju rfl (CompOk.def ["stretch"] [none]) (zO (pv 0)) (fun _ _ _ _ _=>(qU (i:=0) (show List.Nodup (["stretch"]:List Str) by decide +kernel) rfl (Or.inl rfl))) (fun _ _ _ _ _=>(qaZ (qB qe7 (qD (r:=rIx K) qr (pv 0) qf (fun _ _=>rfl)) (qD (r:=rIx K) qr (pv 0) qf (fun _ _=>rfl)) (qJ _)))) (fun _ _ _ _ _=>(pv 0))) qb))) (qeH rfl (zJ (qU (i:=2) (sc_spans_of.nd) rfl (Or.inl rfl)) (zJ (qU (i:=3) (sc_spans_of.nd) rfl (Or.inl rfl)) qa0)))
       (qe (qM (PW.pt (qdq (qeF (pv 1) (fun _=>rfl)) (qaY (qB qe7 (pv 2) (qH qab (qD (r:=rIx K) qr (qD (r:=rIx K) qr (pv 1) (qah QZ qf) (fun _ _=>rfl)) qf (fun _ _=>rfl)) qf) (qJ _)))))
         (qe (qeG (qS (qa (qD (r:=rIx K) qr (qD (r:=rIx K) qr (pv 1) (qah QZ qf) (fun _ _=>rfl)) qf (fun _ _=>rfl)) (qa (qp (qbt rfl) (by rfl) T.n_max qbv (qa (qD (r:=rIx K) qr (qD (r:=rIx K) qr (pv 1) (qah QZ qf) (fun _ _=>rfl)) qf (fun _ _=>rfl)) (qa (pv 3) qb))) qb))) (qeI (pv 1) (qah QZ qf) qaq)))
         (qe (qx (qe6 PySem.F.plainAttrs_list PySem.F.slot_list_append PySem.F.type_list_append ZP (pv 1) (qa (qS (qa (pv 2) (qa (pv 3) qb))) qb)))))))
     (qe (qy (pv 1)))))),?_⟩
   try dsimp only [zf,Cx.nox]
   refine⟨_,rfl,q,ws,rfl,hrs,fun G0 S0=>?_⟩;refine⟨qk (Nat.le_of_ble_eq_true rfl),fun D fD=>?_⟩;have SD:=Same.new (.lst []) fD;have hD0:(upd G0 D (.lst [])) D=some (.lst []):=qd;obtain⟨zs,hq,tp⟩:=(hrs.same S0).same SD;(try unfold qA);(try dsimp only);generalize upd G0 D (.lst [])=G at SD hD0 hq tp ⊢;have hl:zs.length=ws.length:=tp.1;refine⟨_,rfl,q,rfl,⟨_,SqL.of hq⟩,fun C fC=>?_⟩;refine ZS (K:=K) (a:=q) (xs:=zs) (D:=C) (fun i σ H2=>∃ (c0:Option V) (cs:List V),σ=[c0]∧Same G H2∧H2 C=some (.lst cs)∧TupL pr H2 cs ((ws.take i).filter okw)) ⟨none,[],rfl,Same.new _ fC,qd,.nil⟩ (fun i σ H2 _ ⟨_,_,_,S,_⟩=>SqL.of (S _ _ hq)) ?_ ?_
   · rintro i z σ H2 hz ⟨c0,cs,rfl,S,hC,tc⟩;obtain⟨r,t,hr',rfl,ht⟩:=tp.of hz;have ht2:=S _ _ ht;have et:ws.take (i+1)=ws.take i++[r]:=by rw[List.take_add_one,hr'];rfl
     have lc:cs.length≤64:=by
       rw[tc.1];refine Nat.le_trans (List.length_filter_le _ _) ?_;rw[List.length_take];omega
     refine⟨_,rfl,.inr (.inl ⟨t,_,_,_,rfl,rfl,SqT.of ht2,rfl,_,rfl,.inr (.inl ⟨t,_,_,_,rfl,rfl,SqT.of ht2,rfl,_,_,rfl,rfl,_,rfl,zg (fun g=>?_) (fun g=>?_)⟩)⟩)⟩
     · refine⟨_,rfl,_,hC,zc (by omega),_,cs++[.ref t],rfl,S.put fC _,qd,?_⟩;rw[et,List.filter_append,show List.filter okw [r]=[r] by simp[okw,g]];exact(tc.snoc (p:=r) ht2).put hC
     · refine⟨_,cs,rfl,S,hC,?_⟩;rw[et,List.filter_append,show List.filter okw [r]=[] by simp[okw,g],List.append_nil];exact tc
   rintro σ H2 ⟨c0,cs,rfl,S,hC,tc⟩;rw[hl,List.take_length]at tc;have okf:∀ w∈ws.filter okw,w.1≤w.2:=fun w hw=>of_decide_eq_true (List.mem_filter.mp hw).2;have lf:(ws.filter okw).length≤ws.length:=List.length_filter_le _ _;have mok:=qkG ws;generalize ws.filter okw=fs at tc okf lf mok;refine⟨C,cs,fs.map g2,2,rfl,SqL.of hC,qiZ tc,(fun r hr=>by obtain⟨w,_,rfl⟩:=List.mem_map.mp hr;rfl),(by decide),(by rw[tc.1];omega),fun p zs' rs' fp hp tI ho=>?_⟩;obtain⟨ss,rfl,hss⟩:=qhE hp;have ord:=qkv ho;have oks:∀ w∈ss,w.1≤w.2:=fun w m=>okf w (hss.mem_iff.mp m);have lss:ss.length≤ws.length:=by rw[hss.length_eq];exact lf
   have tz0:TupL pr H2 zs' ss:=qjq tI;have Sp:=Same.new (.lst zs') fp;have tz:=tz0.same Sp;have hp1:(upd H2 p (.lst zs')) p=some (.lst zs'):=qd;have hD1:=Sp _ _ (S _ _ hD0);have npD:p≠D:=fun e=>by rw[e,S _ _ hD0]at fp;cases fp
   have SG:=SD.trans (S.trans Sp);(try dsimp only);generalize upd H2 p (.lst zs')=G1 at tz hp1 hD1 SG ⊢;refine⟨p,rfl,⟨_,SqL.of hp1⟩,Qy (D:={ nx:=qim (qjO 1) { nx:=fun _ H'=>Q .non H',rt:=Q },rt:=Q }) (K:=K) (a:=p) (xs:=zs') (fun i σ H3=>∃ (s2 s3:Option V) (ys:List V),σ=[some (.ref q),some (.ref D),s2,s3]∧But D G1 H3∧H3 D=some (.lst ys)∧TupL pr H3 ys ((ss.take i).foldl qbS [])) ⟨none,none,[],rfl,(fun c o e _=>e),hD1,.nil⟩ (fun i σ H3 _ ⟨_,_,_,_,B,_⟩=>SqL.of (B _ _ hp1 npD)) ?_ ?_⟩
   · rintro i z σ H3 hz ⟨s2,s3,ys,rfl,B,hD,ty⟩;obtain⟨wv,t,hw,rfl,ht⟩:=tz.of hz;have ntD:t≠D:=qX ht hD1 (by intro z;cases z);have ht3:=B _ _ ht ntD;have okv:=oks wv (List.mem_of_getElem? hw)
     have ly:ys.length≤64:=by
       have:=Jh ss i
       have lti:i < ss.length:=(List.getElem?_eq_some_iff.mp hw).1;rw[ty.1];omega
     refine⟨t,_,rfl,SqT.of ht3,rfl,_,_,rfl,_,_,rfl,rfl,?_⟩;rw[qeR hw];generalize (ss.take i).foldl qbS []=acc at ty ⊢
     cases ea:acc.getLast? with
     | none =>
       have e0:acc=[]:=List.getLast?_eq_none_iff.mp ea;subst e0;have ey:ys=[]:=List.eq_nil_of_length_eq_zero ty.1;subst ey;refine⟨_,rfl,false,.inl ⟨_,SqL.of hD,rfl⟩,qjy (qjy ?_)⟩;refine⟨_,rfl,.inl ⟨rfl,_,SqL.of hD⟩,_,rfl,_,rfl,qk (Nat.le_of_ble_eq_true rfl),fun tt ft=>?_⟩;have St:=Same.new (.tup [.int wv.1,.int wv.2]) ft;refine⟨D,_,_,rfl,rfl,St _ _ hD,zc (by omega),?_⟩;refine⟨_,_,[]++[.ref tt],rfl,(fun c o e n=>?_),qd,?_⟩
       · rw[qg n];exact St _ _ (B c o e n)
       · exact((TupL.nil (f:=pr)).snoc (p:=wv) qd).put (St _ _ hD)
     | some l =>
       obtain⟨tl,hzl,htl⟩:=TupL.last ty ea
       have ey:true=!ys.isEmpty:=by
         cases ys with
         | nil=>cases hzl
         | cons y ys=>rfl
       refine⟨_,rfl,true,.inl ⟨_,SqL.of hD,ey⟩,qgA ?_⟩;refine⟨_,rfl,_,rfl,_,rfl,.inl ⟨D,_,_,_,rfl,rfl,SqL.of hD,atI_last hzl,.inr (.inl ⟨tl,_,_,_,rfl,rfl,SqT.of htl,rfl,.inl ⟨_,_,rfl,rfl,_,_,rfl,rfl,_,rfl,zg (fun g=>?_) (fun g=>?_)⟩⟩)⟩⟩
       · have g':wv.1≤l.2+1:=g;refine⟨_,rfl,_,rfl,.inl ⟨D,_,_,_,rfl,rfl,SqL.of hD,atI_last hzl,.inr (.inl ⟨tl,_,_,_,rfl,rfl,SqT.of htl,rfl,_,rfl,_,rfl,.inl ⟨D,_,_,_,rfl,rfl,SqL.of hD,atI_last hzl,.inr (.inl ⟨tl,_,_,_,rfl,rfl,SqT.of htl,rfl,_,rfl,_,_,rfl,qk (Nat.le_of_ble_eq_true rfl),fun tt ft=>?_⟩)⟩⟩)⟩⟩;have St:=Same.new (.tup [.int l.1,.int (if wv.2 > l.2 then wv.2 else l.2)]) ft;refine⟨_,rfl,_,rfl,D,_,_,ys.length - 1,rfl,rfl,St _ _ hD,qh0 (by cases ys with|nil=>cases hzl|cons y ys=>simp),?_⟩;refine⟨_,_,ys.set (ys.length - 1) (.ref tt),rfl,(fun c o e n=>?_),qd,?_⟩
         · rw[qg n];exact St _ _ (B c o e n)
         · rw[qgH ea g',← ty.1];exact(TupL.set (ty.same St) (i:=ys.length - 1) (p:=(l.1,if wv.2 > l.2 then wv.2 else l.2)) qd).put (St _ _ hD)
       · have g':¬ wv.1≤l.2+1:=g;refine⟨_,rfl,.inl ⟨rfl,_,SqL.of hD⟩,_,rfl,_,rfl,qk (Nat.le_of_ble_eq_true rfl),fun tt ft=>?_⟩;have St:=Same.new (.tup [.int wv.1,.int wv.2]) ft;refine⟨D,_,_,rfl,rfl,St _ _ hD,zc (by omega),?_⟩;refine⟨_,_,ys++[.ref tt],rfl,(fun c o e n=>?_),qd,?_⟩
         · rw[qg n];exact St _ _ (B c o e n)
         · rw[qh5 ea g'];exact((ty.same St).snoc (p:=wv) qd).put (St _ _ hD)
   · rintro σ H3 ⟨s2,s3,ys,rfl,B,hD,ty⟩;have glen:=Jh ss ss.length;rw[tz.1]at ty;rw[List.take_length]at ty glen;obtain⟨f1,f2⟩:=qgK ss [] ⟨fun _ z=>(nomatch z),List.Pairwise.nil⟩ oks ord fun _ z=>nomatch z;refine⟨_,rfl,kk D _ H3 (S0.none fD) (fun c o e=>?_) ⟨ys,hD,ty⟩ f1 (by omega) fun n=>?_⟩
     · have n:c≠D:=qi (S0 _ _ e) fD;exact B _ _ (SG _ _ (S0 _ _ e)) n
     · rw[f2,qhX hss,mok];exact⟨fun h=>h.elim (fun⟨_,z,_⟩=>nomatch z) id,.inr⟩
end
abbrev fsW (nm:Str) (lo hi:Int):List (Str×V):=[("name",.str nm),("low",.int lo),("high",.int hi)]
abbrev fsB (nm pl:Str) (lo hi:Int):List (Str×V):=[("name",.str nm),("place",.str pl),("low",.int lo),("high",.int hi)]
inductive Za (vs:List V) (H:Hp) (Q:VK):Prop
 | mk (v u:V) (h1:vs=[v,u]) (h2:∀ (d:Addr) (H':Hp),H d=none->Same H H'->Rs H' d [(0,1000000000)]->Q (.ref d) H'):Za vs H Q
def ji:Sp:=fun vs H Q _=>Za vs H Q
inductive QE (K:Frag) (vs:List V) (H:Hp) (Q:VK):Prop
 | mk (x C dx:Addr) (nm:Str) (lo hi:Int) (u:V) (h1:vs=[.ref x,u]) (h2:H x=some (.ins C dx (fsW nm lo hi))) (h3:Cls K C) (h4:NoAttr K C "low") (h5:NoAttr K C "high") (h6:∀ (d:Addr) (r:List (Int×Int)) (H':Hp),H d=none->Same H H'->Rs H' d r->Jk r->r.length≤1->(∀ n,Mem r n↔Mem [(lo,hi)] n)->Q (.ref d) H'):QE K vs H Q
def Zo (K:Frag):Sp:=fun vs H Q _=>QE K vs H Q
theorem qdx {H:Hp}{t d:Addr}{w:Int×Int} (h1:H t=some (.tup (pr w))) (h2:H d=some (.lst [.ref t])):Rs H d [w]:=by
 refine⟨_,h2,rfl,fun j z y e1 e2=>?_⟩
 cases j with
 | zero=>cases e1;cases e2;exact⟨t,rfl,h1⟩
 | succ j=>cases e1
section
variable {P:Program}{w:World}{K:Frag}{mg:Str->Option Value}{base:Heap}
theorem qbN {a:Ad} (T:Txt K mg a):qu P w K mg base CX0 1 a.f_8 a.fd_8 ["self","tables"] ji:=by
 refine T.d_8.F.ok qbD (fun vs H Q E h=>?_) (fun cdv A outer s H vs Q E hr h=>?_)
 · obtain⟨v,u,rfl,kk⟩:=h;rfl
 · obtain⟨v,u,rfl,kk⟩:=h;obtain⟨t_LAST,c_LAST⟩:=T.g_LAST;refine⟨_,(qe (qy (qQ (qa (qS (qa qf (qa (qI (v:=.int 1000000000) rfl c_LAST ⟨_,rfl⟩) qb))) qb)))),?_⟩;(try dsimp only [zf,Cx.nox]);refine⟨qk (Nat.le_of_ble_eq_true rfl),fun t ft=>⟨qk (Nat.le_of_ble_eq_true rfl),fun d fd=>?_⟩⟩;have S1:=Same.new (.tup [.int 0,.int 1000000000]) ft;have S2:=Same.new (.lst [.ref t]) fd;exact kk d _ (S1.none fd) (S1.trans S2) (qdx (w:=(0,1000000000)) (S2 _ _ qd) qd)
theorem qa3 {a:Ad} (T:Txt K mg a):qu P w K mg base CX0 5 a.f_9 a.fd_9 ["self","tables"] (Zo K):=by
 have G_T:=qd6 (P:=P) (w:=w) (base:=base) T;refine T.d_9.F.ok qaG (fun vs H Q E h=>?_) (fun cdv A outer s H vs Q E hr h=>?_)
 · obtain⟨x,C,dx,nm,lo,hi,u,rfl,hx,cl,n1,n2,kk⟩:=h;rfl
 · obtain⟨x,C,dx,nm,lo,hi,u,rfl,hx,cl,n1,n2,kk⟩:=h;have h_T:Room (4) _:=hr.mono (by decide);refine⟨_,(qe (qy (ql G_T h_T rfl T.d_T.m T.d_T.k T.d_T.b .nil qq (qa (qQ (qa (qS (qa (qZ (pv 0) rfl) (qa (qZ (pv 0) rfl) qb))) qb)) qb)))),?_⟩;(try dsimp only [zf,Cx.nox]);refine⟨_,rfl,x,_,dx,_,_,rfl,hx,cl,n1,rfl,_,rfl,x,_,dx,_,_,rfl,hx,cl,n2,rfl,qk (Nat.le_of_ble_eq_true rfl),fun t ft=>⟨qk (Nat.le_of_ble_eq_true rfl),fun d fd=>?_⟩⟩;have S1:=Same.new (.tup [.int lo,.int hi]) ft;have S2:=Same.new (.lst [.ref t]) fd;refine⟨d,[(lo,hi)],rfl,qdx (w:=(lo,hi)) (S2 _ _ qd) qd,Nat.le_of_ble_eq_true rfl,fun e r H3 fe S3 R can lr mem=>?_⟩;exact kk e r H3 ((S1.trans S2).none fe) ((S1.trans S2).trans S3) R can lr mem
end
abbrev fsJ (nm:Str) (l:Addr):List (Str×V):=[("name",.str nm),("kept_parts",.ref l)]
abbrev fsS (nm:Str) (p f:Addr):List (Str×V):=[("name",.str nm),("part",.ref p),("keeps",.ref f)]
inductive Ep0 (a:Ad) (H:Hp) (x:Addr):Str->List Str->Prop
 | within {dx:Addr}{nm:Str}{lo hi:Int}:H x=some (.ins a.c_Within dx (fsW nm lo hi))->Ep0 a H x nm []
 | between {dx:Addr}{nm pl:Str}{lo hi:Int}:H x=some (.ins a.c_Between dx (fsB nm pl lo hi))->Ep0 a H x nm [pl]
 | read {dx:Addr}{nm pl:Str}{m:Int}:H x=some (.ins a.c_Read dx (fsB nm pl m m))->Ep0 a H x nm [pl]
 | sift {dx p dp f:Addr}{nm pn pl:Str}{m:Int}:H x=some (.ins a.c_Sifted dx (fsS nm p f))->H p=some (.ins a.c_Read dp (fsB pn pl m m))->Ep0 a H x nm [pl]
theorem Ep0.mp {a:Ad}{H H':Hp}{x:Addr}{nm:Str}{ss:List Str} (h:Ep0 a H x nm ss) (k:∀ b C d fs,H b=some (.ins C d fs)->fs≠[]->H' b=some (.ins C d fs)):Ep0 a H' x nm ss:=by
 cases h with
 | within e=>exact .within (k _ _ _ _ e (by simp))
 | between e=>exact .between (k _ _ _ _ e (by simp))
 | read e=>exact .read (k _ _ _ _ e (by simp))
 | sift e e'=>exact .sift (k _ _ _ _ e (by simp)) (k _ _ _ _ e' (by simp))
theorem Ep0.same {a:Ad}{H H':Hp}{x:Addr}{nm:Str}{ss:List Str} (h:Ep0 a H x nm ss) (s:Same H H'):Ep0 a H' x nm ss:=h.mp fun _ _ _ _ e _=>s _ _ e
def zv (acc ss:List Str):List Str:=acc++ss.filter fun u=>decide (u∉acc)
inductive Ep1 (a:Ad) (H:Hp) (x:Addr):Str->List Str->Prop
 | b {nm:Str}{ss:List Str}:Ep0 a H x nm ss->Ep1 a H x nm ss
 | any {dx:Addr}{nm:Str}:H x=some (.ins a.c_Entry dx [("name",.str nm)])->Ep1 a H x nm []
 | at_ {dx:Addr}{nm:Str}{m:Int}:H x=some (.ins a.c_At dx (fsW nm m m))->Ep1 a H x nm []
 | jn {dx l:Addr}{nm:Str}{ps:List (Addr×Str×List Str)}:H x=some (.ins a.c_Joint dx (fsJ nm l))->H l=some (.lst (ps.map fun p=>V.ref p.1))->ps.length≤8->(∀ p∈ps,Ep0 a H p.1 p.2.1 p.2.2∧p.2.2.length≤1)->Ep1 a H x nm (ps.foldl (fun acc p=>zv acc p.2.2) [])
theorem Ep1.same {a:Ad}{H H':Hp}{x:Addr}{nm:Str}{ss:List Str} (h:Ep1 a H x nm ss) (s:Same H H'):Ep1 a H' x nm ss:=by
 cases h with
 | b h=>exact .b (h.same s)
 | any e=>exact .any (s _ _ e)
 | at_ e=>exact .at_ (s _ _ e)
 | jn e e' n k=>exact .jn (s _ _ e) (s _ _ e') n fun p m=>⟨(k p m).1.same s,(k p m).2⟩
theorem qh3 {n:Str}{ns:List Str}:inV (.str n) (ns.map V.str)=decide (n∈ns):=by
 unfold inV;rw[List.any_map,Bool.eq_iff_iff,List.any_eq_true,decide_eq_true_iff];constructor
 · rintro⟨y,m,e⟩
   have:y=n:=by simpa[eqV] using e
   exact this▸m
 · intro m;exact⟨n,m,by simp[eqV]⟩
theorem qgM (ns:List Str):(ns.map V.str).all qcT=true:=by
 rw[List.all_map,List.all_eq_true];intro x _;rfl
inductive Q1 (a:Ad) (vs:List V) (H:Hp) (Q:VK):Prop
 | mk (q:Addr) (ps:List (Addr×Str×List Str)) (h1:vs=[.ref q]) (h2:H q=some (.lst (ps.map fun p=>V.ref p.1))) (h3:0 < ps.length) (h4:ps.length≤8) (h5:(∀ p∈ps,Ep0 a H p.1 p.2.1 p.2.2)) (h6:Q .non H):Q1 a vs H Q
def Z4 (a:Ad):Sp:=fun vs H Q _=>Q1 a vs H Q
inductive Zz (a:Ad) (vs:List V) (H:Hp) (Q:VK):Prop
 | mk (x dx q:Addr) (nm:Str) (ps:List (Addr×Str×List Str)) (h1:vs=[.ref x,.str nm,.ref q]) (h2:H x=some (.ins a.c_Joint dx [])) (h3:qY (.str nm)=true) (h4:H q=some (.lst (ps.map fun p=>V.ref p.1))) (h5:0 < ps.length) (h6:ps.length≤8) (h7:(∀ p∈ps,Ep0 a H p.1 p.2.1 p.2.2)) (h8:∀ (l:Addr) (H':Hp),H l=none->But x H H'->H' x=some (.ins a.c_Joint dx (fsJ nm l))->H' l=some (.lst (ps.map fun p=>V.ref p.1))->Q .non H'):Zz a vs H Q
def jY (a:Ad):Sp:=fun vs H Q _=>Zz a vs H Q
inductive Zl (a:Ad) (vs:List V) (H:Hp) (Q:VK):Prop
 | mk (x dx:Addr) (fs:List (Str×V)) (h1:vs=[.ref x]) (h2:H x=some (.ins a.c_Read dx fs)) (h3:Q .non H):Zl a vs H Q
def jQ (a:Ad):Sp:=fun vs H Q _=>Zl a vs H Q
inductive Q3 (a:Ad) (vs:List V) (H:Hp) (Q:VK):Prop
 | mk (x dx p dp:Addr) (nm:Str) (fs:List (Str×V)) (f:V) (h1:vs=[.ref x,.str nm,.ref p,f]) (h2:H x=some (.ins a.c_Sifted dx [])) (h3:qY (.str nm)=true) (h4:H p=some (.ins a.c_Read dp fs)) (h5:fs≠[]) (h6:∀ H',But x H H'->H' x=some (.ins a.c_Sifted dx [("name",.str nm),("part",.ref p),("keeps",f)])->Q .non H'):Q3 a vs H Q
def Z5 (a:Ad):Sp:=fun vs H Q _=>Q3 a vs H Q
inductive Qq (a:Ad) (vs:List V) (H:Hp) (Q:VK):Prop
 | mk (x dx p dp f:Addr) (nm pn pl:Str) (m:Int) (h1:vs=[.ref x]) (h2:H x=some (.ins a.c_Sifted dx (fsS nm p f))) (h3:H p=some (.ins a.c_Read dp (fsB pn pl m m))) (h4:∀ l,H l=none->Q (.ref l) (upd H l (.lst [.str pl]))):Qq a vs H Q
def zk (a:Ad):Sp:=fun vs H Q _=>Qq a vs H Q
inductive QL (a:Ad) (vs:List V) (H:Hp) (Q:VK):Prop
 | mk (x dx l:Addr) (nm:Str) (ps:List (Addr×Str×List Str)) (h1:vs=[.ref x]) (h2:H x=some (.ins a.c_Joint dx (fsJ nm l))) (h3:H l=some (.lst (ps.map fun p=>V.ref p.1))) (h4:ps.length≤8) (h5:(∀ p∈ps,Ep0 a H p.1 p.2.1 p.2.2∧p.2.2.length≤1)) (h6:∀ (d:Addr) (H':Hp),H d=none->Same H H'->H' d=some (.lst ((ps.foldl (fun acc p=>zv acc p.2.2) []).map V.str))->Q (.ref d) H'):QL a vs H Q
def Qb (a:Ad):Sp:=fun vs H Q _=>QL a vs H Q
theorem qhS {l:List Addr} (n:l.Nodup) {i j:Nat}{x y:Addr} (hi:l[i]?=some x) (hj:l[j]?=some y) (h:i≠j):x≠y:=by
 intro e;subst e;obtain⟨h1,e1⟩:=List.getElem?_eq_some_iff.mp hi;obtain⟨h2,e2⟩:=List.getElem?_eq_some_iff.mp hj;exact h ((List.getElem_inj n).mp (e1.trans e2.symm))
theorem qbP {K:Frag}{mg:Str->Option Value}{a:Ad} (T:Txt K mg a):kitOne K (.ref a.c_Entry) (.ref a.c_Entry)=some true:=by
 rw[zP T.mr_Entry rfl T.t_Entry];simp
theorem qbk {K:Frag}{mg:Str->Option Value}{a:Ad} (T:Txt K mg a):kitOne K (.ref a.c_Within) (.ref a.c_Entry)=some true:=by
 rw[zP T.mr_Within rfl T.t_Entry];simp
theorem qbj {K:Frag}{mg:Str->Option Value}{a:Ad} (T:Txt K mg a):kitOne K (.ref a.c_Within) (.ref a.c_Joint)=some false:=by
 rw[zP T.mr_Within rfl T.t_Joint];simp[qhS T.ndc (i:=5) (j:=1) rfl rfl (by decide),qhS T.ndc (i:=5) (j:=0) rfl rfl (by decide)]
theorem qea {K:Frag}{mg:Str->Option Value}{a:Ad} (T:Txt K mg a):kitOne K (.ref a.c_At) (.ref a.c_Entry)=some true:=by
 rw[zP T.mr_At rfl T.t_Entry];simp
theorem qam {K:Frag}{mg:Str->Option Value}{a:Ad} (T:Txt K mg a):kitOne K (.ref a.c_Between) (.ref a.c_Entry)=some true:=by
 rw[zP T.mr_Between rfl T.t_Entry];simp
theorem qal {K:Frag}{mg:Str->Option Value}{a:Ad} (T:Txt K mg a):kitOne K (.ref a.c_Between) (.ref a.c_Joint)=some false:=by
 rw[zP T.mr_Between rfl T.t_Joint];simp[qhS T.ndc (i:=5) (j:=3) rfl rfl (by decide),qhS T.ndc (i:=5) (j:=0) rfl rfl (by decide)]
theorem qcQ {K:Frag}{mg:Str->Option Value}{a:Ad} (T:Txt K mg a):kitOne K (.ref a.c_Read) (.ref a.c_Entry)=some true:=by
 rw[zP T.mr_Read rfl T.t_Entry];simp
theorem qcP {K:Frag}{mg:Str->Option Value}{a:Ad} (T:Txt K mg a):kitOne K (.ref a.c_Read) (.ref a.c_Joint)=some false:=by
 rw[zP T.mr_Read rfl T.t_Joint];simp[qhS T.ndc (i:=5) (j:=4) rfl rfl (by decide),qhS T.ndc (i:=5) (j:=3) rfl rfl (by decide),qhS T.ndc (i:=5) (j:=0) rfl rfl (by decide)]
theorem qdG {K:Frag}{mg:Str->Option Value}{a:Ad} (T:Txt K mg a):kitOne K (.ref a.c_Read) (.ref a.c_Read)=some true:=by
 rw[zP T.mr_Read rfl T.t_Read];simp
theorem qbO {K:Frag}{mg:Str->Option Value}{a:Ad} (T:Txt K mg a):kitOne K (.ref a.c_Joint) (.ref a.c_Entry)=some true:=by
 rw[zP T.mr_Joint rfl T.t_Entry];simp
theorem qbm {K:Frag}{mg:Str->Option Value}{a:Ad} (T:Txt K mg a):kitOne K (.ref a.c_Sifted) (.ref a.c_Entry)=some true:=by
 rw[zP T.mr_Sifted rfl T.t_Entry];simp
theorem qbl {K:Frag}{mg:Str->Option Value}{a:Ad} (T:Txt K mg a):kitOne K (.ref a.c_Sifted) (.ref a.c_Joint)=some false:=by
 rw[zP T.mr_Sifted rfl T.t_Joint];simp[qhS T.ndc (i:=5) (j:=6) rfl rfl (by decide),qhS T.ndc (i:=5) (j:=0) rfl rfl (by decide)]
theorem qiI {K:Frag}{mg:Str->Option Value}{a:Ad} (T:Txt K mg a) {H:Hp}{x:Addr}{nm:Str}{ss:List Str} (h:Ep0 a H x nm ss):∃ C dx fs,H x=some (.ins C dx fs)∧qdU K H (.ref x) (.ref C)∧kitOne K (.ref C) (.ref a.c_Entry)=some true∧kitOne K (.ref C) (.ref a.c_Joint)=some false∧Cls K C∧NoAttr K C "name"∧fs.lookup ("name":Str)=some (V.str nm):=by
 cases h with
 | within hx=>exact⟨_,_,_,hx,T.io_Within.ty hx,qbk T,qbj T,T.cl_Within,T.n_Within_name,rfl⟩
 | between hx=>exact⟨_,_,_,hx,T.io_Between.ty hx,qam T,qal T,T.cl_Between,T.n_Between_name,rfl⟩
 | read hx=>exact⟨_,_,_,hx,T.io_Read.ty hx,qcQ T,qcP T,T.cl_Read,T.n_Read_name,rfl⟩
 | sift hx hp=>exact⟨_,_,_,hx,T.io_Sifted.ty hx,qbm T,qbl T,T.cl_Sifted,T.n_Sifted_name,rfl⟩
theorem qjG {K:Frag}{mg:Str->Option Value}{a:Ad} (T:Txt K mg a) {H:Hp}{x:Addr}{nm:Str}{ss:List Str} (h:Ep1 a H x nm ss):∃ C dx fs,H x=some (.ins C dx fs)∧qdU K H (.ref x) (.ref C)∧kitOne K (.ref C) (.ref a.c_Entry)=some true∧Cls K C∧NoAttr K C "name"∧fs.lookup ("name":Str)=some (V.str nm):=by
 cases h with
 | b h =>
   obtain⟨C,dx,fs,h1,h2,h3,_,h4⟩:=qiI T h;exact⟨C,dx,fs,h1,h2,h3,h4⟩
 | any hx=>exact⟨_,_,_,hx,T.io_Entry.ty hx,qbP T,T.cl_Entry,T.n_Entry_name,rfl⟩
 | at_ hx=>exact⟨_,_,_,hx,T.io_At.ty hx,qea T,T.cl_At,T.n_At_name,rfl⟩
 | jn hx _ _ _=>exact⟨_,_,_,hx,T.io_Joint.ty hx,qbO T,T.cl_Joint,T.n_Joint_name,rfl⟩
theorem qkB {H H':Hp}{x C dx:Addr} (hx:H x=some (.ins C dx [])) (b:But x H H'):∀ y C' d fs,H y=some (.ins C' d fs)->fs≠[]->H' y=some (.ins C' d fs):=fun y C' d fs e n=>by
 refine b _ _ e fun z=>?_;rw[z,hx]at e;injection e with e;injection e with _ _ e;exact n e.symm
section
variable {P:Program}{w:World}{K:Frag}{mg:Str->Option Value}{base:Heap}
theorem qbG {a:Ad} (T:Txt K mg a):qu P w K mg base CX0 1 a.f_U a.fd_U ["parts"] (Z4 a):=by
 refine T.d_U.F.ok sc_check_parts (fun vs H Q E h=>?_) (fun cdv A outer s H vs Q E hr h=>?_)
 · obtain⟨q,ps,rfl,hq,h0,h8,en,kk⟩:=h;rfl
 · obtain⟨q,ps,rfl,hq,h0,h8,en,kk⟩:=h;have hU:=hr.units;obtain⟨t_MOST_PARTS,c_MOST_PARTS⟩:=T.g_MOST_PARTS
   refine⟨_,(qc (qM (PW.pt (Jt (qV (qP (qp zC (by rfl) T.n_isinstance qm (qa (pv 0) (qa (Qh (v:=.ty "list") rfl T.n_list zI rfl) qb))))) (ZG (qB (uEq hU) (qp qR (by rfl) T.n_len qE (qa (pv 0) qb)) qf (qJ _)))))
       (qe zd)
       qv)
     (qc (qM (qB qgd (qp qR (by rfl) T.n_len qE (qa (pv 0) qb)) (qI (v:=.int 8) rfl c_MOST_PARTS ⟨_,rfl⟩) (qJ _))
       (qe zd)
       qv)
     (qe (Qe PassesOwn.never rfl (zO (pv 0)) (qU (i:=1) (sc_check_parts.nd) rfl (Or.inl rfl))
       (qe (qM (PW.pt (Jt (qV (qP (qp (r:=qkl K) qas (by rfl) T.n_isinstance qm (qa (pv 1) (qa (qI (v:=.ref a.c_Entry) rfl T.g_Entry rfl) qb))))) (ZG (qP (qp (r:=qkl K) qas (by rfl) T.n_isinstance qm (qa (pv 1) (qa (qI (v:=.ref a.c_Joint) rfl T.g_Joint rfl) qb)))))))
         (qe zd)
         qv)))))),?_⟩
   try dsimp only [zf,Cx.nox]
   have ty:tyN H (.ref q)=some "list":=by simp only[tyN];rw[hq]
   have lq:(ps.map fun p=>V.ref p.1).length=ps.length:=List.length_map _;refine⟨_,rfl,_,_,_,rfl,(by decide),ty,true,rfl,qN rfl ?_⟩;refine⟨_,rfl,_,_,rfl,.inl ⟨_,SqL.of hq,rfl⟩,.inl ⟨rfl,_,rfl,zg (fun g=>absurd g ?_) (fun _=>?_)⟩⟩
   · intro z;injection z with z;omega
   refine⟨_,rfl,_,_,rfl,.inl ⟨_,SqL.of hq,rfl⟩,_,_,rfl,rfl,_,rfl,zg (fun g=>absurd g (by omega)) (fun _=>?_)⟩;(try unfold qA);(try dsimp only);refine⟨_,rfl,q,rfl,⟨_,SqL.of hq⟩,Qy (K:=K) (a:=q) (xs:=ps.map fun p=>V.ref p.1) (fun j σ H'=>∃ s1:Option V,σ=[some (.ref q),s1]∧H'=H) ⟨_,rfl,rfl⟩ (fun j σ H' _ ⟨_,_,h⟩=>h▸SqL.of hq) ?_ ?_⟩
   · rintro j z σ H' hz ⟨s1,rfl,rfl⟩;obtain⟨k,hk,rfl⟩:=zB hz;obtain⟨C,dx,fs,_,c1,c2,c3,_⟩:=qiI T (en k (List.mem_of_getElem? hk));exact⟨_,rfl,_,_,_,_,rfl,c1,c2,true,rfl,qN rfl ⟨_,rfl,_,_,_,_,rfl,c1,c3,false,rfl,qN rfl ⟨_,rfl,rfl⟩⟩⟩
   · rintro σ H' ⟨s1,rfl,rfl⟩;exact kk
theorem qcK {a:Ad} (T:Txt K mg a):qu P w K mg base CX0 5 a.f_aa a.fd_aa ["self","name","parts"] (jY a):=by
 have G_d:=zo (P:=P) (w:=w) (base:=base) T;have G_U:=qbG (P:=P) (w:=w) (base:=base) T;refine T.d_aa.F.ok qcy (fun vs H Q E h=>?_) (fun cdv A outer s H vs Q E hr h=>?_)
 · obtain⟨x,dx,q,nm,ps,rfl,hx,ok,hq,h0,h8,en,kk⟩:=h;rfl
 · obtain⟨x,dx,q,nm,ps,rfl,hx,ok,hq,h0,h8,en,kk⟩:=h;have h_d:Room (3+1) _:=hr.mono (by decide);have h_U:Room (1) _:=hr.mono (by decide)
   refine⟨_,(qc (qx (zm T.ci_Entry G_d (h_d.mono (by decide)) T.d_d.b rfl T.g_Entry (qa (pv 0) (qa (pv 1) qb))))
     (qc (qx (ql G_U h_U rfl T.d_U.m T.d_U.k T.d_U.b .nil qq (qa (pv 2) qb)))
     (qe (Qw (pv 0) (ZI (r:=qlq K) ZT (by rfl) T.n_list zI (qa (pv 2) qb)) rfl)))),?_⟩
   try dsimp only [zf,Cx.nox]
   refine⟨_,rfl,_,rfl,x,a.c_Joint,dx,nm,rfl,hx,ok,T.cl_Joint,T.n_Joint_name,fun H1 B1 h1=>?_⟩;have hq1:=B1 _ _ hq (qX hq hx (by intro z;cases z));refine⟨_,rfl,q,ps,rfl,hq1,h0,h8,fun p m=>(en p m).mp (qkB hx B1),?_⟩;refine⟨_,rfl,q,_,rfl,.inl (SqL.of hq1),fun l fl=>?_⟩;have nl:l≠x:=fun z=>by rw[z,h1]at fl;cases fl
   refine⟨_,rfl,x,_,dx,_,rfl,(by rw[qg nl.symm];exact h1),T.cl_Joint,T.n_Joint_kept_parts,(Nat.le_of_ble_eq_true rfl),?_⟩;exact kk l _ (B1.none fl nl) (fun b o e nb=>by rw[qg nb,qg (qi (B1 b o e nb) fl)];exact B1 b o e nb) (by rw[qd];rfl) (by rw[qg nl,qd])
theorem qcG {a:Ad} (T:Txt K mg a):qu P w K mg base CX0 8 a.f_V a.fd_V ["part"] (jQ a):=by
 refine T.d_V.F.ok qcs (fun vs H Q E h=>?_) (fun cdv A outer s H vs Q E hr h=>?_)
 · obtain⟨x,dx,fs,rfl,hx,kk⟩:=h;rfl
 · obtain⟨x,dx,fs,rfl,hx,kk⟩:=h;obtain⟨t_MOST_SIFTED,c_MOST_SIFTED⟩:=T.g_MOST_SIFTED
   refine⟨_,(qc (qM (qP (qp (r:=qkl K) qas (by rfl) T.n_isinstance qm (qa (pv 0) (qa (qI (v:=.ref a.c_Read) rfl T.g_Read rfl) qb))))
       (qe qji)
       qv)
     (qc zd
     (qc zd
     (qe zd)))),?_⟩
   try dsimp only [zf,Cx.nox]
   exact⟨_,rfl,_,_,_,_,rfl,T.io_Read.ty hx,qdG T,true,rfl,zU rfl kk⟩
theorem qbH {a:Ad} (T:Txt K mg a):qu P w K mg base CX0 9 a.f_ac a.fd_ac ["self","name","part","keeps"] (Z5 a):=by
 have G_d:=zo (P:=P) (w:=w) (base:=base) T;have G_V:=qcG (P:=P) (w:=w) (base:=base) T;refine T.d_ac.F.ok qbA (fun vs H Q E h=>?_) (fun cdv A outer s H vs Q E hr h=>?_)
 · obtain⟨x,dx,p,dp,nm,fs,f,rfl,hx,ok,hp,nf,kk⟩:=h;rfl
 · obtain⟨x,dx,p,dp,nm,fs,f,rfl,hx,ok,hp,nf,kk⟩:=h;have h_d:Room (3+1) _:=hr.mono (by decide);have h_V:Room (8) _:=hr.mono (by decide)
   refine⟨_,(qc (qx (zm T.ci_Entry G_d (h_d.mono (by decide)) T.d_d.b rfl T.g_Entry (qa (pv 0) (qa (pv 1) qb))))
     (qc (qx (ql G_V h_V rfl T.d_V.m T.d_V.k T.d_V.b .nil qq (qa (pv 2) qb)))
     (qc (Qw (pv 0) (pv 2) rfl)
     (qe (Qw (pv 0) (pv 3) rfl))))),?_⟩
   try dsimp only [zf,Cx.nox]
   refine⟨_,rfl,_,rfl,x,a.c_Sifted,dx,nm,rfl,hx,ok,T.cl_Sifted,T.n_Sifted_name,fun H1 B1 h1=>?_⟩;refine⟨_,rfl,p,dp,fs,rfl,qkB hx B1 _ _ _ _ hp nf,?_⟩;refine⟨_,rfl,_,rfl,x,_,dx,_,rfl,h1,T.cl_Sifted,T.n_Sifted_part,(Nat.le_of_ble_eq_true rfl),?_⟩;refine⟨_,rfl,_,rfl,x,_,dx,_,rfl,qd,T.cl_Sifted,T.n_Sifted_keeps,(Nat.le_of_ble_eq_true rfl),?_⟩;exact kk _ (fun b o e nb=>by rw[qg nb,qg nb];exact B1 b o e nb) (by rw[qd];rfl)
theorem Ze {a:Ad} (T:Txt K mg a):qu P w K mg base CX0 2 a.f_y a.fd_y ["self"] (zk a):=by
 have G_g:=zF (P:=P) (w:=w) (base:=base) T;refine T.d_y.F.ok qae (fun vs H Q E h=>?_) (fun cdv A outer s H vs Q E hr h=>?_)
 · obtain⟨x,dx,p,dp,f,nm,pn,pl,m,rfl,hx,hp,kk⟩:=h;rfl
 · obtain⟨x,dx,p,dp,f,nm,pn,pl,m,rfl,hx,hp,kk⟩:=h;have h_g:Room (1) _:=hr.mono (by decide);refine⟨_,(qe (qy (qK (qZ (pv 0) rfl) T.cl_Read T.i_Read_places G_g h_g T.d_g.b .nil qq))),?_⟩;(try dsimp only [zf,Cx.nox]);refine⟨_,rfl,x,_,dx,_,_,rfl,hx,T.cl_Sifted,T.n_Sifted_part,rfl,p,dp,_,rfl,hp,rfl,p,_,dp,_,pl,rfl,hp,T.cl_Read,T.n_Read_place,rfl,fun l fl=>kk l fl⟩
end
theorem qkq {K:Frag}{mg:Str->Option Value}{a:Ad} (T:Txt K mg a) {te:TE}{σ:L2.St}{H:Hp}{Q:VK}{x:Addr}{nm:Str}{ss:List Str} (hte:∀ R:V->Hp->Prop,R (.ref x) H->te σ H R) (en:Ep0 a H x nm ss) (k:∀ l,H l=none->Q (.ref l) (upd H l (.lst (ss.map V.str)))) :
   Jl a.c_Within "places" zb [] E0 te qes σ H Q∨Jl a.c_Between "places" (qO K) [] E0 te qes σ H Q∨Jl a.c_Read "places" (qO K) [] E0 te qes σ H Q∨Jl a.c_Sifted "places" (zk a) [] E0 te qes σ H Q:=by
 cases en with
 | @within dx nm lo hi hx=>exact .inl (hte _ ⟨x,dx,_,rfl,hx,rfl,_,rfl,fun l fl=>k l fl⟩)
 | @between dx nm pl lo hi hx=>exact .inr (.inl (hte _ ⟨x,dx,_,rfl,hx,rfl,x,_,dx,_,pl,rfl,hx,T.cl_Between,T.n_Between_place,rfl,fun l fl=>k l fl⟩))
 | @read dx nm pl m hx=>exact .inr (.inr (.inl (hte _ ⟨x,dx,_,rfl,hx,rfl,x,_,dx,_,pl,rfl,hx,T.cl_Read,T.n_Read_place,rfl,fun l fl=>k l fl⟩)))
 | @sift dx p dp f nm pn pl m hx hp=>exact .inr (.inr (.inr (hte _ ⟨x,dx,_,rfl,hx,rfl,x,dx,p,dp,f,nm,pn,pl,m,rfl,hx,hp,fun l fl=>k l fl⟩)))
theorem qfo (acc ss:List Str):(zv acc ss).length≤acc.length+ss.length:=by
 unfold zv;rw[List.length_append]
 have:=List.length_filter_le (fun u=>decide (u∉acc)) ss
 omega
theorem qeV {ps:List (Addr×Str×List Str)} (h:∀ p∈ps,p.2.2.length≤1):∀ j,((ps.take j).foldl (fun acc p=>zv acc p.2.2) []).length≤j
 | 0=>Nat.le_refl _
 | j+1=>by
   have ih:=qeV h j
   cases e:ps[j]? with
   | none=>rw[List.take_add_one,e];simp only[Option.toList_none,List.append_nil];omega
   | some p =>
     rw[List.take_add_one,e,List.foldl_append]
     have:=qfo ((ps.take j).foldl (fun acc p=>zv acc p.2.2) []) p.2.2
     have:=h p (List.mem_of_getElem? e)
     show (zv _ p.2.2).length≤_;omega
section
variable {P:Program}{w:World}{K:Frag}{mg:Str->Option Value}{base:Heap}
theorem qa9 {a:Ad} (T:Txt K mg a):qu P w K mg base CX0 3 a.f_ab a.fd_ab ["self"] (Qb a):=by
 have G_o:=ZN (P:=P) (w:=w) (base:=base) T;have G_g:=zF (P:=P) (w:=w) (base:=base) T;have G_y:=Ze (P:=P) (w:=w) (base:=base) T;refine T.d_ab.F.ok sc_Joint_places (fun vs H Q E h=>?_) (fun cdv A outer s H vs Q E hr h=>?_)
 · obtain⟨x,dx,l,nm,ps,rfl,hx,hl,h8,en,kk⟩:=h;rfl
 · obtain⟨x,dx,l,nm,ps,rfl,hx,hl,h8,en,kk⟩:=h;have hu:=qG hr;have h_o:Room (1) _:=hr.mono (by decide);have h_g:Room (1) _:=hr.mono (by decide);have h_y:Room (2) _:=hr.mono (by decide)
   refine⟨_,(qc (qC (i:=1) sc_Joint_places.nd rfl (Or.inr rfl) (qQ qb))
     (qc (Qe PassesOwn.never rfl (zO (qZ (pv 0) rfl)) (qU (i:=2) (sc_Joint_places.nd) rfl (Or.inl rfl))
       (qe (qx (qe6 PySem.F.plainAttrs_list PySem.F.slot_list_extend PySem.F.type_list_extend qgo (pv 1) (qa (Ju rfl (CompOk.def ["place","told"] [none,some 1]) (zO (PE.or (qK (pv 2) T.cl_Within T.i_Within_places G_o h_o T.d_o.b .nil qq) (PE.or (qK (pv 2) T.cl_Between T.d_g.mt G_g h_g T.d_g.b .nil qq) (PE.or (qK (pv 2) T.cl_Read T.i_Read_places G_g h_g T.d_g.b .nil qq) (qK (pv 2) T.cl_Sifted T.d_y.mt G_y h_y T.d_y.b .nil qq))))) (fun _ _ _ _ _=>(qU (i:=0) (show List.Nodup (["place","told"]:List Str) by decide +kernel) rfl (Or.inl rfl))) (fun _ _ _ _ _=>(qaZ (qB (r:=rIn K true) qdu (pv 0) (pv 1) (by with_unfolding_all rfl)))) (fun _ _ _ _ _=>(pv 0))) qb)))))
     (qe (qy (pv 1))))),?_⟩
   try dsimp only [zf,Cx.nox]
   refine⟨Nat.zero_le _,fun t ft=>?_⟩;generalize hG:upd H t _=G;obtain⟨S0,e0⟩:=qj hG ft;clear hG;have lps:(ps.map fun p=>V.ref p.1).length=ps.length:=List.length_map _;(try unfold qA);(try dsimp only);refine⟨_,rfl,x,_,dx,_,_,rfl,S0 _ _ hx,T.cl_Joint,T.n_Joint_kept_parts,rfl,l,rfl,⟨_,SqL.of (S0 _ _ hl)⟩,Qy (K:=K) (a:=l) (xs:=ps.map fun p=>V.ref p.1) (D:={ nx:=qim (qjO 1) { nx:=fun _ H'=>Q .non H',rt:=Q },rt:=Q }) (fun j σ H'=>∃ s2:Option V,σ=[some (.ref x),some (.ref t),s2]∧Same H H'∧H' t=some (.lst (((ps.take j).foldl (fun acc p=>zv acc p.2.2) []).map V.str))) ⟨none,rfl,S0,e0⟩ (fun j σ H' _ ⟨_,_,S,_⟩=>SqL.of (S _ _ hl)) ?_ ?_⟩
   · rintro j z σ H2 hz ⟨s2,rfl,S2,ht⟩;obtain⟨p,hp,rfl⟩:=zB hz;obtain⟨ep,l1⟩:=en p (List.mem_of_getElem? hp);have jl:j < ps.length:=(List.getElem?_eq_some_iff.mp hp).1;have fl:=qeV (fun p m=>(en p m).2) j;have sn:(ps.take (j+1)).foldl (fun acc p=>zv acc p.2.2) []=zv ((ps.take j).foldl (fun acc p=>zv acc p.2.2) []) p.2.2:=by rw[List.take_add_one,hp,List.foldl_append];rfl
     rw[sn];generalize (ps.take j).foldl (fun acc p=>zv acc p.2.2) []=acc at ht fl;refine⟨_,rfl,.inl ⟨rfl,_,SqL.of ht⟩,?_⟩;refine qkq T (fun R h=>⟨_,rfl,h⟩) (ep.same S2) fun pq fpq=>?_;generalize hG:upd H2 pq _=H3;obtain⟨S3,ep3⟩:=qj hG fpq;clear hG;have ht3:=S3 _ _ ht;have npt:pq≠t:=fun z=>by rw[z,ht]at fpq;cases fpq
     refine⟨pq,rfl,⟨_,SqL.of ep3⟩,fun D fD=>?_⟩;refine ZS (K:=K) (a:=pq) (xs:=p.2.2.map V.str) (D:=D) (fun i σ H'=>∃ (c0:Option V),σ=[c0,some (.ref t)]∧Same H3 H'∧H' D=some (.lst (((p.2.2.take i).filter fun u=>decide (u∉acc)).map V.str))) ⟨none,rfl,Same.new _ fD,qd⟩ (fun i σ H' _ ⟨_,_,S,_⟩=>SqL.of (S _ _ ep3)) ?_ ?_
     · rintro i z σ H4 hz ⟨c0,rfl,S4,hD⟩;obtain⟨u,hu,rfl⟩:=zB hz
       have es:(p.2.2.take (i+1)).filter (fun u=>decide (u∉acc))=(p.2.2.take i).filter (fun u=>decide (u∉acc))++(if u∉acc then [u] else []):=by
         rw[List.take_add_one,hu,List.filter_append];congr 1;show List.filter _ [u]=_;rw[List.filter_cons];by_cases z:u∈acc
         · rw[if_neg (by simp[z]),if_neg (fun w=>w z)];rfl
         · rw[if_pos (by simp[z]),if_pos z];rfl
       have lf:=List.length_filter_le (fun u=>decide (u∉acc)) (p.2.2.take i);rw[List.length_take]at lf;refine⟨_,rfl,_,rfl,t,_,rfl,.inl (SqL.of (S4 _ _ ht3)),rfl,qgM _,_,rfl,?_⟩;rw[qh3];by_cases z:u∈acc
       · refine qN (by simp[z]) ⟨_,rfl,S4,?_⟩;rw[es,if_neg (fun w=>w z),List.append_nil];exact hD
       · refine zU (by simp[z]) ⟨_,rfl,_,hD,zc (by rw[List.length_map];omega),_,rfl,S4.put fD _,?_⟩;rw[qd,es,if_pos z,List.map_append];rfl
     · rintro σ H4 ⟨c0,rfl,S4,hD⟩;rw[List.length_map,List.take_length]at hD;have lf:=List.length_filter_le (fun u=>decide (u∉acc)) p.2.2;refine⟨t,D,_,_,rfl,rfl,S4 _ _ ht3,hD,Nat.le_of_lt (zc (by rw[List.length_map,List.length_map];omega)),?_⟩;refine⟨_,rfl,((S2.trans S3).trans S4).put ft _,?_⟩;rw[qd,← List.map_append];rfl
   · rintro σ H2 ⟨s2,rfl,S2,ht⟩;rw[lps,List.take_length]at ht;exact⟨_,rfl,kk t H2 ft S2 ht⟩
end
abbrev fsL (td ed bl:Addr):List (Str×V):=[("tables",.ref td),("entries",.ref ed),("bound",.ref bl)]
abbrev prB (b:Str×Str×Int):List V:=[.str b.1,.str b.2.1,.int b.2.2]
def skv (ps:List (Str×V)):List (Key×V):=ps.map fun p=>((.inr p.1:Key),p.2)
theorem qaD:∀ {ps:List (Str×V)},(ps.map (·.1)).Nodup->∀ e∈ps,qc1 (skv ps) (.inr e.1)=some e.2
 | [],_,x,m=>nomatch m
 | y::ps,nd,x,m=>by
   rw[List.map_cons,List.nodup_cons]at nd;unfold skv qc1;rw[List.map_cons,List.find?_cons];rcases List.mem_cons.mp m with rfl|m
   · simp
   · have n:¬ ((.inr y.1:Key)=.inr x.1):=fun e=>by
       injection e with e;exact nd.1 (e▸List.mem_map_of_mem m)
     rw[show decide (((.inr y.1:Key),y.2).1=.inr x.1)=false by simpa using n];exact qaD nd.2 x m
theorem qaE:∀ {ps:List (Str×V)}{pl:Str},pl∉ps.map (·.1)->qc1 (skv ps) (.inr pl)=none
 | [],_,_=>rfl
 | y::ps,pl,h=>by
   rw[List.map_cons,List.mem_cons,not_or]at h;unfold skv qc1;rw[List.map_cons,List.find?_cons];have n:¬ ((.inr y.1:Key)=.inr pl):=fun e=>by injection e with e;exact h.1 e.symm
   rw[show decide (((.inr y.1:Key),y.2).1=.inr pl)=false by simpa using n];exact qaE h.2
theorem qfS {ps:List (Str×V)}{pl:Str} (no:pl∉ps.map (·.1)) (v:V):qdr (skv ps) (.inr pl) v=skv (ps++[(pl,v)]):=by
 rw[qhx _ (qaE no)];unfold skv;rw[List.map_append];rfl
theorem qgm {ps:List (Str×V)}{pl:Str}{v:V} (nd:(ps.map (·.1)).Nodup) (no:pl∉ps.map (·.1)):((ps++[(pl,v)]).map (·.1)).Nodup:=by
 rw[List.map_append];exact List.nodup_append.mpr ⟨nd,by simp,fun y m z mz e'=>no (by rw[List.mem_singleton.mp mz]at e';have e2:y=pl:=e';rw[← e2];exact m)⟩
structure Lo (a:Ad) (H:Hp) (x td ed bl:Addr) (ps ns:List (Str×V)) (zs:List V):Prop where
 hx:∃ dx,H x=some (.ins a.c_Log dx (fsL td ed bl))
 ht:H td=some (.dK (skv ps))
 he:H ed=some (.dK (skv ns))
 hb:H bl=some (.lst zs)
 ne:td≠ed
 ndt:(ps.map (·.1)).Nodup
 nde:(ns.map (·.1)).Nodup
section
variable {a:Ad}{H H':Hp}{x td ed bl:Addr}{ps ns:List (Str×V)}{zs:List V}
theorem Lo.sm (h:Lo a H x td ed bl ps ns zs) (s:Same H H'):Lo a H' x td ed bl ps ns zs :=
 ⟨let ⟨dx,e⟩:=h.hx;⟨dx,s _ _ e⟩,s _ _ h.ht,s _ _ h.he,s _ _ h.hb,h.ne,h.ndt,h.nde⟩
theorem Lo.eget (h:Lo a H x td ed bl ps ns zs) {e:Str×V} (m:e∈ns):qfp H ed (.str e.1) (some e.2):=.inl ⟨_,.inr e.1,.inl h.he,rfl,(qaD h.nde e m).symm⟩
theorem Lo.tget (h:Lo a H x td ed bl ps ns zs) {e:Str×V} (m:e∈ps):qfp H td (.str e.1) (some e.2):=.inl ⟨_,.inr e.1,.inl h.ht,rfl,(qaD h.ndt e m).symm⟩
end
def Unk (ks:List Str) (v:V):Prop:=∀ s,v=.str s->s∉ks
theorem qkE {H:Hp}{v:V}{t:String} (h:tyN H v=some t) (n:∀ s,v≠.str s):qhi "str" t=false:=by
 cases e:qhi "str" t with
 | false=>rfl
 | true=>obtain⟨x,rfl⟩:=qip h e;exact absurd rfl (n x)
inductive qay (vs:List V) (H:Hp) (Q:VK):Prop
 | mk (v:V) (d:Addr) (ps:List (Str×V)) (h1:vs=[v,.ref d]) (h2:H d=some (.dK (skv ps))) (h3:(ps.map (·.1)).Nodup) (h4:((∃ e∈ps,v=.str e.1∧Q (.bl true) H)∨(Typed H v∧Unk (ps.map (·.1)) v∧Q (.bl false) H))):qay vs H Q
def qaz:Sp:=fun vs H Q _=>qay vs H Q
inductive jT (a:Ad) (vs:List V) (H:Hp) (Q:VK):Prop
 | mk (x dx:Addr) (h1:vs=[.ref x]) (h2:H x=some (.ins a.c_Log dx [])) (h3:∀ (td ed bl:Addr) (H':Hp),But x H H'->H td=none->H ed=none->H bl=none->Lo a H' x td ed bl [] [] []->Q .non H'):jT a vs H Q
def qaA (a:Ad):Sp:=fun vs H Q _=>jT a vs H Q
inductive jc (a:Ad) (vs:List V) (H:Hp) (Q:VK):Prop
 | mk (x td ed bl:Addr) (ps ns:List (Str×V)) (zs:List V) (h1:vs=[.ref x]) (h2:Lo a H x td ed bl ps ns zs) (h3:∀ l,H l=none->Q (.ref l) (upd H l (.lst ((ns.map (·.1)).map V.str)))):jc a vs H Q
def zN (a:Ad):Sp:=fun vs H Q _=>jc a vs H Q
inductive jf (a:Ad) (vs:List V) (H:Hp) (Q:VK):Prop
 | mk (x td ed bl:Addr) (ps ns:List (Str×V)) (zs:List V) (h1:vs=[.ref x]) (h2:Lo a H x td ed bl ps ns zs) (h3:∀ l,H l=none->Q (.ref l) (upd H l (.lst zs))):jf a vs H Q
def Qs (a:Ad):Sp:=fun vs H Q _=>jf a vs H Q
inductive Zu (a:Ad) (vs:List V) (H:Hp) (Q:VK):Prop
 | mk (x td ed bl:Addr) (ps ns:List (Str×V)) (zs:List V) (h1:vs=[.ref x]) (h2:Lo a H x td ed bl ps ns zs) (h3:ps.length≤6) (h4:∀ l ss,H l=none->ss.Perm (ps.map (·.1))->sortedS ss=true->Q (.ref l) (upd H l (.lst (ss.map V.str)))):Zu a vs H Q
def zT (a:Ad):Sp:=fun vs H Q _=>Zu a vs H Q
inductive zR (a:Ad) (vs:List V) (H:Hp) (Q:VK) (E:XK):Prop
 | mk (x td ed bl:Addr) (ps ns:List (Str×V)) (zs:List V) (v:V) (h1:vs=[.ref x,v]) (h2:Lo a H x td ed bl ps ns zs) (h3:((∃ e∈ns,v=.str e.1∧Q .non H)∨(Typed H v∧Unk (ns.map (·.1)) v∧Rz a.c_NoEntry "found" v H E))):zR a vs H Q E
def zl (a:Ad):Sp:=fun vs H Q E=>zR a vs H Q E
inductive Qa (a:Ad) (vs:List V) (H:Hp) (Q:VK) (E:XK):Prop
 | mk (x td ed bl:Addr) (ps ns:List (Str×V)) (zs:List V) (v:V) (h1:vs=[.ref x,v]) (h2:Lo a H x td ed bl ps ns zs) (h3:Typed H v) (h4:((zu v 0 ((zs.length:Int) - 1)=true∧Q .non H)∨(zu v 0 ((zs.length:Int) - 1)=false∧Rz a.c_NoBond "found" v H E))):Qa a vs H Q E
def QK (a:Ad):Sp:=fun vs H Q E=>Qa a vs H Q E
inductive jd (a:Ad) (vs:List V) (H:Hp) (Q:VK) (E:XK):Prop
 | mk (x td ed bl:Addr) (ps ns:List (Str×V)) (zs:List V) (v:V) (h1:vs=[.ref x,v]) (h2:Lo a H x td ed bl ps ns zs) (h3:((∃ e∈ns,v=.str e.1∧Q e.2 H)∨(Typed H v∧Unk (ns.map (·.1)) v∧Rz a.c_NoEntry "found" v H E))):jd a vs H Q E
def Zv (a:Ad):Sp:=fun vs H Q E=>jd a vs H Q E
inductive Ek (a:Ad) (H:Hp) (x:Addr):Str->List (Int×Int)->Prop
 | at_ {dx:Addr}{nm:Str}{m:Int}:H x=some (.ins a.c_At dx (fsW nm m m))->Ek a H x nm [(m,m)]
 | any {dx:Addr}{nm:Str}:H x=some (.ins a.c_Entry dx [("name",.str nm)])->Ek a H x nm [(0,1000000000)]
theorem Ek.mp {a:Ad}{H H':Hp}{x:Addr}{nm:Str}{w:List (Int×Int)} (h:Ek a H x nm w) (k:∀ C d fs,H x=some (.ins C d fs)->H' x=some (.ins C d fs)):Ek a H' x nm w:=by
 cases h with
 | at_ e=>exact .at_ (k _ _ _ e)
 | any e=>exact .any (k _ _ _ e)
theorem Ek.same {a:Ad}{H H':Hp}{x:Addr}{nm:Str}{w:List (Int×Int)} (h:Ek a H x nm w) (s:Same H H'):Ek a H' x nm w:=h.mp fun _ _ _ e=>s _ _ e
inductive jb (a:Ad) (vs:List V) (H:Hp) (Q:VK) (E:XK):Prop
 | mk (x td ed bl:Addr) (ps ns:List (Str×V)) (zs:List V) (v:V) (h1:vs=[.ref x,v]) (h2:Lo a H x td ed bl ps ns zs) (h3:((∃ (nm:Str) (y:Addr) (w:List (Int×Int)),(nm,V.ref y)∈ns∧v=.str nm∧Ek a H y nm w∧∀ (d:Addr) (H':Hp),H d=none->Same H H'->Rs H' d w->Q (.ref d) H')∨(Typed H v∧Unk (ns.map (·.1)) v∧Rz a.c_NoEntry "found" v H E))):jb a vs H Q E
def Zs (a:Ad):Sp:=fun vs H Q E=>jb a vs H Q E
inductive ja (a:Ad) (vs:List V) (H:Hp) (E:XK):Prop
 | mk (x td ed bl:Addr) (ps ns:List (Str×V)) (zs:List V) (v:V) (h1:vs=[.ref x,v]) (h2:Lo a H x td ed bl ps ns zs) (h3:Typed H v) (h4:Unk (ps.map (·.1)) v) (h5:Rz a.c_NoPlace "found" v H E):ja a vs H E
def JH (a:Ad):Sp:=fun vs H _ E=>ja a vs H E
inductive QJ (a:Ad) (vs:List V) (H:Hp) (E:XK):Prop
 | mk (x td ed bl:Addr) (ps ns:List (Str×V)) (zs:List V) (v:V) (h1:vs=[.ref x,v]) (h2:Lo a H x td ed bl ps ns zs) (h3:Typed H v) (h4:zu v 0 1000000000=false) (h5:Rz a.c_NoMoment "found" v H E):QJ a vs H E
def Zt (a:Ad):Sp:=fun vs H _ E=>QJ a vs H E
inductive je (a:Ad) (vs:List V) (H:Hp) (Q:VK) (E:XK):Prop
 | mk (x td ed bl:Addr) (ps ns:List (Str×V)) (zs:List V) (v w:V) (h1:vs=[.ref x,v,w]) (h2:Lo a H x td ed bl ps ns zs) (h3:Thing H v) (h4:((∃ pl,v=.str pl∧qY v=true∧pl∉ps.map (·.1)∧ps.length < 6∧∀ H',But td H H'->Lo a H' x td ed bl (ps++[(pl,w)]) ns zs->Q .non H') ∨
  (∃ pl ps',v=.str pl∧qY v=true∧pl∈ps.map (·.1)∧ps.length≤6∧qdr (skv ps) (.inr pl) w=skv ps'∧ps'.map (·.1)=ps.map (·.1)∧∀ H',But td H H'->Lo a H' x td ed bl ps' ns zs->Q .non H') ∨
  (qY v=false∧Rz a.c_NoName "found" v H E)∨(∃ pl,v=.str pl∧qY v=true∧pl∉ps.map (·.1)∧ps.length=6∧Rz a.c_TooMany "many" (.int 7) H E))):je a vs H Q E
def Zw (a:Ad):Sp:=fun vs H Q E=>je a vs H Q E
inductive JI (a:Ad) (vs:List V) (H:Hp) (Q:VK) (E:XK):Prop
 | mk (x td ed bl:Addr) (ps ns:List (Str×V)) (zs:List V) (v:V) (h1:vs=[.ref x,v]) (h2:Lo a H x td ed bl ps ns zs) (h3:((Typed H v∧Rz a.c_NoEntry "found" v H E)∨∃ (y:Addr) (nm:Str) (ss:List Str),v=.ref y∧Ep1 a H y nm ss ∧
   ((nm∈ns.map (·.1)∧Rz a.c_Taken "found" (.str nm) H E)∨(nm∉ns.map (·.1) ∧
     ((∃ us pl ws,ss=us++pl::ws∧(∀ s∈us,s∈ps.map (·.1))∧pl∉ps.map (·.1)∧Rz a.c_NoPlace "found" (.str pl) H E)∨((∀ s∈ss,s∈ps.map (·.1)) ∧
       ((ns.length=60∧Rz a.c_TooMany "many" (.int 61) H E)∨(ns.length < 60∧∀ H',But ed H H'->Lo a H' x td ed bl ps (ns++[(nm,.ref y)]) zs->Q .non H')))))))):JI a vs H Q E
def Jo (a:Ad):Sp:=fun vs H Q E=>JI a vs H Q E
inductive jV (a:Ad) (vs:List V) (H:Hp) (Q:VK) (E:XK):Prop
 | mk (x td ed bl:Addr) (ps ns:List (Str×V)) (zs:List V) (v1 v2 v3:V) (h1:vs=[.ref x,v1,v2,v3]) (h2:Lo a H x td ed bl ps ns zs) (h3:((Typed H v1∧Unk (ns.map (·.1)) v1∧Rz a.c_NoEntry "found" v1 H E)∨∃ e∈ns,v1=.str e.1 ∧
   ((Typed H v2∧Unk (ns.map (·.1)) v2∧Rz a.c_NoEntry "found" v2 H E)∨∃ f∈ns,v2=.str f.1∧Typed H v3 ∧
     ((zu v3 (-2000000000) 2000000001=false∧Rz a.c_NoMinutes "found" v3 H E)∨∃ m,v3=.int m∧-2000000000≤m∧m≤2000000001 ∧
       ((zs.length=100∧Rz a.c_TooMany "many" (.int 101) H E)∨(zs.length < 100∧∀ (t:Addr) (v:V) (H':Hp),H t=none->But bl H H'->H' t=some (.tup (prB (e.1,f.1,m)))->Lo a H' x td ed bl ps ns (zs++[.ref t])->Q v H')))))):jV a vs H Q E
def jF (a:Ad):Sp:=fun vs H Q E=>jV a vs H Q E
inductive Zr (a:Ad) (vs:List V) (H:Hp) (Q:VK) (E:XK):Prop
 | mk (x td ed bl:Addr) (ps ns:List (Str×V)) (zs:List V) (v:V) (h1:vs=[.ref x,v]) (h2:Lo a H x td ed bl ps ns zs) (h3:Typed H v) (h4:((∃ i:Nat,v=.int i∧i < zs.length∧zs.length≤100∧∀ H',But bl H H'->Lo a H' x td ed bl ps ns (zs.eraseIdx i)->Q .non H')∨(zu v 0 ((zs.length:Int) - 1)=false∧Rz a.c_NoBond "found" v H E))):Zr a vs H Q E
def QV (a:Ad):Sp:=fun vs H Q E=>Zr a vs H Q E
def nok (nm:Str) (b:Str×Str×Int):Bool:=!decide (nm=b.1) && !decide (nm=b.2.1)
inductive jU (a:Ad) (vs:List V) (H:Hp) (Q:VK) (E:XK):Prop
 | mk (x td ed bl:Addr) (ps ns:List (Str×V)) (zs:List V) (v:V) (h1:vs=[.ref x,v]) (h2:Lo a H x td ed bl ps ns zs) (h3:((∃ (e:Str×V) (bs:List (Str×Str×Int)),e∈ns∧v=.str e.1∧TupL prB H zs bs∧zs.length≤100∧∀ (bl':Addr) (zs':List V) (H':Hp),H bl'=none->(∀ b o,H b=some o->b≠x->b≠ed->H' b=some o)->Lo a H' x td ed bl' ps (ns.filter fun n=>decide (n.1≠e.1)) zs'->TupL prB H' zs' (bs.filter (nok e.1))->Q .non H')∨(Typed H v∧Unk (ns.map (·.1)) v∧Rz a.c_NoEntry "found" v H E))):jU a vs H Q E
def jE (a:Ad):Sp:=fun vs H Q E=>jU a vs H Q E
section
variable {P:Program}{w:World}{K:Frag}{mg:Str->Option Value}{base:Heap}
theorem qdz {a:Ad} (T:Txt K mg a):qu P w K mg base CX0 1 a.f_u a.fd_u ["thing","keyed"] qaz:=by
 refine T.d_u.F.ok qfV (fun vs H Q E h=>?_) (fun cdv A outer s H vs Q E hr h=>?_)
 · obtain⟨v,d,ps,rfl,hd,nd,kk⟩:=h;rfl
 · obtain⟨v,d,ps,rfl,hd,nd,kk⟩:=h;have hu:=qG hr;refine⟨_,(qe (qy (qa1 (qp zC (by rfl) T.n_isinstance qm (qa (pv 0) (qa (Qh (v:=.ty "str") rfl T.n_str qdM rfl) qb))) (qdt (Jv (qiC hu) (pv 0) (pv 1) (by with_unfolding_all rfl)))))),?_⟩;(try dsimp only [zf,Cx.nox]);rcases kk with ⟨e,me,rfl,kk⟩|⟨⟨t,ht⟩,un,kk⟩
   · refine⟨_,rfl,_,_,_,rfl,(by decide),rfl,true,rfl,qgA ?_⟩;exact⟨_,rfl,_,rfl,d,_,rfl,.inl ⟨_,.inr e.1,.inl hd,rfl,(qaD nd e me).symm⟩,kk⟩
   · refine⟨_,rfl,_,_,_,rfl,(by decide),ht,_,rfl,?_⟩;by_cases z:∃ s,v=.str s
     · obtain⟨s,rfl⟩:=z;cases ht;refine qgA ?_;exact⟨_,rfl,_,rfl,d,_,rfl,.inl ⟨_,.inr s,.inl hd,rfl,(qaE (un s rfl)).symm⟩,kk⟩
     · rw[qkE ht fun s e=>z ⟨s,e⟩];exact qjy kk
theorem qd7 {a:Ad} (T:Txt K mg a):qu P w K mg base CX0 1 a.f_ad a.fd_ad ["self"] (qaA a):=by
 refine T.d_ad.F.ok qd0 (fun vs H Q E h=>?_) (fun cdv A outer s H vs Q E hr h=>?_)
 · obtain⟨x,dx,rfl,hx,kk⟩:=h;rfl
 · obtain⟨x,dx,rfl,hx,kk⟩:=h;have hU:=hr.units
   refine⟨_,(qc (Qw (pv 0) ZV rfl)
     (qc (Qw (pv 0) ZV rfl)
     (qe (Qw (pv 0) (qQ qb) rfl)))),?_⟩
   try dsimp only [zf,Cx.nox]
   intro td ftd;have n1:td≠x:=fun e=>by rw[e,hx]at ftd;cases ftd
   refine⟨_,rfl,x,_,dx,_,rfl,(by rw[qg n1.symm];exact hx),T.cl_Log,T.n_Log_tables,(by decide),?_⟩;intro ed fed;have n2:ed≠x:=fun e=>by rw[e,qd]at fed;cases fed
   have n3:ed≠td:=fun e=>by rw[e,qg n1,qd]at fed;cases fed
   rw[qg n2,qg n3]at fed;refine⟨_,rfl,x,_,dx,_,rfl,(by rw[qg n2.symm,qd]),T.cl_Log,T.n_Log_entries,(Nat.le_of_ble_eq_true rfl),?_⟩;refine⟨qk (Nat.le_of_ble_eq_true rfl),fun bl fbl=>?_⟩;have n4:bl≠x:=fun e=>by rw[e,qd]at fbl;cases fbl
   have n5:bl≠ed:=fun e=>by rw[e,qg n2,qd]at fbl;cases fbl
   have n6:bl≠td:=fun e=>by rw[e,qg n1,qg n3.symm,qg n1,qd]at fbl;cases fbl
   rw[qg n4,qg n5,qg n4,qg n6]at fbl;refine⟨_,rfl,x,_,dx,_,rfl,(by rw[qg n4.symm,qd]),T.cl_Log,T.n_Log_bound,(Nat.le_of_ble_eq_true rfl),?_⟩;refine kk td ed bl _ (fun b o e nb=>?_) ftd fed fbl ⟨⟨dx,?_⟩,?_,?_,?_,n3.symm,List.nodup_nil,List.nodup_nil⟩
   · rw[qg nb,qg (qi e fbl),qg nb,qg (qi e fed),qg nb,qg (qi e ftd)];exact e
   · rw[qd];rfl
   · rw[qg n1,qg n6.symm,qg n1,qg n3.symm,qg n1,qd];rfl
   · rw[qg n2,qg n5.symm,qg n2,qd];rfl
   · rw[qg n4,qd]
theorem Qx {a:Ad} (T:Txt K mg a):qu P w K mg base CX0 1 a.f_f a.fd_f ["self"] (zN a):=by
 refine T.d_f.F.ok qdg (fun vs H Q E h=>?_) (fun cdv A outer s H vs Q E hr h=>?_)
 · obtain⟨x,td,ed,bl,ps,ns,zs,rfl,hL,kk⟩:=h;rfl
 · obtain⟨x,td,ed,bl,ps,ns,zs,rfl,hL,kk⟩:=h;refine⟨_,(qe (qy (ZI (r:=qiv) (qfl rfl) (by rfl) T.n_list zI (qa (qZ (pv 0) rfl) qb)))),?_⟩;(try dsimp only [zf,Cx.nox]);obtain⟨dx,hx⟩:=hL.hx;refine⟨_,rfl,x,_,dx,_,_,rfl,hx,T.cl_Log,T.n_Log_entries,rfl,ed,_,rfl,.inl hL.he,fun l fl=>?_⟩
   have e:((skv ns).map fun p=>kV p.1)=(ns.map (·.1)).map V.str:=by
     unfold skv;rw[List.map_map,List.map_map];rfl
   rw[e];exact kk l fl
theorem ZM {a:Ad} (T:Txt K mg a):qu P w K mg base CX0 1 a.f_j a.fd_j ["self"] (Qs a):=by
 refine T.d_j.F.ok qdj (fun vs H Q E h=>?_) (fun cdv A outer s H vs Q E hr h=>?_)
 · obtain⟨x,td,ed,bl,ps,ns,zs,rfl,hL,kk⟩:=h;rfl
 · obtain⟨x,td,ed,bl,ps,ns,zs,rfl,hL,kk⟩:=h;refine⟨_,(qe (qy (ZI (r:=qlq K) ZT (by rfl) T.n_list zI (qa (qZ (pv 0) rfl) qb)))),?_⟩;(try dsimp only [zf,Cx.nox]);obtain⟨dx,hx⟩:=hL.hx;exact⟨_,rfl,x,_,dx,_,_,rfl,hx,T.cl_Log,T.n_Log_bound,rfl,bl,zs,rfl,.inl (SqL.of hL.hb),fun l fl=>kk l fl⟩
theorem QY {a:Ad} (T:Txt K mg a):qu P w K mg base CX0 1 a.f_k a.fd_k ["self"] (zT a):=by
 refine T.d_k.F.ok qcx (fun vs H Q E h=>?_) (fun cdv A outer s H vs Q E hr h=>?_)
 · obtain⟨x,td,ed,bl,ps,ns,zs,rfl,hL,few,kk⟩:=h;rfl
 · obtain⟨x,td,ed,bl,ps,ns,zs,rfl,hL,few,kk⟩:=h;refine⟨_,(qe (qy (qp (r:=qis) (qfk rfl) (by rfl) T.n_sorted J9 (qa (qZ (pv 0) rfl) qb)))),?_⟩;(try dsimp only [zf,Cx.nox]);obtain⟨dx,hx⟩:=hL.hx;exact⟨_,rfl,x,_,dx,_,_,rfl,hx,T.cl_Log,T.n_Log_tables,rfl,td,ps,rfl,.inl hL.ht,(by omega),fun l ss fl pm so=>kk l ss fl pm so⟩
theorem zy {a:Ad} (T:Txt K mg a):qu P w K mg base (CX1 P w) 5 a.f_i a.fd_i ["self","name"] (zl a):=by
 have G_u:=qdz (P:=P) (w:=w) (base:=base) T;have G_H:=ZL (P:=P) (w:=w) (base:=base) T;refine T.d_i.F.okX jZ (fun vs H Q E h=>?_) (fun cdv A outer s H vs Q E hr h=>?_)
 · obtain⟨x,td,ed,bl,ps,ns,zs,v,rfl,hL,kk⟩:=h;rfl
 · obtain⟨x,td,ed,bl,ps,ns,zs,v,rfl,hL,kk⟩:=h;have h_u:Room (1) _:=hr.mono (by decide);have h_H:Room (3+1) _:=hr.mono (by decide)
   refine⟨_,(qe (qM (qV (qP (ql G_u h_u rfl T.d_u.m T.d_u.k T.d_u.b .nil qq (qa (pv 1) (qa (qZ (pv 0) rfl) qb)))))
       (qe (zq throws_cx rfl (zr T.X_NoEntry G_H h_H rfl T.g_NoEntry T.d_H.b (qa (pv 1) qb))))
       qv)),?_⟩
   try dsimp only [zf,Cx.nox]
   obtain⟨dx,hx⟩:=hL.hx;rcases kk with ⟨e,me,rfl,kk⟩|⟨ty,un,kz⟩
   · exact⟨_,rfl,_,rfl,x,_,dx,_,_,rfl,hx,T.cl_Log,T.n_Log_entries,rfl,_,ed,ns,rfl,hL.he,hL.nde,.inl ⟨e,me,rfl,true,rfl,qN rfl kk⟩⟩
   · refine⟨_,rfl,_,rfl,x,_,dx,_,_,rfl,hx,T.cl_Log,T.n_Log_entries,rfl,_,ed,ns,rfl,hL.he,hL.nde,.inr ⟨ty,un,false,rfl,zU rfl ?_⟩⟩;refine⟨_,rfl,Nat.le_of_ble_eq_true rfl,fun ea fea=>⟨ea,_,rfl,qd,fun dx' fdx ne=>?_⟩⟩;rw[qg ne]at fdx;exact⟨rfl,ea,_,_,rfl,T.X_NoEntry.c.xi,(qg (Ne.symm ne)).trans qd,Rz.sure (kz) fea fdx ne⟩
theorem Jx {a:Ad} (T:Txt K mg a):qu P w K mg base (CX1 P w) 5 a.f_ae a.fd_ae ["self","number"] (QK a):=by
 have G_e:=Qi (P:=P) (w:=w) (base:=base) T;have G_ah:=qbJ (P:=P) (w:=w) (base:=base) T;refine T.d_ae.F.okX Jr (fun vs H Q E h=>?_) (fun cdv A outer s H vs Q E hr h=>?_)
 · obtain⟨x,td,ed,bl,ps,ns,zs,v,rfl,hL,ty,kk⟩:=h;rfl
 · obtain⟨x,td,ed,bl,ps,ns,zs,v,rfl,hL,ty,kk⟩:=h;have h_e:Room (2) _:=hr.mono (by decide);have h_ah:Room (3+1) _:=hr.mono (by decide)
   refine⟨_,(qe (qM (qV (qP (ql G_e h_e rfl T.d_e.m T.d_e.k T.d_e.b .nil qq (qa (pv 1) (qa qf (qa (qH Jc (qp qR (by rfl) T.n_len qE (qa (qZ (pv 0) rfl) qb)) qf) qb))))))
       (qe (zq throws_cx rfl (zr T.X_NoBond G_ah h_ah rfl T.g_NoBond T.d_ah.b (qa (pv 1) qb))))
       qv)),?_⟩
   try dsimp only [zf,Cx.nox]
   obtain⟨dx,hx⟩:=hL.hx;refine⟨_,rfl,_,rfl,x,_,dx,_,_,rfl,hx,T.cl_Log,T.n_Log_bound,rfl,_,_,rfl,.inl ⟨_,SqL.of hL.hb,rfl⟩,_,_,rfl,rfl,v,0,_,rfl,ty,_,rfl,?_⟩;rcases kk with ⟨ok,kk⟩|⟨no,kz⟩
   · rw[ok];exact qN rfl kk
   · rw[no];refine zU rfl ?_;refine⟨_,rfl,Nat.le_of_ble_eq_true rfl,fun ea fea=>⟨ea,_,rfl,qd,fun dx' fdx ne=>?_⟩⟩;rw[qg ne]at fdx;exact⟨rfl,ea,_,_,rfl,T.X_NoBond.c.xi,(qg (Ne.symm ne)).trans qd,Rz.sure (kz) fea fdx ne⟩
theorem J6 {a:Ad} (T:Txt K mg a):qu P w K mg base (CX1 P w) 6 a.f_r a.fd_r ["self","name"] (Zv a):=by
 have G_i:=zy (P:=P) (w:=w) (base:=base) T;refine T.d_r.F.okX qdh (fun vs H Q E h=>?_) (fun cdv A outer s H vs Q E hr h=>?_)
 · obtain⟨x,td,ed,bl,ps,ns,zs,v,rfl,hL,kk⟩:=h;rfl
 · obtain⟨x,td,ed,bl,ps,ns,zs,v,rfl,hL,kk⟩:=h;have hu:=qG hr;have h_i:Room (5) _:=hr.mono (by decide)
   refine⟨_,(qc (qx (q9 (pv 0) T.cl_Log T.d_i.mt G_i h_i T.d_i.b .nil throws_cx.passes (qa (pv 1) qb)))
     (qe (qy (qgb hu (qZ (pv 0) rfl) (pv 1) (fun _ _=>rfl))))),?_⟩
   try dsimp only [zf,Cx.nox]
   obtain⟨dx,hx⟩:=hL.hx;rcases kk with ⟨e,me,rfl,kk⟩|⟨ty,un,kz⟩
   · refine⟨_,rfl,x,dx,_,rfl,hx,rfl,_,rfl,x,td,ed,bl,ps,ns,zs,_,rfl,hL,.inl ⟨e,me,rfl,?_⟩⟩;exact⟨_,rfl,x,_,dx,_,_,rfl,hx,T.cl_Log,T.n_Log_entries,rfl,_,rfl,ed,_,rfl,hL.eget me,kk⟩
   · exact⟨_,rfl,x,dx,_,rfl,hx,rfl,_,rfl,x,td,ed,bl,ps,ns,zs,_,rfl,hL,.inr ⟨ty,un,kz⟩⟩
theorem J1 {a:Ad} (T:Txt K mg a):qu P w K mg base (CX1 P w) 7 a.f_E a.fd_E ["self","name"] (Zs a):=by
 have G_8:=qbN (P:=P) (w:=w) (base:=base) T;have G_9:=qa3 (P:=P) (w:=w) (base:=base) T;have G_r:=J6 (P:=P) (w:=w) (base:=base) T;refine T.d_E.F.okX qdf (fun vs H Q E h=>?_) (fun cdv A outer s H vs Q E hr h=>?_)
 · obtain⟨x,td,ed,bl,ps,ns,zs,v,rfl,hL,kk⟩:=h;rfl
 · obtain⟨x,td,ed,bl,ps,ns,zs,v,rfl,hL,kk⟩:=h;have h_8:Room (1) _:=hr.mono (by decide);have h_9:Room (5) _:=hr.mono (by decide);have h_r:Room (6) _:=hr.mono (by decide);refine⟨_,(qe (qy (PE.or (q9 (q9 (pv 0) T.cl_Log T.d_r.mt G_r h_r T.d_r.b .nil throws_cx.passes (qa (pv 1) qb)) T.cl_Entry T.d_8.mt G_8 h_8 T.d_8.b .nil qq (qa (qZ (pv 0) rfl) qb)) (q9 (q9 (pv 0) T.cl_Log T.d_r.mt G_r h_r T.d_r.b .nil throws_cx.passes (qa (pv 1) qb)) T.cl_At T.i_At_spans G_9 h_9 T.d_9.b .nil qq (qa (qZ (pv 0) rfl) qb))))),?_⟩;(try dsimp only [zf,Cx.nox]);obtain⟨dx,hx⟩:=hL.hx;rcases kk with ⟨nm,y,w,me,rfl,ek,kk⟩|⟨ty,un,kz⟩
   · cases ek with
     | @at_ dy _ m hy =>
       refine .inr ⟨_,rfl,x,dx,_,rfl,hx,rfl,_,rfl,x,td,ed,bl,ps,ns,zs,_,rfl,hL,.inl ⟨(nm,.ref y),me,rfl,?_⟩⟩;refine⟨y,dy,_,rfl,hy,rfl,_,rfl,x,_,dx,_,_,rfl,hx,T.cl_Log,T.n_Log_tables,rfl,y,_,dy,nm,m,m,_,rfl,hy,T.cl_At,T.n_At_low,T.n_At_high,fun d r H' fd S R can _ mem=>?_⟩;have e:r=[(m,m)]:=qdL can ⟨fun w mw=>by rw[List.mem_singleton.mp mw];exact Int.le_refl _,List.pairwise_singleton _ _⟩ mem;subst e;exact kk d H' fd S R
     | @any dy _ hy =>
       refine .inl ⟨_,rfl,x,dx,_,rfl,hx,rfl,_,rfl,x,td,ed,bl,ps,ns,zs,_,rfl,hL,.inl ⟨(nm,.ref y),me,rfl,?_⟩⟩;exact⟨y,dy,_,rfl,hy,rfl,_,rfl,x,_,dx,_,_,rfl,hx,T.cl_Log,T.n_Log_tables,rfl,_,_,rfl,fun d H' fd S R=>kk d H' fd S R⟩
   · exact .inl ⟨_,rfl,x,dx,_,rfl,hx,rfl,_,rfl,x,td,ed,bl,ps,ns,zs,_,rfl,hL,.inr ⟨ty,un,kz⟩⟩
theorem qdB {a:Ad} (T:Txt K mg a):qu P w K mg base (CX1 P w) 5 a.f_af a.fd_af ["self","place"] (JH a):=by
 have G_u:=qdz (P:=P) (w:=w) (base:=base) T;have G_I:=ZK (P:=P) (w:=w) (base:=base) T;refine T.d_af.F.okX qde (fun vs H Q E h=>?_) (fun cdv A outer s H vs Q E hr h=>?_)
 · obtain⟨x,td,ed,bl,ps,ns,zs,v,rfl,hL,ty,un,kz⟩:=h;rfl
 · obtain⟨x,td,ed,bl,ps,ns,zs,v,rfl,hL,ty,un,kz⟩:=h;have hu:=qG hr;have h_u:Room (1) _:=hr.mono (by decide);have h_I:Room (3+1) _:=hr.mono (by decide)
   refine⟨_,(qc (qM (qV (qP (ql G_u h_u rfl T.d_u.m T.d_u.k T.d_u.b .nil qq (qa (pv 1) (qa (qZ (pv 0) rfl) qb)))))
       (qe (zq throws_cx rfl (zr T.X_NoPlace G_I h_I rfl T.g_NoPlace T.d_I.b (qa (pv 1) qb))))
       qv)
     (qe (qy (qgb hu (qZ (pv 0) rfl) (pv 1) (fun _ _=>rfl))))),?_⟩
   try dsimp only [zf,Cx.nox]
   obtain⟨dx,hx⟩:=hL.hx;refine⟨_,rfl,_,rfl,x,_,dx,_,_,rfl,hx,T.cl_Log,T.n_Log_tables,rfl,_,td,ps,rfl,hL.ht,hL.ndt,.inr ⟨ty,un,false,rfl,zU rfl ?_⟩⟩;refine⟨_,rfl,Nat.le_of_ble_eq_true rfl,fun ea fea=>⟨ea,_,rfl,qd,fun dx' fdx ne=>?_⟩⟩;rw[qg ne]at fdx;exact⟨rfl,ea,_,_,rfl,T.X_NoPlace.c.xi,(qg (Ne.symm ne)).trans qd,Rz.sure (kz) fea fdx ne⟩
theorem qa5 {a:Ad} (T:Txt K mg a):qu P w K mg base (CX1 P w) 5 a.f_ag a.fd_ag ["self","moment"] (Zt a):=by
 have G_l:=ZJ (P:=P) (w:=w) (base:=base) T;have G_aj:=qaj (P:=P) (w:=w) (base:=base) T;refine T.d_ag.F.okX qaK (fun vs H Q E h=>?_) (fun cdv A outer s H vs Q E hr h=>?_)
 · obtain⟨x,td,ed,bl,ps,ns,zs,v,rfl,hL,ty,no,kz⟩:=h;rfl
 · obtain⟨x,td,ed,bl,ps,ns,zs,v,rfl,hL,ty,no,kz⟩:=h;have h_l:Room (3) _:=hr.mono (by decide);have h_aj:Room (3+1) _:=hr.mono (by decide)
   refine⟨_,(qc (qM (qV (qP (ql G_l h_l rfl T.d_l.m T.d_l.k T.d_l.b .nil qq (qa (pv 1) qb))))
       (qe (zq throws_cx rfl (zr T.X_NoMoment G_aj h_aj rfl T.g_NoMoment T.d_aj.b (qa (pv 1) qb))))
       qv)
     (qc zd
     (qc zd
     (qe zd)))),?_⟩
   try dsimp only [zf,Cx.nox]
   refine⟨_,rfl,v,rfl,ty,_,rfl,?_⟩;rw[no];refine zU rfl ?_;refine⟨_,rfl,Nat.le_of_ble_eq_true rfl,fun ea fea=>⟨ea,_,rfl,qd,fun dx' fdx ne=>?_⟩⟩;rw[qg ne]at fdx;exact⟨rfl,ea,_,_,rfl,T.X_NoMoment.c.xi,(qg (Ne.symm ne)).trans qd,Rz.sure (kz) fea fdx ne⟩
end
theorem qkA {H:Hp}{a b:Addr}{o:HO} (h:upd H a o b=none):H b=none:=by
 by_cases e:b=a
 · subst e;rw[qd]at h;cases h
 · rw[qg e]at h;exact h
theorem qav {α:Type}{p:α->Bool}{l:List α}{i:Nat}{x:α} (h:l[i]?=some x):(l.take (i+1)).filter p=(l.take i).filter p++(if p x=true then [x] else []):=by
 rw[List.take_add_one,h,List.filter_append];congr 1;by_cases c:p x=true
 · simp[c]
 · simp[c]
theorem TupL.putD {β:Type}{f:β->List V}{H:Hp}{d:Addr}{kvs:List (Key×V)}{zs:List V}{ps:List β} (h:TupL f H zs ps) (e:H d=some (.dK kvs)) (o:HO):TupL f (upd H d o) zs ps:=⟨h.1,fun j z y e1 e2=>by
 obtain⟨t,et,ht⟩:=h.2 j z y e1 e2
 exact⟨t,et,by rw[qg (qX ht e (by intro z;cases z))];exact ht⟩⟩
theorem qh9 (ns:List (Str×V)) (s:Str):qed (skv ns) (.inr s)=skv (ns.filter fun n=>decide (n.1≠s)):=by
 unfold qed skv;rw[List.filter_map];congr 1;refine List.filter_congr fun t _=>?_;show decide (¬ (Sum.inr t.1=(Sum.inr s:Key)))=decide (¬ t.1=s);exact decide_eq_decide.mpr ⟨fun h z=>h (by rw[z]),fun h z=>h (by injection z)⟩
theorem Jm (x y:Str):decide (V.str x=V.str y)=decide (x=y):=decide_eq_decide.mpr ⟨fun z=>by injection z,fun z=>by rw[z]⟩
section
variable {a:Ad}{H:Hp}{x td ed bl:Addr}{ps ns:List (Str×V)}{zs:List V}
theorem Lo.pe (h:Lo a H x td ed bl ps ns zs) (ns':List (Str×V)) (nd:(ns'.map (·.1)).Nodup):Lo a (upd H ed (.dK (skv ns'))) x td ed bl ps ns' zs :=
 ⟨let ⟨dx,e⟩:=h.hx;⟨dx,by rw[qg (qX e h.he (by intro z;cases z))];exact e⟩,by rw[qg h.ne];exact h.ht,qd,by rw[qg (qX h.hb h.he (by intro z;cases z))];exact h.hb,h.ne,h.ndt,nd⟩
theorem Lo.pt (h:Lo a H x td ed bl ps ns zs) (ps':List (Str×V)) (nd:(ps'.map (·.1)).Nodup):Lo a (upd H td (.dK (skv ps'))) x td ed bl ps' ns zs :=
 ⟨let ⟨dx,e⟩:=h.hx;⟨dx,by rw[qg (qX e h.ht (by intro z;cases z))];exact e⟩,qd,by rw[qg h.ne.symm];exact h.he,by rw[qg (qX h.hb h.ht (by intro z;cases z))];exact h.hb,h.ne,nd,h.nde⟩
theorem Lo.pb (h:Lo a H x td ed bl ps ns zs) (zs':List V):Lo a (upd H bl (.lst zs')) x td ed bl ps ns zs' :=
 ⟨let ⟨dx,e⟩:=h.hx;⟨dx,by rw[qg (qX e h.hb (by intro z;cases z))];exact e⟩,by rw[qg (qX h.ht h.hb (by intro z;cases z))];exact h.ht,by rw[qg (qX h.he h.hb (by intro z;cases z))];exact h.he,qd,h.ne,h.ndt,h.nde⟩
end
theorem QW (ps:List (Str×V)):(skv ps).length=ps.length:=by unfold skv;rw[List.length_map]
theorem qdS {n:Nat} (h:n≤100):n < sizeLine:=zc (by omega)
section
variable {P:Program}{w:World}{K:Frag}{mg:Str->Option Value}{base:Heap}
theorem J7 {a:Ad} (T:Txt K mg a):qu P w K mg base (CX1 P w) 5 a.f_z a.fd_z ["self","place","table"] (Zw a):=by
 have G_s:=qb9 (P:=P) (w:=w) (base:=base) T;have G_ak:=qbI (P:=P) (w:=w) (base:=base) T;have G_p:=Qj (P:=P) (w:=w) (base:=base) T;refine T.d_z.F.okX qdi (fun vs H Q E h=>?_) (fun cdv A outer s H vs Q E hr h=>?_)
 · obtain⟨x,td,ed,bl,ps,ns,zs,v,w,rfl,hL,th,kk⟩:=h;rfl
 · obtain⟨x,td,ed,bl,ps,ns,zs,v,w,rfl,hL,th,kk⟩:=h;have hu:=qG hr;have h_s:Room (1) _:=hr.mono (by decide);have h_ak:Room (3+1) _:=hr.mono (by decide);have h_p:Room (3+1) _:=hr.mono (by decide);obtain⟨t_MOST_PLACES,c_MOST_PLACES⟩:=T.g_MOST_PLACES
   refine⟨_,(qc (qM (qV (qP (ql G_s h_s rfl T.d_s.m T.d_s.k T.d_s.b .nil qq (qa (pv 1) qb))))
       (qe (zq throws_cx rfl (zr T.X_NoName G_ak h_ak rfl T.g_NoName T.d_ak.b (qa (pv 1) qb))))
       qv)
     (qc (qM (PW.pt (qdq (qB (qdv hu) (pv 1) (qZ (pv 0) rfl) (by with_unfolding_all rfl)) (qaY (qB qjm (qp Jj (by rfl) T.n_len qE (qa (qZ (pv 0) rfl) qb)) (qI (v:=.int 6) rfl c_MOST_PLACES ⟨_,rfl⟩) (qJ _)))))
       (qe (zq throws_cx rfl (zr T.X_TooMany G_p h_p rfl T.g_TooMany T.d_p.b (qa (qH qab (qp Jj (by rfl) T.n_len qE (qa (qZ (pv 0) rfl) qb)) qf) qb))))
       qv)
     (qe (qf5 hu (qZ (pv 0) rfl) (pv 1) (pv 2) rfl)))),?_⟩
   try dsimp only [zf,Cx.nox]
   refine⟨_,rfl,v,rfl,th,fun H1 S1=>⟨_,rfl,?_⟩⟩;have hL1:=hL.sm S1;obtain⟨dx,hx⟩:=hL1.hx;rcases kk with ⟨pl,rfl,ok,no,few,kk⟩|⟨pl,ps',rfl,ok,yes,few,ep,ek,kk⟩|⟨no,kz⟩|⟨pl,rfl,ok,no,six,kz⟩
   · rw[ok];refine qN rfl ?_;have dg:qfp H1 td (.str pl) none:=.inl ⟨_,.inr pl,.inl hL1.ht,rfl,(qaE no).symm⟩;refine⟨_,rfl,_,rfl,x,_,dx,_,_,rfl,hx,T.cl_Log,T.n_Log_tables,rfl,td,_,rfl,dg,_,rfl,zU rfl ?_⟩;refine⟨_,rfl,x,_,dx,_,_,rfl,hx,T.cl_Log,T.n_Log_tables,rfl,td,_,rfl,hL1.ht,_,_,rfl,rfl,_,rfl,zg (fun g=>absurd g ?_) (fun _=>?_)⟩
     · rw[QW];omega
     refine⟨_,rfl,_,rfl,x,_,dx,_,_,rfl,hx,T.cl_Log,T.n_Log_tables,rfl,_,rfl,td,_,rfl,DPut.k (k:=.inr pl) hL1.ht (by rw[QW];exact qdS (by omega)),?_⟩;rw[qfS no];exact kk _ (fun b o e nb=>by rw[qg nb];exact S1 b o e) (hL1.pt _ (qgm hL1.ndt no))
   · rw[ok];refine qN rfl ?_;obtain⟨e,me,ee⟩:=List.mem_map.mp yes;have ee:e.1=pl:=ee;subst ee;refine⟨_,rfl,_,rfl,x,_,dx,_,_,rfl,hx,T.cl_Log,T.n_Log_tables,rfl,td,_,rfl,hL1.tget me,_,rfl,qN rfl (qN rfl ?_)⟩;refine⟨_,rfl,_,rfl,x,_,dx,_,_,rfl,hx,T.cl_Log,T.n_Log_tables,rfl,_,rfl,td,_,rfl,DPut.k (k:=.inr e.1) hL1.ht (by rw[QW];exact qdS (by omega)),?_⟩;rw[ep];exact kk _ (fun b o e nb=>by rw[qg nb];exact S1 b o e) (hL1.pt _ (by rw[ek];exact hL1.ndt))
   · rw[no];refine zU rfl ?_;refine⟨_,rfl,Nat.le_of_ble_eq_true rfl,fun ea fea=>⟨ea,_,rfl,qd,fun dx' fdx ne=>?_⟩⟩;rw[qg ne]at fdx;exact⟨rfl,ea,_,_,rfl,T.X_NoName.c.xi,(qg (Ne.symm ne)).trans qd,Rz.sure (kz.same S1) fea fdx ne⟩
   · rw[ok];refine qN rfl ?_;have dg:qfp H1 td (.str pl) none:=.inl ⟨_,.inr pl,.inl hL1.ht,rfl,(qaE no).symm⟩;refine⟨_,rfl,_,rfl,x,_,dx,_,_,rfl,hx,T.cl_Log,T.n_Log_tables,rfl,td,_,rfl,dg,_,rfl,zU rfl ?_⟩;refine⟨_,rfl,x,_,dx,_,_,rfl,hx,T.cl_Log,T.n_Log_tables,rfl,td,_,rfl,hL1.ht,_,_,rfl,rfl,_,rfl,zg (fun _=>?_) (fun g=>absurd ?_ g)⟩
     · refine⟨_,rfl,x,_,dx,_,_,rfl,hx,T.cl_Log,T.n_Log_tables,rfl,td,_,rfl,hL1.ht,.inl ⟨_,_,rfl,rfl,?_⟩⟩;rw[QW,six];refine⟨Nat.le_of_ble_eq_true rfl,fun ea fea=>⟨ea,_,rfl,qd,fun dx' fdx ne=>?_⟩⟩;rw[qg ne]at fdx;exact⟨rfl,ea,_,_,rfl,T.X_TooMany.c.xi,(qg (Ne.symm ne)).trans qd,Rz.sure (kz.same S1) fea fdx ne⟩
     · rw[QW];omega
theorem qa7 {a:Ad} (T:Txt K mg a):qu P w K mg base (CX1 P w) 6 a.f_B a.fd_B ["self","later","earlier","minutes"] (jF a):=by
 have G_i:=zy (P:=P) (w:=w) (base:=base) T;have G_Q:=qcE (P:=P) (w:=w) (base:=base) T;have G_ai:=Jw (P:=P) (w:=w) (base:=base) T;have G_p:=Qj (P:=P) (w:=w) (base:=base) T;refine T.d_B.F.okX qd2 (fun vs H Q E h=>?_) (fun cdv A outer s H vs Q E hr h=>?_)
 · obtain⟨x,td,ed,bl,ps,ns,zs,v1,v2,v3,rfl,hL,kk⟩:=h;rfl
 · obtain⟨x,td,ed,bl,ps,ns,zs,v1,v2,v3,rfl,hL,kk⟩:=h;have h_i:Room (5) _:=hr.mono (by decide);have h_Q:Room (3) _:=hr.mono (by decide);have h_ai:Room (3+1) _:=hr.mono (by decide);have h_p:Room (3+1) _:=hr.mono (by decide);obtain⟨t_MOST_BONDS,c_MOST_BONDS⟩:=T.g_MOST_BONDS
   refine⟨_,(qc (qx (q9 (pv 0) T.cl_Log T.d_i.mt G_i h_i T.d_i.b .nil throws_cx.passes (qa (pv 1) qb)))
     (qc (qx (q9 (pv 0) T.cl_Log T.d_i.mt G_i h_i T.d_i.b .nil throws_cx.passes (qa (pv 2) qb)))
     (qc (qM (qV (qP (ql G_Q h_Q rfl T.d_Q.m T.d_Q.k T.d_Q.b .nil qq (qa (pv 3) qb))))
       (qe (zq throws_cx rfl (zr T.X_NoMinutes G_ai h_ai rfl T.g_NoMinutes T.d_ai.b (qa (pv 3) qb))))
       qv)
     (qc (qM (qB qjm (qp qR (by rfl) T.n_len qE (qa (qZ (pv 0) rfl) qb)) (qI (v:=.int 100) rfl c_MOST_BONDS ⟨_,rfl⟩) (qJ _))
       (qe (zq throws_cx rfl (zr T.X_TooMany G_p h_p rfl T.g_TooMany T.d_p.b (qa (qH qab (qp qR (by rfl) T.n_len qE (qa (qZ (pv 0) rfl) qb)) qf) qb))))
       qv)
     (qc (qx (qe6 PySem.F.plainAttrs_list PySem.F.slot_list_append PySem.F.type_list_append ZP (qZ (pv 0) rfl) (qa (qS (qa (pv 1) (qa (pv 2) (qa (pv 3) qb)))) qb)))
     (qe (qy (qH Jc (qp qR (by rfl) T.n_len qE (qa (qZ (pv 0) rfl) qb)) qf)))))))),?_⟩
   try dsimp only [zf,Cx.nox]
   obtain⟨dx,hx⟩:=hL.hx;rcases kk with ⟨ty,un,kz⟩|⟨e,me,rfl,kk⟩
   · exact⟨_,rfl,x,dx,_,rfl,hx,rfl,_,rfl,x,td,ed,bl,ps,ns,zs,_,rfl,hL,.inr ⟨ty,un,kz⟩⟩
   refine⟨_,rfl,x,dx,_,rfl,hx,rfl,_,rfl,x,td,ed,bl,ps,ns,zs,_,rfl,hL,.inl ⟨e,me,rfl,?_⟩⟩;rcases kk with ⟨ty,un,kz⟩|⟨f,mf,rfl,ty3,kk⟩
   · exact⟨_,rfl,x,dx,_,rfl,hx,rfl,_,rfl,x,td,ed,bl,ps,ns,zs,_,rfl,hL,.inr ⟨ty,un,kz⟩⟩
   refine⟨_,rfl,x,dx,_,rfl,hx,rfl,_,rfl,x,td,ed,bl,ps,ns,zs,_,rfl,hL,.inl ⟨f,mf,rfl,?_⟩⟩;refine⟨_,rfl,v3,rfl,ty3,_,rfl,?_⟩;rcases kk with ⟨no,kz⟩|⟨m,rfl,m0,m1,kk⟩
   · rw[no];refine zU rfl ?_;refine⟨_,rfl,Nat.le_of_ble_eq_true rfl,fun ea fea=>⟨ea,_,rfl,qd,fun dx' fdx ne=>?_⟩⟩;rw[qg ne]at fdx;exact⟨rfl,ea,_,_,rfl,T.X_NoMinutes.c.xi,(qg (Ne.symm ne)).trans qd,Rz.sure (kz) fea fdx ne⟩
   rw[ZU m0 m1];refine qN rfl ?_;rcases kk with ⟨hun,kz⟩|⟨few,kk⟩
   · refine⟨_,rfl,x,_,dx,_,_,rfl,hx,T.cl_Log,T.n_Log_bound,rfl,_,_,rfl,.inl ⟨_,SqL.of hL.hb,rfl⟩,_,_,rfl,rfl,_,rfl,zg (fun _=>?_) (fun g=>absurd (by omega) g)⟩;refine⟨_,rfl,x,_,dx,_,_,rfl,hx,T.cl_Log,T.n_Log_bound,rfl,_,_,rfl,.inl ⟨_,SqL.of hL.hb,rfl⟩,.inl ⟨_,_,rfl,rfl,?_⟩⟩;rw[hun];refine⟨Nat.le_of_ble_eq_true rfl,fun ea fea=>⟨ea,_,rfl,qd,fun dx' fdx ne=>?_⟩⟩;rw[qg ne]at fdx;exact⟨rfl,ea,_,_,rfl,T.X_TooMany.c.xi,(qg (Ne.symm ne)).trans qd,Rz.sure (kz) fea fdx ne⟩
   refine⟨_,rfl,x,_,dx,_,_,rfl,hx,T.cl_Log,T.n_Log_bound,rfl,_,_,rfl,.inl ⟨_,SqL.of hL.hb,rfl⟩,_,_,rfl,rfl,_,rfl,zg (fun g=>absurd g (by omega)) (fun _=>?_)⟩;refine⟨_,rfl,x,_,dx,_,_,rfl,hx,T.cl_Log,T.n_Log_bound,rfl,.inl ⟨rfl,_,SqL.of hL.hb⟩,_,rfl,_,rfl,_,rfl,qk (Nat.le_of_ble_eq_true rfl),fun t ft=>?_⟩;generalize hG:upd H t _=G;obtain⟨SG,eG⟩:=qj hG ft;clear hG;have hLG:=hL.sm SG;refine⟨bl,_,_,rfl,rfl,hLG.hb,qdS (by omega),?_⟩;have hL2:=hLG.pb (zs++[.ref t]);have B2:But bl H (upd G bl (.lst (zs++[.ref t]))):=fun b o e nb=>by rw[qg nb];exact SG b o e
   have et:(upd G bl (.lst (zs++[.ref t]))) t=some (.tup (prB (e.1,f.1,m))):=by rw[qg (qX eG hLG.hb (by intro z;cases z))];exact eG
   generalize upd G bl (.lst (zs++[.ref t]))=G2 at hL2 B2 et ⊢;obtain⟨dx2,hx2⟩:=hL2.hx;refine⟨_,rfl,x,_,dx2,_,_,rfl,hx2,T.cl_Log,T.n_Log_bound,rfl,_,_,rfl,.inl ⟨_,SqL.of hL2.hb,rfl⟩,_,_,rfl,rfl,?_⟩;exact kk t _ _ ft B2 et hL2
theorem Jg {a:Ad} (T:Txt K mg a):qu P w K mg base (CX1 P w) 6 a.f_C a.fd_C ["self","number"] (QV a):=by
 have G_ae:=Jx (P:=P) (w:=w) (base:=base) T;refine T.d_C.F.okX qcw (fun vs H Q E h=>?_) (fun cdv A outer s H vs Q E hr h=>?_)
 · obtain⟨x,td,ed,bl,ps,ns,zs,v,rfl,hL,ty,kk⟩:=h;rfl
 · obtain⟨x,td,ed,bl,ps,ns,zs,v,rfl,hL,ty,kk⟩:=h;have h_ae:Room (5) _:=hr.mono (by decide)
   refine⟨_,(qc (qx (q9 (pv 0) T.cl_Log T.d_ae.mt G_ae h_ae T.d_ae.b .nil throws_cx.passes (qa (pv 1) qb)))
     (qe (qx (qe6 PySem.F.plainAttrs_list PySem.F.slot_list_pop PySem.F.type_list_pop qhW (qZ (pv 0) rfl) (qa (pv 1) qb))))),?_⟩
   try dsimp only [zf,Cx.nox]
   obtain⟨dx,hx⟩:=hL.hx;rcases kk with ⟨i,rfl,lt,h100,kk⟩|⟨no,kz⟩
   · refine⟨_,rfl,x,dx,_,rfl,hx,rfl,_,rfl,x,td,ed,bl,ps,ns,zs,_,rfl,hL,ty,.inl ⟨ZU (by omega) (by omega),?_⟩⟩;refine⟨_,rfl,x,_,dx,_,_,rfl,hx,T.cl_Log,T.n_Log_bound,rfl,.inl ⟨rfl,_,SqL.of hL.hb⟩,_,rfl,bl,zs,_,i,zs[i],rfl,rfl,hL.hb,(by omega),(by omega),(qec (qjx (by omega))).1,List.getElem?_eq_getElem lt,?_⟩;exact kk _ (fun b o e nb=>by rw[qg nb];exact e) (hL.pb _)
   · exact⟨_,rfl,x,dx,_,rfl,hx,rfl,_,rfl,x,td,ed,bl,ps,ns,zs,_,rfl,hL,ty,.inr ⟨no,kz⟩⟩
theorem qa6 {a:Ad} (T:Txt K mg a):qu P w K mg base (CX1 P w) 6 a.f_D a.fd_D ["self","name"] (jE a):=by
 have G_i:=zy (P:=P) (w:=w) (base:=base) T;refine T.d_D.F.okX qd1 (fun vs H Q E h=>?_) (fun cdv A outer s H vs Q E hr h=>?_)
 · obtain⟨x,td,ed,bl,ps,ns,zs,v,rfl,hL,kk⟩:=h;rfl
 · obtain⟨x,td,ed,bl,ps,ns,zs,v,rfl,hL,kk⟩:=h;have hU:=hr.units;have h_i:Room (5) _:=hr.mono (by decide);obtain⟨t_LATER,c_LATER⟩:=T.g_LATER;obtain⟨t_EARLIER,c_EARLIER⟩:=T.g_EARLIER
   refine⟨_,(qc (qx (q9 (pv 0) T.cl_Log T.d_i.mt G_i h_i T.d_i.b .nil throws_cx.passes (qa (pv 1) qb)))
     (qc (qx (qhH (qZ (pv 0) rfl) (pv 1) ⟨rfl,rfl,rfl,rfl⟩))
     (qe (Qw (pv 0) (Ju rfl (CompOk.defX ["bond","name"] [none,some 1]) (zO (qZ (pv 0) rfl)) (fun _ _ _ _ _=>(qU (i:=0) (show List.Nodup (["bond","name"]:List Str) by decide +kernel) rfl (Or.inl rfl))) (fun _ _ _ _ _=>(qaZ (PW.pt (qdq (qB (uNe hU) (pv 1) (qD (r:=rIx K) qr (pv 0) (qI (v:=.int 0) rfl c_LATER ⟨_,rfl⟩) (fun _ _=>rfl)) (qJ _)) (qaY (qB (uNe hU) (pv 1) (qD (r:=rIx K) qr (pv 0) (qI (v:=.int 1) rfl c_EARLIER ⟨_,rfl⟩) (fun _ _=>rfl)) (qJ _))))))) (fun _ _ _ _ _=>(pv 0))) rfl)))),?_⟩
   try dsimp only [zf,Cx.nox]
   obtain⟨dx,hx⟩:=hL.hx;rcases kk with ⟨e0,bs,me,rfl,tbb,h100,kk⟩|⟨ty,un,kz⟩
   case inr=>exact⟨_,rfl,x,dx,_,rfl,hx,rfl,_,rfl,x,td,ed,bl,ps,ns,zs,_,rfl,hL,.inr ⟨ty,un,kz⟩⟩
   refine⟨_,rfl,x,dx,_,rfl,hx,rfl,_,rfl,x,td,ed,bl,ps,ns,zs,_,rfl,hL,.inl ⟨e0,me,rfl,?_⟩⟩;refine⟨_,rfl,x,_,dx,_,_,rfl,hx,T.cl_Log,T.n_Log_entries,rfl,ed,rfl,.inl ⟨_,.inl hL.he⟩,_,rfl,_,.inr e0.1,_,hL.he,rfl,qaD hL.nde e0 me,?_⟩;rw[qh9];have ndf:((ns.filter fun n=>decide (n.1≠e0.1)).map (·.1)).Nodup:=List.Pairwise.sublist (List.Sublist.map _ List.filter_sublist) hL.nde;have hG:=hL.pe _ ndf;have tg:TupL prB (upd H ed (.dK (skv (ns.filter fun n=>decide (n.1≠e0.1))))) zs bs:=TupL.putD tbb hL.he _;have BG:But ed H (upd H ed (.dK (skv (ns.filter fun n=>decide (n.1≠e0.1))))):=fun b o e nb=>by rw[qg nb];exact e
   have FG:∀ b,(upd H ed (.dK (skv (ns.filter fun n=>decide (n.1≠e0.1))))) b=none->H b=none:=fun b h=>qkA h;generalize upd H ed (.dK (skv (ns.filter fun n=>decide (n.1≠e0.1))))=G at hG tg BG FG ⊢;obtain⟨dx,gx⟩:=hG.hx;refine⟨_,rfl,x,_,dx,_,_,rfl,gx,T.cl_Log,T.n_Log_bound,rfl,bl,rfl,⟨_,SqL.of hG.hb⟩,fun D fD=>?_⟩;refine ZS (K:=K) (a:=bl) (xs:=zs) (D:=D) (fun i σ H2=>∃ (c0:Option V) (ws:List V),σ=[c0,some (.str e0.1)]∧Same G H2∧H2 D=some (.lst ws)∧TupL prB H2 ws ((bs.take i).filter (nok e0.1))) ⟨none,[],rfl,Same.new _ fD,qd,.nil⟩ (fun i σ H2 _ ⟨_,_,_,S,_⟩=>SqL.of (S _ _ hG.hb)) ?_ ?_
   · rintro i z σ H2 hz ⟨c0,ws,rfl,S,hD,tw⟩;obtain⟨b,u,hb',rfl,hu'⟩:=tg.of hz;have hu2:=S _ _ hu'
     have lw:ws.length≤100:=by
       have h1:=tw.1;have h2:=List.length_filter_le (nok e0.1) (bs.take i);have h3:=tbb.1;rw[List.length_take]at h2;omega
     have tf:=qav (p:=nok e0.1) hb';refine⟨_,rfl,_,rfl,.inr (.inl ⟨u,_,_,_,rfl,rfl,SqT.of hu2,rfl,.inl ⟨rfl,_,rfl,?_⟩⟩)⟩;rw[Jm];by_cases c1:e0.1=b.1
     · refine qN (by simp[c1]) (qN rfl ?_);refine⟨_,ws,rfl,S,hD,?_⟩;rw[tf,if_neg (by simp[nok,c1]),List.append_nil];exact tw
     refine zU (by simp[c1]) ?_;refine⟨_,rfl,_,rfl,.inr (.inl ⟨u,_,_,_,rfl,rfl,SqT.of hu2,rfl,.inl ⟨rfl,_,rfl,?_⟩⟩)⟩;rw[Jm];by_cases c2:e0.1=b.2.1
     · refine qN (by simp[c2]) ?_;refine⟨_,ws,rfl,S,hD,?_⟩;rw[tf,if_neg (by simp[nok,c2]),List.append_nil];exact tw
     refine zU (by simp[c2]) ?_;refine⟨_,rfl,ws,hD,qdS lw,_,_,rfl,S.put fD _,qd,?_⟩;rw[tf,if_pos (by simp[nok,c1,c2])];exact(tw.snoc hu2).put hD
   rintro σ H2 ⟨c0,ws,rfl,S,hD,tw⟩;rw[tg.1,List.take_length]at tw;refine⟨_,rfl,x,_,dx,_,rfl,S _ _ gx,T.cl_Log,T.n_Log_bound,(Nat.le_of_ble_eq_true rfl),?_⟩;have nxt:td≠x:=qX hG.ht gx (by intro z;cases z);have nxe:ed≠x:=qX hG.he gx (by intro z;cases z);have nxD:D≠x:=qX hD (S _ _ gx) (by intro z;cases z);have ef:qds ("bound":Str) (.ref D) (fsL td ed bl)=fsL td ed D:=rfl;rw[ef];refine kk D ws _ (FG D fD) (fun b o e n1 n2=>by rw[qg n1];exact S b o (BG b o e n2)) ⟨⟨dx,qd⟩,by rw[qg nxt];exact S _ _ hG.ht,by rw[qg nxe];exact S _ _ hG.he,by rw[qg nxD];exact hD,hG.ne,hG.ndt,ndf⟩ ⟨tw.1,fun j z y e1 e2=>?_⟩;obtain⟨t,et,ht⟩:=tw.2 j z y e1 e2;exact⟨t,et,by rw[qg (qX ht (S _ _ gx) (by intro z;cases z))];exact ht⟩
end
theorem qkI {K:Frag}{D:Addr}{H:Hp}{v:V}{t:String} (d:qfq K D) (h:tyN H v=some t):kitOne K (.type t) (.ref D)=some false:=by
 have ht:=qfA h;have d1:(PySem.W.clsIn K D).isSome=true:=d.1;unfold kitOne PySem.W.kitCls;rw[if_neg (by simp)];simp only[d.2,d1,Bool.true_and,beq_self_eq_true,if_true];simp only[qcm,List.mem_cons,List.not_mem_nil,or_false]at ht;rcases ht with rfl|rfl|rfl|rfl|rfl|rfl|rfl<;>rfl
theorem qkp {K:Frag}{mg:Str->Option Value}{a:Ad} (T:Txt K mg a) {te:TE}{σ:L2.St}{H:Hp}{Q:VK}{x:Addr}{nm:Str}{ss:List Str} (hte:∀ R:V->Hp->Prop,R (.ref x) H->te σ H R) (en:Ep1 a H x nm ss) (k:∀ (l:Addr) (H':Hp),H l=none->Same H H'->H' l=some (.lst (ss.map V.str))->Q (.ref l) H') :
   Jl a.c_Entry "places" zb [] E0 te qes σ H Q∨Jl a.c_Within "places" zb [] E0 te qes σ H Q∨Jl a.c_At "places" zb [] E0 te qes σ H Q∨Jl a.c_Between "places" (qO K) [] E0 te qes σ H Q∨Jl a.c_Read "places" (qO K) [] E0 te qes σ H Q∨Jl a.c_Joint "places" (Qb a) [] E0 te qes σ H Q∨Jl a.c_Sifted "places" (zk a) [] E0 te qes σ H Q:=by
 have k0:∀ l,H l=none->Q (.ref l) (upd H l (.lst (ss.map V.str))):=fun l fl=>k l _ fl (Same.new _ fl) qd
 cases en with
 | b en =>
   cases en with
   | @within dx nm lo hi hx=>exact Or.inr <| Or.inl <| hte _ ⟨x,dx,_,rfl,hx,rfl,_,rfl,fun l fl=>k0 l fl⟩
   | @between dx nm pl lo hi hx=>exact Or.inr <| Or.inr <| Or.inr <| Or.inl <| hte _ ⟨x,dx,_,rfl,hx,rfl,x,_,dx,_,pl,rfl,hx,T.cl_Between,T.n_Between_place,rfl,fun l fl=>k0 l fl⟩
   | @read dx nm pl m hx=>exact Or.inr <| Or.inr <| Or.inr <| Or.inr <| Or.inl <| hte _ ⟨x,dx,_,rfl,hx,rfl,x,_,dx,_,pl,rfl,hx,T.cl_Read,T.n_Read_place,rfl,fun l fl=>k0 l fl⟩
   | @sift dx p dp f nm pn pl m hx hp=>exact Or.inr <| Or.inr <| Or.inr <| Or.inr <| Or.inr <| Or.inr <| hte _ ⟨x,dx,_,rfl,hx,rfl,x,dx,p,dp,f,nm,pn,pl,m,rfl,hx,hp,fun l fl=>k0 l fl⟩
 | @any dx nm hx=>exact Or.inl <| hte _ ⟨x,dx,_,rfl,hx,rfl,_,rfl,fun l fl=>k0 l fl⟩
 | @at_ dx nm m hx=>exact Or.inr <| Or.inr <| Or.inl <| hte _ ⟨x,dx,_,rfl,hx,rfl,_,rfl,fun l fl=>k0 l fl⟩
 | @jn dx l nm ps hx hl h8 hp=>exact Or.inr <| Or.inr <| Or.inr <| Or.inr <| Or.inr <| Or.inl <| hte _ ⟨x,dx,_,rfl,hx,rfl,x,dx,l,nm,ps,rfl,hx,hl,h8,hp,fun d H' fd S e=>k d H' fd S e⟩
section
variable {P:Program}{w:World}{K:Frag}{mg:Str->Option Value}{base:Heap}
theorem qca {a:Ad} (T:Txt K mg a):qu P w K mg base (CX1 P w) 5 a.f_A a.fd_A ["self","entry"] (Jo a):=by
 have G_o:=ZN (P:=P) (w:=w) (base:=base) T;have G_g:=zF (P:=P) (w:=w) (base:=base) T;have G_ab:=qa9 (P:=P) (w:=w) (base:=base) T;have G_y:=Ze (P:=P) (w:=w) (base:=base) T;have G_H:=ZL (P:=P) (w:=w) (base:=base) T;have G_al:=qcH (P:=P) (w:=w) (base:=base) T;have G_p:=Qj (P:=P) (w:=w) (base:=base) T;have G_I:=ZK (P:=P) (w:=w) (base:=base) T;refine T.d_A.F.okX sc_Log_put (fun vs H Q E h=>?_) (fun cdv A outer s H vs Q E hr h=>?_)
 · obtain⟨x,td,ed,bl,ps,ns,zs,v,rfl,hL,kk⟩:=h;rfl
 · obtain⟨x,td,ed,bl,ps,ns,zs,v,rfl,hL,kk⟩:=h;have hu:=qG hr;have h_o:Room (1) _:=hr.mono (by decide);have h_g:Room (1) _:=hr.mono (by decide);have h_ab:Room (3) _:=hr.mono (by decide);have h_y:Room (2) _:=hr.mono (by decide);have h_H:Room (3+1) _:=hr.mono (by decide);have h_al:Room (3+1) _:=hr.mono (by decide);have h_p:Room (3+1) _:=hr.mono (by decide);have h_I:Room (3+1) _:=hr.mono (by decide);obtain⟨t_MOST_ENTRIES,c_MOST_ENTRIES⟩:=T.g_MOST_ENTRIES
   refine⟨_,(qc (qM (qV (qP (qp (r:=qkl K) qas (by rfl) T.n_isinstance qm (qa (pv 1) (qa (qI (v:=.ref a.c_Entry) rfl T.g_Entry rfl) qb)))))
       (qe (zq throws_cx rfl (zr T.X_NoEntry G_H h_H rfl T.g_NoEntry T.d_H.b (qa (pv 1) qb))))
       qv)
     (qc (qM (qB (qiC hu) (qZ (pv 1) rfl) (qZ (pv 0) rfl) (by with_unfolding_all rfl))
       (qe (zq throws_cx rfl (zr T.X_Taken G_al h_al rfl T.g_Taken T.d_al.b (qa (qZ (pv 1) rfl) qb))))
       qv)
     (qc (Qe PassesOwn.leaving rfl (zO (PE.or (qK (pv 1) T.cl_Entry T.d_o.mt G_o h_o T.d_o.b .nil qq) (PE.or (qK (pv 1) T.cl_Within T.i_Within_places G_o h_o T.d_o.b .nil qq) (PE.or (qK (pv 1) T.cl_At T.i_At_places G_o h_o T.d_o.b .nil qq) (PE.or (qK (pv 1) T.cl_Between T.d_g.mt G_g h_g T.d_g.b .nil qq) (PE.or (qK (pv 1) T.cl_Read T.i_Read_places G_g h_g T.d_g.b .nil qq) (PE.or (qK (pv 1) T.cl_Joint T.d_ab.mt G_ab h_ab T.d_ab.b .nil qq) (qK (pv 1) T.cl_Sifted T.d_y.mt G_y h_y T.d_y.b .nil qq)))))))) (qU (i:=2) (sc_Log_put.nd) rfl (Or.inl rfl))
       (qe (qM (qB (qdv hu) (pv 2) (qZ (pv 0) rfl) (by with_unfolding_all rfl))
         (qe (zq throws_cx rfl (zr T.X_NoPlace G_I h_I rfl T.g_NoPlace T.d_I.b (qa (pv 2) qb))))
         qv)))
     (qc (qM (qB qjm (qp Jj (by rfl) T.n_len qE (qa (qZ (pv 0) rfl) qb)) (qI (v:=.int 60) rfl c_MOST_ENTRIES ⟨_,rfl⟩) (qJ _))
       (qe (zq throws_cx rfl (zr T.X_TooMany G_p h_p rfl T.g_TooMany T.d_p.b (qa (qH qab (qp Jj (by rfl) T.n_len qE (qa (qZ (pv 0) rfl) qb)) qf) qb))))
       qv)
     (qe (qf5 hu (qZ (pv 0) rfl) (qZ (pv 1) rfl) (pv 1) rfl)))))),?_⟩
   try dsimp only [zf,Cx.nox]
   obtain⟨dx,hx⟩:=hL.hx;rcases kk with ⟨⟨t,ht⟩,kz⟩|⟨y,nm,ss,rfl,en,kk⟩
   · refine⟨_,rfl,_,_,_,_,rfl,qem ht,qkI T.t_Entry ht,false,rfl,zU rfl ?_⟩;refine⟨_,rfl,Nat.le_of_ble_eq_true rfl,fun ea fea=>⟨ea,_,rfl,qd,fun dx' fdx ne=>?_⟩⟩;rw[qg ne]at fdx;exact⟨rfl,ea,_,_,rfl,T.X_NoEntry.c.xi,(qg (Ne.symm ne)).trans qd,Rz.sure (kz) fea fdx ne⟩
   obtain⟨C,de,fe,he,ty,hk,cle,nae,lke⟩:=qjG T en;refine⟨_,rfl,_,_,_,_,rfl,ty,hk,true,rfl,qN rfl ?_⟩;rcases kk with ⟨tk,kz⟩|⟨no,kk⟩
   · obtain⟨e,me,ee⟩:=List.mem_map.mp tk;have ee:e.1=nm:=ee;subst ee;refine⟨_,rfl,y,C,de,fe,_,rfl,he,cle,nae,lke,_,rfl,x,_,dx,_,_,rfl,hx,T.cl_Log,T.n_Log_entries,rfl,ed,_,rfl,hL.eget me,_,rfl,zU rfl ?_⟩;refine⟨_,rfl,y,C,de,fe,_,rfl,he,cle,nae,lke,Nat.le_of_ble_eq_true rfl,fun ea fea=>⟨ea,_,rfl,qd,fun dx' fdx ne=>?_⟩⟩;rw[qg ne]at fdx;exact⟨rfl,ea,_,_,rfl,T.X_Taken.c.xi,(qg (Ne.symm ne)).trans qd,Rz.sure (kz) fea fdx ne⟩
   have dg:qfp H ed (.str nm) none:=.inl ⟨_,.inr nm,.inl hL.he,rfl,(qaE no).symm⟩;refine⟨_,rfl,y,C,de,fe,_,rfl,he,cle,nae,lke,_,rfl,x,_,dx,_,_,rfl,hx,T.cl_Log,T.n_Log_entries,rfl,ed,_,rfl,dg,_,rfl,qN rfl ?_⟩;(try unfold qA);(try dsimp only);refine zp (t:=qjQ _ _ _) (fun σ' H'=>∃ s2:Option V,σ'=[some (.ref x),some (.ref y),s2]∧Same H H'∧((∀ s∈ss,s∈ps.map (·.1))∧((ns.length=60∧Rz a.c_TooMany "many" (.int 61) H E)∨(ns.length < 60∧∀ H',But ed H H'->Lo a H' x td ed bl ps (ns++[(nm,.ref y)]) zs->Q .non H')))) (fun N hN=>?_) ?_
   · refine qkp T (fun R h=>⟨_,rfl,h⟩) en fun l H1 fl S1 hl=>?_;rcases kk with ⟨us,pl,ws,es,hus,npl,kz⟩|⟨all,kk⟩
     · refine⟨l,rfl,⟨_,SqL.of hl⟩,Qy (D:={ nx:=N,rt:=Q }) (K:=K) (a:=l) (xs:=ss.map V.str) (fun j σ H'=>∃ s2:Option V,σ=[some (.ref x),some (.ref y),s2]∧H'=H1∧j≤us.length) ⟨_,rfl,rfl,Nat.zero_le _⟩ (fun j σ H' _ ⟨_,_,h,_⟩=>h▸SqL.of hl) ?_ ?_⟩
       · rintro j z σ H' hz ⟨s2,rfl,rfl,hj⟩;obtain⟨s,hs,rfl⟩:=zB hz;rw[es]at hs;have hL1:=hL.sm S1;by_cases lt:j < us.length
         · rw[List.getElem?_append_left lt]at hs;obtain⟨e,me,ee⟩:=List.mem_map.mp (hus s (List.mem_of_getElem? hs));have ee:e.1=s:=ee;subst ee;exact⟨_,rfl,_,rfl,x,_,dx,_,_,rfl,S1 _ _ hx,T.cl_Log,T.n_Log_tables,rfl,td,_,rfl,hL1.tget me,_,rfl,qN rfl ⟨_,rfl,rfl,lt⟩⟩
         · have ej:j=us.length:=by omega
           subst ej;rw[List.getElem?_append_right (Nat.le_refl _),Nat.sub_self]at hs;cases hs;have dg1:qfp H' td (.str pl) none:=.inl ⟨_,.inr pl,.inl hL1.ht,rfl,(qaE npl).symm⟩;refine⟨_,rfl,_,rfl,x,_,dx,_,_,rfl,S1 _ _ hx,T.cl_Log,T.n_Log_tables,rfl,td,_,rfl,dg1,_,rfl,zU rfl ?_⟩;refine⟨_,rfl,Nat.le_of_ble_eq_true rfl,fun ea fea=>⟨ea,_,rfl,qd,fun dx' fdx ne=>?_⟩⟩;rw[qg ne]at fdx;exact⟨rfl,ea,_,_,rfl,T.X_NoPlace.c.xi,(qg (Ne.symm ne)).trans qd,Rz.sure (kz.same S1) fea fdx ne⟩
       · rintro σ H' ⟨s2,rfl,rfl,hj⟩;rw[List.length_map,es,List.length_append,List.length_cons]at hj;omega
     · refine⟨l,rfl,⟨_,SqL.of hl⟩,Qy (D:={ nx:=N,rt:=Q }) (K:=K) (a:=l) (xs:=ss.map V.str) (fun j σ H'=>∃ s2:Option V,σ=[some (.ref x),some (.ref y),s2]∧H'=H1) ⟨_,rfl,rfl⟩ (fun j σ H' _ ⟨_,_,h⟩=>h▸SqL.of hl) ?_ ?_⟩
       · rintro j z σ H' hz ⟨s2,rfl,rfl⟩;obtain⟨s,hs,rfl⟩:=zB hz;obtain⟨e,me,ee⟩:=List.mem_map.mp (all s (List.mem_of_getElem? hs));have ee:e.1=s:=ee;subst ee;exact⟨_,rfl,_,rfl,x,_,dx,_,_,rfl,S1 _ _ hx,T.cl_Log,T.n_Log_tables,rfl,td,_,rfl,(hL.sm S1).tget me,_,rfl,qN rfl ⟨_,rfl,rfl⟩⟩
       · rintro σ H' ⟨s2,rfl,rfl⟩;exact hN _ _ ⟨s2,rfl,S1,all,kk⟩
   rintro _ H1 ⟨s2,rfl,S1,all,kk⟩;have hL1:=hL.sm S1;have hx1:=S1 _ _ hx;rcases kk with ⟨six,kz⟩|⟨few,kk⟩
   · refine⟨_,rfl,x,_,dx,_,_,rfl,hx1,T.cl_Log,T.n_Log_entries,rfl,ed,_,rfl,hL1.he,_,_,rfl,rfl,_,rfl,zg (fun _=>?_) (fun g=>absurd ?_ g)⟩
     · refine⟨_,rfl,x,_,dx,_,_,rfl,hx1,T.cl_Log,T.n_Log_entries,rfl,ed,_,rfl,hL1.he,.inl ⟨_,_,rfl,rfl,?_⟩⟩;rw[QW,six];refine⟨Nat.le_of_ble_eq_true rfl,fun ea fea=>⟨ea,_,rfl,qd,fun dx' fdx ne=>?_⟩⟩;rw[qg ne]at fdx;exact⟨rfl,ea,_,_,rfl,T.X_TooMany.c.xi,(qg (Ne.symm ne)).trans qd,Rz.sure (kz.same S1) fea fdx ne⟩
     · rw[QW];omega
   refine⟨_,rfl,x,_,dx,_,_,rfl,hx1,T.cl_Log,T.n_Log_entries,rfl,ed,_,rfl,hL1.he,_,_,rfl,rfl,_,rfl,zg (fun g=>absurd g ?_) (fun _=>?_)⟩
   · rw[QW];omega
   refine⟨_,rfl,_,rfl,x,_,dx,_,_,rfl,hx1,T.cl_Log,T.n_Log_entries,rfl,_,rfl,y,C,de,fe,_,rfl,S1 _ _ he,cle,nae,lke,ed,_,rfl,DPut.k (k:=.inr nm) hL1.he (by rw[QW];exact qdS (by omega)),?_⟩;rw[qfS no];exact kk _ (fun b o e nb=>by rw[qg nb];exact S1 b o e) (hL1.pe _ (qgm hL1.nde no))
end
inductive Wd where
 | bond_|entry_|minutes_|moment_|name_|place_|taken_|many_
def Wd.s:Wd->Str
 | .bond_=>"bond"
 | .entry_=>"entry"
 | .minutes_=>"minutes"
 | .moment_=>"moment"
 | .name_=>"name"
 | .place_=>"place"
 | .taken_=>"taken"
 | .many_=>"many"
def Wd.C (a:Ad):Wd->Addr
 | .bond_=>a.c_NoBond
 | .entry_=>a.c_NoEntry
 | .minutes_=>a.c_NoMinutes
 | .moment_=>a.c_NoMoment
 | .name_=>a.c_NoName
 | .place_=>a.c_NoPlace
 | .taken_=>a.c_Taken
 | .many_=>a.c_TooMany
def Wd.f:Wd->Str
 | .many_=>"many" | _=>"found"
inductive Rfd (a:Ad) (H:Hp) (pk nk:List Str) (nb:Nat):List V->Wd->V->Prop
 | entry {v:V}:Typed H v->Unk nk v->Rfd a H pk nk nb [.str "entry",v] .entry_ v
 | spans {v:V}:Typed H v->Unk nk v->Rfd a H pk nk nb [.str "spans",v] .entry_ v
 | drop {v:V}:Typed H v->Unk nk v->Rfd a H pk nk nb [.str "drop",v] .entry_ v
 | table {v:V}:Typed H v->Unk pk v->Rfd a H pk nk nb [.str "table",v] .place_ v
 | readings {v:V}:Typed H v->zu v 0 1000000000=false->Rfd a H pk nk nb [.str "readings",v] .moment_ v
 | unbind {v:V}:Typed H v->zu v 0 ((nb:Int) - 1)=false->Rfd a H pk nk nb [.str "unbind",v] .bond_ v
 | put1 {v:V}:Typed H v->Rfd a H pk nk nb [.str "put",v] .entry_ v
 | put2 {y:Addr}{nm:Str}{ss:List Str}:Ep1 a H y nm ss->nm∈nk->Rfd a H pk nk nb [.str "put",.ref y] .taken_ (.str nm)
 | put3 {y:Addr}{nm pl:Str}{us ws:List Str}:Ep1 a H y nm (us++pl::ws)->nm∉nk->(∀ s∈us,s∈pk)->pl∉pk->Rfd a H pk nk nb [.str "put",.ref y] .place_ (.str pl)
 | put4 {y:Addr}{nm:Str}:Ep1 a H y nm []->nm∉nk->nk.length=60->Rfd a H pk nk nb [.str "put",.ref y] .many_ (.int 61)
 | clock1 {v z:V}:Thing H v->qY v=false->Rfd a H pk nk nb [.str "clock",v,z] .name_ v
 | clock2 {pl:Str}{z:V}:qY (.str pl)=true->pl∉pk->pk.length=6->Rfd a H pk nk nb [.str "clock",.str pl,z] .many_ (.int 7)
 | bind1 {v v2 v3:V}:Typed H v->Unk nk v->Rfd a H pk nk nb [.str "bind",v,v2,v3] .entry_ v
 | bind2 {n1:Str}{v v3:V}:n1∈nk->Typed H v->Unk nk v->Rfd a H pk nk nb [.str "bind",.str n1,v,v3] .entry_ v
 | bind3 {n1 n2:Str}{v:V}:n1∈nk->n2∈nk->Typed H v->zu v (-2000000000) 2000000001=false->Rfd a H pk nk nb [.str "bind",.str n1,.str n2,v] .minutes_ v
 | bind4 {n1 n2:Str}{m:Int}:n1∈nk->n2∈nk->-2000000000≤m->m≤2000000001->nb=100->Rfd a H pk nk nb [.str "bind",.str n1,.str n2,.int m] .many_ (.int 101)
theorem Rfd.same {a:Ad}{H H':Hp}{pk nk:List Str}{nb:Nat}{dv:List V}{w:Wd}{v:V} (h:Rfd a H pk nk nb dv w v) (s:Same H H'):Rfd a H' pk nk nb dv w v:=by
 cases h with
 | entry t u=>exact .entry (t.same s) u
 | spans t u=>exact .spans (t.same s) u
 | drop t u=>exact .drop (t.same s) u
 | table t u=>exact .table (t.same s) u
 | readings t u=>exact .readings (t.same s) u
 | unbind t u=>exact .unbind (t.same s) u
 | put1 t=>exact .put1 (t.same s)
 | put2 e n=>exact .put2 (e.same s) n
 | put3 e n u p=>exact .put3 (e.same s) n u p
 | put4 e n l=>exact .put4 (e.same s) n l
 | clock1 t n=>exact .clock1 (t.same s) n
 | clock2 n p l=>exact .clock2 n p l
 | bind1 t u=>exact .bind1 (t.same s) u
 | bind2 n t u=>exact .bind2 n (t.same s) u
 | bind3 n1 n2 t u=>exact .bind3 n1 n2 (t.same s) u
 | bind4 n1 n2 h1 h2 l=>exact .bind4 n1 n2 h1 h2 l
theorem qi8:∀ {ps:List (Str×V)}{pl:Str} (w:V),pl∈ps.map (·.1)->∃ ps',qdr (skv ps) (.inr pl) w=skv ps'∧ps'.map (·.1)=ps.map (·.1):=by
 intro ps pl w h;refine⟨ps.map fun p=>if p.1=pl then (p.1,w) else p,?_,?_⟩
 · unfold qdr;rw[if_pos]
   · unfold skv;rw[List.map_map,List.map_map];refine List.map_congr_left fun p _=>?_;show (if (Sum.inr p.1:Key)=Sum.inr pl then ((Sum.inr p.1:Key),w) else ((Sum.inr p.1:Key),p.2))=((Sum.inr (if p.1=pl then (p.1,w) else p).1:Key),(if p.1=pl then (p.1,w) else p).2);by_cases e:p.1=pl
     · rw[if_pos (by rw[e]),if_pos e]
     · rw[if_neg (fun z=>e (by injection z)),if_neg e]
   · obtain⟨p,m,e⟩:=List.mem_map.mp h;refine List.any_eq_true.mpr ⟨((Sum.inr p.1:Key),p.2),List.mem_map.mpr ⟨p,m,rfl⟩,decide_eq_true ?_⟩;show (Sum.inr p.1:Key)=Sum.inr pl;rw[show p.1=pl from e]
 · rw[List.map_map];refine List.map_congr_left fun p _=>?_;show (if p.1=pl then (p.1,w) else p).1=p.1;split<;>rfl
theorem qjB {n:Int} (h1:-2880≤n) (h2:n≤2880):Good [(0,n)]:=⟨Nat.le_of_ble_eq_true rfl,⟨n,rfl⟩,List.pairwise_singleton _ _,fun r m=>by rw[List.mem_singleton.mp m];exact⟨Int.le_refl _,(by decide:(0:Int)≤1000000000),h1,h2⟩⟩
theorem up2 {H:Hp}{x dx:Addr}{o o':HO} (f1:H x=none) (f2:H dx=none):Same H (upd (upd H dx o) x o'):=fun b u e=>by
 rw[qg (qi e f1),qg (qi e f2)];exact e
theorem jA {ns:List (Str×V)}{n:Str} (h:n∈ns.map (·.1)):∃ e∈ns,e.1=n:=by
 obtain⟨e,m,ee⟩:=List.mem_map.mp h;exact⟨e,m,ee⟩
theorem qhv {p:Addr}{H H1 H2:Hp} (s:Same H H1) (b:But p H1 H2):But p H H2:=fun c o e n=>b c o (s c o e) n
inductive qbV (a:Ad) (vs:List V) (H:Hp) (Q:VK) (E:XK):Prop
 | mk (x td ed bl:Addr) (ps ns:List (Str×V)) (zs:List V) (t:Addr) (dv:List V) (h1:vs=[.ref x,.ref t]) (h2:Lo a H x td ed bl ps ns zs) (h3:H t=some (.tup dv)) (h4:((∃ w v,Rfd a H (ps.map (·.1)) (ns.map (·.1)) zs.length dv w v∧Rz (w.C a) w.f v H E) ∨
  (∃ (pl:Str) (z:V),dv=[.str "clock",.str pl,z]∧qY (.str pl)=true∧pl∈ps.map (·.1)∧ps.length≤6∧∀ ps' H',ps'.map (·.1)=ps.map (·.1)->But td H H'->Lo a H' x td ed bl ps' ns zs->Q .non H') ∨
  (∃ (y:Addr) (nm:Str),dv=[.str "put",.ref y]∧Ep1 a H y nm []∧nm∉ns.map (·.1)∧ns.length < 60∧∀ H',But ed H H'->Lo a H' x td ed bl ps (ns++[(nm,.ref y)]) zs->Q .non H') ∨
  (∃ (n1 n2:Str) (m:Int),dv=[.str "bind",.str n1,.str n2,.int m]∧n1∈ns.map (·.1)∧n2∈ns.map (·.1)∧-2000000000≤m∧m≤2000000001∧zs.length < 100∧∀ (t:Addr) (H':Hp),H t=none->But bl H H'->H' t=some (.tup (prB (n1,n2,m)))->Lo a H' x td ed bl ps ns (zs++[.ref t])->Q .non H'))):qbV a vs H Q E
def qew (a:Ad):Sp:=fun vs H Q E=>qbV a vs H Q E
section
variable {P:Program}{w:World}{K:Frag}{mg:Str->Option Value}{base:Heap}
theorem qhN {a:Ad} (T:Txt K mg a):qu P w K mg base (CX1 P w) 8 a.f_2 a.fd_2 ["_law_log","_law_deed_here"] (qew a):=by
 have G_z:=J7 (P:=P) (w:=w) (base:=base) T;have G_G:=Jf (P:=P) (w:=w) (base:=base) T;have G_A:=qca (P:=P) (w:=w) (base:=base) T;have G_B:=qa7 (P:=P) (w:=w) (base:=base) T;have G_C:=Jg (P:=P) (w:=w) (base:=base) T;have G_D:=qa6 (P:=P) (w:=w) (base:=base) T;have G_r:=J6 (P:=P) (w:=w) (base:=base) T;have G_E:=J1 (P:=P) (w:=w) (base:=base) T;have G_af:=qdB (P:=P) (w:=w) (base:=base) T;have G_ag:=qa5 (P:=P) (w:=w) (base:=base) T;refine T.d_2.F.okX sc_Ldeed (fun vs H Q E h=>?_) (fun cdv A outer s H vs Q E hr h=>?_)
 · obtain⟨x,td,ed,bl,ps,ns,zs,t,dv,rfl,hL,ht,kk⟩:=h;rfl
 · obtain⟨x,td,ed,bl,ps,ns,zs,t,dv,rfl,hL,ht,kk⟩:=h;have hu:=qG hr;have hU:=hr.units;have h_z:Room (5) _:=hr.mono (by decide);have h_G:Room (6+1) _:=hr.mono (by decide);have h_A:Room (5) _:=hr.mono (by decide);have h_B:Room (6) _:=hr.mono (by decide);have h_C:Room (6) _:=hr.mono (by decide);have h_D:Room (6) _:=hr.mono (by decide);have h_r:Room (6) _:=hr.mono (by decide);have h_E:Room (7) _:=hr.mono (by decide);have h_af:Room (5) _:=hr.mono (by decide);have h_ag:Room (5) _:=hr.mono (by decide)
   refine⟨_,(qc (qC (i:=2) sc_Ldeed.nd rfl (Or.inl rfl) (qD (r:=rIx K) qr (pv 1) qf (fun _ _=>rfl)))
     (qe (qM (qB (uEq hU) (pv 2) qt (qJ _))
       (qe (qx (q9 (pv 0) T.cl_Log T.d_z.mt G_z h_z T.d_z.b .nil throws_cx.passes (qa (qD (r:=rIx K) qr (pv 1) qf (fun _ _=>rfl)) (qa (zt T.M_Table G_G h_G rfl T.g_Table T.d_G.b .nil qq (qa (qQ (qa (qS (qa qf (qa qf qb))) qb)) qb)) qb)))))
       (qe (qM (qB (uEq hU) (pv 2) qt (qJ _))
         (qe (qx (q9 (pv 0) T.cl_Log T.d_A.mt G_A h_A T.d_A.b .nil throws_cx.passes (qa (qD (r:=rIx K) qr (pv 1) qf (fun _ _=>rfl)) qb))))
         (qe (qM (qB (uEq hU) (pv 2) qt (qJ _))
           (qe (qx (q9 (pv 0) T.cl_Log T.d_B.mt G_B h_B T.d_B.b .nil throws_cx.passes (qa (qD (r:=rIx K) qr (pv 1) qf (fun _ _=>rfl)) (qa (qD (r:=rIx K) qr (pv 1) qf (fun _ _=>rfl)) (qa (qD (r:=rIx K) qr (pv 1) qf (fun _ _=>rfl)) qb))))))
           (qe (qM (qB (uEq hU) (pv 2) qt (qJ _))
             (qe (qx (q9 (pv 0) T.cl_Log T.d_C.mt G_C h_C T.d_C.b .nil throws_cx.passes (qa (qD (r:=rIx K) qr (pv 1) qf (fun _ _=>rfl)) qb))))
             (qe (qM (qB (uEq hU) (pv 2) qt (qJ _))
               (qe (qx (q9 (pv 0) T.cl_Log T.d_D.mt G_D h_D T.d_D.b .nil throws_cx.passes (qa (qD (r:=rIx K) qr (pv 1) qf (fun _ _=>rfl)) qb))))
               (qe (qM (qB (uEq hU) (pv 2) qt (qJ _))
                 (qe (qx (q9 (pv 0) T.cl_Log T.d_r.mt G_r h_r T.d_r.b .nil throws_cx.passes (qa (qD (r:=rIx K) qr (pv 1) qf (fun _ _=>rfl)) qb))))
                 (qe (qM (qB (uEq hU) (pv 2) qt (qJ _))
                   (qe (qx (q9 (pv 0) T.cl_Log T.d_E.mt G_E h_E T.d_E.b .nil throws_cx.passes (qa (qD (r:=rIx K) qr (pv 1) qf (fun _ _=>rfl)) qb))))
                   (qe (qM (qB (uEq hU) (pv 2) qt (qJ _))
                     (qe (qx (q9 (pv 0) T.cl_Log T.d_af.mt G_af h_af T.d_af.b .nil throws_cx.passes (qa (qD (r:=rIx K) qr (pv 1) qf (fun _ _=>rfl)) qb))))
                     (qe (qx (q9 (pv 0) T.cl_Log T.d_ag.mt G_ag h_ag T.d_ag.b .nil throws_cx.passes (qa (qD (r:=rIx K) qr (pv 1) qf (fun _ _=>rfl)) qb))))))))))))))))))))),?_⟩
   try dsimp only [zf,Cx.nox]
   obtain⟨dx,hx⟩:=hL.hx;rcases kk with ⟨w,v,rf,kz⟩|⟨pl,z,rfl,ok,mp,few,kk⟩|⟨y,nm,rfl,en,nn,few,kk⟩|⟨n1,n2,m,rfl,m1,m2,h1,h2,few,kk⟩
   · cases rf with
     | entry ty un =>
       refine⟨_,rfl,.inr (.inl ⟨t,_,_,_,rfl,rfl,SqT.of ht,rfl,?_⟩)⟩;(try unfold qA);(try dsimp only);refine⟨_,rfl,.inl ⟨rfl,_,rfl,zg (fun g=>absurd g (by decide)) (fun _=>?_)⟩⟩;refine⟨_,rfl,.inl ⟨rfl,_,rfl,zg (fun g=>absurd g (by decide)) (fun _=>?_)⟩⟩;refine⟨_,rfl,.inl ⟨rfl,_,rfl,zg (fun g=>absurd g (by decide)) (fun _=>?_)⟩⟩;refine⟨_,rfl,.inl ⟨rfl,_,rfl,zg (fun g=>absurd g (by decide)) (fun _=>?_)⟩⟩;refine⟨_,rfl,.inl ⟨rfl,_,rfl,zg (fun g=>absurd g (by decide)) (fun _=>?_)⟩⟩;refine⟨_,rfl,.inl ⟨rfl,_,rfl,zg (fun _=>?_) (fun g=>absurd rfl g)⟩⟩;refine⟨_,rfl,x,dx,_,rfl,hx,rfl,_,rfl,.inr (.inl ⟨t,_,_,_,rfl,rfl,SqT.of ht,rfl,x,td,ed,bl,ps,ns,zs,_,rfl,hL,.inr ⟨ty,un,kz⟩⟩)⟩
     | spans ty un =>
       refine⟨_,rfl,.inr (.inl ⟨t,_,_,_,rfl,rfl,SqT.of ht,rfl,?_⟩)⟩;(try unfold qA);(try dsimp only);refine⟨_,rfl,.inl ⟨rfl,_,rfl,zg (fun g=>absurd g (by decide)) (fun _=>?_)⟩⟩;refine⟨_,rfl,.inl ⟨rfl,_,rfl,zg (fun g=>absurd g (by decide)) (fun _=>?_)⟩⟩;refine⟨_,rfl,.inl ⟨rfl,_,rfl,zg (fun g=>absurd g (by decide)) (fun _=>?_)⟩⟩;refine⟨_,rfl,.inl ⟨rfl,_,rfl,zg (fun g=>absurd g (by decide)) (fun _=>?_)⟩⟩;refine⟨_,rfl,.inl ⟨rfl,_,rfl,zg (fun g=>absurd g (by decide)) (fun _=>?_)⟩⟩;refine⟨_,rfl,.inl ⟨rfl,_,rfl,zg (fun g=>absurd g (by decide)) (fun _=>?_)⟩⟩;refine⟨_,rfl,.inl ⟨rfl,_,rfl,zg (fun _=>?_) (fun g=>absurd rfl g)⟩⟩;refine⟨_,rfl,x,dx,_,rfl,hx,rfl,_,rfl,.inr (.inl ⟨t,_,_,_,rfl,rfl,SqT.of ht,rfl,x,td,ed,bl,ps,ns,zs,_,rfl,hL,.inr ⟨ty,un,kz⟩⟩)⟩
     | drop ty un =>
       refine⟨_,rfl,.inr (.inl ⟨t,_,_,_,rfl,rfl,SqT.of ht,rfl,?_⟩)⟩;(try unfold qA);(try dsimp only);refine⟨_,rfl,.inl ⟨rfl,_,rfl,zg (fun g=>absurd g (by decide)) (fun _=>?_)⟩⟩;refine⟨_,rfl,.inl ⟨rfl,_,rfl,zg (fun g=>absurd g (by decide)) (fun _=>?_)⟩⟩;refine⟨_,rfl,.inl ⟨rfl,_,rfl,zg (fun g=>absurd g (by decide)) (fun _=>?_)⟩⟩;refine⟨_,rfl,.inl ⟨rfl,_,rfl,zg (fun g=>absurd g (by decide)) (fun _=>?_)⟩⟩;refine⟨_,rfl,.inl ⟨rfl,_,rfl,zg (fun _=>?_) (fun g=>absurd rfl g)⟩⟩;refine⟨_,rfl,x,dx,_,rfl,hx,rfl,_,rfl,.inr (.inl ⟨t,_,_,_,rfl,rfl,SqT.of ht,rfl,x,td,ed,bl,ps,ns,zs,_,rfl,hL,.inr ⟨ty,un,kz⟩⟩)⟩
     | table ty un =>
       refine⟨_,rfl,.inr (.inl ⟨t,_,_,_,rfl,rfl,SqT.of ht,rfl,?_⟩)⟩;(try unfold qA);(try dsimp only);refine⟨_,rfl,.inl ⟨rfl,_,rfl,zg (fun g=>absurd g (by decide)) (fun _=>?_)⟩⟩;refine⟨_,rfl,.inl ⟨rfl,_,rfl,zg (fun g=>absurd g (by decide)) (fun _=>?_)⟩⟩;refine⟨_,rfl,.inl ⟨rfl,_,rfl,zg (fun g=>absurd g (by decide)) (fun _=>?_)⟩⟩;refine⟨_,rfl,.inl ⟨rfl,_,rfl,zg (fun g=>absurd g (by decide)) (fun _=>?_)⟩⟩;refine⟨_,rfl,.inl ⟨rfl,_,rfl,zg (fun g=>absurd g (by decide)) (fun _=>?_)⟩⟩;refine⟨_,rfl,.inl ⟨rfl,_,rfl,zg (fun g=>absurd g (by decide)) (fun _=>?_)⟩⟩;refine⟨_,rfl,.inl ⟨rfl,_,rfl,zg (fun g=>absurd g (by decide)) (fun _=>?_)⟩⟩;refine⟨_,rfl,.inl ⟨rfl,_,rfl,zg (fun _=>?_) (fun g=>absurd rfl g)⟩⟩;refine⟨_,rfl,x,dx,_,rfl,hx,rfl,_,rfl,.inr (.inl ⟨t,_,_,_,rfl,rfl,SqT.of ht,rfl,x,td,ed,bl,ps,ns,zs,_,rfl,hL,ty,un,kz⟩)⟩
     | readings ty no =>
       refine⟨_,rfl,.inr (.inl ⟨t,_,_,_,rfl,rfl,SqT.of ht,rfl,?_⟩)⟩;(try unfold qA);(try dsimp only);refine⟨_,rfl,.inl ⟨rfl,_,rfl,zg (fun g=>absurd g (by decide)) (fun _=>?_)⟩⟩;refine⟨_,rfl,.inl ⟨rfl,_,rfl,zg (fun g=>absurd g (by decide)) (fun _=>?_)⟩⟩;refine⟨_,rfl,.inl ⟨rfl,_,rfl,zg (fun g=>absurd g (by decide)) (fun _=>?_)⟩⟩;refine⟨_,rfl,.inl ⟨rfl,_,rfl,zg (fun g=>absurd g (by decide)) (fun _=>?_)⟩⟩;refine⟨_,rfl,.inl ⟨rfl,_,rfl,zg (fun g=>absurd g (by decide)) (fun _=>?_)⟩⟩;refine⟨_,rfl,.inl ⟨rfl,_,rfl,zg (fun g=>absurd g (by decide)) (fun _=>?_)⟩⟩;refine⟨_,rfl,.inl ⟨rfl,_,rfl,zg (fun g=>absurd g (by decide)) (fun _=>?_)⟩⟩;refine⟨_,rfl,.inl ⟨rfl,_,rfl,zg (fun g=>absurd g (by decide)) (fun _=>?_)⟩⟩;refine⟨_,rfl,x,dx,_,rfl,hx,rfl,_,rfl,.inr (.inl ⟨t,_,_,_,rfl,rfl,SqT.of ht,rfl,x,td,ed,bl,ps,ns,zs,_,rfl,hL,ty,no,kz⟩)⟩
     | unbind ty no =>
       refine⟨_,rfl,.inr (.inl ⟨t,_,_,_,rfl,rfl,SqT.of ht,rfl,?_⟩)⟩;(try unfold qA);(try dsimp only);refine⟨_,rfl,.inl ⟨rfl,_,rfl,zg (fun g=>absurd g (by decide)) (fun _=>?_)⟩⟩;refine⟨_,rfl,.inl ⟨rfl,_,rfl,zg (fun g=>absurd g (by decide)) (fun _=>?_)⟩⟩;refine⟨_,rfl,.inl ⟨rfl,_,rfl,zg (fun g=>absurd g (by decide)) (fun _=>?_)⟩⟩;refine⟨_,rfl,.inl ⟨rfl,_,rfl,zg (fun _=>?_) (fun g=>absurd rfl g)⟩⟩;refine⟨_,rfl,x,dx,_,rfl,hx,rfl,_,rfl,.inr (.inl ⟨t,_,_,_,rfl,rfl,SqT.of ht,rfl,x,td,ed,bl,ps,ns,zs,_,rfl,hL,ty,.inr ⟨no,kz⟩⟩)⟩
     | put1 ty =>
       refine⟨_,rfl,.inr (.inl ⟨t,_,_,_,rfl,rfl,SqT.of ht,rfl,?_⟩)⟩;(try unfold qA);(try dsimp only);refine⟨_,rfl,.inl ⟨rfl,_,rfl,zg (fun g=>absurd g (by decide)) (fun _=>?_)⟩⟩;refine⟨_,rfl,.inl ⟨rfl,_,rfl,zg (fun _=>?_) (fun g=>absurd rfl g)⟩⟩;refine⟨_,rfl,x,dx,_,rfl,hx,rfl,_,rfl,.inr (.inl ⟨t,_,_,_,rfl,rfl,SqT.of ht,rfl,x,td,ed,bl,ps,ns,zs,_,rfl,hL,.inl ⟨ty,kz⟩⟩)⟩
     | put2 en mm =>
       refine⟨_,rfl,.inr (.inl ⟨t,_,_,_,rfl,rfl,SqT.of ht,rfl,?_⟩)⟩;(try unfold qA);(try dsimp only);refine⟨_,rfl,.inl ⟨rfl,_,rfl,zg (fun g=>absurd g (by decide)) (fun _=>?_)⟩⟩;refine⟨_,rfl,.inl ⟨rfl,_,rfl,zg (fun _=>?_) (fun g=>absurd rfl g)⟩⟩;refine⟨_,rfl,x,dx,_,rfl,hx,rfl,_,rfl,.inr (.inl ⟨t,_,_,_,rfl,rfl,SqT.of ht,rfl,x,td,ed,bl,ps,ns,zs,_,rfl,hL,.inr ⟨_,_,_,rfl,en,.inl ⟨mm,kz⟩⟩⟩)⟩
     | put3 en nn hu np =>
       refine⟨_,rfl,.inr (.inl ⟨t,_,_,_,rfl,rfl,SqT.of ht,rfl,?_⟩)⟩;(try unfold qA);(try dsimp only);refine⟨_,rfl,.inl ⟨rfl,_,rfl,zg (fun g=>absurd g (by decide)) (fun _=>?_)⟩⟩;refine⟨_,rfl,.inl ⟨rfl,_,rfl,zg (fun _=>?_) (fun g=>absurd rfl g)⟩⟩;refine⟨_,rfl,x,dx,_,rfl,hx,rfl,_,rfl,.inr (.inl ⟨t,_,_,_,rfl,rfl,SqT.of ht,rfl,x,td,ed,bl,ps,ns,zs,_,rfl,hL,.inr ⟨_,_,_,rfl,en,.inr ⟨nn,.inl ⟨_,_,_,rfl,hu,np,kz⟩⟩⟩⟩)⟩
     | put4 en nn six =>
       refine⟨_,rfl,.inr (.inl ⟨t,_,_,_,rfl,rfl,SqT.of ht,rfl,?_⟩)⟩;(try unfold qA);(try dsimp only);refine⟨_,rfl,.inl ⟨rfl,_,rfl,zg (fun g=>absurd g (by decide)) (fun _=>?_)⟩⟩;refine⟨_,rfl,.inl ⟨rfl,_,rfl,zg (fun _=>?_) (fun g=>absurd rfl g)⟩⟩;refine⟨_,rfl,x,dx,_,rfl,hx,rfl,_,rfl,.inr (.inl ⟨t,_,_,_,rfl,rfl,SqT.of ht,rfl,x,td,ed,bl,ps,ns,zs,_,rfl,hL,.inr ⟨_,_,_,rfl,en,.inr ⟨nn,.inr ⟨(fun s m=>nomatch m),.inl ⟨by rw[List.length_map]at six;exact six,kz⟩⟩⟩⟩⟩)⟩
     | clock1 th no =>
       refine⟨_,rfl,.inr (.inl ⟨t,_,_,_,rfl,rfl,SqT.of ht,rfl,?_⟩)⟩;(try unfold qA);(try dsimp only);refine⟨_,rfl,.inl ⟨rfl,_,rfl,zg (fun _=>?_) (fun g=>absurd rfl g)⟩⟩;refine⟨_,rfl,x,dx,_,rfl,hx,rfl,_,rfl,.inr (.inl ⟨t,_,_,_,rfl,rfl,SqT.of ht,rfl,qk (Nat.le_of_ble_eq_true rfl),fun t0 g0=>⟨qk (Nat.le_of_ble_eq_true rfl),fun q0 h0 y dy f1 f2 ne=>?_⟩⟩)⟩;have Sa:=Same.new (.tup [.int 0,.int 5]) g0;have Sb:=Same.new (.lst [.ref t0]) h0;refine⟨y,dy,q0,[(0,5)],rfl,qd,Rs.same (qdx (w:=(0,5)) (Sb _ _ qd) qd) (up2 f1 f2),qjB (by decide) (by decide),fun G B=>⟨rfl,?_⟩⟩;have SG:Same H G:=Sa.trans (Sb.trans (qW f1 f2 B));exact⟨x,td,ed,bl,ps,ns,zs,_,_,rfl,hL.sm SG,th.same SG,.inr (.inr (.inl ⟨no,kz.same SG⟩))⟩
     | clock2 ok np six =>
       refine⟨_,rfl,.inr (.inl ⟨t,_,_,_,rfl,rfl,SqT.of ht,rfl,?_⟩)⟩;(try unfold qA);(try dsimp only);refine⟨_,rfl,.inl ⟨rfl,_,rfl,zg (fun _=>?_) (fun g=>absurd rfl g)⟩⟩;refine⟨_,rfl,x,dx,_,rfl,hx,rfl,_,rfl,.inr (.inl ⟨t,_,_,_,rfl,rfl,SqT.of ht,rfl,qk (Nat.le_of_ble_eq_true rfl),fun t0 g0=>⟨qk (Nat.le_of_ble_eq_true rfl),fun q0 h0 y dy f1 f2 ne=>?_⟩⟩)⟩;have Sa:=Same.new (.tup [.int 0,.int 5]) g0;have Sb:=Same.new (.lst [.ref t0]) h0;refine⟨y,dy,q0,[(0,5)],rfl,qd,Rs.same (qdx (w:=(0,5)) (Sb _ _ qd) qd) (up2 f1 f2),qjB (by decide) (by decide),fun G B=>⟨rfl,?_⟩⟩;have SG:Same H G:=Sa.trans (Sb.trans (qW f1 f2 B));exact⟨x,td,ed,bl,ps,ns,zs,_,_,rfl,hL.sm SG,qao ok,.inr (.inr (.inr ⟨_,rfl,ok,np,by rw[List.length_map]at six;exact six,kz.same SG⟩))⟩
     | bind1 ty un =>
       refine⟨_,rfl,.inr (.inl ⟨t,_,_,_,rfl,rfl,SqT.of ht,rfl,?_⟩)⟩;(try unfold qA);(try dsimp only);refine⟨_,rfl,.inl ⟨rfl,_,rfl,zg (fun g=>absurd g (by decide)) (fun _=>?_)⟩⟩;refine⟨_,rfl,.inl ⟨rfl,_,rfl,zg (fun g=>absurd g (by decide)) (fun _=>?_)⟩⟩;refine⟨_,rfl,.inl ⟨rfl,_,rfl,zg (fun _=>?_) (fun g=>absurd rfl g)⟩⟩;refine⟨_,rfl,x,dx,_,rfl,hx,rfl,_,rfl,.inr (.inl ⟨t,_,_,_,rfl,rfl,SqT.of ht,rfl,_,rfl,.inr (.inl ⟨t,_,_,_,rfl,rfl,SqT.of ht,rfl,_,rfl,.inr (.inl ⟨t,_,_,_,rfl,rfl,SqT.of ht,rfl,x,td,ed,bl,ps,ns,zs,_,_,_,rfl,hL,.inl ⟨ty,un,kz⟩⟩)⟩)⟩)⟩
     | bind2 m1 ty un =>
       refine⟨_,rfl,.inr (.inl ⟨t,_,_,_,rfl,rfl,SqT.of ht,rfl,?_⟩)⟩;(try unfold qA);(try dsimp only);refine⟨_,rfl,.inl ⟨rfl,_,rfl,zg (fun g=>absurd g (by decide)) (fun _=>?_)⟩⟩;refine⟨_,rfl,.inl ⟨rfl,_,rfl,zg (fun g=>absurd g (by decide)) (fun _=>?_)⟩⟩;refine⟨_,rfl,.inl ⟨rfl,_,rfl,zg (fun _=>?_) (fun g=>absurd rfl g)⟩⟩;obtain⟨e,me,rfl⟩:=jA m1;refine⟨_,rfl,x,dx,_,rfl,hx,rfl,_,rfl,.inr (.inl ⟨t,_,_,_,rfl,rfl,SqT.of ht,rfl,_,rfl,.inr (.inl ⟨t,_,_,_,rfl,rfl,SqT.of ht,rfl,_,rfl,.inr (.inl ⟨t,_,_,_,rfl,rfl,SqT.of ht,rfl,x,td,ed,bl,ps,ns,zs,_,_,_,rfl,hL,.inr ⟨e,me,rfl,.inl ⟨ty,un,kz⟩⟩⟩)⟩)⟩)⟩
     | bind3 m1 m2 ty no =>
       refine⟨_,rfl,.inr (.inl ⟨t,_,_,_,rfl,rfl,SqT.of ht,rfl,?_⟩)⟩;(try unfold qA);(try dsimp only);refine⟨_,rfl,.inl ⟨rfl,_,rfl,zg (fun g=>absurd g (by decide)) (fun _=>?_)⟩⟩;refine⟨_,rfl,.inl ⟨rfl,_,rfl,zg (fun g=>absurd g (by decide)) (fun _=>?_)⟩⟩;refine⟨_,rfl,.inl ⟨rfl,_,rfl,zg (fun _=>?_) (fun g=>absurd rfl g)⟩⟩;obtain⟨e,me,rfl⟩:=jA m1;obtain⟨f,mf,rfl⟩:=jA m2;refine⟨_,rfl,x,dx,_,rfl,hx,rfl,_,rfl,.inr (.inl ⟨t,_,_,_,rfl,rfl,SqT.of ht,rfl,_,rfl,.inr (.inl ⟨t,_,_,_,rfl,rfl,SqT.of ht,rfl,_,rfl,.inr (.inl ⟨t,_,_,_,rfl,rfl,SqT.of ht,rfl,x,td,ed,bl,ps,ns,zs,_,_,_,rfl,hL,.inr ⟨e,me,rfl,.inr ⟨f,mf,rfl,ty,.inl ⟨no,kz⟩⟩⟩⟩)⟩)⟩)⟩
     | bind4 m1 m2 h1 h2 hun =>
       refine⟨_,rfl,.inr (.inl ⟨t,_,_,_,rfl,rfl,SqT.of ht,rfl,?_⟩)⟩;(try unfold qA);(try dsimp only);refine⟨_,rfl,.inl ⟨rfl,_,rfl,zg (fun g=>absurd g (by decide)) (fun _=>?_)⟩⟩;refine⟨_,rfl,.inl ⟨rfl,_,rfl,zg (fun g=>absurd g (by decide)) (fun _=>?_)⟩⟩;refine⟨_,rfl,.inl ⟨rfl,_,rfl,zg (fun _=>?_) (fun g=>absurd rfl g)⟩⟩;obtain⟨e,me,rfl⟩:=jA m1;obtain⟨f,mf,rfl⟩:=jA m2;refine⟨_,rfl,x,dx,_,rfl,hx,rfl,_,rfl,.inr (.inl ⟨t,_,_,_,rfl,rfl,SqT.of ht,rfl,_,rfl,.inr (.inl ⟨t,_,_,_,rfl,rfl,SqT.of ht,rfl,_,rfl,.inr (.inl ⟨t,_,_,_,rfl,rfl,SqT.of ht,rfl,x,td,ed,bl,ps,ns,zs,_,_,_,rfl,hL,.inr ⟨e,me,rfl,.inr ⟨f,mf,rfl,QC _,.inr ⟨_,rfl,h1,h2,.inl ⟨hun,kz⟩⟩⟩⟩⟩)⟩)⟩)⟩
   · refine⟨_,rfl,.inr (.inl ⟨t,_,_,_,rfl,rfl,SqT.of ht,rfl,?_⟩)⟩;(try unfold qA);(try dsimp only);refine⟨_,rfl,.inl ⟨rfl,_,rfl,zg (fun _=>?_) (fun g=>absurd rfl g)⟩⟩;refine⟨_,rfl,x,dx,_,rfl,hx,rfl,_,rfl,.inr (.inl ⟨t,_,_,_,rfl,rfl,SqT.of ht,rfl,qk (Nat.le_of_ble_eq_true rfl),fun t0 g0=>⟨qk (Nat.le_of_ble_eq_true rfl),fun q0 h0 y dy f1 f2 ne=>?_⟩⟩)⟩;have Sa:=Same.new (.tup [.int 0,.int 5]) g0;have Sb:=Same.new (.lst [.ref t0]) h0;refine⟨y,dy,q0,[(0,5)],rfl,qd,Rs.same (qdx (w:=(0,5)) (Sb _ _ qd) qd) (up2 f1 f2),qjB (by decide) (by decide),fun G B=>⟨rfl,?_⟩⟩;have SG:Same H G:=Sa.trans (Sb.trans (qW f1 f2 B));obtain⟨ps2,e1,e2⟩:=qi8 (.ref y) mp;exact⟨x,td,ed,bl,ps,ns,zs,_,_,rfl,hL.sm SG,qao ok,.inr (.inl ⟨pl,ps2,rfl,ok,mp,few,e1,e2,fun H2 B2 L2=>kk ps2 H2 e2 (qhv SG B2) L2⟩)⟩
   · refine⟨_,rfl,.inr (.inl ⟨t,_,_,_,rfl,rfl,SqT.of ht,rfl,?_⟩)⟩;(try unfold qA);(try dsimp only);refine⟨_,rfl,.inl ⟨rfl,_,rfl,zg (fun g=>absurd g (by decide)) (fun _=>?_)⟩⟩;refine⟨_,rfl,.inl ⟨rfl,_,rfl,zg (fun _=>?_) (fun g=>absurd rfl g)⟩⟩;refine⟨_,rfl,x,dx,_,rfl,hx,rfl,_,rfl,.inr (.inl ⟨t,_,_,_,rfl,rfl,SqT.of ht,rfl,x,td,ed,bl,ps,ns,zs,_,rfl,hL,.inr ⟨_,_,_,rfl,en,.inr ⟨nn,.inr ⟨(fun s m=>nomatch m),.inr ⟨few,fun H2 B2 L2=>kk H2 B2 L2⟩⟩⟩⟩⟩)⟩
   · obtain⟨e,me,rfl⟩:=jA m1;obtain⟨f,mf,rfl⟩:=jA m2;refine⟨_,rfl,.inr (.inl ⟨t,_,_,_,rfl,rfl,SqT.of ht,rfl,?_⟩)⟩;(try unfold qA);(try dsimp only);refine⟨_,rfl,.inl ⟨rfl,_,rfl,zg (fun g=>absurd g (by decide)) (fun _=>?_)⟩⟩;refine⟨_,rfl,.inl ⟨rfl,_,rfl,zg (fun g=>absurd g (by decide)) (fun _=>?_)⟩⟩;refine⟨_,rfl,.inl ⟨rfl,_,rfl,zg (fun _=>?_) (fun g=>absurd rfl g)⟩⟩;refine⟨_,rfl,x,dx,_,rfl,hx,rfl,_,rfl,.inr (.inl ⟨t,_,_,_,rfl,rfl,SqT.of ht,rfl,_,rfl,.inr (.inl ⟨t,_,_,_,rfl,rfl,SqT.of ht,rfl,_,rfl,.inr (.inl ⟨t,_,_,_,rfl,rfl,SqT.of ht,rfl,x,td,ed,bl,ps,ns,zs,_,_,_,rfl,hL,.inr ⟨e,me,rfl,.inr ⟨f,mf,rfl,QC _,.inr ⟨_,rfl,h1,h2,.inr ⟨few,fun t2 v2 H2 ft B2 e2 L2=>kk t2 H2 ft B2 e2 L2⟩⟩⟩⟩⟩)⟩)⟩)⟩
end
def Wd.is (w u:Wd):Bool:=decide (w.s=u.s)
def wks:List Wd:=[.bond_,.entry_,.minutes_,.moment_,.name_,.place_,.taken_,.many_]
theorem qiW (w:Wd):(wks.filter fun u=>w.is u)=[w]:=by cases w<;>rfl
theorem zM {K:Frag}{mg:Str->Option Value}{a:Ad} (T:Txt K mg a) (w u:Wd):zh K (w.C a) (.ref (u.C a))=some (w.is u) :=
 match w,u with
   | .bond_,.bond_=>T.is_NoBond_NoBond
   | .bond_,.entry_=>T.is_NoBond_NoEntry
   | .bond_,.minutes_=>T.is_NoBond_NoMinutes
   | .bond_,.moment_=>T.is_NoBond_NoMoment
   | .bond_,.name_=>T.is_NoBond_NoName
   | .bond_,.place_=>T.is_NoBond_NoPlace
   | .bond_,.taken_=>T.is_NoBond_Taken
   | .bond_,.many_=>T.is_NoBond_TooMany
   | .entry_,.bond_=>T.is_NoEntry_NoBond
   | .entry_,.entry_=>T.is_NoEntry_NoEntry
   | .entry_,.minutes_=>T.is_NoEntry_NoMinutes
   | .entry_,.moment_=>T.is_NoEntry_NoMoment
   | .entry_,.name_=>T.is_NoEntry_NoName
   | .entry_,.place_=>T.is_NoEntry_NoPlace
   | .entry_,.taken_=>T.is_NoEntry_Taken
   | .entry_,.many_=>T.is_NoEntry_TooMany
   | .minutes_,.bond_=>T.is_NoMinutes_NoBond
   | .minutes_,.entry_=>T.is_NoMinutes_NoEntry
   | .minutes_,.minutes_=>T.is_NoMinutes_NoMinutes
   | .minutes_,.moment_=>T.is_NoMinutes_NoMoment
   | .minutes_,.name_=>T.is_NoMinutes_NoName
   | .minutes_,.place_=>T.is_NoMinutes_NoPlace
   | .minutes_,.taken_=>T.is_NoMinutes_Taken
   | .minutes_,.many_=>T.is_NoMinutes_TooMany
   | .moment_,.bond_=>T.is_NoMoment_NoBond
   | .moment_,.entry_=>T.is_NoMoment_NoEntry
   | .moment_,.minutes_=>T.is_NoMoment_NoMinutes
   | .moment_,.moment_=>T.is_NoMoment_NoMoment
   | .moment_,.name_=>T.is_NoMoment_NoName
   | .moment_,.place_=>T.is_NoMoment_NoPlace
   | .moment_,.taken_=>T.is_NoMoment_Taken
   | .moment_,.many_=>T.is_NoMoment_TooMany
   | .name_,.bond_=>T.is_NoName_NoBond
   | .name_,.entry_=>T.is_NoName_NoEntry
   | .name_,.minutes_=>T.is_NoName_NoMinutes
   | .name_,.moment_=>T.is_NoName_NoMoment
   | .name_,.name_=>T.is_NoName_NoName
   | .name_,.place_=>T.is_NoName_NoPlace
   | .name_,.taken_=>T.is_NoName_Taken
   | .name_,.many_=>T.is_NoName_TooMany
   | .place_,.bond_=>T.is_NoPlace_NoBond
   | .place_,.entry_=>T.is_NoPlace_NoEntry
   | .place_,.minutes_=>T.is_NoPlace_NoMinutes
   | .place_,.moment_=>T.is_NoPlace_NoMoment
   | .place_,.name_=>T.is_NoPlace_NoName
   | .place_,.place_=>T.is_NoPlace_NoPlace
   | .place_,.taken_=>T.is_NoPlace_Taken
   | .place_,.many_=>T.is_NoPlace_TooMany
   | .taken_,.bond_=>T.is_Taken_NoBond
   | .taken_,.entry_=>T.is_Taken_NoEntry
   | .taken_,.minutes_=>T.is_Taken_NoMinutes
   | .taken_,.moment_=>T.is_Taken_NoMoment
   | .taken_,.name_=>T.is_Taken_NoName
   | .taken_,.place_=>T.is_Taken_NoPlace
   | .taken_,.taken_=>T.is_Taken_Taken
   | .taken_,.many_=>T.is_Taken_TooMany
   | .many_,.bond_=>T.is_TooMany_NoBond
   | .many_,.entry_=>T.is_TooMany_NoEntry
   | .many_,.minutes_=>T.is_TooMany_NoMinutes
   | .many_,.moment_=>T.is_TooMany_NoMoment
   | .many_,.name_=>T.is_TooMany_NoName
   | .many_,.place_=>T.is_TooMany_NoPlace
   | .many_,.taken_=>T.is_TooMany_Taken
   | .many_,.many_=>T.is_TooMany_TooMany
theorem ql9 {K:Frag}{mg:Str->Option Value}{a:Ad} (T:Txt K mg a) (w:Wd):XC K (w.C a)∧mroIn K (w.C a) (.ref a.c_LogError)=some true :=
 match w with
   | .bond_=>⟨T.X_NoBond.c,T.up_NoBond⟩
   | .entry_=>⟨T.X_NoEntry.c,T.up_NoEntry⟩
   | .minutes_=>⟨T.X_NoMinutes.c,T.up_NoMinutes⟩
   | .moment_=>⟨T.X_NoMoment.c,T.up_NoMoment⟩
   | .name_=>⟨T.X_NoName.c,T.up_NoName⟩
   | .place_=>⟨T.X_NoPlace.c,T.up_NoPlace⟩
   | .taken_=>⟨T.X_Taken.c,T.up_Taken⟩
   | .many_=>⟨T.X_TooMany.c,T.up_TooMany⟩
theorem ql8 {K:Frag}{mg:Str->Option Value}{a:Ad} (T:Txt K mg a) (w:Wd) (h:w.is .many_=false):w.f="found"∧NoAttr K (w.C a) "found" :=
 match w,h with
   | .bond_,_=>⟨rfl,T.n_NoBond_found⟩
   | .entry_,_=>⟨rfl,T.n_NoEntry_found⟩
   | .minutes_,_=>⟨rfl,T.n_NoMinutes_found⟩
   | .moment_,_=>⟨rfl,T.n_NoMoment_found⟩
   | .name_,_=>⟨rfl,T.n_NoName_found⟩
   | .place_,_=>⟨rfl,T.n_NoPlace_found⟩
   | .taken_,_=>⟨rfl,T.n_Taken_found⟩
theorem ql7 {w:Wd} (h:w.is .many_=true):w=.many_:=by
 cases w<;>first|rfl|(exact absurd h (by decide))
theorem qjV (w:Wd):[w.is .bond_,w.is .entry_,w.is .minutes_,w.is .moment_,w.is .name_,w.is .place_,w.is .taken_].any id=!w.is .many_:=by cases w<;>rfl
inductive jS (a:Ad) (vs:List V) (H:Hp) (Q:VK):Prop
 | mk (x td ed bl:Addr) (ps ns:List (Str×V)) (zs:List V) (t:Addr) (dv:List V) (h1:vs=[.ref x,.ref t]) (h2:Lo a H x td ed bl ps ns zs) (h3:H t=some (.tup dv)) (h4:((∃ w v,Rfd a H (ps.map (·.1)) (ns.map (·.1)) zs.length dv w v∧∀ (r q:Addr) (H':Hp),Same H H'->H' r=some (.tup [.ref q,v])->H' q=some (.lst [.str w.s])->Q (.ref r) H') ∨
  (∃ (pl:Str) (z:V),dv=[.str "clock",.str pl,z]∧qY (.str pl)=true∧pl∈ps.map (·.1)∧ps.length≤6∧∀ ps' H',ps'.map (·.1)=ps.map (·.1)->But td H H'->Lo a H' x td ed bl ps' ns zs->Q .non H') ∨
  (∃ (y:Addr) (nm:Str),dv=[.str "put",.ref y]∧Ep1 a H y nm []∧nm∉ns.map (·.1)∧ns.length < 60∧∀ H',But ed H H'->Lo a H' x td ed bl ps (ns++[(nm,.ref y)]) zs->Q .non H') ∨
  (∃ (n1 n2:Str) (m:Int),dv=[.str "bind",.str n1,.str n2,.int m]∧n1∈ns.map (·.1)∧n2∈ns.map (·.1)∧-2000000000≤m∧m≤2000000001∧zs.length < 100∧∀ (t:Addr) (H':Hp),H t=none->But bl H H'->H' t=some (.tup (prB (n1,n2,m)))->Lo a H' x td ed bl ps ns (zs++[.ref t])->Q .non H'))):jS a vs H Q
def jD (a:Ad):Sp:=fun vs H Q _=>jS a vs H Q
section
variable {P:Program}{w:World}{K:Frag}{mg:Str->Option Value}{base:Heap}
theorem qa4 {a:Ad} (T:Txt K mg a):qu P w K mg base CX0 9 a.f_h a.fd_h ["_law_log","_law_deed_here"] (jD a):=by
 have G_2:=qhN (P:=P) (w:=w) (base:=base) T;refine T.d_h.F.ok sc_Lrefusal (fun vs H Q E h=>?_) (fun cdv A outer s H vs Q E hr h=>?_)
 · obtain⟨x,td,ed,bl,ps,ns,zs,t,dv,rfl,hL,ht,kk⟩:=h;rfl
 · obtain⟨x,td,ed,bl,ps,ns,zs,t,dv,rfl,hL,ht,kk⟩:=h;have hu:=qG hr;have h_2:Room (8) _:=hr.mono (by decide)
   refine⟨_,(qc (qC (i:=2) sc_Lrefusal.nd rfl (Or.inl rfl) jw)
     (qc (qhz (i:=5) rfl rfl (by exact(qjg (qhD G_2 h_2 rfl T.d_2.m T.d_2.k T.d_2.b (qa (pv 0) (qa (pv 1) qb)))))
       rfl T.g_LogError T.xl_LogError sc_Lrefusal.nd rfl (Or.inl rfl) rfl (fun ea=>(by exact
       (@qc _ _ _ _ _ (by exact(@qC _ _ 3 _ _ _ _ (by exact sc_Lrefusal.nd) (by rfl) (by exact Or.inl rfl) (by exact(@qQ _ _ _ _ (by exact(@qa _ _ _ _ _ (by exact qt) (by exact(@qa _ _ _ _ _ (by exact qt) (by exact(@qa _ _ _ _ _ (by exact qt) (by exact(@qa _ _ _ _ _ (by exact qt) (by exact(@qa _ _ _ _ _ (by exact qt) (by exact(@qa _ _ _ _ _ (by exact qt) (by exact(@qa _ _ _ _ _ (by exact qt) (by exact(@qa _ _ _ _ _ (by exact qt) (by exact(@qb _)) (by rfl))) (by rfl))) (by rfl))) (by rfl))) (by rfl))) (by rfl))) (by rfl))) (by rfl))))) (by rfl) (by exact .inl rfl)))
       (by exact(qc (qC (i:=4) sc_Lrefusal.nd rfl (Or.inl rfl) (qQ (qa (qp (r:=qbF K) zD (by rfl) T.n_isinstance qm (qa (pv 5) (qa (qI (v:=.ref a.c_NoBond) rfl T.g_NoBond rfl) qb))) (qa (qp (r:=qbF K) zD (by rfl) T.n_isinstance qm (qa (pv 5) (qa (qI (v:=.ref a.c_NoEntry) rfl T.g_NoEntry rfl) qb))) (qa (qp (r:=qbF K) zD (by rfl) T.n_isinstance qm (qa (pv 5) (qa (qI (v:=.ref a.c_NoMinutes) rfl T.g_NoMinutes rfl) qb))) (qa (qp (r:=qbF K) zD (by rfl) T.n_isinstance qm (qa (pv 5) (qa (qI (v:=.ref a.c_NoMoment) rfl T.g_NoMoment rfl) qb))) qb))))))
       (qc (qC (i:=4) sc_Lrefusal.nd rfl (Or.inl rfl) (qH qab (pv 4) (qQ (qa (qp (r:=qbF K) zD (by rfl) T.n_isinstance qm (qa (pv 5) (qa (qI (v:=.ref a.c_NoName) rfl T.g_NoName rfl) qb))) (qa (qp (r:=qbF K) zD (by rfl) T.n_isinstance qm (qa (pv 5) (qa (qI (v:=.ref a.c_NoPlace) rfl T.g_NoPlace rfl) qb))) (qa (qp (r:=qbF K) zD (by rfl) T.n_isinstance qm (qa (pv 5) (qa (qI (v:=.ref a.c_Taken) rfl T.g_Taken rfl) qb))) (qa (qp (r:=qbF K) zD (by rfl) T.n_isinstance qm (qa (pv 5) (qa (qI (v:=.ref a.c_TooMany) rfl T.g_TooMany rfl) qb))) qb)))))))
       (qc (qC (i:=2) sc_Lrefusal.nd rfl (Or.inl rfl) (qS (qa (@qhI _ _ _ _ _ _ _ _ _ _ _ _ _ _ _ (by exact(CompOk.def ["_law_word","_law_kind"] [none,none])) (by exact(qjj rfl T.n_zip (qa (pv 3) (qa (pv 4) qb)))) (by exact(fun _ _ _ _ _=>(show PG _ _ (qkV K ea 2 _) from (qjl rfl (zJ (qU (i:=0) (show List.Nodup (["_law_word","_law_kind"]:List Str) by decide +kernel) rfl (Or.inl rfl)) (zJ (qU (i:=1) (show List.Nodup (["_law_word","_law_kind"]:List Str) by decide +kernel) rfl (Or.inl rfl)) qa0)))))) (by exact(fun _ _ _ _ _=>(qaZ (show PT _ _ (fun σ H Q=>qjO 1 σ H fun x H1=>∃ k,qlK K x H1 k∧Q k H1) from qeF (pv 1) (fun _=>rfl))))) (by exact(fun _ _ _ _ _=>(pv 0))) (by intro _;rfl)) (qa jw qb))))
       (qc (qM (qP (qp (r:=qkk K) qgZ (by rfl) T.n_isinstance qm (qa (pv 5) (qa (qS (qa (qI (v:=.ref a.c_NoBond) rfl T.g_NoBond rfl) (qa (qI (v:=.ref a.c_NoEntry) rfl T.g_NoEntry rfl) (qa (qI (v:=.ref a.c_NoMinutes) rfl T.g_NoMinutes rfl) (qa (qI (v:=.ref a.c_NoMoment) rfl T.g_NoMoment rfl) (qa (qI (v:=.ref a.c_NoName) rfl T.g_NoName rfl) (qa (qI (v:=.ref a.c_NoPlace) rfl T.g_NoPlace rfl) (qa (qI (v:=.ref a.c_Taken) rfl T.g_Taken rfl) qb)))))))) qb))))
         (qe (qC (i:=2) sc_Lrefusal.nd rfl (Or.inl rfl) (qS (qa (qD (r:=rIx K) qr (pv 2) qf (fun _ _=>rfl)) (qa (show PE _ _ (qi0 K _ "found") from qga (pv 5) rfl) qb)))))
         qv)
       (qe (qM (qP (qp (r:=qbF K) zD (by rfl) T.n_isinstance qm (qa (pv 5) (qa (qI (v:=.ref a.c_TooMany) rfl T.g_TooMany rfl) qb))))
         (qe (qC (i:=2) sc_Lrefusal.nd rfl (Or.inl rfl) (qS (qa (qD (r:=rIx K) qr (pv 2) qf (fun _ _=>rfl)) (qa (show PE _ _ (qi0 K _ "many") from qga (pv 5) rfl) qb)))))
         qv)))))))))))
     (qe (qy (pv 2))))),?_⟩
   try dsimp only [zf,Cx.nox]
   try unfold qA
   try dsimp only
   refine⟨_,rfl,_,rfl,x,td,ed,bl,ps,ns,zs,t,dv,rfl,hL,ht,?_⟩;rcases kk with ⟨w,v,rf,kk⟩|⟨pl,z,h1,h2,h3,h4,kk⟩|⟨y,nm,h1,h2,h3,h4,kk⟩|⟨n1,n2,m,h1,h2,h3,h4,h5,h6,kk⟩
   case inr.inl=>exact .inr (.inl ⟨pl,z,h1,h2,h3,h4,fun ps' H' e B L=>⟨_,rfl,kk ps' H' e B L⟩⟩)
   case inr.inr.inl=>exact .inr (.inr (.inl ⟨y,nm,h1,h2,h3,h4,fun H' B L=>⟨_,rfl,kk H' B L⟩⟩))
   case inr.inr.inr=>exact .inr (.inr (.inr ⟨n1,n2,m,h1,h2,h3,h4,h5,h6,fun t H' f B e L=>⟨_,rfl,kk t H' f B e L⟩⟩))
   refine .inl ⟨w,v,rf,?_⟩;intro ea dx H1 S1 fe fdx hd xa;obtain⟨wc,wup⟩:=ql9 T w;refine⟨_,ea,rfl,rfl,wc.xi,wup,?_⟩;have xe:XE K H1 (.ref ea) (w.C a):=⟨wc,ea,rfl,.inr ⟨dx,_,xa,hd⟩⟩
   refine⟨qk (Nat.le_of_ble_eq_true rfl),fun k0 fk0=>?_⟩;generalize hG:upd H1 k0 _=A1;obtain⟨s1,e1⟩:=qj hG fk0;clear hG;(try unfold qA);(try dsimp only);refine⟨_,rfl,_,_,_,_,rfl,xe.same s1,zM T w .bond_,_,rfl,_,_,_,_,rfl,xe.same s1,zM T w .entry_,_,rfl,_,_,_,_,rfl,xe.same s1,zM T w .minutes_,_,rfl,_,_,_,_,rfl,xe.same s1,zM T w .moment_,qk (Nat.le_of_ble_eq_true rfl),fun k1 fk1=>?_⟩;generalize hG:upd A1 k1 _=A2;obtain⟨s2,e2⟩:=qj hG fk1;clear hG;have s12:=s1.trans s2;(try unfold qA);(try dsimp only);refine⟨_,rfl,_,rfl,_,_,_,_,rfl,xe.same s12,zM T w .name_,_,rfl,_,_,_,_,rfl,xe.same s12,zM T w .place_,_,rfl,_,_,_,_,rfl,xe.same s12,zM T w .taken_,_,rfl,_,_,_,_,rfl,xe.same s12,zM T w .many_,qk (Nat.le_of_ble_eq_true rfl),fun k2 fk2=>?_⟩;generalize hG:upd A2 k2 _=A3;obtain⟨s3,e3⟩:=qj hG fk2;clear hG;refine .inr (.inl ⟨k1,k2,_,_,rfl,rfl,s3 _ _ e2,e3,qk (Nat.le_of_ble_eq_true rfl),fun k3 fk3=>?_⟩);generalize hG:upd A3 k3 _=A4;obtain⟨s4,e4⟩:=qj hG fk3;clear hG;have s14:=s12.trans (s3.trans s4);have e1':=(s2.trans (s3.trans s4)) _ _ e1;have ek0:A4 k0=some (.lst (wks.map fun u=>V.str u.s)):=e1';have ek3:A4 k3=some (.lst (wks.map fun u=>V.bl (w.is u))):=e4;have xa4:=xa.same s14;clear e1' e1 e2 e3 e4 s2 s3 s4;(try unfold qA);(try dsimp only);refine⟨_,rfl,_,rfl,false,k0,k3,rfl,⟨_,SqL.of ek0⟩,⟨_,SqL.of ek3⟩,fun D fD=>?_⟩;refine qgU (K:=K) (ea:=ea) (a:=k0) (b:=k3) (xs:=wks.map fun u=>V.str u.s) (ys:=wks.map fun u=>V.bl (w.is u)) (D:=D) (fun i σ H'=>∃ c0 c1:Option V,σ=[c0,c1]∧Same A4 H'∧H' D=some (.lst (((wks.take i).filter fun u=>w.is u).map fun u=>V.str u.s))) rfl ⟨none,none,rfl,Same.new _ fD,qd⟩ (fun i σ H' _ ⟨_,_,_,S,_⟩=>⟨⟨SqL.of (S _ _ ek0),SqL.of (S _ _ ek3)⟩,let ⟨tb,h,_⟩:=xa4.same S;⟨_,_,tb,h⟩⟩) ?_ ?_
   · rintro i z y σ H' p hz hy ⟨c0,c1,rfl,S,hD⟩ fp;obtain⟨u,hu,rfl⟩:=zB hz;obtain⟨u',hu',rfl⟩:=zB hy;rw[hu]at hu';cases hu';have il:i < 8:=(List.getElem?_eq_some_iff.mp hu).1;have St:=Same.new (.tup [.str u.s,.bl (w.is u)]) fp;have lf:=List.length_filter_le (fun u=>w.is u) (wks.take i);rw[List.length_take]at lf
     have es:(wks.take (i+1)).filter (fun u=>w.is u)=(wks.take i).filter (fun u=>w.is u)++(if w.is u=true then [u] else []):=by
       rw[List.take_add_one,hu,List.filter_append];congr 1;show List.filter _ [u]=_;rw[List.filter_cons];split<;>rfl
     obtain⟨tb,hea,_⟩:=xa4.same (S.trans St);refine⟨_,_,tb,hea,p,_,rfl,SqT.of qd,rfl,_,_,rfl,_,_,rfl,rfl,?_⟩;refine⟨_,rfl,w.is u,rfl,qkP (fun g=>?_) (fun g=>?_)⟩
     · refine⟨_,rfl,_,St _ _ hD,qk (by rw[List.length_map];omega),_,_,rfl,(S.trans St).put fD _,?_⟩;rw[qd,es,if_pos g,List.map_append];rfl
     · refine⟨_,_,rfl,S.trans St,?_⟩;rw[es,if_neg (by rw[show w.is u=false from g];decide),List.append_nil];exact St _ _ hD
   rintro σ A5 ⟨c0,c1,rfl,s5,hD⟩;rw[show (wks.map fun u=>V.str u.s).length=wks.length from rfl,List.take_length,qiW]at hD;refine⟨qk (Nat.le_of_ble_eq_true rfl),fun r0 fr0=>?_⟩;generalize hG:upd A5 r0 _=A6;obtain⟨s6,e6⟩:=qj hG fr0;clear hG;have s16:=s14.trans (s5.trans s6);have hD6:=s6 _ _ hD;(try unfold qA);(try dsimp only);refine⟨_,rfl,qk (Nat.le_of_ble_eq_true rfl),fun tp ftp=>?_⟩;generalize hG:upd A6 tp _=A7;obtain⟨s7,e7⟩:=qj hG ftp;clear hG;have s17:=s16.trans s7;refine⟨_,_,tp,[Wd.C a .bond_,Wd.C a .entry_,Wd.C a .minutes_,Wd.C a .moment_,Wd.C a .name_,Wd.C a .place_,Wd.C a .taken_],[w.is .bond_,w.is .entry_,w.is .minutes_,w.is .moment_,w.is .name_,w.is .place_,w.is .taken_],rfl,xe.same s17,e7,(.cons (zM T w .bond_) (.cons (zM T w .entry_) (.cons (zM T w .minutes_) (.cons (zM T w .moment_) (.cons (zM T w .name_) (.cons (zM T w .place_) (.cons (zM T w .taken_) .nil))))))),_,rfl,?_⟩;rw[qjV]
   cases hm:w.is .many_ with
   | false =>
     refine zU rfl ?_;obtain⟨hf,na⟩:=ql8 T w hm;rw[hf]at hd;refine⟨_,rfl,.inr (.inl ⟨r0,_,_,_,rfl,rfl,SqT.of (s7 _ _ e6),rfl,_,rfl,ea,_,dx,_,_,rfl,xa.same s17,s17 _ _ hd,wc,na,rfl,qk (Nat.le_of_ble_eq_true rfl),fun r1 fr1=>?_⟩)⟩;generalize hG:upd A7 r1 _=A8;obtain⟨s8,e8⟩:=qj hG fr1;clear hG;refine⟨_,rfl,_,_,_,_,rfl,xe.same (s17.trans s8),zM T w .many_,_,rfl,?_⟩;rw[hm];exact qN rfl ⟨_,rfl,kk r1 D A8 (S1.trans (s17.trans s8)) e8 ((s7.trans s8) _ _ hD6)⟩
   | true =>
     have ew:=ql7 hm;subst ew;refine qN rfl ?_;refine⟨_,rfl,_,_,_,_,rfl,xe.same s17,zM T .many_ .many_,true,rfl,zU rfl ?_⟩;refine⟨_,rfl,.inr (.inl ⟨r0,_,_,_,rfl,rfl,SqT.of (s7 _ _ e6),rfl,_,rfl,ea,_,dx,_,_,rfl,xa.same s17,s17 _ _ hd,wc,T.n_TooMany_many,rfl,qk (Nat.le_of_ble_eq_true rfl),fun r1 fr1=>?_⟩)⟩;generalize hG:upd A7 r1 _=A8;obtain⟨s8,e8⟩:=qj hG fr1;clear hG;exact⟨_,rfl,kk r1 D A8 (S1.trans (s17.trans s8)) e8 ((s7.trans s8) _ _ hD6)⟩
end
structure Lk (a:Ad) (H:Hp) (x td ed bl:Addr) (ps ns:List (Str×V)) (zs:List V) (bs:List (Str×Str×Int)) (wf:Str->List (Int×Int)):Prop where
 lo:Lo a H x td ed bl ps ns zs
 en:∀ e∈ns,∃ y,e.2=.ref y∧Ek a H y e.1 (wf e.1)
 tb:TupL prB H zs bs
 np:ps.length≤6
 nn:ns.length≤60
 nz:zs.length≤100
theorem Lk.sm {a:Ad}{H H':Hp}{x td ed bl:Addr}{ps ns:List (Str×V)}{zs:List V}{bs:List (Str×Str×Int)}{wf:Str->List (Int×Int)} (h:Lk a H x td ed bl ps ns zs bs wf) (s:Same H H'):Lk a H' x td ed bl ps ns zs bs wf :=
 ⟨h.lo.sm s,fun e m=>let ⟨y,h1,h2⟩:=h.en e m;⟨y,h1,h2.same s⟩,h.tb.same s,h.np,h.nn,h.nz⟩
def qch (xs:List Str) (lo hi:Option Int):List Str:=(xs.drop (HT.sIx xs.length 0 lo)).take (HT.sIx xs.length xs.length hi - HT.sIx xs.length 0 lo)
theorem jJ (xs:List Str) (lo hi:Option Int):qiM (xs.map V.str) lo hi=(qch xs lo hi).map V.str:=by
 unfold qiM qch;rw[List.length_map,List.map_take,List.map_drop]
theorem qar {xs:List Str}{lo hi:Option Int}{k:Str} (h:k∈qch xs lo hi):k∈xs:=List.mem_of_mem_drop (List.mem_of_mem_take h)
theorem Z0 (xs:List Str) (lo hi:Option Int):(qch xs lo hi).length≤xs.length:=by
 unfold qch;rw[List.length_take,List.length_drop];omega
def qcB (xs:List Str):List Str:=qch xs none (some 2)++qch (qch xs (some 2) none) (some (-2)) none
theorem qf7 {xs:List Str}{k:Str} (h:k∈qcB xs):k∈xs:=by
 rcases List.mem_append.mp h with h|h
 · exact qar h
 · exact qar (qar h)
theorem qf8 (xs:List Str):(qcB xs).length≤xs.length+xs.length:=by
 unfold qcB;rw[List.length_append];have h1:=Z0 xs none (some 2);have h2:=Z0 (qch xs (some 2) none) (some (-2)) none;have h3:=Z0 xs (some 2) none;omega
inductive Seen (H:Hp) (r:Addr) (nk:List Str) (zs:List V) (pk:List Str) (wf:Str->List (Int×Int)):Prop
 | mk {n b p s:Addr}{ss:List Str}{ls:List Addr}:H r=some (.lst [.ref n,.ref b,.ref p,.ref s])->H n=some (.lst (nk.map V.str))->H b=some (.lst zs)->H p=some (.lst (ss.map V.str))->ss.Perm pk->sortedS ss=true->H s=some (.lst (ls.map V.ref))->ls.length=(qcB nk).length->(∀ (j:Nat) (q:Addr) (k:Str),ls[j]?=some q->(qcB nk)[j]?=some k->Rs H q (wf k))->Seen H r nk zs pk wf
theorem Seen.same {H H':Hp}{r:Addr}{nk:List Str}{zs:List V}{pk:List Str}{wf:Str->List (Int×Int)} (h:Seen H r nk zs pk wf) (S:Same H H'):Seen H' r nk zs pk wf:=by
 cases h with
 | mk h1 h2 h3 h4 h5 h6 h7 h8 h9=>exact .mk (S _ _ h1) (S _ _ h2) (S _ _ h3) (S _ _ h4) h5 h6 (S _ _ h7) h8 fun j q k e1 e2=>(h9 j q k e1 e2).same S
theorem Rs.tw {H:Hp}{p q:Addr}{rows:List (Int×Int)}{n:Nat} (h:Rs H p rows) (h':Rs H q rows):Tw H (n+2) (.ref p) (.ref q):=by
 obtain⟨z1,a1,b1⟩:=h;obtain⟨z2,a2,b2⟩:=h';refine .lst a1 a2 (b1.1.trans b2.1.symm) fun j x y e1 e2=>?_;obtain⟨r1,t1,g1,rfl,k1⟩:=b1.of e1;obtain⟨r2,t2,g2,rfl,k2⟩:=b2.of e2;rw[g1]at g2;cases g2;exact .tupS k1 k2 rfl
theorem qbR (ss:List Str):(ss.map V.str).all JZ=true:=by
 rw[List.all_map];exact List.all_eq_true.mpr fun _ _=>rfl
theorem qfF {H:Hp}{zs:List V}{bs:List (Str×Str×Int)} (h:TupL prB H zs bs):zs.all JZ=true:=by
 refine List.all_eq_true.mpr fun z m=>?_;obtain⟨j,hj⟩:=List.getElem?_of_mem m;obtain⟨_,_,_,rfl,_⟩:=h.of hj;rfl
theorem Seen.tw {H:Hp}{r r':Addr}{nk:List Str}{zs:List V}{pk:List Str}{wf:Str->List (Int×Int)} (pl:zs.all JZ=true) (h:Seen H r nk zs pk wf) (h':Seen H r' nk zs pk wf) :
   ∃ xs ys,H r=some (.lst xs)∧H r'=some (.lst ys)∧xs.length=ys.length∧∀ (j:Nat) (x y:V),xs[j]?=some x->ys[j]?=some y->Tw H 16 x y:=by
 cases h with
 | @mk n b p s ss ls h1 h2 h3 h4 h5 h6 h7 h8 h9 =>
 cases h' with
 | @mk n' b' p' s' ss' ls' g1 g2 g3 g4 g5 g6 g7 g8 g9 =>
 have es:=qdY (h5.trans g5.symm) h6 g6;subst es;refine⟨_,_,h1,g1,rfl,fun j x y e1 e2=>?_⟩
 match j,e1,e2 with
 | 0,e1,e2=>cases e1;cases e2;exact .lstS h2 g2 (qbR _)
 | 1,e1,e2=>cases e1;cases e2;exact .lstS h3 g3 pl
 | 2,e1,e2=>cases e1;cases e2;exact .lstS h4 g4 (qbR _)
 | 3,e1,e2 =>
   cases e1;cases e2;refine .lst h7 g7 (by rw[List.length_map,List.length_map,h8,g8]) fun i u v f1 f2=>?_;obtain⟨q1,k1,rfl⟩:=zB f1;obtain⟨q2,k2,rfl⟩:=zB f2;have il:=(List.getElem?_eq_some_iff.mp k1).1;have hk:=List.getElem?_eq_getElem (l:=qcB nk) (i:=i) (by omega);exact Rs.tw (n:=13) (h9 i q1 _ k1 hk) (g9 i q2 _ k2 hk)
inductive qbT (a:Ad) (vs:List V) (H:Hp) (Q:VK):Prop
 | mk (x td ed bl:Addr) (ps ns:List (Str×V)) (zs:List V) (bs:List (Str×Str×Int)) (wf:Str->List (Int×Int)) (h1:vs=[.ref x]) (h2:Lk a H x td ed bl ps ns zs bs wf) (h3:∀ r H',H r=none->Same H H'->Seen H' r (ns.map (·.1)) zs (ps.map (·.1)) wf->Q (.ref r) H'):qbT a vs H Q
def qeu (a:Ad):Sp:=fun vs H Q _=>qbT a vs H Q
inductive qev (a:Ad) (vs:List V) (H:Hp) (Q:VK):Prop
 | mk (x td ed bl:Addr) (ps ns:List (Str×V)) (zs:List V) (bs:List (Str×Str×Int)) (wf:Str->List (Int×Int)) (t:Addr) (dv:List V) (w:Wd) (v:V) (h1:vs=[.ref x,.ref t,.str w.s,v]) (h2:Lk a H x td ed bl ps ns zs bs wf) (h3:H t=some (.tup dv)) (h4:Rfd a H (ps.map (·.1)) (ns.map (·.1)) zs.length dv w v) (h5:SelfN H v) (h6:Typed H v) (h7:∀ H',Same H H'->Q (.bl true) H'):qev a vs H Q
def qc7 (a:Ad):Sp:=fun vs H Q _=>qev a vs H Q
theorem Rs.putN {H:Hp}{q D:Addr}{rows:List (Int×Int)} (h:Rs H q rows) (n:q≠D) {ys:List V} (hD:H D=some (.lst ys)) (xs:List V):Rs (upd H D (.lst xs)) q rows:=by
 obtain⟨zs,h1,h2⟩:=h;exact⟨zs,by rw[qg n];exact h1,h2.put hD⟩
section
variable {P:Program}{w:World}{K:Frag}{mg:Str->Option Value}{base:Heap}
theorem qhM {a:Ad} (T:Txt K mg a):qu P w K mg base CX0 8 a.f_M a.fd_M ["_law_log"] (qeu a):=by
 have G_f:=Qx (P:=P) (w:=w) (base:=base) T;have G_j:=ZM (P:=P) (w:=w) (base:=base) T;have G_k:=QY (P:=P) (w:=w) (base:=base) T;have G_E:=J1 (P:=P) (w:=w) (base:=base) T;refine T.d_M.F.ok sc_Lseen (fun vs H Q E h=>?_) (fun cdv A outer s H vs Q E hr h=>?_)
 · obtain⟨x,td,ed,bl,ps,ns,zs,bs,wf,rfl,hk,kk⟩:=h;rfl
 · obtain⟨x,td,ed,bl,ps,ns,zs,bs,wf,rfl,hk,kk⟩:=h;have h_f:Room (1) _:=hr.mono (by decide);have h_j:Room (1) _:=hr.mono (by decide);have h_k:Room (1) _:=hr.mono (by decide);have h_E:Room (7) _:=hr.mono (by decide)
   refine⟨_,(qc (qC (i:=1) sc_Lseen.nd rfl (Or.inl rfl) (qK (pv 0) T.cl_Log T.d_f.mt G_f h_f T.d_f.b .nil qq))
     (qc (qC (i:=2) sc_Lseen.nd rfl (Or.inl rfl) (qH qab (zK uSl (pv 1) QX (Qf qf)) (zK uSl (zK uSl (pv 1) (Qf qf) QX) (Qf (qah QZ qf)) QX)))
     (qe (qy (qQ (qa (pv 1) (qa (qK (pv 0) T.cl_Log T.d_j.mt G_j h_j T.d_j.b .nil qq) (qa (qK (pv 0) T.cl_Log T.d_k.mt G_k h_k T.d_k.b .nil qq) (qa (Ju rfl (CompOk.def ["_law_name","_law_log"] [none,some 0]) (zO (pv 2)) (fun _ _ _ _ _=>(qU (i:=0) (show List.Nodup (["_law_name","_law_log"]:List Str) by decide +kernel) rfl (Or.inl rfl))) (fun _ _ _ _ _=>qd4) (fun _ _ _ _ _=>(q9 (pv 1) T.cl_Log T.d_E.mt G_E h_E T.d_E.b .nil qfh (qa (pv 0) qb)))) qb))))))))),?_⟩
   try dsimp only [zf,Cx.nox]
   obtain⟨dx,hx⟩:=hk.lo.hx;have hL:=hk.lo;have hnn:(ns.map (·.1)).length≤60:=by rw[List.length_map];exact hk.nn
   refine⟨_,rfl,x,dx,_,rfl,hx,rfl,x,td,ed,bl,ps,ns,zs,rfl,hL,fun n fn=>?_⟩;generalize hG:upd H n _=A1;obtain⟨s1,e1⟩:=qj hG fn;clear hG;(try unfold qA);(try dsimp only);refine⟨_,rfl,_,rfl,.inl ⟨n,_,rfl,SqL.of e1,fun c1 fc1=>?_⟩⟩;rw[jJ];generalize hG:upd A1 c1 _=A2;obtain⟨s2,e2⟩:=qj hG fc1;clear hG;refine⟨_,rfl,_,rfl,.inl ⟨n,_,rfl,SqL.of (s2 _ _ e1),fun c2 fc2=>?_⟩⟩;rw[jJ];generalize hG:upd A2 c2 _=A3;obtain⟨s3,e3⟩:=qj hG fc2;clear hG;refine⟨_,rfl,_,rfl,.inl ⟨c2,_,rfl,SqL.of e3,fun c3 fc3=>?_⟩⟩;rw[jJ];generalize hG:upd A3 c3 _=A4;obtain⟨s4,e4⟩:=qj hG fc3;clear hG;have l1:=Z0 (ns.map (·.1)) none (some 2);have l2:=Z0 (ns.map (·.1)) (some 2) none;have l3:=Z0 (qch (ns.map (·.1)) (some 2) none) (some (-2)) none;refine .inr (.inl ⟨c1,c3,_,_,rfl,rfl,(s3.trans s4) _ _ e2,e4,Nat.le_of_lt (zc (by rw[List.length_map,List.length_map];omega)),fun c4 fc4=>?_⟩);rw[← List.map_append];generalize hG:upd A4 c4 _=A5;obtain⟨s5,e5⟩:=qj hG fc4;clear hG;have e5:A5 c4=some (.lst ((qcB (ns.map (·.1))).map V.str)):=e5;have S5:Same A1 A5:=s2.trans (s3.trans (s4.trans s5));have fnH:H n=none:=fn;clear e2 e3 e4 s2 s3 s4 s5 l1 l2 l3;(try unfold qA);(try dsimp only);refine⟨_,rfl,_,rfl,x,dx,_,rfl,(s1.trans S5) _ _ hx,rfl,x,td,ed,bl,ps,ns,zs,rfl,hL.sm (s1.trans S5),fun b fb=>?_⟩;generalize hG:upd A5 b _=A6;obtain⟨s6,e6⟩:=qj hG fb;clear hG;have S6:=(s1.trans S5).trans s6;refine⟨_,rfl,x,dx,_,rfl,S6 _ _ hx,rfl,x,td,ed,bl,ps,ns,zs,rfl,hL.sm S6,hk.np,fun p ss fp pm so=>?_⟩;generalize hG:upd A6 p _=A7;obtain⟨s7,e7⟩:=qj hG fp;clear hG;have S7:=S6.trans s7;refine⟨_,rfl,c4,rfl,⟨_,SqL.of ((s6.trans s7) _ _ e5)⟩,fun D fD=>?_⟩;refine ZS (K:=K) (a:=c4) (xs:=(qcB (ns.map (·.1))).map V.str) (D:=D) (fun i σ H'=>∃ (c0:Option V) (ls:List Addr),σ=[c0,some (.ref x)]∧Same A7 H'∧H' D=some (.lst (ls.map V.ref))∧ls.length=i∧∀ (j:Nat) (q:Addr) (k:Str),ls[j]?=some q->(qcB (ns.map (·.1)))[j]?=some k->q≠D∧Rs H' q (wf k)) ⟨none,[],rfl,Same.new _ fD,qd,rfl,fun j q k e=>nomatch e⟩ (fun i σ H' _ ⟨_,_,_,S,_⟩=>SqL.of (S _ _ ((s6.trans s7) _ _ e5))) ?_ ?_
   · rintro i z σ H1 hz ⟨c0,ls,rfl,S8,hD,hl,hR⟩;obtain⟨nm,hnm,rfl⟩:=zB hz;obtain⟨e,me,rfl⟩:=jA (qf7 (List.mem_of_getElem? hnm));obtain⟨y,ey,ek⟩:=hk.en e me;have SS:=S7.trans S8;have il:=(List.getElem?_eq_some_iff.mp hnm).1;have pl:=qf8 (ns.map (·.1));refine⟨_,rfl,x,dx,_,rfl,SS _ _ hx,rfl,_,rfl,x,td,ed,bl,ps,ns,zs,_,rfl,hL.sm SS,.inl ⟨e.1,y,wf e.1,by rw[← ey];exact me,rfl,ek.same SS,fun d H2 fd S9 R=>?_⟩⟩;refine⟨_,S9 _ _ hD,zc (by rw[List.length_map];omega),some (.str e.1),ls++[d],rfl,(S8.trans S9).put fD _,?_,?_,?_⟩
     · rw[qd,List.map_append];rfl
     · rw[List.length_append,hl];rfl
     · intro j q k h1 h2
       have key:q≠D∧Rs H2 q (wf k):=by
         by_cases lt:j < ls.length
         · rw[List.getElem?_append_left lt]at h1;exact⟨(hR j q k h1 h2).1,(hR j q k h1 h2).2.same S9⟩
         · have hj:=(List.getElem?_eq_some_iff.mp h1).1;rw[List.length_append]at hj;have ej:j=ls.length:=by simp only[List.length_cons,List.length_nil]at hj;omega
           subst ej;rw[List.getElem?_append_right (Nat.le_refl _),Nat.sub_self]at h1;cases h1;rw[hl,hnm]at h2;cases h2;exact⟨(fun z=>by rw[z,hD]at fd;cases fd),R⟩
       exact⟨key.1,key.2.putN key.1 (S9 _ _ hD) _⟩
   rintro σ A8 ⟨c0,ls,rfl,S8,hD,hl,hR⟩;rw[List.length_map]at hl;refine⟨qk (Nat.le_of_ble_eq_true rfl),fun r fr=>?_⟩;generalize hG:upd A8 r _=A9;obtain⟨s9,e9⟩:=qj hG fr;clear hG;have S1:Same A1 A9:=S5.trans (s6.trans (s7.trans (S8.trans s9)));refine kk r A9 ?_ (s1.trans S1) (.mk e9 (S1 _ _ e1) ((s7.trans (S8.trans s9)) _ _ e6) ((S8.trans s9) _ _ e7) pm so (s9 _ _ hD) hl fun j q k h1 h2=>(hR j q k h1 h2).2.same s9)
   cases e:H r with
   | none=>rfl
   | some o=>rw[(S7.trans S8) _ _ e]at fr;cases fr
end
theorem qiX (w:Wd):SeqAt.shaped (.list [.str w.s])=true:=by cases w<;>decide +kernel
section
variable {P:Program}{w:World}{K:Frag}{mg:Str->Option Value}{base:Heap}
theorem qeL {a:Ad} (T:Txt K mg a):qu P w K mg base CX0 10 a.f_b a.fd_b ["_law_log","_law_deed_here","_law_word","_law_thing"] (qc7 a):=by
 have G_M:=qhM (P:=P) (w:=w) (base:=base) T;have G_h:=qa4 (P:=P) (w:=w) (base:=base) T;refine T.d_b.F.ok sc_Lis (fun vs H Q E h=>?_) (fun cdv A outer s H vs Q E hr h=>?_)
 · obtain⟨x,td,ed,bl,ps,ns,zs,bs,wf,t,dv,w,v,rfl,hk,ht,rf,se,ty,kk⟩:=h;rfl
 · obtain⟨x,td,ed,bl,ps,ns,zs,bs,wf,t,dv,w,v,rfl,hk,ht,rf,se,ty,kk⟩:=h;have hU:=hr.units;have h_M:Room (8) _:=hr.mono (by decide);have h_h:Room (9) _:=hr.mono (by decide)
   refine⟨_,(qc (qC (i:=4) sc_Lis.nd rfl (Or.inl rfl) (ql G_M h_M rfl T.d_M.m T.d_M.k T.d_M.b .nil qq (qa (pv 0) qb)))
     (qc (qC (i:=5) sc_Lis.nd rfl (Or.inl rfl) (ql G_h h_h rfl T.d_h.m T.d_h.k T.d_h.b .nil qq (qa (pv 0) (qa (pv 1) qb))))
     (qc (qM (PW.pt (Jt (qB qkx (pv 5) jw (qJ _)) (Jt (qB (uNe hU) (qD (r:=rIx K) qr (pv 5) qf (fun _ _=>rfl)) (qQ (qa (pv 2) qb)) (qJ _)) (Jt (qB (qgc hU) (qD (r:=rIx K) qr (pv 5) qf (fun _ _=>rfl)) (pv 3) (qJ _)) (ZG (qB (uNe hU) (qp zC (by rfl) T.n_isinstance qm (qa (qD (r:=rIx K) qr (pv 5) qf (fun _ _=>rfl)) (qa (Qh (v:=.ty "bool") rfl T.n_bool JC rfl) qb))) (qp zC (by rfl) T.n_isinstance qm (qa (pv 3) (qa (Qh (v:=.ty "bool") rfl T.n_bool JC rfl) qb))) (qJ _)))))))
       (qe (qy zn))
       qv)
     (qe (qy (Jv (qjn hU) (ql G_M h_M rfl T.d_M.m T.d_M.k T.d_M.b .nil qq (qa (pv 0) qb)) (pv 4) (qJ _))))))),?_⟩
   try dsimp only [zf,Cx.nox]
   refine⟨_,rfl,x,td,ed,bl,ps,ns,zs,bs,wf,rfl,hk,fun r H1 fr S1 sn=>?_⟩;have hk1:=hk.sm S1;refine⟨_,rfl,_,rfl,x,td,ed,bl,ps,ns,zs,t,dv,rfl,hk1.lo,S1 _ _ ht,.inl ⟨w,v,rf.same S1,fun rr q H2 S2 hr hq=>?_⟩⟩;have hk2:=hk1.sm S2;have S12:=S1.trans S2;obtain⟨tn,htn⟩:=ty.same S12;(try unfold qA);(try dsimp only);refine⟨_,rfl,rfl,_,rfl,qN rfl ?_⟩;refine⟨_,rfl,.inr (.inl ⟨rr,_,_,_,rfl,rfl,SqT.of hr,rfl,_,rfl,qk (Nat.le_of_ble_eq_true rfl),fun k0 fk0=>?_⟩)⟩;generalize hG:upd H2 k0 _=A1;obtain⟨s1,e1⟩:=qj hG fk0;clear hG;refine .inr ⟨_,_,.lst (.of (s1 _ _ hq)) (.cons (.str _) .nil),.lst (.of e1) (.cons (.str _) .nil),qiX w,qiX w,_,rfl,qN (by rw[SeqAt.eqv_refl _ (SeqAt.canLay_of_shaped (qiX w))];rfl) ?_⟩;refine⟨_,rfl,.inr (.inl ⟨rr,_,_,_,rfl,rfl,SqT.of (s1 _ _ hr),rfl,_,rfl,rfl,(se.same S12).same s1,_,rfl,qN rfl ?_⟩)⟩;have htn1:tyN A1 v=some tn:=(qen s1) htn;refine⟨_,rfl,.inr (.inl ⟨rr,_,_,_,rfl,rfl,SqT.of (s1 _ _ hr),rfl,_,_,_,rfl,(by decide),htn1,_,rfl,_,_,_,rfl,(by decide),htn1,.inl ⟨rfl,_,rfl,?_⟩⟩)⟩;refine qN (by simp) ?_;(try unfold qA);(try dsimp only);refine⟨_,rfl,x,td,ed,bl,ps,ns,zs,bs,wf,rfl,hk2.sm s1,fun r2 H3 fr2 S3 sn2=>?_⟩;obtain⟨xs,ys,q1,q2,q3,q4⟩:=Seen.tw (qfF hk.tb) sn2 (sn.same (S2.trans (s1.trans S3)));exact⟨_,rfl,r2,r,xs,ys,rfl,rfl,q1,q2,q3,q4,kk H3 (S12.trans (s1.trans S3))⟩
end
abbrev abc:Str:="abcdefghijklmnopqrstuvwxyz"
abbrev ch (c:Nat):Str:=⟨#[c]⟩
abbrev chs (cs:List Nat):List Str:=cs.map ch
def Ltr (c:Nat):Prop:=97≤c∧c < 123
theorem qhb {i:Int} (h0:0≤i) (h1:i < 26):atI abc.cps.toList i=some (97+i.toNat):=by
 have:∀ n:Fin 26,atI abc.cps.toList ((n.1:Nat):Int)=some (97+n.1):=by decide +kernel
 have:=this ⟨i.toNat,by omega⟩
 rwa [Int.toNat_of_nonneg h0]at this
theorem qi9 {c:Nat} (h:Ltr c):sgn c=true:=by
 have:∀ n:Fin 26,sgn (97+n.1)=true:=by decide +kernel
 have:=this ⟨c - 97,by have:=h.1;have:=h.2;omega⟩
 rwa [show 97+(c - 97)=c by have:=h.1;omega]at this
theorem qjw:∀ cs:List Nat,(Txt.join "" (chs cs)).cps.toList=cs
 | []=>rfl
 | [c]=>rfl
 | c::d::r=>by
   have ih:=qjw (d::r);have g:∀ ys:List Str,Txt.join "" ys=Str.join "" ys:=fun ys=>StrLaws.glued_eq_join _ _;rw[g]at ih ⊢;show (ch c++("":Str)++Str.join "" (chs (d::r))).cps.toList=_;have e:∀ x y:Str,(x++y).cps.toList=x.cps.toList++y.cps.toList:=fun x y=>Array.toList_append;rw[e,e,ih];rfl
theorem qcY (x y:Str):(x++y).cps.toList=x.cps.toList++y.cps.toList:=Array.toList_append
theorem jI (x:Str):x.length=x.cps.toList.length:=Array.length_toList.symm
theorem qgy (cs:List Nat):(Txt.join "" (chs cs)).length=cs.length:=by rw[jI,qjw]
theorem qjK (cs:List Nat):((chs cs).map (·.length)).sum+(chs cs).length * ("":Str).length=cs.length:=by
 have e:((chs cs).map (·.length)).sum=cs.length:=by
   induction cs with
   | nil=>rfl
   | cons c r ih =>
     show (ch c).length+((chs r).map (·.length)).sum=_;rw[ih];show 1+_=_;rw[List.length_cons];omega
 rw[e];rfl
theorem qhU {x:Str}{cs:List Nat} (e:x.cps.toList=cs) (h1:1≤cs.length) (h8:cs.length≤8) (hl:∀ c∈cs,Ltr c):qY (.str x)=true:=by
 have:x.length=cs.length:=by rw[jI,e]
 simp only[qY,Bool.and_eq_true,decide_eq_true_eq];rw[this,e];exact⟨⟨h1,h8⟩,List.all_eq_true.mpr fun c m=>qi9 (hl c m)⟩
structure Nms (ns:List Str):Prop where
 nm:∀ x∈ns,qY (.str x)=true
 nd:ns.Nodup
theorem qaC {x:Str}{n:Int} (h0:0≤n) (h1:n≤x.length):(Txt.slice x none (some n)).cps.toList=x.cps.toList.take n.toNat:=by
 have e:=beq_iff_eq.mp (slice_closes_to (x:=x) (j:=n) ⟨h0,by rw[Jz];exact h1⟩);rw[e];show (List.take (n - 0).toNat (x.cps.toList.drop 0))=_;rw[Int.sub_zero,List.drop_zero]
def cd (f:Int) (j:Nat):Int:=(f+27 * (j:Int)) % 676
def NmI (f:Int) (xs:List Str):Prop:=∀ (j:Nat) (x:Str),xs[j]?=some x->qY (.str x)=true∧∃ pre,x.cps.toList=pre++[97+(cd f j / 26).toNat,97+(cd f j % 26).toNat]
theorem NmI.nil {f:Int}:NmI f []:=fun j x e=>by cases e
theorem NmI.snoc {f:Int}{xs:List Str}{x:Str} (h:NmI f xs) (h1:qY (.str x)=true) {pre:List Nat} (h2:x.cps.toList=pre++[97+(cd f xs.length / 26).toNat,97+(cd f xs.length % 26).toNat]):NmI f (xs++[x]):=fun j y e=>by
 by_cases hj:j < xs.length
 · rw[List.getElem?_append_left hj]at e;exact h j y e
 · rw[List.getElem?_append_right (by omega)]at e
   have hj2:j=xs.length:=by
     have:=(List.getElem?_eq_some_iff.mp e).1
     simp at this;omega
   subst hj2;rw[Nat.sub_self]at e;cases e;exact⟨h1,pre,h2⟩
theorem NmI.end_ {f:Int}{xs:List Str} (h:NmI f xs) (hl:xs.length≤76):Nms xs:=by
 refine⟨fun x m=>?_,?_⟩
 · obtain⟨j,hj⟩:=List.getElem?_of_mem m;exact(h j x hj).1
 · rw[List.Nodup,List.pairwise_iff_getElem];intro i j hi hj hij e;obtain⟨_,s1,e1⟩:=h i _ (List.getElem?_eq_getElem hi);obtain⟨_,s2,e2⟩:=h j _ (List.getElem?_eq_getElem hj);rw[e,e2]at e1;obtain⟨_,e3⟩:=List.append_inj' e1 rfl;injection e3 with e4 e5;injection e5 with e5 _;unfold cd at e4 e5;omega
inductive Q8 (vs:List V) (H:Hp) (Q:VK):Prop
 | mk (p:Addr) (many:Int) (h1:vs=[.ref p,.int many]) (h2:PenAt H p) (h3:0≤many) (h4:many≤76) (h5:∀ (q:Addr) (ns:List Str) (H':Hp),H q=none->But p H H'->PenAt H' p->H' q=some (.lst (ns.map V.str))->(ns.length:Int)=many->Nms ns->Q (.ref q) H'):Q8 vs H Q
def jh:Sp:=fun vs H Q _=>Q8 vs H Q
structure Odd (p:Addr) (H:Hp) (v:V):Prop where
 th:Thing H v
 se:SelfN H v
 np:v≠.ref p
section
variable {p:Addr}{H:Hp}
theorem qcL:Odd p H .non:=⟨⟨⟨_,rfl⟩,fun x e=>nomatch e⟩,.flat rfl,fun e=>nomatch e⟩
theorem J8 (b:Bool):Odd p H (.bl b):=⟨⟨⟨_,rfl⟩,fun x e=>nomatch e⟩,.flat rfl,fun e=>nomatch e⟩
theorem zA (i:Int):Odd p H (.int i):=⟨⟨⟨_,rfl⟩,fun x e=>nomatch e⟩,.flat rfl,fun e=>nomatch e⟩
theorem Qk {x:Str} (h:x.length≤2000):Odd p H (.str x):=⟨qc3 h,.flat rfl,fun e=>nomatch e⟩
theorem Jy {q:Addr}{xs:List V} (h:H q=some (.lst xs)) (n:q≠p):Odd p H (.ref q):=⟨⟨⟨"list",by simp only[tyN];rw[h]⟩,fun x e=>nomatch e⟩,.lst h,fun e=>n (by injection e)⟩
theorem qba {q:Addr}{xs:List V} (h:H q=some (.tup xs)) (n:q≠p):Odd p H (.ref q):=⟨⟨⟨"tuple",by simp only[tyN];rw[h]⟩,fun x e=>nomatch e⟩,.tup h,fun e=>n (by injection e)⟩
theorem qbb {q:Addr} (h:H q=some (.dK [])) (n:q≠p):Odd p H (.ref q):=⟨⟨⟨"dict",by simp only[tyN];rw[h]⟩,fun x e=>nomatch e⟩,.dct h,fun e=>n (by injection e)⟩
theorem Odd.same {H':Hp}{v:V} (h:Odd p H v) (s:Same H H'):Odd p H' v:=⟨h.th.same s,h.se.same s,h.np⟩
theorem Odd.but {H':Hp}{v:V} (h:Odd p H v) (b:But p H H'):Odd p H' v:=by
 obtain⟨⟨⟨t,ht⟩,hs⟩,se,np⟩:=h
 cases se with
 | flat se =>
   refine⟨⟨⟨t,?_⟩,hs⟩,.flat se,np⟩
   cases v with
   | ref q=>cases se
   | _=>exact ht
 | lst e=>exact Jy (b _ _ e fun z=>np (by rw[z])) fun z=>np (by rw[z])
 | tup e=>exact qba (b _ _ e fun z=>np (by rw[z])) fun z=>np (by rw[z])
 | dct e=>exact qbb (b _ _ e fun z=>np (by rw[z])) fun z=>np (by rw[z])
end
def qi6 (ok:V->Prop):Sp:=fun vs H Q _=>∃ p:Addr,vs=[.ref p]∧PenAt H p∧∀ (v:V) (H':Hp),But p H H'->PenAt H' p->Odd p H' v->ok v->Q v H'
abbrev QU:Sp:=qi6 fun v=>qY v=false
abbrev jg:Sp:=qi6 fun v=>zu v (-2000000000) 2000000001=false
abbrev jX:Sp:=qi6 fun v=>zu v 0 1000000000=false
inductive Zx (vs:List V) (H:Hp) (Q:VK):Prop
 | mk (p:Addr) (n:Int) (h1:vs=[.ref p,.int n]) (h2:0≤n) (h3:n≤100) (h4:PenAt H p) (h5:∀ (v:V) (H':Hp),But p H H'->PenAt H' p->Odd p H' v->zu v 0 (n - 1)=false->Q v H'):Zx vs H Q
def jW:Sp:=fun vs H Q _=>Zx vs H Q
theorem zX {i lo hi:Int} (h:hi < i):zu (.int i) lo hi=false:=by
 show (decide (lo≤i) && decide (i≤hi))=false;rw[decide_eq_false (p:=i≤hi) (by omega),Bool.and_false]
theorem Zh {i lo hi:Int} (h:i < lo):zu (.int i) lo hi=false:=by
 show (decide (lo≤i) && decide (i≤hi))=false;rw[decide_eq_false (p:=lo≤i) (by omega),Bool.false_and]
section
variable {P:Program}{w:World}{K:Frag}{mg:Str->Option Value}{base:Heap}
theorem qbM {a:Ad} (T:Txt K mg a):qu P w K mg base CX0 3 a.f_1 a.fd_1 ["_law_state","_law_many"] jh:=by
 have G_a:=zL (P:=P) (w:=w) (base:=base) T;refine T.d_1.F.ok sc_Lmany_names (fun vs H Q E h=>?_) (fun cdv A outer s H vs Q E hr h=>?_)
 · obtain⟨p,many,rfl,hp,many0,many1,kk⟩:=h;rfl
 · obtain⟨p,many,rfl,hp,many0,many1,kk⟩:=h;have h_a:Room (2) _:=hr.mono (by decide)
   refine⟨_,(qc (qC (i:=2) sc_Lmany_names.nd rfl (Or.inr rfl) qt)
     (qc (qC (i:=3) sc_Lmany_names.nd rfl (Or.inl rfl) (qe6 PySem.F.plainAttrs_str PySem.F.slot_str_join PySem.F.type_str_join qju qt (qa (Ju rfl (CompOk.def ["_law_k","_law_letters","_law_state"] [none,some 2,some 0]) (Qg rfl T.n_range (qa qf qb)) (fun _ _ _ _ _=>(qU (i:=0) (show List.Nodup (["_law_k","_law_letters","_law_state"]:List Str) by decide +kernel) rfl (Or.inl rfl))) (fun _ _ _ _ _=>qd4) (fun _ _ _ _ _=>(qD (r:=rIx K) qr (pv 1) (ql G_a h_a rfl T.d_a.m T.d_a.k T.d_a.b .nil qq (qa (pv 2) (qa qf qb))) (fun _ _=>rfl)))) qb)))
     (qc (qC (i:=4) sc_Lmany_names.nd rfl (Or.inl rfl) (ql G_a h_a rfl T.d_a.m T.d_a.k T.d_a.b .nil qq (qa (pv 0) (qa qf qb))))
     (qc (qC (i:=5) sc_Lmany_names.nd rfl (Or.inl rfl) (qH qab qf (ql G_a h_a rfl T.d_a.m T.d_a.k T.d_a.b .nil qq (qa (pv 0) (qa qf qb)))))
     (qc (qC (i:=6) sc_Lmany_names.nd rfl (Or.inl rfl) (qQ qb))
     (qc (Qe PassesOwn.never rfl (Qg rfl T.n_range (qa (pv 1) qb)) (qU (i:=7) (sc_Lmany_names.nd) rfl (Or.inl rfl))
       (qc (qC (i:=8) sc_Lmany_names.nd rfl (Or.inl rfl) (qH jy (qH qab (pv 4) (qH QQ qf (pv 7))) qf))
       (qc (qC (i:=9) sc_Lmany_names.nd rfl (Or.inl rfl) (zK uSl (pv 3) QX (Qf (qH jy (qH QQ (pv 5) (pv 7)) qf))))
       (qe (qx (qe6 PySem.F.plainAttrs_list PySem.F.slot_list_append PySem.F.type_list_append ZP (pv 6) (qa (qH qab (qH qab (pv 9) (qD (r:=rIx K) qr (pv 2) (qH qge (pv 8) qf) (fun _ _=>rfl))) (qD (r:=rIx K) qr (pv 2) (qH jy (pv 8) qf) (fun _ _=>rfl))) qb)))))))
     (qe (qy (pv 6))))))))),?_⟩
   try dsimp only [zf,Cx.nox]
   refine⟨rfl,_,rfl,by decide,by decide,fun D fD=>?_⟩;have nD:D≠p:=hp.ne fD;refine qfi (lo:=0) (n:=(6:Int).toNat) (D:=D) (fun i σ H2=>∃ (s0:Option V) (cs:List Nat),σ=[s0,some (.str abc),some (.ref p)]∧But p H H2∧PenAt H2 p∧H2 D=some (.lst ((chs cs).map V.str))∧cs.length=i∧∀ c∈cs,Ltr c)
     ⟨none,[],rfl,fun b o z n=>by rw[qg (qi z fD)];exact z,hp.upd nD _,qd,rfl,fun y hy=>nomatch hy⟩ ?_ ?_
   · rintro i σ H2 hi ⟨s0,cs,rfl,t2,p2,hD,hl,hc⟩;have hi6:i < 6:=hi;refine⟨_,rfl,_,rfl,p,_,rfl,p2,by decide,by decide,fun d H3 d0 d1 B3 p3=>?_⟩;refine .inr (.inr ⟨_,_,_,rfl,rfl,qk (by decide +kernel),qhb d0 d1,?_⟩);refine⟨_,B3 _ _ hD nD,zc (by rw[List.length_map,List.length_map];omega),?_⟩;refine⟨_,cs++[97+d.toNat],rfl,?_,p3.upd nD _,?_,?_,?_⟩
     · intro b o z n;rw[qg (qi z fD)];exact B3 b o (t2 b o z n) n
     · rw[qd];simp only[chs,List.map_append];rfl
     · rw[List.length_append,hl];rfl
     · intro c hm;rcases List.mem_append.mp hm with z|z
       · exact hc c z
       · rw[show c=97+d.toNat by simpa using z];exact⟨by omega,by omega⟩
   rintro σ H2 ⟨s0,cs,rfl,T2,pC,hD,hl,hc⟩;refine⟨_,D,_,rfl,rfl,SqL.of hD,(by rw[qjK,hl];decide),?_⟩;have ewx:=qjw cs;have lwx:(Txt.join "" (chs cs)).length=6:=by rw[qgy,hl];rfl
   try unfold qA
   try dsimp only
   generalize Txt.join "" (chs cs)=wx at ewx lwx ⊢;have p0:PenAt H2 p:=pC;have t0:But p H2 H2:=But.refl p H2;refine⟨_,rfl,p,_,rfl,p0,by decide,by decide,fun fi G1 fi0 fi1 u1 p1=>?_⟩;have t1:=t0.trans u1;refine⟨_,rfl,p,_,rfl,p1,by decide,by decide,fun sx G2 sx0 sx1 u2 p2=>?_⟩;have t2:=t1.trans u2;refine .inl ⟨_,_,rfl,rfl,?_⟩;(try unfold qA);(try dsimp only);obtain⟨st,hst⟩:∃ st:Int,st=1+sx:=⟨_,rfl⟩
   rw[← hst];refine⟨(qk (Nat.le_of_ble_eq_true rfl)),fun q f_q=>?_⟩;have n_q:q≠p:=p2.ne f_q;have e_q:(upd G2 q (.lst [])) q=some (.lst []):=qd;have p3:PenAt (upd G2 q (.lst [])) p:=p2.upd n_q _;have u3:Same G2 (upd G2 q (.lst [])):=Same.new _ f_q;have t3:=t2.same u3;(try dsimp only);generalize upd G2 q (.lst [])=G3 at e_q p3 u3 t3 ⊢;have fq0:H q=none:=T2.none ((t2).none f_q n_q) n_q;have B0:But p H G3:=T2.trans t3;(try unfold qA);(try dsimp only);refine⟨_,rfl,_,rfl,by omega,by omega,QR (lo:=0) (D:={ nx:=qim (qjO 6) { nx:=fun _ H'=>Q .non H',rt:=Q },rt:=Q }) (fun i σ H3=>∃ (s7 s8 s9:Option V) (xs:List Str),σ=[some (.ref p),some (.int many),some (.str abc),some (.str wx),some (.int fi),some (.int st),some (.ref q),s7,s8,s9]∧But p H H3∧PenAt H3 p∧H3 q=some (.lst (xs.map V.str))∧xs.length=i∧NmI fi xs) ⟨_,_,_,[],rfl,B0,p3,e_q,rfl,.nil⟩ ?_ ?_⟩
   · rintro i σ H3 hi ⟨s7,s8,s9,xs,rfl,B,pB,hq3,lx,nm⟩;refine⟨_,rfl,_,rfl,_,_,rfl,rfl,.inl ⟨by decide,by decide⟩,.inl ⟨_,_,rfl,rfl,_,_,rfl,rfl,(by show (0:Int) < _;decide),?_⟩⟩;have c0:0≤(fi+27 * (0+(i:Int))) % 676:=Int.emod_nonneg _ (by decide);have c1:(fi+27 * (0+(i:Int))) % 676 < 676:=Int.emod_lt_of_pos _ (by decide);have ec:(fi+27 * (0+(i:Int))) % 676=cd fi xs.length:=by unfold cd;rw[lx,Int.zero_add]
     try unfold qA
     try dsimp only
     generalize (fi+27 * (0+(i:Int))) % 676=c at c0 c1 ec ⊢;have m0:0≤st * (0+(i:Int)) % 7:=Int.emod_nonneg _ (by decide);have m1:st * (0+(i:Int)) % 7 < 7:=Int.emod_lt_of_pos _ (by decide);refine⟨_,rfl,_,rfl,_,rfl,_,_,rfl,rfl,.inl ⟨by omega,by omega⟩,_,_,rfl,rfl,(by show (0:Int) < _;decide),_,rfl,.inr ⟨wx,rfl,qk (by rw[lwx];decide),?_⟩⟩;(try unfold qA);(try dsimp only);generalize st * (0+(i:Int)) % 7=m at m0 m1 ⊢;have eS:=qaC (x:=wx) m0 (by rw[lwx];omega)
     have lS:(Txt.slice wx none (some m)).length≤6:=by
       rw[jI,eS,List.length_take];omega
     have cS:∀ y∈(Txt.slice wx none (some m)).cps.toList,Ltr y:=fun y my=>by
       rw[eS,ewx]at my;exact hc y (List.mem_of_mem_take my)
     generalize Txt.slice wx none (some m)=pre at eS lS cS;refine⟨_,rfl,.inl ⟨rfl,_,SqL.of hq3⟩,_,rfl,_,rfl,_,rfl,_,_,rfl,rfl,⟨by decide,by decide⟩,.inr (.inr ⟨_,_,_,rfl,rfl,qk (by decide +kernel),qhb (by omega) (by omega),?_⟩)⟩;refine .inr (.inr ⟨_,_,rfl,rfl,qk (by show pre.length+1≤1000;omega),?_⟩);refine⟨_,rfl,_,rfl,_,_,rfl,rfl,(by show (0:Int) < _;decide),.inr (.inr ⟨_,_,_,rfl,rfl,qk (by decide +kernel),qhb (Int.emod_nonneg _ (by decide)) (Int.emod_lt_of_pos _ (by decide)),?_⟩)⟩
     have ex1:(pre++ch (97+(c / 26).toNat)).length=pre.length+1:=by
       rw[jI,qcY,List.length_append,← jI];rfl
     refine .inr (.inr ⟨_,_,rfl,rfl,qk (by show (pre++ch (97+(c / 26).toNat)).length+1≤1000;rw[ex1];omega),?_⟩);refine⟨q,_,_,rfl,rfl,hq3,zc (by rw[List.length_map];omega),?_⟩
     have ex:(pre++ch (97+(c / 26).toNat)++ch (97+(c % 26).toNat)).cps.toList=pre.cps.toList++[97+(cd fi xs.length / 26).toNat,97+(cd fi xs.length % 26).toNat]:=by
       rw[qcY,qcY,← ec,List.append_assoc];rfl
     refine⟨_,_,_,xs++[_],rfl,?_,pB.upd n_q _,(by rw[qd,List.map_append];rfl),(by rw[List.length_append,lx];rfl),nm.snoc (qhU ex ?_ ?_ ?_) ex⟩
     · intro b o z nb;rw[qg (qi z fq0)];exact B b o z nb
     · rw[List.length_append];show 1≤_+2;omega
     · rw[List.length_append,← jI];show _+2≤8;omega
     · intro y hm;rcases List.mem_append.mp hm with z|z
       · exact cS y z
       · simp only[List.mem_cons,List.not_mem_nil,or_false]at z;rw[← ec]at z;rcases z with rfl|rfl
         · exact⟨by omega,by omega⟩
         · exact⟨by omega,by omega⟩
   · rintro σ H3 ⟨s7,s8,s9,xs,rfl,B,pB,hq3,lx,nm⟩;exact⟨_,rfl,kk q xs H3 fq0 B pB hq3 (by rw[lx];omega) (nm.end_ (by omega))⟩
theorem jG {a:Ad} (T:Txt K mg a):qu P w K mg base CX0 3 a.f_m a.fd_m ["_law_state"] QU:=by
 have G_a:=zL (P:=P) (w:=w) (base:=base) T;refine T.d_m.F.ok sc_Lstrange (fun vs H Q E h=>?_) (fun cdv A outer s H vs Q E hr h=>?_)
 · obtain⟨p,rfl,hp,kk⟩:=h;rfl
 · obtain⟨p,rfl,hp,kk⟩:=h;have h_a:Room (2) _:=hr.mono (by decide)
   refine⟨_,(@qc _ _ _ _ _ (by exact(@qC _ _ 1 _ _ _ _ (by exact sc_Lstrange.nd) (by rfl) (by exact(Or.inl rfl)) (by exact(@qQ _ _ _ _ (by exact(@qa _ _ _ _ _ (by exact jw) (by exact(@qa _ _ _ _ _ (by exact qt) (by exact(@qa _ _ _ _ _ (by exact qt) (by exact(@qa _ _ _ _ _ (by exact qt) (by exact(@qa _ _ _ _ _ (by exact qt) (by exact(@qa _ _ _ _ _ (by exact qf) (by exact(@qa _ _ _ _ _ (by exact zn) (by exact(@qa _ _ _ _ _ (by exact(qQ (qa qt qb))) (by exact(@qa _ _ _ _ _ (by exact(qS (qa qt qb))) (by exact(@qa _ _ _ _ _ (by exact ZV) (by exact(@qa _ _ _ _ _ (by exact qf) (by exact(@qa _ _ _ _ _ (by exact qt) (by exact(@qa _ _ _ _ _ (by exact(qQ qb)) (by exact(@qa _ _ _ _ _ (by exact zn) (by exact(@qb _)) (by rfl))) (by rfl))) (by rfl))) (by rfl))) (by rfl))) (by rfl))) (by rfl))) (by rfl))) (by rfl))) (by rfl))) (by rfl))) (by rfl))) (by rfl))) (by rfl))))) (by rfl) (by exact .inl rfl)))
     (by exact(qe (qy (qD (r:=rIx K) qr (pv 1) (ql G_a h_a rfl T.d_a.m T.d_a.k T.d_a.b .nil qq (qa (pv 0) (qa (qp qR (by rfl) T.n_len qE (qa (pv 1) qb)) qb))) (fun _ _=>rfl)))))),?_⟩
   try dsimp only [zf,Cx.nox]
   have p0:PenAt H p:=hp;have t0:But p H H:=But.refl p H;refine⟨qk (Nat.le_of_ble_eq_true rfl),fun b1 fb1=>?_⟩;have n_b1:b1≠p:=p0.ne fb1;generalize hG:upd H b1 _=G1;obtain⟨u1,e_b1⟩:=qj hG fb1;clear hG;have p1:=p0.same u1;have t1:=t0.same u1;refine⟨qk (Nat.le_of_ble_eq_true rfl),fun b2 fb2=>?_⟩;have n_b2:b2≠p:=p1.ne fb2;generalize hG:upd G1 b2 _=G2;obtain⟨u2,e_b2⟩:=qj hG fb2;clear hG;have p2:=p1.same u2;have t2:=t1.same u2;refine fun b3 fb3=>?_;have n_b3:b3≠p:=p2.ne fb3;generalize hG:upd G2 b3 _=G3;obtain⟨u3,e_b3⟩:=qj hG fb3;clear hG;have p3:=p2.same u3;have t3:=t2.same u3;refine⟨qk (Nat.le_of_ble_eq_true rfl),fun b4 fb4=>?_⟩;have n_b4:b4≠p:=p3.ne fb4;generalize hG:upd G3 b4 _=G4;obtain⟨u4,e_b4⟩:=qj hG fb4;clear hG;have p4:=p3.same u4;have t4:=t3.same u4;refine⟨qk (Nat.le_of_ble_eq_true rfl),fun q fq=>?_⟩;have n_q:q≠p:=p4.ne fq;generalize hG:upd G4 q _=G5;obtain⟨u5,e_q⟩:=qj hG fq;clear hG;have e_q:G5 q=some (.lst [.non,.str "",.str "abcdefghi",.str "A",.str "a1",.int 7,.bl true,.ref b1,.ref b2,.ref b3,.int 0,.str "a b",.ref b4,.bl false]):=e_q;have p5:=p4.same u5;have t5:=t4.same u5;(try unfold qA);(try dsimp only);refine⟨_,rfl,_,rfl,_,rfl,_,_,rfl,.inl ⟨_,SqL.of e_q,rfl⟩,p,_,rfl,p5,(by show (0:Int) < 14;decide),(by show (14:Int) < _;decide),fun d G6 d0 d1 u6 p6=>?_⟩;have t6:=t5.trans u6;obtain⟨v,hv,mv⟩:=zS (xs:=([.non,.str "",.str "abcdefghi",.str "A",.str "a1",.int 7,.bl true,.ref b1,.ref b2,.ref b3,.int 0,.str "a b",.ref b4,.bl false]:List V)) d0 d1;refine .inl ⟨q,_,_,_,rfl,rfl,SqL.of (u6 _ _ e_q n_q),hv,kk v _ t6 p6 ?_ ?_⟩
   · simp only[List.mem_cons,List.not_mem_nil,or_false]at mv;rcases mv with rfl|rfl|rfl|rfl|rfl|rfl|rfl|rfl|rfl|rfl|rfl|rfl|rfl|rfl
     · exact qcL
     · exact Qk (by decide +kernel)
     · exact Qk (by decide +kernel)
     · exact Qk (by decide +kernel)
     · exact Qk (by decide +kernel)
     · exact zA _
     · exact J8 _
     · exact Jy (u6 _ _ (u5 _ _ (u4 _ _ (u3 _ _ (u2 _ _ e_b1)))) n_b1) n_b1
     · exact qba (u6 _ _ (u5 _ _ (u4 _ _ (u3 _ _ e_b2))) n_b2) n_b2
     · exact qbb (u6 _ _ (u5 _ _ (u4 _ _ e_b3)) n_b3) n_b3
     · exact zA _
     · exact Qk (by decide +kernel)
     · exact Jy (u6 _ _ (u5 _ _ e_b4) n_b4) n_b4
     · exact J8 _
   · simp only[List.mem_cons,List.not_mem_nil,or_false]at mv;rcases mv with rfl|rfl|rfl|rfl|rfl|rfl|rfl|rfl|rfl|rfl|rfl|rfl|rfl|rfl
     · exact rfl
     · exact(by decide +kernel)
     · exact(by decide +kernel)
     · exact(by decide +kernel)
     · exact(by decide +kernel)
     · exact rfl
     · exact rfl
     · exact rfl
     · exact rfl
     · exact rfl
     · exact rfl
     · exact(by decide +kernel)
     · exact rfl
     · exact rfl
theorem qbL {a:Ad} (T:Txt K mg a):qu P w K mg base CX0 3 a.f_N a.fd_N ["_law_state"] jg:=by
 have G_a:=zL (P:=P) (w:=w) (base:=base) T;refine T.d_N.F.ok sc_Lno_minutes (fun vs H Q E h=>?_) (fun cdv A outer s H vs Q E hr h=>?_)
 · obtain⟨p,rfl,hp,kk⟩:=h;rfl
 · obtain⟨p,rfl,hp,kk⟩:=h;have h_a:Room (2) _:=hr.mono (by decide)
   refine⟨_,(@qc _ _ _ _ _ (by exact(@qC _ _ 1 _ _ _ _ (by exact sc_Lno_minutes.nd) (by rfl) (by exact(Or.inl rfl)) (by exact(@qQ _ _ _ _ (by exact(@qa _ _ _ _ _ (by exact(qH qab (qH QQ qf (qH jx qf qf)) qf)) (by exact(@qa _ _ _ _ _ (by exact(qH Jc (qH Jc qf (qH QQ qf (qH jx qf qf))) qf)) (by exact(@qa _ _ _ _ _ (by exact(qH jx qf qf)) (by exact(@qa _ _ _ _ _ (by exact(qH Jc qf (qH jx qf qf))) (by exact(@qa _ _ _ _ _ (by exact zn) (by exact(@qa _ _ _ _ _ (by exact zn) (by exact(@qa _ _ _ _ _ (by exact jw) (by exact(@qa _ _ _ _ _ (by exact qt) (by exact(@qa _ _ _ _ _ (by exact(qQ (qa qf qb))) (by exact(@qa _ _ _ _ _ (by exact(qS (qa qf qb))) (by exact(@qa _ _ _ _ _ (by exact ZV) (by exact(@qa _ _ _ _ _ (by exact qt) (by exact(@qb _)) (by rfl))) (by rfl))) (by rfl))) (by rfl))) (by rfl))) (by rfl))) (by rfl))) (by rfl))) (by rfl))) (by rfl))) (by rfl))) (by rfl))))) (by rfl) (by exact .inl rfl)))
     (by exact(qe (qy (qD (r:=rIx K) qr (pv 1) (ql G_a h_a rfl T.d_a.m T.d_a.k T.d_a.b .nil qq (qa (pv 0) (qa (qp qR (by rfl) T.n_len qE (qa (pv 1) qb)) qb))) (fun _ _=>rfl)))))),?_⟩
   try dsimp only [zf,Cx.nox]
   have p0:PenAt H p:=hp;have t0:But p H H:=But.refl p H;refine⟨_,_,rfl,rfl,⟨by decide,by decide,by decide⟩,_,_,rfl,rfl,.inl ⟨by decide,by decide⟩,.inl ⟨_,_,rfl,rfl,?_⟩⟩;refine⟨_,_,rfl,rfl,⟨by decide,by decide,by decide⟩,_,_,rfl,rfl,.inl ⟨by decide,by decide⟩,_,_,rfl,rfl,_,_,rfl,rfl,_,_,rfl,rfl,⟨by decide,by decide,by decide⟩,_,_,rfl,rfl,⟨by decide,by decide,by decide⟩,_,_,rfl,rfl,?_⟩;refine⟨qk (Nat.le_of_ble_eq_true rfl),fun b1 fb1=>?_⟩;have n_b1:b1≠p:=p0.ne fb1;generalize hG:upd H b1 _=G1;obtain⟨u1,e_b1⟩:=qj hG fb1;clear hG;have p1:=p0.same u1;have t1:=t0.same u1;refine⟨qk (Nat.le_of_ble_eq_true rfl),fun b2 fb2=>?_⟩;have n_b2:b2≠p:=p1.ne fb2;generalize hG:upd G1 b2 _=G2;obtain⟨u2,e_b2⟩:=qj hG fb2;clear hG;have p2:=p1.same u2;have t2:=t1.same u2;refine fun b3 fb3=>?_;have n_b3:b3≠p:=p2.ne fb3;generalize hG:upd G2 b3 _=G3;obtain⟨u3,e_b3⟩:=qj hG fb3;clear hG;have p3:=p2.same u3;have t3:=t2.same u3;refine⟨qk (Nat.le_of_ble_eq_true rfl),fun q fq=>?_⟩;have n_q:q≠p:=p3.ne fq;generalize hG:upd G3 q _=G4;obtain⟨u4,e_q⟩:=qj hG fq;clear hG;have e_q:G4 q=some (.lst [.int 2000000002,.int (-2000000001),.int 100000000000000000000000000000,.int (-100000000000000000000000000000),.bl true,.bl false,.non,.str "3",.ref b1,.ref b2,.ref b3,.str ""]):=e_q;have p4:=p3.same u4;have t4:=t3.same u4;(try unfold qA);(try dsimp only);refine⟨_,rfl,_,rfl,_,rfl,_,_,rfl,.inl ⟨_,SqL.of e_q,rfl⟩,p,_,rfl,p4,(by show (0:Int) < 12;decide),(by show (12:Int) < _;decide),fun d G5 d0 d1 u5 p5=>?_⟩;have t5:=t4.trans u5;obtain⟨v,hv,mv⟩:=zS (xs:=([.int 2000000002,.int (-2000000001),.int 100000000000000000000000000000,.int (-100000000000000000000000000000),.bl true,.bl false,.non,.str "3",.ref b1,.ref b2,.ref b3,.str ""]:List V)) d0 d1;refine .inl ⟨q,_,_,_,rfl,rfl,SqL.of (u5 _ _ e_q n_q),hv,kk v _ t5 p5 ?_ ?_⟩
   · simp only[List.mem_cons,List.not_mem_nil,or_false]at mv;rcases mv with rfl|rfl|rfl|rfl|rfl|rfl|rfl|rfl|rfl|rfl|rfl|rfl
     · exact zA _
     · exact zA _
     · exact zA _
     · exact zA _
     · exact J8 _
     · exact J8 _
     · exact qcL
     · exact Qk (by decide +kernel)
     · exact Jy (u5 _ _ (u4 _ _ (u3 _ _ (u2 _ _ e_b1))) n_b1) n_b1
     · exact qba (u5 _ _ (u4 _ _ (u3 _ _ e_b2)) n_b2) n_b2
     · exact qbb (u5 _ _ (u4 _ _ e_b3) n_b3) n_b3
     · exact Qk (by decide +kernel)
   · simp only[List.mem_cons,List.not_mem_nil,or_false]at mv;rcases mv with rfl|rfl|rfl|rfl|rfl|rfl|rfl|rfl|rfl|rfl|rfl|rfl
     · exact zX (by decide)
     · exact Zh (by decide)
     · exact zX (by decide)
     · exact Zh (by decide)
     · exact rfl
     · exact rfl
     · exact rfl
     · exact rfl
     · exact rfl
     · exact rfl
     · exact rfl
     · exact rfl
theorem qcJ {a:Ad} (T:Txt K mg a):qu P w K mg base CX0 3 a.f_4 a.fd_4 ["_law_state"] jX:=by
 have G_a:=zL (P:=P) (w:=w) (base:=base) T;refine T.d_4.F.ok sc_Lno_moment (fun vs H Q E h=>?_) (fun cdv A outer s H vs Q E hr h=>?_)
 · obtain⟨p,rfl,hp,kk⟩:=h;rfl
 · obtain⟨p,rfl,hp,kk⟩:=h;have h_a:Room (2) _:=hr.mono (by decide)
   refine⟨_,(@qc _ _ _ _ _ (by exact(@qC _ _ 1 _ _ _ _ (by exact sc_Lno_moment.nd) (by rfl) (by exact(Or.inl rfl)) (by exact(@qQ _ _ _ _ (by exact(@qa _ _ _ _ _ (by exact(qah QZ qf)) (by exact(@qa _ _ _ _ _ (by exact(qH qab (qH jx qf qf) qf)) (by exact(@qa _ _ _ _ _ (by exact(qH jx qf qf)) (by exact(@qa _ _ _ _ _ (by exact zn) (by exact(@qa _ _ _ _ _ (by exact zn) (by exact(@qa _ _ _ _ _ (by exact jw) (by exact(@qa _ _ _ _ _ (by exact qt) (by exact(@qa _ _ _ _ _ (by exact(qQ (qa qf qb))) (by exact(@qa _ _ _ _ _ (by exact(qS (qa qf qb))) (by exact(@qa _ _ _ _ _ (by exact ZV) (by exact(@qa _ _ _ _ _ (by exact qt) (by exact(@qb _)) (by rfl))) (by rfl))) (by rfl))) (by rfl))) (by rfl))) (by rfl))) (by rfl))) (by rfl))) (by rfl))) (by rfl))) (by rfl))))) (by rfl) (by exact .inl rfl)))
     (by exact(qe (qy (qD (r:=rIx K) qr (pv 1) (ql G_a h_a rfl T.d_a.m T.d_a.k T.d_a.b .nil qq (qa (pv 0) (qa (qp qR (by rfl) T.n_len qE (qa (pv 1) qb)) qb))) (fun _ _=>rfl)))))),?_⟩
   try dsimp only [zf,Cx.nox]
   have p0:PenAt H p:=hp;have t0:But p H H:=But.refl p H;refine⟨_,rfl,_,_,rfl,rfl,⟨by decide,by decide,by decide⟩,.inl ⟨_,_,rfl,rfl,?_⟩⟩;refine⟨_,_,rfl,rfl,⟨by decide,by decide,by decide⟩,?_⟩;refine⟨qk (Nat.le_of_ble_eq_true rfl),fun b1 fb1=>?_⟩;have n_b1:b1≠p:=p0.ne fb1;generalize hG:upd H b1 _=G1;obtain⟨u1,e_b1⟩:=qj hG fb1;clear hG;have p1:=p0.same u1;have t1:=t0.same u1;refine⟨qk (Nat.le_of_ble_eq_true rfl),fun b2 fb2=>?_⟩;have n_b2:b2≠p:=p1.ne fb2;generalize hG:upd G1 b2 _=G2;obtain⟨u2,e_b2⟩:=qj hG fb2;clear hG;have p2:=p1.same u2;have t2:=t1.same u2;refine fun b3 fb3=>?_;have n_b3:b3≠p:=p2.ne fb3;generalize hG:upd G2 b3 _=G3;obtain⟨u3,e_b3⟩:=qj hG fb3;clear hG;have p3:=p2.same u3;have t3:=t2.same u3;refine⟨qk (Nat.le_of_ble_eq_true rfl),fun q fq=>?_⟩;have n_q:q≠p:=p3.ne fq;generalize hG:upd G3 q _=G4;obtain⟨u4,e_q⟩:=qj hG fq;clear hG;have e_q:G4 q=some (.lst [.int (-1),.int 1000000001,.int 100000000000000000000000000000,.bl true,.bl false,.non,.str "3",.ref b1,.ref b2,.ref b3,.str ""]):=e_q;have p4:=p3.same u4;have t4:=t3.same u4;(try unfold qA);(try dsimp only);refine⟨_,rfl,_,rfl,_,rfl,_,_,rfl,.inl ⟨_,SqL.of e_q,rfl⟩,p,_,rfl,p4,(by show (0:Int) < 11;decide),(by show (11:Int) < _;decide),fun d G5 d0 d1 u5 p5=>?_⟩;have t5:=t4.trans u5;obtain⟨v,hv,mv⟩:=zS (xs:=([.int (-1),.int 1000000001,.int 100000000000000000000000000000,.bl true,.bl false,.non,.str "3",.ref b1,.ref b2,.ref b3,.str ""]:List V)) d0 d1;refine .inl ⟨q,_,_,_,rfl,rfl,SqL.of (u5 _ _ e_q n_q),hv,kk v _ t5 p5 ?_ ?_⟩
   · simp only[List.mem_cons,List.not_mem_nil,or_false]at mv;rcases mv with rfl|rfl|rfl|rfl|rfl|rfl|rfl|rfl|rfl|rfl|rfl
     · exact zA _
     · exact zA _
     · exact zA _
     · exact J8 _
     · exact J8 _
     · exact qcL
     · exact Qk (by decide +kernel)
     · exact Jy (u5 _ _ (u4 _ _ (u3 _ _ (u2 _ _ e_b1))) n_b1) n_b1
     · exact qba (u5 _ _ (u4 _ _ (u3 _ _ e_b2)) n_b2) n_b2
     · exact qbb (u5 _ _ (u4 _ _ e_b3) n_b3) n_b3
     · exact Qk (by decide +kernel)
   · simp only[List.mem_cons,List.not_mem_nil,or_false]at mv;rcases mv with rfl|rfl|rfl|rfl|rfl|rfl|rfl|rfl|rfl|rfl|rfl
     · exact Zh (by decide)
     · exact zX (by decide)
     · exact zX (by decide)
     · exact rfl
     · exact rfl
     · exact rfl
     · exact rfl
     · exact rfl
     · exact rfl
     · exact rfl
     · exact rfl
theorem qcI {a:Ad} (T:Txt K mg a):qu P w K mg base CX0 3 a.f_3 a.fd_3 ["_law_state","_law_many"] jW:=by
 have G_a:=zL (P:=P) (w:=w) (base:=base) T;refine T.d_3.F.ok sc_Lno_number (fun vs H Q E h=>?_) (fun cdv A outer s H vs Q E hr h=>?_)
 · obtain⟨p,m,rfl,m0,m1,hp,kk⟩:=h;rfl
 · obtain⟨p,m,rfl,m0,m1,hp,kk⟩:=h;have h_a:Room (2) _:=hr.mono (by decide)
   refine⟨_,(@qc _ _ _ _ _ (by exact(@qC _ _ 2 _ _ _ _ (by exact sc_Lno_number.nd) (by rfl) (by exact(Or.inl rfl)) (by exact(@qQ _ _ _ _ (by exact(@qa _ _ _ _ _ (by exact(pv 1)) (by exact(@qa _ _ _ _ _ (by exact(qah QZ qf)) (by exact(@qa _ _ _ _ _ (by exact(qH qab (pv 1) qf)) (by exact(@qa _ _ _ _ _ (by exact(qH jx qf qf)) (by exact(@qa _ _ _ _ _ (by exact(qH Jc qf (qH jx qf qf))) (by exact(@qa _ _ _ _ _ (by exact zn) (by exact(@qa _ _ _ _ _ (by exact zn) (by exact(@qa _ _ _ _ _ (by exact jw) (by exact(@qa _ _ _ _ _ (by exact qt) (by exact(@qa _ _ _ _ _ (by exact(qQ (qa qf qb))) (by exact(@qa _ _ _ _ _ (by exact(qS (qa qf qb))) (by exact(@qa _ _ _ _ _ (by exact ZV) (by exact(@qb _)) (by rfl))) (by rfl))) (by rfl))) (by rfl))) (by rfl))) (by rfl))) (by rfl))) (by rfl))) (by rfl))) (by rfl))) (by rfl))) (by rfl))))) (by rfl) (by exact .inl rfl)))
     (by exact(qe (qy (qD (r:=rIx K) qr (pv 2) (ql G_a h_a rfl T.d_a.m T.d_a.k T.d_a.b .nil qq (qa (pv 0) (qa (qp qR (by rfl) T.n_len qE (qa (pv 2) qb)) qb))) (fun _ _=>rfl)))))),?_⟩
   try dsimp only [zf,Cx.nox]
   have p0:PenAt H p:=hp;have t0:But p H H:=But.refl p H;refine⟨_,rfl,_,rfl,_,rfl,.inl ⟨_,_,rfl,rfl,?_⟩⟩;refine⟨_,_,rfl,rfl,⟨by decide,by decide,by decide⟩,_,_,rfl,rfl,⟨by decide,by decide,by decide⟩,_,_,rfl,rfl,?_⟩;refine⟨qk (Nat.le_of_ble_eq_true rfl),fun b1 fb1=>?_⟩;have n_b1:b1≠p:=p0.ne fb1;generalize hG:upd H b1 _=G1;obtain⟨u1,e_b1⟩:=qj hG fb1;clear hG;have p1:=p0.same u1;have t1:=t0.same u1;refine⟨qk (Nat.le_of_ble_eq_true rfl),fun b2 fb2=>?_⟩;have n_b2:b2≠p:=p1.ne fb2;generalize hG:upd G1 b2 _=G2;obtain⟨u2,e_b2⟩:=qj hG fb2;clear hG;have p2:=p1.same u2;have t2:=t1.same u2;refine fun b3 fb3=>?_;have n_b3:b3≠p:=p2.ne fb3;generalize hG:upd G2 b3 _=G3;obtain⟨u3,e_b3⟩:=qj hG fb3;clear hG;have p3:=p2.same u3;have t3:=t2.same u3;refine⟨qk (Nat.le_of_ble_eq_true rfl),fun q fq=>?_⟩;have n_q:q≠p:=p3.ne fq;generalize hG:upd G3 q _=G4;obtain⟨u4,e_q⟩:=qj hG fq;clear hG;have e_q:G4 q=some (.lst [.int m,.int (-1),.int (m+1),.int 100000000000000000000000000000,.int (-100000000000000000000000000000),.bl true,.bl false,.non,.str "0",.ref b1,.ref b2,.ref b3]):=e_q;have p4:=p3.same u4;have t4:=t3.same u4;(try unfold qA);(try dsimp only);refine⟨_,rfl,_,rfl,_,rfl,_,_,rfl,.inl ⟨_,SqL.of e_q,rfl⟩,p,_,rfl,p4,(by show (0:Int) < 12;decide),(by show (12:Int) < _;decide),fun d G5 d0 d1 u5 p5=>?_⟩;have t5:=t4.trans u5;obtain⟨v,hv,mv⟩:=zS (xs:=([.int m,.int (-1),.int (m+1),.int 100000000000000000000000000000,.int (-100000000000000000000000000000),.bl true,.bl false,.non,.str "0",.ref b1,.ref b2,.ref b3]:List V)) d0 d1;refine .inl ⟨q,_,_,_,rfl,rfl,SqL.of (u5 _ _ e_q n_q),hv,kk v _ t5 p5 ?_ ?_⟩
   · simp only[List.mem_cons,List.not_mem_nil,or_false]at mv;rcases mv with rfl|rfl|rfl|rfl|rfl|rfl|rfl|rfl|rfl|rfl|rfl|rfl
     · exact zA _
     · exact zA _
     · exact zA _
     · exact zA _
     · exact zA _
     · exact J8 _
     · exact J8 _
     · exact qcL
     · exact Qk (by decide +kernel)
     · exact Jy (u5 _ _ (u4 _ _ (u3 _ _ (u2 _ _ e_b1))) n_b1) n_b1
     · exact qba (u5 _ _ (u4 _ _ (u3 _ _ e_b2)) n_b2) n_b2
     · exact qbb (u5 _ _ (u4 _ _ e_b3) n_b3) n_b3
   · simp only[List.mem_cons,List.not_mem_nil,or_false]at mv;rcases mv with rfl|rfl|rfl|rfl|rfl|rfl|rfl|rfl|rfl|rfl|rfl|rfl
     · exact zX (by omega)
     · exact Zh (by decide)
     · exact zX (by omega)
     · exact zX (by omega)
     · exact Zh (by decide)
     · exact rfl
     · exact rfl
     · exact rfl
     · exact rfl
     · exact rfl
     · exact rfl
     · exact rfl
end
structure Nfr (nk pk:List Str) (fr:Str):Prop where
 n:∀ k∈nk,qY (.str k)=true
 p:∀ k∈pk,qY (.str k)=true
 f:qY (.str fr)=true
 z:qY (.str (fr++"z"))=true
 fn:fr∉nk
 fp:fr∉pk
theorem qdX {ks:List Str}{v:V} (h:∀ k∈ks,qY (.str k)=true) (o:qY v=false):Unk ks v:=fun s e m=>by
 subst e;rw[h s m]at o;cases o
theorem qfz {ks:List Str}{fr:Str} (h:fr∉ks):Unk ks (.str fr):=fun s e m=>by
 injection e with e;subst e;exact h m
theorem qcc {p:Addr}{H:Hp}{x:Str} (h:qY (.str x)=true):Odd p H (.str x):=Qk (by have:=ZX h;omega)
def spR (a:Ad):Sp:=fun vs H Q _=>∃ (x td ed bl:Addr) (ps ns:List (Str×V)) (zs:List V) (bs:List (Str×Str×Int)) (wf:Str->List (Int×Int)) (p:Addr) (fr:Str) (E:Hp),vs=[.ref x,.ref p,.str fr]∧Gh p E H∧Lk a E x td ed bl ps ns zs bs wf∧Nfr (ns.map (·.1)) (ps.map (·.1)) fr∧∀ H',But p H H'->PenAt H' p->Q (.bl true) H'
abbrev z9 (a:Ad):Sp:=spR a
abbrev Zy (a:Ad):Sp:=spR a
abbrev qw (w:Str×Wd):List V:=[.str w.1,.str w.2.s]
abbrev qws:List (Str×Wd):=[("entry",.entry_),("spans",.entry_),("drop",.entry_),("table",.place_)]
theorem tw4 {H:Hp}{t1 t2 t3 t4:Addr} (h1:H t1=some (.tup (qw ("entry",.entry_)))) (h2:H t2=some (.tup (qw ("spans",.entry_)))) (h3:H t3=some (.tup (qw ("drop",.entry_)))) (h4:H t4=some (.tup (qw ("table",.place_)))):TupL qw H [.ref t1,.ref t2,.ref t3,.ref t4] qws :=
 TupL.snoc (f:=qw) (p:=("table",.place_)) (TupL.snoc (f:=qw) (p:=("drop",.entry_)) (TupL.snoc (f:=qw) (p:=("spans",.entry_)) (TupL.snoc (f:=qw) (p:=("entry",.entry_)) TupL.nil h1) h2) h3) h4
theorem qko {a:Ad}{H:Hp}{pk nk:List Str}{nb:Nat}{w:Str×Wd}{v:V} (m:w∈qws) (t:Typed H v) (u1:Unk nk v) (u2:Unk pk v):Rfd a H pk nk nb [.str w.1,v] w.2 v:=by
 simp only[List.mem_cons,List.not_mem_nil,or_false]at m;rcases m with rfl|rfl|rfl|rfl
 · exact .entry t u1
 · exact .spans t u1
 · exact .drop t u1
 · exact .table t u2
section
variable {P:Program}{w:World}{K:Frag}{mg:Str->Option Value}{base:Heap}
theorem jH {a:Ad} (T:Txt K mg a):qu P w K mg base CX0 11 a.f_5 a.fd_5 ["_law_log","_law_state","_law_free"] (z9 a):=by
 have G_4:=qcJ (P:=P) (w:=w) (base:=base) T;have G_3:=qcI (P:=P) (w:=w) (base:=base) T;have G_a:=zL (P:=P) (w:=w) (base:=base) T;have G_b:=qeL (P:=P) (w:=w) (base:=base) T;have G_m:=jG (P:=P) (w:=w) (base:=base) T;have G_j:=ZM (P:=P) (w:=w) (base:=base) T;refine T.d_5.F.ok sc_Lquestions_right (fun vs H Q E h=>?_) (fun cdv A outer s H vs Q E hr h=>?_)
 · obtain⟨x,td,ed,bl,ps,ns,zs,bs,wf,p,fr,E,rfl,g,hk,nf,kk⟩:=h;rfl
 · obtain⟨x,td,ed,bl,ps,ns,zs,bs,wf,p,fr,E,rfl,g,hk,nf,kk⟩:=h;have h_4:Room (3) _:=hr.mono (by decide);have h_3:Room (3) _:=hr.mono (by decide);have h_a:Room (2) _:=hr.mono (by decide);have h_b:Room (10) _:=hr.mono (by decide);have h_m:Room (3) _:=hr.mono (by decide);have h_j:Room (1) _:=hr.mono (by decide)
   refine⟨_,(@qc _ _ _ _ _ (by exact(@Qe _ _ _ _ _ _ _ _ (by exact PassesOwn.never) (by rfl) (by exact(Qg rfl T.n_range (qa qf qb))) (by exact(qU (i:=3) (sc_Lquestions_right.nd) rfl (Or.inl rfl)))
       (by exact(@qc _ _ _ _ _ (by exact(@qC _ _ 4 _ _ _ _ (by exact sc_Lquestions_right.nd) (by rfl) (by exact(Or.inl rfl)) (by exact(@qD _ _ _ _ _ _ (rIx K) (by exact qr) (by exact(@qQ _ _ _ _ (by exact(@qa _ _ _ _ _ (by exact(ql G_m h_m rfl T.d_m.m T.d_m.k T.d_m.b .nil qq (qa (pv 1) qb))) (by exact(@qa _ _ _ _ _ (by exact(pv 2)) (by exact(@qb _)) (by rfl))) (by rfl))))) (by exact(ql G_a h_a rfl T.d_a.m T.d_a.k T.d_a.b .nil qq (qa (pv 1) (qa qf qb)))) (by exact fun _ _=>rfl))) (by rfl) (by exact .inl rfl)))
       (by exact(@qc _ _ _ _ _ (by exact(@Qe _ _ _ _ _ _ _ _ (by exact PassesOwn.never) (by rfl) (by exact(zO (qQ (qa (qS (qa qt (qa qt qb))) (qa (qS (qa qt (qa qt qb))) (qa (qS (qa qt (qa qt qb))) (qa (qS (qa qt (qa qt qb))) qb))))))) (by exact(qeH rfl (zJ (qU (i:=5) (sc_Lquestions_right.nd) rfl (Or.inl rfl)) (zJ (qU (i:=6) (sc_Lquestions_right.nd) rfl (Or.inl rfl)) qa0))))
         (by exact(@qe _ _ _ (by exact(@qM _ _ _ _ _ _ _ _ (by exact(qV (qP (ql G_b h_b rfl T.d_b.m T.d_b.k T.d_b.b .nil qq (qa (pv 0) (qa (qS (qa (pv 5) (qa (pv 4) qb))) (qa (pv 6) (qa (pv 4) qb))))))))
           (by exact(qe (qy zn)))
           (by exact qv))))) (by intro _;rfl)))
       (by exact(@qc _ _ _ _ _ (by exact(qC (i:=7) sc_Lquestions_right.nd rfl (Or.inl rfl) (ql G_4 h_4 rfl T.d_4.m T.d_4.k T.d_4.b .nil qq (qa (pv 1) qb))))
       (by exact(@qc _ _ _ _ _ (by exact(@qM _ _ _ _ _ _ _ _ (by exact(qV (qP (ql G_b h_b rfl T.d_b.m T.d_b.k T.d_b.b .nil qq (qa (pv 0) (qa (qS (qa qt (qa (pv 7) qb))) (qa qt (qa (pv 7) qb))))))))
         (by exact(qe (qy zn)))
         (by exact qv)))
       (by exact(@qc _ _ _ _ _ (by exact(qC (i:=8) sc_Lquestions_right.nd rfl (Or.inl rfl) (ql G_3 h_3 rfl T.d_3.m T.d_3.k T.d_3.b .nil qq (qa (pv 1) (qa (qp qR (by rfl) T.n_len qE (qa (qK (pv 0) T.cl_Log T.d_j.mt G_j h_j T.d_j.b .nil qq) qb)) qb)))))
       (by exact(@qe _ _ _ (by exact(@qM _ _ _ _ _ _ _ _ (by exact(qV (qP (ql G_b h_b rfl T.d_b.m T.d_b.k T.d_b.b .nil qq (qa (pv 0) (qa (qS (qa qt (qa (pv 8) qb))) (qa qt (qa (pv 8) qb))))))))
         (by exact(qe (qy zn)))
         (by exact qv))))))))))))))) (by intro _;rfl)))
     (by exact(qe (qy zn)))),?_⟩
   try dsimp only [zf,Cx.nox]
   refine⟨_,rfl,by decide,by decide,QR (lo:=0) (D:={ nx:=qim (tC (.bl true)) { nx:=fun _ H'=>Q .non H',rt:=Q },rt:=Q }) (fun i σ H'=>∃ s3 s4 s5 s6 s7 s8:Option V,σ=[some (.ref x),some (.ref p),some (.str fr),s3,s4,s5,s6,s7,s8]∧But p H H'∧PenAt H' p) ⟨_,_,_,_,_,_,rfl,But.refl p H,g.pen⟩ ?_ ?_⟩
   · rintro i σ H1 hi ⟨s3,s4,s5,s6,s7,s8,rfl,B,pB⟩;have p0:PenAt H1 p:=pB;have t0:But p H1 H1:=But.refl p H1;have g1:=g.take B pB;refine⟨_,rfl,p,rfl,p0,fun v G1 u1 p1 ov hv=>?_⟩;have t1:=t0.trans u1;refine⟨_,rfl,qk (Nat.le_of_ble_eq_true rfl),fun l2 fl2=>?_⟩;have n_l2:l2≠p:=p1.ne fl2;generalize hG:upd G1 l2 _=G2;obtain⟨u2,e_l2⟩:=qj hG fl2;clear hG;have e_l2:G2 l2=some (.lst [v,.str fr]):=e_l2;have p2:=p1.same u2;have t2:=t1.same u2;refine⟨_,rfl,p,_,rfl,p2,by decide,by decide,fun d G3 d0 d1 u3 p3=>?_⟩;have t3:=t2.trans u3;obtain⟨z,hz,mz⟩:=zS (xs:=([v,.str fr]:List V)) d0 d1
     have qz:Odd p G3 z∧Unk (ns.map (·.1)) z∧Unk (ps.map (·.1)) z:=by
       simp only[List.mem_cons,List.not_mem_nil,or_false]at mz;rcases mz with rfl|rfl
       · exact⟨((ov.same u2).but u3),qdX nf.n hv,qdX nf.p hv⟩
       · exact⟨qcc nf.f,qfz nf.fn,qfz nf.fp⟩
     refine .inl ⟨l2,_,_,_,rfl,rfl,SqL.of (u3 _ _ e_l2 n_l2),hz,?_⟩;obtain⟨oz,uz1,uz2⟩:=qz;(try unfold qA);(try dsimp only);refine zp (t:=qjQ _ _ _) (fun σ' H'=>∃ s5 s6:Option V,σ'=[some (.ref x),some (.ref p),some (.str fr),some (.int (0+(i:Int))),some z,s5,s6,s7,s8]∧Same G3 H') (fun N hN=>?_) ?_
     · refine⟨qk (Nat.le_of_ble_eq_true rfl),fun t1_ ft1_=>?_⟩;have n_t1_:t1_≠p:=p3.ne ft1_;generalize hG:upd G3 t1_ _=G4;obtain⟨u4,e_t1_⟩:=qj hG ft1_;clear hG;have p4:=p3.same u4;have t4:=t3.same u4;refine⟨qk (Nat.le_of_ble_eq_true rfl),fun t2_ ft2_=>?_⟩;have n_t2_:t2_≠p:=p4.ne ft2_;generalize hG:upd G4 t2_ _=G5;obtain⟨u5,e_t2_⟩:=qj hG ft2_;clear hG;have p5:=p4.same u5;have t5:=t4.same u5;refine⟨qk (Nat.le_of_ble_eq_true rfl),fun t3_ ft3_=>?_⟩;have n_t3_:t3_≠p:=p5.ne ft3_;generalize hG:upd G5 t3_ _=G6;obtain⟨u6,e_t3_⟩:=qj hG ft3_;clear hG;have p6:=p5.same u6;have t6:=t5.same u6;refine⟨qk (Nat.le_of_ble_eq_true rfl),fun t4_ ft4_=>?_⟩;have n_t4_:t4_≠p:=p6.ne ft4_;generalize hG:upd G6 t4_ _=G7;obtain⟨u7,e_t4_⟩:=qj hG ft4_;clear hG;have p7:=p6.same u7;have t7:=t6.same u7;refine⟨qk (Nat.le_of_ble_eq_true rfl),fun L fL=>?_⟩;have n_L:L≠p:=p7.ne fL;generalize hG:upd G7 L _=G8;obtain⟨u8,e_L⟩:=qj hG fL;clear hG;have e_L:G8 L=some (.lst [.ref t1_,.ref t2_,.ref t3_,.ref t4_]):=e_L;have p8:=p7.same u8;have t8:=t7.same u8;have tw:TupL qw G8 [.ref t1_,.ref t2_,.ref t3_,.ref t4_] qws:=tw4 (u8 _ _ (u7 _ _ (u6 _ _ (u5 _ _ e_t1_)))) (u8 _ _ (u7 _ _ (u6 _ _ e_t2_))) (u8 _ _ (u7 _ _ e_t3_)) (u8 _ _ e_t4_);have uu:Same G3 G8:=((((u4.trans u5).trans u6).trans u7).trans u8)
       refine⟨L,rfl,⟨_,SqL.of e_L⟩,Qy (D:={ nx:=N,rt:=Q }) (K:=K) (a:=L) (xs:=[.ref t1_,.ref t2_,.ref t3_,.ref t4_]) (fun j σ H'=>∃ s5 s6:Option V,σ=[some (.ref x),some (.ref p),some (.str fr),some (.int (0+(i:Int))),some z,s5,s6,s7,s8]∧Same G8 H') ⟨_,_,rfl,Same.refl _⟩ (fun j σ H' _ ⟨_,_,_,S⟩=>SqL.of (S _ _ e_L)) ?_ ?_⟩
       · rintro j y σ H2 hy ⟨s5,s6,rfl,S2⟩;obtain⟨w,tt,hw,rfl,htt⟩:=tw.of hy;have g2:=g1.take (t8.same S2) (p8.same S2);have oz2:=(((((oz.same u4).same u5).same u6).same u7).same u8).same S2;refine⟨tt,_,rfl,SqT.of (S2 _ _ htt),rfl,_,_,rfl,_,_,rfl,rfl,?_⟩;(try unfold qA);(try dsimp only);refine⟨_,rfl,_,rfl,_,rfl,qk (Nat.le_of_ble_eq_true rfl),fun k ftk=>?_⟩;generalize hG:upd H2 k _=A1;obtain⟨s1,e1⟩:=qj hG ftk;clear hG;refine⟨_,rfl,_,rfl,x,td,ed,bl,ps,ns,zs,bs,wf,k,_,w.2,z,rfl,hk.sm (g2.same s1).s,e1,qko (List.mem_of_getElem? hw) (oz2.same s1).th.1 uz1 uz2,(oz2.same s1).se,(oz2.same s1).th.1,fun A2 s2=>⟨_,rfl,qN rfl ?_⟩⟩;exact⟨_,_,rfl,(S2.trans s1).trans s2⟩
       · rintro σ H2 ⟨s5,s6,rfl,S2⟩;exact hN _ _ ⟨s5,s6,rfl,uu.trans S2⟩
     rintro _ G4 ⟨s5,s6,rfl,u4⟩;have p4:=p3.same u4;have t4:=t3.same u4;(try unfold qA);(try dsimp only);refine⟨_,rfl,p,rfl,p4,fun m G5 u5 p5 om hm=>?_⟩;have t5:=t4.trans u5;(try unfold qA);(try dsimp only);refine⟨_,rfl,_,rfl,qk (Nat.le_of_ble_eq_true rfl),fun k1 fk1=>?_⟩;have n_k1:k1≠p:=p5.ne fk1;generalize hG:upd G5 k1 _=G6;obtain⟨u6,e_k1⟩:=qj hG fk1;clear hG;have p6:=p5.same u6;have t6:=t5.same u6;refine⟨_,rfl,x,td,ed,bl,ps,ns,zs,bs,wf,k1,_,.moment_,m,rfl,hk.sm (g1.take t6 p6).s,e_k1,(.readings (om.same u6).th.1 hm),(om.same u6).se,(om.same u6).th.1,fun G7 u7=>⟨_,rfl,qN rfl ?_⟩⟩;have p7:=p6.same u7;have t7:=t6.same u7;(try unfold qA);(try dsimp only);obtain⟨dx,hx⟩:=(hk.sm (g1.take t7 p7).s).lo.hx;refine⟨_,rfl,_,rfl,x,dx,_,rfl,hx,rfl,x,td,ed,bl,ps,ns,zs,rfl,(hk.sm (g1.take t7 p7).s).lo,fun bb fbb=>?_⟩;generalize hG:upd G7 bb _=G8;obtain⟨u8,e_bb⟩:=qj hG fbb;clear hG;have p8:=p7.same u8;have t8:=t7.same u8;refine⟨_,_,rfl,.inl ⟨_,SqL.of e_bb,rfl⟩,p,_,rfl,by omega,(by have:=hk.nz;omega),p8,fun y G9 u9 p9 oy hy=>?_⟩;have t9:=t8.trans u9;(try unfold qA);(try dsimp only);refine⟨_,rfl,_,rfl,qk (Nat.le_of_ble_eq_true rfl),fun k2 fk2=>?_⟩;have n_k2:k2≠p:=p9.ne fk2;generalize hG:upd G9 k2 _=G10;obtain⟨u10,e_k2⟩:=qj hG fk2;clear hG;have p10:=p9.same u10;have t10:=t9.same u10;refine⟨_,rfl,x,td,ed,bl,ps,ns,zs,bs,wf,k2,_,.bond_,y,rfl,hk.sm (g1.take t10 p10).s,e_k2,(.unbind (oy.same u10).th.1 hy),(oy.same u10).se,(oy.same u10).th.1,fun G11 u11=>⟨_,rfl,qN rfl ?_⟩⟩;have p11:=p10.same u11;have t11:=t10.same u11;(try unfold qA);(try dsimp only);exact⟨_,_,_,_,_,_,rfl,B.trans t11,p11⟩
   · rintro σ H1 ⟨s3,s4,s5,s6,s7,s8,rfl,B,pB⟩;exact kk H1 B pB
end
theorem qeN {nk:List Str}{fr:Str} (h:fr∉nk):∃ f0,atI ((nk++[fr]).map V.str) 0=some (.str f0)∧(f0=fr∨(f0≠fr∧f0∈nk∧∃ l0∈nk,atI ((nk++[fr]).map V.str) (-2)=some (.str l0))):=by
 cases nk with
 | nil=>exact⟨fr,rfl,.inl rfl⟩
 | cons k ks =>
   have lt:ks.length < (k::ks).length:=Nat.lt_succ_self _;refine⟨k,QB (j:=0) rfl,.inr ⟨fun e=>h (by rw[e];exact List.mem_cons_self),List.mem_cons_self,(k::ks)[ks.length],List.getElem_mem lt,?_⟩⟩;have ln:(((k::ks)++[fr]).map V.str).length=ks.length+2:=by rw[List.length_map,List.length_append];rfl
   have e:ixN (((k::ks)++[fr]).map V.str).length (-2)=some ks.length:=by
     unfold ixN;rw[ln,if_neg (by decide),if_pos (by omega)];congr 1;omega
   unfold atI;rw[e];show (((k::ks)++[fr]).map V.str)[ks.length]?=_;rw[List.getElem?_map,List.getElem?_append_left lt,List.getElem?_eq_getElem lt];rfl
theorem qgk (nk:List Str) (fr:Str):atI ((nk++[fr]).map V.str) (-1)=some (.str fr):=by
 rw[List.map_append];exact L2.atI_last _ _
section
variable {P:Program}{w:World}{K:Frag}{mg:Str->Option Value}{base:Heap}
theorem qa8 {a:Ad} (T:Txt K mg a):qu P w K mg base CX0 11 a.f_6 a.fd_6 ["_law_log","_law_state","_law_free"] (Zy a):=by
 have G_f:=Qx (P:=P) (w:=w) (base:=base) T;have G_a:=zL (P:=P) (w:=w) (base:=base) T;have G_b:=qeL (P:=P) (w:=w) (base:=base) T;have G_N:=qbL (P:=P) (w:=w) (base:=base) T;have G_m:=jG (P:=P) (w:=w) (base:=base) T;refine T.d_6.F.ok sc_Lbinds_right (fun vs H Q E h=>?_) (fun cdv A outer s H vs Q E hr h=>?_)
 · obtain⟨x,td,ed,bl,ps,ns,zs,bs,wf,p,fr,E,rfl,g,hk,nf,kk⟩:=h;rfl
 · obtain⟨x,td,ed,bl,ps,ns,zs,bs,wf,p,fr,E,rfl,g,hk,nf,kk⟩:=h;have hU:=hr.units;have h_f:Room (1) _:=hr.mono (by decide);have h_a:Room (2) _:=hr.mono (by decide);have h_b:Room (10) _:=hr.mono (by decide);have h_N:Room (3) _:=hr.mono (by decide);have h_m:Room (3) _:=hr.mono (by decide)
   refine⟨_,(@qc _ _ _ _ _ (by exact(qC (i:=3) sc_Lbinds_right.nd rfl (Or.inl rfl) (qH qab (qK (pv 0) T.cl_Log T.d_f.mt G_f h_f T.d_f.b .nil qq) (qQ (qa (pv 2) qb)))))
     (by exact(@qc _ _ _ _ _ (by exact(@Qe _ _ _ _ _ _ _ _ (by exact PassesOwn.never) (by rfl) (by exact(Qg rfl T.n_range (qa qf qb))) (by exact(qU (i:=4) (sc_Lbinds_right.nd) rfl (Or.inl rfl)))
       (by exact(@qc _ _ _ _ _ (by exact(qC (i:=5) sc_Lbinds_right.nd rfl (Or.inl rfl) (qD (r:=rIx K) qr (pv 3) (ql G_a h_a rfl T.d_a.m T.d_a.k T.d_a.b .nil qq (qa (pv 1) (qa (qp qR (by rfl) T.n_len qE (qa (pv 3) qb)) qb))) (fun _ _=>rfl))))
       (by exact(@qc _ _ _ _ _ (by exact(@qC _ _ 6 _ _ _ _ (by exact sc_Lbinds_right.nd) (by rfl) (by exact(Or.inl rfl)) (by exact(@qD _ _ _ _ _ _ (rIx K) (by exact qr) (by exact(@qQ _ _ _ _ (by exact(@qa _ _ _ _ _ (by exact(ql G_m h_m rfl T.d_m.m T.d_m.k T.d_m.b .nil qq (qa (pv 1) qb))) (by exact(@qa _ _ _ _ _ (by exact(pv 2)) (by exact(@qb _)) (by rfl))) (by rfl))))) (by exact(ql G_a h_a rfl T.d_a.m T.d_a.k T.d_a.b .nil qq (qa (pv 1) (qa qf qb)))) (by exact fun _ _=>rfl))) (by rfl) (by exact .inl rfl)))
       (by exact(@qc _ _ _ _ _ (by exact(@qC _ _ 7 _ _ _ _ (by exact sc_Lbinds_right.nd) (by rfl) (by exact(Or.inl rfl)) (by exact(@qD _ _ _ _ _ _ (rIx K) (by exact qr) (by exact(@qQ _ _ _ _ (by exact(@qa _ _ _ _ _ (by exact(ql G_N h_N rfl T.d_N.m T.d_N.k T.d_N.b .nil qq (qa (pv 1) qb))) (by exact(@qa _ _ _ _ _ (by exact qf) (by exact(@qb _)) (by rfl))) (by rfl))))) (by exact(ql G_a h_a rfl T.d_a.m T.d_a.k T.d_a.b .nil qq (qa (pv 1) (qa qf qb)))) (by exact fun _ _=>rfl))) (by rfl) (by exact .inl rfl)))
       (by exact(@qc _ _ _ _ _ (by exact(@qM _ _ _ _ _ _ _ _ (by exact(qV (qP (ql G_b h_b rfl T.d_b.m T.d_b.k T.d_b.b .nil qq (qa (pv 0) (qa (qS (qa qt (qa (pv 6) (qa (pv 5) (qa (pv 7) qb))))) (qa qt (qa (pv 6) qb))))))))
         (by exact(qe (qy zn)))
         (by exact qv)))
       (by exact(@qc _ _ _ _ _ (by exact(qC (i:=8) sc_Lbinds_right.nd rfl (Or.inl rfl) (qD (r:=rIx K) qr (pv 3) qf (fun _ _=>rfl))))
       (by exact(@qc _ _ _ _ _ (by exact(@qM _ _ _ _ _ _ _ _ (by exact(PW.pt (qdq (qB (uNe hU) (pv 8) (pv 2) (qJ _)) (qaY (qV (qP (ql G_b h_b rfl T.d_b.m T.d_b.k T.d_b.b .nil qq (qa (pv 0) (qa (qS (qa qt (qa (pv 8) (qa (pv 6) (qa (pv 7) qb))))) (qa qt (qa (pv 6) qb)))))))))))
         (by exact(qe (qy zn)))
         (by exact qv)))
       (by exact(@qc _ _ _ _ _ (by exact(@qC _ _ 9 _ _ _ _ (by exact sc_Lbinds_right.nd) (by rfl) (by exact(Or.inl rfl)) (by exact(@qS _ _ _ _ _ (by exact(@qa _ _ _ _ _ (by exact qt) (by exact(@qa _ _ _ _ _ (by exact(pv 8)) (by exact(@qa _ _ _ _ _ (by exact(qD (r:=rIx K) qr (pv 3) (qah QZ qf) (fun _ _=>rfl))) (by exact(@qa _ _ _ _ _ (by exact(ql G_N h_N rfl T.d_N.m T.d_N.k T.d_N.b .nil qq (qa (pv 1) qb))) (by exact(@qb _)) (by rfl))) (by rfl))) (by rfl))) (by rfl))))) (by rfl) (by exact .inl rfl)))
       (by exact(@qe _ _ _ (by exact(@qM _ _ _ _ _ _ _ _ (by exact(qB (uNe hU) (pv 8) (pv 2) (qJ _)))
         (by exact(@qc _ _ _ _ _ (by exact(@qC _ _ 9 _ _ _ _ (by exact sc_Lbinds_right.nd) (by rfl) (by exact(Or.inl rfl)) (by exact(@qH _ _ _ _ _ _ _ _ (by exact qjo) (by exact(zK qka (pv 9) QX (Qf qf))) (by exact(@qS _ _ _ _ _ (by exact(@qa _ _ _ _ _ (by exact(qD (r:=rIx K) qr (pv 3) (qah QZ qf) (fun _ _=>rfl))) (by exact(@qa _ _ _ _ _ (by exact(qD (r:=rIx K) qr (pv 9) qf (fun _ _=>rfl))) (by exact(@qb _)) (by rfl))) (by rfl))))))) (by rfl) (by exact .inl rfl)))
         (by exact(qe (qM (qV (qP (ql G_b h_b rfl T.d_b.m T.d_b.k T.d_b.b .nil qq (qa (pv 0) (qa (pv 9) (qa qt (qa (qD (r:=rIx K) qr (pv 9) qf (fun _ _=>rfl)) qb)))))))
           (qe (qy zn))
           qv)))))
         (by exact qv))))))))))))))))))) (by intro _;rfl)))
     (by exact(qe (qy zn)))))),?_⟩
   try dsimp only [zf,Cx.nox]
   obtain⟨dx,hx⟩:=(hk.sm g.s).lo.hx;have hnn:(ns.map (·.1)).length≤60:=by rw[List.length_map];exact hk.nn
   have lkn:((ns.map (·.1)++[fr]).map V.str).length=(ns.map (·.1)).length+1:=by rw[List.length_map,List.length_append];rfl
   refine⟨_,rfl,x,dx,_,rfl,hx,rfl,x,td,ed,bl,ps,ns,zs,rfl,(hk.sm g.s).lo,fun n0 fn0=>?_⟩;generalize hG:upd H n0 _=A1;obtain⟨s1,e1⟩:=qj hG fn0;clear hG;refine⟨_,rfl,qk (Nat.le_of_ble_eq_true rfl),fun l0 fl0=>?_⟩;generalize hG:upd A1 l0 _=A2;obtain⟨s2,e2⟩:=qj hG fl0;clear hG;refine .inr (.inl ⟨n0,l0,_,_,rfl,rfl,s2 _ _ e1,e2,Nat.le_of_lt (zc (by rw[List.length_map];show _+1≤1000;omega)),fun q fq=>?_⟩);rw[show (ns.map (·.1)).map V.str++[V.str fr]=(ns.map (·.1)++[fr]).map V.str by rw[List.map_append];rfl];have n_q:q≠p:=(g.pen.same (s1.trans s2)).ne fq;generalize hG:upd A2 q _=A3;obtain⟨s3,e3⟩:=qj hG fq;clear hG;have S3:=(s1.trans s2).trans s3;obtain⟨f0,hf0,hf⟩:=qeN nf.fn;(try unfold qA);(try dsimp only);refine⟨_,rfl,by decide,by decide,QR (lo:=0) (D:={ nx:=qim (tC (.bl true)) { nx:=fun _ H'=>Q .non H',rt:=Q },rt:=Q }) (fun i σ H'=>∃ s4 s5 s6 s7 s8 s9:Option V,σ=[some (.ref x),some (.ref p),some (.str fr),some (.ref q),s4,s5,s6,s7,s8,s9]∧But p H H'∧PenAt H' p∧H' q=some (.lst ((ns.map (·.1)++[fr]).map V.str))) ⟨_,_,_,_,_,_,rfl,(But.refl p H).same S3,g.pen.same S3,e3⟩ ?_ ?_⟩
   · rintro i σ H1 hi ⟨s4,s5,s6,s7,s8,s9,rfl,B,pB,hq⟩;have p0:PenAt H1 p:=pB;have t0:But p H1 H1:=But.refl p H1;have g1:=g.take B pB;have e_q:=hq;refine⟨_,rfl,_,rfl,_,rfl,_,_,rfl,.inl ⟨_,SqL.of hq,rfl⟩,p,_,rfl,p0,by rw[lkn];omega,by rw[lkn];omega,fun d G1 d0 d1 u1 p1=>?_⟩;have t1:=t0.trans u1;obtain⟨y1,hy1,my1⟩:=zS (xs:=(ns.map (·.1)++[fr]).map V.str) d0 d1;obtain⟨k1,mk1,rfl⟩:=List.mem_map.mp my1;refine .inl ⟨q,_,_,_,rfl,rfl,SqL.of (u1 _ _ e_q n_q),hy1,?_⟩;(try unfold qA);(try dsimp only);refine⟨_,rfl,p,rfl,p1,fun v G2 u2 p2 ov hv=>?_⟩;have t2:=t1.trans u2;refine⟨_,rfl,qk (Nat.le_of_ble_eq_true rfl),fun l2 fl2=>?_⟩;have n_l2:l2≠p:=p2.ne fl2;generalize hG:upd G2 l2 _=G3;obtain⟨u3,e_l2⟩:=qj hG fl2;clear hG;have e_l2:G3 l2=some (.lst [v,.str fr]):=e_l2;have p3:=p2.same u3;have t3:=t2.same u3;refine⟨_,rfl,p,_,rfl,p3,by decide,by decide,fun d G4 d0 d1 u4 p4=>?_⟩;have t4:=t3.trans u4;obtain⟨z,hz,mz⟩:=zS (xs:=([v,.str fr]:List V)) d0 d1
     have qz:Odd p G4 z∧Unk (ns.map (·.1)) z:=by
       simp only[List.mem_cons,List.not_mem_nil,or_false]at mz;rcases mz with rfl|rfl
       · exact⟨((ov.same u3).but u4),qdX nf.n hv⟩
       · exact⟨qcc nf.f,qfz nf.fn⟩
     refine .inl ⟨l2,_,_,_,rfl,rfl,SqL.of (u4 _ _ e_l2 n_l2),hz,?_⟩;obtain⟨oz,uz1⟩:=qz;(try unfold qA);(try dsimp only);refine⟨_,rfl,p,rfl,p4,fun m G5 u5 p5 om hm=>?_⟩;have t5:=t4.trans u5;refine⟨qk (Nat.le_of_ble_eq_true rfl),fun l3 fl3=>?_⟩;have n_l3:l3≠p:=p5.ne fl3;generalize hG:upd G5 l3 _=G6;obtain⟨u6,e_l3⟩:=qj hG fl3;clear hG;have e_l3:G6 l3=some (.lst [m,.int 5]):=e_l3;have p6:=p5.same u6;have t6:=t5.same u6;refine⟨_,rfl,p,_,rfl,p6,by decide,by decide,fun d G7 d0 d1 u7 p7=>?_⟩;have t7:=t6.trans u7;obtain⟨y,hy,my⟩:=zS (xs:=([m,.int 5]:List V)) d0 d1;refine .inl ⟨l3,_,_,_,rfl,rfl,SqL.of (u7 _ _ e_l3 n_l3),hy,?_⟩;(try unfold qA);(try dsimp only);refine⟨_,rfl,_,rfl,_,rfl,_,rfl,qk (Nat.le_of_ble_eq_true rfl),fun k1_ fk1_=>?_⟩;have n_k1_:k1_≠p:=p7.ne fk1_;generalize hG:upd G7 k1_ _=G8;obtain⟨u8,e_k1_⟩:=qj hG fk1_;clear hG;have p8:=p7.same u8;have t8:=t7.same u8;refine⟨_,rfl,x,td,ed,bl,ps,ns,zs,bs,wf,k1_,_,.entry_,z,rfl,hk.sm (g1.take t8 p8).s,e_k1_,(.bind1 ((((oz.but u5).same u6).but u7).same u8).th.1 uz1),((((oz.but u5).same u6).but u7).same u8).se,((((oz.but u5).same u6).but u7).same u8).th.1,fun G9 u9=>⟨_,rfl,qN rfl ?_⟩⟩;have p9:=p8.same u9;have t9:=t8.same u9;(try unfold qA);(try dsimp only);refine⟨_,rfl,.inl ⟨q,_,_,_,rfl,rfl,SqL.of (u9 _ _ (u8 _ _ (u7 _ _ (u6 _ _ (u5 _ _ (u4 _ _ (u3 _ _ (u2 _ _ (u1 _ _ e_q n_q) n_q)) n_q) n_q)) n_q))),hf0,?_⟩⟩;(try unfold qA);(try dsimp only);refine zp (t:=qjP _ _ _) (fun σ' H'=>σ'=[some (.ref x),some (.ref p),some (.str fr),some (.ref q),some (.int (0+(i:Int))),some (.str k1),some z,some y,some (.str f0),s9]∧Same G9 H') (fun N hN=>?_) ?_
     · refine⟨_,rfl,_,rfl,.inl ⟨rfl,_,rfl,?_⟩⟩;rw[Jm];by_cases c:f0=fr
       · exact qN (by simp[c]) (qN rfl (hN _ _ ⟨rfl,Same.refl _⟩))
       obtain⟨_,mf,_⟩:=hf.resolve_left c;refine zU (by simp[c]) ?_;refine⟨_,rfl,_,rfl,_,rfl,_,rfl,qk (Nat.le_of_ble_eq_true rfl),fun k2_ fk2_=>?_⟩;have n_k2_:k2_≠p:=p9.ne fk2_;generalize hG:upd G9 k2_ _=G10;obtain⟨u10,e_k2_⟩:=qj hG fk2_;clear hG;have p10:=p9.same u10;have t10:=t9.same u10;refine⟨_,rfl,x,td,ed,bl,ps,ns,zs,bs,wf,k2_,_,.entry_,z,rfl,hk.sm (g1.take t10 p10).s,e_k2_,(.bind2 mf ((((((oz.but u5).same u6).but u7).same u8).same u9).same u10).th.1 uz1),((((((oz.but u5).same u6).but u7).same u8).same u9).same u10).se,((((((oz.but u5).same u6).but u7).same u8).same u9).same u10).th.1,fun G11 u11=>⟨_,rfl,qN rfl ?_⟩⟩;have p11:=p10.same u11;have t11:=t10.same u11;(try unfold qA);(try dsimp only);exact hN _ _ ⟨rfl,u10.trans u11⟩
     rintro _ G10 ⟨rfl,u10⟩;have p10:=p9.same u10;have t10:=t9.same u10;(try unfold qA);(try dsimp only);refine⟨_,rfl,_,rfl,_,rfl,.inl ⟨q,_,_,_,rfl,rfl,SqL.of (u10 _ _ (u9 _ _ (u8 _ _ (u7 _ _ (u6 _ _ (u5 _ _ (u4 _ _ (u3 _ _ (u2 _ _ (u1 _ _ e_q n_q) n_q)) n_q) n_q)) n_q)))),qgk _ _,?_⟩⟩;refine⟨_,rfl,p,rfl,p10,fun w_ G11 u11 p11 ow_ hw_=>?_⟩;have t11:=t10.trans u11;refine⟨qk (Nat.le_of_ble_eq_true rfl),fun t9 ft9=>?_⟩;have n_t9:t9≠p:=p11.ne ft9;generalize hG:upd G11 t9 _=G12;obtain⟨u12,e_t9⟩:=qj hG ft9;clear hG;have e_t9:G12 t9=some (.tup [.str "bind",.str f0,.str fr,w_]):=e_t9;have p12:=p11.same u12;have t12:=t11.same u12;(try unfold qA);(try dsimp only);refine⟨_,rfl,_,rfl,.inl ⟨rfl,_,rfl,?_⟩⟩;rw[Jm];by_cases c:f0=fr
     · exact qN (by simp[c]) ⟨_,_,_,_,_,_,rfl,B.trans t12,p12,(u12 _ _ (u11 _ _ (u10 _ _ (u9 _ _ (u8 _ _ (u7 _ _ (u6 _ _ (u5 _ _ (u4 _ _ (u3 _ _ (u2 _ _ (u1 _ _ e_q n_q) n_q)) n_q) n_q)) n_q)))) n_q))⟩
     obtain⟨_,mf,l0,ml0,hl0⟩:=hf.resolve_left c;refine zU (by simp[c]) ?_;refine⟨_,rfl,_,rfl,t9,_,rfl,SqT.of e_t9,(fun h=>by have:=h.2;simp[HT.sIx]at this),fun c1 fc1=>?_⟩;have n_c1:c1≠p:=p12.ne fc1;generalize hG:upd G12 c1 _=G13;obtain⟨u13,e_c1⟩:=qj hG fc1;clear hG;have e_c1:G13 c1=some (.tup [.str "bind",.str f0]):=e_c1;have p13:=p12.same u13;have t13:=t12.same u13;refine⟨_,rfl,_,rfl,.inl ⟨q,_,_,_,rfl,rfl,SqL.of (u13 _ _ (u12 _ _ (u11 _ _ (u10 _ _ (u9 _ _ (u8 _ _ (u7 _ _ (u6 _ _ (u5 _ _ (u4 _ _ (u3 _ _ (u2 _ _ (u1 _ _ e_q n_q) n_q)) n_q) n_q)) n_q)))) n_q))),hl0,_,rfl,.inr (.inl ⟨t9,_,_,_,rfl,rfl,SqT.of (u13 _ _ e_t9),rfl,qk (Nat.le_of_ble_eq_true rfl),fun c2 fc2=>?_⟩)⟩⟩;have n_c2:c2≠p:=p13.ne fc2;generalize hG:upd G13 c2 _=G14;obtain⟨u14,e_c2⟩:=qj hG fc2;clear hG;have e_c2:G14 c2=some (.tup [.str l0,w_]):=e_c2;have p14:=p13.same u14;have t14:=t13.same u14;refine⟨c1,c2,_,_,rfl,rfl,SqT.of (u14 _ _ e_c1),SqT.of e_c2,(by simp),Nat.le_of_lt (qk (Nat.le_of_ble_eq_true rfl)),(fun h=>nomatch h),fun _=>fun t8 ft8=>?_⟩;have n_t8:t8≠p:=p14.ne ft8;generalize hG:upd G14 t8 _=G15;obtain⟨u15,e_t8⟩:=qj hG ft8;clear hG;have e_t8:G15 t8=some (.tup [.str "bind",.str f0,.str l0,w_]):=e_t8;have p15:=p14.same u15;have t15:=t14.same u15;(try unfold qA);(try dsimp only);refine⟨_,rfl,_,rfl,_,rfl,.inr (.inl ⟨t8,_,_,_,rfl,rfl,SqT.of e_t8,rfl,x,td,ed,bl,ps,ns,zs,bs,wf,t8,_,.minutes_,w_,rfl,hk.sm (g1.take t15 p15).s,e_t8,.bind3 mf ml0 ((((ow_.same u12).same u13).same u14).same u15).th.1 hw_,((((ow_.same u12).same u13).same u14).same u15).se,((((ow_.same u12).same u13).same u14).same u15).th.1,fun G16 u16=>⟨_,rfl,qN rfl ?_⟩⟩)⟩;have p16:=p15.same u16;have t16:=t15.same u16;exact⟨_,_,_,_,_,_,rfl,B.trans t16,p16,(u16 _ _ (u15 _ _ (u14 _ _ (u13 _ _ (u12 _ _ (u11 _ _ (u10 _ _ (u9 _ _ (u8 _ _ (u7 _ _ (u6 _ _ (u5 _ _ (u4 _ _ (u3 _ _ (u2 _ _ (u1 _ _ e_q n_q) n_q)) n_q) n_q)) n_q)))) n_q))))))⟩
   · rintro σ H1 ⟨s4,s5,s6,s7,s8,s9,rfl,B,pB,hq⟩;exact kk H1 B pB
end
section
variable {a:Ad}{H H':Hp}{x td ed bl:Addr}{ps ns:List (Str×V)}{zs:List V}{bs:List (Str×Str×Int)}{wf:Str->List (Int×Int)}
theorem Ek.ob {y:Addr}{nm:Str}{w:List (Int×Int)} (h:Ek a H y nm w):∃ C d v fs,H y=some (.ins C d (("name",v)::fs)):=by
 cases h with
 | at_ e=>exact⟨_,_,_,_,e⟩
 | any e=>exact⟨_,_,_,_,e⟩
theorem Ek.nx {y:Addr}{nm:Str}{w:List (Int×Int)} (h:Ek a H y nm w) {C d:Addr}{v:V}{fs:List (Str×V)} (hx:H x=some (.ins C d (("tables",v)::fs))):y≠x:=fun z=>by
 obtain⟨_,_,_,_,e⟩:=h.ob;rw[z,hx]at e;injection e with e;injection e with _ _ e;injection e with e _;injection e with e _;exact absurd e (by decide)
theorem Lk.cut {p:Addr} (h:Lk a H x td ed bl ps ns zs bs wf) (pen:PenAt H p) (n:bl≠p):Lk a (cut H [p]) x td ed bl ps ns zs bs wf:=by
 obtain⟨dx,hx⟩:=h.lo.hx;refine⟨⟨⟨dx,?_⟩,?_,?_,?_,h.lo.ne,h.lo.ndt,h.lo.nde⟩,fun e m=>?_,⟨h.tb.1,fun j z y e1 e2=>?_⟩,h.np,h.nn,h.nz⟩
 · rw[JA (pen.nk hx fun _ z=>nomatch z)];exact hx
 · rw[JA (pen.nk h.lo.ht fun _ z=>nomatch z)];exact h.lo.ht
 · rw[JA (pen.nk h.lo.he fun _ z=>nomatch z)];exact h.lo.he
 · rw[JA n];exact h.lo.hb
 · obtain⟨y,h1,h2⟩:=h.en e m;exact⟨y,h1,h2.mp fun C d fs q=>by rw[JA (pen.nk q fun _ z=>nomatch z)];exact q⟩
 · obtain⟨t,h1,h2⟩:=h.tb.2 j z y e1 e2;exact⟨t,h1,by rw[JA (pen.nk h2 fun _ z=>nomatch z)];exact h2⟩
theorem Lk.pen {p:Addr} (h:Lk a H x td ed bl ps ns zs bs wf) (pen:PenAt H p) (n:bl≠p) (b:But p H H') (pen':PenAt H' p):Lk a H' x td ed bl ps ns zs bs wf :=
 (h.cut pen n).sm ((Gh.cut pen).take b pen').s
theorem Lk.mv {q:Addr}{o:HO} (h:Lk a H x td ed bl ps ns zs bs wf) (b:But q H H') (hq:H q=some o) (n1:∀ C d fs,o≠.ins C d fs) (n2:∀ xs,o≠.tup xs):(∀ e∈ns,∃ y,e.2=.ref y∧Ek a H' y e.1 (wf e.1))∧TupL prB H' zs bs :=
 ⟨fun e m=>let ⟨y,h1,h2⟩:=h.en e m;⟨y,h1,h2.mp fun C d fs r=>b _ _ r (qX r hq fun z=>n1 _ _ _ z.symm)⟩,h.tb.1,fun j z y e1 e2=>let ⟨t,h1,h2⟩:=h.tb.2 j z y e1 e2;⟨t,h1,b _ _ h2 (qX h2 hq fun z=>n2 _ z.symm)⟩⟩
end
theorem qmv:∀ {ks:List Str},2≤ks.length->∃ k1 k2,k1∈ks∧k2∈ks∧qch ks none (some 2)=[k1,k2]
 | [],h=>by simp at h
 | [_],h=>by simp at h
 | k1::k2::r,_=>⟨k1,k2,List.mem_cons_self,List.mem_cons_of_mem _ List.mem_cons_self,by
   have e1:HT.sIx (k1::k2::r).length (k1::k2::r).length (some 2)=2:=by
     show HT.sIx (k1::k2::r).length (k1::k2::r).length (some ((2:Nat):Int))=2;rw[HT.sIx_nat,List.length_cons,List.length_cons];omega
   unfold qch;rw[e1,HT.sIx_none]
   rfl⟩
theorem qgL:∀ {ns:List (Str×V)} (s:Str),(ns.map (·.1)).Nodup->ns.length≤(ns.filter fun n=>decide (n.1≠s)).length+1
 | [],s,_=>by simp
 | n::ns,s,h=>by
   have h':n.1∉ns.map (·.1)∧(ns.map (·.1)).Nodup:=List.nodup_cons.mp h;by_cases e:n.1=s
   · have ef:ns.filter (fun n=>decide (n.1≠s))=ns:=List.filter_eq_self.mpr fun m mm=>decide_eq_true (fun (z:m.1=s)=>h'.1 (by rw[e,← z];exact List.mem_map.mpr ⟨m,mm,rfl⟩));rw[List.filter_cons_of_neg (by simp[e]),ef,List.length_cons];omega
   · rw[List.filter_cons_of_pos (by simp[e]),List.length_cons,List.length_cons]
     have:=qgL s h'.2
     omega
inductive Qu (a:Ad) (vs:List V) (H:Hp) (Q:VK):Prop
 | mk (x td ed bl:Addr) (ps ns:List (Str×V)) (zs:List V) (bs:List (Str×Str×Int)) (wf:Str->List (Int×Int)) (p:Addr) (fr:Str) (h1:vs=[.ref x,.ref p,.str fr]) (h2:PenAt H p) (h3:Lk a H x td ed bl ps ns zs bs wf) (h4:bl≠p) (h5:Nfr (ns.map (·.1)) (ps.map (·.1)) fr) (h6:(zs.length=100->2≤ns.length)) (h7:∀ H',(∀ b o,H b=some o->b≠p->b≠x->b≠td->b≠ed->b≠bl->H' b=some o)->Q (.bl true) H'):Qu a vs H Q
def Q9 (a:Ad):Sp:=fun vs H Q _=>Qu a vs H Q
section
variable {P:Program}{w:World}{K:Frag}{mg:Str->Option Value}{base:Heap}
theorem qak {a:Ad} (T:Txt K mg a):qu P w K mg base CX0 11 a.f_7 a.fd_7 ["_law_log","_law_state","_law_free"] (Q9 a):=by
 have G_f:=Qx (P:=P) (w:=w) (base:=base) T;have G_D:=qa6 (P:=P) (w:=w) (base:=base) T;have G_C:=Jg (P:=P) (w:=w) (base:=base) T;have G_k:=QY (P:=P) (w:=w) (base:=base) T;have G_b:=qeL (P:=P) (w:=w) (base:=base) T;have G_h:=qa4 (P:=P) (w:=w) (base:=base) T;have G_j:=ZM (P:=P) (w:=w) (base:=base) T;have G_a:=zL (P:=P) (w:=w) (base:=base) T;have G_d:=zo (P:=P) (w:=w) (base:=base) T;refine T.d_7.F.ok sc_Lbounds_right (fun vs H Q E h=>?_) (fun cdv A outer s H vs Q E hr h=>?_)
 · obtain⟨x,td,ed,bl,ps,ns,zs,bs,wf,p,fr,rfl,pen,hk,nb,nf,hun,kk⟩:=h;rfl
 · obtain⟨x,td,ed,bl,ps,ns,zs,bs,wf,p,fr,rfl,pen,hk,nb,nf,hun,kk⟩:=h;have hU:=hr.units;have h_f:Room (1) _:=hr.mono (by decide);have h_D:Room (6) _:=hr.mono (by decide);have h_C:Room (6) _:=hr.mono (by decide);have h_k:Room (1) _:=hr.mono (by decide);have h_b:Room (10) _:=hr.mono (by decide);have h_h:Room (9) _:=hr.mono (by decide);have h_j:Room (1) _:=hr.mono (by decide);have h_a:Room (2) _:=hr.mono (by decide);have h_d:Room (3+1) _:=hr.mono (by decide)
   refine⟨_,(qc (qC (i:=3) sc_Lbounds_right.nd rfl (Or.inl rfl) (qK (pv 0) T.cl_Log T.d_f.mt G_f h_f T.d_f.b .nil qq))
     (qc (qM (qB (uEq hU) (qp qR (by rfl) T.n_len qE (qa (qK (pv 0) T.cl_Log T.d_k.mt G_k h_k T.d_k.b .nil qq) qb)) qf (qJ _))
       (qc (qM (qV (qP (ql G_b h_b rfl T.d_b.m T.d_b.k T.d_b.b .nil qq (qa (pv 0) (qa (qS (qa qt (qa (pv 2) (qa qf qb)))) (qa qt (qa qf qb)))))))
         (qe (qy zn))
         qv)
       (qe (qM (qB qd5 (ql G_h h_h rfl T.d_h.m T.d_h.k T.d_h.b .nil qq (qa (pv 0) (qa (qS (qa qt (qa (qD (r:=rIx K) qr (qK (pv 0) T.cl_Log T.d_k.mt G_k h_k T.d_k.b .nil qq) qf (fun _ _=>rfl)) (qa qf qb)))) qb))) jw (qJ _))
         (qe (qy zn))
         qv)))
       qv)
     (qc (qM (qB (uEq hU) (qp qR (by rfl) T.n_len qE (qa (pv 3) qb)) qf (qJ _))
       (qc (qM (qV (qP (ql G_b h_b rfl T.d_b.m T.d_b.k T.d_b.b .nil qq (qa (pv 0) (qa (qS (qa qt (qa (zt T.M_Entry G_d h_d rfl T.g_Entry T.d_d.b .nil qq (qa (pv 2) qb)) qb))) (qa qt (qa qf qb)))))))
         (qe (qy zn))
         qv)
       (qc (qx (q9 (pv 0) T.cl_Log T.d_D.mt G_D h_D T.d_D.b .nil qfh (qa (qD (r:=rIx K) qr (pv 3) (ql G_a h_a rfl T.d_a.m T.d_a.k T.d_a.b .nil qq (qa (pv 1) (qa qf qb))) (fun _ _=>rfl)) qb)))
       (qe (qM (PW.pt (Jt (qB qd5 (ql G_h h_h rfl T.d_h.m T.d_h.k T.d_h.b .nil qq (qa (pv 0) (qa (qS (qa qt (qa (zt T.M_Entry G_d h_d rfl T.g_Entry T.d_d.b .nil qq (qa (pv 2) qb)) qb))) qb))) jw (qJ _)) (ZG (qB (uNe hU) (qD (r:=rIx K) qr (qK (pv 0) T.cl_Log T.d_f.mt G_f h_f T.d_f.b .nil qq) (qah QZ qf) (fun _ _=>rfl)) (pv 2) (qJ _)))))
         (qe (qy zn))
         qv))))
       qv)
     (qc (qM (qB (uEq hU) (qp qR (by rfl) T.n_len qE (qa (qK (pv 0) T.cl_Log T.d_j.mt G_j h_j T.d_j.b .nil qq) qb)) qf (qJ _))
       (qc (qC (i:=4) sc_Lbounds_right.nd rfl (Or.inl rfl) (zK uSl (qK (pv 0) T.cl_Log T.d_f.mt G_f h_f T.d_f.b .nil qq) QX (Qf qf)))
       (qc (qM (qV (qP (ql G_b h_b rfl T.d_b.m T.d_b.k T.d_b.b .nil qq (qa (pv 0) (qa (qS (qa qt (qa (qD (r:=rIx K) qr (pv 4) qf (fun _ _=>rfl)) (qa (qD (r:=rIx K) qr (pv 4) qf (fun _ _=>rfl)) (qa qf qb))))) (qa qt (qa qf qb)))))))
         (qe (qy zn))
         qv)
       (qc (qx (q9 (pv 0) T.cl_Log T.d_C.mt G_C h_C T.d_C.b .nil qfh (qa (ql G_a h_a rfl T.d_a.m T.d_a.k T.d_a.b .nil qq (qa (pv 1) (qa qf qb))) qb)))
       (qe (qM (PW.pt (Jt (qB qd5 (ql G_h h_h rfl T.d_h.m T.d_h.k T.d_h.b .nil qq (qa (pv 0) (qa (qS (qa qt (qa (qD (r:=rIx K) qr (pv 4) qf (fun _ _=>rfl)) (qa (qD (r:=rIx K) qr (pv 4) qf (fun _ _=>rfl)) (qa qf qb))))) qb))) jw (qJ _)) (ZG (qB (qhJ hU) (qD (r:=rIx K) qr (qK (pv 0) T.cl_Log T.d_j.mt G_j h_j T.d_j.b .nil qq) qf (fun _ _=>rfl)) (qS (qa (qD (r:=rIx K) qr (pv 4) qf (fun _ _=>rfl)) (qa (qD (r:=rIx K) qr (pv 4) qf (fun _ _=>rfl)) (qa qf qb)))) (qJ _)))))
         (qe (qy zn))
         qv)))))
       qv)
     (qe (qy zn)))))),?_⟩
   try dsimp only [zf,Cx.nox]
   obtain⟨dx,hx⟩:=hk.lo.hx;refine⟨_,rfl,x,dx,_,rfl,hx,rfl,x,td,ed,bl,ps,ns,zs,rfl,hk.lo,fun n0 fn0=>?_⟩;have n_n0:n0≠p:=pen.ne fn0;generalize hG:upd H n0 _=A1;obtain⟨s1,e1⟩:=qj hG fn0;clear hG;have hk0:=hk.sm s1;have pen0:=pen.same s1;(try unfold qA);(try dsimp only);refine zp (t:=qjP _ _ _) (fun σ' H'=>σ'=[some (.ref x),some (.ref p),some (.str fr),some (.ref n0),none]∧PenAt H' p∧H' n0=some (.lst ((ns.map (·.1)).map V.str))∧∃ ps',ps'.map (·.1)=ps.map (·.1)∧Lk a H' x td ed bl ps' ns zs bs wf∧(∀ b o,H b=some o->b≠p->b≠td->H' b=some o)) (fun N hN=>?_) ?_
   · have va0:Same A1 A1:=Same.refl _;obtain⟨dx_q,hx_q⟩:=(hk0.sm va0).lo.hx;refine⟨_,rfl,x,dx_q,_,rfl,hx_q,rfl,x,td,ed,bl,ps,ns,zs,rfl,(hk0.sm va0).lo,hk0.np,fun q ss_q fq pm_q so_q=>?_⟩;generalize hG:upd A1 q _=a1;obtain⟨ua1,e_q⟩:=qj hG fq;clear hG;have va1:=va0.trans ua1;refine⟨_,_,rfl,.inl ⟨_,SqL.of e_q,rfl⟩,.inl ⟨rfl,_,rfl,zg (fun gg=>?_) (fun gg=>?_)⟩⟩
     rotate_left
     · exact hN _ _ ⟨rfl,pen0.same va1,va1 _ _ e1,ps,rfl,hk0.sm va1,fun b o h _ _=>va1 _ _ (s1 _ _ h)⟩
     have six:(ps.map (·.1)).length=6:=by
       injection gg with gg;rw[List.length_map,pm_q.length_eq]at gg;omega
     try unfold qA
     try dsimp only
     refine⟨_,rfl,_,rfl,qk (Nat.le_of_ble_eq_true rfl),fun k1 fk1=>?_⟩;generalize hG:upd a1 k1 _=a2;obtain⟨ua2,e_k1⟩:=qj hG fk1;clear hG;have va2:=va1.trans ua2;refine⟨x,td,ed,bl,ps,ns,zs,bs,wf,k1,_,.many_,(.int 7),rfl,hk0.sm va2,e_k1,(.clock2 nf.f nf.fp six),(.flat rfl),(QC _),fun a3 ua3=>⟨_,rfl,qN rfl ?_⟩⟩;have va3:=va2.trans ua3;(try unfold qA);(try dsimp only);obtain⟨dx_q2,hx_q2⟩:=(hk0.sm va3).lo.hx;refine⟨_,rfl,_,rfl,x,dx_q2,_,rfl,hx_q2,rfl,x,td,ed,bl,ps,ns,zs,rfl,(hk0.sm va3).lo,hk0.np,fun q2 ss_q2 fq2 pm_q2 so_q2=>?_⟩;generalize hG:upd a3 q2 _=a4;obtain⟨ua4,e_q2⟩:=qj hG fq2;clear hG;have va4:=va3.trans ua4;have h3:3 < ss_q2.length:=by rw[pm_q2.length_eq];omega
     have mp:ss_q2[3]∈ps.map (·.1):=pm_q2.mem_iff.mp (List.getElem_mem h3);refine .inl ⟨q2,_,_,_,rfl,rfl,SqL.of e_q2,QB (j:=3) (by rw[List.getElem?_map,List.getElem?_eq_getElem h3];rfl),?_⟩;refine⟨qk (Nat.le_of_ble_eq_true rfl),fun k2 fk2=>?_⟩;generalize hG:upd a4 k2 _=a5;obtain⟨ua5,e_k2⟩:=qj hG fk2;clear hG;have va5:=va4.trans ua5;have hk3:=hk0.sm va5;refine⟨x,td,ed,bl,ps,ns,zs,k2,_,rfl,hk3.lo,e_k2,.inr (.inl ⟨ss_q2[3],_,rfl,nf.p _ mp,mp,hk.np,fun ps2 H2 ek BB L2=>⟨rfl,_,rfl,qN rfl ?_⟩⟩)⟩;obtain⟨m1,m2⟩:=hk3.mv BB hk3.lo.ht (fun _ _ _ z=>nomatch z) (fun _ z=>nomatch z);have lp:ps2.length=ps.length:=by rw[← List.length_map (f:=(·.1)),ek,List.length_map]
     have ntp:td≠p:=(pen0.same va5).nk hk3.lo.ht (fun _ z=>nomatch z);exact hN _ _ ⟨rfl,(pen0.same va5).but BB ntp,BB _ _ (va5 _ _ e1) (qX e1 (hk0.lo.ht) (fun z=>nomatch z)),ps2,ek,⟨L2,m1,m2,by rw[lp];exact hk.np,hk.nn,hk.nz⟩,fun b o h n1 n2=>BB _ _ (va5 _ _ (s1 _ _ h)) n2⟩
   rintro _ H1 ⟨rfl,pen1,en1,ps1,ek1,hk1,kp1⟩;(try unfold qA);(try dsimp only);refine zp (t:=qjP _ _ _) (fun σ' H'=>σ'=[some (.ref x),some (.ref p),some (.str fr),some (.ref n0),none]∧PenAt H' p∧∃ (bl2:Addr) (ps2 ns2:List (Str×V)) (zs2:List V) (bs2:List (Str×Str×Int)) (wf2:Str->List (Int×Int)),Lk a H' x td ed bl2 ps2 ns2 zs2 bs2 wf2∧bl2≠p∧(zs2.length=100->2≤ns2.length)∧(H bl2=none∨bl2=bl)∧(∀ b o,H b=some o->b≠p->b≠x->b≠td->b≠ed->b≠bl->H' b=some o)) (fun N hN=>?_) ?_
   · have vb0:Same H1 H1:=Same.refl _;refine⟨_,rfl,_,_,rfl,.inl ⟨_,SqL.of en1,rfl⟩,.inl ⟨rfl,_,rfl,zg (fun gg=>?_) (fun gg=>?_)⟩⟩
     rotate_left
     · exact hN _ _ ⟨rfl,pen1,bl,ps1,ns,zs,bs,wf,hk1,nb,hun,.inr rfl,fun b o h n1 n2 n3 n4 n5=>kp1 b o h n1 n3⟩
     have six:(ns.map (·.1)).length=60:=by
       injection gg with gg;rw[List.length_map]at gg;omega
     try unfold qA
     try dsimp only
     refine⟨_,rfl,_,rfl,fun y dy fy fdy ney=>⟨y,a.c_Entry,dy,fr,rfl,qd,nf.f,T.cl_Entry,T.n_Entry_name,fun b1 By e_y=>⟨rfl,?_⟩⟩⟩;have ub1:Same H1 b1:=qW fy fdy By;have vb1:=vb0.trans ub1;refine⟨qk (Nat.le_of_ble_eq_true rfl),fun k1 fk1=>?_⟩;generalize hG:upd b1 k1 _=b2;obtain⟨ub2,e_k1⟩:=qj hG fk1;clear hG;have vb2:=vb1.trans ub2;refine⟨x,td,ed,bl,ps1,ns,zs,bs,wf,k1,_,.many_,(.int 61),rfl,hk1.sm vb2,e_k1,(.put4 (.any (ub2 _ _ e_y)) nf.fn six),(.flat rfl),(QC _),fun b3 ub3=>⟨_,rfl,qN rfl ?_⟩⟩;have vb3:=vb2.trans ub3;(try unfold qA);(try dsimp only);have hk2:=hk1.sm vb3;obtain⟨dx2,hx2⟩:=hk2.lo.hx;refine⟨_,rfl,x,dx2,_,rfl,hx2,rfl,_,rfl,_,rfl,p,_,rfl,pen1.same vb3,by decide,by decide,fun d H2 d0 d1 BP pen2=>?_⟩;have hk3:=hk2.pen (pen1.same vb3) nb BP pen2;obtain⟨v,hv,mv⟩:=zS (xs:=(ns.map (·.1)).map V.str) (i:=d) d0 (by rw[List.length_map,six];exact d1);obtain⟨k,mk,rfl⟩:=List.mem_map.mp mv;obtain⟨e0,me,rfl⟩:=jA mk;have en2:H2 n0=some (.lst ((ns.map (·.1)).map V.str)):=BP _ _ (vb3 _ _ en1) n_n0;refine .inl ⟨n0,_,_,_,rfl,rfl,SqL.of en2,hv,x,td,ed,bl,ps1,ns,zs,_,rfl,hk3.lo,.inl ⟨e0,bs,me,rfl,hk3.tb,hk.nz,fun bl2 zs2 H3 fb2 KP L3 tb3=>?_⟩⟩;obtain⟨dx3,hx3⟩:=hk3.lo.hx;have kin:∀ C d fs b,H2 b=some (.ins C d fs)->b≠x->H3 b=some (.ins C d fs):=fun C d fs b e n=>KP b _ e n (qX e hk3.lo.he (fun z=>nomatch z))
     have pen3:PenAt H3 p:=by
       obtain⟨c,u,w,h1,h2⟩:=pen2;exact⟨c,u,w,h1,KP _ _ h2 (qX h2 hx3 (fun z=>nomatch z)) (qX h2 hk3.lo.he (fun z=>nomatch z))⟩
     have nb2:bl2≠p:=pen2.ne fb2
     have fbH:H bl2=none:=by
       cases e:H bl2 with
       | none=>rfl
       | some o =>
         have ntd:bl2≠td:=fun z=>by rw[z,hk3.lo.ht]at fb2;cases fb2
         have:=BP _ _ (vb3 _ _ (kp1 bl2 o e nb2 ntd)) nb2
         rw[this]at fb2;cases fb2
     have lz2:zs2.length≤100:=by
       rw[tb3.1]
       have:=List.length_filter_le (nok e0.1) bs
       have:=hk.tb.1
       have:=hk.nz
       omega
     have lf:(ns.filter fun n=>decide (n.1≠e0.1)).length < 60:=by
       have:=(List.length_filter_lt_length_iff_exists (p:=fun n:Str×V=>decide (n.1≠e0.1)) (l:=ns)).mpr ⟨e0,me,by simp⟩
       rw[List.length_map]at six;omega
     have lf2:=qgL e0.1 hk.lo.nde
     have hk4:Lk a H3 x td ed bl2 ps1 (ns.filter fun n=>decide (n.1≠e0.1)) zs2 (bs.filter (nok e0.1)) wf :=
       ⟨L3,fun e m=>by
         obtain⟨y,h1,h2⟩:=hk3.en e ((List.mem_filter.mp m).1)
         exact⟨y,h1,h2.mp fun C d fs r=>kin _ _ _ _ r (h2.nx hx3)⟩,tb3,hk1.np,Nat.le_of_lt lf,lz2⟩
     have kp3:∀ b o,H b=some o->b≠p->b≠x->b≠td->b≠ed->b≠bl->H3 b=some o:=fun b o h n1 n2 n3 n4 n5=>KP _ _ (BP _ _ (vb3 _ _ (kp1 b o h n1 n3)) n1) n2 n4;(try unfold qA);(try dsimp only);have vc0:Same H3 H3:=Same.refl _;refine⟨_,rfl,_,rfl,fun y2 dy2 fy2 fdy2 ney2=>⟨y2,a.c_Entry,dy2,fr,rfl,qd,nf.f,T.cl_Entry,T.n_Entry_name,fun c1 By2 e_y2=>⟨rfl,?_⟩⟩⟩;have uc1:Same H3 c1:=qW fy2 fdy2 By2;have vc1:=vc0.trans uc1;refine⟨qk (Nat.le_of_ble_eq_true rfl),fun k2 fk2=>?_⟩;generalize hG:upd c1 k2 _=c2;obtain⟨uc2,e_k2⟩:=qj hG fk2;clear hG;have vc2:=vc1.trans uc2;have hk5:=hk4.sm vc2
     have nfr:fr∉(ns.filter fun n=>decide (n.1≠e0.1)).map (·.1):=fun m=>by
       obtain⟨e,h1,h2⟩:=List.mem_map.mp m;exact nf.fn (List.mem_map.mpr ⟨e,(List.mem_filter.mp h1).1,h2⟩)
     refine⟨x,td,ed,bl2,ps1,(ns.filter fun n=>decide (n.1≠e0.1)),zs2,k2,_,rfl,hk5.lo,e_k2,.inr (.inr (.inl ⟨y2,fr,rfl,.any (uc2 _ _ e_y2),nfr,lf,fun H4 BB L4=>⟨rfl,_,rfl,qN rfl ?_⟩⟩))⟩;obtain⟨m1,m2⟩:=hk5.mv BB hk5.lo.he (fun _ _ _ z=>nomatch z) (fun _ z=>nomatch z);have pen4:PenAt H4 p:=(pen3.same vc2).but BB ((pen3.same vc2).nk hk5.lo.he (fun _ z=>nomatch z))
     have hk6:Lk a H4 x td ed bl2 ps1 ((ns.filter fun n=>decide (n.1≠e0.1))++[(fr,.ref y2)]) zs2 (bs.filter (nok e0.1)) (fun k=>if k=fr then [(0,1000000000)] else wf k) :=
       ⟨L4,fun e m=>by
         rcases List.mem_append.mp m with m|m
         · obtain⟨y,h1,h2⟩:=m1 e m;refine⟨y,h1,?_⟩;show Ek a H4 y e.1 (if e.1=fr then _ else wf e.1);rw[if_neg (fun z=>nfr (by rw[← z];exact List.mem_map.mpr ⟨e,m,rfl⟩))];exact h2
         · rw[List.mem_singleton.mp m];refine⟨y2,rfl,?_⟩;show Ek a H4 y2 fr (if fr=fr then _ else wf fr);rw[if_pos rfl]
           exact .any (BB _ _ (uc2 _ _ e_y2) (qX (uc2 _ _ e_y2) hk5.lo.he (fun z=>nomatch z))),m2,hk1.np,by rw[List.length_append];exact lf,lz2⟩
     obtain⟨dx6,hx6⟩:=hk6.lo.hx;refine⟨_,rfl,x,dx6,_,rfl,hx6,rfl,_,_,_,_,_,_,_,rfl,hk6.lo,fun q fq=>?_⟩;generalize hG:upd H4 q _=H5;obtain⟨s5,e5⟩:=qj hG fq;clear hG;rw[List.map_append]at e5;refine⟨_,rfl,.inl ⟨q,_,_,_,rfl,rfl,SqL.of e5,qgk _ _,_,rfl,.inl ⟨rfl,_,rfl,qN (by simp) ?_⟩⟩⟩;exact hN _ _ ⟨rfl,pen4.same s5,bl2,ps1,_,zs2,_,_,hk6.sm s5,nb2,fun _=>(by rw[List.length_append];rw[List.length_map]at six;show 2≤_+1;omega),.inl fbH,fun b o h n1 n2 n3 n4 n5=>s5 _ _ (BB _ _ (vc2 _ _ (kp3 b o h n1 n2 n3 n4 n5)) n4)⟩
   rintro _ H6 ⟨rfl,pen6,bl2,ps2,ns2,zs2,bs2,wf2,hk6,nb6,hun6,fb6,kp6⟩;(try unfold qA);(try dsimp only);refine zp (t:=qjP _ _ _) (fun σ' H'=>(∃ s4,σ'=[some (.ref x),some (.ref p),some (.str fr),some (.ref n0),s4])∧(∀ b o,H b=some o->b≠p->b≠x->b≠td->b≠ed->b≠bl->H' b=some o)) (fun N hN=>?_) ?_
   · have vd0:Same H6 H6:=Same.refl _;obtain⟨dx_q,hx_q⟩:=(hk6.sm vd0).lo.hx;refine⟨_,rfl,x,dx_q,_,rfl,hx_q,rfl,x,td,ed,bl2,ps2,ns2,zs2,rfl,(hk6.sm vd0).lo,fun q fq=>?_⟩;generalize hG:upd H6 q _=d1;obtain⟨ud1,e_q⟩:=qj hG fq;clear hG;have vd1:=vd0.trans ud1;refine⟨_,_,rfl,.inl ⟨_,SqL.of e_q,rfl⟩,.inl ⟨rfl,_,rfl,zg (fun gg=>?_) (fun gg=>?_)⟩⟩
     rotate_left
     · exact hN _ _ ⟨⟨_,rfl⟩,fun b o h n1 n2 n3 n4 n5=>vd1 _ _ (kp6 b o h n1 n2 n3 n4 n5)⟩
     have hu100:zs2.length=100:=by
       injection gg with gg;omega
     have h2n:2≤ns2.length:=hun6 hu100;(try unfold qA);(try dsimp only);obtain⟨dx_q1,hx_q1⟩:=(hk6.sm vd1).lo.hx;refine⟨_,rfl,x,dx_q1,_,rfl,hx_q1,rfl,x,td,ed,bl2,ps2,ns2,zs2,rfl,(hk6.sm vd1).lo,fun q1 fq1=>?_⟩;generalize hG:upd d1 q1 _=d2;obtain⟨ud2,e_q1⟩:=qj hG fq1;clear hG;have vd2:=vd1.trans ud2;refine⟨_,rfl,.inl ⟨q1,_,rfl,SqL.of e_q1,fun q2 fq2=>?_⟩⟩;generalize hG:upd d2 q2 _=d3;obtain⟨ud3,e_q2⟩:=qj hG fq2;clear hG;have vd3:=vd2.trans ud3;rw[jJ]at e_q2;obtain⟨k1,k2,mk1,mk2,ec⟩:=qmv (ks:=ns2.map (·.1)) (by rw[List.length_map];exact h2n);rw[ec]at e_q2;have e_q2:d3 q2=some (.lst [.str k1,.str k2]):=e_q2;(try unfold qA);(try dsimp only);refine⟨_,rfl,_,rfl,.inl ⟨q2,_,_,_,rfl,rfl,SqL.of e_q2,rfl,_,rfl,.inl ⟨q2,_,_,_,rfl,rfl,SqL.of e_q2,rfl,qk (Nat.le_of_ble_eq_true rfl),fun t1 ft1=>?_⟩⟩⟩;generalize hG:upd d3 t1 _=d4;obtain⟨ud4,e_t1⟩:=qj hG ft1;clear hG;have vd4:=vd3.trans ud4;refine⟨x,td,ed,bl2,ps2,ns2,zs2,bs2,wf2,t1,_,.many_,(.int 101),rfl,hk6.sm vd4,e_t1,(.bind4 mk1 mk2 (by decide) (by decide) hu100),(.flat rfl),(QC _),fun d5 ud5=>⟨_,rfl,qN rfl ?_⟩⟩;have vd5:=vd4.trans ud5;(try unfold qA);(try dsimp only);have hk7:=hk6.sm vd5;obtain⟨dx7,hx7⟩:=hk7.lo.hx;refine⟨_,rfl,x,dx7,_,rfl,hx7,rfl,_,rfl,p,_,rfl,pen6.same vd5,by decide,by decide,fun d H7 d0 d1 BP pen7=>?_⟩;have hk8:=hk7.pen (pen6.same vd5) nb6 BP pen7;have n_q2:q2≠p:=(pen6.same vd2).ne fq2;refine⟨x,td,ed,bl2,ps2,ns2,zs2,_,rfl,hk8.lo,QC _,.inl ⟨d.toNat,by rw[Int.toNat_of_nonneg d0],by omega,hk8.nz,fun H8 BB L8=>?_⟩⟩;obtain⟨m1,m2⟩:=hk8.mv BB hk8.lo.hb (fun _ _ _ z=>nomatch z) (fun _ z=>nomatch z);have lz8:(zs2.eraseIdx d.toNat).length=99:=by rw[List.length_eraseIdx_of_lt (by omega),hu100]
     have nbq:q2≠bl2:=fun z=>by rw[z]at fq2;rw[(hk6.sm vd2).lo.hb]at fq2;cases fq2
     have e_q8:H8 q2=some (.lst [.str k1,.str k2]):=BB _ _ (BP _ _ (ud5 _ _ (ud4 _ _ e_q2)) n_q2) nbq;(try unfold qA);(try dsimp only);have ve0:Same H8 H8:=Same.refl _;refine⟨_,rfl,_,rfl,.inl ⟨q2,_,_,_,rfl,rfl,SqL.of e_q8,rfl,_,rfl,.inl ⟨q2,_,_,_,rfl,rfl,SqL.of e_q8,rfl,qk (Nat.le_of_ble_eq_true rfl),fun t2 ft2=>?_⟩⟩⟩;generalize hG:upd H8 t2 _=e1;obtain⟨ue1,e_t2⟩:=qj hG ft2;clear hG;have ve1:=ve0.trans ue1;refine⟨x,td,ed,bl2,ps2,ns2,_,t2,_,rfl,L8.sm ve1,e_t2,.inr (.inr (.inr ⟨k1,k2,3,rfl,mk1,mk2,by decide,by decide,by omega,fun t3 H9 ft3 B9 e9 L9=>⟨rfl,_,rfl,qN rfl ?_⟩⟩))⟩;obtain⟨dx9,hx9⟩:=L9.hx;refine⟨_,rfl,x,dx9,_,rfl,hx9,rfl,_,_,_,_,_,_,_,rfl,L9,fun q3 fq3=>?_⟩;generalize hG:upd H9 q3 _=X1;obtain⟨w1,g1⟩:=qj hG fq3;clear hG;have nq9:q2≠bl2:=nbq;have e_q9:H9 q2=some (.lst [.str k1,.str k2]):=B9 _ _ (ue1 _ _ e_q8) nq9;refine .inl ⟨q3,_,_,_,rfl,rfl,SqL.of g1,QB (j:=99) (by rw[List.getElem?_append_right (by omega),lz8];rfl),?_⟩;refine⟨_,rfl,.inl ⟨q2,_,_,_,rfl,rfl,SqL.of (w1 _ _ e_q9),rfl,_,rfl,.inl ⟨q2,_,_,_,rfl,rfl,SqL.of (w1 _ _ e_q9),rfl,qk (Nat.le_of_ble_eq_true rfl),fun t4 ft4=>?_⟩⟩⟩;generalize hG:upd X1 t4 _=X2;obtain⟨w2,g2⟩:=qj hG ft4;clear hG;refine⟨t3,t4,_,_,rfl,rfl,w2 _ _ (w1 _ _ e9),g2,rfl,Tw.all rfl,_,rfl,qN rfl ?_⟩;refine hN _ _ ⟨⟨_,rfl⟩,fun b o h n1 n2 n3 n4 n5=>?_⟩
     have nbb:b≠bl2:=by
       rcases fb6 with z|z
       · exact qi h z
       · rw[z];exact n5
     exact w2 _ _ (w1 _ _ (B9 _ _ (ve1 _ _ (BB _ _ (BP _ _ (vd5 _ _ (kp6 b o h n1 n2 n3 n4 n5)) n1) nbb)) nbb))
   rintro _ H9 ⟨⟨s4,rfl⟩,kp9⟩;exact kk H9 kp9
end
theorem qjt {ns:List (Str×NameKind)}{R:Str×NameKind->Prop} (h:∀ y∈ns,y.2≠.free):∀ y∈ns,y.2=.free->R y:=fun y m e=>absurd e (h y m)
abbrev qkH:Pos:=⟨518,65,518,100⟩
def TbD (a:Ad) (H:Hp):Prop:=qk5 H a.t_Lputs_right qkH ("_law_puts_right"++".<locals>."++"<lambda>")
theorem TbD.tb {a:Ad}{H:Hp} (h:TbD a H):∃ ps,H a.t_Lputs_right=some (.tbl ps):=let ⟨ps,h,_⟩:=h;⟨ps,h⟩
theorem TbD.same {a:Ad}{H H':Hp} (h:TbD a H) (s:Same H H'):TbD a H':=by
 obtain⟨ps,h1,h2,h3⟩:=h;refine⟨ps,s _ _ h1,h2,?_⟩;rcases h3 with h3|⟨c,h3,h4⟩
 · exact .inl h3
 · exact .inr ⟨c,h3,s _ _ h4⟩
theorem TbD.but {a:Ad}{H H':Hp}{p:Addr} (h:TbD a H) (b:But p H H') (pen:PenAt H p):TbD a H':=by
 obtain⟨ps,h1,h2,h3⟩:=h;refine⟨ps,b _ _ h1 (pen.nk h1 fun _ z=>nomatch z),h2,?_⟩;rcases h3 with h3|⟨c,h3,h4⟩
 · exact .inl h3
 · exact .inr ⟨c,h3,b _ _ h4 (pen.nk h4 fun _ z=>nomatch z)⟩
theorem TbD.put {a:Ad}{H H':Hp}{q:Addr}{xs:List V} (h:TbD a H) (b:But q H H') (hq:H q=some (.lst xs)):TbD a H':=by
 obtain⟨ps,h1,h2,h3⟩:=h;refine⟨ps,b _ _ h1 (qX h1 hq fun z=>nomatch z),h2,?_⟩;rcases h3 with h3|⟨c,h3,h4⟩
 · exact .inl h3
 · exact .inr ⟨c,h3,b _ _ h4 (qX h4 hq fun z=>nomatch z)⟩
def But2 (p t:Addr) (H H':Hp):Prop:=∀ b o,H b=some o->b≠p->b≠t->H' b=some o
theorem But2.trans {p t:Addr}{H H1 H2:Hp} (a:But2 p t H H1) (b:But2 p t H1 H2):But2 p t H H2:=fun c o h n m=>b c o (a c o h n m) n m
theorem But.two' {p t:Addr}{H H':Hp} (b:But t H H'):But2 p t H H':=fun c o h _ n=>b c o h n
section
variable {a:Ad}{H H':Hp}{x td ed bl:Addr}{ps ns:List (Str×V)}{zs:List V}{bs:List (Str×Str×Int)}{wf:Str->List (Int×Int)}
theorem Lk.two {p t:Addr}{tb:Array Value} (h:Lk a H x td ed bl ps ns zs bs wf) (pen:PenAt H p) (n:bl≠p) (ht:H t=some (.tbl tb)) (b:But2 p t H H'):Lk a H' x td ed bl ps ns zs bs wf:=by
 obtain⟨dx,hx⟩:=h.lo.hx;have k:∀ b o,H b=some o->(∀ xs,o≠.lst xs)->(∀ xs,o≠.tbl xs)->H' b=some o:=fun q o e n1 n2=>b q o e (pen.nk e n1) (qX e ht fun z=>n2 _ z);refine⟨⟨⟨dx,k _ _ hx (fun _ z=>nomatch z) (fun _ z=>nomatch z)⟩,k _ _ h.lo.ht (fun _ z=>nomatch z) (fun _ z=>nomatch z),k _ _ h.lo.he (fun _ z=>nomatch z) (fun _ z=>nomatch z),b _ _ h.lo.hb n (qX h.lo.hb ht fun z=>nomatch z),h.lo.ne,h.lo.ndt,h.lo.nde⟩,fun e m=>?_,⟨h.tb.1,fun j z y e1 e2=>?_⟩,h.np,h.nn,h.nz⟩
 · obtain⟨y,h1,h2⟩:=h.en e m;exact⟨y,h1,h2.mp fun C d fs q=>k _ _ q (fun _ z=>nomatch z) (fun _ z=>nomatch z)⟩
 · obtain⟨t,h1,h2⟩:=h.tb.2 j z y e1 e2;exact⟨t,h1,k _ _ h2 (fun _ z=>nomatch z) (fun _ z=>nomatch z)⟩
end
theorem Ep0.but {a:Ad}{H H':Hp}{x q:Addr}{nm:Str}{ss:List Str}{o:HO} (h:Ep0 a H x nm ss) (b:But q H H') (hq:H q=some o) (n:∀ C d fs,o≠.ins C d fs):Ep0 a H' x nm ss:=h.mp fun c C d fs e _=>b _ _ e (qX e hq fun z=>n _ _ _ z.symm)
theorem qgz (p0 fr fz:Str):∃ us ws,zv (zv (zv (zv [] [p0]) []) [fr]) [fz]=us++fr::ws∧∀ s∈us,s=p0∧p0≠fr:=by
 by_cases e:p0=fr
 · subst e;refine⟨[],_,rfl,fun s m=>nomatch m⟩
 · have e1:zv (zv (zv [] [p0]) []) [fr]=[p0,fr]:=by simp[zv,Ne.symm e]
   rw[e1];refine⟨[p0],_,rfl,fun s m=>⟨List.mem_singleton.mp m,e⟩⟩
inductive Q7 (a:Ad) (vs:List V) (H:Hp) (Q:VK):Prop
 | mk (x td ed bl:Addr) (ps ns:List (Str×V)) (zs:List V) (bs:List (Str×Str×Int)) (wf:Str->List (Int×Int)) (p:Addr) (fr:Str) (h1:vs=[.ref x,.ref p,.str fr]) (h2:PenAt H p) (h3:Lk a H x td ed bl ps ns zs bs wf) (h4:bl≠p) (h5:Nfr (ns.map (·.1)) (ps.map (·.1)) fr) (h6:TbD a H) (h7:∀ H',But2 p a.t_Lputs_right H H'->PenAt H' p->TbD a H'->Q (.bl true) H'):Q7 a vs H Q
def Z9 (a:Ad):Sp:=fun vs H Q _=>Q7 a vs H Q
section
variable {P:Program}{w:World}{K:Frag}{mg:Str->Option Value}{base:Heap}
theorem qbK {a:Ad} (T:Txt K mg a) (hB:qik mg base):qu P w K mg base CX0 11 a.f_O a.fd_O ["_law_log","_law_state","_law_free"] (Z9 a):=by
 have G_f:=Qx (P:=P) (w:=w) (base:=base) T;have G_m:=jG (P:=P) (w:=w) (base:=base) T;have G_x:=ZO (P:=P) (w:=w) (base:=base) T;have G_ac:=qbH (P:=P) (w:=w) (base:=base) T;have G_b:=qeL (P:=P) (w:=w) (base:=base) T;have G_v:=qdA (P:=P) (w:=w) (base:=base) T;have G_w:=jz (P:=P) (w:=w) (base:=base) T;have G_a:=zL (P:=P) (w:=w) (base:=base) T;have G_k:=QY (P:=P) (w:=w) (base:=base) T;have G_aa:=qcK (P:=P) (w:=w) (base:=base) T;have G_F:=qcb (P:=P) (w:=w) (base:=base) T;have G_d:=zo (P:=P) (w:=w) (base:=base) T;refine T.d_O.F.okC T.cd_Lputs_right sc_Lputs_right (fun vs H Q E h=>?_) (fun cdv A outer s H vs Q E hcd hr h=>?_)
 · obtain⟨x,td,ed,bl,ps,ns,zs,bs,wf,p,fr,rfl,pen,hk,nb,nf,tb,kk⟩:=h;rfl
 · obtain⟨x,td,ed,bl,ps,ns,zs,bs,wf,p,fr,rfl,pen,hk,nb,nf,tb,kk⟩:=h;have hU:=hr.units;have h_f:Room (1) _:=hr.mono (by decide);have h_m:Room (3) _:=hr.mono (by decide);have h_x:Room (5+1) _:=hr.mono (by decide);have h_ac:Room (9+1) _:=hr.mono (by decide);have h_b:Room (10) _:=hr.mono (by decide);have h_v:Room (7+1) _:=hr.mono (by decide);have h_w:Room (5+1) _:=hr.mono (by decide);have h_a:Room (2) _:=hr.mono (by decide);have h_k:Room (1) _:=hr.mono (by decide);have h_aa:Room (5+1) _:=hr.mono (by decide);have h_F:Room (7+1) _:=hr.mono (by decide);have h_d:Room (3+1) _:=hr.mono (by decide)
   refine⟨_,(@qc _ _ _ _ _ (by exact(qC (i:=3) sc_Lputs_right.nd rfl (Or.inl rfl) (qK (pv 0) T.cl_Log T.d_f.mt G_f h_f T.d_f.b .nil qq)))
     (by exact(@qc _ _ _ _ _ (by exact(@Qe _ _ _ _ _ _ _ _ (by exact PassesOwn.never) (by rfl) (by exact(Qg rfl T.n_range (qa qf qb))) (by exact(qU (i:=4) (sc_Lputs_right.nd) rfl (Or.inl rfl)))
       (by exact(@qc _ _ _ _ _ (by exact(qC (i:=5) sc_Lputs_right.nd rfl (Or.inl rfl) (ql G_m h_m rfl T.d_m.m T.d_m.k T.d_m.b .nil qq (qa (pv 1) qb))))
       (by exact(@qc _ _ _ _ _ (by exact(@qM _ _ _ _ _ _ _ _ (by exact(qV (qP (ql G_b h_b rfl T.d_b.m T.d_b.k T.d_b.b .nil qq (qa (pv 0) (qa (qS (qa qt (qa (pv 5) qb))) (qa qt (qa (pv 5) qb))))))))
         (by exact(qe (qy zn)))
         (by exact qv)))
       (by exact(@qc _ _ _ _ _ (by exact(@qM _ _ _ _ _ _ _ _ (by exact(qV (qP (ql G_b h_b rfl T.d_b.m T.d_b.k T.d_b.b .nil qq (qa (pv 0) (qa (qS (qa qt (qa (pv 5) (qa qf qb)))) (qa qt (qa (pv 5) qb))))))))
         (by exact(qe (qy zn)))
         (by exact qv)))
       (by exact(@qc _ _ _ _ _ (by exact(@qM _ _ _ _ _ _ _ _ (by exact(qB (qhK hU) (pv 3) (qQ qb) (qJ _)))
         (by exact(@qc _ _ _ _ _ (by exact(qC (i:=6) sc_Lputs_right.nd rfl (Or.inl rfl) (qD (r:=rIx K) qr (pv 3) (ql G_a h_a rfl T.d_a.m T.d_a.k T.d_a.b .nil qq (qa (pv 1) (qa (qp qR (by rfl) T.n_len qE (qa (pv 3) qb)) qb))) (fun _ _=>rfl))))
         (by exact(@qc _ _ _ _ _ (by exact(@qC _ _ 7 _ _ _ _ (by exact sc_Lputs_right.nd) (by rfl) (by exact(Or.inl rfl)) (by exact(@qD _ _ _ _ _ _ (rIx K) (by exact qr) (by exact(@qQ _ _ _ _ (by exact(@qa _ _ _ _ _ (by exact(zt T.M_At G_F h_F rfl T.g_At T.d_F.b .nil qq (qa (pv 6) (qa qf qb)))) (by exact(@qa _ _ _ _ _ (by exact(zt T.M_Read G_v h_v rfl T.g_Read T.d_v.b .nil qq (qa (pv 6) (qa (pv 2) (qa qf qb))))) (by exact(@qa _ _ _ _ _ (by exact(zt T.M_Entry G_d h_d rfl T.g_Entry T.d_d.b .nil qq (qa (pv 6) qb))) (by exact(@qb _)) (by rfl))) (by rfl))) (by rfl))))) (by exact(ql G_a h_a rfl T.d_a.m T.d_a.k T.d_a.b .nil qq (qa (pv 1) (qa qf qb)))) (by exact fun _ _=>rfl))) (by rfl) (by exact .inl rfl)))
         (by exact(@qe _ _ _ (by exact(@qM _ _ _ _ _ _ _ _ (by exact(qV (qP (ql G_b h_b rfl T.d_b.m T.d_b.k T.d_b.b .nil qq (qa (pv 0) (qa (qS (qa qt (qa (pv 7) qb))) (qa qt (qa (pv 6) qb))))))))
           (by exact(qe (qy zn)))
           (by exact qv)))))))))
         (by exact qv)))
       (by exact(@qc _ _ _ _ _ (by exact(qC (i:=8) sc_Lputs_right.nd rfl (Or.inl rfl) (qD (r:=rIx K) qr (qH qab (qK (pv 0) T.cl_Log T.d_k.mt G_k h_k T.d_k.b .nil qq) (qQ (qa (pv 2) qb))) qf (fun _ _=>rfl))))
       (by exact(@qc _ _ _ _ _ (by exact(qC (i:=9) sc_Lputs_right.nd rfl (Or.inl rfl) (zt T.M_Between G_x h_x rfl T.g_Between T.d_x.b .nil qq (qa (pv 2) (qa (pv 2) (qa qf (qa qf qb)))))))
       (by exact(@qc _ _ _ _ _ (by exact(@qC _ _ 10 _ _ _ _ (by exact sc_Lputs_right.nd) (by rfl) (by exact(Or.inl rfl)) (by exact(@qQ _ _ _ _ (by exact(@qa _ _ _ _ _ (by exact(zt T.M_Read G_v h_v rfl T.g_Read T.d_v.b .nil qq (qa qt (qa (pv 8) (qa qf qb))))) (by exact(@qa _ _ _ _ _ (by exact(zt T.M_Within G_w h_w rfl T.g_Within T.d_w.b .nil qq (qa qt (qa qf (qa qf qb))))) (by exact(@qa _ _ _ _ _ (by exact(pv 9)) (by exact(@qa _ _ _ _ _ (by exact(zt T.M_Read G_v h_v rfl T.g_Read T.d_v.b .nil qq (qa qt (qa (qH qab (pv 2) qt) (qa qf qb))))) (by exact(@qb _)) (by rfl))) (by rfl))) (by rfl))) (by rfl))))) (by rfl) (by exact .inl rfl)))
       (by exact(@qc _ _ _ _ _ (by exact(qC (i:=11) sc_Lputs_right.nd rfl (Or.inl rfl) (zt T.M_Sifted G_ac h_ac rfl T.g_Sifted T.d_ac.b .nil qq (qa (pv 2) (qa (zt T.M_Read G_v h_v rfl T.g_Read T.d_v.b .nil qq (qa qt (qa (pv 2) (qa qf qb)))) (qa (qku (T:=a.t_Lputs_right) rfl (qjt (by decide)) hcd T.hd_Lputs_right hB) qb))))))
       (by exact(@qc _ _ _ _ _ (by exact(qeG (@qD _ _ _ _ _ _ (rIx K) (by exact qr) (by exact(@qQ _ _ _ _ (by exact(@qa _ _ _ _ _ (by exact(pv 9)) (by exact(@qa _ _ _ _ _ (by exact(pv 11)) (by exact(@qb _)) (by rfl))) (by rfl))))) (by exact(ql G_a h_a rfl T.d_a.m T.d_a.k T.d_a.b .nil qq (qa (pv 1) (qa qf qb)))) (by exact fun _ _=>rfl)) (qeI (pv 10) qf qaq)))
       (by exact(@qc _ _ _ _ _ (by exact(@qC _ _ 7 _ _ _ _ (by exact sc_Lputs_right.nd) (by rfl) (by exact(Or.inl rfl)) (by exact(@qD _ _ _ _ _ _ (rIx K) (by exact qr) (by exact(@qQ _ _ _ _ (by exact(@qa _ _ _ _ _ (by exact(pv 9)) (by exact(@qa _ _ _ _ _ (by exact(zt T.M_Joint G_aa h_aa rfl T.g_Joint T.d_aa.b .nil qq (qa (pv 2) (qa (pv 10) qb)))) (by exact(@qa _ _ _ _ _ (by exact(pv 11)) (by exact(@qb _)) (by rfl))) (by rfl))) (by rfl))))) (by exact(ql G_a h_a rfl T.d_a.m T.d_a.k T.d_a.b .nil qq (qa (pv 1) (qa qf qb)))) (by exact fun _ _=>rfl))) (by rfl) (by exact .inl rfl)))
       (by exact(@qe _ _ _ (by exact(@qM _ _ _ _ _ _ _ _ (by exact(qV (qP (ql G_b h_b rfl T.d_b.m T.d_b.k T.d_b.b .nil qq (qa (pv 0) (qa (qS (qa qt (qa (pv 7) qb))) (qa qt (qa (pv 2) qb))))))))
         (by exact(qe (qy zn)))
         (by exact qv))))))))))))))))))))))))) (by intro _;rfl)))
     (by exact(qe (qy zn)))))),?_⟩
   try dsimp only [zf,Cx.nox]
   obtain⟨tbl0s,tbl0⟩:=tb.tb;obtain⟨dx,hx⟩:=hk.lo.hx;have hnn:(ns.map (·.1)).length≤60:=by rw[List.length_map];exact hk.nn
   refine⟨_,rfl,x,dx,_,rfl,hx,rfl,x,td,ed,bl,ps,ns,zs,rfl,hk.lo,fun q fq=>?_⟩;have n_q:q≠p:=pen.ne fq;generalize hG:upd H q _=A1;obtain⟨s1,e1⟩:=qj hG fq;clear hG;have nqt:q≠a.t_Lputs_right:=fun z=>by rw[z,tbl0]at fq;cases fq
   try unfold qA
   try dsimp only
   refine⟨_,rfl,by decide,by decide,QR (lo:=0) (D:={ nx:=qim (tC (.bl true)) { nx:=fun _ H'=>Q .non H',rt:=Q },rt:=Q }) (fun i σ H'=>∃ s4 s5 s6 s7 s8 s9 s10 s11:Option V,σ=[some (.ref x),some (.ref p),some (.str fr),some (.ref q),s4,s5,s6,s7,s8,s9,s10,s11]∧But2 p a.t_Lputs_right H H'∧PenAt H' p∧TbD a H'∧H' q=some (.lst ((ns.map (·.1)).map V.str))) ⟨_,_,_,_,_,_,_,_,rfl,fun b o h _ _=>s1 _ _ h,pen.same s1,tb.same s1,e1⟩ ?_ ?_⟩
   · rintro i σ H1 hi ⟨s4,s5,s6,s7,s8,s9,s10,s11,rfl,B,pB,tbB,hq⟩;have p0:PenAt H1 p:=pB;have t0:But p H1 H1:=But.refl p H1;have e_q:=hq;have hkS:=hk.two pen nb tbl0 B;have hkE:=hkS.cut pB nb;have g1:=Gh.cut pB;refine⟨_,rfl,p,rfl,p0,fun v G1 u1 p1 ov hv=>?_⟩;have t1:=t0.trans u1;(try unfold qA);(try dsimp only);refine⟨_,rfl,_,rfl,qk (Nat.le_of_ble_eq_true rfl),fun k1 fk1=>?_⟩;have n_k1:k1≠p:=p1.ne fk1;generalize hG:upd G1 k1 _=G2;obtain⟨u2,e_k1⟩:=qj hG fk1;clear hG;have p2:=p1.same u2;have t2:=t1.same u2;refine⟨_,rfl,x,td,ed,bl,ps,ns,zs,bs,wf,k1,_,.entry_,v,rfl,hkE.sm (g1.take t2 p2).s,e_k1,(.put1 (ov.same u2).th.1),(ov.same u2).se,(ov.same u2).th.1,fun G3 u3=>⟨_,rfl,qN rfl ?_⟩⟩;have p3:=p2.same u3;have t3:=t2.same u3;(try unfold qA);(try dsimp only);refine⟨_,rfl,_,rfl,qk (Nat.le_of_ble_eq_true rfl),fun k2 fk2=>?_⟩;have n_k2:k2≠p:=p3.ne fk2;generalize hG:upd G3 k2 _=G4;obtain⟨u4,e_k2⟩:=qj hG fk2;clear hG;have p4:=p3.same u4;have t4:=t3.same u4;refine⟨_,rfl,x,td,ed,bl,ps,ns,zs,bs,wf,k2,_,.name_,v,rfl,hkE.sm (g1.take t4 p4).s,e_k2,(.clock1 (((ov.same u2).same u3).same u4).th hv),(((ov.same u2).same u3).same u4).se,(((ov.same u2).same u3).same u4).th.1,fun G5 u5=>⟨_,rfl,qN rfl ?_⟩⟩;have p5:=p4.same u5;have t5:=t4.same u5;(try unfold qA);(try dsimp only);refine zp (t:=qjP _ _ _) (fun σ' H'=>∃ s6 s7:Option V,σ'=[some (.ref x),some (.ref p),some (.str fr),some (.ref q),some (.int (0+(i:Int))),some v,s6,s7,s8,s9,s10,s11]∧But p G5 H'∧PenAt H' p) (fun N hN=>?_) ?_
     · refine⟨_,rfl,qk (Nat.le_of_ble_eq_true rfl),fun l0 fl0=>?_⟩;have n_l0:l0≠p:=p5.ne fl0;generalize hG:upd G5 l0 _=G6;obtain⟨u6,e_l0⟩:=qj hG fl0;clear hG;have e_l0:G6 l0=some (.lst []):=e_l0;have p6:=p5.same u6;have t6:=t5.same u6;refine⟨q,l0,_,rfl,rfl,SqL.of (u6 _ _ (u5 _ _ (u4 _ _ (u3 _ _ (u2 _ _ (u1 _ _ e_q n_q)))))),SqL.of e_l0,_,rfl,?_⟩;by_cases hem:((ns.map (·.1)).map V.str).isEmpty=true
       · rw[hem];exact qN rfl (hN _ _ ⟨_,_,rfl,But.same (But.refl p _) u6,p6⟩)
       have hem:=Bool.eq_false_iff.mpr hem;rw[hem];refine zU rfl ?_
       have l0k:0 < (ns.map (·.1)).length:=by
         cases h:ns.map (·.1) with
         | nil=>rw[h]at hem;cases hem
         | cons _ _=>exact Nat.succ_pos _
       have lm:((ns.map (·.1)).map V.str).length=(ns.map (·.1)).length:=List.length_map _;refine⟨_,rfl,_,rfl,_,rfl,_,_,rfl,.inl ⟨_,SqL.of (u6 _ _ (u5 _ _ (u4 _ _ (u3 _ _ (u2 _ _ (u1 _ _ e_q n_q)))))),rfl⟩,p,_,rfl,p6,by rw[lm];omega,by rw[lm];omega,fun d G7 d0 d1 u7 p7=>?_⟩;have t7:=t6.trans u7;obtain⟨y1,hy1,my1⟩:=zS (xs:=(ns.map (·.1)).map V.str) d0 d1;obtain⟨k1,mk1,rfl⟩:=List.mem_map.mp my1;have ok1:=nf.n k1 mk1;refine .inl ⟨q,_,_,_,rfl,rfl,SqL.of (u7 _ _ (u6 _ _ (u5 _ _ (u4 _ _ (u3 _ _ (u2 _ _ (u1 _ _ e_q n_q)))))) n_q),hy1,?_⟩;(try unfold qA);(try dsimp only);refine⟨_,rfl,fun z1 dz1 fz1 fdz1 nez1=>⟨z1,dz1,k1,3,rfl,qd,ok1,⟨by decide,by decide⟩,fun G8 Bz1 e_z1=>⟨rfl,?_⟩⟩⟩;have n_z1:z1≠p:=p7.ne fz1;have u8:Same G7 G8:=qW fz1 fdz1 Bz1;have p8:=p7.same u8;have t8:=t7.same u8;refine⟨_,rfl,_,rfl,fun z2 dz2 fz2 fdz2 nez2=>⟨z2,dz2,k1,fr,3,rfl,qd,ok1,nf.f,⟨by decide,by decide⟩,fun G9 Bz2 e_z2=>⟨rfl,?_⟩⟩⟩;have n_z2:z2≠p:=p8.ne fz2;have u9:Same G8 G9:=qW fz2 fdz2 Bz2;have p9:=p8.same u9;have t9:=t8.same u9;refine⟨_,rfl,fun z3 dz3 fz3 fdz3 nez3=>⟨z3,a.c_Entry,dz3,k1,rfl,qd,ok1,T.cl_Entry,T.n_Entry_name,fun G10 Bz3 e_z3=>⟨rfl,?_⟩⟩⟩;have n_z3:z3≠p:=p9.ne fz3;have u10:Same G9 G10:=qW fz3 fdz3 Bz3;have p10:=p9.same u10;have t10:=t9.same u10;refine⟨qk (Nat.le_of_ble_eq_true rfl),fun l1 fl1=>?_⟩;have n_l1:l1≠p:=p10.ne fl1;generalize hG:upd G10 l1 _=G11;obtain⟨u11,e_l1⟩:=qj hG fl1;clear hG;have e_l1:G11 l1=some (.lst [.ref z1,.ref z2,.ref z3]):=e_l1;have p11:=p10.same u11;have t11:=t10.same u11;refine⟨_,rfl,p,_,rfl,p11,by decide,by decide,fun d G12 d0 d1 u12 p12=>?_⟩;have t12:=t11.trans u12;obtain⟨z,hz,mz⟩:=zS (xs:=([.ref z1,.ref z2,.ref z3]:List V)) d0 d1
       have qz:∃ y ss,z=.ref y∧Ep1 a G12 y k1 ss:=by
         simp only[List.mem_cons,List.not_mem_nil,or_false]at mz;rcases mz with rfl|rfl|rfl
         · exact⟨z1,_,rfl,.at_ (u12 _ _ (u11 _ _ (u10 _ _ (u9 _ _ e_z1))) n_z1)⟩
         · exact⟨z2,_,rfl,.b (.read (u12 _ _ (u11 _ _ (u10 _ _ e_z2)) n_z2))⟩
         · exact⟨z3,_,rfl,.any (u12 _ _ (u11 _ _ e_z3) n_z3)⟩
       refine .inl ⟨l1,_,_,_,rfl,rfl,SqL.of (u12 _ _ e_l1 n_l1),hz,?_⟩;obtain⟨y0,ss,rfl,ep⟩:=qz;(try unfold qA);(try dsimp only);refine⟨_,rfl,_,rfl,qk (Nat.le_of_ble_eq_true rfl),fun k3 fk3=>?_⟩;have n_k3:k3≠p:=p12.ne fk3;generalize hG:upd G12 k3 _=G13;obtain⟨u13,e_k3⟩:=qj hG fk3;clear hG;have p13:=p12.same u13;have t13:=t12.same u13;refine⟨_,rfl,x,td,ed,bl,ps,ns,zs,bs,wf,k3,_,.taken_,(.str k1),rfl,hkE.sm (g1.take t13 p13).s,e_k3,(.put2 (ep.same u13) mk1),(qcc (p:=p) ok1).se,(qcc (p:=p) ok1).th.1,fun G14 u14=>⟨_,rfl,qN rfl ?_⟩⟩;have p14:=p13.same u14;have t14:=t13.same u14;(try unfold qA);(try dsimp only);exact hN _ _ ⟨_,_,rfl,(((((((((But.refl p _).same u6).trans u7).same u8).same u9).same u10).same u11).trans u12).same u13).same u14,p14⟩
     rintro _ G6 ⟨s6,s7,rfl,u6,p6⟩;have t6:=t5.trans u6;(try unfold qA);(try dsimp only);have hkP:=hkE.sm (g1.take t6 p6).s;obtain⟨dx,hx⟩:=hkP.lo.hx;refine⟨_,rfl,x,dx,_,rfl,hx,rfl,x,td,ed,bl,ps,ns,zs,rfl,hkP.lo,hk.np,fun q5 ss5 fq5 pm5 so5=>?_⟩;have n_q5:q5≠p:=p6.ne fq5;generalize hG:upd G6 q5 _=G7;obtain⟨u7,e_q5⟩:=qj hG fq5;clear hG;have p7:=p6.same u7;have t7:=t6.same u7;refine⟨_,rfl,qk (Nat.le_of_ble_eq_true rfl),fun l5 fl5=>?_⟩;have n_l5:l5≠p:=p7.ne fl5;generalize hG:upd G7 l5 _=G8;obtain⟨u8,e_l5⟩:=qj hG fl5;clear hG;have p8:=p7.same u8;have t8:=t7.same u8;have l6:ss5.length≤6:=by rw[pm5.length_eq,List.length_map];exact hk.np
     refine .inr (.inl ⟨q5,l5,_,_,rfl,rfl,(u8 _ _ e_q5),e_l5,Nat.le_of_lt (zc (by rw[List.length_map];show _+1≤1000;omega)),fun c5 fc5=>?_⟩);have n_c5:c5≠p:=p8.ne fc5;generalize hG:upd G8 c5 _=G9;obtain⟨u9,e_c5⟩:=qj hG fc5;clear hG;have p9:=p8.same u9;have t9:=t8.same u9;have e_c5:G9 c5=some (.lst ((ss5++[fr]).map V.str)):=by rw[List.map_append];exact e_c5
     have nfs:fr∉ss5:=fun m=>nf.fp (pm5.mem_iff.mp m);obtain⟨pl0,hp0,hp⟩:=qeN nfs;have hp:pl0=fr∨(pl0≠fr∧pl0∈ps.map (·.1)):=hp.imp id fun⟨h1,h2,_⟩=>⟨h1,pm5.mem_iff.mp h2⟩
     have okp:qY (.str pl0)=true:=by
       rcases hp with h|⟨_,h⟩
       · rw[h];exact nf.f
       · exact nf.p _ h
     refine .inl ⟨c5,_,_,_,rfl,rfl,SqL.of e_c5,hp0,?_⟩;(try unfold qA);(try dsimp only);refine⟨_,rfl,_,rfl,fun lo_ dlo_ flo_ fdlo_ nelo_=>⟨lo_,a.c_Between,dlo_,fr,fr,3,4,rfl,qd,nf.f,nf.f,⟨by decide,by decide⟩,⟨by decide,by decide⟩,T.cl_Between,T.n_Between_name,T.n_Between_place,T.n_Between_low,T.n_Between_high,fun G10 Blo_ e_lo_=>⟨rfl,?_⟩⟩⟩;have n_lo_:lo_≠p:=p9.ne flo_;have u10:Same G9 G10:=qW flo_ fdlo_ Blo_;have p10:=p9.same u10;have t10:=t9.same u10;(try unfold qA);(try dsimp only);refine⟨_,rfl,fun r1 dr1 fr1 fdr1 ner1=>⟨r1,dr1,"a",pl0,3,rfl,qd,(by decide +kernel),okp,⟨by decide,by decide⟩,fun G11 Br1 e_r1=>⟨rfl,?_⟩⟩⟩;have n_r1:r1≠p:=p10.ne fr1;have u11:Same G10 G11:=qW fr1 fdr1 Br1;have p11:=p10.same u11;have t11:=t10.same u11;refine fun w1 dw1 fw1 fdw1 new1=>⟨w1,a.c_Within,dw1,"b",3,4,rfl,qd,(by decide +kernel),⟨by decide,by decide⟩,⟨by decide,by decide⟩,T.cl_Within,T.n_Within_name,T.n_Within_low,T.n_Within_high,fun G12 Bw1 e_w1=>⟨rfl,?_⟩⟩
     have n_w1:w1≠p:=p11.ne fw1;have u12:Same G11 G12:=qW fw1 fdw1 Bw1;have p12:=p11.same u12;have t12:=t11.same u12;have lfr:=ZX nf.f;refine⟨_,rfl,_,rfl,.inr (.inr ⟨_,_,rfl,rfl,qk (by show _+1≤1000;omega),fun r2 dr2 fr2 fdr2 ner2=>⟨r2,dr2,"c",(fr++"z"),4,rfl,qd,(by decide +kernel),nf.z,⟨by decide,by decide⟩,fun G13 Br2 e_r2=>⟨rfl,?_⟩⟩⟩)⟩;have n_r2:r2≠p:=p12.ne fr2;have u13:Same G12 G13:=qW fr2 fdr2 Br2;have p13:=p12.same u13;have t13:=t12.same u13;refine⟨qk (Nat.le_of_ble_eq_true rfl),fun pt fpt=>?_⟩;have n_pt:pt≠p:=p13.ne fpt;generalize hG:upd G13 pt _=G14;obtain⟨u14,e_pt⟩:=qj hG fpt;clear hG;have e_pt:G14 pt=some (.lst [.ref r1,.ref w1,.ref lo_,.ref r2]):=e_pt;have p14:=p13.same u14;have t14:=t13.same u14;(try unfold qA);(try dsimp only);have n_qpt:q≠pt:=qi (u13 _ _ (u12 _ _ (u11 _ _ (u10 _ _ (u9 _ _ (u8 _ _ (u7 _ _ (u6 _ _ (u5 _ _ (u4 _ _ (u3 _ _ (u2 _ _ (u1 _ _ e_q n_q))))) n_q)))))))) fpt;have nbpt:bl≠pt:=qi (hkE.sm (g1.take t13 p13).s).lo.hb fpt;have npt1:∀ b o,H1 b=some o->b≠p->b≠pt:=fun b o h n=>qi (t13 _ _ h n) fpt;refine⟨_,rfl,_,rfl,fun r3 dr3 fr3 fdr3 ner3=>⟨r3,dr3,"a",fr,3,rfl,qd,(by decide +kernel),nf.f,⟨by decide,by decide⟩,fun G15 Br3 e_r3=>⟨rfl,?_⟩⟩⟩;have n_r3:r3≠p:=p14.ne fr3;have u15:Same G14 G15:=qW fr3 fdr3 Br3;have p15:=p14.same u15;have t15:=t14.same u15;have tb0:TbD a H1:=tbB;have tbn:TbD a G15:=((((((((((((((tb0.but u1 p0).same u2).same u3).same u4).same u5).but u6 p5).same u7).same u8).same u9).same u10).same u11).same u12).same u13).same u14).same u15;obtain⟨tbs,htb⟩:=tbn.tb;refine⟨tbn,fun fu cu ou H2 ffu nfu BT tb2 _ _ _=>?_⟩;have tb2:TbD a H2:=tb2;have ntp:a.t_Lputs_right≠p:=p15.nk htb fun _ z=>nomatch z;have pL:PenAt H2 p:=p15.but BT ntp;have e_q:=BT _ _ (u15 _ _ (u14 _ _ (u13 _ _ (u12 _ _ (u11 _ _ (u10 _ _ (u9 _ _ (u8 _ _ (u7 _ _ (u6 _ _ (u5 _ _ (u4 _ _ (u3 _ _ (u2 _ _ (u1 _ _ e_q n_q))))) n_q)))))))))) (qX (u15 _ _ (u14 _ _ (u13 _ _ (u12 _ _ (u11 _ _ (u10 _ _ (u9 _ _ (u8 _ _ (u7 _ _ (u6 _ _ (u5 _ _ (u4 _ _ (u3 _ _ (u2 _ _ (u1 _ _ e_q n_q))))) n_q)))))))))) htb (fun z=>nomatch z));have e_pt:=BT _ _ (u15 _ _ e_pt) (qX (u15 _ _ e_pt) htb (fun z=>nomatch z));have e_lo_:=BT _ _ (u15 _ _ (u14 _ _ (u13 _ _ (u12 _ _ (u11 _ _ e_lo_))))) (qX (u15 _ _ (u14 _ _ (u13 _ _ (u12 _ _ (u11 _ _ e_lo_))))) htb (fun z=>nomatch z));have e_r1:=BT _ _ (u15 _ _ (u14 _ _ (u13 _ _ (u12 _ _ e_r1)))) (qX (u15 _ _ (u14 _ _ (u13 _ _ (u12 _ _ e_r1)))) htb (fun z=>nomatch z));have e_w1:=BT _ _ (u15 _ _ (u14 _ _ (u13 _ _ e_w1))) (qX (u15 _ _ (u14 _ _ (u13 _ _ e_w1))) htb (fun z=>nomatch z));have e_r2:=BT _ _ (u15 _ _ (u14 _ _ e_r2)) (qX (u15 _ _ (u14 _ _ e_r2)) htb (fun z=>nomatch z));have e_r3:=BT _ _ e_r3 (qX e_r3 htb (fun z=>nomatch z));have hkT:=(hkE.sm (g1.take t15 p15).s).two p15 nb htb (But.two' BT);have hkF:=hkT.cut pL nb;have g2:=Gh.cut pL;have p16:PenAt H2 p:=pL;have t16:But p H2 H2:=But.refl p H2;refine fun sf dsf fsf fdsf nesf=>⟨sf,dsf,r3,dr3,fr,_,_,rfl,qd,nf.f,(up2 fsf fdsf _ _ e_r3),(by simp),fun G17 Bsf e_sf=>⟨rfl,?_⟩⟩
     have n_sf:sf≠p:=p16.ne fsf;have u17:Same H2 G17:=qW fsf fdsf Bsf;have p17:=p16.same u17;have t17:=t16.same u17;(try unfold qA);(try dsimp only);refine⟨_,rfl,_,rfl,qk (Nat.le_of_ble_eq_true rfl),fun l7 fl7=>?_⟩;have n_l7:l7≠p:=p17.ne fl7;generalize hG:upd G17 l7 _=G18;obtain⟨u18,e_l7⟩:=qj hG fl7;clear hG;have e_l7:G18 l7=some (.lst [.ref lo_,.ref sf]):=e_l7;have p18:=p17.same u18;have t18:=t17.same u18;refine⟨_,rfl,p,_,rfl,p18,by decide,by decide,fun d G19 d0 d1 u19 p19=>?_⟩;have t19:=t18.trans u19;obtain⟨z,hz,mz⟩:=zS (xs:=([.ref lo_,.ref sf]:List V)) d0 d1
     have qz:∃ y,z=.ref y∧Ep0 a G19 y fr [fr]:=by
       simp only[List.mem_cons,List.not_mem_nil,or_false]at mz;rcases mz with rfl|rfl
       · exact⟨lo_,rfl,.between (u19 _ _ (u18 _ _ (u17 _ _ e_lo_)) n_lo_)⟩
       · exact⟨sf,rfl,.sift (u19 _ _ (u18 _ _ e_sf) n_sf) (u19 _ _ (u18 _ _ (u17 _ _ e_r3)) n_r3)⟩
     refine .inl ⟨l7,_,_,_,rfl,rfl,SqL.of (u19 _ _ e_l7 n_l7),hz,?_⟩;obtain⟨y0,rfl,ep0⟩:=qz;refine⟨_,rfl,pt,_,_,2,rfl,rfl,(u19 _ _ (u18 _ _ (u17 _ _ e_pt)) n_pt),rfl,?_⟩;have hpt:=(u19 _ _ (u18 _ _ (u17 _ _ e_pt)) n_pt)
     generalize hG:upd G19 pt _=G20;have e_pt2:G20 pt=some (.lst [.ref r1,.ref w1,.ref y0,.ref r2]):=by rw[← hG,qd];rfl
     have bpt:But pt G19 G20:=fun b o e nb'=>by rw[← hG,qg nb'];exact e
     clear hG;have p20:PenAt G20 p:=p19.but bpt n_pt;(try unfold qA);(try dsimp only);have p21:PenAt G20 p:=p20;have t21:But p G20 G20:=But.refl p G20;have e_q:=bpt _ _ (u19 _ _ (u18 _ _ (u17 _ _ e_q)) n_q) n_qpt;have e_r1:=bpt _ _ (u19 _ _ (u18 _ _ (u17 _ _ e_r1)) n_r1) (qX (u19 _ _ (u18 _ _ (u17 _ _ e_r1)) n_r1) hpt (fun z=>nomatch z));have e_w1:=bpt _ _ (u19 _ _ (u18 _ _ (u17 _ _ e_w1)) n_w1) (qX (u19 _ _ (u18 _ _ (u17 _ _ e_w1)) n_w1) hpt (fun z=>nomatch z));have e_r2:=bpt _ _ (u19 _ _ (u18 _ _ (u17 _ _ e_r2)) n_r2) (qX (u19 _ _ (u18 _ _ (u17 _ _ e_r2)) n_r2) hpt (fun z=>nomatch z));have e_lo_:=bpt _ _ (u19 _ _ (u18 _ _ (u17 _ _ e_lo_)) n_lo_) (qX (u19 _ _ (u18 _ _ (u17 _ _ e_lo_)) n_lo_) hpt (fun z=>nomatch z));have e_r3:=bpt _ _ (u19 _ _ (u18 _ _ (u17 _ _ e_r3)) n_r3) (qX (u19 _ _ (u18 _ _ (u17 _ _ e_r3)) n_r3) hpt (fun z=>nomatch z));have e_sf:=bpt _ _ (u19 _ _ (u18 _ _ e_sf) n_sf) (qX (u19 _ _ (u18 _ _ e_sf) n_sf) hpt (fun z=>nomatch z));have ep1:=ep0.but bpt hpt (fun _ _ _ z=>nomatch z)
     have hkU:Lk a G20 x td ed bl ps ns zs bs wf:=by
       have h0:=hkF.sm (g2.take t19 p19).s;obtain⟨m1,m2⟩:=h0.mv bpt hpt (fun _ _ _ z=>nomatch z) (fun _ z=>nomatch z);obtain⟨dx,hx⟩:=h0.lo.hx;exact⟨⟨⟨dx,bpt _ _ hx (qX hx hpt (fun z=>nomatch z))⟩,bpt _ _ h0.lo.ht (qX h0.lo.ht hpt (fun z=>nomatch z)),bpt _ _ h0.lo.he (qX h0.lo.he hpt (fun z=>nomatch z)),bpt _ _ h0.lo.hb nbpt,hk.lo.ne,hk.lo.ndt,hk.lo.nde⟩,m1,m2,hk.np,hk.nn,hk.nz⟩
     have hkV:=hkU.cut p20 nb;have g3:=Gh.cut p20
     have enJ:∀ t∈([(r1,"a",[pl0]),(w1,"b",[]),(y0,fr,[fr]),(r2,"c",[fr++"z"])]:List (Addr×Str×List Str)),Ep0 a G20 t.1 t.2.1 t.2.2∧t.2.2.length≤1:=by
       intro t mt;simp only[List.mem_cons,List.not_mem_nil,or_false]at mt;rcases mt with rfl|rfl|rfl|rfl
       · exact⟨.read e_r1,Nat.le_refl _⟩
       · exact⟨.within e_w1,Nat.zero_le _⟩
       · exact⟨ep1,Nat.le_refl _⟩
       · exact⟨.read e_r2,Nat.le_refl _⟩
     refine⟨_,rfl,_,rfl,_,rfl,fun j djj fj fdj nej=>⟨j,djj,pt,fr,[(r1,"a",[pl0]),(w1,"b",[]),(y0,fr,[fr]),(r2,"c",[fr++"z"])],rfl,qd,nf.f,up2 fj fdj _ _ e_pt2,(Nat.le_of_ble_eq_true rfl),(Nat.le_of_ble_eq_true rfl),fun t mt=>(enJ t mt).1.same (up2 fj fdj),fun lj G22 flj Bj e_j e_lj=>⟨rfl,?_⟩⟩⟩;have n_j:j≠p:=p21.ne fj;have u22:Same G20 G22:=qW fj fdj Bj
     have n_lj:lj≠p:=fun z=>by
       rw[z]at flj;obtain⟨_,_,_,_,h⟩:=p21;rw[up2 fj fdj _ _ h]at flj;cases flj
     have p22:=p21.same u22;have t22:=t21.same u22;refine⟨_,rfl,qk (Nat.le_of_ble_eq_true rfl),fun l8 fl8=>?_⟩;have n_l8:l8≠p:=p22.ne fl8;generalize hG:upd G22 l8 _=G23;obtain⟨u23,e_l8⟩:=qj hG fl8;clear hG;have e_l8:G23 l8=some (.lst [.ref lo_,.ref j,.ref sf]):=e_l8;have p23:=p22.same u23;have t23:=t22.same u23;refine⟨_,rfl,p,_,rfl,p23,by decide,by decide,fun d G24 d0 d1 u24 p24=>?_⟩;have t24:=t23.trans u24;obtain⟨us,ws,eJ,hJ⟩:=qgz pl0 fr (fr++"z")
     have hJ:∀ s∈us,s∈ps.map (·.1):=fun s ms=>by
       obtain⟨h1,h2⟩:=hJ s ms;rw[h1];exact(hp.resolve_left h2).2
     have epJ:Ep1 a G24 j fr (us++fr::ws):=by
       rw[← eJ];exact .jn (ps:=[(r1,"a",[pl0]),(w1,"b",[]),(y0,fr,[fr]),(r2,"c",[fr++"z"])]) (u24 _ _ (u23 _ _ e_j) n_j) (u24 _ _ (u23 _ _ e_lj) n_lj) (Nat.le_of_ble_eq_true rfl) fun t mt=>⟨(enJ t mt).1.mp fun c C d fs e _=>(u24 _ _ (u23 _ _ (u22 _ _ e)) (p23.nk (u23 _ _ (u22 _ _ e)) fun _ z=>nomatch z)),(enJ t mt).2⟩
     obtain⟨z,hz,mz⟩:=zS (xs:=([.ref lo_,.ref j,.ref sf]:List V)) d0 d1
     have qz:∃ y us ws,z=.ref y∧Ep1 a G24 y fr (us++fr::ws)∧∀ s∈us,s∈ps.map (·.1):=by
       simp only[List.mem_cons,List.not_mem_nil,or_false]at mz;rcases mz with rfl|rfl|rfl
       · exact⟨lo_,[],[],rfl,.b (.between (u24 _ _ (u23 _ _ (u22 _ _ e_lo_)) n_lo_)),fun s m=>nomatch m⟩
       · exact⟨j,us,ws,rfl,epJ,hJ⟩
       · exact⟨sf,[],[],rfl,.b (.sift (u24 _ _ (u23 _ _ (u22 _ _ e_sf)) n_sf) (u24 _ _ (u23 _ _ (u22 _ _ e_r3)) n_r3)),fun s m=>nomatch m⟩
     refine .inl ⟨l8,_,_,_,rfl,rfl,SqL.of (u24 _ _ e_l8 n_l8),hz,?_⟩;obtain⟨yz,us2,ws2,rfl,epz,hus⟩:=qz;(try unfold qA);(try dsimp only);refine⟨_,rfl,_,rfl,qk (Nat.le_of_ble_eq_true rfl),fun k9 fk9=>?_⟩;have n_k9:k9≠p:=p24.ne fk9;generalize hG:upd G24 k9 _=G25;obtain⟨u25,e_k9⟩:=qj hG fk9;clear hG;have p25:=p24.same u25;have t25:=t24.same u25;refine⟨_,rfl,x,td,ed,bl,ps,ns,zs,bs,wf,k9,_,.place_,(.str fr),rfl,hkV.sm (g3.take t25 p25).s,e_k9,(.put3 (epz.same u25) nf.fn hus nf.fp),(qcc (p:=p) nf.f).se,(qcc (p:=p) nf.f).th.1,fun G26 u26=>⟨_,rfl,qN rfl ?_⟩⟩;have p26:=p25.same u26;have t26:=t25.same u26;(try unfold qA);(try dsimp only);have tbg:TbD a G26:=((((((TbD.put (((tb2.same u17).same u18).but u19 p18) bpt hpt).same u22).same u23).but u24 p23).same u25).same u26)
     refine⟨_,_,_,_,_,_,_,_,rfl,B.trans ?_,p26,tbg,(u26 _ _ (u25 _ _ (u24 _ _ (u23 _ _ (u22 _ _ e_q)) n_q)))⟩;intro b o e n1 n2;have h1:G15 b=some o:=t15 _ _ e n1;have h2:=t19 _ _ (BT _ _ h1 n2) n1;exact t26 _ _ (bpt _ _ h2 (npt1 _ _ e n1)) n1
   · rintro σ H1 ⟨s4,s5,s6,s7,s8,s9,s10,s11,rfl,B,pB,tbB,hq⟩;exact kk H1 B pB tbB
end
def qhr (K:Frag) (t:Addr):Sp:=fun vs H Q _=>∃ (sa:Addr) (ns:List Int),vs=[.ref sa]∧SqL K H sa (ns.map V.int)∧ns.length≤63∧qk5 H t qkH ("_law_puts_right"++".<locals>."++"<lambda>")∧∀ H',Q (.bl true) H'
theorem qlk {K:Frag}{H H':Hp}{sa:Addr}{xs:List V} (h:SqL K H sa xs) (k:∀ o,H sa=some o->(∀ ps,o≠.tbl ps)->H' sa=some o):SqL K H' sa xs:=by
 rcases h with (h|⟨o,h⟩)|h
 · exact .inl (.inl (k _ h (by intro p z;cases z)))
 · exact .inl (.inr ⟨o,k _ h (by intro p z;cases z)⟩)
 · exact .inr h
theorem qlb {x:Str} (h:qY (.str x)=true):(Txt.slice x none (some 7)).cps.toList=x.cps.toList.take 7:=by
 have h8:=ZX h;by_cases h7:7≤x.length
 · exact qaC (n:=7) (by decide) (by omega)
 · have e:(PySem.Builtin.Str.strSliceIndices none (some 7) 1 x.length).length=x.length:=by
     have:∀ n:Fin 7,(PySem.Builtin.Str.strSliceIndices none (some 7) 1 n.1).length=n.1:=by decide +kernel
     exact this ⟨x.length,by omega⟩
   unfold Txt.slice;rw[e,if_pos (by simp),List.take_of_length_le (by rw[Jz];omega)]
theorem qhT {x:Str} (h:qY (.str x)=true):1≤x.cps.toList.length∧∀ c∈x.cps.toList,sgn c=true:=by
 simp only[qY,Bool.and_eq_true,decide_eq_true_eq]at h;exact⟨by rw[Jz];exact h.1.1,List.all_eq_true.mp h.2⟩
theorem qdC {x:Str}{cs:List Nat} (e:x.cps.toList=cs) (h1:1≤cs.length) (h8:cs.length≤8) (hl:∀ c∈cs,sgn c=true):qY (.str x)=true:=by
 have:x.length=cs.length:=by rw[jI,e]
 simp only[qY,Bool.and_eq_true,decide_eq_true_eq];rw[this,e];exact⟨⟨h1,h8⟩,List.all_eq_true.mpr hl⟩
theorem qlD {x:Str} (h:qY (.str x)=true):qY (.str (Txt.slice x none (some 7)))=true∧qY (.str (Txt.slice x none (some 7)++"z"))=true:=by
 obtain⟨h1,h2⟩:=qhT h;have e:=qlb h;have l:(x.cps.toList.take 7).length=min 7 x.cps.toList.length:=List.length_take;refine⟨qdC e (by omega) (by omega) fun c m=>h2 c (List.mem_of_mem_take m),qdC (cs:=x.cps.toList.take 7++[122]) (by rw[qcY,e];rfl) (by rw[List.length_append];omega) (by rw[List.length_append];show _+1≤8;omega) fun c m=>?_⟩;rcases List.mem_append.mp m with m|m
 · exact h2 c (List.mem_of_mem_take m)
 · rw[List.mem_singleton.mp m];decide +kernel
def gd (fr:Str) (k:Str):Bool:=!decide (k=fr) && !decide (k=fr++"z")
theorem qgn:∀ {l:List Str} (s:Str),l.Nodup->l.length≤(l.filter fun k=>!decide (k=s)).length+1
 | [],s,_=>by simp
 | n::ns,s,h=>by
   have h':=List.nodup_cons.mp h;by_cases e:n=s
   · have ef:ns.filter (fun k=>!decide (k=s))=ns:=List.filter_eq_self.mpr fun m mm=>by
       have:m≠s:=fun z=>h'.1 (by rw[e,← z];exact mm)
       simp[this]
     rw[List.filter_cons_of_neg (by simp[e]),ef,List.length_cons];omega
   · rw[List.filter_cons_of_pos (by simp[e]),List.length_cons,List.length_cons]
     have:=qgn s h'.2
     omega
theorem qkU {l:List Str} (fr:Str) (h:l.Nodup):l.length≤(l.filter (gd fr)).length+2:=by
 have h1:=qgn fr h;have h2:=qgn (l:=l.filter fun k=>!decide (k=fr)) (fr++"z") (List.Pairwise.sublist List.filter_sublist h);rw[List.filter_filter]at h2;have e:(l.filter fun k=>!decide (k=fr++"z") && !decide (k=fr))=l.filter (gd fr):=List.filter_congr fun k _=>by unfold gd;rw[Bool.and_comm]
 rw[e]at h2;omega
theorem qgl {l:List Str} (h:l.Nodup) {j:Nat}{k:Str} (hj:l[j]?=some k):k∉l.take j:=fun m=>by
 obtain⟨i,hi⟩:=List.getElem?_of_mem m;obtain⟨lt,_⟩:=List.getElem?_eq_some_iff.mp hi;rw[List.length_take]at lt;rw[List.getElem?_take_of_lt (by omega)]at hi;obtain⟨h1,e1⟩:=List.getElem?_eq_some_iff.mp hi;obtain⟨h2,e2⟩:=List.getElem?_eq_some_iff.mp hj
 have:=(List.getElem_inj h).mp (e1.trans e2.symm)
 omega
theorem qid (l:List Str) (lo hi:Option Int):(qch l lo hi).Sublist l:=(List.take_sublist _ _).trans (List.drop_sublist _ _)
theorem qgT (l:List Str) (n:Nat):qch l none (some (n:Int))=l.take n:=by
 unfold qch;rw[HT.sIx_nat,HT.sIx_none,List.drop_zero,Nat.sub_zero];by_cases h:n≤l.length
 · rw[Nat.min_eq_left h]
 · rw[Nat.min_eq_right (by omega),List.take_length,List.take_of_length_le (by omega)]
theorem qie (l:List Str) (i n:Nat):(qch l (some (i:Int)) (some ((i:Int)+n))).length≤n:=by
 unfold qch;rw[List.length_take,List.length_drop,show ((i:Int)+n)=((i+n:Nat):Int) by omega,HT.sIx_nat,HT.sIx_nat];omega
def upf (wf:Str->List (Int×Int)) (nm:Str) (w:List (Int×Int)):Str->List (Int×Int):=fun k=>if k=nm then w else wf k
structure Lw (a:Ad) (H2 H:Hp) (p D x td ed bl:Addr) (nm:List Str) (ps ns:List (Str×V)) (zs:List V) (bs:List (Str×Str×Int)) (wf:Str->List (Int×Int)):Prop where
 s:Same H2 H
 pen:PenAt H p
 lk:Lk a H x td ed bl ps ns zs bs wf
 hD:H D=some (.lst (nm.map V.str))
structure Lf (H2:Hp) (p D x td ed bl:Addr):Prop where
 fp:H2 p=none
 fx:H2 x=none
 ft:H2 td=none
 fe:H2 ed=none
 fb:H2 bl=none
 nb:bl≠p
 nD:D≠p
 nDb:D≠bl
section
variable {a:Ad}{H2 H H':Hp}{p D x td ed bl:Addr}{nm:List Str}{ps ns:List (Str×V)}{zs:List V}{bs:List (Str×Str×Int)}{wf:Str->List (Int×Int)}
theorem Lw.same (h:Lw a H2 H p D x td ed bl nm ps ns zs bs wf) (S:Same H H'):Lw a H2 H' p D x td ed bl nm ps ns zs bs wf:=⟨h.s.trans S,h.pen.same S,h.lk.sm S,S _ _ h.hD⟩
theorem Lw.pull (h:Lw a H2 H p D x td ed bl nm ps ns zs bs wf) (f:Lf H2 p D x td ed bl) (B:But p H H') (pen':PenAt H' p):Lw a H2 H' p D x td ed bl nm ps ns zs bs wf :=
 ⟨fun b o e=>B _ _ (h.s _ _ e) (qi e f.fp),pen',h.lk.pen h.pen f.nb B pen',B _ _ h.hD f.nD⟩
theorem Lw.clock (h:Lw a H2 H p D x td ed bl nm ps ns zs bs wf) (f:Lf H2 p D x td ed bl) (B:But td H H') {ps':List (Str×V)} (L:Lo a H' x td ed bl ps' ns zs) (l6:ps'.length≤6):Lw a H2 H' p D x td ed bl nm ps' ns zs bs wf:=by
 obtain⟨m1,m2⟩:=h.lk.mv B h.lk.lo.ht (fun _ _ _ z=>nomatch z) (fun _ z=>nomatch z);exact⟨fun b o e=>B _ _ (h.s _ _ e) (qi e f.ft),h.pen.but B (h.pen.nk h.lk.lo.ht fun _ z=>nomatch z),⟨L,m1,m2,l6,h.lk.nn,h.lk.nz⟩,B _ _ h.hD (qX h.hD h.lk.lo.ht fun z=>nomatch z)⟩
theorem Lw.put (h:Lw a H2 H p D x td ed bl nm ps ns zs bs wf) (f:Lf H2 p D x td ed bl) (B:But ed H H') {k:Str}{y:Addr}{w:List (Int×Int)} (L:Lo a H' x td ed bl ps (ns++[(k,.ref y)]) zs) (ek:Ek a H y k w) (nk:k∉ns.map (·.1)) (l60:ns.length < 60):Lw a H2 H' p D x td ed bl nm ps (ns++[(k,.ref y)]) zs bs (upf wf k w):=by
 obtain⟨m1,m2⟩:=h.lk.mv B h.lk.lo.he (fun _ _ _ z=>nomatch z) (fun _ z=>nomatch z);refine⟨fun b o e=>B _ _ (h.s _ _ e) (qi e f.fe),h.pen.but B (h.pen.nk h.lk.lo.he fun _ z=>nomatch z),⟨L,fun e m=>?_,m2,h.lk.np,by rw[List.length_append];exact l60,h.lk.nz⟩,B _ _ h.hD (qX h.hD h.lk.lo.he fun z=>nomatch z)⟩;rcases List.mem_append.mp m with m|m
 · obtain⟨y',h1,h2⟩:=m1 e m;refine⟨y',h1,?_⟩;show Ek a H' y' e.1 (if e.1=k then w else wf e.1);rw[if_neg (fun z=>nk (by rw[← z];exact List.mem_map.mpr ⟨e,m,rfl⟩))];exact h2
 · rw[List.mem_singleton.mp m];refine⟨y,rfl,?_⟩;show Ek a H' y k (if k=k then w else wf k);rw[if_pos rfl];exact ek.mp fun C d fs e=>B _ _ e (qX e h.lk.lo.he fun z=>nomatch z)
theorem Lw.bind (h:Lw a H2 H p D x td ed bl nm ps ns zs bs wf) (f:Lf H2 p D x td ed bl) (B:But bl H H') {t:Addr}{b:Str×Str×Int} (L:Lo a H' x td ed bl ps ns (zs++[.ref t])) (et:H' t=some (.tup (prB b))) (l100:zs.length < 100):Lw a H2 H' p D x td ed bl nm ps ns (zs++[.ref t]) (bs++[b]) wf:=by
 obtain⟨m1,m2⟩:=h.lk.mv B h.lk.lo.hb (fun _ _ _ z=>nomatch z) (fun _ z=>nomatch z);exact⟨fun c o e=>B _ _ (h.s _ _ e) (qi e f.fb),h.pen.but B f.nb,⟨L,m1,m2.snoc et,h.lk.np,h.lk.nn,by rw[List.length_append];exact l100⟩,B _ _ h.hD f.nDb⟩
end
theorem qlB:Good [(0,0),(5,3)]:=⟨Nat.le_of_ble_eq_true rfl,⟨0,rfl⟩,List.Pairwise.cons (fun r m=>by rw[List.mem_singleton.mp m];decide) (List.pairwise_singleton _ _),fun r m=>by
 simp only[List.mem_cons,List.not_mem_nil,or_false]at m
 rcases m with rfl|rfl<;>decide⟩
section
variable {P:Program}{w:World}{K:Frag}{mg:Str->Option Value}{base:Heap}
theorem qhO {a:Ad} (T:Txt K mg a):qu P w K mg base CX0 1 a.f_Z a.fd_Z ["_law_script","_law_k"] (qex K):=by
 refine T.d_Z.F.ok qhu (fun vs H Q E h=>?_) (fun cdv A outer s H vs Q E hr h=>?_)
 · obtain⟨b,ns,j,rfl,hS,j0,k⟩:=h;rfl
 · obtain⟨b,ns,j,rfl,hS,j0,k⟩:=h;have hU:=hr.units
   refine⟨_,(qc (qM (qB qlw (pv 1) (qp qR (by rfl) T.n_len qE (qa (pv 0) qb)) (qJ _))
       (qe (qy (qD (r:=rIx K) qr (pv 0) (pv 1) (fun _ _=>rfl))))
       qv)
     (qe (qy (qH qab (qH QQ qf (pv 1)) qf)))),?_⟩
   try dsimp only [zf,Cx.nox]
   refine⟨_,rfl,_,rfl,_,_,rfl,.inl ⟨_,hS,rfl⟩,_,_,rfl,rfl,_,rfl,?_⟩;refine zg (fun hj=>?_) (fun hj=>?_)
   · obtain⟨n,rfl⟩:=Int.eq_ofNat_of_zero_le j0;rw[List.length_map]at hj;have hn:n < ns.length:=by omega
     refine⟨_,rfl,_,rfl,.inl ⟨b,_,_,.int ns[n],rfl,rfl,hS,QB (by rw[List.getElem?_map,List.getElem?_eq_getElem hn];rfl),?_⟩⟩;exact k _
   · exact⟨_,rfl,_,_,rfl,rfl,.inl ⟨by decide,by decide⟩,.inl ⟨_,_,rfl,rfl,k _⟩⟩
end
theorem TbD.keep {a:Ad}{H H':Hp} (h:TbD a H) (k:∀ b o,H b=some o->(∀ xs,o≠.lst xs)->(∀ C d fs,o≠.ins C d fs)->(∀ kv,o≠.dK kv)->H' b=some o):TbD a H':=by
 obtain⟨ps,h1,h2,h3⟩:=h;refine⟨ps,k _ _ h1 (fun _ z=>nomatch z) (fun _ _ _ z=>nomatch z) (fun _ z=>nomatch z),h2,?_⟩;rcases h3 with h3|⟨c,h3,h4⟩
 · exact .inl h3
 · exact .inr ⟨c,h3,k _ _ h4 (fun _ z=>nomatch z) (fun _ _ _ z=>nomatch z) (fun _ z=>nomatch z)⟩
section
variable {P:Program}{w:World}{K:Frag}{mg:Str->Option Value}{base:Heap}
theorem qkz {a:Ad} (T:Txt K mg a) (hB:qik mg base):qu P w K mg base CX0 12 a.f_am a.fd_am ["_law_script"] (qhr K a.t_Lputs_right):=by
 have G_0:=qgg (P:=P) (w:=w) (base:=base) T;have G_1:=qbM (P:=P) (w:=w) (base:=base) T;have G_ad:=qd7 (P:=P) (w:=w) (base:=base) T;have G_Z:=qhO (P:=P) (w:=w) (base:=base) T;have G_z:=J7 (P:=P) (w:=w) (base:=base) T;have G_a:=zL (P:=P) (w:=w) (base:=base) T;have G_A:=qca (P:=P) (w:=w) (base:=base) T;have G_B:=qa7 (P:=P) (w:=w) (base:=base) T;have G_G:=Jf (P:=P) (w:=w) (base:=base) T;have G_F:=qcb (P:=P) (w:=w) (base:=base) T;have G_5:=jH (P:=P) (w:=w) (base:=base) T;have G_O:qu P w K mg base CX0 11 a.f_O a.fd_O ["_law_log","_law_state","_law_free"] (Z9 a):=qbK T hB;have G_6:=qa8 (P:=P) (w:=w) (base:=base) T;have G_7:=qak (P:=P) (w:=w) (base:=base) T;refine T.d_am.F.ok sc_law (fun vs H Q E h=>?_) (fun cdv A outer s H vs Q E hr h=>?_)
 · obtain⟨sa,ns,rfl,hS,l63,tb,kk⟩:=h;rfl
 · obtain⟨sa,ns,rfl,hS,l63,tb,kk⟩:=h;have hU:=hr.units;have h_0:Room (1) _:=hr.mono (by decide);have h_1:Room (3) _:=hr.mono (by decide);have h_ad:Room (1+1) _:=hr.mono (by decide);have h_Z:Room (1) _:=hr.mono (by decide);have h_z:Room (5) _:=hr.mono (by decide);have h_a:Room (2) _:=hr.mono (by decide);have h_A:Room (5) _:=hr.mono (by decide);have h_B:Room (6) _:=hr.mono (by decide);have h_G:Room (6+1) _:=hr.mono (by decide);have h_F:Room (7+1) _:=hr.mono (by decide);have h_5:Room (11) _:=hr.mono (by decide);have h_O:Room (11) _:=hr.mono (by decide);have h_6:Room (11) _:=hr.mono (by decide);have h_7:Room (11) _:=hr.mono (by decide)
   refine⟨_,(@qc _ _ _ _ _ (by exact(@Qe _ _ _ _ _ _ _ _ (by exact PassesOwn.never) (by rfl) (by exact(Qg rfl T.n_range (qa (qp (qbt rfl) (by rfl) T.n_max qbv (qa qf (qa (qp (qgY rfl) (by rfl) T.n_min qg5 (qa qf (qa (qp qR (by rfl) T.n_len qE (qa (pv 0) qb)) qb))) qb))) qb))) (by exact(qU (i:=1) (sc_law.nd) rfl (Or.inl rfl)))
       (by exact(@qc _ _ _ _ _ (by exact(qC (i:=2) sc_law.nd rfl (Or.inl rfl) (ql G_0 h_0 rfl T.d_0.m T.d_0.k T.d_0.b .nil qq (qa (ql G_Z h_Z rfl T.d_Z.m T.d_Z.k T.d_Z.b .nil qq (qa (pv 0) (qa (pv 1) qb))) qb))))
       (by exact(@qc _ _ _ _ _ (by exact(qC (i:=3) sc_law.nd rfl (Or.inl rfl) (ql G_1 h_1 rfl T.d_1.m T.d_1.k T.d_1.b .nil qq (qa (pv 2) (qa qf qb)))))
       (by exact(@qc _ _ _ _ _ (by exact(qC (i:=4) sc_law.nd rfl (Or.inr rfl) (zK uSl (qD (r:=rIx K) qr (pv 3) qf (fun _ _=>rfl)) QX (Qf qf))))
       (by exact(@qc _ _ _ _ _ (by exact(qjh (i:=3) sc_law.nd rfl (Or.inl rfl) rfl (CompOk.def ["_law_name","_law_free"] [none,some 4]) (zO (zK uSl (pv 3) QX (Qf qf))) (fun _ _ _ _ _=>(qU (i:=0) (show List.Nodup (["_law_name","_law_free"]:List Str) by decide +kernel) rfl (Or.inl rfl))) (fun _ _ _ _ _=>(qaZ (PW.pt (qdq (qB (uNe hU) (pv 0) (pv 1) (qJ _)) (qaY (qB (uNe hU) (pv 0) (qH qab (pv 1) qt) (qJ _))))))) (fun _ _ _ _ _=>(pv 0))))
       (by exact(@qc _ _ _ _ _ (by exact(qC (i:=5) sc_law.nd rfl (Or.inl rfl) (qhG T.M_Log G_ad h_ad rfl T.g_Log T.d_ad.b .nil qq)))
       (by exact(@qc _ _ _ _ _ (by exact(@Qe _ _ _ _ _ _ _ _ (by exact PassesOwn.never) (by rfl) (by exact(zO (zK uSl (pv 3) (Qf qf) (Qf (qH qab qf (@qD _ _ _ _ _ _ (rIx K) (by exact qr) (by exact(@qQ _ _ _ _ (by exact(@qa _ _ _ _ _ (by exact qf) (by exact(@qa _ _ _ _ _ (by exact qf) (by exact(@qa _ _ _ _ _ (by exact qf) (by exact(@qa _ _ _ _ _ (by exact qf) (by exact(@qb _)) (by rfl))) (by rfl))) (by rfl))) (by rfl))))) (by exact(ql G_a h_a rfl T.d_a.m T.d_a.k T.d_a.b .nil qq (qa (pv 2) (qa qf qb)))) (by exact fun _ _=>rfl))))))) (by exact(qU (i:=6) (sc_law.nd) rfl (Or.inl rfl)))
         (by exact(@qe _ _ _ (by exact(qx (q9 (pv 5) T.cl_Log T.d_z.mt G_z h_z T.d_z.b .nil qfh (qa (pv 6) (qa (zt T.M_Table G_G h_G rfl T.g_Table T.d_G.b .nil qq (qa (qQ (qa (qS (qa qf (qa qf qb))) (qa (qS (qa qf (qa qf qb))) qb))) qb)) qb))))))) (by intro _;rfl)))
       (by exact(@qc _ _ _ _ _ (by exact(@qC _ _ 7 _ _ _ _ (by exact sc_law.nd) (by rfl) (by exact(Or.inl rfl)) (by exact(@qD _ _ _ _ _ _ (rIx K) (by exact qr) (by exact(@qQ _ _ _ _ (by exact(@qa _ _ _ _ _ (by exact qf) (by exact(@qa _ _ _ _ _ (by exact qf) (by exact(@qa _ _ _ _ _ (by exact qf) (by exact(@qa _ _ _ _ _ (by exact qf) (by exact(@qb _)) (by rfl))) (by rfl))) (by rfl))) (by rfl))))) (by exact(ql G_a h_a rfl T.d_a.m T.d_a.k T.d_a.b .nil qq (qa (pv 2) (qa qf qb)))) (by exact fun _ _=>rfl))) (by rfl) (by exact .inl rfl)))
       (by exact(@qc _ _ _ _ _ (by exact(Qe PassesOwn.never rfl (zO (zK uSl (pv 3) QX (Qf (pv 7)))) (qU (i:=8) (sc_law.nd) rfl (Or.inl rfl))
         (qe (qx (q9 (pv 5) T.cl_Log T.d_A.mt G_A h_A T.d_A.b .nil qfh (qa (zt T.M_At G_F h_F rfl T.g_At T.d_F.b .nil qq (qa (pv 8) (qa (ql G_a h_a rfl T.d_a.m T.d_a.k T.d_a.b .nil qq (qa (pv 2) (qa (qH jx qf qf) qb))) qb))) qb))))))
       (by exact(@qc _ _ _ _ _ (by exact(@Qe _ _ _ _ _ _ _ _ (by exact PassesOwn.never) (by rfl) (by exact(Qg rfl T.n_range (qa (qH QQ (@qD _ _ _ _ _ _ (rIx K) (by exact qr) (by exact(@qQ _ _ _ _ (by exact(@qa _ _ _ _ _ (by exact qf) (by exact(@qa _ _ _ _ _ (by exact qf) (by exact(@qa _ _ _ _ _ (by exact qf) (by exact(@qb _)) (by rfl))) (by rfl))) (by rfl))))) (by exact(ql G_a h_a rfl T.d_a.m T.d_a.k T.d_a.b .nil qq (qa (pv 2) (qa qf qb)))) (by exact fun _ _=>rfl)) (ZI qg1 (by rfl) T.n_int qdN (qa (Jv qgd (pv 7) qf (qJ _)) qb))) qb))) (by exact(qU (i:=9) (sc_law.nd) rfl (Or.inl rfl)))
         (by exact(qe (qx (q9 (pv 5) T.cl_Log T.d_B.mt G_B h_B T.d_B.b .nil qfh (qa (qD (r:=rIx K) qr (pv 3) (ql G_a h_a rfl T.d_a.m T.d_a.k T.d_a.b .nil qq (qa (pv 2) (qa (pv 7) qb))) (fun _ _=>rfl)) (qa (qD (r:=rIx K) qr (pv 3) (ql G_a h_a rfl T.d_a.m T.d_a.k T.d_a.b .nil qq (qa (pv 2) (qa (pv 7) qb))) (fun _ _=>rfl)) (qa (pv 9) qb))))))) (by intro _;rfl)))
       (by exact(qc (qM (PW.pt (Jt (qV (qP (ql G_5 h_5 rfl T.d_5.m T.d_5.k T.d_5.b .nil qq (qa (pv 5) (qa (pv 2) (qa (pv 4) qb)))))) (ZG (qV (qP (ql G_O h_O rfl T.d_O.m T.d_O.k T.d_O.b .nil qq (qa (pv 5) (qa (pv 2) (qa (pv 4) qb)))))))))
         (qe (qy zn))
         qv)
       (qe (qM (PW.pt (Jt (qV (qP (ql G_6 h_6 rfl T.d_6.m T.d_6.k T.d_6.b .nil qq (qa (pv 5) (qa (pv 2) (qa (pv 4) qb)))))) (ZG (qV (qP (ql G_7 h_7 rfl T.d_7.m T.d_7.k T.d_7.b .nil qq (qa (pv 5) (qa (pv 2) (qa (pv 4) qb)))))))))
         (qe (qy zn))
         qv)))))))))))))))))))))) (by intro _;rfl)))
     (by exact(qe (qy zn)))),?_⟩
   try dsimp only [zf,Cx.nox]
   refine⟨_,rfl,_,_,rfl,.inl ⟨_,hS,rfl⟩,_,_,rfl,_,_,rfl,_,rfl,?_,?_,QR (lo:=0) (D:={ nx:=qim (tC (.bl true)) { nx:=fun _ H'=>Q .non H',rt:=Q },rt:=Q }) (fun i σ H2=>∃ s1 s2 s3 s4 s5 s6 s7 s8 s9:Option V,σ=[some (.ref sa),s1,s2,s3,s4,s5,s6,s7,s8,s9]∧SqL K H2 sa (ns.map V.int)∧TbD a H2) ⟨_,_,_,_,_,_,_,_,_,rfl,hS,tb⟩ ?_ ?_⟩
   · rw[List.length_map];split<;>split<;>omega
   · rw[List.length_map];split<;>split<;>omega
   · rintro i σ H2 hi ⟨s1,s2,s3,s4,s5,s6,s7,s8,s9,rfl,hS2,tb2⟩;refine⟨_,rfl,_,rfl,sa,ns,_,rfl,hS2,(by omega),fun c=>⟨c,rfl,fun p A B fp A0=>?_⟩⟩;generalize hG:upd H2 p _=G1;obtain⟨u1,e1⟩:=qj hG fp;clear hG;have p1:PenAt G1 p:=⟨A,B,0,A0,e1⟩
     try unfold qA
     try dsimp only
     refine⟨_,rfl,p,76,rfl,p1,by decide,by decide,fun q nsm G2 fq B2 p2 hq lq nms=>?_⟩;have nq:q≠p:=p1.ne fq;have l76:nsm.length=76:=by omega
     try unfold qA
     try dsimp only
     have h75:75 < nsm.length:=by omega
     have okx:=nms.nm _ (List.getElem_mem h75);refine⟨_,rfl,.inl ⟨q,_,_,_,rfl,rfl,SqL.of hq,QB (j:=75) (by rw[List.getElem?_map,List.getElem?_eq_getElem h75];rfl),_,rfl,.inr ⟨_,rfl,qk (by have:=ZX okx;omega),?_⟩⟩⟩;obtain⟨okf,okz⟩:=qlD okx;generalize Txt.slice nsm[75] none (some 7)=fr at okf okz ⊢;(try unfold qA);(try dsimp only);refine⟨_,rfl,_,rfl,.inl ⟨q,_,rfl,SqL.of hq,fun c1 fc1=>?_⟩⟩;rw[jJ,show (some (74:Int))=some ((74:Nat):Int) from rfl,qgT];generalize hG:upd G2 c1 _=G3;obtain⟨u3,e3⟩:=qj hG fc1;clear hG;have nd74:(nsm.take 74).Nodup:=List.Pairwise.sublist (List.take_sublist _ _) nms.nd;have l74:(nsm.take 74).length=74:=by rw[List.length_take];omega
     have ok74:∀ k∈nsm.take 74,qY (.str k)=true:=fun k m=>nms.nm k (List.mem_of_mem_take m);generalize nsm.take 74=ks at e3 nd74 l74 ok74 ⊢;refine⟨c1,rfl,⟨_,SqL.of e3⟩,fun D fD=>?_⟩;have p3:=p2.same u3;have nD:D≠p:=p3.ne fD;refine ZS (K:=K) (a:=c1) (xs:=ks.map V.str) (D:=D) (fun j σ H'=>∃ c0:Option V,σ=[c0,some (.str fr)]∧Same G3 H'∧H' D=some (.lst (((ks.take j).filter (gd fr)).map V.str))) ⟨none,rfl,Same.new _ fD,qd⟩ (fun j σ H' _ ⟨_,_,S,_⟩=>SqL.of (S _ _ e3)) ?_ ?_
     · rintro j z σ H' hz ⟨c0,rfl,S,hD⟩;obtain⟨k,hk,rfl⟩:=zB hz;have jl:=(List.getElem?_eq_some_iff.mp hk).1;have lf:=List.length_filter_le (gd fr) (ks.take j);rw[List.length_take]at lf;have tf:=qav (p:=gd fr) hk;refine⟨_,rfl,_,rfl,.inl ⟨rfl,_,rfl,?_⟩⟩;rw[Jm];by_cases c1:k=fr
       · refine qN (by simp[c1]) (qN rfl ?_);exact⟨_,rfl,S,by rw[tf,if_neg (by simp[gd,c1]),List.append_nil];exact hD⟩
       refine zU (by simp[c1]) ?_;refine⟨_,rfl,_,rfl,.inr (.inr ⟨_,_,rfl,rfl,qk (by have:=ZX okf;show _+1≤1000;omega),.inl ⟨rfl,_,rfl,?_⟩⟩)⟩;rw[Jm];by_cases c2:k=fr++"z"
       · refine qN (by simp[c2]) ?_;exact⟨_,rfl,S,by rw[tf,if_neg (by simp[gd,c2]),List.append_nil];exact hD⟩
       refine zU (by simp[c2]) ?_;refine⟨_,rfl,_,hD,zc (by rw[List.length_map];omega),_,rfl,S.put fD _,?_⟩;rw[qd,tf,if_pos (by simp[gd,c1,c2]),List.map_append];rfl
     rintro σ G4 ⟨c0,rfl,u4,hD⟩;rw[List.length_map,List.take_length]at hD;have nmN:(ks.filter (gd fr)).Nodup:=List.Pairwise.sublist List.filter_sublist nd74;have nmL:=qkU fr nd74;have nmL2:=List.length_filter_le (gd fr) ks
     have nmK:∀ k∈ks.filter (gd fr),qY (.str k)=true∧k≠fr:=fun k m=>by
       obtain⟨m1,m2⟩:=List.mem_filter.mp m;refine⟨ok74 k m1,fun z=>?_⟩;subst z;simp[gd]at m2
     generalize ks.filter (gd fr)=nm at hD nmN nmL nmL2 nmK;(try unfold qA);(try dsimp only);have p4:=p3.same u4;have S4:Same H2 G4:=fun b o e=>u4 _ _ (u3 _ _ (B2 _ _ (u1 _ _ e) (qi e fp)));refine fun x dx fx fdx nex=>⟨x,dx,rfl,qd,fun td ed bl G5 B5 ftd fed fbl L5=>⟨rfl,?_⟩⟩
     have u5:Same G4 G5:=qW fx fdx B5;have S5:=S4.trans u5
     have upf0:∀ b,(upd (upd G4 dx (.own x)) x (.ins a.c_Log dx [])) b=none->G4 b=none:=fun b h=>by
       cases e:G4 b with
       | none=>rfl
       | some o=>rw[up2 fx fdx _ _ e]at h;cases h
     have frs:∀ b,G4 b=none->H2 b=none:=fun b h=>by
       cases e:H2 b with
       | none=>rfl
       | some o=>rw[S4 _ _ e]at h;cases h
     have Lfr:Lf H2 p D x td ed bl:=⟨fp,frs _ fx,frs _ (upf0 _ ftd),frs _ (upf0 _ fed),frs _ (upf0 _ fbl),p4.ne (upf0 _ fbl),nD,qi hD (upf0 _ fbl)⟩
     have lw5:Lw a H2 G5 p D x td ed bl nm [] [] [] [] (fun _=>[]):=⟨S5,p4.same u5,⟨L5,(fun e m=>nomatch m),.nil,Nat.zero_le _,Nat.zero_le _,Nat.zero_le _⟩,u5 _ _ hD⟩
     clear L5 B5 u5 S5 hD S4 u4 p4 p3 e3 u3 hq p2 B2 u1 e1 p1;(try unfold qA);(try dsimp only);refine zp (t:=qjQ _ _ _) (fun σ' H'=>∃ (s6:Option V) (ps:List (Str×V)),σ'=[some (.ref sa),some (.int (0+(i:Int))),some (.ref p),some (.ref D),some (.str fr),some (.ref x),s6,s7,s8,s9]∧Lw a H2 H' p D x td ed bl nm ps [] [] [] (fun _=>[])∧∀ k∈ps.map (·.1),k∈nm) (fun N hN=>?_) ?_
     · refine⟨_,rfl,_,rfl,qk (Nat.le_of_ble_eq_true rfl),fun l fl=>?_⟩;generalize hG:upd G5 l _=A1;obtain⟨v1,el⟩:=qj hG fl;clear hG;have nl:l≠p:=lw5.pen.ne fl;refine⟨_,rfl,p,_,rfl,lw5.pen.same v1,by decide,by decide,fun d A2 d0 d1 B2 p2=>?_⟩;have lw6:=(lw5.same v1).pull Lfr B2 p2;obtain⟨v,hv,mv⟩:=zS (xs:=([.int 0,.int 2,.int 6,.int 6]:List V)) d0 d1
       obtain⟨m,rfl,hm⟩:∃ m:Nat,v=.int (m:Int)∧m≤6:=by
         simp only[List.mem_cons,List.not_mem_nil,or_false]at mv;rcases mv with rfl|rfl|rfl|rfl
         · exact⟨0,rfl,by decide⟩
         · exact⟨2,rfl,by decide⟩
         · exact⟨6,rfl,by decide⟩
         · exact⟨6,rfl,by decide⟩
       refine .inl ⟨l,_,_,_,rfl,rfl,SqL.of (B2 _ _ el nl),hv,.inl ⟨_,_,rfl,rfl,_,rfl,.inl ⟨D,_,rfl,SqL.of lw6.hD,fun c2 fc2=>?_⟩⟩⟩;rw[jJ];generalize hG:upd A2 c2 _=A3;obtain⟨v3,e3⟩:=qj hG fc2;clear hG;have lw7:=lw6.same v3;have few:(qch nm (some 60) (some (60+(m:Int)))).length≤m:=qie nm 60 m;have nds:=List.Pairwise.sublist (qid nm (some 60) (some (60+(m:Int)))) nmN;have sub:=fun k (h:k∈qch nm (some 60) (some (60+(m:Int))))=>qar h;generalize qch nm (some 60) (some (60+(m:Int)))=pls at e3 few nds sub;have nc2:c2≠p:=p2.ne fc2;refine⟨c2,rfl,⟨_,SqL.of e3⟩,Qy (D:={ nx:=N,rt:=Q }) (K:=K) (a:=c2) (xs:=pls.map V.str) (fun j σ H'=>∃ (s6:Option V) (ps:List (Str×V)),σ=[some (.ref sa),some (.int (0+(i:Int))),some (.ref p),some (.ref D),some (.str fr),some (.ref x),s6,s7,s8,s9]∧Lw a H2 H' p D x td ed bl nm ps [] [] [] (fun _=>[])∧ps.map (·.1)=pls.take j∧H' c2=some (.lst (pls.map V.str))) ⟨_,[],rfl,lw7,rfl,e3⟩ (fun j σ H' _ ⟨_,_,_,_,_,h⟩=>SqL.of h) ?_ ?_⟩
       · rintro j z σ H' hz ⟨s6,ps,rfl,lw,ek,hc⟩;obtain⟨k,hk,rfl⟩:=zB hz;have jl:=(List.getElem?_eq_some_iff.mp hk).1;have lp:ps.length=j:=by rw[← List.length_map (f:=(·.1)),ek,List.length_take];omega
         have nk:k∉ps.map (·.1):=by rw[ek];exact qgl nds hk
         have okk:=(nmK k (sub k (List.mem_of_getElem? hk))).1;obtain⟨dx',hx'⟩:=lw.lk.lo.hx;refine⟨_,rfl,x,dx',_,rfl,hx',rfl,_,rfl,qk (Nat.le_of_ble_eq_true rfl),fun t1 ft1=>?_⟩;generalize hG:upd H' t1 _=B1;obtain⟨w1,f1⟩:=qj hG ft1;clear hG;refine⟨qk (Nat.le_of_ble_eq_true rfl),fun t2 ft2=>?_⟩;generalize hG:upd B1 t2 _=B2_;obtain⟨w2,f2⟩:=qj hG ft2;clear hG;refine⟨qk (Nat.le_of_ble_eq_true rfl),fun t3 ft3=>?_⟩;generalize hG:upd B2_ t3 _=B3;obtain⟨w3,f3⟩:=qj hG ft3;clear hG;refine fun y dy fy fdy ney=>?_
         have rs:Rs (upd (upd B3 dy (.own y)) y (.ins a.c_Table dy [])) t3 [(0,0),(5,3)] :=
           Rs.same ⟨_,f3,(TupL.snoc (f:=pr) (p:=(5,3)) (TupL.snoc (f:=pr) (p:=(0,0)) TupL.nil ((w2.trans w3) _ _ f1)) (w3 _ _ f2))⟩ (up2 fy fdy)
         refine⟨y,dy,t3,[(0,0),(5,3)],rfl,qd,rs,qlB,fun B4 BY=>⟨rfl,?_⟩⟩;have SB:Same H' B4:=(w1.trans (w2.trans w3)).trans (qW fy fdy BY);have lwb:=lw.same SB;refine⟨x,td,ed,bl,ps,[],[],_,_,rfl,lwb.lk.lo,qao okk,.inl ⟨k,rfl,okk,nk,by omega,fun B5 BT L=>?_⟩⟩;refine⟨_,ps++[(k,.ref y)],rfl,lwb.clock Lfr BT L (by rw[List.length_append,lp];show j+1≤6;omega),?_,BT _ _ (SB _ _ hc) (qX (SB _ _ hc) lwb.lk.lo.ht fun z=>nomatch z)⟩;rw[List.map_append,ek,List.take_add_one,hk];rfl
       · rintro σ H' ⟨s6,ps,rfl,lw,ek,hc⟩;refine hN _ _ ⟨_,ps,rfl,lw,fun k m=>sub k ?_⟩;rw[ek]at m;exact List.mem_of_mem_take m
     rintro _ G6 ⟨s6,ps,rfl,lw6,psn⟩;clear lw5;(try unfold qA);(try dsimp only);refine⟨qk (Nat.le_of_ble_eq_true rfl),fun l1 fl1=>?_⟩;generalize hG:upd G6 l1 _=G7;obtain⟨u7,e7⟩:=qj hG fl1;clear hG;have nl1:l1≠p:=lw6.pen.ne fl1;refine⟨_,rfl,p,_,rfl,lw6.pen.same u7,by decide,by decide,fun d G8 d0 d1 B8 p8=>?_⟩;have lw8:=(lw6.same u7).pull Lfr B8 p8;obtain⟨v,hv,mv⟩:=zS (xs:=([.int 0,.int 1,.int 10,.int 60]:List V)) d0 d1
     obtain⟨mn,rfl,hmn⟩:∃ m:Nat,v=.int (m:Int)∧m≤60:=by
       simp only[List.mem_cons,List.not_mem_nil,or_false]at mv;rcases mv with rfl|rfl|rfl|rfl
       · exact⟨0,rfl,by decide⟩
       · exact⟨1,rfl,by decide⟩
       · exact⟨10,rfl,by decide⟩
       · exact⟨60,rfl,by decide⟩
     refine .inl ⟨l1,_,_,_,rfl,rfl,SqL.of (B8 _ _ e7 nl1),hv,?_⟩;clear lw6 hv mv d0 d1;(try unfold qA);(try dsimp only);refine zp (t:=qjQ _ _ _) (fun σ' H'=>∃ (s8:Option V) (nz:List (Str×V)) (wf:Str->List (Int×Int)),σ'=[some (.ref sa),some (.int (0+(i:Int))),some (.ref p),some (.ref D),some (.str fr),some (.ref x),s6,some (.int (mn:Int)),s8,s9]∧Lw a H2 H' p D x td ed bl nm ps nz [] [] wf∧nz.map (·.1)=nm.take mn) (fun N hN=>?_) ?_
     · refine⟨_,rfl,_,rfl,_,rfl,.inl ⟨D,_,rfl,SqL.of lw8.hD,fun c2 fc2=>?_⟩⟩;rw[jJ,qgT];generalize hG:upd G8 c2 _=A3;obtain⟨v3,e3⟩:=qj hG fc2;clear hG;have nc2:c2≠p:=p8.ne fc2;have lt:(nm.take mn).length=mn:=by rw[List.length_take];omega
       have nds:(nm.take mn).Nodup:=List.Pairwise.sublist (List.take_sublist _ _) nmN;refine⟨c2,rfl,⟨_,SqL.of e3⟩,Qy (D:={ nx:=N,rt:=Q }) (K:=K) (a:=c2) (xs:=(nm.take mn).map V.str) (fun j σ H'=>∃ (s8:Option V) (nz:List (Str×V)) (wf:Str->List (Int×Int)),σ=[some (.ref sa),some (.int (0+(i:Int))),some (.ref p),some (.ref D),some (.str fr),some (.ref x),s6,some (.int (mn:Int)),s8,s9]∧Lw a H2 H' p D x td ed bl nm ps nz [] [] wf∧nz.map (·.1)=(nm.take mn).take j∧H' c2=some (.lst ((nm.take mn).map V.str))) ⟨_,[],_,rfl,lw8.same v3,rfl,e3⟩ (fun j σ H' _ ⟨_,_,_,_,_,_,h⟩=>SqL.of h) ?_ ?_⟩
       · rintro j z σ H' hz ⟨s8,nz,wf,rfl,lw,ek,hc⟩;obtain⟨k,hk,rfl⟩:=zB hz;have jl:=(List.getElem?_eq_some_iff.mp hk).1;have lp:nz.length=j:=by rw[← List.length_map (f:=(·.1)),ek,List.length_take];omega
         have nk:k∉nz.map (·.1):=by rw[ek];exact qgl nds hk
         have okk:=(nmK k (List.mem_of_mem_take (List.mem_of_getElem? hk))).1;obtain⟨dx',hx'⟩:=lw.lk.lo.hx;refine⟨_,rfl,x,dx',_,rfl,hx',rfl,_,rfl,_,rfl,_,_,rfl,rfl,⟨by decide,by decide,by decide⟩,p,_,rfl,lw.pen,(by decide),(by decide),fun d B1 d0 d1 BP pB=>?_⟩;have lwb:=lw.pull Lfr BP pB;have d1':d < 1000000000:=d1;refine fun y dy fy fdy ney=>⟨y,dy,k,d,rfl,qd,okk,⟨d0,by omega⟩,fun B2_ BY ey=>⟨rfl,?_⟩⟩
         have SB:Same B1 B2_:=qW fy fdy BY;have lwc:=lwb.same SB;refine⟨x,td,ed,bl,ps,nz,[],_,rfl,lwc.lk.lo,.inr ⟨y,k,[],rfl,.at_ ey,.inr ⟨nk,.inr ⟨(fun s m=>nomatch m),.inr ⟨by omega,fun B5 BT L=>?_⟩⟩⟩⟩⟩;have hc2:=SB _ _ (BP _ _ hc nc2);refine⟨_,nz++[(k,.ref y)],_,rfl,lwc.put Lfr BT L (.at_ ey) nk (by omega),?_,BT _ _ hc2 (qX hc2 lwc.lk.lo.he fun z=>nomatch z)⟩;rw[List.map_append,ek,List.take_add_one (l:=nm.take mn),hk];rfl
       · rintro σ H' ⟨s8,nz,wf,rfl,lw,ek,hc⟩;refine hN _ _ ⟨_,nz,wf,rfl,lw,?_⟩;rw[List.length_map,List.take_length]at ek;exact ek
     rintro _ G9 ⟨s8,nz,wf,rfl,lw9,nzn⟩;clear lw8 p8 B8;(try unfold qA);(try dsimp only);have lnz:nz.length=mn:=by rw[← List.length_map (f:=(·.1)),nzn,List.length_take];omega
     refine zp (t:=qjQ _ _ _) (fun σ' H'=>∃ (s9:Option V) (zs:List V) (bs:List (Str×Str×Int)),σ'=[some (.ref sa),some (.int (0+(i:Int))),some (.ref p),some (.ref D),some (.str fr),some (.ref x),s6,some (.int (mn:Int)),s8,s9]∧Lw a H2 H' p D x td ed bl nm ps nz zs bs wf∧(zs.length=100->2≤nz.length)) (fun N hN=>?_) ?_
     · refine⟨qk (Nat.le_of_ble_eq_true rfl),fun l2 fl2=>?_⟩;generalize hG:upd G9 l2 _=A1;obtain⟨v1,el⟩:=qj hG fl2;clear hG;have nl:l2≠p:=lw9.pen.ne fl2;refine⟨_,rfl,p,_,rfl,lw9.pen.same v1,by decide,by decide,fun d A2 d0 d1 B2 p2=>?_⟩;have lwa:=(lw9.same v1).pull Lfr B2 p2;obtain⟨v,hv,mv⟩:=zS (xs:=([.int 0,.int 10,.int 100]:List V)) d0 d1
       obtain⟨m,rfl,hm⟩:∃ m:Nat,v=.int (m:Int)∧m≤100:=by
         simp only[List.mem_cons,List.not_mem_nil,or_false]at mv;rcases mv with rfl|rfl|rfl
         · exact⟨0,rfl,by decide⟩
         · exact⟨10,rfl,by decide⟩
         · exact⟨100,rfl,by decide⟩
       refine .inl ⟨l2,_,_,_,rfl,rfl,SqL.of (B2 _ _ el nl),hv,?_⟩;refine⟨_,rfl,_,_,rfl,rfl,.inr ⟨_,rfl,_,_,rfl,rfl,.inl ⟨by omega,by omega⟩,_,rfl,?_,?_,QR (lo:=0) (D:={ nx:=N,rt:=Q }) (fun j σ H'=>∃ (s9:Option V) (zs:List V) (bs:List (Str×Str×Int)),σ=[some (.ref sa),some (.int (0+(i:Int))),some (.ref p),some (.ref D),some (.str fr),some (.ref x),s6,some (.int (mn:Int)),s8,s9]∧Lw a H2 H' p D x td ed bl nm ps nz zs bs wf∧zs.length=j) ⟨_,[],[],rfl,lwa,rfl⟩ ?_ ?_⟩⟩
       · split<;>omega
       · split<;>omega
       · rintro j σ H' hj ⟨s9,zs,bs,rfl,lw,lz⟩
         have hj2:1 < mn∧j < 100:=by
           by_cases g:(1:Int) < (mn:Int)
           · rw[if_pos (by simpa using g)]at hj;exact⟨by omega,by omega⟩
           · rw[if_neg (by simpa using g)]at hj;simp at hj
         obtain⟨g1,g2⟩:=hj2;obtain⟨dx',hx'⟩:=lw.lk.lo.hx
         have pickn:∀ e:Int,0≤e->e < (mn:Int)->∃ f∈nz,atI (nm.map V.str) e=some (.str f.1):=fun e e0 e1=>by
           obtain⟨n,rfl⟩:=Int.eq_ofNat_of_zero_le e0;have hn:n < nm.length:=by omega
           have mem:nm[n]∈nz.map (·.1):=by
             rw[nzn];exact List.mem_of_getElem? (i:=n) (by rw[List.getElem?_take_of_lt (by omega)];exact List.getElem?_eq_getElem hn)
           obtain⟨f,mf,ef⟩:=jA mem;exact⟨f,mf,QB (by rw[List.getElem?_map,List.getElem?_eq_getElem hn,ef];rfl)⟩
         refine⟨_,rfl,x,dx',_,rfl,hx',rfl,_,rfl,_,rfl,_,rfl,p,_,rfl,lw.pen,by omega,by omega,fun d1 B1 d10 d11 BP1 pB1=>?_⟩;have lwb:=lw.pull Lfr BP1 pB1;obtain⟨f1,mf1,hf1⟩:=pickn d1 d10 d11;refine .inl ⟨D,_,_,_,rfl,rfl,SqL.of lwb.hD,hf1,_,rfl,_,rfl,_,rfl,p,_,rfl,pB1,by omega,by omega,fun d2 B2_ d20 d21 BP2 pB2=>?_⟩;have lwc:=lwb.pull Lfr BP2 pB2;obtain⟨f2,mf2,hf2⟩:=pickn d2 d20 d21;refine .inl ⟨D,_,_,_,rfl,rfl,SqL.of lwc.hD,hf2,_,rfl,x,td,ed,bl,ps,nz,zs,_,_,_,rfl,lwc.lk.lo,.inr ⟨f1,mf1,rfl,.inr ⟨f2,mf2,rfl,QC _,.inr ⟨_,rfl,by omega,by omega,.inr ⟨by omega,fun t v B5 ft BB et L=>?_⟩⟩⟩⟩⟩;exact⟨_,_,_,rfl,lwc.bind Lfr BB L et (by omega),by rw[List.length_append,lz];rfl⟩
       · rintro σ H' ⟨s9,zs,bs,rfl,lw,lz⟩;refine hN _ _ ⟨_,zs,bs,rfl,lw,fun h=>?_⟩;rw[lz]at h;by_cases g:(1:Int) < (mn:Int)
         · omega
         · rw[if_neg (by simpa using g)]at h;simp at h
     rintro _ K1 ⟨s9,zs,bs,rfl,lwk,hun⟩;clear lw9;have nf:Nfr (nz.map (·.1)) (ps.map (·.1)) fr:=⟨fun k m=>by rw[nzn]at m;exact(nmK k (List.mem_of_mem_take m)).1,fun k m=>(nmK k (psn k m)).1,okf,okz,fun m=>by rw[nzn]at m;exact(nmK fr (List.mem_of_mem_take m)).2 rfl,fun m=>(nmK fr (psn fr m)).2 rfl⟩
     have tbk:TbD a K1:=TbD.same tb2 lwk.s;obtain⟨tbs,htb⟩:=tbk.tb;obtain⟨tbs2,htb2⟩:=TbD.tb tb2;(try unfold qA);(try dsimp only);refine⟨_,rfl,_,rfl,_,rfl,x,td,ed,bl,ps,nz,zs,bs,wf,p,fr,cut K1 [p],rfl,Gh.cut lwk.pen,lwk.lk.cut lwk.pen Lfr.nb,nf,fun K2 BK2 pK2=>⟨_,rfl,qN rfl ?_⟩⟩;have lw2:=lwk.pull Lfr BK2 pK2;have tb3:=tbk.but BK2 lwk.pen;refine⟨_,rfl,_,rfl,_,rfl,x,td,ed,bl,ps,nz,zs,bs,wf,p,fr,rfl,pK2,lw2.lk,Lfr.nb,nf,tb3,fun K3 BK3 pK3 tb4=>⟨_,rfl,qN rfl ?_⟩⟩;obtain⟨tbs3,htb3⟩:=tb3.tb;have lk3:=lw2.lk.two pK2 Lfr.nb htb3 BK3;(try unfold qA);(try dsimp only);refine⟨_,rfl,_,rfl,_,rfl,x,td,ed,bl,ps,nz,zs,bs,wf,p,fr,cut K3 [p],rfl,Gh.cut pK3,lk3.cut pK3 Lfr.nb,nf,fun K4 BK4 pK4=>⟨_,rfl,qN rfl ?_⟩⟩;have tb5:=tb4.but BK4 pK3;have lk4:=lk3.pen pK3 Lfr.nb BK4 pK4;refine⟨_,rfl,_,rfl,_,rfl,x,td,ed,bl,ps,nz,zs,bs,wf,p,fr,rfl,pK4,lk4,Lfr.nb,nf,hun,fun K5 KP=>⟨_,rfl,qN rfl ?_⟩⟩;have keep:∀ b o,H2 b=some o->b≠a.t_Lputs_right->K5 b=some o:=fun b o e nt=>KP _ _ (BK4 _ _ (BK3 _ _ (lw2.s _ _ e) (qi e Lfr.fp) nt) (qi e Lfr.fp)) (qi e Lfr.fp) (qi e Lfr.fx) (qi e Lfr.ft) (qi e Lfr.fe) (qi e Lfr.fb);obtain⟨dx4,hx4⟩:=lk4.lo.hx;have tb6:TbD a K5:=TbD.keep tb5 fun b o e n1 n2 n3=>KP b o e (pK4.nk e n1) (qX e hx4 fun z=>n2 _ _ _ z) (qX e lk4.lo.ht fun z=>n3 _ z) (qX e lk4.lo.he fun z=>n3 _ z) (qX e lk4.lo.hb fun z=>n1 _ z);exact⟨_,_,_,_,_,_,_,_,_,rfl,qlk hS2 fun o e no=>keep _ _ e (fun z=>by rw[z,htb2]at e;injection e with e;exact no _ e.symm),tb6⟩
   · rintro σ H2 ⟨s1,s2,s3,s4,s5,s6,s7,s8,s9,rfl,hS2,tb2⟩;exact kk H2
end
theorem len_0 {p:List Value->Prop} (h:p []):∀ us:List Value,us.length=0->p us:=fun us hl=>by
 cases us with
 | nil=>exact h
 | cons a t=>cases hl
theorem len_1 {p:List Value->Prop} (h:∀ a,p [a]):∀ us:List Value,us.length=1->p us:=fun us hl=>by
 cases us with
 | nil=>cases hl
 | cons a t=>exact len_0 (p:=fun t=>p (a::t)) (h a) t (Nat.succ.inj hl)
theorem len_2 {p:List Value->Prop} (h:∀ a b,p [a,b]):∀ us:List Value,us.length=2->p us:=fun us hl=>by
 cases us with
 | nil=>cases hl
 | cons a t=>exact len_1 (p:=fun t=>p (a::t)) (h a) t (Nat.succ.inj hl)
theorem len_3 {p:List Value->Prop} (h:∀ a b c,p [a,b,c]):∀ us:List Value,us.length=3->p us:=fun us hl=>by
 cases us with
 | nil=>cases hl
 | cons a t=>exact len_2 (p:=fun t=>p (a::t)) (h a) t (Nat.succ.inj hl)
theorem len_4 {p:List Value->Prop} (h:∀ a b c d,p [a,b,c,d]):∀ us:List Value,us.length=4->p us:=fun us hl=>by
 cases us with
 | nil=>cases hl
 | cons a t=>exact len_3 (p:=fun t=>p (a::t)) (h a) t (Nat.succ.inj hl)
theorem len_5 {p:List Value->Prop} (h:∀ a b c d e,p [a,b,c,d,e]):∀ us:List Value,us.length=5->p us:=fun us hl=>by
 cases us with
 | nil=>cases hl
 | cons a t=>exact len_4 (p:=fun t=>p (a::t)) (h a) t (Nat.succ.inj hl)
theorem mkDf {K:Frag}{h:Heap}{mg:Str->Option Value} (X:K.In h) (G:h.Ns mainGlobals mg) {x:Str}{st:Stmt}{ps:List Str}{f:Addr}{oc:Value}{od an:Option Addr}{osl:Array (Option Value)}{kV doc pm cdv ct:Value} (a:nsIn K mainGlobals x=some (some (.ref f))) (l:K.lookup f=some ⟨oc,od,.func (fnOf x x (QA st) (zH st) (qh st) .none kV doc pm an cdv ct),osl⟩) (c:codeIn K cdv x=true) (k:keepIn K (.ref f)=true) (hb:∀ (kV doc pm:Value) (an:Option Addr) (cdv ct:Value) (us:List Value),us.length=ps.length->bindArgs (fnOf x x (QA st) (zH st) (qh st) .none kV doc pm an cdv ct) ⟨us,[]⟩=pure (ps.zip us)):Df K mg x st ps f (fnOf x x (QA st) (zH st) (qh st) .none kV doc pm an cdv ct):=⟨qeS l c k,(qeS l c k).binds hb,PySem.W.mg_of X G a,k⟩
theorem mkDm {K:Frag}{C:Addr}{x q:Str}{st:Stmt}{ps:List Str}{f:Addr}{oc:Value}{od an:Option Addr}{osl:Array (Option Value)}{kV doc pm cdv ct:Value} (m:qij K C x f) (l:K.lookup f=some ⟨oc,od,.func (fnOf x q (QA st) (zH st) (qh st) .none kV doc pm an cdv ct),osl⟩) (c:codeIn K cdv q=true) (k:keepIn K (.ref f)=true) (hb:∀ (kV doc pm:Value) (an:Option Addr) (cdv ct:Value) (us:List Value),us.length=ps.length->bindArgs (fnOf x q (QA st) (zH st) (qh st) .none kV doc pm an cdv ct) ⟨us,[]⟩=pure (ps.zip us)):DfM K C x q st ps f (fnOf x q (QA st) (zH st) (qh st) .none kV doc pm an cdv ct):=⟨qeS l c k,(qeS l c k).binds hb,m⟩
theorem all2 {l:PySem.W.OpenLaw}{w:World}{K:Frag}{h:Heap}{mg:Str->Option Value}{fa:Addr} (X:K.In h) (G:h.Ns mainGlobals mg) (hfa:mg "law"=some (.ref fa)) {a:Ad} (T:Txt K mg a)
   : ∃ fd:FuncData,(∀ (s:Shared) (v:Value),BindsTo s fd ⟨[v],[]⟩ [("_law_script",v)])∧∀ base:Heap,K.In base->base.Ns mainGlobals mg->qik mg base->qu l.prog w K mg base CX0 12 fa fd ["_law_script"] (qhr K a.t_Lputs_right):=by
 have e:=hfa.symm.trans T.d_am.m;obtain⟨oc,od,kV,doc,pm,an,cdv,ct,osl,e2,lk,hcd⟩:=T.d_am.F.ex;cases e;exact⟨a.fd_am,fun s v=>by rw[e2];exact .of_eq rfl,fun base _ _ hB=>qkz T hB⟩
theorem walk {l:PySem.W.OpenLaw}{q:Program}{loose:List Str}{XP:(Str->Option Value)->Heap->Prop}{YP:World->Heap->Prop}{d:DefRec}{K:Params->Frag}{t:Addr} (hn:l.most=some 63) (hdf:d.params.defaults=[])
   (hY:∀ (w:World) (h:Heap),YP w h->(K w.params).In h∧(∀ u∈[t],h.get? u=some (PySem.W.tabObj #[]))∧(∀ u∈[t],isCodeTable h u)∧∀ u∈[t],(K w.params).lookup u=none)
   (F:∀ (w:World) (mg:Str->Option Value) (fa:Addr) (h:Heap),(K w.params).In h->h.Ns mainGlobals mg->mg d.name=some (.ref fa) ->
     ∃ fd:FuncData,(∀ (s:Shared) (u:Value),BindsTo s fd ⟨[u],[]⟩ [("_law_script",u)])∧∀ base:Heap,(K w.params).In base->base.Ns mainGlobals mg->qik mg base->qu l.prog w (K w.params) mg base CX0 12 fa fd ["_law_script"] (qhr (K w.params) t)) :
   PySem.W.WalkO q loose XP YP l.row.toRowW d [] (fun f vs=>PySem.call f vs) :=
 L2.walk_ofT (ts:=[t]) (n:=63) (k:=12) (x:="_law_script") (CX:=fun _=>CX0) (sp:=fun w=>qhr (K w.params) t) hn (by decide) hdf ⟨rfl,by decide,by decide,rfl⟩ hY F (fun _ _ a ns hl _ hT hS=>⟨a,ns,rfl,hS,hl,⟨#[],hT t List.mem_cons_self,True.intro,.inl rfl⟩,fun _=>rfl⟩) fun _ _ _ _ _ z=>z
end K36
open PySem PySem.W PyProof.Rows
namespace PySem.W.Fast
def tw12770291012975044726:=0
def tw13688094253442813019:=0
def tw6416616395622108165:=0
def tw14844588736042086731:=0
def tw2243073804629660481:=0
def tw18222339835523820652:=0
def tw15709417041268058909:=0
def tw489765110370058504:=0
def tw210188915117514095:=0
def tw10920820781346631480:=0
def tw6548633467420368188:=0
def tw1283693014932084668:=0
def tw10998309543961747903:=0
def tw10051714978819214706:=0
def tw12016923097328482897:=0
def tw13536183929733528613:=0
def tw1209344536669575197:=0
def tw4930531994583968447:=0
def tw696656318109594633:=0
def tw3421074066482858481:=0
def tw18162038407618698392:=0
def tw1599623559053010804:=0
def tw14230285562532125042:=0
def tw8634927273066697626:=0
def tw2373810759980878879:=0
def tw4119807381525213793:=0
def tw5697568362483450284:=0
def tw5983169281595183649:=0
def tw468053919025169494:=0
def tw18365775286542881298:=0
def tw10128116325964614356:=0
def tw10324667109176119803:=0
def tw17249957654690394076:=0
def tw16769891558790364329:=0
def tw3303977576555953050:=0
def tw5551508985502376625:=0
def tw12695752841618952276:=0
def tw1445356183769549279:=0
def tw12118356511879281486:=0
def tw1639039310622786202:=0
def tw7512565783209907505:=0
def tw9756787529766097998:=0
def tw11623091567602147929:=0
def tw2084562546667689434:=0
def tw13851346829033705539:=0
def tw15572486667453298117:=0
def tw9883810204660025435:=0
def tw6511847595916142977:=0
def tw7319776241991374213:=0
def tw7268622359601831299:=0
def tw16471573366240494133:=0
def tw4641126918137138343:=0
def tw246247174373154733:=0
def tw7557696817129467595:=0
def tw18409134931480099296:=0
def tw8417173957717742221:=0
def tw7674018172249263660:=0
def tw5430802198847216704:=0
def tw9575959465174116724:=0
def tw8956581938273703757:=0
def tw17853229729927653586:=0
def tw313692394278054014:=0
def tw3522753993428578558:=0
def tw5126251748338294745:=0
def tw7838671524361216371:=0
def tw12305693549698575996:=0
def tw14408215517749902875:=0
def tw3500160729168053965:=0
def tw11165367477450889183:=0
def tw10732963279842875290:=0
def tw5478968749389937769:=0
def tw2216217178251486498:=0
def tw11170891591699844988:=0
def tw10908784975771929944:=0
def tw3126373945616995912:=0
def tw4987644419255175761:=0
def tw6629472712538165278:=0
def tw13894941619929300394:=0
def tw13928607792845837840:=0
def tw9737980654399091215:=0
def tw7247367128841490425:=0
def tw5233396818825414955:=0
def tw11076984717140715734:=0
def tw6570104680240373358:=0
def tw1606924969302245135:=0
def tw18171273007266981790:=0
def tw8241144164864545018:=0
def tw12824550578299608592:=0
def tw10757800953503215239:=0
def tw5245428437145608305:=0
def tw7671433703712371735:=0
def tw16229382818869337100:=0
def tw14043228927251741690:=0
def tw4041812785231930386:=0
def tw11086598767437901911:=0
def tw16088992810240439802:=0
def tw17351180253338392328:=0
def tw5865060478440901494:=0
def tw4933165795800713018:=0
def tw1092252690499296565:=0
def tw13131244329325063444:=0
def tw16237871850047904097:=0
def tw3171798500427538321:=0
def tw13403046545961369218:=0
def tw7635405596368522207:=0
def tw12448441350162748105:=0
def tw5746586687737165944:=0
def tw6417613754220184862:=0
def tw3412783400213123887:=0
def tw10876892329251472022:=0
def tw12856939390405868259:=0
def tw3675604322244384793:=0
def tw15398185416425163385:=0
def tw5702433354541005760:=0
def tw9908021955788218004:=0
def tw15752637717684948228:=0
def tw3273008792630546176:=0
def tw4378745185171362579:=0
def tw14557871287621674829:=0
def tw9896945540078826001:=0
def tw10039215268079500668:=0
def tw1779253267288305323:=0
def tw16371235828245827085:=0
def tw13417393431295538918:=0
def tw271786708829748439:=0
def tw14530762262390986981:=0
def tw3269528537286254469:=0
def tw3582843264937610306:=0
def tw5197855745975231678:=0
def tw2820070310849619929:=0
def tw2174535283422831388:=0
def tw5363069644281272984:=0
def tw5549390399819185256:=0
def tw13496943324969114376:=0
def tw11406391302721785832:=0
def tw8646559509694428551:=0
def tw10653966084762046944:=0
def tw6793914485292891671:=0
def tw12161800848680671423:=0
def tw3341803744086558000:=0
def tw4933489250268970949:=0
def tw8979466833023570230:=0
def tw15496816545714213062:=0
def tw4025260192069902759:=0
def tw5218061685194594101:=0
def tw5761810617943408132:=0
def tw15861636438856359553:=0
def tw9284559960633817507:=0
def tw11953582682473815268:=0
def tw12829997546120311633:=0
def tw17805625950425229068:=0
def tw11781560612694030351:=0
def tw18445849270653332878:=0
def tw2782828327441477832:=0
def tw4535367314584295870:=0
def tw12910663494185720379:=0
def tw3800039756447095670:=0
def tw7238327539253962071:=0
def tw698482823984259715:=0
def tw17283234521935538118:=0
def tw17007338524253718674:=0
def tw11427234236462650744:=0
def tw7902934284192341345:=0
def tw4992578813250293813:=0
def tw9105025678575166893:=0
def tw17198364914981660306:=0
def tw7135105163069570267:=0
def tw1390772287415214887:=0
def tw102155031636091439:=0
def tw16597002635150430745:=0
def tw13453923475825612796:=0
def tw13966138561526089411:=0
def tw3032351225398733341:=0
def tw545317888870957756:=0
def tw15229848841954427607:=0
def tw5287429698082310004:=0
def tw9147804125548227837:=0
def tw2720253884648723940:=0
def tw3215236490333248169:=0
def tw3147339829791112835:=0
def tw4082535821735212610:=0
def tw15668590198952879690:=0
def tw3962237205839477162:=0
def tw11464054300519275166:=0
def tw1037798815211988276:=0
def tw1605308688045534407:=0
def tw16520873294712754128:=0
def tw3905321063717908217:=0
def tw8404171441533243469:=0
def tw3247516977437677195:=0
def tw15599935360944669097:=0
def tw5205451704397274139:=0
def tw15251651244686806344:=0
def tw6672589917648559622:=0
def tw12974003575831952118:=0
def tw10789805828809664129:=0
def tw11644922014232269836:=0
def tw11589991137184599151:=0
def tw3792248651499800971:=0
def tw9062408836099221682:=0
def tw13491377203532325830:=0
def tw2750231513709864536:=0
def tw17765956919533132775:=0
def tw16213294698959082342:=0
def tw6155955763528396912:=0
def tw11709575051716171033:=0
def tw149137222944379283:=0
def tw13457482817778507876:=0
def tw2224708052121459444:=0
def tw10072925083276075193:=0
def tw3421571545699086750:=0
def tw14845800571289019693:=0
def tw13477437649258513735:=0
def tw11810276532706064160:=0
def tw6965180150236744635:=0
def tw17566852960898001177:=0
def tw5362743179923924731:=0
def tw15324129815904676018:=0
def tw10692295923020876623:=0
def tw4105896464651146693:=0
def tw10026851280288898824:=0
def tw9728025101527851748:=0
def tw9444638951282316887:=0
def tw7977454246783454085:=0
def tw2771203296427466119:=0
def tw1579699310425574537:=0
def tw11013042930390521618:=0
def tw11454624543197653239:=0
def tw4608809028949140007:=0
def tw8014307365744312920:=0
def tw2269148060834765453:=0
def tw15478473886880039478:=0
def tw9545324879768856932:=0
def tw3334818379440005000:=0
def tw7995240526853733110:=0
def tw9020349211639234518:=0
def tw7747920286388491200:=0
def tw238486997131442047:=0
def tw10680905322179670311:=0
def tw4095788693155104308:=0
def tw12957839720798139137:=0
def tw9890598656528272141:=0
def tw8305537139585623289:=0
def tw2078797110353674544:=0
def tw1808217234090975661:=0
def tw10804828653991816887:=0
def tw7474310790520492946:=0
def tw6973947439713155174:=0
def tw4652983736649268645:=0
def tw13386305370890869501:=0
def tw2166763377944639807:=0
def tw14649113873136314726:=0
def tw11779693042728138100:=0
def tw15935918790291360710:=0
def tw8934313259244602735:=0
def tw2484573110697855479:=0
def tw1057681429306489129:=0
def tw11381924202115281682:=0
def tw694533275527135365:=0
end PySem.W.Fast
set_option maxHeartbeats 0 in
theorem PySem.Challenge.cw_foldlog_k36_deeds_refused_holds : PySem.Challenge.rw_foldlog_k36_deeds_refused.Holds := by
 w_on;o_law;km_head;(case hw=>w_witness2)
 k_fill
 refine K36.walk (t:=930) (l:=PySem.Challenge.rw_foldlog_k36_deeds_refused) rfl rfl (fun w h Y=>⟨PySem.W.km_in_of Y,PySem.W.km_tabs_of Y,fun u m=>by cases List.mem_singleton.mp m;exact((PySem.W.codeHd_of_K (c:=934) (PySem.W.km_in_of Y) (by kernel_rfl)).tab (PySem.W.km_tabs_of Y 930 (List.mem_singleton.mpr rfl))).isCodeTable,fun u m=>by cases List.mem_singleton.mp m;kernel_rfl⟩) ?F
 case F =>
   intro w mg fa h KX G hmg;refine' K36.all2 KX G hmg (a:=⟨934,930,_,_,_,_,_,_,_,_,_,_,_,_,_,_,_,_,_,_,_,_,_,_,_,_,_,_,_,_,_,_,_,_,_,_,_,_,_,_,_,_,_,_,_,_,_,_,_,_,_,_,_,_,_,_,_,_,_,_,_,_,_,_,_,_,_,_,_,_,_,_,_,_,_,_,_,_,_,_,_,_,_,_,_,_,_,_,_,_,_,_,_,_,_,_,_,_,_,_,_,_,_,_,_,_,_,_,_,_,_,_,_,_,_,_,_,_,_,_,_,_,_,_,_,_,_,_,_,_,_,_,_,_,_,_,_,_,_,_,_,_,_,_,_,_,_,_,_,_,_,_,_,_,_,_,_,_,_,_,_,_,_,_,_,_,_,_,_,_,_⟩) ?T
   case T =>
     constructor
     all_goals try dsimp only
     all_goals try refine' PySem.W.mg_of KX G ?_
     all_goals try refine' PySem.W.mg_none_of KX G ?_
     all_goals try refine' ⟨_,PySem.W.mg_of KX G ?_⟩
     all_goals try k_is
     all_goals try refine' K36.mkDf KX G ?_ ?_ ?_ ?_ (fun _ _ _ _ _ _=>by first|exact K36.len_0 rfl|exact K36.len_1 fun _=>rfl|exact K36.len_2 fun _ _=>rfl|exact K36.len_3 fun _ _ _=>rfl|exact K36.len_4 fun _ _ _ _=>rfl|exact K36.len_5 fun _ _ _ _ _=>rfl)
     all_goals try refine' K36.mkDm ⟨?_,?_,?_⟩ ?_ ?_ ?_ (fun _ _ _ _ _ _=>by first|exact K36.len_0 rfl|exact K36.len_1 fun _=>rfl|exact K36.len_2 fun _ _=>rfl|exact K36.len_3 fun _ _ _=>rfl|exact K36.len_4 fun _ _ _ _=>rfl|exact K36.len_5 fun _ _ _ _ _=>rfl)
     all_goals try refine' L2.xIsa_of ?_ ?_ ?_
     all_goals try refine' L2.XMro.of ?_ ?_
     all_goals try refine' L2.xIn_of ?_ ?_
     all_goals try refine' ⟨⟨L2.xIn_of ?_ ?_,?_,?_,?_,?_,?_,?_⟩,?_,?_,?_⟩
     all_goals try refine' ⟨⟨?_,?_,?_,?_⟩,?_,?_,?_,?_⟩
     all_goals try refine' ⟨?_,?_,?_,?_⟩
     all_goals try refine' ⟨?_,?_,?_⟩
     all_goals try refine' ⟨?_,?_⟩
     all_goals try (first|k_is|rfl)
     all_goals try (first|k_is|rfl)
     all_goals try (first|k_is|rfl)
     all_goals decide
