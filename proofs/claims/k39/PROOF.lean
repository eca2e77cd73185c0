import PyProof.Rows.All
import OpenK.KLine
import Wide.FinOn
import KE.KDictOf
import KE.KEqDict
import KE.KFromBytes
import KE.KIntText
import KE.KIsAll
import KE.KItemsList
import KE.KLam
import KE.KMinKey
import KE.KNestM
import KE.KPairComp
import KE.KRevIter
import KE.KRevSl
import KE.KSortTup
import KE.LcSums
import PySem.Challenge.RW_foldlog_k39_whole_moments_by_what_clocks
set_option maxHeartbeats 4000000
set_option Elab.async false
set_option linter.all false
set_option maxRecDepth 100000
namespace L2
open PySem PySem.Spec PyProof.Rows
open PySem.W (instObj methodObj Frag lookIn plainGet hasDictIn findIn handedIn plainGet_of isFn plainOver takerIn makesIn emptyDict keepIn kia_one kitx_list kitx_dict callWith_K callWith_K0 fnOf)
abbrev Key:=Sum Int Str
def qd0:Key->Value->Bool
 | .inl k,v=>Value.isInt k v
 | .inr x,v=>Value.isStrOf x v
def qm2 (w:World):Key->Int
 | .inl k=>hashInt k
 | .inr x=>hashStr w x
theorem ze:∀ {k:Key}{v:Value},qd0 k v=true->(∃ i t,k=Sum.inl i∧v=Value.int i t)∨(∃ x t,k=Sum.inr x∧v=Value.str x t)
 | .inl i,v,h=>by
   obtain⟨t,e⟩:=Value.isInt_shape (k:=i) (v:=v) h;exact .inl ⟨i,t,rfl,e⟩
 | .inr x,v,h=>by
   obtain⟨t,e⟩:=Value.isStrOf_shape (x:=x) (v:=v) h;exact .inr ⟨x,t,rfl,e⟩
theorem qgG (i:Int) (t:Tok):qd0 (.inl i) (.int i t)=true:=by simp[qd0,Value.isInt]
theorem qgF (x:Str) (t:Tok):qd0 (.inr x) (.str x t)=true:=by simp[qd0,Value.isStrOf]
theorem qlk (a b:Int):decide ((Sum.inl a:Key)=Sum.inl b)=(a == b):=by
 by_cases e:a=b
 · subst e;simp
 · have h:¬ (Sum.inl a:Key)=Sum.inl b:=fun q=>e (Sum.inl.inj q);rw[decide_eq_false h];exact(beq_eq_false_iff_ne.mpr e).symm
theorem qlh (a b:Str):decide ((Sum.inr a:Key)=Sum.inr b)=decide (a=b):=by
 by_cases e:a=b
 · subst e;simp
 · have h:¬ (Sum.inr a:Key)=Sum.inr b:=fun q=>e (Sum.inr.inj q);rw[decide_eq_false h,decide_eq_false e]
theorem qlj (a:Int) (b:Str):decide ((Sum.inl a:Key)=Sum.inr b)=false:=decide_eq_false (fun q=>nomatch q)
theorem qli (a:Str) (b:Int):decide ((Sum.inr a:Key)=Sum.inl b)=false:=decide_eq_false (fun q=>nomatch q)
def qV (prog:Program) (w:World):PySem.KeyKind prog w Key where
 is:=qd0
 hash:=qm2 w
 inj:=fun v a b ha hb=>by
   rcases ze ha with ⟨i,t,rfl,rfl⟩|⟨x,t,rfl,rfl⟩
   · rcases ze hb with ⟨j,u,rfl,e⟩|⟨y,u,rfl,e⟩
     · injection e with e1 _;rw[e1]
     · exact nomatch e
   · rcases ze hb with ⟨j,u,rfl,e⟩|⟨y,u,rfl,e⟩
     · exact nomatch e
     · injection e with e1 _;rw[e1]
 byValue:=fun k v h=>by
   rcases ze h with ⟨i,t,rfl,rfl⟩|⟨x,t,rfl,rfl⟩<;>rfl
 pyHash:=fun hv h=>by
   rcases ze hv with ⟨i,t,rfl,rfl⟩|⟨x,t,rfl,rfl⟩
   · exact wpAny_pyHash_int h
   · exact wpAny_pyHash_str h
 eqBool:=fun hu hv h=>by
   rcases ze hu with ⟨i,t,rfl,rfl⟩|⟨x,t,rfl,rfl⟩
   · rcases ze hv with ⟨j,u,rfl,rfl⟩|⟨y,u,rfl,rfl⟩
     · rw[qlk]at h;exact wpAny_eqBool_int h
     · rw[qlj]at h;exact SeqAt.EqAt.int_str i t y u _ _ _ _ h
   · rcases ze hv with ⟨j,u,rfl,rfl⟩|⟨y,u,rfl,rfl⟩
     · rw[qli]at h;exact SeqAt.EqAt.str_int x t j u _ _ _ _ h
     · rw[qlh]at h;exact wpAny_eqBool_str h
 «strs»:=fun k x t v h=>by
   rcases ze h with ⟨i,u,rfl,e⟩|⟨y,u,rfl,e⟩
   · exact nomatch e
   · injection e with e1 _;subst e1;cases v<;>rfl
theorem qdW (prog:Program) (w:World) (i:Int) (t:Tok):(qV prog w).is (.inl i) (.int i t)=true:=qgG i t
theorem qdV (prog:Program) (w:World) (x:Str) (t:Tok):(qV prog w).is (.inr x) (.str x t)=true:=qgF x t
inductive V where
 | non|bl (b:Bool)|int (i:Int)|str (x:Str)|byt (b:Array UInt8)|flt (b:UInt64)|ref (a:Addr)|ty (n:String)
 deriving DecidableEq
def RelV:V->Value->Prop
 | .non,u=>u=Value.none
 | .bl b,u=>u=Value.bool b
 | .int i,u=>∃ t,u=Value.int i t
 | .str x,u=>∃ t,u=Value.str x t
 | .byt b,u=>∃ t,u=Value.bytes b t
 | .flt b,u=>∃ t,u=Value.float b t
 | .ref a,u=>u=Value.ref a
 | .ty n,u=>u=Value.type n
abbrev Vals:List V->List Value->Prop:=Paired RelV
theorem Vals.length {xs:List V}{us:List Value} (r:Vals xs us):xs.length=us.length:=Paired.length r
theorem Vals.get:∀ {xs:List V}{us:List Value}{i:Nat}{x:V},Vals xs us->xs[i]?=some x->∃ u,us[i]?=some u∧RelV x u
 | _,_,_,_,.nil,e=>by simp at e
 | _,_,0,_,.cons r _,e=>by simp at e;subst e;exact⟨_,rfl,r⟩
 | _,_,i+1,x,.cons _ t,e=>by
   obtain⟨u,h1,h2⟩:=Vals.get (i:=i) (x:=x) t (by simpa using e);exact⟨u,by simpa using h1,h2⟩
theorem Vals.set {x:V}{u:Value} (r:RelV x u):∀ {xs:List V}{us:List Value} (i:Nat),Vals xs us->Vals (xs.set i x) (us.set i u)
 | _,_,_,.nil=>.nil
 | _,_,0,.cons _ t=>.cons r t
 | _,_,i+1,.cons q t=>.cons q (Vals.set r i t)
theorem Vals.append:∀ {xs ys:List V}{us ws:List Value},Vals xs us->Vals ys ws->Vals (xs++ys) (us++ws)
 | _,_,_,_,.nil,s=>s
 | _,_,_,_,.cons r t,s=>.cons r (Vals.append t s)
theorem Vals.take:∀ {xs:List V}{us:List Value} (n:Nat),Vals xs us->Vals (xs.take n) (us.take n)
 | _,_,0,_=>.nil
 | _,_,_+1,.nil=>.nil
 | _,_,n+1,.cons r t=>.cons r (Vals.take n t)
theorem Vals.drop:∀ {xs:List V}{us:List Value} (n:Nat),Vals xs us->Vals (xs.drop n) (us.drop n)
 | _,_,0,r=>r
 | _,_,_+1,.nil=>.nil
 | _,_,n+1,.cons _ t=>Vals.drop n t
def RelO:Option V->Option Value->Prop
 | some v,some u=>RelV v u
 | none,none=>True
 | _,_=>False
def KV {κ:Type}:List (κ×V)->List (κ×Value)->Prop:=Paired fun (p:κ×V) (q:κ×Value)=>p.1=q.1∧RelV p.2 q.2
def kV:Key->V
 | .inl i=>.int i
 | .inr x=>.str x
inductive HO where
   | lst (xs:List V)
   | tup (xs:List V)
   | dK (kvs:List (Key×V))|dT (kvs:List (List Key×V))
   | set (S:Int->Bool) (n:Nat)
   | ins (C dx:Addr) (fs:List (Str×V))
   | own (x:Addr)
   | xd (fs:List (Str×V))
   | met (f x:Addr)
   | rng (lo hi:Int)
   | frz (o:Obj) (u:HO)
   | tbl (ps:Array Value)
   | ext (φ:Heap->Prop)
abbrev Hp:=Addr->Option HO
def upd (H:Hp) (a:Addr) (o:HO):Hp:=fun b=>if b=a then some o else H b
theorem qd {H:Hp}{a:Addr}{o:HO}:upd H a o a=some o:=by unfold upd;rw[if_pos rfl]
theorem qh {H:Hp}{a b:Addr}{o:HO} (h:b≠a):upd H a o b=H b:=by unfold upd;rw[if_neg h]
theorem qW {H:Hp}{a b:Addr}{o u:HO} (h:H a=some o) (h':H b=some u) (d:o≠u):a≠b:=by
 intro e;subst e;rw[h]at h';exact d (Option.some.inj h')
theorem qi {H:Hp}{a b:Addr}{o:HO} (h:H a=some o) (h':H b=none):a≠b:=by
 intro e;subst e;rw[h]at h';cases h'
section
variable (P:Program) (w:World)
def ObjOk (H:Hp) (h:Heap) (a:Addr):HO->Prop
 | .lst xs=>xs.length≤sizeLine∧∃ (its:List Value) (n:Nat),Vals xs its∧h.get? a=some { cls:=.type "list",data:=.seq its.toArray n }
 | .tup xs=>xs.length≤sizeLine∧∃ its:List Value,Vals xs its∧IsTup h a its.toArray
 | .dK kvs=>kvs.length≤sizeLine∧(a == sysModules)=false∧∃ vs,KV kvs vs∧h.DictOf (qV P w) a vs
 | .dT kvs=>kvs.length≤sizeLine∧(a == sysModules)=false∧∃ xs:List (List Key×Addr×Value),
     Paired (fun (p:List Key×V) (q:List Key×Addr×Value)=>p.1=q.1∧H q.2.1=some (.tup (p.1.map kV))∧RelV p.2 q.2.2) kvs xs ∧
     ∃ o es ep,h.get? a=some o∧o.ExactDict∧o.data=.dict es ep∧es.toList=xs.map (entryOfKey (tupleKind (qV P w)))∧(xs.map (·.1)).Nodup
 | .set S n=>h.SetOf (intKind P w) a S n
 | .ins C dx fs=>H dx=some (.own a)∧fs.length≤1000∧dx≠a∧h.get? a=some (instObj C dx) ∧
     ∃ mA,h.Ns1 dx mA∧(∀ f,RelO (fs.lookup f) (mA f))∧PySem.Within mA (fs.map (·.1))
 | .own _=>∃ o,h.get? a=some o
 | .xd fs=>∃ mA,h.Ns1 a mA∧∀ f,RelO (fs.lookup f) (mA f)
 | .rng lo hi=>∃ t u v,h.get? a=some { cls:=.type "range",data:=.fields #[.int lo t,.int hi u,.int 1 v] }
 | .frz o u=>h.get? a=some o∧ObjOk H h a u
 | .tbl ps=>h.get? a=some { cls:=.none,data:=.fields ps }
 | .met f x=>h.get? a=some (methodObj (.ref f) (.ref x))
 | .ext φ=>φ h∧(∃ o,h.get? a=some o)∧∀ h1 h2:Heap,φ h1->(∀ o,h1.get? a=some o->h2.get? a=some o)->φ h2
def HOk (H:Hp) (h:Heap):Prop:=∀ a o,H a=some o->ObjOk P w H h a o
end
section
variable {P:Program}{w:World}{H H':Hp}{h h':Heap}{a:Addr}{o:HO}
theorem ObjOk.lt (x:ObjOk P w H h a o):a < h.objs.size:=by
 cases o with
 | lst xs=>obtain⟨_,_,_,_,e⟩:=x;exact Heap.lt_size e
 | tup xs=>obtain⟨_,_,_,p⟩:=x;exact p.lt
 | dK kvs=>obtain⟨_,_,_,_,o,_,_,e,_⟩:=x;exact Heap.lt_size e
 | dT kvs=>obtain⟨_,_,_,_,o,_,_,e,_⟩:=x;exact Heap.lt_size e
 | set S n=>obtain⟨o,_,_,_,e,_⟩:=x;exact Heap.lt_size e
 | ins C dx fs=>obtain⟨_,_,_,e,_⟩:=x;exact Heap.lt_size e
 | own y=>obtain⟨_,e⟩:=x;exact Heap.lt_size e
 | xd fs=>obtain⟨_,⟨_,_,_,e,_⟩,_⟩:=x;exact Heap.lt_size e
 | rng lo hi=>obtain⟨_,_,_,e⟩:=x;exact Heap.lt_size e
 | frz ob u=>obtain⟨e,_⟩:=x;exact Heap.lt_size e
 | tbl ps=>exact Heap.lt_size (show h.get? a=some _ from x)
 | met f y=>exact Heap.lt_size (show h.get? a=some _ from x)
 | ext φ=>obtain⟨_,⟨_,e⟩,_⟩:=x;exact Heap.lt_size e
theorem Paired.mapP {α β:Type}{F G:α->β->Prop}:∀ {l₁:List α}{l₂:List β},Paired F l₁ l₂->(∀ a b,F a b->G a b)->Paired G l₁ l₂
 | _,_,.nil,_=>.nil
 | _,_,.cons r t,f=>.cons (f _ _ r) (Paired.mapP t f)
theorem ObjOk.stay (x:ObjOk P w H h a o) (k:∀ b u,(b=a∨H b=some (.own a))->h.get? b=some u->h'.get? b=some u)
   (ho:∀ b,H b=some (.own a)->H' b=some (.own a)) (ht:∀ b xs,H b=some (.tup xs)->H' b=some (.tup xs)):ObjOk P w H' h' a o:=by
 induction o with
 | lst xs=>obtain⟨z,its,n,r,e⟩:=x;exact⟨z,its,n,r,k _ _ (.inl rfl) e⟩
 | tup xs=>obtain⟨z,its,r,ob,e,c⟩:=x;exact⟨z,its,r,ob,k _ _ (.inl rfl) e,c⟩
 | dK kvs=>obtain⟨z,y,vs,r,ob,es,ep,e,c⟩:=x;exact⟨z,y,vs,r,ob,es,ep,k _ _ (.inl rfl) e,c⟩
 | dT kvs =>
   obtain⟨z,y,xs,r,ob,es,ep,e,c⟩:=x;exact⟨z,y,xs,Paired.mapP r fun p q z=>⟨z.1,ht _ _ z.2.1,z.2.2⟩,ob,es,ep,k _ _ (.inl rfl) e,c⟩
 | set S n=>obtain⟨ob,es,ep,t,e,c⟩:=x;exact⟨ob,es,ep,t,k _ _ (.inl rfl) e,c⟩
 | ins C dx fs =>
   obtain⟨d,z,ne,e,mA,⟨od,es,ep,e2,c⟩,r⟩:=x;exact⟨ho _ d,z,ne,k _ _ (.inl rfl) e,mA,⟨od,es,ep,k _ _ (.inr d) e2,c⟩,r⟩
 | own y=>obtain⟨ob,e⟩:=x;exact⟨ob,k _ _ (.inl rfl) e⟩
 | xd fs=>obtain⟨mA,⟨od,es,ep,e,c⟩,r⟩:=x;exact⟨mA,⟨od,es,ep,k _ _ (.inl rfl) e,c⟩,r⟩
 | rng lo hi=>obtain⟨t,u,v,e⟩:=x;exact⟨t,u,v,k _ _ (.inl rfl) e⟩
 | frz ob u ih=>obtain⟨e,q⟩:=x;exact⟨k _ _ (.inl rfl) e,ih q⟩
 | tbl ps =>
   have e:h.get? a=some { cls:=.none,data:=.fields ps }:=x;show h'.get? a=some { cls:=.none,data:=.fields ps };exact k a _ (.inl rfl) e
 | met f y =>
   have e:h.get? a=some (methodObj (.ref f) (.ref y)):=x;show h'.get? a=some (methodObj (.ref f) (.ref y));exact k a _ (.inl rfl) e
 | ext φ=>obtain⟨p,⟨o,e⟩,st⟩:=x;exact⟨st _ _ p fun o q=>k _ _ (.inl rfl) q,⟨o,k _ _ (.inl rfl) e⟩,st⟩
theorem HOk.lt (x:HOk P w H h) (e:H a=some o):a < h.objs.size:=(x a o e).lt
theorem HOk.fresh (x:HOk P w H h) (e:h.objs.size≤a):H a=none:=by
 cases q:H a with
 | none=>rfl
 | some u=>exact absurd (Nat.lt_of_lt_of_le (x.lt q) e) (Nat.lt_irrefl _)
theorem HOk.kept (x:HOk P w H h) (k:∀ b u,h.get? b=some u->h'.get? b=some u):HOk P w H h':=fun a o e =>
 (x a o e).stay (fun b u _ q=>k b u q) (fun _ q=>q) fun _ _ q=>q
theorem HOk.laid (x:HOk P w H h) (k:∀ b u,h.get? b=some u->h'.get? b=some u) (hp:h.objs.size≤a) (new:ObjOk P w (upd H a o) h' a o):HOk P w (upd H a o) h':=fun b u e=>by
 have hn:=x.fresh hp;by_cases hb:b=a
 · subst hb;rw[qd]at e;cases e;exact new
 · rw[qh hb]at e;exact(x b u e).stay (fun c v _ q=>k c v q) (fun c q=>by rw[qh (qi q hn)];exact q) fun c xs q=>by rw[qh (qi q hn)];exact q
end
def Rd (H:Hp) (a:Addr) (u:HO):Prop:=H a=some u∨∃ o,H a=some (.frz o u)
theorem Rd.ok {P:Program}{w:World}{H:Hp}{h:Heap}{a:Addr}{u:HO} (r:Rd H a u) (x:HOk P w H h):ObjOk P w H h a u:=by
 rcases r with r|⟨o,r⟩
 · exact x a u r
 · obtain⟨_,q⟩:=x a _ r;exact q
def Mut:Option HO->Prop
 | some (.lst _)=>True
 | some (.dK _)=>True
 | some (.dT _)=>True
 | some (.set _ _)=>True
 | some (.ins _ _ _)=>True
 | some (.ext _)=>True
 | _=>False
section
variable {P:Program}{w:World}{H:Hp}{h h':Heap}{x e:Addr}{o':HO}
theorem HOk.write (ok:HOk P w H h) (mu:Mut (H x)) (he:e=x∨H e=some (.own x)) (k:∀ b u,b≠e->h.get? b=some u->h'.get? b=some u) (heo:∃ u,h'.get? e=some u)
   (new:ObjOk P w (upd H x o') h' x o'):HOk P w (upd H x o') h':=fun b u q=>by
 have nown:∀ c y,H c=some (.own y)->c≠x:=fun c y r z=>by subst z;rw[r]at mu;exact mu
 have ntup:∀ c xs,H c=some (.tup xs)->c≠x:=fun c xs r z=>by subst z;rw[r]at mu;exact mu
 by_cases hb:b=x
 · subst hb;rw[qd]at q;cases q;exact new
 · rw[qh hb]at q;by_cases hbe:b=e
   · have q':H b=some (.own x):=by
       rcases he with z|z
       · exact absurd (hbe.trans z) hb
       · rw[hbe];exact z
     rw[q]at q';cases q';obtain⟨v,hv⟩:=heo;exact⟨v,by rw[hbe];exact hv⟩
   · refine(ok b u q).stay (fun c v hc r=>k c v ?_ r) (fun c r=>by rw[qh (nown c b r)];exact r) fun c xs r=>by rw[qh (ntup c xs r)];exact r
     rcases hc with rfl|hc
     · exact hbe
     · rintro rfl;rcases he with z|z
       · exact nown c b hc z
       · rw[hc]at z;cases z;exact hb rfl
end
structure Un (fs ex:List Addr) (H H':Hp) (h h':Heap):Prop where
 keep:∀ b o,h.get? b=some o->H b=none->b∉fs->b∉ex->h'.get? b=some o
 slot:∀ b o,h.get? b=some o->H b=none->b∈fs->b∉ex->∃ sl,h'.get? b=some { o with slots:=sl }
 free:∀ b o,h.get? b=some o->H b=none->b∉ex->H' b=none
 there:∀ b o,h.get? b=some o->b∉ex->∃ o',h'.get? b=some o'
 tups:∀ b xs,H b=some (.tup xs)->H' b=some (.tup xs)
 frzs:∀ b o u,H b=some (.frz o u)->H' b=some (.frz o u)
 tbls:∀ b ps,H b=some (.tbl ps)->∃ more,H' b=some (.tbl (ps++more))
section
variable {fs fs' ex ex':List Addr}{H H1 H2:Hp}{h h1 h2 h':Heap}{a x e:Addr}{o:HO}
theorem Un.any (u:Un fs ex H H1 h h1) {b:Addr}{ob:Obj} (q:h.get? b=some ob) (n:H b=none) (hx:b∉ex):∃ sl,h1.get? b=some { ob with slots:=sl }:=by
 by_cases hb:b∈fs
 · exact u.slot b ob q n hb hx
 · exact⟨ob.slots,u.keep b ob q n hb hx⟩
theorem Un.kept (k:∀ b u,h.get? b=some u->h'.get? b=some u):Un fs ex H H h h' :=
 ⟨fun b ob q _ _ _=>k b ob q,fun b ob q _ _ _=>⟨ob.slots,k b ob q⟩,fun _ _ _ n _=>n,fun b ob q _=>⟨ob,k b ob q⟩,fun _ _ q=>q,fun _ _ _ q=>q,fun _ ps q=>⟨#[],by rw[q];simp⟩⟩
theorem Un.refl:Un fs ex H H h h:=Un.kept fun _ _ q=>q
theorem Un.laid (k:∀ b u,h.get? b=some u->h'.get? b=some u) (hp:h.objs.size≤a) (hn:H a=none):Un fs ex H (upd H a o) h h' where
 keep:=fun b u q _ _ _=>k b u q
 slot:=fun b u q _ _ _=>⟨u.slots,k b u q⟩
 free:=fun b u q n _=>by rw[qh (Nat.ne_of_lt (Nat.lt_of_lt_of_le (Heap.lt_size q) hp))];exact n
 there:=fun b u q _=>⟨u,k b u q⟩
 tups:=fun b xs q=>by rw[qh (qi q hn)];exact q
 frzs:=fun b u xs q=>by rw[qh (qi q hn)];exact q
 tbls:=fun b ps q=>⟨#[],by rw[qh (qi q hn),q];simp⟩
theorem Un.write (mu:Mut (H x)) (he:e=x∨H e=some (.own x)) (k:∀ b u,b≠e->h.get? b=some u->h'.get? b=some u) (heo:∃ u,h'.get? e=some u):Un fs ex H (upd H x o) h h':=by
 have hx:∀ b,H b=none->b≠x:=fun b n z=>by subst z;rw[n]at mu;exact mu
 have hb:∀ b,H b=none->b≠e:=fun b n z=>by
   subst z;rcases he with r|r
   · exact hx b n r
   · rw[n]at r;cases r
 have hm:∀ b u,H b=some u->¬ Mut (some u)->b≠x:=fun b u q nm z=>by subst z;rw[q]at mu;exact nm mu
 refine⟨fun b u q n _ _=>k b u (hb b n) q,fun b u q n _ _=>⟨u.slots,k b u (hb b n) q⟩,fun b u q n _=>by rw[qh (hx b n)];exact n,fun b u q _=>?_,
   fun b xs q=>by rw[qh (hm b _ q fun z=>z)];exact q,fun b u xs q=>by rw[qh (hm b _ q fun z=>z)];exact q,fun b ps q=>⟨#[],by rw[qh (hm b _ q fun z=>z),q];simp⟩⟩
 by_cases hbe:b=e
 · subst hbe;exact heo
 · exact⟨u,k b u hbe q⟩
end
def trk (h:Heap) (H:Hp):List Addr:=(List.range h.objs.size).filter fun a=>(H a).isSome
def qhn (h:Heap) (H:Hp):Heap:=PySem.W.hideAll h (trk h H)
theorem qgO (h:Heap) (H:Hp):(qhn h H).objs.size=h.objs.size:=PySem.W.hideAll_size _ _
theorem qii {h:Heap}{H:Hp}{b:Addr}{o:Obj} (e:h.get? b=some o) (n:H b=none):(qhn h H).get? b=some o :=
 PySem.W.hideAll_get _ e fun hm=>by
   have q:(H b).isSome=true:=(List.mem_filter.mp hm).2;rw[n]at q;simp at q
theorem qj2 {h:Heap}{H:Hp}{b:Addr}{o:Obj} (e:(qhn h H).get? b=some o):h.get? b=some o∧H b=none:=by
 have e':h.get? b=some o:=PySem.W.of_hideAll (trk h H) e;refine⟨e',?_⟩
 cases q:H b with
 | none=>rfl
 | some x =>
   have hm:b∈trk h H:=List.mem_filter.mpr ⟨List.mem_range.mpr (Heap.lt_size e'),by simp[q]⟩;have z:(qhn h H).get? b=none:=PySem.W.hideAll_none (trk h H) hm;rw[z]at e;cases e
structure Mod (K:Frag) (mg:Str->Option Value) (base:Heap):Prop where
 kin:K.In base
 glob:base.Ns mainGlobals mg
 blt:∃ mb,base.Ns builtinsNs mb∧∀ x:Str,x≠"__name__"->mb x=bootBuiltins x
 nolimit:base.NoLimit
structure Cx where
 prog:Program
 w:World
 K:Frag
 mg:Str->Option Value
 base:Heap
 A:Around
 N:List Str
 s₀:Shared
 H₀:Hp
 env:Env
 outer:List Env
 stack:List Env
 ex:List Addr
 fn:Str->Bool
 calm:Bool
 pn:List (Addr×Obj)
 xe:Value->Shared->Prop
def frs (l:List Env):List Addr:=l.filterMap (·.frame)
abbrev Cx.fs (X:Cx):List Addr:=frs X.outer
def Vis (sc:Scope) (x:Str):Prop:=sc.names.lookup x=some .local∨sc.names.lookup x=some .cell∨sc.names.lookup x=some .free
def Loc (sc:Scope) (x:Str):Prop:=sc.names.lookup x=some .local∨sc.names.lookup x=some .cell
def qnf (env:Env) (h:Heap) (m:Str->Option Value) (x:Str) (u:Value):Prop :=
 (env.kindOf x=some .local∧m x=some u)∨((env.kindOf x=some .cell∨env.kindOf x=some .free)∧∃ c,env.cells.lookup x=some c∧h.IsCell c (some u))
structure Cx.Ok (X:Cx):Prop where
 mod:Mod X.K X.mg X.base
 kind:X.env.scope.kind=.function
 glob:X.env.globals=mainGlobals
 blt:X.env.builtins=builtinsNs
 above:X.s₀.heap.objs.size≤X.env.locals
 inj:∀ x y c,X.env.cells.lookup x=some c->X.env.cells.lookup y=some c->x=y
 has:∀ x,(X.env.kindOf x=some .cell∨X.env.kindOf x=some .free)->∃ c,X.env.cells.lookup x=some c
 cab:∀ x c,X.fn x=true->X.env.cells.lookup x=some c->X.s₀.heap.objs.size≤c
 hd:X.calm=true->X.A.handled=none
 frames:X.A.frames=some X.stack
 stk:X.stack=X.outer∨(X.stack=X.env::X.outer∧X.env.frame=some X.env.locals)
 exf:∀ b∈X.ex,b≠X.env.locals∧∀ x c,X.env.cells.lookup x=some c->c≠b
 bs:∀ b o,X.base.get? b=some o->X.s₀.heap.get? b=some o∧X.H₀ b=none
 bsz:X.base.objs.size≤X.s₀.heap.objs.size
 noex:∀ b o,X.base.get? b=some o->b∉X.ex
 exfs:∀ b∈X.ex,b∉X.fs
 funs:X.s₀.heap.FunFrames X.base X.outer
 frf:∀ b∈X.fs,X.H₀ b=none
structure Inv (X:Cx) (pins:List (Addr×Obj)) (σ:List (Option V)) (H:Hp) (s:Shared):Prop where
 ok:X.Ok
 os:s.os=X.s₀.os
 bare:AllBare s.gens
 base:Un X.fs X.ex X.H₀ H X.s₀.heap s.heap
 loc:∃ m,s.heap.Ns X.env.locals m∧∀ (i:Nat) (x:Str) (v:V),X.N[i]?=some x->σ[i]?=some (some v)->Vis X.env.scope x->∃ u,RelV v u∧qnf X.env s.heap m x u
 cell:∀ x c,X.env.cells.lookup x=some c->∃ v,s.heap.IsCell c v
 free:H X.env.locals=none
 freeC:∀ x c,X.env.cells.lookup x=some c->H c=none
 pin:∀ p∈X.pn++pins,s.heap.get? p.1=some p.2∧H p.1=none∧p.1≠X.env.locals∧p.1∉X.fs∧∀ v,p.2.data≠.cell v
 hok:HOk X.prog X.w H s.heap
 len:σ.length=X.N.length
section
variable {X:Cx}{pins:List (Addr×Obj)}{σ:List (Option V)}{H H':Hp}{s:Shared}{h':Heap}
theorem Cx.Ok.nofr (ok:X.Ok) {b:Addr}{o:Obj} (e:X.base.get? b=some o):b∉X.fs:=fun hb=>by
 have:=(ok.funs.mem hb).1
 rw[e]at this;cases this
theorem Inv.bs (I:Inv X pins σ H s):∀ b o,X.base.get? b=some o->s.heap.get? b=some o∧H b=none:=fun b o e =>
 ⟨I.base.keep b o (I.ok.bs b o e).1 (I.ok.bs b o e).2 (I.ok.nofr e) (I.ok.noex b o e),I.base.free b o (I.ok.bs b o e).1 (I.ok.bs b o e).2 (I.ok.noex b o e)⟩
theorem Inv.bk (I:Inv X pins σ H s):∀ b o,X.base.get? b=some o->s.heap.get? b=some o:=fun b o e=>(I.bs b o e).1
theorem Inv.mod (I:Inv X pins σ H s):Mod X.K X.mg X.base:=I.ok.mod
theorem Inv.kIn (I:Inv X pins σ H s):X.K.In s.heap:=I.ok.mod.kin.keeps I.bk
theorem Inv.fr (I:Inv X pins σ H s):∃ m,Fr X.base X.env.locals s.heap m :=
 let ⟨m,hn,_⟩:=I.loc
 ⟨m,hn,I.bk,Nat.le_trans I.ok.bsz I.ok.above⟩
theorem Inv.lt (I:Inv X pins σ H s):X.env.locals < s.heap.objs.size:=let ⟨_,hn,_⟩:=I.loc;hn.lt
theorem Inv.sz (I:Inv X pins σ H s):X.s₀.heap.objs.size≤s.heap.objs.size:=Nat.le_trans I.ok.above (Nat.le_of_lt I.lt)
theorem Inv.nofs (I:Inv X pins σ H s) {a:Addr} (h:s.heap.objs.size≤a):a∉X.fs:=fun hb=>by
 obtain⟨_,o,ho,_⟩:=I.ok.funs.mem hb;exact absurd (Nat.lt_of_lt_of_le (Heap.lt_size ho) (Nat.le_trans I.sz h)) (Nat.lt_irrefl _)
theorem Inv.cne (I:Inv X pins σ H s):∀ x c,X.env.cells.lookup x=some c->c≠X.env.locals:=fun x c e z=>by
 obtain⟨v,o,ho,hd⟩:=I.cell x c e;obtain⟨m,⟨o',es,ep,ho',hd',_⟩,_⟩:=I.loc;rw[z,ho']at ho;cases ho;rw[hd']at hd;cases hd
theorem Inv.funs (I:Inv X pins σ H s):s.heap.FunFrames X.base X.outer:=by
 have all:∀ (l:List Env),(∀ b∈frs l,b∈X.fs)->X.s₀.heap.FunFrames X.base l->s.heap.FunFrames X.base l:=by
   intro l
   induction l with
   | nil=>intro _ _;trivial
   | cons env r ih =>
     intro hs hl;obtain⟨hk,⟨L,o,hf,hn,ho,hd⟩,hr⟩:=hl;have hL:L∈X.fs:=hs L (by unfold frs;rw[List.filterMap_cons,hf];exact List.mem_cons_self);obtain⟨sl,e⟩:=I.base.slot L o ho (I.ok.frf L hL) hL fun z=>I.ok.exfs L z hL;exact⟨hk,⟨L,_,hf,hn,e,hd⟩,ih (fun b hb=>hs b (by unfold frs;rw[List.filterMap_cons,hf];exact List.mem_cons_of_mem _ hb)) hr⟩
 exact all X.outer (fun _ hb=>hb) I.ok.funs
theorem Inv.stack (I:Inv X pins σ H s):s.heap.FunFrames X.base X.stack:=by
 rcases I.ok.stk with e|⟨e,hf⟩
 · rw[e];exact I.funs
 · rw[e];obtain⟨m,hn,_⟩:=I.loc;refine .cons (by rw[I.ok.kind];decide) hf hn ?_ I.funs;exact Heap.get?_none_of_le (Nat.le_trans I.ok.bsz I.ok.above)
theorem Inv.stkSub (I:Inv X pins σ H s):∀ b∈frs X.stack,b∈X.env.locals::X.fs:=fun b hb=>by
 rcases I.ok.stk with e|⟨e,hf⟩
 · rw[e]at hb;exact List.mem_cons_of_mem _ hb
 · rw[e]at hb;unfold frs at hb;rw[List.filterMap_cons,hf]at hb;exact hb
theorem Inv.stkFree (I:Inv X pins σ H s):∀ b∈frs X.stack,H b=none:=fun b hb=>by
 rcases List.mem_cons.mp (I.stkSub b hb) with e|hb
 · rw[e];exact I.free
 · obtain⟨_,o,ho,_⟩:=I.ok.funs.mem hb;exact I.base.free b o ho (I.ok.frf b hb) fun z=>I.ok.exfs b z hb
theorem Inv.step {g':Array GenState}{t':Nat}{d':Drawn}{ch:List Addr} (I:Inv X pins σ H s)
   (hch:∀ b∈ch,(b∈X.ex∨X.s₀.heap.objs.size≤b)∧b≠X.env.locals∧(∀ x c,X.env.cells.lookup x=some c->c≠b)∧∀ p∈X.pn++pins,p.1≠b)
   (keep:∀ b o,b≠X.env.locals->b∉X.fs->b∉ch->s.heap.get? b=some o->H b=none->h'.get? b=some o)
   (slot:∀ b o,b≠X.env.locals->b∈X.fs->b∉ch->s.heap.get? b=some o->H b=none->∃ sl,h'.get? b=some { o with slots:=sl }) (free:∀ b o,b∉ch->s.heap.get? b=some o->H b=none->H' b=none)
   (there:∀ b o,b∉ch->s.heap.get? b=some o->∃ o',h'.get? b=some o')
   (tups:∀ b xs,H b=some (.tup xs)->H' b=some (.tup xs)) (frzs:∀ b o u,H b=some (.frz o u)->H' b=some (.frz o u)) (tbls:∀ b ps,H b=some (.tbl ps)->∃ more,H' b=some (.tbl (ps++more)))
   (ns:∀ m,s.heap.Ns X.env.locals m->h'.Ns X.env.locals m) (hok:HOk X.prog X.w H' h') (hg:AllBare g') :
   Inv X pins σ H' { s with heap:=h',gens:=g',drawn:=d',toks:=t' }:=by
 have neL:∀ b o,X.s₀.heap.get? b=some o->b≠X.env.locals:=fun b o e=>Nat.ne_of_lt (Nat.lt_of_lt_of_le (Heap.lt_size e) I.ok.above)
 have neC:∀ b o,X.s₀.heap.get? b=some o->b∉X.ex->b∉ch:=fun b o e hx hb=>by
   rcases (hch b hb).1 with z|z
   · exact hx z
   · exact absurd (Nat.lt_of_lt_of_le (Heap.lt_size e) z) (Nat.lt_irrefl _)
 have cellK:∀ x c,X.env.cells.lookup x=some c->∀ v,s.heap.IsCell c v->h'.IsCell c v:=fun x c e v ⟨o,ho,hd⟩=>by
   have nch:c∉ch:=fun z=>(hch c z).2.2.1 x c e rfl;by_cases hc:c∈X.fs
   · obtain⟨sl,q⟩:=slot c o (I.cne x c e) hc nch ho (I.freeC x c e);exact⟨_,q,hd⟩
   · exact⟨o,keep c o (I.cne x c e) hc nch ho (I.freeC x c e),hd⟩
 refine⟨I.ok,I.os,hg,⟨fun b o e n hb hx=>?_,fun b o e n hb hx=>?_,fun b o e n hx=>?_,fun b o e hx=>?_,fun b xs e=>tups b xs (I.base.tups b xs e),fun b o xs e=>frzs b o xs (I.base.frzs b o xs e),fun b ps e=>?_⟩,?_,fun x c e=>?_,?_,fun x c e=>?_,fun p hp=>?_,hok,I.len⟩
 · exact keep b o (neL b o e) hb (neC b o e hx) (I.base.keep b o e n hb hx) (I.base.free b o e n hx)
 · obtain⟨sl,e1⟩:=I.base.slot b o e n hb hx;obtain⟨sl',e2⟩:=slot b _ (neL b o e) hb (neC b o e hx) e1 (I.base.free b o e n hx);exact⟨sl',e2⟩
 · obtain⟨o',e1⟩:=I.base.there b o e hx;exact free b o' (neC b o e hx) e1 (I.base.free b o e n hx)
 · obtain⟨o',e1⟩:=I.base.there b o e hx;exact there b o' (neC b o e hx) e1
 · obtain⟨m1,e1⟩:=I.base.tbls b ps e;obtain⟨m2,e2⟩:=tbls b _ e1;exact⟨m1++m2,by rw[e2,Array.append_assoc]⟩
 · obtain⟨m,hn,hl⟩:=I.loc;refine⟨m,ns m hn,fun i x v e1 e2 e3=>?_⟩;obtain⟨u,r,l⟩:=hl i x v e1 e2 e3;refine⟨u,r,?_⟩;rcases l with l|⟨k,c,e,z⟩
   · exact .inl l
   · exact .inr ⟨k,c,e,cellK x c e _ z⟩
 · obtain⟨v,z⟩:=I.cell x c e;exact⟨v,cellK x c e v z⟩
 · obtain⟨m,⟨o,_,_,ho,_⟩,_⟩:=I.loc;exact free _ o (fun z=>(hch _ z).2.1 rfl) ho I.free
 · obtain⟨v,o,ho,hd⟩:=I.cell x c e;exact free c o (fun z=>(hch c z).2.2.1 x c e rfl) ho (I.freeC x c e)
 · obtain⟨e,n,ne,nf,d⟩:=I.pin p hp;have nch:p.1∉ch:=fun z=>(hch p.1 z).2.2.2 p hp rfl;exact⟨keep p.1 p.2 ne nf nch e n,free p.1 p.2 nch e n,ne,nf,d⟩
theorem Inv.un {t':Nat} (I:Inv X pins σ H s) (u:Un X.fs [] H H' s.heap h') (hok:HOk X.prog X.w H' h'):Inv X pins σ H' { s with heap:=h',toks:=t' }:=by
 obtain⟨m,⟨o,es,ep,ho,r⟩,_⟩:=id I.loc;obtain⟨sl,hL⟩:=u.any ho I.free (by simp)
 exact I.step (g':=s.gens) (d':=s.drawn) (ch:=[]) (fun _ z=>nomatch z) (fun b o _ hb _ e n=>u.keep b o e n hb (by simp)) (fun b o _ hb _ e n=>u.slot b o e n hb (by simp)) (fun b o _ e n=>u.free b o e n (by simp)) (fun b o _ e=>u.there b o e (by simp)) u.tups u.frzs u.tbls (fun m' hm=>by
   obtain⟨o',es',ep',ho',r'⟩:=hm;rw[ho]at ho';cases ho'
   exact⟨_,es',ep',hL,r'⟩) hok I.bare
theorem Inv.call {g':Array GenState}{t':Nat}{d':Drawn}{ch:List Addr} (I:Inv X pins σ H s) (u:Un (frs X.stack) ch H H' s.heap h') (hok:HOk X.prog X.w H' h') (hg:AllBare g')
   (hch:∀ b∈ch,(b∈X.ex∨X.s₀.heap.objs.size≤b)∧b≠X.env.locals∧(∀ x c,X.env.cells.lookup x=some c->c≠b)∧∀ p∈X.pn++pins,p.1≠b) :
   Inv X pins σ H' { s with heap:=h',gens:=g',drawn:=d',toks:=t' }:=by
 obtain⟨m,⟨o,es,ep,ho,r⟩,_⟩:=id I.loc;obtain⟨sl,hL⟩:=u.any ho I.free fun z=>(hch _ z).2.1 rfl
 exact I.step (ch:=ch) hch (fun b o hL hb hc e n=>u.keep b o e n (fun z=>(List.mem_cons.mp (I.stkSub b z)).elim hL hb) hc) (fun b o _ _ hc e n=>u.any e n hc) (fun b o hc e n=>u.free b o e n hc) (fun b o hc e=>u.there b o e hc) u.tups u.frzs u.tbls (fun m' hm=>by
   obtain⟨o',es',ep',ho',r'⟩:=hm;rw[ho]at ho';cases ho'
   exact⟨_,es',ep',hL,r'⟩) hok hg
theorem Inv.turned {t':Nat}{it:Addr} (I:Inv X pins σ H s) (k:∀ b o,b≠it->s.heap.get? b=some o->h'.get? b=some o) (hn:H it=none) (hL:it≠X.env.locals)
   (h1:it∈X.ex∨X.s₀.heap.objs.size≤it) (h2:∀ x c,X.env.cells.lookup x=some c->c≠it) (h3:∀ p∈X.pn++pins,p.1≠it):Inv X pins σ H { s with heap:=h',toks:=t' }:=by
 have nit:∀ b u,H b=some u->b≠it:=fun b u e z=>by rw[z,hn]at e;cases e
 refine I.step (g':=s.gens) (d':=s.drawn) (ch:=[it]) (fun b hb=>?_) (fun b o _ _ hc e _=>k b o (fun z=>hc (by simp[z])) e) (fun b o _ _ hc e _=>⟨o.slots,k b o (fun z=>hc (by simp[z])) e⟩) (fun _ _ _ _ n=>n)
   (fun b o hc e=>⟨o,k b o (fun z=>hc (by simp[z])) e⟩) (fun _ _ e=>e) (fun _ _ _ e=>e) (fun b ps e=>⟨#[],by rw[e];simp⟩) (fun m hm=>?_) (fun b u e=>?_) I.bare
 · have e:b=it:=by simpa using hb
   subst e;exact⟨h1,hL,h2,h3⟩
 · obtain⟨o,es,ep,ho,r⟩:=hm;exact⟨o,es,ep,k _ o (Ne.symm hL) ho,r⟩
 · refine(I.hok b u e).stay (fun c v hc q=>k c v ?_ q) (fun _ q=>q) fun _ _ q=>q;rcases hc with z|z
   · rw[z];exact nit b u e
   · exact nit c _ z
theorem Inv.tok (I:Inv X pins σ H s) (t:Nat):Inv X pins σ H { s with toks:=t }:=I.un (h':=s.heap) (t':=t) Un.refl I.hok
theorem Inv.kept {t':Nat} (I:Inv X pins σ H s) (k:∀ b u,s.heap.get? b=some u->h'.get? b=some u):Inv X pins σ H { s with heap:=h',toks:=t' }:=I.un (Un.kept k) (I.hok.kept k)
theorem Inv.laid {a:Addr}{o:HO}{t':Nat} (I:Inv X pins σ H s) (k:∀ b u,s.heap.get? b=some u->h'.get? b=some u) (hp:s.heap.objs.size≤a) (new:ObjOk X.prog X.w (upd H a o) h' a o) :
   Inv X pins σ (upd H a o) { s with heap:=h',toks:=t' }:=I.un (Un.laid k hp (I.hok.fresh hp)) (I.hok.laid k hp new)
theorem Inv.write {x e:Addr}{o:HO}{t':Nat} (I:Inv X pins σ H s) (mu:Mut (H x)) (he:e=x∨H e=some (.own x)) (k:∀ b u,b≠e->s.heap.get? b=some u->h'.get? b=some u) (heo:∃ u,h'.get? e=some u)
   (new:ObjOk X.prog X.w (upd H x o) h' x o):Inv X pins σ (upd H x o) { s with heap:=h',toks:=t' }:=I.un (Un.write mu he k heo) (I.hok.write mu he k heo new)
theorem Inv.pins_of {pins':List (Addr×Obj)} (I:Inv X pins σ H s) (h:∀ p∈pins',s.heap.get? p.1=some p.2∧H p.1=none∧p.1≠X.env.locals∧p.1∉X.fs∧∀ v,p.2.data≠.cell v):Inv X pins' σ H s :=
 ⟨I.ok,I.os,I.bare,I.base,I.loc,I.cell,I.free,I.freeC,fun p hp=>(List.mem_append.mp hp).elim (fun z=>I.pin p (List.mem_append_left _ z)) (h p),I.hok,I.len⟩
theorem qeC {N:List Str} (hN:N.Nodup) {i j:Nat}{x:Str} (a:N[i]?=some x) (b:N[j]?=some x):i=j:=by
 obtain⟨h1,e1⟩:=List.getElem?_eq_some_iff.mp a;obtain⟨h2,e2⟩:=List.getElem?_eq_some_iff.mp b;exact(List.getElem_inj hN).mp (e1.trans e2.symm)
theorem qfJ {M:Model}{A:Around}{E:Value->Shared->Prop}{i:Nat}{x:Str}{v:V}{u:Value}{Q:Unit->Shared->Prop} (I:Inv X pins σ H s) (hN:X.N.Nodup) (hi:X.N[i]?=some x) (hx:Loc X.env.scope x) (r:RelV v u)
   (h:∀ s',Inv X pins (σ.set i (some v)) H s'->(∃ a,Heap.SameBut a s.heap s'.heap∧(a=X.env.locals∨X.env.cells.lookup x=some a))->Q () s') (hf:X.fn x=true∨X.env.scope.names.lookup x=some .local:=by first|exact .inl rfl|exact .inr rfl|assumption):wpAny M A (storeName X.env x u) Q E s:=by
 obtain⟨m,hn,hl⟩:=id I.loc;have hcls:(X.env.scope.kind == .class || (X.env.scope.kind == .module && X.env.locals != X.env.globals))=false:=by rw[I.ok.kind];rfl
 have hiσ:i < σ.length:=by rw[I.len];exact(List.getElem?_eq_some_iff.mp hi).1
 have cne:=I.cne
 have tracked:∀ {a:Addr}{h':Heap},(∃ o,s.heap.get? a=some o∧H a=none)->Heap.SameBut a s.heap h'->HOk X.prog X.w H h':=fun {a h'} ha hs b ob e=>by
   obtain⟨_,_,hfree⟩:=ha;refine(I.hok b ob e).stay (fun c w' hc q=>(hs.2 c ?_).trans q) (fun _ q=>q) fun _ _ q=>q;rintro rfl;rcases hc with rfl|hc
   · rw[hfree]at e;cases e
   · rw[hfree]at hc;cases hc
 rcases hx with hk|hk
 · refine wpAny_storeName_local hk hn (fun h' hn' hs=>?_) hcls;obtain⟨oL,_,_,hoL,_⟩:=id hn;refine h _ ⟨I.ok,I.os,I.bare,⟨fun b o e n hb hx=>?_,fun b o e n hb hx=>?_,I.base.free,fun b o e hx=>?_,I.base.tups,I.base.frzs,I.base.tbls⟩,⟨_,hn',fun j y v' e1 e2 e3=>?_⟩,fun y c e=>?_,I.free,I.freeC,fun p hp=>?_,tracked ⟨oL,hoL,I.free⟩ hs,by simpa using I.len⟩ ⟨_,hs,.inl rfl⟩
   · exact(hs.2 b (Nat.ne_of_lt (Nat.lt_of_lt_of_le (Heap.lt_size e) I.ok.above))).trans (I.base.keep b o e n hb hx)
   · obtain⟨sl,e1⟩:=I.base.slot b o e n hb hx;exact⟨sl,(hs.2 b (Nat.ne_of_lt (Nat.lt_of_lt_of_le (Heap.lt_size e) I.ok.above))).trans e1⟩
   · obtain⟨o',e1⟩:=I.base.there b o e hx;exact⟨o',(hs.2 b (Nat.ne_of_lt (Nat.lt_of_lt_of_le (Heap.lt_size e) I.ok.above))).trans e1⟩
   · by_cases hj:j=i
     · subst hj;rw[hi]at e1;cases e1;rw[List.getElem?_set_self hiσ]at e2;cases e2;exact⟨u,r,.inl ⟨hk,by simp⟩⟩
     · rw[List.getElem?_set_ne (Ne.symm hj)]at e2;obtain⟨u',r',q⟩:=hl j y v' e1 e2 e3;refine⟨u',r',?_⟩;rcases q with ⟨k,e⟩|⟨k,c,e,z⟩
       · refine .inl ⟨k,?_⟩
         have:y≠x:=fun e=>hj (qeC hN e1 (e▸hi))
         simp[this,e]
       · exact .inr ⟨k,c,e,z.sameBut hs (cne y c e)⟩
   · obtain⟨w',z⟩:=I.cell y c e;exact⟨w',z.sameBut hs (cne y c e)⟩
   · obtain⟨e,n,ne,nf,d⟩:=I.pin p hp;exact⟨(hs.2 p.1 ne).trans e,n,ne,nf,d⟩
 · have hfn:X.fn x=true:=by
     rcases hf with z|z
     · exact z
     · rw[z]at hk;cases hk
   obtain⟨c,hc⟩:=I.ok.has x (.inl hk);obtain⟨w',z⟩:=I.cell x c hc;refine wpAny_storeName_cell I.ok.kind hk hc z (fun h' hc' hs=>?_);obtain⟨oc,hoc,hocd⟩:=id z;refine h { s with heap:=h' } ⟨I.ok,I.os,I.bare,⟨fun b o e n hb hx=>?_,fun b o e n hb hx=>?_,I.base.free,fun b o e hx=>?_,I.base.tups,I.base.frzs,I.base.tbls⟩,⟨m,hn.sameBut hs (Ne.symm (cne x c hc)),fun j y v' e1 e2 e3=>?_⟩,fun y c' e=>?_,I.free,I.freeC,fun p hp=>?_,tracked ⟨oc,hoc,I.freeC x c hc⟩ hs,by simpa using I.len⟩ ⟨c,hs,.inr hc⟩
   · exact(hs.2 b (Nat.ne_of_lt (Nat.lt_of_lt_of_le (Heap.lt_size e) (I.ok.cab x c hfn hc)))).trans (I.base.keep b o e n hb hx)
   · obtain⟨sl,e1⟩:=I.base.slot b o e n hb hx;exact⟨sl,(hs.2 b (Nat.ne_of_lt (Nat.lt_of_lt_of_le (Heap.lt_size e) (I.ok.cab x c hfn hc)))).trans e1⟩
   · obtain⟨o',e1⟩:=I.base.there b o e hx;exact⟨o',(hs.2 b (Nat.ne_of_lt (Nat.lt_of_lt_of_le (Heap.lt_size e) (I.ok.cab x c hfn hc)))).trans e1⟩
   · by_cases hj:j=i
     · subst hj;rw[hi]at e1;cases e1;rw[List.getElem?_set_self hiσ]at e2;cases e2;exact⟨u,r,.inr ⟨.inl hk,c,hc,hc'⟩⟩
     · rw[List.getElem?_set_ne (Ne.symm hj)]at e2;obtain⟨u',r',q⟩:=hl j y v' e1 e2 e3;refine⟨u',r',?_⟩;rcases q with q|⟨k,c',e,z'⟩
       · exact .inl q
       · refine .inr ⟨k,c',e,z'.sameBut hs ?_⟩;rintro rfl;exact hj (qeC hN e1 (I.ok.inj _ _ _ e hc▸hi))
   · by_cases hcc:c'=c
     · subst hcc;exact⟨_,hc'⟩
     · obtain⟨w2,z2⟩:=I.cell y c' e;exact⟨w2,z2.sameBut hs hcc⟩
   · obtain⟨e,n,ne,nf,d⟩:=I.pin p hp;refine⟨(hs.2 p.1 ?_).trans e,n,ne,nf,d⟩;intro q;rw[q,hoc]at e;have q':oc=p.2:=Option.some.inj e;exact d w' (by rw[← q'];exact hocd)
theorem J3 {M:Model}{A:Around}{E:Value->Shared->Prop}{i:Nat}{x:Str}{v:V}{u:Value}{Q:Unit->Shared->Prop} (I:Inv X pins σ H s) (hN:X.N.Nodup) (hi:X.N[i]?=some x) (hx:Loc X.env.scope x) (r:RelV v u)
   (h:∀ s',Inv X pins (σ.set i (some v)) H s'->Q () s') (hf:X.fn x=true∨X.env.scope.names.lookup x=some .local:=by first|exact .inl rfl|exact .inr rfl|assumption):wpAny M A (storeName X.env x u) Q E s :=
 qfJ I hN hi hx r (fun s' I' _=>h s' I') hf
theorem Inv.call' {s':Shared}{ch:List Addr} (I:Inv X pins σ H s) (ho:s'.os=s.os) (u:Un (frs X.stack) ch H H' s.heap s'.heap) (hok:HOk X.prog X.w H' s'.heap) (hg:AllBare s'.gens)
   (hch:∀ b∈ch,(b∈X.ex∨X.s₀.heap.objs.size≤b)∧b≠X.env.locals∧(∀ x c,X.env.cells.lookup x=some c->c≠b)∧∀ p∈X.pn++pins,p.1≠b):Inv X pins σ H' s':=by
 obtain⟨h',g',d',t',o'⟩:=s';have e:o'=s.os:=ho;subst e;exact I.call (g':=g') (t':=t') (d':=d') u hok hg hch
end
abbrev XK:=Value->Option Addr->Hp->Prop
abbrev St:=List (Option V)
abbrev VK:=V->Hp->Prop
abbrev TE:=St->Hp->VK->Prop
abbrev TT:=St->Hp->(Bool->Hp->Prop)->Prop
abbrev TA:=St->Hp->(List V->Hp->Prop)->Prop
structure qdA where
 nx:St->Hp->Prop
 rt:VK
 bk:St->Hp->Prop:=fun _ _=>False
 ct:St->Hp->Prop:=fun _ _=>False
abbrev TS:=qdA->St->Hp->Prop
inductive qmN (X:Cx) (pins:List (Addr×Obj)) (σ:St) (Q:VK) (u:Value) (s':Shared):Prop
 | mk (v H':_) (h1:Inv X pins σ H' s') (h2:RelV v u) (h3:Q v H'):qmN X pins σ Q u s'
def EP (X:Cx) (pins:List (Addr×Obj)) (σ:St) (Q:VK) (u:Value) (s':Shared):Prop:=qmN X pins σ Q u s'
def TP (X:Cx) (pins:List (Addr×Obj)) (σ:St) (Q:Bool->Hp->Prop) (b:Bool) (s':Shared):Prop:=∃ H',Inv X pins σ H' s'∧Q b H'
inductive qmO (X:Cx) (pins:List (Addr×Obj)) (σ:St) (Q:List V->Hp->Prop) (us:List Value) (s':Shared):Prop
 | mk (vs H':_) (h1:Inv X pins σ H' s') (h2:Vals vs us) (h3:Q vs H'):qmO X pins σ Q us s'
def AP (X:Cx) (pins:List (Addr×Obj)) (σ:St) (Q:List V->Hp->Prop) (us:List Value) (s':Shared):Prop:=qmO X pins σ Q us s'
def SP (X:Cx) (pins:List (Addr×Obj)) (D:qdA) (f:Flow) (s':Shared):Prop :=
 match f with
 | .next=>∃ σ' H',Inv X pins σ' H' s'∧D.nx σ' H'
 | .brk=>∃ σ' H',Inv X pins σ' H' s'∧D.bk σ' H'
 | .cont=>∃ σ' H',Inv X pins σ' H' s'∧D.ct σ' H'
 | .ret u=>∃ v σ' H',Inv X pins σ' H' s'∧RelV v u∧D.rt v H'
def PE (X:Cx) (e:Expr) (t:TE):Prop :=
 ∀ (pins:List (Addr×Obj)) (s:Shared) (σ:St) (H:Hp) (Q:VK),Inv X pins σ H s->t σ H Q->wpAny (model X.prog X.w) X.A (eval e X.env) (EP X pins σ Q) X.xe s
def PT (X:Cx) (e:Expr) (t:TT):Prop :=
 ∀ (pins:List (Addr×Obj)) (s:Shared) (σ:St) (H:Hp) (Q:Bool->Hp->Prop),Inv X pins σ H s->t σ H Q->wpAny (model X.prog X.w) X.A (isTrue e X.env (eval e X.env)) (TP X pins σ Q) X.xe s
def PW (X:Cx) (e:Expr) (t:TT):Prop :=
 ∀ (whole:Sem Value) (pins:List (Addr×Obj)) (s:Shared) (σ:St) (H:Hp) (Q:Bool->Hp->Prop),Inv X pins σ H s->t σ H Q->wpAny (model X.prog X.w) X.A (isTrue e X.env whole) (TP X pins σ Q) X.xe s
theorem PW.pt {X:Cx}{e:Expr}{t:TT} (h:PW X e t):PT X e t:=h _
def PA (X:Cx) (es:List Expr) (t:TA):Prop :=
 ∀ (pos:Pos) (pins:List (Addr×Obj)) (s:Shared) (σ:St) (H:Hp) (Q:List V->Hp->Prop),Inv X pins σ H s->t σ H Q->wpAny (model X.prog X.w) X.A (spliced (backTo pos (starEach es X.env))) (AP X pins σ Q) X.xe s
def PS (X:Cx) (st:Stmt) (t:TS):Prop :=
 ∀ (pins:List (Addr×Obj)) (s:Shared) (σ:St) (H:Hp) (D:qdA),Inv X pins σ H s->t D σ H->wpAny (model X.prog X.w) X.A (exec st X.env) (SP X pins D) X.xe s
def PSs (X:Cx) (st:List Stmt) (t:TS):Prop :=
 ∀ (pins:List (Addr×Obj)) (s:Shared) (σ:St) (H:Hp) (D:qdA),Inv X pins σ H s->t D σ H->wpAny (model X.prog X.w) X.A (execs st X.env) (SP X pins D) X.xe s
theorem thn {α:Type}{t:Sem α}{Q Q':α->Shared->Prop}{M:Model}{A:Around}{E:Value->Shared->Prop}{s:Shared} (h:wpAny M A t Q E s) (hQ:∀ a s,Q a s->Q' a s):wpAny M A t Q' E s:=wpAny_mono h hQ fun _ _ x=>x
section
variable {X:Cx}
inductive qiG (i:Nat) (σ:St) (H:Hp) (Q:VK):Prop
 | mk (v:_) (h1:σ[i]?=some (some v)) (h2:Q v H):qiG i σ H Q
def qks (i:Nat):TE:=fun σ H Q=>qiG i σ H Q
def tC (v:V):TE:=fun _ H Q=>Q v H
theorem qk4 {i:Nat}{x:Str}{pos:Pos} (hN:X.N[i]?=some x) (hv:Vis X.env.scope x) (hd:(x == ("__debug__":Str))=false:=by decide) (hcd:(x == ("__classdict__":Str))=false:=by decide):PE X (.Name x pos) (qks i):=by
 intro pins s σ H Q I h;obtain⟨v,e,h⟩:=h;obtain⟨m,hn,hl⟩:=I.loc;obtain⟨u,r,l⟩:=hl i x v hN e hv;have fin:EP X pins σ Q u s:=⟨v,H,I,r,h⟩
 rcases l with ⟨hk,hm⟩|⟨hk,c,hc,hcell⟩
 · exact wpAny_Name (wpAny_loadName_local I.ok.kind hk hn hm fin) hd
 · rcases hk with hk|hk
   · exact wpAny_Name (wpAny_loadName_cell I.ok.kind hk hc hcell fin) hd
   · exact wpAny_Name (wpAny_loadName_free I.ok.kind hk hc hcell fin hcd) hd
theorem qe {i j pos}:PE X (.Constant (.int i) j pos) (tC (.int i)):=fun _ _ _ H _ I h=>wpAny_Constant_int ⟨.int i,H,I.tok _,⟨_,rfl⟩,h⟩
theorem jq {b j pos}:PE X (.Constant (.bool b) j pos) (tC (.bl b)):=fun _ _ _ H _ I h=>Constant_bool ⟨.bl b,H,I,rfl,h⟩
theorem qbD {j pos}:PE X (.Constant .none j pos) (tC .non):=fun _ _ _ H _ I h=>Constant_none ⟨.non,H,I,rfl,h⟩
theorem qP {x j pos}:PE X (.Constant (.str x) j pos) (tC (.str x)):=fun _ _ _ H _ I h=>Calls.Constant_str ⟨.str x,H,I.tok _,⟨_,rfl⟩,h⟩
def Gl (X:Cx) (x:Str):Prop:=X.env.kindOf x=some .globalImplicit
theorem qaM {E:Value->Shared->Prop}{pins:List (Addr×Obj)}{s:Shared}{σ:St}{H:Hp}{x:Str}{u:Value}{pos:Pos}{Q:Value->Shared->Prop} (I:Inv X pins σ H s) (hg:Gl X x) (hm:X.mg x=some u) (h:Q u s)
   (hd:(x == ("__debug__":Str))=false:=by decide):wpAny (model X.prog X.w) X.A (eval (.Name x pos) X.env) Q E s :=
 Calls.Name_function_global I.ok.kind hg (Calls.loadGlobal_global (by rw[I.ok.glob];exact I.mod.glob.keeps I.bk) hm h) hd
theorem qaN {E:Value->Shared->Prop}{pins:List (Addr×Obj)}{s:Shared}{σ:St}{H:Hp}{x:Str}{u:Value}{pos:Pos}{Q:Value->Shared->Prop} (I:Inv X pins σ H s) (hg:Gl X x) (hm:X.mg x=none) (hv:bootBuiltins x=some u) (h:Q u s)
   (hn:x≠"__name__":=by decide) (hd:(x == ("__debug__":Str))=false:=by decide):wpAny (model X.prog X.w) X.A (eval (.Name x pos) X.env) Q E s:=by
 obtain⟨mb,h1,h2⟩:=I.mod.blt;exact Calls.Name_function_global I.ok.kind hg (Calls.loadGlobal_builtin (by rw[I.ok.glob];exact I.mod.glob.keeps I.bk) hm (by rw[I.ok.blt];exact h1.keeps I.bk) ((h2 x hn).trans hv) h) hd
theorem qS {x:Str}{v:V}{u:Value}{pos:Pos} (hg:Gl X x) (hm:X.mg x=some u) (r:RelV v u) (hd:(x == ("__debug__":Str))=false:=by decide):PE X (.Name x pos) (tC v) :=
 fun _ _ _ H _ I h=>qaM I hg hm ⟨v,H,I,r,h⟩ hd
theorem zO {x:Str}{v:V}{u:Value}{pos:Pos} (hg:Gl X x) (hm:X.mg x=none) (hv:bootBuiltins x=some u) (r:RelV v u) (hn:x≠"__name__":=by decide) (hd:(x == ("__debug__":Str))=false:=by decide):PE X (.Name x pos) (tC v) :=
 fun _ _ _ H _ I h=>qaN I hg hm hv ⟨v,H,I,r,h⟩ hn hd
variable {a b:Expr}{ta tb:TE}{pos:Pos}
inductive qmp (Q:(Bool->Hp->Prop)) (x:V) (H1:Hp):Prop
 | mk (c:_) (h1:x=.bl c) (h2:Q c H1):qmp Q x H1
def tB (t:TE):TT:=fun σ H Q=>t σ H fun x H1=>qmp Q x H1
theorem qX {e:Expr}{t:TE} (h:PE X e t) (he:∀ whole,isTrue e X.env whole=(do let v ← whole;standAt e.pos;holding [v] (truthy v)):=by intro _;rfl):PT X e (tB t):=by
 intro pins s σ H Q I hw;refine isTrue_plain (thn (h pins s σ H _ I hw) fun v s1 zz_=>?_) (he _);obtain⟨x,H1,I1,r1,q1⟩:=zz_;obtain⟨d,rfl,q⟩:=q1;cases r1;exact wpAny_truthy_bool ⟨H1,I1,q⟩
variable {tA tB':TT}{rest:List Expr}
def qmW (t u:TT):TT:=fun σ H Q=>t σ H fun c H1=>if c=true then u σ H1 Q else Q false H1
def tOr (t u:TT):TT:=fun σ H Q=>t σ H fun c H1=>if c=true then Q true H1 else u σ H1 Q
def qmS (t:TT):TT:=fun σ H Q=>t σ H fun c H1=>Q (!c) H1
theorem qaz (ha:PT X a tA):PW X (.BoolOp .And [a] pos) tA:=by
 intro wh pins s σ H Q I h;refine isTrue_and (thn (ha pins s σ H Q I h) fun c s1 e=>?_)
 cases c with
 | true=>exact isTrue_and_nil e
 | false=>exact e
theorem jj (ha:PT X a tA):PW X (.BoolOp .Or [a] pos) tA:=by
 intro wh pins s σ H Q I h;refine isTrue_or (thn (ha pins s σ H Q I h) fun c s1 e=>?_)
 cases c with
 | false=>exact isTrue_or_nil e
 | true=>exact e
theorem qc0 (ha:PT X a tA) (hb:PW X (.BoolOp .And (b::rest) pos) tB'):PW X (.BoolOp .And (a::b::rest) pos) (qmW tA tB'):=by
 intro wh pins s σ H Q I h;refine isTrue_and (thn (ha pins s σ H _ I h) fun c s1 zz_=>?_);obtain⟨H1,I1,q1⟩:=zz_
 cases c with
 | true=>exact hb wh pins s1 σ H1 Q I1 q1
 | false=>exact⟨H1,I1,q1⟩
theorem qa6 (ha:PT X a tA) (hb:PW X (.BoolOp .Or (b::rest) pos) tB'):PW X (.BoolOp .Or (a::b::rest) pos) (tOr tA tB'):=by
 intro wh pins s σ H Q I h;refine isTrue_or (thn (ha pins s σ H _ I h) fun c s1 zz_=>?_);obtain⟨H1,I1,q1⟩:=zz_
 cases c with
 | true=>exact⟨H1,I1,q1⟩
 | false=>exact hb wh pins s1 σ H1 Q I1 q1
theorem q8 (ha:PT X a tA):PT X (.UnaryOp .Not a pos) (qmS tA):=by
 intro pins s σ H Q I h;exact isTrue_not (ha pins s σ H (fun c H1=>Q (!c) H1) I h)
def qlS (ta tb:TE):TE:=fun σ H Q=>ta σ H fun x H1=>∃ c,x=.bl c∧if c=true then tb σ H1 Q else Q (.bl false) H1
def qmR (ta tb:TE):TE:=fun σ H Q=>ta σ H fun x H1=>∃ c,x=.bl c∧if c=true then Q (.bl true) H1 else tb σ H1 Q
inductive qfF (Q:VK) (x:V) (H1:Hp):Prop
 | mk (c:_) (h1:x=.bl c) (h2:Q (.bl (!c)) H1):qfF Q x H1
def qlM (ta:TE):TE:=fun σ H Q=>ta σ H fun x H1=>qfF Q x H1
theorem JN {op}{t:TE} (h:PE X a t):PE X (.BoolOp op [a] pos) t:=fun pins s σ H Q I hw=>BoolOp_one (h pins s σ H Q I hw)
theorem jY (ha:PE X a ta) (hb:PE X (.BoolOp .And (b::rest) pos) tb):PE X (.BoolOp .And (a::b::rest) pos) (qlS ta tb):=by
 intro pins s σ H Q I h;refine BoolOp_and (thn (ha pins s σ H _ I h) fun v s1 zz_=>?_);obtain⟨x,H1,I1,r1,q1⟩:=zz_;obtain⟨c,rfl,q1⟩:=q1;cases r1;refine wpAny_truthy_bool ?_
 cases c with
 | true=>exact hb pins s1 σ H1 Q I1 q1
 | false=>exact⟨.bl false,H1,I1,rfl,q1⟩
theorem ql0 (ha:PE X a ta) (hb:PE X (.BoolOp .Or (b::rest) pos) tb):PE X (.BoolOp .Or (a::b::rest) pos) (qmR ta tb):=by
 intro pins s σ H Q I h;refine BoolOp_or (thn (ha pins s σ H _ I h) fun v s1 zz_=>?_);obtain⟨x,H1,I1,r1,q1⟩:=zz_;obtain⟨c,rfl,q1⟩:=q1;cases r1;refine wpAny_truthy_bool ?_
 cases c with
 | false=>exact hb pins s1 σ H1 Q I1 q1
 | true=>exact⟨.bl true,H1,I1,rfl,q1⟩
theorem qi3 (ha:PE X a ta):PE X (.UnaryOp .Not a pos) (qlM ta):=by
 intro pins s σ H Q I h;refine UnaryOp_ (thn (ha pins s σ H _ I h) fun v s1 zz_=>?_);obtain⟨x,H1,I1,r1,q1⟩:=zz_;obtain⟨c,rfl,q1⟩:=q1;cases r1;exact not_of (wpAny_truthy_bool ⟨.bl (!c),H1,I1,rfl,q1⟩)
def tIf (t:TT) (ta tb:TE):TE:=fun σ H Q=>t σ H fun c H1=>if c=true then ta σ H1 Q else tb σ H1 Q
theorem qhL {c:Expr} (hc:PT X c tA) (ha:PE X a ta) (hb:PE X b tb):PE X (.IfExp c a b pos) (tIf tA ta tb):=by
 intro pins s σ H Q I h;refine wpAny_IfExp (thn (hc pins s σ H _ I h) fun d s1 zz_=>?_);obtain⟨H1,I1,q1⟩:=zz_
 cases d with
 | true=>exact ha pins s1 σ H1 Q I1 q1
 | false=>exact hb pins s1 σ H1 Q I1 q1
end
def SqL (K:Frag) (H:Hp) (a:Addr) (xs:List V):Prop :=
 Rd H a (.lst xs) ∨
   ∃ (o:Obj) (its:Array Value) (n:Nat),K.lookup a=some o∧o.cls=.type "list"∧o.dict=none∧o.data=.seq its n∧its.size≤sizeLine∧Vals xs its.toList
def SqT (K:Frag) (H:Hp) (a:Addr) (xs:List V):Prop :=
 Rd H a (.tup xs) ∨
   ∃ (o:Obj) (its:Array Value) (n:Nat),K.lookup a=some o∧o.cls=.type "tuple"∧o.data=.seq its n∧its.size≤sizeLine∧Vals xs its.toList
def qnd:Value->Option V
 | .none=>some .non
 | .bool b=>some (.bl b)
 | .int i _=>some (.int i)
 | .str x _=>some (.str x)
 | .bytes b _=>some (.byt b)
 | .float b _=>some (.flt b)
 | .ref a=>some (.ref a)
 | .type n=>some (.ty n)
 | _=>none
theorem RelV.abs {x:V}{u:Value} (r:RelV x u):qnd u=some x:=by
 cases x with
 | non=>cases r;rfl
 | bl _=>cases r;rfl
 | int _=>obtain⟨t,rfl⟩:=r;rfl
 | str _=>obtain⟨t,rfl⟩:=r;rfl
 | byt _=>obtain⟨t,rfl⟩:=r;rfl
 | flt _=>obtain⟨t,rfl⟩:=r;rfl
 | ref _=>cases r;rfl
 | ty _=>cases r;rfl
theorem RelV.inj {x y:V}{u:Value} (r:RelV x u) (q:RelV y u):x=y:=Option.some.inj (r.abs.symm.trans q.abs)
theorem Vals.inj:∀ {xs ys:List V}{us:List Value},Vals xs us->Vals ys us->xs=ys
 | _,_,_,.nil,.nil=>rfl
 | _,_,_,.cons r t,.cons r' t'=>by rw[r.inj r',Vals.inj t t']
section
variable {X:Cx}{pins:List (Addr×Obj)}{σ:St}{H:Hp}{s:Shared}{a:Addr}{xs ys:List V}
theorem SqL.of {K:Frag} (h:H a=some (.lst xs)):SqL K H a xs:=.inl (.inl h)
theorem SqT.of {K:Frag} (h:H a=some (.tup xs)):SqT K H a xs:=.inl (.inl h)
theorem Inv.list (I:Inv X pins σ H s) (h:SqL X.K H a xs):∃ its:List Value,Vals xs its∧PlainL s.heap a its.toArray∧xs.length≤sizeLine:=by
 rcases h with h|⟨o,its,n,hk,hc,hd,hs,hz,r⟩
 · obtain⟨z,its,n,r,e⟩:=h.ok I.hok;exact⟨its,r,⟨_,n,e,rfl,rfl,rfl⟩,z⟩
 · refine⟨its.toList,r,⟨o,n,I.kIn a o hk,hc,hd,by simpa using hs⟩,?_⟩;have e:=r.length;simp only[Array.length_toList]at e;omega
theorem Inv.tuple (I:Inv X pins σ H s) (h:SqT X.K H a xs):∃ its:List Value,Vals xs its∧IsTup s.heap a its.toArray∧xs.length≤sizeLine:=by
 rcases h with h|⟨o,its,n,hk,hc,hs,hz,r⟩
 · obtain⟨z,its,r,p⟩:=h.ok I.hok;exact⟨its,r,p,z⟩
 · refine⟨its.toList,r,⟨o,I.kIn a o hk,hc,n,by simpa using hs⟩,?_⟩;have e:=r.length;simp only[Array.length_toList]at e;omega
theorem Inv.list_inj (I:Inv X pins σ H s) (h:SqL X.K H a xs) (h':SqL X.K H a ys):xs=ys:=by
 obtain⟨its,r,⟨o,n,e,_,_,d⟩,_⟩:=I.list h;obtain⟨its',r',⟨o',n',e',_,_,d'⟩,_⟩:=I.list h';rw[e]at e';cases e';rw[d]at d';injection d' with d1 _
 have:its=its':=by simpa using congrArg Array.toList d1
 subst this;exact r.inj r'
theorem Inv.tuple_inj (I:Inv X pins σ H s) (h:SqT X.K H a xs) (h':SqT X.K H a ys):xs=ys:=by
 obtain⟨its,r,⟨o,e,_,n,d⟩,_⟩:=I.tuple h;obtain⟨its',r',⟨o',e',_,n',d'⟩,_⟩:=I.tuple h';rw[e]at e';cases e';rw[d]at d';injection d' with d1 _
 have:its=its':=by simpa using congrArg Array.toList d1
 subst this;exact r.inj r'
end
abbrev Cx.wish (X:Cx) (E:Value->Shared->Prop):Cx:={ X with xe:=E }
abbrev Cx.nox (X:Cx):Cx:=X.wish fun _ _=>False
theorem Cx.Ok.wish {X:Cx} (ok:X.Ok) (E:Value->Shared->Prop):(X.wish E).Ok :=
 ⟨ok.mod,ok.kind,ok.glob,ok.blt,ok.above,ok.inj,ok.has,ok.cab,ok.hd,ok.frames,ok.stk,ok.exf,ok.bs,ok.bsz,ok.noex,ok.exfs,ok.funs,ok.frf⟩
theorem Cx.Ok.unwish {X:Cx}{E:Value->Shared->Prop} (ok:(X.wish E).Ok):X.Ok :=
 ⟨ok.mod,ok.kind,ok.glob,ok.blt,ok.above,ok.inj,ok.has,ok.cab,ok.hd,ok.frames,ok.stk,ok.exf,ok.bs,ok.bsz,ok.noex,ok.exfs,ok.funs,ok.frf⟩
section
variable {X:Cx}{pins:List (Addr×Obj)}{σ:St}{H:Hp}{s:Shared}{E:Value->Shared->Prop}
theorem Inv.wish (I:Inv X pins σ H s) (E:Value->Shared->Prop):Inv (X.wish E) pins σ H s:=⟨I.ok.wish E,I.os,I.bare,I.base,I.loc,I.cell,I.free,I.freeC,I.pin,I.hok,I.len⟩
theorem Inv.unwish (I:Inv (X.wish E) pins σ H s):Inv X pins σ H s:=⟨I.ok.unwish,I.os,I.bare,I.base,I.loc,I.cell,I.free,I.freeC,I.pin,I.hok,I.len⟩
theorem SP.unwish {D:qdA}{f:Flow}{s':Shared} (h:SP (X.wish E) pins D f s'):SP X pins D f s':=by
 cases f with
 | next=>obtain⟨σ',H',I,q⟩:=h;exact⟨σ',H',I.unwish,q⟩
 | brk=>obtain⟨σ',H',I,q⟩:=h;exact⟨σ',H',I.unwish,q⟩
 | cont=>obtain⟨σ',H',I,q⟩:=h;exact⟨σ',H',I.unwish,q⟩
 | ret u=>obtain⟨v,σ',H',I,r,q⟩:=h;exact⟨v,σ',H',I.unwish,r,q⟩
theorem PSs.nox {st:List Stmt}{t:TS} (h:PSs X.nox st t):PSs X st t:=fun pins s σ H D I hw =>
 wpAny_mono (h pins s σ H D (I.wish _) hw) (fun _ _ q=>q.unwish) fun _ _ z=>False.elim z
end
section
variable {X:Cx}{st:Stmt}{rest:List Stmt}{t u:TS}{e:Expr}{te:TE}{pos:Pos}
def qJ:TS:=fun D σ H=>D.nx σ H
def qlJ (t u:TS):TS:=fun D σ H=>t { D with nx:=u D } σ H
theorem qu:PSs X [] qJ:=fun _ _ σ H _ I h=>wpAny_execs_nil ⟨σ,H,I,h⟩
theorem qc (h1:PS X st t) (h2:PSs X rest u):PSs X (st::rest) (qlJ t u):=by
 intro pins s σ H D I h;refine wpAny_execs_cons (thn (h1 pins s σ H { D with nx:=u D } I h) fun f s1 q=>?_)
 cases f with
 | next =>
   obtain⟨σ',H',I',q⟩:=q;exact h2 pins s1 σ' H' D I' q
 | ret v=>exact q
 | brk=>exact q
 | cont=>exact q
theorem qf (h1:PS X st t):PSs X [st] t:=by
 intro pins s σ H D I h;refine wpAny_execs_cons (thn (h1 pins s σ H D I h) fun f s1 q=>?_)
 cases f with
 | next=>exact wpAny_execs_nil q
 | ret v=>exact q
 | brk=>exact q
 | cont=>exact q
theorem Inv.quiet {pins:List (Addr×Obj)}{σ:St}{H:Hp}{s:Shared} (I:Inv X pins σ H s):interactive X.env=false:=by simp[interactive,I.ok.kind]
def qlO (te:TE):TS:=fun D σ H=>te σ H fun _ H1=>D.nx σ H1
theorem qO (he:PE X e te) (hs:swapsWith e none pos.line X.env=pure false:=by rfl):PS X (.Expr e pos) (qlO te):=by
 intro pins s σ H D I h;exact wpAny_Expr_any (thn (he pins s σ H _ I h) fun v s1 ⟨x,H1,I1,r1,q1⟩=>⟨σ,H1,I1,q1⟩) I.quiet hs
def qhv (te:TE):TS:=fun D σ H=>te σ H D.rt
theorem qq (he:PE X e te):PS X (.Return (some e) pos) (qhv te):=by
 intro pins s σ H D I h;exact wpAny_Return_some (thn (he pins s σ H _ I h) fun v s1 ⟨x,H1,I1,r1,q1⟩=>⟨x,σ,H1,I1,r1,q1⟩)
def qlK:TS:=fun D _ H=>D.rt .non H
theorem qjP:PS X (.Return none pos) qlK:=fun _ _ σ H _ I h=>wpAny_Return_none ⟨.non,σ,H,I,rfl,h⟩
def qkC (c:TT) (t u:TS):TS:=fun D σ H=>c σ H fun b H1=>if b=true then t D σ H1 else u D σ H1
theorem qG {c:Expr}{a b:List Stmt}{tc:TT} (hc:PT X c tc) (ha:PSs X a t) (hb:PSs X b u):PS X (.If c a b pos) (qkC tc t u):=by
 intro pins s σ H D I h;refine wpAny_If (thn (hc pins s σ H _ I h) fun d s1 zz_=>?_);obtain⟨H1,I1,q1⟩:=zz_
 cases d with
 | true=>exact ha pins s1 σ H1 D I1 q1
 | false=>exact hb pins s1 σ H1 D I1 q1
def qkA:TS:=fun _ _ _=>False
theorem qN:PS X st qkA:=fun _ _ _ _ _ _ h=>h.elim
end
abbrev TG:=V->St->Hp->(St->Hp->Prop)->Prop
abbrev TGs:=List V->St->Hp->(St->Hp->Prop)->Prop
def PG (X:Cx) (target:Expr) (t:TG):Prop :=
 ∀ (pins:List (Addr×Obj)) (s:Shared) (σ:St) (H:Hp) (v:V) (u:Value) (Q:St->Hp->Prop),Inv X pins σ H s->RelV v u->t v σ H Q ->
   wpAny (model X.prog X.w) X.A (assign target X.env u) (fun _ s'=>∃ σ' H',Inv X pins σ' H' s'∧Q σ' H') X.xe s
def PGs (X:Cx) (ts:List Expr) (t:TGs):Prop :=
 ∀ (pins:List (Addr×Obj)) (s:Shared) (σ:St) (H:Hp) (vs:List V) (us:List Value) (Q:St->Hp->Prop),Inv X pins σ H s->Vals vs us->t vs σ H Q ->
   wpAny (model X.prog X.w) X.A (assignInOrder ((assignEach ts X.env).map (·.2)) us) (fun _ s'=>∃ σ' H',Inv X pins σ' H' s'∧Q σ' H') X.xe s
abbrev qmm:=V->V->V->Hp->(Hp->Prop)->Prop
def qmK (X:Cx) (t:qmm):Prop :=
 ∀ (pins:List (Addr×Obj)) (s:Shared) (σ:St) (H:Hp) (o i v:V) (ov iv u:Value) (Q:Hp->Prop),Inv X pins σ H s->RelV o ov->RelV i iv->RelV v u->t o i v H Q ->
   wpAny (model X.prog X.w) X.A (setItem ov iv u) (fun _ s'=>∃ H',Inv X pins σ H' s'∧Q H') X.xe s
abbrev TIp:=V->V->Hp->VK->Prop
def PIp (X:Cx) (op:Operator) (t:TIp):Prop :=
 ∀ (pins:List (Addr×Obj)) (s:Shared) (σ:St) (H:Hp) (x y:V) (v u:Value) (Q:VK),Inv X pins σ H s->RelV x v->RelV y u->t x y H Q ->
   wpAny (model X.prog X.w) X.A (inplaceOp op v u) (EP X pins σ Q) X.xe s
section
variable {X:Cx}{pos:Pos}
def qim (i:Nat):TG:=fun v σ H Q=>Q (σ.set i (some v)) H
theorem qp {i:Nat}{x:Str} (hN:X.N.Nodup) (hi:X.N[i]?=some x) (hx:Loc X.env.scope x) (hf:X.fn x=true∨X.env.scope.names.lookup x=some .local:=by first|exact .inl rfl|exact .inr rfl|assumption):PG X (.Name x pos) (qim i):=by
 intro pins s σ H v u Q I r h;exact wpAny_assign_Name (J3 I hN hi hx r (fun s' I'=>⟨_,H,I',h⟩) hf)
def qm9:TGs:=fun vs σ H Q=>vs=[]∧Q σ H
inductive qgS (t:TG) (u:TGs) (vs:List V) (σ:St) (H:Hp) (Q:(St->Hp->Prop)):Prop
 | mk (v r:_) (h1:vs=v::r) (h2:t v σ H fun σ' H'=>u r σ' H' Q):qgS t u vs σ H Q
def qmg (t:TG) (u:TGs):TGs:=fun vs σ H Q=>qgS t u vs σ H Q
theorem zx:PGs X [] qm9:=by
 intro pins s σ H vs us Q I r h;obtain⟨e,h⟩:=h;subst e;cases r;exact assignInOrder_nil ⟨σ,H,I,h⟩
theorem qw {e:Expr}{es:List Expr}{t:TG}{u:TGs} (h1:PG X e t) (h2:PGs X es u)
   (hs:(assignEach (e::es) X.env).map (·.2)=assign e X.env::(assignEach es X.env).map (·.2):=by rfl):PGs X (e::es) (qmg t u):=by
 intro pins s σ H vs us Q I r h;obtain⟨v,vr,e1,h⟩:=h;subst e1
 cases r with
 | cons r rr =>
   rw[hs];refine assignInOrder_cons (thn (h1 pins s σ H _ _ _ I r h) fun _ s1 zz_=>?_);obtain⟨σ1,H1,I1,q1⟩:=zz_;exact h2 pins s1 σ1 H1 _ _ Q I1 rr q1
inductive qjd (K:Frag) (n:Nat) (t:TGs) (v:V) (σ:St) (H:Hp) (Q:(St->Hp->Prop)):Prop
 | mk (a xs:_) (h1:v=.ref a) (h2:SqT K H a xs) (h3:xs.length=n) (h4:t xs σ H Q):qjd K n t v σ H Q
def qku (K:Frag) (n:Nat) (t:TGs):TG:=fun v σ H Q=>qjd K n t v σ H Q
theorem Qn {es:List Expr}{k:Nat}{t:TGs}{n:Nat} (hc:X.calm=true) (h:PGs X es t)
   (hn:(assignEach es X.env).length=n:=by rfl) (hst:(assignEach es X.env).findIdx? (·.1)=none:=by rfl):PG X (.Tuple es k pos) (qku X.K n t):=by
 intro pins s σ H v u Q I r hw;obtain⟨a,xs,e1,hq,hl,hw⟩:=hw;subst e1;cases r;obtain⟨its,rv,ht,hz⟩:=I.tuple hq;refine assign_Tuple_tuple (I.ok.hd hc) ht (by simp[hn,← hl,rv.length]) hst fun h' hx=>?_;have I1:Inv X pins σ H { s with heap:=h' }:=I.kept (t':=s.toks) fun b o e=>hx b o (Nat.ne_of_lt (Heap.lt_size e)) e;exact h pins _ σ H xs _ Q I1 (by simpa using rv) hw
def qm8 (to ti:TE) (t:qmm):TG:=fun v σ H Q=>to σ H fun o H1=>ti σ H1 fun i H2=>t o i v H2 fun H3=>Q σ H3
theorem qbC {o i:Expr}{to ti:TE}{t:qmm} (ho:PE X o to) (hi:PE X i ti) (hs:qmK X t)
   (ha:∀ v,assign (.Subscript o i pos) X.env v=(do
     let ov ← holding [v] (eval o X.env);let iv ← holding [v,ov] (eval i X.env)
     standAt pos
     holding [v,ov,iv] (setItem ov iv v)
     release [v,ov,iv] []):=by intro _;rfl):PG X (.Subscript o i pos) (qm8 to ti t):=by
 intro pins s σ H v u Q I r h;rw[ha];refine wpAny_bind (wpAny_holding (thn (ho pins s σ H _ I h) fun ov s1 zz_=>?_));obtain⟨x,H1,I1,r1,q1⟩:=zz_;refine wpAny_bind (wpAny_holding (thn (hi pins s1 σ H1 _ I1 q1) fun iv s2 zz_=>?_));obtain⟨y,H2,I2,r2,q2⟩:=zz_;refine wpAny_bind (wpAny_standAt (wpAny_bind (wpAny_holding (thn (hs pins s2 σ H2 x y v ov iv u _ I2 r1 r2 r q2) fun _ s3 zz_=>?_))));obtain⟨H3,I3,q3⟩:=zz_;exact wpAny_release ⟨σ,H3,I3,q3⟩
def qlG (te:TE) (g:TG):TS:=fun D σ H=>te σ H fun x H1=>g x σ H1 D.nx
theorem ZK {tg e:Expr}{te:TE}{g:TG} (he:PE X e te) (hg:PG X tg g) (hs:swapsWithSole [tg] e pos.line X.env=pure false:=by rfl) (hw:swappedStores [tg] e X.env=pure none:=by rfl)
   (h1:(assignEach [tg] X.env).map (·.2)=[assign tg X.env]:=by rfl):PS X (.Assign [tg] e pos) (qlG te g):=by
 intro pins s σ H D I h;refine wpAny_Assign_stores (thn (he pins s σ H _ I h) fun v s1 zz_=>?_) hs hw;obtain⟨x,H1,I1,r1,q1⟩:=zz_;rw[h1];exact thn (hg pins s1 σ H1 x v _ I1 r1 q1) fun _ s2 q=>q
theorem qz {i:Nat}{x:Str}{e:Expr}{te:TE}{pos':Pos} (hN:X.N.Nodup) (hi:X.N[i]?=some x) (hx:Loc X.env.scope x) (he:PE X e te) (hs:swapsWith e (some (.Name x pos')) pos.line X.env=pure false:=by rfl) (hf:X.fn x=true∨X.env.scope.names.lookup x=some .local:=by first|exact .inl rfl|exact .inr rfl|assumption) :
   PS X (.Assign [.Name x pos'] e pos) (qlG te (qim i)):=by
 intro pins s σ H D I h;refine wpAny_Assign_Name (thn (he pins s σ H _ I h) fun v s1 zz_=>?_) hs;obtain⟨y,H1,I1,r1,q1⟩:=zz_;exact J3 I1 hN hi hx r1 (fun s2 I2=>⟨_,H1,I2,q1⟩) hf
def qmV (i:Nat) (te:TE) (ti:TIp):TS:=fun D σ H=>∃ x,σ[i]?=some (some x)∧te σ H fun y H1=>ti x y H1 fun z H2=>D.nx (σ.set i (some z)) H2
theorem qi0 {i:Nat}{x:Str}{e:Expr}{te:TE}{op:Operator}{ti:TIp}{pos':Pos} (hN:X.N.Nodup) (hi:X.N[i]?=some x) (hx:Loc X.env.scope x) (he:PE X e te) (ho:PIp X op ti) (hf:X.fn x=true∨X.env.scope.names.lookup x=some .local:=by first|exact .inl rfl|exact .inr rfl|assumption) :
   PS X (.AugAssign (.Name x pos') op e pos) (qmV i te ti):=by
 intro pins s σ H D I h;obtain⟨v,e1,h⟩:=h;obtain⟨m,hn,hl⟩:=I.loc;have vis:Vis X.env.scope x:=by rcases hx with k|k;exact .inl k;exact .inr (.inl k)
 obtain⟨u,r,l⟩:=hl i x v hi e1 vis;refine wpAny_AugAssign_Name ?_
 have go:wpAny (model X.prog X.w) X.A (eval e X.env) (fun w s₂=>wpAny (model X.prog X.w) X.A (inplaceOp op u w) (fun r s₃=>wpAny (model X.prog X.w) X.A (storeName X.env x r) (fun _=>SP X pins D .next) X.xe s₃) X.xe s₂) X.xe s:=by
   refine thn (he pins s σ H _ I h) fun w s1 zz_=>?_;obtain⟨y,H1,I1,r1,q1⟩:=zz_;refine thn (ho pins s1 σ H1 v y u w _ I1 r r1 q1) fun z s2 zz_=>?_;obtain⟨zv,H2,I2,r2,q2⟩:=zz_;exact J3 I2 hN hi hx r2 (fun s3 I3=>⟨_,H2,I3,q2⟩) hf
 rcases l with ⟨hk,hm⟩|⟨hk,c,hc,hcell⟩
 · exact wpAny_loadName_local I.ok.kind hk hn hm go
 · rcases hk with hk|hk
   · exact wpAny_loadName_cell I.ok.kind hk hc hcell go
   · rcases hx with k|k
     · have:X.env.scope.names.lookup x=some .free:=hk
       rw[k]at this;cases this
     · have:X.env.scope.names.lookup x=some .free:=hk
       rw[k]at this;cases this
def ipI (f:Int->Int->Int):TIp:=fun x y H Q=>∃ i j,x=.int i∧y=.int j∧Q (.int (f i j)) H
theorem qja:PIp X .Add (ipI fun i j=>i+j):=by
 intro pins s σ H x y v u Q I r1 r2 h;obtain⟨i,j,e1,e2,q⟩:=h;subst e1;subst e2;obtain⟨t,rfl⟩:=r1;obtain⟨t',rfl⟩:=r2;exact iadd_int ⟨.int _,H,I.tok _,⟨_,rfl⟩,q⟩
def qfB (c:TT) (tb:TS):TS:=fun D σ H=>∃ W:Nat->St->Hp->Prop,(∃ m,W m σ H)∧∀ m σ H,W m σ H ->
 c σ H fun b H1=>if b=true then ∃ N:St->Hp->Prop,(∀ σ' H',N σ' H'->∃ m',m' < m∧W m' σ' H')∧tb { D with nx:=N,ct:=N,bk:=D.nx } σ H1 else D.nx σ H1
theorem qey {c:Expr}{body:List Stmt}{tc:TT}{tb:TS} (hp:PassesOwn (model X.prog X.w) X.A X.env X.xe) (hc:PT X c tc) (hb:PSs X body tb):PS X (.While c body [] pos) (qfB tc tb):=by
 intro pins s σ H D I h;obtain⟨W,⟨m0,w0⟩,turn⟩:=h;refine wpAny_While (codeAny_whileLoop (fun n s'=>∃ σ' H',Inv X pins σ' H' s'∧W n σ' H') ?_ m0 ⟨σ,H,I,w0⟩);rintro n s1 ⟨σ1,H1,I1,w1⟩;refine wpAny_passesOwn hp (thn (hc pins s1 σ1 H1 _ I1 (turn n σ1 H1 w1)) fun b s2 zz_=>?_);obtain⟨H2,I2,q2⟩:=zz_
 cases b with
 | true =>
   obtain⟨N,hN,q2⟩:=q2;rw[if_pos rfl];refine wpAny_passesOwn hp (thn (hb pins s2 σ1 H2 _ I2 q2) fun f s3 q3=>?_)
   cases f with
   | next =>
     obtain⟨σ3,H3,I3,n3⟩:=q3;obtain⟨m',hm,w3⟩:=hN σ3 H3 n3;exact⟨m',hm,σ3,H3,I3,w3⟩
   | cont =>
     obtain⟨σ3,H3,I3,n3⟩:=q3;obtain⟨m',hm,w3⟩:=hN σ3 H3 n3;exact⟨m',hm,σ3,H3,I3,w3⟩
   | brk=>exact q3
   | ret v=>exact q3
 | false =>
   rw[if_neg Bool.false_ne_true];exact wpAny_execs_nil ⟨σ1,H2,I2,q2⟩
end
structure It where
 go:Nat->Hp->Prop
 yld:Nat->Hp->V->Hp->Prop
 stop:Nat->Hp->Prop
def qeW (X:Cx) (pins:List (Addr×Obj)) (H:Hp) (b:Addr):Prop :=
 H b=none∧b≠X.env.locals∧b∉X.fs∧(b∈X.ex∨X.s₀.heap.objs.size≤b)∧(∀ x c,X.env.cells.lookup x=some c->c≠b)∧∀ p∈X.pn++pins,p.1≠b
theorem Inv.fpOk {X:Cx}{pins:List (Addr×Obj)}{σ:St}{H H':Hp}{s:Shared}{b:Addr} (I:Inv X pins σ H s) (hb:s.heap.objs.size≤b) (hn:H' b=none):qeW X pins H' b:=by
 refine⟨hn,Nat.ne_of_gt (Nat.lt_of_lt_of_le I.lt hb),I.nofs hb,.inr (Nat.le_trans I.sz hb),fun x c e z=>?_,fun p hp z=>?_⟩
 · obtain⟨v,q⟩:=I.cell x c e;exact absurd (Nat.lt_of_lt_of_le q.lt (by rw[z];exact hb)) (Nat.lt_irrefl _)
 · exact absurd (Nat.lt_of_lt_of_le (Heap.lt_size (I.pin p hp).1) (by rw[z];exact hb)) (Nat.lt_irrefl _)
structure qiy (Cm:Cx->Prop) (P:Program) (w:World) (K:Frag) (tg:Expr) (J:It) (fp:List Addr) (it:Addr) (tn:Nat->Heap->Prop):Prop where
 mem:it∈fp
 obj:∀ i h,tn i h->∀ b∈fp,∃ o,h.get? b=some o∧∀ v,o.data≠.cell v
 keep:∀ i h h',tn i h->(∀ b∈fp,∀ o,h.get? b=some o->h'.get? b=some o)->tn i h'
 item:∀ (X:Cx),X.prog=P->X.w=w->X.K=K->Cm X->∀ (i:Nat) (pins:List (Addr×Obj)) (s:Shared) (σ:St) (H:Hp) (E:Value->Shared->Prop),Inv X pins σ H s->(∀ b∈fp,qeW X pins H b)->tn i s.heap->J.go i H ->
   wpAny (model P w) X.A (pyNext (.ref it)) (fun r s1=>∃ u,r=some u ∧
     wpAny (model P w) X.A (letOwnedTupleGo tg (.ref it) u) (fun _ s2=>∃ x H',Inv X pins σ H' s2∧RelV x u∧J.yld i H x H'∧tn (i+1) s2.heap∧∀ b∈fp,H' b=none) E s1) E s
 done:∀ (X:Cx),X.prog=P->X.w=w->X.K=K->Cm X->∀ (i:Nat) (pins:List (Addr×Obj)) (s:Shared) (σ:St) (H:Hp) (E:Value->Shared->Prop),Inv X pins σ H s->(∀ b∈fp,qeW X pins H b)->tn i s.heap->J.stop i H ->
   wpAny (model P w) X.A (pyNext (.ref it)) (fun r s1=>r=none∧Inv X pins σ H s1) E s
 self:∀ (A:Around) (i:Nat) (s:Shared) (Q:Value->Shared->Prop) (E:Value->Shared->Prop),tn i s.heap->Q (.ref it) s->wpAny (model P w) A (pyIter (.ref it)) Q E s
abbrev qiz (P:Program) (w:World) (K:Frag) (tg:Expr) (J:It) (fp:List Addr) (it:Addr) (tn:Nat->Heap->Prop):Prop:=qiy (fun X=>X.calm=true) P w K tg J fp it tn
abbrev TI:=St->Hp->(It->Hp->Prop)->Prop
def qmL (Cm:Cx->Prop) (X:Cx) (pins:List (Addr×Obj)) (σ:St) (tg:Expr) (R:It->Hp->Prop) (itv:Value) (s2:Shared):Prop :=
 ∃ (it:Addr) (fp:List Addr) (tn:Nat->Heap->Prop) (J:It) (H':Hp),itv=.ref it∧Inv X pins σ H' s2∧qiy Cm X.prog X.w X.K tg J fp it tn∧tn 0 s2.heap∧(∀ b∈fp,qeW X pins H' b)∧R J H'
abbrev PIE (X:Cx):=qmL (fun X=>X.calm=true) X
def PIC (Cm:Cx->Prop) (X:Cx) (tg iter:Expr) (wi:TI):Prop :=
 ∀ (pins:List (Addr×Obj)) (s:Shared) (σ:St) (H:Hp) (R:It->Hp->Prop),Inv X pins σ H s->wi σ H R ->
   wpAny (model X.prog X.w) X.A (eval iter X.env) (fun v s1=>wpAny (model X.prog X.w) X.A (pyIter v) (qmL Cm X pins σ tg R) X.xe s1) X.xe s
abbrev PI (X:Cx):=PIC (fun X=>X.calm=true) X
theorem qgR {M:Model}{A:Around}{E:Value->Shared->Prop}{s:Shared}{tg:Expr}{it:Addr}{u:Value}{o:Obj}{n:String}{vs:Array Value}{Q:Unit->Shared->Prop} (ho:s.heap.get? it=some o) (hc:o.cls=.type n) (hd:o.data=.fields vs)
   (hn:["enumerate","zip","dict_itemiterator","dict_reverseitemiterator","odict_iterator","itertools.zip_longest","itertools.pairwise"].contains n=false) (hQ:Q () s):wpAny M A (letOwnedTupleGo tg (.ref it) u) Q E s:=by
 unfold letOwnedTupleGo;cases tg<;>first
   | exact wpAny_pure hQ
   | (cases u<;>first
       | exact wpAny_pure hQ
       | (refine wpAny_bind (wpAny_load ho ?_)
          rw[hc,hd];show wpAny M A (if (["enumerate","zip","dict_itemiterator","dict_reverseitemiterator","odict_iterator","itertools.zip_longest","itertools.pairwise"].contains n && vs[0]? == some (rawInt _))=true then _ else _) Q E s;rw[if_neg (by intro h;rw[hn,Bool.false_and]at h;cases h)]
          exact wpAny_pure hQ))
def Itl (K:Frag) (a:Addr):It :=
 ⟨fun i H=>∃ xs x,SqL K H a xs∧xs[i]?=some x,fun i H x H'=>H'=H∧∀ xs,SqL K H a xs->xs[i]?=some x,fun i H=>∃ xs,SqL K H a xs∧xs.length≤i⟩
def Itt (K:Frag) (a:Addr):It :=
 ⟨fun i H=>∃ xs x,SqT K H a xs∧xs[i]?=some x,fun i H x H'=>H'=H∧∀ xs,SqT K H a xs->xs[i]?=some x,fun i H=>∃ xs,SqT K H a xs∧xs.length≤i⟩
def Itr (lo:Int) (n:Nat):It:=⟨fun i _=>i < n,fun i H x H'=>H'=H∧x=.int (lo+i),fun i _=>n≤i⟩
theorem qfw {P:Program}{w:World}{K:Frag}{tg:Expr} (a it:Addr):qiz P w K tg (Itl K a) [it] it (fun i h=>h.IsListIter it a i) where
 mem:=by simp
 obj:=fun i h st b hb=>by
   have e:b=it:=by simpa using hb
   subst e;obtain⟨o,e,c,d⟩:=st;exact⟨o,e,fun v z=>by rw[d]at z;cases z⟩
 keep:=fun i h h' st k=>st.at fun o e=>k it (by simp) o e
 item:=by
   intro X hP hw hK hc i pins s σ H E I hf st hg;subst hP hw hK;obtain⟨xs,x,hq,hx⟩:=hg;obtain⟨its,rv,p,hz⟩:=I.list hq;obtain⟨u,hu,ru⟩:=rv.get hx;obtain⟨f0,f1,f2,f3,f4,f5⟩:=hf it (by simp);refine wpAny_pyNext_list_item st p.isList (x:=u) (by simpa using hu) fun h' st' sb=>?_;have I1:Inv X pins σ H { s with heap:=h' }:=I.turned (t':=s.toks) (fun b o hb e=>(sb.2 b hb).trans e) f0 f1 f3 f4 f5;obtain⟨o,e,c,d⟩:=id st';exact⟨u,rfl,qgR (s:={ s with heap:=h' }) e c d (by decide) ⟨x,H,I1,ru,⟨rfl,fun ys hy=>by rw[I.list_inj hy hq];exact hx⟩,st',fun b hb=>(hf b hb).1⟩⟩
 done:=by
   intro X hP hw hK hc i pins s σ H E I hf st hg;subst hP hw hK;obtain⟨xs,hq,hx⟩:=hg;obtain⟨its,rv,p,hz⟩:=I.list hq;obtain⟨f0,f1,f2,f3,f4,f5⟩:=hf it (by simp);have hl:=rv.length;exact wpAny_pyNext_list_end (I.ok.hd hc) st p.isList (by simp;omega) fun h' eb=>⟨rfl,I.turned (t':=s.toks) (fun b o hb e=>eb b o hb e) f0 f1 f3 f4 f5⟩
 self:=fun _ _ _ _ _ st h=>wpAny_pyIter_listiter st h
theorem qeZ {P:Program}{w:World}{K:Frag}{tg:Expr} (a it:Addr):qiz P w K tg (Itt K a) [it] it (fun i h=>h.IsTupleIter it a i) where
 mem:=by simp
 obj:=fun i h st b hb=>by
   have e:b=it:=by simpa using hb
   subst e;obtain⟨o,e,c,d⟩:=st;exact⟨o,e,fun v z=>by rw[d]at z;cases z⟩
 keep:=fun i h h' st k=>st.at fun o e=>k it (by simp) o e
 item:=by
   intro X hP hw hK hc i pins s σ H E I hf st hg;subst hP hw hK;obtain⟨xs,x,hq,hx⟩:=hg;obtain⟨its,rv,p,hz⟩:=I.tuple hq;obtain⟨u,hu,ru⟩:=rv.get hx;obtain⟨f0,f1,f2,f3,f4,f5⟩:=hf it (by simp);refine wpAny_pyNext_tuple_item st (show s.heap.IsTuple a its.toArray from p) (x:=u) (by simpa using hu) fun h' st' sb=>?_;have I1:Inv X pins σ H { s with heap:=h' }:=I.turned (t':=s.toks) (fun b o hb e=>(sb.2 b hb).trans e) f0 f1 f3 f4 f5;obtain⟨o,e,c,d⟩:=id st';exact⟨u,rfl,qgR (s:={ s with heap:=h' }) e c d (by decide) ⟨x,H,I1,ru,⟨rfl,fun ys hy=>by rw[I.tuple_inj hy hq];exact hx⟩,st',fun b hb=>(hf b hb).1⟩⟩
 done:=by
   intro X hP hw hK hc i pins s σ H E I hf st hg;subst hP hw hK;obtain⟨xs,hq,hx⟩:=hg;obtain⟨its,rv,p,hz⟩:=I.tuple hq;obtain⟨f0,f1,f2,f3,f4,f5⟩:=hf it (by simp);have hl:=rv.length;exact wpAny_pyNext_tuple_end (I.ok.hd hc) st (show s.heap.IsTuple a its.toArray from p) (by simp;omega) fun h' eb=>⟨rfl,I.turned (t':=s.toks) (fun b o hb e=>eb b o hb e) f0 f1 f3 f4 f5⟩
 self:=fun _ _ _ _ _ st h=>wpAny_pyIter_tupleiter st h
theorem qe0 {P:Program}{w:World}{K:Frag}{tg:Expr} (it:Addr) (lo:Int) (n:Nat):qiz P w K tg (Itr lo n) [it] it (fun i h=>IsRangeIter h it (lo+(i:Nat) * 1) ((n:Int) - (i:Nat)) 1) where
 mem:=by simp
 obj:=fun i h st b hb=>by
   have e:b=it:=by simpa using hb
   subst e
   exact⟨_,st,fun v z=>by
     have z':Data.fields _=Data.cell v:=z
     cases z'⟩
 keep:=fun i h h' st k=>k it (by simp) _ st
 item:=by
   intro X hP hw hK hc i pins s σ H E I hf st hg;subst hP hw hK;obtain⟨f0,f1,f2,f3,f4,f5⟩:=hf it (by simp);have W:=Walks.range (prog:=X.prog) (w:=X.w) (I.ok.hd hc) it lo 1 n;refine W.item i s _ _ hg st fun v h' tk hv st' kk=>?_;obtain⟨t,rfl⟩:=hv;have I1:Inv X pins σ H { s with heap:=h',toks:=tk }:=I.turned (fun b o hb e=>kk b o (by simpa using hb) e) f0 f1 f3 f4 f5;refine⟨_,rfl,qgR (s:={ s with heap:=h',toks:=tk }) (n:="range_iterator") st' rfl rfl (by decide) ⟨.int (lo+i),H,I1,⟨t,?_⟩,⟨rfl,rfl⟩,st',fun b hb=>(hf b hb).1⟩⟩;rw[Int.mul_one]
 done:=by
   intro X hP hw hK hc i pins s σ H E I hf st hg;subst hP hw hK;obtain⟨f0,f1,f2,f3,f4,f5⟩:=hf it (by simp);exact wpAny_pyNext_range_end (I.ok.hd hc) st (by have:n≤i:=hg;omega) fun h' eb=>⟨rfl,I.turned (t':=s.toks) (fun b o hb e=>eb b o hb e) f0 f1 f3 f4 f5⟩
 self:=fun _ _ _ _ _ st h=>wpAny_pyIter_rangeiter st h
section
variable {X:Cx}{tg:Expr}
inductive qgM (K:Frag) (R:(It->Hp->Prop)) (x:V) (H1:Hp):Prop
 | mk (a:_) (h1:x=.ref a) (h2:(∃ xs,SqL K H1 a xs)) (h3:R (Itl K a) H1):qgM K R x H1
def qmd (K:Frag) (tl:TE):TI:=fun σ H R=>tl σ H fun x H1=>qgM K R x H1
def qm6 (K:Frag) (tl:TE):TI:=fun σ H R=>tl σ H fun x H1=>∃ a,x=.ref a∧(∃ xs,SqT K H1 a xs)∧R (Itt K a) H1
theorem zc {l:Expr}{tl:TE} (hl:PE X l tl):PI X tg l (qmd X.K tl):=by
 intro pins s σ H R I h;refine thn (hl pins s σ H _ I h) fun v s1 zz_=>?_;obtain⟨x,H1,I1,r1,q1⟩:=zz_;obtain⟨a,e,⟨xs,hq⟩,q⟩:=q1;subst e;cases r1;obtain⟨its,rv,p,hz⟩:=I1.list hq;refine wpAny_pyIter_list p.isList ?_;refine⟨s1.heap.objs.size,[s1.heap.objs.size],_,_,H1,rfl,I1.kept (t':=s1.toks) fun b o e=>Heap.get?_push_of_some _ e,qfw a _,⟨_,Heap.get?_push_size _ rfl,rfl,rfl⟩,fun b hb=>?_,q⟩;have e:b=s1.heap.objs.size:=by simpa using hb
 subst e;exact I1.fpOk (Nat.le_refl _) (I1.hok.fresh (Nat.le_refl _))
theorem qk2 {l:Expr}{tl:TE} (hl:PE X l tl):PI X tg l (qm6 X.K tl):=by
 intro pins s σ H R I h;refine thn (hl pins s σ H _ I h) fun v s1 zz_=>?_;obtain⟨x,H1,I1,r1,q1⟩:=zz_;obtain⟨a,e,⟨xs,hq⟩,q⟩:=q1;subst e;cases r1;obtain⟨its,rv,p,hz⟩:=I1.tuple hq;refine wpAny_pyIter_tuple (show s1.heap.IsTuple a its.toArray from p) ?_;refine⟨s1.heap.objs.size,[s1.heap.objs.size],_,_,H1,rfl,I1.kept (t':=s1.toks) fun b o e=>Heap.get?_push_of_some _ e,qeZ a _,⟨_,Heap.get?_push_size _ rfl,rfl,rfl⟩,fun b hb=>?_,q⟩;have e:b=s1.heap.objs.size:=by simpa using hb
 subst e;exact I1.fpOk (Nat.le_refl _) (I1.hok.fresh (Nat.le_refl _))
theorem qer {pins:List (Addr×Obj)}{σ:St}{H:Hp}{s:Shared}{R:It->Hp->Prop}{E:Value->Shared->Prop}{lo hi:Int}{t u v:Tok}{tk:Nat} (I:Inv X pins σ H s) (h1:-(2 ^ 62)≤lo) (h2:lo < 2 ^ 62) (h3:-(2 ^ 62)≤hi) (h4:hi < 2 ^ 62)
   (q:R (Itr lo (hi - lo).toNat) H):wpAny (model X.prog X.w) X.A (pyIter (.ref s.heap.objs.size)) (PIE X pins σ tg R) E { s with heap:=s.heap.push { cls:=.type "range",data:=.fields #[.int lo t,.int hi u,.int 1 v] },toks:=tk }:=by
 refine wpAny_pyIter_range (IsRange.new ..) (small_one h1 h2 h3 h4) ?_;have I1:Inv X pins σ H { s with heap:=s.heap.push { cls:=.type "range",data:=.fields #[.int lo t,.int hi u,.int 1 v] },toks:=tk }:=I.kept fun b o e=>Heap.get?_push_of_some _ e
 refine⟨(s.heap.push { cls:=.type "range",data:=.fields #[.int lo t,.int hi u,.int 1 v] }).objs.size,[(s.heap.push { cls:=.type "range",data:=.fields #[.int lo t,.int hi u,.int 1 v] }).objs.size],_,_,H,rfl,
   I1.kept (t':=tk) fun b o e=>Heap.get?_push_of_some _ e,qe0 _ lo (hi - lo).toNat,?_,fun b hb=>?_,q⟩
 · have e1:lo+((0:Nat):Int) * 1=lo:=by simp
   have e2:(((hi - lo).toNat:Nat):Int) - ((0:Nat):Int)=Builtin.Range.rangeSize lo hi 1:=by rw[rangeSize_one];split<;>omega
   show IsRangeIter _ _ (lo+((0:Nat):Int) * 1) ((((hi - lo).toNat:Nat):Int) - ((0:Nat):Int)) 1;rw[e1,e2];exact Heap.get?_push_size _ rfl
 · have e:b=(s.heap.push { cls:=.type "range",data:=.fields #[.int lo t,.int hi u,.int 1 v] }).objs.size:=by simpa using hb
   subst e;exact I1.fpOk (Nat.le_refl _) (I1.hok.fresh (Nat.le_refl _))
inductive qgL (R:(It->Hp->Prop)) (vs:List V) (H1:Hp):Prop
 | mk (j:Int) (h1:vs=[.int j]) (h2:-(2 ^ 62)≤j) (h3:j < 2 ^ 62) (h4:R (Itr 0 j.toNat) H1):qgL R vs H1
def qmc (ta:TA):TI:=fun σ H R=>ta σ H fun vs H1=>qgL R vs H1
inductive qgK (R:(It->Hp->Prop)) (vs:List V) (H1:Hp):Prop
 | mk (i j:Int) (h1:vs=[.int i,.int j]) (h2:(-(2 ^ 62)≤i∧i < 2 ^ 62∧-(2 ^ 62)≤j∧j < 2 ^ 62)) (h3:R (Itr i (j - i).toNat) H1):qgK R vs H1
def qmb (ta:TA):TI:=fun σ H R=>ta σ H fun vs H1=>qgK R vs H1
theorem ZL {a:Expr}{ta:TA}{p pos:Pos} (hg:Gl X "range") (hm:X.mg "range"=none) (ha:PA X [a] ta) (hs:starEach [a] X.env=[(false,eval a X.env)]:=by rfl):PI X tg (.Call (.Name "range" p) [a] [] pos) (qmc ta):=by
 intro pins s σ H R I h;refine Call_ (qaN I hg hm boot_range (PyProof.Rows.callWith_type1 (thn (ha pos pins s σ H _ I h) fun us s1 zz_=>?_) hs rfl));obtain⟨vs,H1,I1,r1,q1⟩:=zz_;obtain⟨j,e,q1,q2,q⟩:=q1;subst e
 cases r1 with
 | cons r rr =>
   cases rr;obtain⟨t,rfl⟩:=r;exact call_range_1 (qer I1 (by omega) (by omega) q1 q2 (by simpa using q))
theorem qgd {a b:Expr}{ta:TA}{p pos:Pos} (hg:Gl X "range") (hm:X.mg "range"=none) (ha:PA X [a,b] ta) (hs:starEach [a,b] X.env=[(false,eval a X.env),(false,eval b X.env)]:=by rfl) (hs2:starEach [b] X.env=[(false,eval b X.env)]:=by rfl) :
   PI X tg (.Call (.Name "range" p) [a,b] [] pos) (qmb ta):=by
 intro pins s σ H R I h;refine Call_ (qaN I hg hm boot_range (PyProof.Rows.callWith_type1 (thn (ha pos pins s σ H _ I h) fun us s1 zz_=>?_) (by rw[hs,hs2]) (by rw[hs2];rfl)));obtain⟨vs,H1,I1,r1,q1⟩:=zz_;obtain⟨i,j,e,⟨q1,q2,q3,q4⟩,q⟩:=q1;subst e
 cases r1 with
 | cons r rr =>
   cases rr with
   | cons r' rr =>
     cases rr;obtain⟨t,rfl⟩:=r;obtain⟨t',rfl⟩:=r';exact call_range_2 (qer I1 q1 q2 q3 q4 q)
def qfH (wi:TI) (g:TG) (tb:TS):TS:=fun D σ H=>wi σ H fun J H1=>∃ W:Nat->Nat->St->Hp->Prop,(∃ m,W 0 m σ H1)∧∀ i m σ H,W i m σ H ->
 (J.stop i H∧D.nx σ H)∨(J.go i H∧∃ N:St->Hp->Prop,(∀ σ' H',N σ' H'->∃ m',m' < m∧W (i+1) m' σ' H')∧∀ x H',J.yld i H x H'->g x σ H' fun σ2 H2=>tb { D with nx:=N,ct:=N,bk:=D.nx } σ2 H2)
def qbB (fp:List Addr) (h:Heap):List (Addr×Obj):=fp.filterMap fun b=>(h.get? b).map fun o=>(b,o)
theorem zW {fp:List Addr}{h:Heap}{b:Addr}{o:Obj} (hb:b∈fp) (e:h.get? b=some o):(b,o)∈qbB fp h:=List.mem_filterMap.mpr ⟨b,hb,by rw[e];rfl⟩
theorem qgq {fp:List Addr}{h:Heap}{p:Addr×Obj} (hp:p∈qbB fp h):p.1∈fp∧h.get? p.1=some p.2:=by
 obtain⟨b,hb,e⟩:=List.mem_filterMap.mp hp
 cases q:h.get? b with
 | none=>rw[q]at e;cases e
 | some o =>
   rw[q]at e;have e':(b,o)=p:=Option.some.inj e;subst e';exact⟨hb,q⟩
theorem Inv.pinned {pins:List (Addr×Obj)}{σ:St}{H:Hp}{s:Shared}{fp:List Addr} (I:Inv X pins σ H s) (hf:∀ b∈fp,qeW X pins H b) (ho:∀ b∈fp,∃ o,s.heap.get? b=some o∧∀ v,o.data≠.cell v):Inv X (pins++qbB fp s.heap) σ H s :=
 I.pins_of fun p hp=>(List.mem_append.mp hp).elim (fun z=>I.pin p (List.mem_append_right _ z)) fun z=>by
   obtain⟨hb,e⟩:=qgq z;obtain⟨f0,f1,f2,_⟩:=hf p.1 hb;obtain⟨o,e',d⟩:=ho p.1 hb;rw[e]at e';cases e';exact⟨e,f0,f1,f2,d⟩
theorem Inv.unpinned {pins pl:List (Addr×Obj)}{σ:St}{H:Hp}{s:Shared} (I:Inv X (pins++pl) σ H s):Inv X pins σ H s:=I.pins_of fun p hp=>I.pin p (List.mem_append_right _ (List.mem_append_left _ hp))
theorem zr {iter:Expr}{body:List Stmt}{wi:TI}{g:TG}{tb:TS}{pos:Pos} (hp:PassesOwn (model X.prog X.w) X.A X.env X.xe) (hc:X.calm=true) (hi:PI X tg iter wi) (hg:PG X tg g) (hb:PSs X body tb)
   (hs:∀ x,foldedSetIterable iter X.env x=pure x:=by intro _;rfl):PS X (.For tg iter body [] pos) (qfH wi g tb):=by
 intro pins s σ H D I h;refine wpAny_For (thn (hi pins s σ H _ I h) fun v s1 h1=>thn h1 fun itv s2 h2=>?_) hs;obtain⟨it,fp,tn,J,H2,e,I2,T,st2,f2,W,⟨m0,w0⟩,turn⟩:=h2;subst e
 -- what stays true of the iterator's objects through the loop
 have stat:∀ {H':Hp},(∀ b∈fp,H' b=none)->∀ b∈fp,qeW X pins H' b:=fun hn b hb=>⟨hn b hb,(f2 b hb).2⟩
 refine codeAny_forLoop_any (fun n s'=>∃ i σ' H',Inv X pins σ' H' s'∧tn i s'.heap∧(∀ b∈fp,H' b=none)∧W i n σ' H') ?_ m0 ⟨0,σ,H2,I2,st2,fun b hb=>(f2 b hb).1,w0⟩;rintro n s3 ⟨i,σ3,H3,I3,st3,fr3,w3⟩;rcases turn i n σ3 H3 w3 with ⟨stop,qn⟩|⟨go,N,hN,step⟩
 · refine wpAny_passesOwn hp (thn (T.done X rfl rfl rfl hc i pins s3 σ3 H3 X.xe I3 (stat fr3) st3 stop) fun r s4 ⟨hr,I4⟩=>?_);subst hr;exact wpAny_execs_nil ⟨σ3,H3,I4,qn⟩
 · refine wpAny_passesOwn hp (thn (T.item X rfl rfl rfl hc i pins s3 σ3 H3 X.xe I3 (stat fr3) st3 go) fun r s4 ⟨u,hr,h4⟩=>?_);subst hr;refine wpAny_passesOwn hp (thn h4 fun _ s5 zz_=>?_);obtain⟨x,H5,I5,r5,y5,st5,fr5⟩:=zz_;have I5':=I5.pinned (stat fr5) (T.obj _ _ st5);refine wpAny_passesOwn hp (thn (hg _ s5 σ3 H5 x u _ I5' r5 (step x H5 y5)) fun _ s6 zz_=>?_);obtain⟨σ6,H6,I6,q6⟩:=zz_;refine wpAny_passesOwn hp (thn (hb _ s6 σ6 H6 _ I6 q6) fun f s7 q7=>?_)
   have again:∀ {σ7:St}{H7:Hp},Inv X (pins++qbB fp s5.heap) σ7 H7 s7->N σ7 H7->∃ m,m < n∧∃ i σ' H',Inv X pins σ' H' s7∧tn i s7.heap∧(∀ b∈fp,H' b=none)∧W i m σ' H':=fun {σ7 H7} I7 n7=>by
     obtain⟨m',hm,w7⟩:=hN σ7 H7 n7;refine⟨m',hm,i+1,σ7,H7,I7.unpinned,T.keep _ _ _ st5 fun b hb o e=>(I7.pin (b,o) (List.mem_append_right _ (List.mem_append_right _ (zW hb e)))).1,fun b hb=>?_,w7⟩;obtain⟨o,e,d⟩:=T.obj _ _ st5 b hb;exact(I7.pin (b,o) (List.mem_append_right _ (List.mem_append_right _ (zW hb e)))).2.1
   cases f with
   | next=>obtain⟨σ7,H7,I7,n7⟩:=q7;exact again I7 n7
   | cont=>obtain⟨σ7,H7,I7,n7⟩:=q7;exact again I7 n7
   | brk=>obtain⟨σ7,H7,I7,q7⟩:=q7;exact⟨σ7,H7,I7.unpinned,q7⟩
   | ret v=>obtain⟨x7,σ7,H7,I7,r7,q7⟩:=q7;exact⟨x7,σ7,H7,I7.unpinned,r7,q7⟩
end
theorem zI {K:Frag}{a:Addr}{xs:List V}{g:TG}{tb:TS}{D:qdA}{σ:St}{H:Hp} (Pv:Nat->St->Hp->Prop) (h0:Pv 0 σ H) (hl:∀ i σ H,i≤xs.length->Pv i σ H->SqL K H a xs)
   (hs:∀ i x σ H,xs[i]?=some x->Pv i σ H->g x σ H fun σ2 H2=>tb { D with nx:=Pv (i+1),ct:=Pv (i+1),bk:=D.nx } σ2 H2) (hd:∀ σ H,Pv xs.length σ H->D.nx σ H) :
   ∃ W:Nat->Nat->St->Hp->Prop,(∃ m,W 0 m σ H)∧∀ i m σ H,W i m σ H ->
     ((Itl K a).stop i H∧D.nx σ H)∨((Itl K a).go i H∧∃ N:St->Hp->Prop,(∀ σ' H',N σ' H'->∃ m',m' < m∧W (i+1) m' σ' H')∧∀ x H',(Itl K a).yld i H x H'->g x σ H' fun σ2 H2=>tb { D with nx:=N,ct:=N,bk:=D.nx } σ2 H2):=by
 refine⟨fun i m σ H=>m=xs.length - i∧i≤xs.length∧Pv i σ H,⟨xs.length,by simp,Nat.zero_le _,h0⟩,?_⟩;rintro i m σ H ⟨rfl,hi,p⟩;have q:=hl i σ H hi p;by_cases hlt:i < xs.length
 · refine .inr ⟨⟨xs,xs[i],q,by simp[hlt]⟩,Pv (i+1),fun σ' H' p'=>⟨xs.length - (i+1),by omega,rfl,hlt,p'⟩,fun x H' y=>?_⟩;obtain⟨e,y⟩:=y;subst e;exact hs i x σ _ (y xs q) p
 · have e:i=xs.length:=by omega
   subst e;exact .inl ⟨⟨xs,q,Nat.le_refl _⟩,hd σ H p⟩
theorem qkk {K:Frag}{a:Addr}{xs:List V}{g:TG}{tb:TS}{D:qdA}{σ:St}{H:Hp} (Pv:Nat->St->Hp->Prop) (h0:Pv 0 σ H) (hl:∀ i σ H,i≤xs.length->Pv i σ H->SqT K H a xs)
   (hs:∀ i x σ H,xs[i]?=some x->Pv i σ H->g x σ H fun σ2 H2=>tb { D with nx:=Pv (i+1),ct:=Pv (i+1),bk:=D.nx } σ2 H2) (hd:∀ σ H,Pv xs.length σ H->D.nx σ H) :
   ∃ W:Nat->Nat->St->Hp->Prop,(∃ m,W 0 m σ H)∧∀ i m σ H,W i m σ H ->
     ((Itt K a).stop i H∧D.nx σ H)∨((Itt K a).go i H∧∃ N:St->Hp->Prop,(∀ σ' H',N σ' H'->∃ m',m' < m∧W (i+1) m' σ' H')∧∀ x H',(Itt K a).yld i H x H'->g x σ H' fun σ2 H2=>tb { D with nx:=N,ct:=N,bk:=D.nx } σ2 H2):=by
 refine⟨fun i m σ H=>m=xs.length - i∧i≤xs.length∧Pv i σ H,⟨xs.length,by simp,Nat.zero_le _,h0⟩,?_⟩;rintro i m σ H ⟨rfl,hi,p⟩;have q:=hl i σ H hi p;by_cases hlt:i < xs.length
 · refine .inr ⟨⟨xs,xs[i],q,by simp[hlt]⟩,Pv (i+1),fun σ' H' p'=>⟨xs.length - (i+1),by omega,rfl,hlt,p'⟩,fun x H' y=>?_⟩;obtain⟨e,y⟩:=y;subst e;exact hs i x σ _ (y xs q) p
 · have e:i=xs.length:=by omega
   subst e;exact .inl ⟨⟨xs,q,Nat.le_refl _⟩,hd σ H p⟩
theorem Jb {lo:Int}{n:Nat}{g:TG}{tb:TS}{D:qdA}{σ:St}{H:Hp} (Pv:Nat->St->Hp->Prop) (h0:Pv 0 σ H)
   (hs:∀ i σ H,i < n->Pv i σ H->g (.int (lo+i)) σ H fun σ2 H2=>tb { D with nx:=Pv (i+1),ct:=Pv (i+1),bk:=D.nx } σ2 H2) (hd:∀ σ H,Pv n σ H->D.nx σ H) :
   ∃ W:Nat->Nat->St->Hp->Prop,(∃ m,W 0 m σ H)∧∀ i m σ H,W i m σ H ->
     ((Itr lo n).stop i H∧D.nx σ H)∨((Itr lo n).go i H∧∃ N:St->Hp->Prop,(∀ σ' H',N σ' H'->∃ m',m' < m∧W (i+1) m' σ' H')∧∀ x H',(Itr lo n).yld i H x H'->g x σ H' fun σ2 H2=>tb { D with nx:=N,ct:=N,bk:=D.nx } σ2 H2):=by
 refine⟨fun i m σ H=>m=n - i∧i≤n∧Pv i σ H,⟨n,by simp,Nat.zero_le _,h0⟩,?_⟩;rintro i m σ H ⟨rfl,hi,p⟩;by_cases hlt:i < n
 · refine .inr ⟨hlt,Pv (i+1),fun σ' H' p'=>⟨n - (i+1),by omega,rfl,hlt,p'⟩,fun x H' y=>?_⟩;obtain⟨e,y⟩:=y;subst e y;exact hs i σ _ hlt p
 · have e:i=n:=by omega
   subst e;exact .inl ⟨Nat.le_refl _,hd σ H p⟩
theorem qhq {c:TT}{tb:TS}{D:qdA}{σ:St}{H:Hp} (Pv:St->Hp->Prop) (μ:St->Hp->Nat) (h0:Pv σ H)
   (hs:∀ σ H,Pv σ H->c σ H fun b H1=>if b=true then tb { D with nx:=fun σ' H'=>Pv σ' H'∧μ σ' H' < μ σ H,ct:=fun σ' H'=>Pv σ' H'∧μ σ' H' < μ σ H,bk:=D.nx } σ H1 else D.nx σ H1)
   (mono:∀ σ H Q Q',(∀ b H1,Q b H1->Q' b H1)->c σ H Q->c σ H Q'):qfB c tb D σ H:=by
 refine⟨fun m σ H=>m=μ σ H∧Pv σ H,⟨_,rfl,h0⟩,?_⟩;rintro m σ H ⟨rfl,p⟩;refine mono σ H _ _ (fun b H1 q=>?_) (hs σ H p)
 cases b with
 | true=>exact⟨_,fun σ' H' ⟨p',l⟩=>⟨_,l,rfl,p'⟩,q⟩
 | false=>exact q
abbrev R2:=V->V->Hp->VK->Prop
def OpR (X:Cx) (f:Value->Value->Sem Value) (r:R2):Prop :=
 ∀ (pins:List (Addr×Obj)) (s:Shared) (σ:St) (H:Hp) (x y:V) (v u:Value) (Q:VK),Inv X pins σ H s->RelV x v->RelV y u->r x y H Q ->
   wpAny (model X.prog X.w) X.A (f v u) (EP X pins σ Q) X.xe s
def UnR (X:Cx) (f:Value->Sem Value) (r:V->Hp->VK->Prop):Prop :=
 ∀ (pins:List (Addr×Obj)) (s:Shared) (σ:St) (H:Hp) (x:V) (v:Value) (Q:VK),Inv X pins σ H s->RelV x v->r x H Q ->
   wpAny (model X.prog X.w) X.A (f v) (EP X pins σ Q) X.xe s
def CallR (X:Cx) (f:Value) (r:List V->Hp->VK->Prop):Prop :=
 ∀ (pins:List (Addr×Obj)) (s:Shared) (σ:St) (H:Hp) (xs:List V) (us:List Value) (Q:VK),Inv X pins σ H s->Vals xs us->r xs H Q ->
   wpAny (model X.prog X.w) X.A (call f us) (EP X pins σ Q) X.xe s
def qne (X:Cx) (r:V->Hp->(Bool->Hp->Prop)->Prop):Prop :=
 ∀ (pins:List (Addr×Obj)) (s:Shared) (σ:St) (H:Hp) (x:V) (v:Value) (Q:Bool->Hp->Prop),Inv X pins σ H s->RelV x v->r x H Q ->
   wpAny (model X.prog X.w) X.A (truthy v) (TP X pins σ Q) X.xe s
def tOp (r:R2) (ta tb:TE):TE:=fun σ H Q=>ta σ H fun x H1=>tb σ H1 fun y H2=>r x y H2 Q
def tUn (r:V->Hp->VK->Prop) (ta:TE):TE:=fun σ H Q=>ta σ H fun x H1=>r x H1 Q
inductive qmz (C:Int->Int->Prop) (g:Int->Int->V) (x:V) (y:V) (H:Hp) (Q:VK):Prop
 | mk (i j:_) (h1:x=.int i) (h2:y=.int j) (h3:C i j) (h4:Q (g i j) H):qmz C g x y H Q
def rI (C:Int->Int->Prop) (g:Int->Int->V):R2:=fun x y H Q=>qmz C g x y H Q
inductive qkU (g:Int->Int->V) (x:V) (y:V) (H:Hp) (Q:VK):Prop
 | mk (i j:_) (h1:x=.int i) (h2:y=.int j) (h3:Q (g i j) H):qkU g x y H Q
def rI0 (g:Int->Int->V):R2:=fun x y H Q=>qkU g x y H Q
inductive qms (g:Int->V) (x:V) (H:Hp) (Q:VK):Prop
 | mk (i:_) (h1:x=.int i) (h2:Q (g i) H):qms g x H Q
def rU (g:Int->V):V->Hp->VK->Prop:=fun x H Q=>qms g x H Q
section
variable {X:Cx}{a b c:Expr}{ta tb tc:TE}{pos:Pos}
theorem qmk (ha:PE X a ta) (hb:PE X b tb) {pins:List (Addr×Obj)}{s:Shared}{σ:St}{H:Hp}{R:V->V->Hp->Prop} (I:Inv X pins σ H s)
   (h:ta σ H fun x H1=>tb σ H1 fun y H2=>R x y H2) {Q:Value->Shared->Prop}{f:Value->Value->Sem Value}
   (hf:∀ v u s2 x y H2,Inv X pins σ H2 s2->RelV x v->RelV y u->R x y H2->wpAny (model X.prog X.w) X.A (f v u) Q X.xe s2) :
   wpAny (model X.prog X.w) X.A (eval a X.env) (fun v s₁=>wpAny (model X.prog X.w) X.A (eval b X.env) (fun u s₂=>wpAny (model X.prog X.w) X.A (f v u) Q X.xe s₂) X.xe s₁) X.xe s:=by
 refine thn (ha pins s σ H _ I h) fun v s1 zz_=>?_;obtain⟨x,H1,I1,r1,q1⟩:=zz_;refine thn (hb pins s1 σ H1 _ I1 q1) fun u s2 zz_=>?_;obtain⟨y,H2,I2,r2,q2⟩:=zz_;exact hf v u s2 x y H2 I2 r1 r2 q2
theorem qx {op:Operator}{r:R2} (ho:OpR X (binaryOp op) r) (ha:PE X a ta) (hb:PE X b tb):PE X (.BinOp a op b pos) (tOp r ta tb):=by
 intro pins s σ H Q I h;exact wpAny_BinOp (qmk ha hb I h fun v u s2 x y H2 I2 rx ry q=>ho pins s2 σ H2 x y v u Q I2 rx ry q)
theorem jW {op:UnaryOp}{r:V->Hp->VK->Prop} (ho:UnR X (unaryOp op) r) (ha:PE X a ta):PE X (.UnaryOp op a pos) (tUn r ta):=by
 intro pins s σ H Q I h;exact UnaryOp_ (thn (ha pins s σ H _ I h) fun v s1 ⟨x,H1,I1,r1,q1⟩=>ho pins s1 σ H1 x v Q I1 r1 q1)
theorem opI {f:Value->Value->Sem Value}{C:Int->Int->Prop}{g:Int->Int->Int}
   (rule:∀ (i j:Int) (t u:Tok) (s:Shared) (Q:Value->Shared->Prop) (E:Value->Shared->Prop),C i j->Q (.int (g i j) s.toks) { s with toks:=s.toks+1 }->wpAny (model X.prog X.w) X.A (f (.int i t) (.int j u)) Q E s) :
   OpR X f (rI C fun i j=>.int (g i j)):=by
 intro pins s σ H x y v u Q I rx ry h;obtain⟨i,j,rfl,rfl,hc,q⟩:=h;obtain⟨t,rfl⟩:=rx;obtain⟨t',rfl⟩:=ry;exact rule i j t t' s _ _ hc ⟨.int (g i j),H,I.tok _,⟨_,rfl⟩,q⟩
theorem qmD {f:Value->Value->Sem Value}{g:Int->Int->Int}
   (rule:∀ (i j:Int) (t u:Tok) (s:Shared) (Q:Value->Shared->Prop) (E:Value->Shared->Prop),Q (.int (g i j) s.toks) { s with toks:=s.toks+1 }->wpAny (model X.prog X.w) X.A (f (.int i t) (.int j u)) Q E s) :
   OpR X f (rI0 fun i j=>.int (g i j)):=by
 intro pins s σ H x y v u Q I rx ry h;obtain⟨i,j,rfl,rfl,q⟩:=h;obtain⟨t,rfl⟩:=rx;obtain⟨t',rfl⟩:=ry;exact rule i j t t' s _ _ ⟨.int (g i j),H,I.tok _,⟨_,rfl⟩,q⟩
theorem qlI {f:Value->Value->Sem Value}{g:Int->Int->Bool}
   (rule:∀ (i j:Int) (t u:Tok) (s:Shared) (Q:Value->Shared->Prop) (E:Value->Shared->Prop),Q (.bool (g i j)) s->wpAny (model X.prog X.w) X.A (f (.int i t) (.int j u)) Q E s) :
   OpR X f (rI0 fun i j=>.bl (g i j)):=by
 intro pins s σ H x y v u Q I rx ry h;obtain⟨i,j,rfl,rfl,q⟩:=h;obtain⟨t,rfl⟩:=rx;obtain⟨t',rfl⟩:=ry;exact rule i j t t' s _ _ ⟨.bl (g i j),H,I,rfl,q⟩
def qni (i j:Int):Prop:=0 < j∧j < 1073741824
def qnh (i j:Int):Prop:=0≤j∧j≤1000000∧i.natAbs < 2 ^ 64
def CMul (i j:Int):Prop:=(-(2 ^ 64) < i∧i < 2 ^ 64)∨(-(2 ^ 64) < j∧j < 2 ^ 64)
theorem CMul.ok {i j:Int} (h:CMul i j):IntMulOk i j:=by
 rcases h with ⟨h1,h2⟩|⟨h1,h2⟩
 · exact .of_left (intBits_le_64 h1 h2)
 · exact .of_right (intBits_le_64 h1 h2)
theorem op_add:OpR X (binaryOp .Add) (rI0 fun i j=>.int (i+j)):=qmD fun _ _ _ _ _ _ _ q=>add_int q
theorem zY:OpR X (binaryOp .Sub) (rI0 fun i j=>.int (i - j)):=qmD fun _ _ _ _ _ _ _ q=>sub_int q
theorem ZM:OpR X (binaryOp .Mult) (rI CMul fun i j=>.int (i * j)):=opI fun _ _ _ _ _ _ _ hc q=>mul_int q hc.ok
theorem qaE:OpR X (binaryOp .FloorDiv) (rI qni fun i j=>.int (i / j)):=opI fun i j _ _ _ _ _ hc q=>by
 have h1:(0:Int) < j:=hc.1;have h2:j < 1073741824:=hc.2;exact floordiv_int (by omega) (by rw[Int.fdiv_eq_ediv_of_nonneg i (by omega)];exact q) (.inl (PyProof.noPylong_small (by omega)))
theorem QB:OpR X (binaryOp .Mod) (rI (fun _ j=>0 < j) fun i j=>.int (i % j)):=opI fun i j _ _ _ _ _ hc q=>by
 have h1:(0:Int) < j:=hc;exact mod_int' (by omega) (by rw[Int.fmod_eq_emod_of_nonneg i (by omega)];exact q)
theorem Qo:OpR X (binaryOp .Pow) (rI qnh fun i j=>.int (i ^ j.toNat)):=opI fun _ _ _ _ _ _ _ hc q=>pow_int_small hc.1 hc.2.1 hc.2.2 q
theorem unI {f:Value->Sem Value}{g:Int->Int}
   (rule:∀ (i:Int) (t:Tok) (s:Shared) (Q:Value->Shared->Prop) (E:Value->Shared->Prop),Q (.int (g i) s.toks) { s with toks:=s.toks+1 }->wpAny (model X.prog X.w) X.A (f (.int i t)) Q E s) :
   UnR X f (rU fun i=>.int (g i)):=by
 intro pins s σ H x v Q I rx h;obtain⟨i,rfl,q⟩:=h;obtain⟨t,rfl⟩:=rx;exact rule i t s _ _ ⟨.int (g i),H,I.tok _,⟨_,rfl⟩,q⟩
theorem Qu:UnR X (unaryOp .USub) (rU fun i=>.int (-i)):=unI fun _ _ _ _ _ q=>neg_int q
end
def qmr:V->V->Bool
 | .non,.non=>true|.non,.int _=>true|.int _,.non=>true|.non,.bl _=>true|.bl _,.non=>true|.non,.str _=>true|.str _,.non=>true
 | .int _,.int _=>true|.bl _,.bl _=>true|.str _,.str _=>true|.byt _,.byt _=>true
 | .int _,.str _=>true|.str _,.int _=>true|.bl _,.str _=>true|.str _,.bl _=>true
 | _,_=>false
def rEq:R2:=fun x y H Q=>qmr x y=true∧Q (.bl (decide (x=y))) H
def rNe:R2:=fun x y H Q=>qmr x y=true∧Q (.bl (!decide (x=y))) H
theorem qg2 {i j:Int}:decide (V.int i=V.int j)=(i == j):=by
 rw[Bool.eq_iff_iff];simp
theorem qji {i j:Bool}:decide (V.bl i=V.bl j)=(i == j):=by
 rw[Bool.eq_iff_iff];simp
theorem qg1 {i j:Str}:decide (V.str i=V.str j)=(i == j):=by
 rw[Bool.eq_iff_iff];simp
theorem qg3 {i j:Array UInt8}:decide (V.byt i=V.byt j)=(i.toList == j.toList):=by
 rw[Bool.eq_iff_iff];cases i;cases j;simp
section
variable {X:Cx}{a b c:Expr}{ta tb tc:TE}{pos:Pos}
theorem za {pins:List (Addr×Obj)}{σ:St}{H:Hp}{s:Shared}{Q:VK}{k k':Bool} (I:Inv X pins σ H s) (q:Q (.bl k) H) (e:k=k'):EP X pins σ Q (.bool k') s:=by
 subst e;exact⟨.bl k,H,I,rfl,q⟩
theorem op_eq:OpR X (compareOp .Eq) rEq:=by
 intro pins s σ H x y v u Q I rx ry h;obtain⟨hs,q⟩:=h
 cases x with
 | non =>
   cases rx
   cases y with
   | non=>cases ry;exact PySem.EqNone.eq_none_none (za I q (by simp))
   | bl j=>cases ry;exact PySem.EqNone.eq_none_bool (za I q (by simp))
   | int j=>obtain⟨t',rfl⟩:=ry;exact PySem.EqNone.eq_none_int (za I q (by simp))
   | str j=>obtain⟨t',rfl⟩:=ry;exact PySem.EqNone.eq_none_str (za I q (by simp))
   | _=>exact absurd (show false=true from hs) Bool.false_ne_true
 | bl i =>
   cases rx
   cases y with
   | non=>cases ry;exact PySem.EqNone.eq_bool_none (za I q (by simp))
   | bl j=>cases ry;exact eq_bool (za I q qji)
   | str j=>obtain⟨t',rfl⟩:=ry;exact PySem.EqMixed.eq_bool_str (za I q (by simp))
   | _=>exact absurd (show false=true from hs) Bool.false_ne_true
 | int i =>
   obtain⟨t,rfl⟩:=rx
   cases y with
   | non=>cases ry;exact PySem.EqNone.eq_int_none (za I q (by simp))
   | int j=>obtain⟨t',rfl⟩:=ry;exact eq_int (za I q qg2)
   | str j=>obtain⟨t',rfl⟩:=ry;exact PySem.EqMixed.eq_int_str (za I q (by simp))
   | _=>exact absurd (show false=true from hs) Bool.false_ne_true
 | str i =>
   obtain⟨t,rfl⟩:=rx
   cases y with
   | non=>cases ry;exact PySem.EqNone.eq_str_none (za I q (by simp))
   | bl j=>cases ry;exact PySem.EqMixed.eq_str_bool (za I q (by simp))
   | int j=>obtain⟨t',rfl⟩:=ry;exact PySem.EqMixed.eq_str_int (za I q (by simp))
   | str j=>obtain⟨t',rfl⟩:=ry;exact eq_str (za I q qg1)
   | _=>exact absurd (show false=true from hs) Bool.false_ne_true
 | byt i =>
   obtain⟨t,rfl⟩:=rx
   cases y with
   | byt j=>obtain⟨t',rfl⟩:=ry;exact PySem.W.eq_bytes (za I q qg3)
   | _=>exact absurd (show false=true from hs) Bool.false_ne_true
 | _=>cases y<;>exact absurd (show false=true from hs) Bool.false_ne_true
theorem op_ne:OpR X (compareOp .NotEq) rNe:=by
 intro pins s σ H x y v u Q I rx ry h;obtain⟨hs,q⟩:=h
 cases x with
 | non =>
   cases rx
   cases y with
   | non=>cases ry;exact PySem.EqNone.ne_none_none (za I q (by simp))
   | bl j=>cases ry;exact PySem.EqNone.ne_none_bool (za I q (by simp))
   | int j=>obtain⟨t',rfl⟩:=ry;exact PySem.EqNone.ne_none_int (za I q (by simp))
   | str j=>obtain⟨t',rfl⟩:=ry;exact PySem.EqNone.ne_none_str (za I q (by simp))
   | _=>exact absurd (show false=true from hs) Bool.false_ne_true
 | bl i =>
   cases rx
   cases y with
   | non=>cases ry;exact PySem.EqNone.ne_bool_none (za I q (by simp))
   | bl j=>cases ry;exact ne_bool (za I q (congrArg not qji))
   | str j=>obtain⟨t',rfl⟩:=ry;exact PySem.EqMixed.ne_bool_str (za I q (by simp))
   | _=>exact absurd (show false=true from hs) Bool.false_ne_true
 | int i =>
   obtain⟨t,rfl⟩:=rx
   cases y with
   | non=>cases ry;exact PySem.EqNone.ne_int_none (za I q (by simp))
   | int j=>obtain⟨t',rfl⟩:=ry;exact ne_int (za I q (congrArg not qg2))
   | str j=>obtain⟨t',rfl⟩:=ry;exact PySem.EqMixed.ne_int_str (za I q (by simp))
   | _=>exact absurd (show false=true from hs) Bool.false_ne_true
 | str i =>
   obtain⟨t,rfl⟩:=rx
   cases y with
   | non=>cases ry;exact PySem.EqNone.ne_str_none (za I q (by simp))
   | bl j=>cases ry;exact PySem.EqMixed.ne_str_bool (za I q (by simp))
   | int j=>obtain⟨t',rfl⟩:=ry;exact PySem.EqMixed.ne_str_int (za I q (by simp))
   | str j=>obtain⟨t',rfl⟩:=ry;exact ne_str (za I q (congrArg not qg1))
   | _=>exact absurd (show false=true from hs) Bool.false_ne_true
 | byt i =>
   obtain⟨t,rfl⟩:=rx
   cases y with
   | byt j=>obtain⟨t',rfl⟩:=ry;exact PySem.W.ne_bytes (za I q (congrArg not qg3))
   | _=>exact absurd (show false=true from hs) Bool.false_ne_true
 | _=>cases y<;>exact absurd (show false=true from hs) Bool.false_ne_true
theorem qa7:OpR X (compareOp .Lt) (rI0 fun i j=>.bl (decide (i < j))):=qlI fun _ _ _ _ _ _ _ q=>lt_int q
theorem zS:OpR X (compareOp .LtE) (rI0 fun i j=>.bl (decide (i≤j))):=qlI fun _ _ _ _ _ _ _ q=>le_int q
theorem qdQ:OpR X (compareOp .Gt) (rI0 fun i j=>.bl (decide (j < i))):=qlI fun _ _ _ _ _ _ _ q=>gt_int q
theorem qjW:OpR X (compareOp .GtE) (rI0 fun i j=>.bl (decide (j≤i))):=qlI fun _ _ _ _ _ _ _ q=>ge_int q
theorem qgg:OpR X (compareOp .IsNot) (fun x y H Q=>y=.non∧Q (.bl (!decide (x=.non))) H):=by
 intro pins s σ H x y v u Q I rx ry h;obtain⟨rfl,q⟩:=h;cases ry;refine isnot_none_gen (za I q ?_);cases x<;>first
   | (cases rx;rfl)
   | (obtain⟨t,rfl⟩:=rx;rfl)
theorem OpR.or {f:Value->Value->Sem Value}{r r':R2} (h:OpR X f r) (h':OpR X f r'):OpR X f (fun x y H Q=>r x y H Q∨r' x y H Q):=by
 intro pins s σ H x y v u Q I rx ry q;rcases q with q|q
 · exact h pins s σ H x y v u Q I rx ry q
 · exact h' pins s σ H x y v u Q I rx ry q
theorem qB (b:Expr) {op:CmpOp} (h:op≠.In:=by decide) (h2:op≠.NotIn:=by decide):behindInMarks op b=false:=by
 have e1:(op == CmpOp.In)=false:=by cases op<;>first|rfl|exact absurd rfl h
 have e2:(op == CmpOp.NotIn)=false:=by cases op<;>first|rfl|exact absurd rfl h2
 cases b<;>simp[behindInMarks,e1,e2]
theorem Qc {op:CmpOp}{r:R2} (ho:OpR X (compareOp op) r) (ha:PE X a ta) (hb:PE X b tb) (hm:behindInMarks op b=false):PE X (.Compare a [op] [b] pos) (tOp r ta tb):=by
 intro pins s σ H Q I h;exact wpAny_Compare1 (qmk ha hb I h fun v u s2 x y H2 I2 rx ry q=>ho pins s2 σ H2 x y v u Q I2 rx ry q) hm
inductive qfC (Q:(Bool->Hp->Prop)) (x:V) (H':Hp):Prop
 | mk (k:_) (h1:x=.bl k) (h2:Q k H'):qfC Q x H'
def qju (t:TE):TT:=fun σ H Q=>t σ H fun x H'=>qfC Q x H'
theorem qv {op:CmpOp}{r:R2} (ho:OpR X (compareOp op) r) (ha:PE X a ta) (hb:PE X b tb) (hm:behindInMarks op b=false):PT X (.Compare a [op] [b] pos) (qju (tOp r ta tb)):=by
 intro pins s σ H Q I h
 refine wpAny_isTrue_Compare1 (thn (ha pins s σ H _ I h) fun v s1 ⟨x,H1,I1,r1,q1⟩=>thn (hb pins s1 σ H1 _ I1 q1) fun u s2 ⟨y,H2,I2,r2,q2⟩ =>
   thn (ho pins s2 σ H2 x y v u _ I2 r1 r2 q2) fun c s3 ⟨z,H3,I3,r3,k,e,q3⟩=>?_) hm
 subst e;cases r3;exact wpAny_truthy_bool ⟨H3,I3,q3⟩
def qiI (r r':R2) (ta tb tc:TE):TE:=fun σ H Q=>ta σ H fun x H1=>tb σ H1 fun y H2=>r x y H2 fun z H3=>∃ k,z=.bl k ∧
 (if k=true then tc σ H3 fun w' H4=>r' y w' H4 Q else Q (.bl false) H3)
theorem Qg {op op':CmpOp}{r r':R2} (ho:OpR X (compareOp op) r) (ho':OpR X (compareOp op') r') (ha:PE X a ta) (hb:PE X b tb) (hc:PE X c tc)
   (hm:lastMarks [op,op'] [b,c]=false:=by with_unfolding_all rfl):PE X (.Compare a [op,op'] [b,c] pos) (qiI r r' ta tb tc):=by
 intro pins s σ H Q I h
 refine Compare_chain (thn (ha pins s σ H _ I h) fun v s1 ⟨x,H1,I1,r1,q1⟩=>chain_link (thn (hb pins s1 σ H1 _ I1 q1) fun u s2 ⟨y,H2,I2,r2,q2⟩ =>
   thn (ho pins s2 σ H2 x y v u _ I2 r1 r2 q2) fun d s3 ⟨z,H3,I3,r3,k,e,q3⟩=>?_)) hm
 subst e;cases r3;refine wpAny_truthy_bool ?_
 cases k with
 | false=>exact ite_ff ⟨.bl false,H3,I3,rfl,q3⟩
 | true=>exact ite_tt (chain_last (thn (hc pins s3 σ H3 _ I3 q3) fun w' s4 ⟨z',H4,I4,r4,q4⟩=>ho' pins s4 σ H4 y z' u w' Q I4 r2 r4 q4))
theorem qex {op op':CmpOp}{r r':R2} (ho:OpR X (compareOp op) r) (ho':OpR X (compareOp op') r') (ha:PE X a ta) (hb:PE X b tb) (hc:PE X c tc)
   (hm:lastMarks [op,op'] [b,c]=false:=by with_unfolding_all rfl):PT X (.Compare a [op,op'] [b,c] pos) (qju (qiI r r' ta tb tc)):=by
 intro pins s σ H Q I h
 refine isTrue_chain (thn (ha pins s σ H _ I h) fun v s1 ⟨x,H1,I1,r1,q1⟩=>test_link (thn (hb pins s1 σ H1 _ I1 q1) fun u s2 ⟨y,H2,I2,r2,q2⟩ =>
   thn (ho pins s2 σ H2 x y v u _ I2 r1 r2 q2) fun d s3 ⟨z,H3,I3,r3,k,e,q3⟩=>?_)) hm
 subst e;cases r3;refine wpAny_truthy_bool ?_
 cases k with
 | false =>
   obtain⟨k',e',q'⟩:=q3;cases e';exact ite_ff ⟨H3,I3,q'⟩
 | true =>
   refine ite_tt (test_last (thn (hc pins s3 σ H3 _ I3 q3) fun w' s4 ⟨z',H4,I4,r4,q4⟩=>thn (ho' pins s4 σ H4 y z' u w' _ I4 r2 r4 q4) fun d' s5 zz_=>?_));obtain⟨z2,H5,I5,r5,k2,e2,q5⟩:=zz_;subst e2;cases r5;exact wpAny_truthy_bool ⟨H5,I5,q5⟩
def qmG (K:Frag) (x:V) (H:Hp) (k:Bool):Prop :=
 match x with
 | .non=>k=false
 | .bl b=>k=b
 | .int i=>k=(i != 0)
 | .str y=>y.length≤sizeLine∧k=((y.length:Int) != 0)
 | .byt y=>y.size≤sizeLine∧k=((y.size:Int) != 0)
 | .ref p=>(∃ xs,SqL K H p xs∧k=!xs.isEmpty)∨(∃ xs,SqT K H p xs∧k=!xs.isEmpty)∨∃ kvs,H p=some (.dK kvs)∧k=!kvs.isEmpty
 | _=>False
theorem qfj {κ:Type}{kvs:List (κ×V)}{vs:List (κ×Value)} (r:KV kvs vs):(!vs.isEmpty)=!kvs.isEmpty:=by
 cases r<;>rfl
theorem qbJ {xs:List V}{its:List Value} (r:Vals xs its):(!its.toArray.isEmpty)=!xs.isEmpty:=by
 cases r<;>simp
theorem qbI:(sizeLine:Nat) < 2 ^ 63:=by rw[sizeLine_eq];decide
theorem qkz:qne X (fun x H Q=>∃ k,qmG X.K x H k∧Q k H):=by
 intro pins s σ H x v Q I rx h;obtain⟨k,e,q⟩:=h;have hl:=qbI;have hs:sizeLine=16777216:=sizeLine_eq
 cases x with
 | non =>
   cases rx;have e':k=false:=e;subst e';exact truthy_none ⟨H,I,q⟩
 | bl b =>
   cases rx;have e':k=b:=e;subst e';exact wpAny_truthy_bool ⟨H,I,q⟩
 | int i =>
   obtain⟨t,rfl⟩:=rx;have e':k=(i != 0):=e;subst e';exact PySem.P.truthy_int ⟨H,I,q⟩
 | str y =>
   obtain⟨t,rfl⟩:=rx;obtain⟨hy,e'⟩:y.length≤sizeLine∧k=((y.length:Int) != 0):=e;subst e';exact PySem.P.truthy_str (by omega) ⟨H,I.tok _,q⟩
 | byt y =>
   obtain⟨t,rfl⟩:=rx;obtain⟨hy,e'⟩:y.size≤sizeLine∧k=((y.size:Int) != 0):=e;subst e';exact PySem.W.truthy_bytes (by omega) ⟨H,I.tok _,q⟩
 | ref p =>
   cases rx;have e':(∃ xs,SqL X.K H p xs∧k=!xs.isEmpty)∨(∃ xs,SqT X.K H p xs∧k=!xs.isEmpty)∨∃ kvs,H p=some (.dK kvs)∧k=!kvs.isEmpty:=e;rcases e' with ⟨xs,hx,e'⟩|⟨xs,hx,e'⟩|⟨kvs,hx,e'⟩
   · subst e';obtain⟨its,r,pl,hz⟩:=I.list hx;have hlen:=r.length;exact wpAny_truthy_list pl.isList (by simp only[List.size_toArray];omega) ⟨H,I.tok _,by rw[qbJ r];exact q⟩
   · subst e';obtain⟨its,r,pl,hz⟩:=I.tuple hx;have hlen:=r.length;exact truthy_tuple pl (by simp only[List.size_toArray];omega) ⟨H,I.tok _,by rw[qbJ r];exact q⟩
   · subst e';obtain⟨hz,hS,vs,r,m⟩:kvs.length≤sizeLine∧(p == sysModules)=false∧∃ vs,KV kvs vs∧s.heap.DictOf (qV X.prog X.w) p vs:=I.hok p _ hx;have hlen:kvs.length=vs.length:=Paired.length r;exact wpAny_truthy_dict hS m (by omega) ⟨H,I.tok _,by rw[qfj r];exact q⟩
 | _=>exact(show False from e).elim
theorem qhD (ha:PE X a ta) (he:∀ whole,isTrue a X.env whole=(do let v ← whole;standAt a.pos;holding [v] (truthy v))) :
   PT X a (fun σ H Q=>ta σ H fun x H'=>∃ k,qmG X.K x H' k∧Q k H'):=by
 intro pins s σ H Q I h;exact isTrue_plain (thn (ha pins s σ H _ I h) fun v s1 ⟨x,H1,I1,r1,q1⟩=>qkz pins s1 σ H1 x v Q I1 r1 q1) (he _)
theorem qe8:OpR X (binaryOp .Add) (fun x y H Q=>∃ i j,x=.str i∧y=.str j∧i.length+j.length≤sizeLine∧Q (.str (i++j)) H):=by
 intro pins s σ H x y v u Q I rx ry h;obtain⟨i,j,rfl,rfl,hz,q⟩:=h;obtain⟨t,rfl⟩:=rx;obtain⟨t',rfl⟩:=ry;exact add_str (fun t' tk=>⟨.str (i++j),H,I.tok _,⟨_,rfl⟩,q⟩) hz
theorem JS {x:V}{us:List Value} (r:Vals [x] us):∃ u,us=[u]∧RelV x u:=by
 cases r with
 | cons r1 r2=>cases r2;exact⟨_,rfl,r1⟩
theorem qfu {x y:V}{us:List Value} (r:Vals [x,y] us):∃ u w',us=[u,w']∧RelV x u∧RelV y w':=by
 cases r with
 | cons r1 r2 =>
   cases r2 with
   | cons r3 r4=>cases r4;exact⟨_,_,rfl,r1,r3⟩
theorem zm (hc:X.calm=true):CallR X (.builtin "max") (fun xs H Q=>∃ i j,xs=[.int i,.int j]∧Q (.int (if j > i then j else i)) H):=by
 intro pins s σ H xs us Q I r h;obtain⟨i,j,rfl,q⟩:=h;obtain⟨u,w',rfl,⟨t,rfl⟩,⟨t',rfl⟩⟩:=qfu r;refine max_two_ints (I.ok.hd hc) fun h' tk k=>⟨_,H,I.kept k,?_,q⟩
 by_cases hj:j > i
 · rw[if_pos hj,if_pos hj];exact⟨_,rfl⟩
 · rw[if_neg hj,if_neg hj];exact⟨_,rfl⟩
theorem zZ (hc:X.calm=true):CallR X (.builtin "min") (fun xs H Q=>∃ i j,xs=[.int i,.int j]∧Q (.int (if j < i then j else i)) H):=by
 intro pins s σ H xs us Q I r h;obtain⟨i,j,rfl,q⟩:=h;obtain⟨u,w',rfl,⟨t,rfl⟩,⟨t',rfl⟩⟩:=qfu r;refine min_two_ints (I.ok.hd hc) fun h' tk k=>⟨_,H,I.kept k,?_,q⟩
 by_cases hj:j < i
 · rw[if_pos hj,if_pos hj];exact⟨_,rfl⟩
 · rw[if_neg hj,if_neg hj];exact⟨_,rfl⟩
theorem qdo:CallR X (.type "int") (fun xs H Q=>(∃ i,xs=[.int i]∧Q (.int i) H)∨∃ k,xs=[.bl k]∧Q (.int (if k then 1 else 0)) H):=by
 intro pins s σ H xs us Q I r h;rcases h with ⟨i,rfl,q⟩|⟨k,rfl,q⟩
 · obtain⟨u,rfl,t,rfl⟩:=JS r;exact call_int_int ⟨.int i,H,I,⟨_,rfl⟩,q⟩
 · obtain⟨u,rfl,r1⟩:=JS r;cases r1;exact call_int_bool ⟨.int (if k then 1 else 0),H,I.tok _,⟨_,rfl⟩,q⟩
def qng (K:Frag) (x:V) (H:Hp) (n:Nat):Prop :=
 match x with
 | .str y=>y.length≤sizeLine∧n=y.length
 | .byt y=>y.size≤sizeLine∧n=y.size
 | .ref p=>(∃ xs,SqL K H p xs∧n=xs.length)∨∃ xs,SqT K H p xs∧n=xs.length
 | _=>False
theorem qZ:CallR X (.builtin "len") (fun xs H Q=>∃ x n,xs=[x]∧qng X.K x H n∧Q (.int n) H):=by
 intro pins s σ H xs us Q I r h;obtain⟨x,n,rfl,e,q⟩:=h;obtain⟨u,rfl,rx⟩:=JS r;have hl:=qbI;have hs:sizeLine=16777216:=sizeLine_eq
 cases x with
 | str y =>
   obtain⟨t,rfl⟩:=rx;obtain⟨hy,e'⟩:y.length≤sizeLine∧n=y.length:=e;subst e';exact len_str (by omega) ⟨.int _,H,I.tok _,⟨_,rfl⟩,q⟩
 | byt y =>
   obtain⟨t,rfl⟩:=rx;obtain⟨hy,e'⟩:y.size≤sizeLine∧n=y.size:=e;subst e';exact PySem.W.len_bytes (by omega) ⟨.int _,H,I.tok _,⟨_,rfl⟩,q⟩
 | ref p =>
   cases rx;have e':(∃ xs,SqL X.K H p xs∧n=xs.length)∨∃ xs,SqT X.K H p xs∧n=xs.length:=e;rcases e' with ⟨xs,hx,e'⟩|⟨xs,hx,e'⟩
   · subst e';obtain⟨its,r',pl,hz⟩:=I.list hx;have hlen:=r'.length;exact Calls.call_len_list pl.isList (by simp only[List.size_toArray];omega) ⟨.int xs.length,H,I.tok _,⟨_,by simp only[List.size_toArray];rw[hlen]⟩,q⟩
   · subst e';obtain⟨its,r',pl,hz⟩:=I.tuple hx;have hlen:=r'.length;exact len_tuple pl (by simp only[List.size_toArray];omega) ⟨.int xs.length,H,I.tok _,⟨_,by simp only[List.size_toArray];rw[hlen]⟩,q⟩
 | _=>exact(show False from e).elim
end
structure ObjM (h:Heap) (x dx C:Addr) (mA:Str->Option Value):Prop where
 obj:h.get? x=some (instObj C dx)
 ns:h.Ns1 dx mA
 ne:dx≠x
theorem qgx {h:Heap}{dx:Addr}{mA:Str->Option Value} (n:h.Ns1 dx mA):∃ od,h.get? dx=some od∧∀ name,lookIn name od=some (mA name):=by
 obtain⟨o,es,ep,ho,hd,hk,_,hm⟩:=n;refine⟨o,ho,fun name=>?_⟩;have e:=hm name;unfold nsFind findBy at e;rw[← Array.find?_toList]at e;unfold lookIn;rw[hd];dsimp only;split
 · rename_i y q
   rw[q]at e;exact congrArg some e
 · rename_i q
   rw[q]at e
   have a:es.toList.any (·.refKey)=false:=by
     rw[List.any_eq_false];intro y hy;obtain⟨z,t,hkey⟩:=hk y (Array.mem_toList_iff.mp hy);simp[DictEntry.refKey,hkey]
   have a':¬ es.toList.any (·.refKey)=true:=by rw[a];exact Bool.false_ne_true
   rw[if_neg a'];exact congrArg some e
theorem ObjM.look {h:Heap}{x dx C:Addr}{mA:Str->Option Value} (I:ObjM h x dx C mA):∃ od,PySem.W.InstAt h x (instObj C dx) C (some od)∧∀ name,lookIn name od=some (mA name) :=
 let ⟨od,ho,hl⟩:=qgx I.ns
 ⟨od,⟨I.obj,rfl,rfl,ho⟩,hl⟩
section
variable {prog:Program}{w:World}{A:Around}{E:Value->Shared->Prop}{s:Shared}{K:Frag}{x dx C f:Addr}{mA:Str->Option Value}{name:Str}{v:Value}
theorem qkj {expr:Bool}{Q:Value->Shared->Prop} (X:K.In s.heap) (I:ObjM s.heap x dx C mA) (hg:plainGet K C name=true) (hh:hasDictIn K C=true)
   (ha:findIn K (.ref C) name=some none) (hv:mA name=some v) (hv':handedIn v=true) (h:Q v { s with toks:=s.toks+1 }) :
   wpAny (model prog w) A (getAttr (.ref x) name expr) Q E s:=by
 obtain⟨od,J,hl⟩:=I.look;exact PySem.W.get_value X J (plainGet_of hg).1 (PySem.W.findObj_own hh ha rfl (by rw[hl,hv])) hv' h
theorem qil {pl:Sem Bool}{Q:Value×List Value->Shared->Prop} (X:K.In s.heap) (I:ObjM s.heap x dx C mA) (hg:plainGet K C name=true)
   (hf:findIn K (.ref C) name=some (some (.ref f))) (ht:isFn K (.ref f)=true) (hv:mA name=none) (h:Q (.ref f,[.ref x]) s) :
   wpAny (model prog w) A (getMethod (.ref x) name pl) Q E s:=by
 obtain⟨od,J,hl⟩:=I.look;exact PySem.W.method_fn X J (plainGet_of hg).1 (plainGet_of hg).2 hf (beq_iff_eq.mp ht) (by show (lookIn name od).map (·.isSome)=some false;rw[hl,hv];rfl) h
theorem qjH {ns:List Str}{Q:Unit->Shared->Prop} (X:K.In s.heap) (I:ObjM s.heap x dx C mA)
   (hs:findIn K (.ref C) "__setattr__"=some (some (.builtin "object.__setattr__"))) (hp:plainOver K C=true) (ht:takerIn K C name=some none) (hh:hasDictIn K C=true)
   (hw:PySem.Within mA ns) (hsz:ns.length≤sizeLine)
   (h:∀ h',ObjM h' x dx C (fun y=>if y=name then some v else mA y)->Heap.SameBut dx s.heap h'->Q () { s with heap:=h',toks:=s.toks+2 }) :
   wpAny (model prog w) A (setAttr (.ref x) name v) Q E s:=by
 obtain⟨od,J,hl⟩:=I.look;refine PySem.W.set_plain X J hs (PySem.W.osa_open (s:={ s with toks:=s.toks+1 }) (r:=none) X J hp ht fun b=>?_);obtain⟨cd,hc,hd'⟩:=PySem.W.any_some hh;have hx:s.heap.get? x=some ⟨.ref C,some dx,.plain,#[]⟩:=I.obj;refine wpAny_bind (wpAny_pure (wpAny_bind (wpAny_bind (wpAny_loadPart hx (wpAny_bind (PySem.W.Looks.here (s:={ s with toks:=s.toks+1 }) (PySem.W.looks_clsIn X hc) ?_))))));rw[hd'];refine wpAny_pure (a:=some dx) (wpAny_bind (wpAny_pure (wpAny_bind ?_)));refine wpAny_nsSet1 (s:={ s with toks:=s.toks+1 }) I.ns fun h' hn2 hs2=>?_;obtain⟨oD,esD,epD,hoD,hdD,hcD⟩:=hn2.count (PySem.Within.cons name v hw);refine wpAny_bind (wpAny_lookBehind hoD (by rw[hdD];exact pastItsLine_dict (Nat.le_trans hcD (by rw[List.length_cons];omega))) ?_);exact wpAny_pure (h _ ⟨(hs2.2 _ (Ne.symm I.ne)).trans I.obj,hn2,I.ne⟩ hs2)
theorem qh4 {R:Result->Shared->Prop}{vs:List Value}{kw:List (Str×Value)} (X:K.In s.heap) (hm:makesIn K C=true)
   (hi:findIn K (.ref C) "__init__"=some (some (.ref f))) (hf:PySem.W.typeIn K (.ref f)=some (.type "function"))
   (h:codeAny (model prog w) (A.under (.builtin "type.__call__" ⟨.ref C::vs,kw⟩)) (.call (.ref f) ⟨.ref (s.heap.objs.size+1)::vs,kw⟩) (PySem.W.InitBack (s.heap.objs.size+1) R)
     { s with heap:=(s.heap.push emptyDict).push (instObj C s.heap.objs.size) }) :
   codeAny (model prog w) A (.call (.ref C) ⟨vs,kw⟩) R s:=by
 obtain⟨hh,g,d,t,os⟩:=s;exact PySem.W.make_core (PySem.W.makes_of X hm) (PySem.W.looks_findIn X hi) (fun self=>PySem.W.bind_fn X self hf) (.inl rfl) h
end
def qc1 (f:Str) (v:V):List (Str×V)->List (Str×V)
 | []=>[(f,v)]
 | (g,x)::r=>if g=f then (g,v)::r else (g,x)::qc1 f v r
theorem Zd (f g:Str) (v:V):∀ fs:List (Str×V),(qc1 f v fs).lookup g=if g=f then some v else fs.lookup g
 | []=>by
   show List.lookup g [(f,v)]=_;by_cases h:g=f
   · have hb:(g == f)=true:=beq_iff_eq.mpr h;simp only[List.lookup,hb,if_pos h]
   · have hb:(g == f)=false:=beq_eq_false_iff_ne.mpr h;simp only[List.lookup,hb,if_neg h]
 | (k,x)::r=>by
   have ih:=Zd f g v r;rw[show qc1 f v ((k,x)::r)=(if k=f then (k,v)::r else (k,x)::qc1 f v r) from rfl];by_cases hk:k=f
   · rw[if_pos hk];by_cases h:g=k
     · have hb:(g == k)=true:=beq_iff_eq.mpr h;simp only[List.lookup,hb,if_pos (h.trans hk)]
     · have hb:(g == k)=false:=beq_eq_false_iff_ne.mpr h;simp only[List.lookup,hb,if_neg (fun e:g=f=>h (e.trans hk.symm))]
   · rw[if_neg hk];by_cases h:g=k
     · have hb:(g == k)=true:=beq_iff_eq.mpr h;simp only[List.lookup,hb,if_neg (fun e:g=f=>hk (h.symm.trans e))]
     · have hb:(g == k)=false:=beq_eq_false_iff_ne.mpr h;simp only[List.lookup,hb];exact ih
theorem qaR (f:Str) (v:V):∀ fs:List (Str×V),f∈(qc1 f v fs).map (·.1)∧∀ g,g∈fs.map (·.1)->g∈(qc1 f v fs).map (·.1)
 | []=>⟨by simp[qc1],fun g h=>by simp at h⟩
 | (k,x)::r=>by
   obtain⟨i1,i2⟩:=qaR f v r;rw[show qc1 f v ((k,x)::r)=(if k=f then (k,v)::r else (k,x)::qc1 f v r) from rfl];by_cases hk:k=f
   · rw[if_pos hk];subst hk;exact⟨by simp,fun g h=>by simpa using h⟩
   · rw[if_neg hk];refine⟨?_,fun g h=>?_⟩
     · rw[List.map_cons];exact List.mem_cons_of_mem _ i1
     · rw[List.map_cons]at h ⊢;rcases List.mem_cons.mp h with e|e
       · exact List.mem_cons.mpr (.inl e)
       · exact List.mem_cons_of_mem _ (i2 g e)
theorem qaL (f:Str) (v:V):∀ fs:List (Str×V),(qc1 f v fs).length≤fs.length+1
 | []=>by simp[qc1]
 | (k,x)::r=>by
   have ih:=qaL f v r;rw[show qc1 f v ((k,x)::r)=(if k=f then (k,v)::r else (k,x)::qc1 f v r) from rfl];by_cases hk:k=f
   · rw[if_pos hk,List.length_cons,List.length_cons];omega
   · rw[if_neg hk,List.length_cons,List.length_cons];omega
theorem RelO.some_of {v:V}{o:Option Value} (r:RelO (some v) o):∃ u,o=some u∧RelV v u:=by
 cases o with
 | none=>exact(show False from r).elim
 | some u=>exact⟨u,rfl,r⟩
theorem RelO.none_of {o:Option Value} (r:RelO none o):o=none:=by
 cases o with
 | none=>rfl
 | some u=>exact(show False from r).elim
theorem qgP {v:V}{u:Value} (r:RelV v u):handedIn u=true:=by
 cases v with
 | non=>cases (show u=Value.none from r);rfl
 | bl b=>cases (show u=Value.bool b from r);rfl
 | int i=>obtain⟨t,e⟩:=(show ∃ t,u=Value.int i t from r);cases e;rfl
 | str x=>obtain⟨t,e⟩:=(show ∃ t,u=Value.str x t from r);cases e;rfl
 | byt b=>obtain⟨t,e⟩:=(show ∃ t,u=Value.bytes b t from r);cases e;rfl
 | flt b=>obtain⟨t,e⟩:=(show ∃ t,u=Value.float b t from r);cases e;rfl
 | ref a=>cases (show u=Value.ref a from r);rfl
 | ty n=>cases (show u=Value.type n from r);rfl
section
variable {P:Program}{w:World}{H H':Hp}{h h':Heap}{a C dx:Addr}{fs fs':List (Str×V)}
theorem qcq (hok:HOk P w H h) (e:H a=some (.ins C dx fs)):∃ mA,ObjM h a dx C mA∧(∀ f,RelO (fs.lookup f) (mA f))∧PySem.Within mA (fs.map (·.1))∧fs.length≤1000∧H dx=some (.own a):=by
 obtain⟨d,z,ne,ob,mA,n,r,q⟩:=(show ObjOk P w H h a (.ins C dx fs) from hok a _ e)
 exact⟨mA,⟨ob,n,ne⟩,r,q,z,d⟩
end
structure Cls (K:Frag) (C:Addr):Prop where
 pg:plainGet K C Str.empty=true
 hd:hasDictIn K C=true
 po:plainOver K C=true
 sa:findIn K (.ref C) "__setattr__"=some (some (.builtin "object.__setattr__"))
theorem Cls.get {K:Frag}{C:Addr} (c:Cls K C) (f:Str):plainGet K C f=true:=c.pg
def NoAttr (K:Frag) (C:Addr) (f:Str):Prop:=findIn K (.ref C) f=some none
theorem NoAttr.taker {K:Frag}{C:Addr}{f:Str} (n:NoAttr K C f):takerIn K C f=some none:=by
 unfold takerIn;rw[show findIn K (.ref C) f=some none from n];rfl
structure qho (K:Frag) (C:Addr) (m:Str) (f:Addr):Prop where
 at_:findIn K (.ref C) m=some (some (.ref f))
 fn:isFn K (.ref f)=true
 kp:keepIn K (.ref f)=true
section
variable {X:Cx}{pins:List (Addr×Obj)}{σ:St}{H:Hp}{s:Shared}{a C dx:Addr}{fs:List (Str×V)}{f:Str}{v:V}{A:Around}{E:Value->Shared->Prop}
theorem qfk {b:Bool}{Q:Value->Shared->Prop} (I:Inv X pins σ H s) (e:H a=some (.ins C dx fs)) (c:Cls X.K C) (n:NoAttr X.K C f) (l:fs.lookup f=some v)
   (h:∀ u s',Inv X pins σ H s'->RelV v u->Q u s'):wpAny (model X.prog X.w) A (getAttr (.ref a) f b) Q E s:=by
 obtain⟨mA,O,r,_,_,_⟩:=qcq I.hok e;obtain⟨u,hu,ru⟩:=RelO.some_of (v:=v) (o:=mA f) (by rw[← l];exact r f);exact qkj I.kIn O (c.get f) c.hd n hu (qgP ru) (h u _ (I.tok _) ru)
theorem qbK {m:Str}{g:Addr}{pl:Sem Bool}{Q:Value×List Value->Shared->Prop} (I:Inv X pins σ H s) (e:H a=some (.ins C dx fs)) (c:Cls X.K C) (k:qho X.K C m g) (l:fs.lookup m=none)
   (h:Q (.ref g,[.ref a]) s):wpAny (model X.prog X.w) A (getMethod (.ref a) m pl) Q E s:=by
 obtain⟨mA,O,r,_,_,_⟩:=qcq I.hok e;have hn:mA m=none:=RelO.none_of (by rw[← l];exact r m);exact qil I.kIn O (c.get m) k.at_ k.fn hn h
theorem qe3 {y:V}{u:Value}{Q:Unit->Shared->Prop} (I:Inv X pins σ H s) (e:H a=some (.ins C dx fs)) (c:Cls X.K C) (n:NoAttr X.K C f) (hl:fs.length < 1000) (ry:RelV y u)
   (h:∀ s',Inv X pins σ (upd H a (.ins C dx (qc1 f y fs))) s'->Q () s'):wpAny (model X.prog X.w) A (setAttr (.ref a) f u) Q E s:=by
 obtain⟨mA,O,r,wi,_,ho⟩:=qcq I.hok e;have hz:(fs.map (·.1)).length≤sizeLine:=by rw[List.length_map,sizeLine_eq];omega
 refine qjH I.kIn O c.sa c.po n.taker c.hd wi hz fun h' O' sb=>h _ ?_;have hd:∃ o,h'.get? dx=some o:=let ⟨o,_,_,e',_⟩:=O'.ns;⟨o,e'⟩;refine I.write (x:=a) (e:=dx) (by rw[e];exact True.intro) (.inr ho) (fun b q hb z=>(sb.2 b hb).trans z) hd ?_;refine⟨by rw[qh O.ne];exact ho,?_,O.ne,O'.obj,_,O'.ns,fun g=>?_,fun g hg=>?_⟩
 · have:=qaL f y fs;omega
 · show RelO ((qc1 f y fs).lookup g) (if g=f then some u else mA g);rw[Zd];by_cases q:g=f
   · rw[if_pos q,if_pos q];exact ry
   · rw[if_neg q,if_neg q];exact r g
 · by_cases q:g=f
   · rw[q];exact(qaR f y fs).1
   · refine(qaR f y fs).2 g (wi g fun z=>hg ?_);show (if g=f then some u else mA g)=none;rw[if_neg q];exact z
theorem Inv.made (I:Inv X pins σ H s):Inv X pins σ (upd (upd H s.heap.objs.size (.own (s.heap.objs.size+1))) (s.heap.objs.size+1) (.ins C s.heap.objs.size []))
   { s with heap:=(s.heap.push emptyDict).push (instObj C s.heap.objs.size) }:=by
 have e1:(s.heap.push emptyDict).get? s.heap.objs.size=some emptyDict:=Heap.get?_push_size s.heap rfl
 have e2:((s.heap.push emptyDict).push (instObj C s.heap.objs.size)).get? (s.heap.objs.size+1)=some (instObj C s.heap.objs.size):=by
   have:=Heap.get?_push_size (s.heap.push emptyDict) (o:=instObj C s.heap.objs.size) rfl
   rwa [Heap.size_push]at this
 have e3:(s.heap.push emptyDict).Ns s.heap.objs.size (fun _=>none):=⟨emptyDict,#[],_,e1,rfl,(fun e he=>absurd he (by simp)),fun _=>rfl⟩
 have I1:=I.laid (a:=s.heap.objs.size) (o:=.own (s.heap.objs.size+1)) (h':=s.heap.push emptyDict) (t':=s.toks) (fun b u q=>Heap.get?_push_of_some _ q) (Nat.le_refl _) ⟨_,e1⟩;refine I1.laid (a:=s.heap.objs.size+1) (o:=.ins C s.heap.objs.size []) (t':=s.toks) (fun b u q=>Heap.get?_push_of_some _ q) (Nat.le_of_eq (Heap.size_push _ _)) ?_;have ne:s.heap.objs.size≠s.heap.objs.size+1:=Nat.ne_of_lt (Nat.lt_succ_self _);refine⟨by rw[qh ne,qd],Nat.zero_le _,ne,e2,fun _=>none,(Heap.Ns1.of_empty e3).at fun o q=>Heap.get?_push_of_some _ q,fun _=>True.intro,fun y hy=>absurd rfl hy⟩
theorem qkp {prog:Program}{w:World}{env:Env}{e:Expr}{f:Str}{pos:Pos}{s:Shared}{Q:Value->Shared->Prop} (hb:attributeBase e f env (eval e env)=eval e env)
   (h:wpAny (model prog w) A (eval e env) (fun o s₁=>wpAny (model prog w) A (getAttr o f true) Q E s₁) E s):wpAny (model prog w) A (eval (.Attribute e f pos) env) Q E s :=
 Attribute_any_ h (by rw[arm_eval_Attribute,hb])
end
inductive qiH (K:Frag) (f:Str) (Q:VK) (x:V) (H1:Hp):Prop
 | mk (a C dx fs v:_) (h1:x=.ref a) (h2:H1 a=some (.ins C dx fs)) (h3:Cls K C) (h4:NoAttr K C f) (h5:fs.lookup f=some v) (h6:Q v H1):qiH K f Q x H1
def qmU (K:Frag) (ta:TE) (f:Str):TE:=fun σ H Q=>ta σ H fun x H1=>qiH K f Q x H1
def qmX (K:Frag) (ta tv:TE) (f:Str):TS:=fun D σ H=>tv σ H fun y H1=>ta σ H1 fun x H2=>∃ a C dx fs,x=.ref a∧H2 a=some (.ins C dx fs)∧Cls K C∧NoAttr K C f∧fs.length < 1000 ∧
 D.nx σ (upd H2 a (.ins C dx (qc1 f y fs)))
section
variable {X:Cx}{o e value:Expr}{f:Str}{pos pos' tpos:Pos}{ta tv:TE}
theorem qU (he:PE X e ta) (hb:attributeBase e f X.env (eval e X.env)=eval e X.env):PE X (.Attribute e f pos) (qmU X.K ta f):=by
 intro pins s σ H Q I h;refine qkp hb (thn (he pins s σ H _ I h) fun u s1 zz_=>?_);obtain⟨x,H1,I1,rx,a,C,dx,fs,v,ex,ea,c,n,l,q⟩:=zz_;subst ex;obtain rfl:u=Value.ref a:=rx;exact qfk I1 ea c n l fun u' s2 I2 ru=>⟨v,H1,I2,ru,q⟩
theorem QU (ha:PE X o ta) (hv:PE X value tv) (hs:swapsWith value (some (.Attribute o f pos')) pos.line X.env=pure false):PS X (.Assign [.Attribute o f pos'] value pos) (qmX X.K ta tv f):=by
 intro pins s σ H D I h;refine plainObj_wpAny_Assign_Attribute (thn (hv pins s σ H _ I h) fun u s1 ⟨y,H1,I1,ry,q⟩=>thn (ha pins s1 σ H1 _ I1 q) fun ov s2 zz_=>?_) hs;obtain⟨x,H2,I2,rx,a,C,dx,fs,ex,ea,c,n,l,q2⟩:=zz_;subst ex;obtain rfl:ov=Value.ref a:=rx;exact qe3 I2 ea c n l ry fun s3 I3=>⟨σ,_,I3,q2⟩
end
section
variable {X:Cx}{pins:List (Addr×Obj)}{σ:St}{H:Hp}{s:Shared}{A:Around}{E:Value->Shared->Prop}{Q:Value->Shared->Prop}{c:Value}{b:Bool}
inductive qdz (K:Frag) (H:Hp):V->Value->Prop where
 | non:qdz K H .non (.type "NoneType")
 | bl (x:Bool):qdz K H (.bl x) (.type "bool")
 | int (i:Int):qdz K H (.int i) (.type "int")
 | str (x:Str):qdz K H (.str x) (.type "str")
 | flt (x:UInt64):qdz K H (.flt x) (.type "float")
 | lst {a:Addr}{xs:List V} (e:H a=some (.lst xs)):qdz K H (.ref a) (.type "list")
 | frz {a:Addr}{o:Obj}{xs:List V} (e:H a=some (.frz o (.lst xs))):qdz K H (.ref a) (.type "list")
 | tup {a:Addr}{xs:List V} (e:H a=some (.tup xs)):qdz K H (.ref a) (.type "tuple")
 | dK {a:Addr}{kvs:List (Key×V)} (e:H a=some (.dK kvs)):qdz K H (.ref a) (.type "dict")
 | dT {a:Addr}{kvs:List (List Key×V)} (e:H a=some (.dT kvs)):qdz K H (.ref a) (.type "dict")
 | ins {a C dx:Addr}{fs:List (Str×V)} (e:H a=some (.ins C dx fs)) (cl:Cls K C) (ha:findIn K (.ref C) "__class__"=some (some (.builtin "object.__class__")))
     (hn:PySem.W.specialIn K (.builtin "object.__class__") "__get__"=some (some (.builtin "getset_descriptor.__get__"))) (htk:PySem.W.takesIn K (.builtin "object.__class__")=some true)
     (hm:PySem.W.mroIn K C (.type "object")=some true):qdz K H (.ref a) (.ref C)
theorem qdk {x:V}{u t:Value} (I:Inv X pins σ H s) (rx:RelV x u) (ty:qdz X.K H x t) (e:PySem.W.kitOne X.K t c=some b) (h:∀ tk,Q (.bool b) { s with toks:=tk }) :
   wpAny (model X.prog X.w) A (call (.builtin "isinstance") [u,c]) Q E s:=by
 cases ty with
 | non=>cases (show u=Value.none from rx);exact kia_one PySem.W.kitx_none I.kIn True.intro e (fun z=>nomatch z) h
 | bl y=>cases (show u=Value.bool y from rx);exact kia_one PySem.W.kitx_bool I.kIn True.intro e (fun z=>nomatch z) h
 | int i=>obtain⟨t,q⟩:=(show ∃ t,u=Value.int i t from rx);cases q;exact kia_one PySem.W.kitx_int I.kIn True.intro e (fun z=>nomatch z) h
 | str y=>obtain⟨t,q⟩:=(show ∃ t,u=Value.str y t from rx);cases q;exact kia_one PySem.W.kitx_str I.kIn True.intro e (fun z=>nomatch z) h
 | flt y=>obtain⟨t,q⟩:=(show ∃ t,u=Value.float y t from rx);cases q;exact kia_one PySem.W.kitx_float I.kIn True.intro e (fun z=>nomatch z) h
 | @lst a xs ea =>
   cases (show u=Value.ref a from rx);obtain⟨_,_,n,_,h1⟩:=(show ObjOk X.prog X.w H s.heap a (.lst xs) from I.hok a _ ea)
   exact kia_one kitx_list I.kIn ⟨_,h1,rfl⟩ e (fun z=>nomatch z) h
 | @frz a ob xs ea =>
   cases (show u=Value.ref a from rx);obtain⟨_,_,_,n,_,h1⟩:=(show ObjOk X.prog X.w H s.heap a (.frz ob (.lst xs)) from I.hok a _ ea)
   exact kia_one kitx_list I.kIn ⟨_,h1,rfl⟩ e (fun z=>nomatch z) h
 | @tup a xs ea =>
   cases (show u=Value.ref a from rx);obtain⟨_,_,_,p⟩:=(show ObjOk X.prog X.w H s.heap a (.tup xs) from I.hok a _ ea)
   obtain⟨o,h1,h2,_⟩:=p;exact kia_one PySem.W.kitx_tuple I.kIn ⟨o,h1,h2⟩ e (fun z=>nomatch z) h
 | @dK a kvs ea =>
   cases (show u=Value.ref a from rx);obtain⟨_,_,vs,_,p⟩:=(show ObjOk X.prog X.w H s.heap a (.dK kvs) from I.hok a _ ea)
   obtain⟨o,es,ep,h1,h2,_⟩:=p;exact kia_one kitx_dict I.kIn ⟨o,h1,h2.1⟩ e (fun z=>nomatch z) h
 | @dT a kvs ea =>
   cases (show u=Value.ref a from rx);obtain⟨_,_,xs,_,o,es,ep,h1,h2,_⟩:=(show ObjOk X.prog X.w H s.heap a (.dT kvs) from I.hok a _ ea)
   exact kia_one kitx_dict I.kIn ⟨o,h1,h2.1⟩ e (fun z=>nomatch z) h
 | @ins a C dx fs ea cl ha hn htk hm =>
   cases (show u=Value.ref a from rx);obtain⟨mA,O,_⟩:=qcq I.hok ea;obtain⟨od,J,_⟩:=O.look;exact kia_one (PySem.W.kitx_own (cl.get _) cl.hd ha hn htk hm) I.kIn J e (fun z=>nomatch z) h
end
structure Room (k:Nat) (A:Around):Prop where
 hd:A.handled=none
 dp:A.depth+3 * k+5 < recursionLimit
 un:A.units+16 * k+200 < cLine
 gd:A.guards=some []
theorem Room.mono {j k:Nat}{A:Around} (r:Room k A) (h:j≤k):Room j A:=⟨r.hd,by have:=r.dp;omega,by have:=r.un;omega,r.gd⟩
theorem Room.deeper {k:Nat}{A:Around} (r:Room (k+1) A) (env:Env):Room k (A.deeper env) :=
 ⟨r.hd,by have:=r.dp;show A.depth+1+3 * k+5 < _;omega,by have:=r.un;show A.units+3+16 * k+200 < _;omega,r.gd⟩
theorem qff {A:Around}{C:Addr}{us:List Value}{kw:List (Str×Value)}:(A.under (.builtin "type.__call__" ⟨.ref C::us,kw⟩)).depth=A.depth+1:=by
 first|rfl|simp[Around.under,Code.weight,Code.isCreation,Code.isGuard,Code.isCaller,Code.frames,Code.isFrame,guardIds]
theorem qfe {A:Around}{C:Addr}{us:List Value}{kw:List (Str×Value)}:(A.under (.builtin "type.__call__" ⟨.ref C::us,kw⟩)).units=A.units+1:=by
 first|rfl|simp[Around.under,Code.cUnits,Code.frames,Code.isFrame]
theorem Room.make {k:Nat}{A:Around} (r:Room (k+1) A) (C:Addr) (us:List Value) (kw:List (Str×Value)):Room k (A.under (.builtin "type.__call__" ⟨.ref C::us,kw⟩)) :=
 ⟨r.hd,by have:=r.dp;rw[qff];omega,by have:=r.un;rw[qfe];omega,r.gd⟩
theorem Room.depth {k:Nat}{A:Around} (r:Room k A):A.depth < recursionLimit:=by have:=r.dp;omega
theorem Room.units {k:Nat}{A:Around} (r:Room k A):A.units+64 < cLine:=by have:=r.un;omega
def qdG:TA:=fun _ H Q=>Q [] H
def qlR (ta:TE) (tr:TA):TA:=fun σ H Q=>ta σ H fun x H1=>tr σ H1 fun xs H2=>Q (x::xs) H2
section
variable {X:Cx}{e:Expr}{es:List Expr}{te:TE}{t:TA}{pos:Pos}
theorem qb:PA X [] qdG:=fun _ _ _ _ H Q I h=>Calls.spliced_nil ⟨[],H,I,.nil,h⟩
theorem qa (ha:PE X e te) (hr:PA X es t) (hs:starEach (e::es) X.env=(false,eval e X.env)::starEach es X.env:=by rfl):PA X (e::es) (qlR te t):=by
 intro pos pins s σ H Q I h;rw[hs];show wpAny _ _ (spliced ((false,eval e X.env)::backTo pos (starEach es X.env))) _ _ s;refine Calls.spliced_cons (thn (ha pins s σ H _ I h) fun u s1 zz_=>?_);obtain⟨x,H1,I1,r1,q1⟩:=zz_;exact thn (hr pos pins s1 σ H1 _ I1 q1) fun us s2 ⟨xs,H2,I2,r2,q2⟩=>⟨x::xs,H2,I2,.cons r1 r2,q2⟩
def qmQ (t:TA):TE:=fun σ H Q=>t σ H fun xs H1=>xs.length≤sizeLine∧∀ p,H1 p=none->Q (.ref p) (upd H1 p (.tup xs))
def qmT (t:TA):TE:=fun σ H Q=>t σ H fun xs H1=>xs.length≤sizeLine∧∀ p,H1 p=none->Q (.ref p) (upd H1 p (.lst xs))
theorem zf {x1} (h:PA X es t):PE X (.Tuple es x1 pos) (qmQ t):=by
 intro pins s σ H Q I hq;refine wpAny_Tuple_spliced (thn (h pos pins s σ H _ I hq) fun us s1 ⟨xs,H1,I1,r,z,q⟩=>⟨by rw[← r.length];exact z,?_⟩);have hf:H1 s1.heap.objs.size=none:=I1.hok.fresh (Nat.le_refl _);refine⟨.ref s1.heap.objs.size,upd H1 s1.heap.objs.size (.tup xs),I1.laid (t':=s1.toks) (fun b u e=>Heap.get?_push_of_some _ e) (Nat.le_refl _) ?_,rfl,q _ hf⟩;exact⟨z,us,r,⟨_,Heap.get?_push_size _ rfl,rfl,_,rfl⟩⟩
theorem qY (h:PA X es t):PE X (.List es pos) (qmT t):=by
 intro pins s σ H Q I hq;refine wpAny_List_spliced (thn (h pos pins s σ H _ I hq) fun us s1 ⟨xs,H1,I1,r,z,q⟩=>⟨by rw[← r.length];exact z,?_⟩);have hf:H1 s1.heap.objs.size=none:=I1.hok.fresh (Nat.le_refl _);refine⟨.ref s1.heap.objs.size,upd H1 s1.heap.objs.size (.lst xs),I1.laid (t':=s1.toks) (fun b u e=>Heap.get?_push_of_some _ e) (Nat.le_refl _) ?_,rfl,q _ hf⟩;exact⟨z,us,0,r,Heap.get?_push_size _ rfl⟩
end
abbrev Sp:=List V->Hp->VK->XK->Prop
abbrev CXT:=List Env->Hp->Shared->XK->Value->Shared->Prop
structure Env0 (P:Program) (w:World) (K:Frag) (mg:Str->Option Value) (base:Heap) (A:Around) (outer:List Env) (s:Shared) (H:Hp):Prop where
 frames:A.frames=some outer
 mod:Mod K mg base
 bs:∀ b o,base.get? b=some o->s.heap.get? b=some o∧H b=none
 bsz:base.objs.size≤s.heap.objs.size
 funs:s.heap.FunFrames base outer
 frf:∀ b∈frs outer,H b=none
 hok:HOk P w H s.heap
 bare:AllBare s.gens
def CE (outer:List Env) (P:Program) (w:World) (H:Hp) (s:Shared) (Q:VK) (u:Value) (s':Shared):Prop :=
 ∃ v H',s'.os=s.os∧AllBare s'.gens∧Un (frs outer) [] H H' s.heap s'.heap∧HOk P w H' s'.heap∧RelV v u∧Q v H'
def CR (CX:CXT) (outer:List Env) (P:Program) (w:World) (H:Hp) (s:Shared) (Q:VK) (E:XK) (r:Result) (s':Shared):Prop :=
 match r with
 | .ok (.ret u)=>CE outer P w H s Q u s'
 | .ok _=>False
 | .error e=>CX outer H s E e s'
structure qy (P:Program) (w:World) (K:Frag) (mg:Str->Option Value) (base:Heap) (CX:CXT) (k:Nat) (f:Addr) (fd:FuncData) (ps:List Str) (sp:Sp):Prop where
 len:∀ vs H Q E,sp vs H Q E->vs.length=ps.length
 run:∀ (A:Around) (outer:List Env) (s:Shared) (H:Hp) (args:Args) (us:List Value) (vs:List V) (Q:VK) (E:XK),Room k A->Env0 P w K mg base A outer s H->BindsTo s fd args (ps.zip us)->Vals vs us->sp vs H Q E ->
   codeAny (model P w) A (.call (.ref f) args) (CR CX outer P w H s Q E) s
theorem Env0.make {P:Program}{w:World}{K:Frag}{mg:Str->Option Value}{base:Heap}{A:Around}{outer:List Env}{s:Shared}{H:Hp} (e:Env0 P w K mg base A outer s H) (C:Addr) (us:List Value) (kw:List (Str×Value)) :
   Env0 P w K mg base (A.under (.builtin "type.__call__" ⟨.ref C::us,kw⟩)) outer s H:=⟨by first|exact e.frames|(simpa[Around.under,Code.envs,Code.isFrame,pushEnvs] using e.frames),e.mod,e.bs,e.bsz,e.funs,e.frf,e.hok,e.bare⟩
section
variable {X:Cx}{pins:List (Addr×Obj)}{σ:St}{H:Hp}{s s':Shared}
theorem Inv.env0 (I:Inv X pins σ H s):Env0 X.prog X.w X.K X.mg X.base X.A X.stack s H :=
 ⟨I.ok.frames,I.ok.mod,I.bs,Nat.le_trans I.ok.bsz I.sz,I.stack,I.stkFree,I.hok,I.bare⟩
theorem Inv.after {Q:VK}{u:Value} (I:Inv X pins σ H s) (h:CE X.stack X.prog X.w H s Q u s'):EP X pins σ Q u s':=by
 obtain⟨v,H',os,bare,un,hok,r,q⟩:=h;obtain⟨hh,g,d,t,os'⟩:=s';obtain rfl:os'=s.os:=os;exact⟨v,H',I.call (h':=hh) (g':=g) (d':=d) (t':=t) (ch:=[]) un hok bare (fun b z=>absurd z (by simp)),r,q⟩
end
def qkG (sp:Sp) (dvs:List V) (E:XK) (t:TA):TE:=fun σ H Q=>t σ H fun vs H1=>sp (vs++dvs) H1 Q E
inductive qfG (C:Addr) (m:Str) (sp:Sp) (dvs:List V) (E:XK) (t:TA) (σ:St) (Q:VK) (x:V) (H1:Hp):Prop
 | mk (a dx fs:_) (h1:x=.ref a) (h2:H1 a=some (.ins C dx fs)) (h3:fs.lookup m=none) (h4:t σ H1 fun vs H2=>sp (x::(vs++dvs)) H2 Q E):qfG C m sp dvs E t σ Q x H1
def zR (C:Addr) (m:Str) (sp:Sp) (dvs:List V) (E:XK) (ta:TE) (t:TA):TE:=fun σ H Q=>ta σ H fun x H1=>qfG C m sp dvs E t σ Q x H1
def qkB (C:Addr) (sp:Sp) (dvs:List V) (E:XK) (t:TA):TE:=fun σ H Q=>t σ H fun vs H1=>∀ x dx,H1 x=none->H1 dx=none->dx≠x ->
 sp (.ref x::(vs++dvs)) (upd (upd H1 dx (.own x)) x (.ins C dx [])) (fun v H2=>v=.non∧Q (.ref x) H2) E
def Binds (K:Frag) (fd:FuncData) (ps:List Str) (ds:List Value):Prop :=
 ∀ (s:Shared) (us:List Value),K.In s.heap->(us++ds).length=ps.length->BindsTo s fd ⟨us,[]⟩ (ps.zip (us++ds))
theorem Binds.all {K:Frag}{fd:FuncData}{ps:List Str} (h:∀ us:List Value,us.length=ps.length->bindArgs fd ⟨us,[]⟩=pure (ps.zip us)):Binds K fd ps []:=fun s us _ hl=>by
 rw[List.append_nil]at hl ⊢;exact .of_eq (h us hl)
def JR (CX:CXT) (X:Cx) (E:XK):Prop:=∀ (pins:List (Addr×Obj)) (σ:St) (H:Hp) (s:Shared) (e:Value) (s':Shared),Inv X pins σ H s->CX X.stack H s E e s'->X.xe e s'
section
variable {X:Cx}{CX:CXT}{k:Nat}{f C:Addr}{fd:FuncData}{ps:List Str}{sp:Sp}{dvs:List V}{ds:List Value}{E:XK}{x m:Str}{p pos apos:Pos}{e o:Expr}{es:List Expr}{ta:TE}{t:TA}
theorem qcY {pins:List (Addr×Obj)}{σ:St}{H:Hp}{s:Shared}{Q:VK}{us:List Value}{vs:List V} (F:qy X.prog X.w X.K X.mg X.base CX k f fd ps sp) (hr:Room k X.A) (hb:Binds X.K fd ps ds) (hd:Vals dvs ds) (hx:JR CX X E)
   (I:Inv X pins σ H s) (r:Vals vs us) (h:sp (vs++dvs) H Q E):wpAny (model X.prog X.w) X.A (call (.ref f) us) (EP X pins σ Q) X.xe s:=by
 have r2:Vals (vs++dvs) (us++ds):=r.append hd;have hl:(us++ds).length=ps.length:=by rw[← r2.length];exact F.len _ _ _ _ h
 refine wpAny_call (codeAny_mono (F.run X.A X.stack s H ⟨us,[]⟩ (us++ds) (vs++dvs) Q E hr I.env0 (hb s us I.kIn hl) r2 h) fun r s' hq=>?_)
 cases r with
 | error e=>exact hx pins σ H s e s' I hq
 | ok fl =>
   cases fl with
   | ret u=>exact I.after hq
   | next=>exact False.elim hq
   | brk=>exact False.elim hq
   | cont=>exact False.elim hq
theorem qj (F:qy X.prog X.w X.K X.mg X.base CX k f fd ps sp) (hr:Room k X.A) (hg:Gl X x) (hm:X.mg x=some (.ref f)) (hk:keepIn X.K (.ref f)=true) (hb:Binds X.K fd ps ds) (hd:Vals dvs ds) (hx:JR CX X E)
   (ha:PA X (e::es) t) (hdb:(x == ("__debug__":Str))=false:=by decide) (he:starEach (e::es) X.env=(false,eval e X.env)::starEach es X.env:=by rfl) (hpl:(backTo pos (starEach es X.env)).any (·.1)=false:=by rfl) :
   PE X (.Call (.Name x p) (e::es) [] pos) (qkG sp dvs E t):=by
 intro pins s σ H Q I h;refine wpAny_Call_Name_kw (qaM I hg hm ?_ hdb);refine callWith_K (h₀:=X.base) I.ok.mod.kin hk (thn (ha pos pins s σ H _ I h) fun us s1 ⟨vs,H1,I1,r,q⟩=>⟨I1.kIn,?_⟩) he hpl;exact qcY F hr hb hd hx I1 r q
theorem qL {pl:Sem Bool} (he:PE X o ta) (c:Cls X.K C) (hm:qho X.K C m f) (F:qy X.prog X.w X.K X.mg X.base CX k f fd ps sp) (hr:Room k X.A) (hb:Binds X.K fd ps ds) (hd:Vals dvs ds) (hx:JR CX X E) (ha:PA X (e::es) t)
   (hst:starEach (e::es) X.env=(false,eval e X.env)::starEach es X.env:=by rfl) (hpl:(backTo pos (starEach es X.env)).any (·.1)=false:=by rfl)
   (ht:eval (.Call (.Attribute o m apos) (e::es) [] pos) X.env=(do
     let ov ← eval o X.env
     standAt apos.atName
     let (f,first) ← holding [ov] (getMethod ov m pl)
     callWith pos f first (backTo pos (starEach (e::es) X.env)) (backToKw pos (keywordEach [] X.env))):=by rfl) :
   PE X (.Call (.Attribute o m apos) (e::es) [] pos) (zR C m sp dvs E ta t):=by
 intro pins s σ H Q I h;refine PySem.W.methodCall_KW (pl:=pl) (thn (he pins s σ H _ I h) fun u s1 zz_=>?_) ht;obtain⟨x,H1,I1,rx,a,dx,fs,ex,ea,l,q⟩:=zz_;subst ex;obtain rfl:u=Value.ref a:=rx;refine qbK I1 ea c hm l ?_;refine callWith_K (first:=[.ref a]) (h₀:=X.base) I.ok.mod.kin hm.kp (thn (ha pos pins s1 σ H1 _ I1 q) fun us s2 ⟨vs,H2,I2,r,q2⟩=>⟨I2.kIn,?_⟩) hst hpl;exact qcY (us:=.ref a::us) (vs:=.ref a::vs) F hr hb hd hx I2 (.cons rfl r) q2
theorem zd {pl:Sem Bool} (he:PE X o ta) (c:Cls X.K C) (hm:qho X.K C m f) (F:qy X.prog X.w X.K X.mg X.base CX k f fd ps sp) (hr:Room k X.A) (hb:Binds X.K fd ps ds) (hd:Vals dvs ds) (hx:JR CX X E)
   (ht:eval (.Call (.Attribute o m apos) [] [] pos) X.env=(do
     let ov ← eval o X.env
     standAt apos.atName
     let (f,first) ← holding [ov] (getMethod ov m pl)
     callWith pos f first (backTo pos (starEach [] X.env)) (backToKw pos (keywordEach [] X.env))):=by rfl) :
   PE X (.Call (.Attribute o m apos) [] [] pos) (zR C m sp dvs E ta qdG):=by
 intro pins s σ H Q I h;refine PySem.W.methodCall_KW (pl:=pl) (thn (he pins s σ H _ I h) fun u s1 zz_=>?_) ht;obtain⟨x,H1,I1,rx,a,dx,fs,ex,ea,l,q⟩:=zz_;subst ex;obtain rfl:u=Value.ref a:=rx;refine qbK I1 ea c hm l ?_;exact callWith_K0 (first:=[.ref a]) I1.kIn hm.kp (qcY (us:=[.ref a]) (vs:=[.ref a]) F hr hb hd hx I1 (.cons rfl .nil) q)
structure Mk (K:Frag) (C f:Addr):Prop where
 makes:makesIn K C=true
 init:findIn K (.ref C) "__init__"=some (some (.ref f))
 fn:isFn K (.ref f)=true
 kp:keepIn K (.ref C)=true
theorem qeq {pins:List (Addr×Obj)}{σ:St}{H:Hp}{s:Shared}{Q:VK}{us:List Value}{vs:List V} (M:Mk X.K C f) (F:qy X.prog X.w X.K X.mg X.base CX k f fd ps sp) (hr:Room (k+1) X.A) (hb:Binds X.K fd ps ds) (hd:Vals dvs ds)
   (hx:JR CX X E) (I:Inv X pins σ H s) (r:Vals vs us)
   (h:∀ x dx,H x=none->H dx=none->dx≠x->sp (.ref x::(vs++dvs)) (upd (upd H dx (.own x)) x (.ins C dx [])) (fun v H2=>v=.non∧Q (.ref x) H2) E) :
   wpAny (model X.prog X.w) X.A (call (.ref C) us) (EP X pins σ Q) X.xe s:=by
 have hq:=h (s.heap.objs.size+1) s.heap.objs.size (I.hok.fresh (Nat.le_succ _)) (I.hok.fresh (Nat.le_refl _)) (Nat.ne_of_lt (Nat.lt_succ_self _));have I2:=Inv.made (C:=C) I;have r2:Vals (V.ref (s.heap.objs.size+1)::(vs++dvs)) (Value.ref (s.heap.objs.size+1)::(us++ds)):=.cons rfl (r.append hd)
 have hl:(Value.ref (s.heap.objs.size+1)::us++ds).length=ps.length:=by
   have e:=r2.length;rw[F.len _ _ _ _ hq]at e;exact e.symm
 refine wpAny_call (qh4 (f:=f) I.kIn M.makes M.init (beq_iff_eq.mp M.fn) (codeAny_mono (F.run _ X.stack _ _ ⟨Value.ref (s.heap.objs.size+1)::us,[]⟩ (Value.ref (s.heap.objs.size+1)::(us++ds)) _ _ E (hr.make C us [])
   (I2.env0.make C us []) (hb _ (Value.ref (s.heap.objs.size+1)::us) I2.kIn hl) r2 hq) fun r s' hq'=>?_))
 cases r with
 | error e=>exact hx pins σ _ _ e s' I2 hq'
 | ok fl =>
   cases fl with
   | ret u =>
     obtain⟨v,H',I3,rv,ev,q3⟩:=I2.after hq';subst ev;exact⟨rv,⟨V.ref (s.heap.objs.size+1),H',I3,rfl,q3⟩⟩
   | next=>exact False.elim hq'
   | brk=>exact False.elim hq'
   | cont=>exact False.elim hq'
theorem QI (M:Mk X.K C f) (F:qy X.prog X.w X.K X.mg X.base CX k f fd ps sp) (hr:Room (k+1) X.A) (hg:Gl X x) (hm:X.mg x=some (.ref C)) (hb:Binds X.K fd ps ds) (hd:Vals dvs ds) (hx:JR CX X E)
   (ha:PA X (e::es) t) (hdb:(x == ("__debug__":Str))=false:=by decide) (he:starEach (e::es) X.env=(false,eval e X.env)::starEach es X.env:=by rfl) (hpl:(backTo pos (starEach es X.env)).any (·.1)=false:=by rfl) :
   PE X (.Call (.Name x p) (e::es) [] pos) (qkB C sp dvs E t):=by
 intro pins s σ H Q I h;refine wpAny_Call_Name_kw (qaM I hg hm ?_ hdb);refine callWith_K (h₀:=X.base) I.ok.mod.kin M.kp (thn (ha pos pins s σ H _ I h) fun us s1 ⟨vs,H1,I1,r,q⟩=>⟨I1.kIn,?_⟩) he hpl;exact qeq M F hr hb hd hx I1 r q
theorem qeA (M:Mk X.K C f) (F:qy X.prog X.w X.K X.mg X.base CX k f fd ps sp) (hr:Room (k+1) X.A) (hg:Gl X x) (hm:X.mg x=some (.ref C)) (hb:Binds X.K fd ps ds) (hd:Vals dvs ds) (hx:JR CX X E)
   (hdb:(x == ("__debug__":Str))=false:=by decide):PE X (.Call (.Name x p) [] [] pos) (qkB C sp dvs E qdG):=by
 intro pins s σ H Q I h;refine wpAny_Call_Name_kw (qaM I hg hm ?_ hdb);exact callWith_K0 I.kIn M.kp (qeq (us:=[]) M F hr hb hd hx I .nil h)
end
section
variable {X:Cx}{CX:CXT}{k:Nat}{f C:Addr}{fd:FuncData}{ps ks:List Str}{sp:Sp}{E:XK}{x m:Str}{p pos apos kpos:Pos}{e o:Expr}{es:List Expr}{kws:List Keyword}{te ta:TE}{t tk:TA}{nm:Option Str}
variable {g:List Value->List Value->List Value}{gV:List V->List V->List V}
end
structure qm (N P:List Str) (sc:Scope):Prop where
 kind:sc.kind=.function
 co:sc.isCoroutine=false
 gen:sc.isGenerator=false
 nd:N.Nodup
 pre:N.take P.length=P
 par:∀ x∈P,sc.names.lookup x=some .local∨sc.names.lookup x=some .cell
 nofree:∀ y∈sc.names,y.2≠.free
theorem qdt {kindOf:Str->Option NameKind}{x:Str}:∀ {binds:List (Str×Value)}{m:Str->Option Value},(∀ v,(x,v)∉binds)->bindL kindOf binds m x=m x
 | [],_,_=>rfl
 | (n,v)::r,m,h=>by
   unfold bindL;rw[qdt fun w hw=>h w (List.mem_cons_of_mem _ hw)];split
   · have:x≠n:=by rintro rfl;exact h v List.mem_cons_self
     simp[this]
   · rfl
theorem qdv {kindOf:Str->Option NameKind}{x:Str}:∀ {binds:List (Str×Value)}{m:Str->Option Value},(∀ v,(x,v)∉binds)->bindC kindOf binds m x=m x
 | [],_,_=>rfl
 | (n,v)::r,m,h=>by
   unfold bindC;rw[qdv fun w hw=>h w (List.mem_cons_of_mem _ hw)];split
   · rfl
   · have:x≠n:=by rintro rfl;exact h v List.mem_cons_self
     simp[this]
theorem qdu {kindOf:Str->Option NameKind}{x:Str}{v:Value}:∀ {P:List Str}{vs:List Value}{i:Nat}{m:Str->Option Value},P.Nodup->P[i]?=some x->vs[i]?=some v->kindOf x=some .local ->
   bindL kindOf (P.zip vs) m x=some v
 | [],_,_,_,_,h,_,_=>by simp at h
 | _::_,[],_,_,_,_,h,_=>by simp at h
 | p::P,w::vs,0,m,nd,h1,h2,hk=>by
   simp at h1 h2;subst h1;subst h2;show bindL kindOf ((p,w)::P.zip vs) m p=_;unfold bindL;rw[qdt fun v hv=>(List.nodup_cons.mp nd).1 (List.of_mem_zip hv).1,if_pos hk];simp
 | p::P,w::vs,i+1,m,nd,h1,h2,hk=>by
   show bindL kindOf ((p,w)::P.zip vs) m x=_;unfold bindL;exact qdu (i:=i) (List.nodup_cons.mp nd).2 (by simpa using h1) (by simpa using h2) hk
theorem qdw {kindOf:Str->Option NameKind}{x:Str}{v:Value}:∀ {P:List Str}{vs:List Value}{i:Nat}{m:Str->Option Value},P.Nodup->P[i]?=some x->vs[i]?=some v->kindOf x≠some .local ->
   bindC kindOf (P.zip vs) m x=some v
 | [],_,_,_,_,h,_,_=>by simp at h
 | _::_,[],_,_,_,_,h,_=>by simp at h
 | p::P,w::vs,0,m,nd,h1,h2,hk=>by
   simp at h1 h2;subst h1;subst h2;show bindC kindOf ((p,w)::P.zip vs) m p=_;unfold bindC;rw[qdv fun v hv=>(List.nodup_cons.mp nd).1 (List.of_mem_zip hv).1,if_neg hk];simp
 | p::P,w::vs,i+1,m,nd,h1,h2,hk=>by
   show bindC kindOf ((p,w)::P.zip vs) m x=_;unfold bindC;exact qdw (i:=i) (List.nodup_cons.mp nd).2 (by simpa using h1) (by simpa using h2) hk
def JT (N:List Str) (vs:List V):St:=vs.map some++List.replicate (N.length - vs.length) none
def zi (CX:CXT) (P:Program) (w:World) (K:Frag) (mg:Str->Option Value) (base:Heap) (N:List Str) (qual:Str) (scope:Scope) (f:Addr) (cd:Value) (A:Around) (outer:List Env) (s:Shared) (H:Hp) (E:XK):Cx where
 prog:=P
 w:=w
 K:=K
 mg:=mg
 base:=base
 A:=A.deeper (envOfC qual scope s.heap.objs.size f cd)
 N:=N
 s₀:=s
 H₀:=H
 env:=envOfC qual scope s.heap.objs.size f cd
 outer:=outer
 stack:=envOfC qual scope s.heap.objs.size f cd::outer
 ex:=[]
 calm:=true
 fn:=fun _=>true
 pn:=[]
 xe:=fun e s'=>wpAny (model P w) (A.deeper (envOfC qual scope s.heap.objs.size f cd)) (leaving (envOfC qual scope s.heap.objs.size f cd) e) (fun _ s''=>CX outer H s E e s'') (fun e' s''=>CX outer H s E e' s'') s'
theorem qcx {sc:Scope}{n:Nat}{x:Str} (h:sc.names.lookup x=some .cell):∃ c,(cellsFrom n sc.names []).lookup x=some c:=by
 have q:=PySem.W.cellsFrom_some sc.names n [] (.inl h);exact Option.isSome_iff_exists.mp q
theorem qdl {CX:CXT}{P:Program}{w:World}{K:Frag}{mg:Str->Option Value}{base:Heap}{N ps:List Str}{qual:Str}{scope:Scope}{f:Addr}{cd:Value}{A:Around}{outer:List Env}{s s1:Shared}{H:Hp}{E:XK}{us:List Value}{vs:List V}
   (S:qm N ps scope) (hd:A.handled=none) (e0:Env0 P w K mg base A outer s H) (hl:vs.length=ps.length) (r:Vals vs us)
   (x:InCallC s s.heap.objs.size (bindL (envOfC qual scope s.heap.objs.size f cd).kindOf (ps.zip us) fun _=>none) (cellsFrom (s.heap.objs.size+1) scope.names []) (bindC (envOfC qual scope s.heap.objs.size f cd).kindOf (ps.zip us) fun _=>none) s1) :
   Inv (zi CX P w K mg base N qual scope f cd A outer s H E) [] (JT N vs) H s1:=by
 have hpl:ps.length≤N.length:=by have:=congrArg List.length S.pre;rw[List.length_take]at this;omega
 obtain⟨h1,tk,rfl,hk⟩:=x.done;have noA:∀ b:Addr,b∉(zi CX P w K mg base N qual scope f cd A outer s H E).ex:=fun b z=>absurd (show b∈([]:List Addr) from z) (by simp)
 refine⟨⟨e0.mod,S.kind,rfl,rfl,Nat.le_refl _,fun y z c h1 h2=>?_,fun y hy=>?_,fun y c _ h=>?_,fun _=>hd,Around.frames_deeper e0.frames,.inr ⟨rfl,rfl⟩,fun b z=>absurd z (noA b),e0.bs,e0.bsz,fun b _ _=>noA b,fun b z=>absurd z (noA b),e0.funs,e0.frf⟩,
   rfl,e0.bare,Un.kept hk,⟨_,x.toInCall.ns,fun i y v h1 h2 h3=>?_⟩,fun y c h=>⟨_,x.cell y c h⟩,e0.hok.fresh (Nat.le_refl _),fun y c h=>?_,fun p hp=>absurd (show p∈([]:List (Addr×Obj)) from hp) (by simp),e0.hok.kept hk,?_⟩
 · exact name_of_addr x.apart (PySem.mem_of_lookup h1) (PySem.mem_of_lookup h2)
 · have hy:scope.names.lookup y=some .cell∨scope.names.lookup y=some .free:=hy;rcases hy with hy|hy
   · exact qcx hy
   · exact absurd rfl (S.nofree _ (PySem.mem_of_lookup hy))
 · exact Nat.le_of_lt (x.above y c (PySem.mem_of_lookup h))
 · have hi:i < vs.length:=by
     unfold JT at h2;by_cases hi:i < vs.length
     · exact hi
     · rw[List.getElem?_append_right (by simpa using hi)]at h2;rw[List.getElem?_replicate]at h2;split at h2<;>cases h2
   have ha:vs[i]?=some v:=by
     unfold JT at h2;rw[List.getElem?_append_left (by simpa using hi),List.getElem?_map]at h2
     cases e:vs[i]? with
     | none=>rw[e]at h2;cases h2
     | some a=>rw[e]at h2;cases h2;rfl
   obtain⟨u,hu,rv⟩:=r.get ha
   have hp:ps[i]?=some y:=by
     rw[← S.pre,List.getElem?_take_of_lt (by omega)];exact h1
   have ndP:ps.Nodup:=by rw[← S.pre];exact S.nd.sublist (List.take_sublist _ _)
   refine⟨u,rv,?_⟩;rcases S.par y (List.mem_of_getElem? hp) with k|k
   · exact .inl ⟨k,qdu ndP hp hu k⟩
   · obtain⟨c,e⟩:=qcx (n:=s.heap.objs.size+1) k;refine .inr ⟨.inl k,c,e,?_⟩;have q:=x.cell y c e;rw[qdw ndP hp hu (by show scope.names.lookup y≠_;rw[k];decide)]at q;exact q
 · exact e0.hok.fresh (Nat.le_of_lt (x.above y c (PySem.mem_of_lookup h)))
 · unfold JT;show _=N.length;rw[List.length_append,List.length_map,List.length_replicate];omega
theorem qmh {CX:CXT}{P:Program}{w:World}{K:Frag}{mg:Str->Option Value}{base:Heap}{k:Nat}{f:Addr}{name qual:Str}{params:Arguments}{body:List Stmt}{scope:Scope}{dV kV doc pm cdv ct oc:Value}{an od:Option Addr}
   {osl:Array (Option Value)}{N ps:List Str}{sp:Sp} (lk:K.lookup f=some ⟨oc,od,.func (fnOf name qual params body scope dV kV doc pm an cdv ct),osl⟩) (hcd:PySem.W.codeIn K cdv qual=true) (S:qm N ps scope)
   (len:∀ vs H Q E,sp vs H Q E->vs.length=ps.length)
   (hbody:∀ (A:Around) (outer:List Env) (s:Shared) (H:Hp) (vs:List V) (Q:VK) (E:XK),Room k (A.deeper (envOfC qual scope s.heap.objs.size f cdv))->sp vs H Q E ->
     ∃ t,PSs (zi CX P w K mg base N qual scope f cdv A outer s H E) body t∧t { nx:=fun _ H'=>Q .non H',rt:=Q } (JT N vs) H) :
   qy P w K mg base CX (k+1) f (fnOf name qual params body scope dV kV doc pm an cdv ct) ps sp:=by
 refine⟨len,fun A outer s H args us vs Q E hr e0 hb r hsp=>?_⟩;have hl:=len _ _ _ _ hsp;have KX:K.In s.heap:=e0.mod.kin.keeps fun b o e=>(e0.bs b o e).1;have lim:s.heap.NoLimit:=e0.mod.nolimit.keeps fun b o e=>(e0.bs b o e).1
 have hkind:∀ y∈ps.zip us,scope.names.lookup y.1=some .local∨(scope.names.lookup y.1=some .cell∧((cellsFrom (s.heap.objs.size+1) scope.names []).lookup y.1).isSome=true):=fun⟨n,v⟩ hy=>by
   rcases S.par n (List.of_mem_zip hy).1 with q|q
   · exact .inl q
   · exact .inr ⟨q,PySem.W.cellsFrom_some _ _ _ (.inl q)⟩
 refine codeAny_call_function hr.depth (KX _ _ lk) rfl S.co S.gen rfl (PySem.W.codeRec_of KX hcd) (hb _ _ _ _ ?_);refine wpAny_newFunctionEnv_cells S.kind hkind fun env he s1 x=>?_;subst he;refine⟨lim.keeps x.toInCall.keep,codeAny_func ?_⟩;obtain⟨t,ht,hq⟩:=hbody A outer s H vs Q E (hr.deeper _) hsp;have I:Inv (zi CX P w K mg base N qual scope f cdv A outer s H E) [] (JT N vs) H s1:=qdl S hr.hd e0 hl r x;refine wpAny_mono (ht [] s1 (JT N vs) H _ I hq) (fun fl s' hs=>?_) fun e s' hs=>hs
 have fin:∀ {σ':St}{H':Hp}{v:V}{u:Value},Inv (zi CX P w K mg base N qual scope f cdv A outer s H E) [] σ' H' s'->RelV v u->Q v H'->CE outer P w H s Q u s' :=
   fun {σ' H' v u} J rv q=>⟨v,H',J.os,J.bare,J.base,J.hok,rv,q⟩
 cases fl with
 | ret u =>
   obtain⟨v,σ',H',J,rv,q⟩:=hs;exact fin J rv q
 | next =>
   obtain⟨σ',H',J,q⟩:=hs;exact fin (v:=V.non) (u:=Value.none) J rfl q
 | brk =>
   obtain⟨_,_,_,q⟩:=hs;exact False.elim q
 | cont =>
   obtain⟨_,_,_,q⟩:=hs;exact False.elim q
section
variable {X:Cx}{x:Str}{p pos:Pos}{e:Expr}{es:List Expr}{t:TA}{id T:String}{r:List V->Hp->VK->Prop}
def tCB (r:List V->Hp->VK->Prop) (t:TA):TE:=fun σ H Q=>t σ H fun vs H1=>r vs H1 Q
theorem ql (hc:CallR X (.builtin id) r) (hg:Gl X x) (hm:X.mg x=none) (hv:bootBuiltins x=some (.builtin id)) (ha:PA X (e::es) t) (hn:x≠"__name__":=by decide) (hdb:(x == ("__debug__":Str))=false:=by decide)
   (he:starEach (e::es) X.env=(false,eval e X.env)::starEach es X.env:=by rfl) (hpl:(backTo pos (starEach es X.env)).any (·.1)=false:=by rfl):PE X (.Call (.Name x p) (e::es) [] pos) (tCB r t):=by
 intro pins s σ H Q I h;refine wpAny_Call_Name_kw (qaN I hg hm hv ?_ hn hdb);exact PyProof.Rows.callWith_builtin1 (thn (ha pos pins s σ H _ I h) fun us s1 ⟨vs,H1,I1,r1,q1⟩=>hc pins s1 σ H1 vs us Q I1 r1 q1) he hpl
theorem zy (hc:CallR X (.type T) r) (hg:Gl X x) (hm:X.mg x=none) (hv:bootBuiltins x=some (.type T)) (ha:PA X (e::es) t) (hn:x≠"__name__":=by decide) (hdb:(x == ("__debug__":Str))=false:=by decide)
   (he:starEach (e::es) X.env=(false,eval e X.env)::starEach es X.env:=by rfl) (hpl:(backTo pos (starEach es X.env)).any (·.1)=false:=by rfl):PE X (.Call (.Name x p) (e::es) [] pos) (tCB r t):=by
 intro pins s σ H Q I h;refine wpAny_Call_Name_kw (qaN I hg hm hv ?_ hn hdb);exact PyProof.Rows.callWith_type1 (thn (ha pos pins s σ H _ I h) fun us s1 ⟨vs,H1,I1,r1,q1⟩=>hc pins s1 σ H1 vs us Q I1 r1 q1) he hpl
end
end L2
namespace HT
open PySem PyProof.Rows
section
open PySem.SeqAt
open PySem.AutoSeq1 (wpAny_loadPart')
open PySem.MeetsSeq PySem.MeetsSeq2 PySem.MeetsSeq3
end
section
variable {prog:Program}{w:World}{A:Around}{E:Value->Shared->Prop}{s:Shared}
def sIx (n d:Nat):Option Int->Nat
 | none=>d
 | some v=>if v < 0 then (v+(n:Int)).toNat else min v.toNat n
theorem sIx_none (n d:Nat):sIx n d none=d:=rfl
theorem sIx_nat (n d k:Nat):sIx n d (some (k:Int))=min k n:=by
 show (if (k:Int) < 0 then ((k:Int)+(n:Int)).toNat else min (k:Int).toNat n)=min k n;rw[if_neg (by omega),Int.toNat_natCast]
end
end HT
namespace L2
open PySem PySem.Spec PyProof.Rows
open PySem.W (Frag)
abbrev TO:=St->Hp->(Option Int->Hp->Prop)->Prop
def PO (X:Cx) (e:Option Expr) (t:TO):Prop :=
 ∀ (pins:List (Addr×Obj)) (s:Shared) (σ:St) (H:Hp) (Q:Option Int->Hp->Prop),Inv X pins σ H s->t σ H Q ->
   wpAny (model X.prog X.w) X.A (evalPart e X.env) (fun u s'=>∃ o H',Inv X pins σ H' s'∧IsPart u o∧Q o H') X.xe s
def qjv:TO:=fun _ H Q=>Q none H
inductive qfD (Q:(Option Int->Hp->Prop)) (x:V) (H1:Hp):Prop
 | mk (i:_) (h1:x=.int i) (h2:Q (some i) H1):qfD Q x H1
def qlL (t:TE):TO:=fun σ H Q=>t σ H fun x H1=>qfD Q x H1
section
variable {X:Cx}{e:Expr}{te:TE}{lo hi:Option Expr}{tl th:TO}{pos p2:Pos}
theorem qaB:PO X none qjv:=by
 intro pins s σ H Q I h;rw[evalPart_none];exact wpAny_pure ⟨none,H,I,.none,h⟩
theorem Q8 (h:PE X e te):PO X (some e) (qlL te):=by
 intro pins s σ H Q I hw;rw[evalPart_some];refine thn (h pins s σ H _ I hw) fun u s1 zz_=>?_;obtain⟨x,H1,I1,r1,q1⟩:=zz_;obtain⟨i,rfl,q⟩:=q1;obtain⟨t,rfl⟩:=r1;exact⟨some i,H1,I1,.int i t,q⟩
def SlR (X:Cx) (r:V->Option Int->Option Int->Hp->VK->Prop):Prop :=
 ∀ (pins:List (Addr×Obj)) (s:Shared) (σ:St) (H:Hp) (x:V) (v vl vu:Value) (lo hi:Option Int) (sl:Addr) (Q:VK),Inv X pins σ H s->RelV x v->s.heap.IsSliceOf sl vl vu .none->IsPart vl lo->IsPart vu hi->r x lo hi H Q ->
   ∃ T id,typeLookup (.type T) "__getitem__"=pure (some (.builtin id))∧s.TypeIs v T∧wpAny (model X.prog X.w) X.A (getItem v (.ref sl)) (EP X pins σ Q) X.xe s
theorem SlR.or {r r':V->Option Int->Option Int->Hp->VK->Prop} (h:SlR X r) (h':SlR X r'):SlR X (fun x lo hi H Q=>r x lo hi H Q∨r' x lo hi H Q):=by
 intro pins s σ H x v vl vu lo hi sl Q I rx hs pl pu q;rcases q with q|q
 · exact h pins s σ H x v vl vu lo hi sl Q I rx hs pl pu q
 · exact h' pins s σ H x v vl vu lo hi sl Q I rx hs pl pu q
def tSl (r:V->Option Int->Option Int->Hp->VK->Prop) (te:TE) (tl th:TO):TE:=fun σ H Q=>te σ H fun x H1=>tl σ H1 fun l H2=>th σ H2 fun u H3=>r x l u H3 Q
theorem Q9 {r:V->Option Int->Option Int->Hp->VK->Prop} (hr:SlR X r) (he:PE X e te) (hl:PO X lo tl) (hu:PO X hi th):PE X (.Subscript e (.Slice lo hi none p2) pos) (tSl r te tl th):=by
 intro pins s σ H Q I h;refine Subscript_ (thn (he pins s σ H _ I h) fun v s1 zz_=>?_);obtain⟨x,H1,I1,r1,q1⟩:=zz_;refine wpAny_Slice (thn (hl pins s1 σ H1 _ I1 q1) fun vl s2 ⟨l,H2,I2,pl,q2⟩=>thn (hu pins s2 σ H2 _ I2 q2) fun vu s3 zz_=>?_);obtain⟨u,H3,I3,pu,q3⟩:=zz_;rw[evalPart_none];refine wpAny_pure ?_;have I4:Inv X pins σ H3 { s3 with heap:=s3.heap.push { cls:=.type "slice",data:=.fields #[vl,vu,.none] } }:=I3.kept (t':=s3.toks) fun b ob q=>Heap.get?_push_of_some _ q;obtain⟨T,id,hT,ht,hg⟩:=hr pins { s3 with heap:=s3.heap.push { cls:=.type "slice",data:=.fields #[vl,vu,.none] } } σ H3 x v vl vu l u s3.heap.objs.size Q I4 r1 (Heap.IsSliceOf.new ..) pl pu q3;show wpAny (model X.prog X.w) X.A (subscriptTail e (.Slice lo hi none p2) v (.ref s3.heap.objs.size)) (EP X pins σ Q) X.xe { s3 with heap:=s3.heap.push { cls:=.type "slice",data:=.fields #[vl,vu,.none] } };exact tail_any (ops:=[.ref s3.heap.objs.size,v]) ht hT hg (by with_unfolding_all rfl)
def qcw (xs:List V) (lo hi:Option Int):List V:=(xs.drop (HT.sIx xs.length 0 lo)).take (HT.sIx xs.length xs.length hi - HT.sIx xs.length 0 lo)
theorem jw (xs:List V) (lo hi:Option Int):(qcw xs lo hi).length≤xs.length:=by
 unfold qcw;refine Nat.le_trans (List.length_take_le' _ _) ?_;rw[List.length_drop];exact Nat.sub_le _ _
end
def ixN (n:Nat) (i:Int):Option Nat:=if 0≤i then (if i < n then some i.toNat else none) else if -(n:Int)≤i then some (i+n).toNat else none
def atI {α:Type} (xs:List α) (i:Int):Option α:=(ixN xs.length i).bind fun j=>xs[j]?
theorem qgJ {n:Nat}{i:Int}{j:Nat} (h:ixN n i=some j):seqIndex? i n=some j∧j < n∧-(n:Int)≤i∧i < n:=by
 unfold ixN at h;by_cases h0:0≤i
 · rw[if_pos h0]at h;by_cases h1:i < n
   · rw[if_pos h1]at h;have e:i.toNat=j:=Option.some.inj h;exact⟨by rw[seqIndex_of h0 h1,e],by omega,by omega,h1⟩
   · rw[if_neg h1]at h;cases h
 · rw[if_neg h0]at h;by_cases h1:-(n:Int)≤i
   · rw[if_pos h1]at h;have e:(i+n).toNat=j:=Option.some.inj h;exact⟨by rw[seqIndex_neg (by omega) h1,e],by omega,h1,by omega⟩
   · rw[if_neg h1]at h;cases h
theorem qd5 {α:Type}{xs:List α}{i:Int}{v:α} (h:atI xs i=some v):∃ j,seqIndex? i xs.length=some j∧xs[j]?=some v∧j < xs.length∧-(xs.length:Int)≤i∧i < xs.length:=by
 unfold atI at h
 cases e:ixN xs.length i with
 | none=>rw[e]at h;cases h
 | some j =>
   rw[e]at h;obtain⟨h1,h2,h3,h4⟩:=qgJ e;exact⟨j,h1,h,h2,h3,h4⟩
theorem zh {α:Type}{xs:List α}{j:Nat}{v:α} (h:xs[j]?=some v):atI xs (j:Int)=some v:=by
 have hj:j < xs.length:=(List.getElem?_eq_some_iff.mp h).1
 have e:ixN xs.length (j:Int)=some j:=by
   unfold ixN;rw[if_pos (by omega),if_pos (by omega)];simp
 unfold atI;rw[e];exact h
def qkq (b:Expr):Prop:=∀ o i,subscripted b false o i=operate [o,i] (getItem o i)
def IxR (X:Cx) (r:R2):Prop :=
 ∀ (value slice:Expr) (pins:List (Addr×Obj)) (s:Shared) (σ:St) (H:Hp) (x y:V) (v u:Value) (Q:VK),Inv X pins σ H s->RelV x v->RelV y u->r x y H Q ->
   subscripted slice false v u=operate [v,u] (getItem v u)->wpAny (model X.prog X.w) X.A (subscriptTail value slice v u) (EP X pins σ Q) X.xe s
def MtR (X:Cx) (id:String) (r:V->List V->Hp->VK->Prop):Prop :=
 ∀ (pins:List (Addr×Obj)) (s:Shared) (σ:St) (H:Hp) (x:V) (xs:List V) (v:Value) (us:List Value) (Q:VK),Inv X pins σ H s->RelV x v->Vals xs us->r x xs H Q ->
   wpAny (model X.prog X.w) X.A (call (.builtin id) (v::us)) (EP X pins σ Q) X.xe s
section
variable {X:Cx}{a b:Expr}{ta tb:TE}{pos:Pos}
theorem IxR.or {r r':R2} (h:IxR X r) (h':IxR X r'):IxR X (fun x y H Q=>r x y H Q∨r' x y H Q):=by
 intro value slice pins s σ H x y v u Q I rx ry q hs;rcases q with q|q
 · exact h value slice pins s σ H x y v u Q I rx ry q hs
 · exact h' value slice pins s σ H x y v u Q I rx ry q hs
theorem qA {r:R2} (hr:IxR X r) (ha:PE X a ta) (hb:PE X b tb) (hs:qkq b):PE X (.Subscript a b pos) (tOp r ta tb):=by
 intro pins s σ H Q I h;exact Subscript_ (qmk ha hb I h fun v u s2 x y H2 I2 rx ry q=>hr a b pins s2 σ H2 x y v u Q I2 rx ry q (hs _ _))
inductive qiW (K:Frag) (x:V) (y:V) (H:Hp) (Q:VK):Prop
 | mk (p xs i v:_) (h1:x=.ref p) (h2:y=.int i) (h3:SqL K H p xs) (h4:atI xs i=some v) (h5:Q v H):qiW K x y H Q
def qmy (K:Frag):R2:=fun x y H Q=>qiW K x y H Q
inductive qiV (K:Frag) (x:V) (y:V) (H:Hp) (Q:VK):Prop
 | mk (p xs i v:_) (h1:x=.ref p) (h2:y=.int i) (h3:SqT K H p xs) (h4:atI xs i=some v) (h5:Q v H):qiV K x y H Q
def qmw (K:Frag):R2:=fun x y H Q=>qiV K x y H Q
def qmx:R2:=fun x y H Q=>∃ z i c,x=.str z∧y=.int i∧z.length≤sizeLine∧atI z.cps.toList i=some c∧Q (.str ⟨#[c]⟩) H
theorem ix_list:IxR X (qmy X.K):=by
 intro value slice pins s σ H x y v u Q I rx ry h hs;obtain⟨p,xs,i,z,rfl,rfl,hq,he,q⟩:=h;cases rx;obtain⟨t,rfl⟩:=ry;obtain⟨its,r,pl,hz⟩:=I.list hq;obtain⟨j,h1,h2,h3,h4,h5⟩:=qd5 he;obtain⟨w,ew,rw'⟩:=r.get h2;have hl:=r.length;have hn:=qbI;have fin:EP X pins σ Q w s:=⟨z,H,I,rw',q⟩
 by_cases h0:0≤i
 · have hj:i.toNat=j:=by
     rw[seqIndex_of h0 h5]at h1;exact Option.some.inj h1
   exact item_listR pl.isList h0 (by omega) (by rw[hj];simpa using ew) fin hs
 · have hj:(i+(its.toArray.size:Int)).toNat=j:=by
     rw[seqIndex_neg (by omega) h4]at h1;rw[List.size_toArray,← hl];exact Option.some.inj h1
   exact subscriptTail_builtinR (x:=w) pl.isList.typeIs slot_list_getitem.lookup
     (wpAny_getItem_list_neg (Q:=fun r s'=>r=w∧EP X pins σ Q r s') pl.isList (by omega) (by rw[List.size_toArray]<;>omega) (by omega) (by rw[hj];simpa using ew) ⟨rfl,fin⟩) hs
theorem ix_tup:IxR X (qmw X.K):=by
 intro value slice pins s σ H x y v u Q I rx ry h hs;obtain⟨p,xs,i,z,rfl,rfl,hq,he,q⟩:=h;cases rx;obtain⟨t,rfl⟩:=ry;obtain⟨its,r,pl,hz⟩:=I.tuple hq;obtain⟨j,h1,h2,h3,h4,h5⟩:=qd5 he;obtain⟨w,ew,rw'⟩:=r.get h2;have hl:=r.length;have hn:=qbI;have fin:EP X pins σ Q w s:=⟨z,H,I,rw',q⟩
 exact subscriptTail_builtinR (x:=w) pl.typeIs slot_tuple_getitem.lookup
   (getItem_tuple (j:=j) (Q:=fun r s'=>r=w∧EP X pins σ Q r s') pl (by omega) (by omega) (by rw[List.size_toArray,← hl];exact h1) (by simpa using ew) ⟨rfl,fin⟩) hs
theorem qll:IxR X qmx:=by
 intro value slice pins s σ H x y v u Q I rx ry h hs;obtain⟨z,i,c,rfl,rfl,hz,he,q⟩:=h;obtain⟨t,rfl⟩:=rx;obtain⟨t',rfl⟩:=ry;obtain⟨j,h1,h2,h3,h4,h5⟩:=qd5 he;have hl:z.cps.toList.length=z.length:=by simp[Str.length]
 rw[hl]at h1 h4 h5;have hn:=qbI
 exact tail_any (typeIs_str s z t) slot_str_getitem.lookup (getItem_str (c:=c) (by
   have e1:decide (i < -(2 ^ 63:Int))=false:=decide_eq_false (by omega);have e2:decide (i ≥ 2 ^ 63)=false:=decide_eq_false (by omega)
   rw[e1,e2,Bool.or_false]) (by rw[h1];simpa using h2) ⟨.str ⟨#[c]⟩,H,I.tok _,⟨_,rfl⟩,q⟩) hs
def rIx (K:Frag):R2:=fun x y H Q=>qmy K x y H Q∨qmw K x y H Q∨qmx x y H Q
theorem qt:IxR X (rIx X.K):=ix_list.or (ix_tup.or qll)
theorem qfd (its:List Value) (n j:Nat) (u:Value):Obj.mapSeq (·.setIfInBounds j u) { cls:=.type "list",data:=.seq its.toArray n }={ cls:=.type "list",data:=.seq (its.set j u).toArray n }:=by
 simp[Obj.mapSeq]
theorem Inv.lst {pins:List (Addr×Obj)}{σ:St}{H:Hp}{s:Shared}{p:Addr}{xs:List V} (I:Inv X pins σ H s) (h:H p=some (.lst xs)) :
   ∃ (its:List Value) (n:Nat),Vals xs its∧s.heap.get? p=some { cls:=.type "list",data:=.seq its.toArray n }∧xs.length≤sizeLine:=by
 obtain⟨z,its,n,r,e⟩:=I.hok p _ h;exact⟨its,n,r,e,z⟩
theorem Inv.lstUpd {pins:List (Addr×Obj)}{σ:St}{H:Hp}{s:Shared}{p:Addr}{xs ys:List V}{its its':List Value}{n n':Nat}{f:Obj->Obj} (I:Inv X pins σ H s) (h:H p=some (.lst xs))
   (ho:s.heap.get? p=some { cls:=.type "list",data:=.seq its.toArray n }) (hf:f { cls:=.type "list",data:=.seq its.toArray n }={ cls:=.type "list",data:=.seq its'.toArray n' }) (r:Vals ys its') (hz:ys.length≤sizeLine) (t:Nat) :
   Inv X pins σ (upd H p (.lst ys)) { s with heap:=s.heap.update p f,toks:=t }:=by
 have e:(s.heap.update p f).get? p=some { cls:=.type "list",data:=.seq its'.toArray n' }:=by
   rw[Heap.get?_update_self f ho (by rw[hf]<;>rfl),hf]
 refine I.write (x:=p) (e:=p) (by rw[h];trivial) (.inl rfl) (fun b u hb q=>(Heap.get?_update_other _ _ (Ne.symm hb)).trans q) ⟨_,e⟩ ?_;exact⟨hz,its',n',r,e⟩
inductive qf3 (o:V) (i:V) (v:V) (H:Hp) (Q:(Hp->Prop)):Prop
 | mk (p xs k j:_) (h1:o=.ref p) (h2:i=.int k) (h3:H p=some (.lst xs)) (h4:ixN xs.length k=some j) (h5:Q (upd H p (.lst (xs.set j v)))):qf3 o i v H Q
def qlX:V->V->V->Hp->(Hp->Prop)->Prop:=fun o i v H Q=>qf3 o i v H Q
theorem ZQ:qmK X qlX:=by
 intro pins s σ H o i v ov iv u Q I ro ri rv h;obtain⟨p,xs,k,j,rfl,rfl,hp,hj,q⟩:=h;cases ro;obtain⟨t,rfl⟩:=ri;obtain⟨its,n,r,ho,hz⟩:=I.lst hp;obtain⟨h1,h2,h3,h4⟩:=qgJ hj;have hl:=r.length;have hn:=qbI
 have I':Inv X pins σ (upd H p (.lst (xs.set j v))) { s with heap:=s.heap.update p (Obj.mapSeq (·.setIfInBounds j u)) } :=
   I.lstUpd hp ho (qfd its n j u) (r.set rv j) (by rw[List.length_set];exact hz) s.toks
 by_cases h0:0≤k
 · have hk:k.toNat=j:=by
     rw[seqIndex_of h0 h4]at h1;exact Option.some.inj h1
   exact PySem.W.ki_setAt ho h0 (by omega) (by rw[List.size_toArray,← hl];exact h4) (by rw[hk];exact⟨_,I',q⟩)
 · have hk:(k+(its.toArray.size:Int)).toNat=j:=by
     rw[seqIndex_neg (by omega) h3]at h1;rw[List.size_toArray,← hl];exact Option.some.inj h1
   exact PySem.W.ki_setBack ho (by omega) (by rw[List.size_toArray,← hl];exact h3) (by omega) (by rw[hk];exact⟨_,I',q⟩)
theorem tn_ (n:Nat):((-1:Int)+(n:Int)).toNat=n - 1:=by
 rw[Int.add_comm];exact Int.toNat_sub n 1
theorem qiO (i:Int) (n:Nat):max 0 (min (if i < 0 then i+(n:Int) else i) (n:Int))=((if i < 0 then (i+(n:Int)).toNat else min i.toNat n:Nat):Int):=by
 by_cases h:i < 0
 · have h':i+(n:Int)≤n:=by have:=Int.add_le_add_right (Int.le_of_lt h) n;rwa [Int.zero_add]at this
   rw[if_pos h,if_pos h,Int.min_eq_left h',Int.ofNat_toNat,Int.max_comm]
 · obtain⟨k,rfl⟩:=Int.eq_ofNat_of_zero_le (Int.not_lt.mp h);rw[if_neg h,if_neg h,Int.toNat_natCast];rcases Nat.le_total k n with g|g
   · rw[Nat.min_eq_left g,Int.min_eq_left (Int.ofNat_le.mpr g),Int.max_eq_right (Int.natCast_nonneg _)]
   · rw[Nat.min_eq_right g,Int.min_eq_right (Int.ofNat_le.mpr g),Int.max_eq_right (Int.natCast_nonneg _)]
theorem qcK (lo hi:Option Int) (n:Nat):(sliceBounds lo hi none n).1=((HT.sIx n 0 lo:Nat):Int)∧(sliceBounds lo hi none n).2.1=((HT.sIx n n hi:Nat):Int)∧(sliceBounds lo hi none n).2.2=1:=by
 refine⟨?_,?_,rfl⟩
 · cases lo with
   | none=>simp[sliceBounds,HT.sIx]
   | some i =>
     simp only[sliceBounds,HT.sIx,Option.getD_none,show (1:Int) > 0 by decide,if_true];exact qiO i n
 · cases hi with
   | none=>simp[sliceBounds,HT.sIx]
   | some i =>
     simp only[sliceBounds,HT.sIx,Option.getD_none,show (1:Int) > 0 by decide,if_true];exact qiO i n
theorem qbZ (its:List Value) (lo hi:Option Int):slicePick its.toArray lo hi none=((its.drop (HT.sIx its.length 0 lo)).take (HT.sIx its.length its.length hi - HT.sIx its.length 0 lo)).toArray:=by
 obtain⟨h1,h2,h3⟩:=qcK lo hi its.toArray.size;unfold slicePick;rw[h1,h2,h3];simp only[sliceRange_one,pick_run,List.size_toArray]<;>rfl
inductive qiT (K:Frag) (x:V) (lo:Option Int) (hi:Option Int) (H:Hp) (Q:VK):Prop
 | mk (a xs:_) (h1:x=.ref a) (h2:SqL K H a xs) (h3:∀ p,H p=none->Q (.ref p) (upd H p (.lst (qcw xs lo hi)))):qiT K x lo hi H Q
def qmu (K:Frag):V->Option Int->Option Int->Hp->VK->Prop:=fun x lo hi H Q=>qiT K x lo hi H Q
theorem sl_list:SlR X (qmu X.K):=by
 intro pins s σ H x v vl vu lo hi sl Q I rx hs pl pu h;obtain⟨a,xs,rfl,hx,q⟩:=h;cases rx;obtain⟨its,r,ht,hz⟩:=I.list hx;have hlen:=r.length;refine⟨"list",_,slot_list_getitem.lookup,ht.isList.typeIs,?_⟩;refine wpAny_getItem_list_slice ht.isList hs pl pu .none (by simp) ?_ (by rw[List.size_toArray]<;>omega);rw[qbZ,← hlen];refine⟨.ref s.heap.objs.size,_,I.laid (t':=s.toks) (o:=.lst (qcw xs lo hi)) (fun b ob q=>Heap.get?_push_of_some _ q) (Nat.le_refl _) ?_,rfl,q _ (I.hok.fresh (Nat.le_refl _))⟩;exact⟨Nat.le_trans (jw xs lo hi) hz,_,0,(r.drop (HT.sIx xs.length 0 lo)).take (HT.sIx xs.length xs.length hi - HT.sIx xs.length 0 lo),Heap.get?_push_size _ rfl⟩
def qct:V->Bool
 | .non=>true
 | .bl _=>true
 | .int _=>true
 | .str _=>true
 | _=>false
def eqV:V->V->Bool
 | .non,.non=>true
 | .bl a,.bl b=>a == b
 | .bl a,.int b=>(if a then 1 else 0) == b
 | .int a,.bl b=>a == (if b then 1 else 0)
 | .int a,.int b=>a == b
 | .str a,.str b=>a == b
 | _,_=>false
theorem qlu {A:Around}{s:Shared}{y x:V}{u v:Value} (ry:RelV y u) (rx:RelV x v) (fy:qct y=true) (fx:qct x=true):SeqAt.EqAt A s u v (eqV y x):=by
 cases y with
 | non =>
   cases ry
   cases x with
   | non=>cases rx;exact SeqAt.EqAt.same _
   | bl b=>cases rx;exact SeqAt.EqAt.none_bool b
   | int b=>obtain⟨t,rfl⟩:=rx;exact SeqAt.EqAt.none_int b t
   | str b=>obtain⟨t,rfl⟩:=rx;exact SeqAt.EqAt.none_str b t
   | _=>exact absurd (show false=true from fx) Bool.false_ne_true
 | bl a =>
   cases ry
   cases x with
   | non=>cases rx;exact SeqAt.EqAt.bool_none a
   | bl b=>cases rx;exact SeqAt.EqAt.bool_bool a b
   | int b=>obtain⟨t,rfl⟩:=rx;exact SeqAt.EqAt.bool_int a b t
   | str b=>obtain⟨t,rfl⟩:=rx;exact SeqAt.EqAt.bool_str a b t
   | _=>exact absurd (show false=true from fx) Bool.false_ne_true
 | int a =>
   obtain⟨t',rfl⟩:=ry
   cases x with
   | non=>cases rx;exact SeqAt.EqAt.int_none a t'
   | bl b=>cases rx;exact SeqAt.EqAt.int_bool a t' b
   | int b=>obtain⟨t,rfl⟩:=rx;exact SeqAt.EqAt.int_int a t' b t
   | str b=>obtain⟨t,rfl⟩:=rx;exact SeqAt.EqAt.int_str a t' b t
   | _=>exact absurd (show false=true from fx) Bool.false_ne_true
 | str a =>
   obtain⟨t',rfl⟩:=ry
   cases x with
   | non=>cases rx;exact SeqAt.EqAt.str_none a t'
   | bl b=>cases rx;exact SeqAt.EqAt.str_bool a t' b
   | int b=>obtain⟨t,rfl⟩:=rx;exact SeqAt.EqAt.str_int a t' b t
   | str b=>obtain⟨t,rfl⟩:=rx;exact SeqAt.EqAt.str_str a t' b t
   | _=>exact absurd (show false=true from fx) Bool.false_ne_true
 | _=>exact absurd (show false=true from fy) Bool.false_ne_true
def eqU (x:V) (u:Value):Bool:=match u with
 | .none=>eqV .non x
 | .bool b=>eqV (.bl b) x
 | .int i _=>eqV (.int i) x
 | .str z _=>eqV (.str z) x
 | _=>false
theorem qjf {x y:V}{u:Value} (r:RelV y u) (f:qct y=true):eqU x u=eqV y x:=by
 cases y with
 | non=>cases r;rfl
 | bl b=>cases r;rfl
 | int i=>obtain⟨t,rfl⟩:=r;rfl
 | str z=>obtain⟨t,rfl⟩:=r;rfl
 | _=>exact absurd (show false=true from f) Bool.false_ne_true
theorem qaY {x:V}:∀ {xs:List V}{us:List Value},Vals xs us->xs.all qct=true->us.any (eqU x)=xs.any fun y=>eqV y x
 | _,_,.nil,_=>rfl
 | y::xs,u::us,.cons r t,f=>by
   rw[List.all_cons,Bool.and_eq_true]at f;rw[List.any_cons,List.any_cons,qjf r f.1,qaY t f.2]
theorem j7 {A:Around}{s:Shared}{x:V}{v:Value} (rx:RelV x v) (fx:qct x=true):∀ {xs:List V}{us:List Value},Vals xs us->xs.all qct=true->∀ u∈us,SeqAt.EqAt A s u v (eqU x u)
 | _,_,.nil,_=>fun u hu=>by cases hu
 | y::xs,u::us,.cons r t,f=>fun u' hu=>by
   rw[List.all_cons,Bool.and_eq_true]at f;rcases List.mem_cons.mp hu with rfl|hu
   · rw[qjf r f.1];exact qlu r rx f.1 fx
   · exact j7 rx fx t f.2 u' hu
def inV (x:V) (xs:List V):Bool:=xs.any fun y=>eqV y x
inductive qkT (K:Frag) (neg:Bool) (x:V) (y:V) (H:Hp) (Q:VK):Prop
 | mk (p xs:_) (h1:y=.ref p) (h2:(SqL K H p xs∨SqT K H p xs)) (h3:qct x=true) (h4:xs.all qct=true) (h5:Q (.bl (if neg then !inV x xs else inV x xs)) H):qkT K neg x y H Q
def rIn (K:Frag) (neg:Bool):R2:=fun x y H Q=>qkT K neg x y H Q
theorem qc4:OpR X (compareOp .In) (rIn X.K false):=by
 intro pins s σ H x y v u Q I rx ry h;obtain⟨p,xs,rfl,hq,fx,fs,q⟩:=h;cases ry;rcases hq with hq|hq
 · obtain⟨its,r,pl,hz⟩:=I.list hq;refine SeqAt.in_listAt (eqU x) pl.isList (fun w hw=>j7 rx fx r fs w (by simpa using hw)) ⟨.bl _,H,I,rfl,?_⟩;rw[show its.toArray.any (eqU x)=its.any (eqU x) by simp,qaY r fs];exact q
 · obtain⟨its,r,pl,hz⟩:=I.tuple hq;refine SeqAt.in_tupleAt (eqU x) pl (fun w hw=>j7 rx fx r fs w (by simpa using hw)) ⟨.bl _,H,I,rfl,?_⟩;rw[show its.toArray.any (eqU x)=its.any (eqU x) by simp,qaY r fs];exact q
theorem qc2:OpR X (compareOp .NotIn) (rIn X.K true):=by
 intro pins s σ H x y v u Q I rx ry h;obtain⟨p,xs,rfl,hq,fx,fs,q⟩:=h;cases ry;rcases hq with hq|hq
 · obtain⟨its,r,pl,hz⟩:=I.list hq;refine SeqAt.notIn_listAt (eqU x) pl.isList (fun w hw=>j7 rx fx r fs w (by simpa using hw)) ⟨.bl _,H,I,rfl,?_⟩;rw[show its.toArray.any (eqU x)=its.any (eqU x) by simp,qaY r fs];exact q
 · obtain⟨its,r,pl,hz⟩:=I.tuple hq;refine SeqAt.notIn_tupleAt (eqU x) pl (fun w hw=>j7 rx fx r fs w (by simpa using hw)) ⟨.bl _,H,I,rfl,?_⟩;rw[show its.toArray.any (eqU x)=its.any (eqU x) by simp,qaY r fs];exact q
theorem CallR.or {f:Value}{r r':List V->Hp->VK->Prop} (h:CallR X f r) (h':CallR X f r'):CallR X f (fun xs H Q=>r xs H Q∨r' xs H Q):=by
 intro pins s σ H xs us Q I rs q;rcases q with q|q
 · exact h pins s σ H xs us Q I rs q
 · exact h' pins s σ H xs us Q I rs q
theorem zA:CallR X (.type "list") (fun xs H Q=>∃ p ys,xs=[.ref p]∧(SqL X.K H p ys∨SqT X.K H p ys)∧∀ l,H l=none->Q (.ref l) (upd H l (.lst ys))):=by
 intro pins s σ H xs us Q I r h;obtain⟨p,ys,rfl,hq,q⟩:=h;obtain⟨u,rfl,rx⟩:=JS r;cases rx;have fin:∀ (its:List Value),Vals ys its->ys.length≤sizeLine->∀ (h':Heap) (c':Nat),(∀ b o',s.heap.get? b=some o'->h'.get? b=some o') ->
     h'.get? s.heap.objs.size=some { cls:=.type "list",dict:=none,data:=.seq its.toArray c',slots:=#[] }->EP X pins σ Q (.ref s.heap.objs.size) { s with heap:=h' }:=fun its r' hz h' c' kp e =>
   ⟨.ref s.heap.objs.size,_,I.laid (t':=s.toks) kp (Nat.le_refl _) (show ObjOk X.prog X.w _ h' _ (.lst ys) from ⟨hz,its,c',r',e⟩),rfl,q _ (I.hok.fresh (Nat.le_refl _))⟩
 rcases hq with hq|hq
 · obtain⟨its,r',pl,hz⟩:=I.list hq;have hlen:=r'.length;obtain⟨o,ho,hc,n,hd⟩:=pl.isList;exact call_list_seq p (.inl rfl) ho hc hd (fun h' c' kp e=>fin its r' hz h' c' kp e) (by simp only[List.size_toArray]<;>omega)
 · obtain⟨its,r',pl,hz⟩:=I.tuple hq;have hlen:=r'.length;obtain⟨o,ho,hc,n,hd⟩:=pl;exact call_list_seq p (.inr rfl) ho hc hd (fun h' c' kp e=>fin its r' hz h' c' kp e) (by simp only[List.size_toArray]<;>omega)
def tyV (K:Frag) (T:String) (x:V) (H:Hp):Prop:=match x with
 | .str _=>T="str"
 | .int _=>T="int"
 | .ref p=>(T="list"∧∃ xs,SqL K H p xs)∨(T="tuple"∧∃ o,K.lookup p=some o∧o.cls=.type "tuple"∧o.dict=none) ∨
     (T="dict"∧((∃ kvs,H p=some (.dK kvs))∨∃ kvs,H p=some (.dT kvs)))∨(T="set"∧∃ S n,H p=some (.set S n))
 | _=>False
theorem qky {pins:List (Addr×Obj)}{σ:St}{H:Hp}{s:Shared}{T:String}{x:V}{v:Value} (I:Inv X pins σ H s) (r:RelV x v) (ty:tyV X.K T x H) :
   s.TypeIs v T∧∀ a,v=.ref a->∃ ob,s.heap.get? a=some ob∧ob.dict=none:=by
 cases x with
 | str z =>
   obtain⟨t,rfl⟩:=r;cases (show T="str" from ty);exact⟨typeIs_str s z t,fun _ e=>nomatch e⟩
 | int i =>
   obtain⟨t,rfl⟩:=r;cases (show T="int" from ty);exact⟨typeIs_int s i t,fun _ e=>nomatch e⟩
 | ref p =>
   cases r;rcases ty with ⟨rfl,xs,hq⟩|⟨rfl,o,hk,hc,hd⟩|⟨rfl,hk⟩|⟨rfl,S,n,hk⟩
   · obtain⟨its,_,pl,_⟩:=I.list hq;refine⟨pl.isList.typeIs,fun a e=>?_⟩;cases e;obtain⟨o,n,e,c,hd,_⟩:=pl;exact⟨o,e,hd⟩
   · refine⟨⟨o,I.kIn p o hk,hc⟩,fun a e=>?_⟩;cases e;exact⟨o,I.kIn _ o hk,hd⟩
   · have z:∃ o,s.heap.get? p=some o∧o.ExactDict:=by
       rcases hk with ⟨kvs,hk⟩|⟨kvs,hk⟩
       · obtain⟨_,_,_,_,o,_,_,e,ex,_⟩:=I.hok p _ hk;exact⟨o,e,ex⟩
       · obtain⟨_,_,_,_,o,_,_,e,ex,_⟩:=I.hok p _ hk;exact⟨o,e,ex⟩
     obtain⟨o,e,ex⟩:=z;refine⟨⟨o,e,ex.1⟩,fun a e2=>?_⟩;cases e2;exact⟨o,e,ex.2.1⟩
   · obtain⟨o,_,_,_,e,ex,_⟩:=I.hok p _ hk;refine⟨⟨o,e,ex.1⟩,fun a e2=>?_⟩;cases e2;exact⟨o,e,ex.2.1⟩
 | _=>exact False.elim ty
def tBM (K:Frag) (T:String) (r:V->List V->Hp->VK->Prop) (to:TE) (t:TA):TE:=fun σ H Q=>to σ H fun x H1=>tyV K T x H1∧t σ H1 fun xs H2=>r x xs H2 Q
variable {o e:Expr}{es:List Expr}{to:TE}{t:TA}{name:Str}{apos cpos:Pos}{T id:String}{r:V->List V->Hp->VK->Prop}
theorem qca (pa:PlainAttrs T) (slot:Slot T name id) (hty:typeOf (.builtin id)=pure (.type "method_descriptor")) (hm:MtR X id r) (ho:PE X o to) (ha:PA X (e::es) t)
   (hbase:attributeBase o name X.env (eval o X.env)=eval o X.env:=by rfl)
   (hfew:((backTo cpos (starEach (e::es) X.env)).all (fun x=>!x.1) && (backToKw cpos (keywordEach [] X.env)).all (fun x=>x.1.isSome)
     && decide ((e::es).length+([]:List Keyword).length+(if ([]:List Keyword).isEmpty then 0 else 1) < 30))=true:=by rfl)
   (hline:(apos.endLine == cpos.line)=true:=by rfl) (hs:starEach (e::es) X.env=(false,eval e X.env)::starEach es X.env:=by rfl) (hplain:(backTo cpos (starEach es X.env)).any (·.1)=false:=by rfl) :
   PE X (.Call (.Attribute o name apos) (e::es) [] cpos) (tBM X.K T r to t):=by
 intro pins s σ H Q I h;refine wpAny_Call_method_late hbase hfew hline rfl (thn (ho pins s σ H _ I h) fun v s1 zz_=>?_);obtain⟨x,H1,I1,r1,ty,q1⟩:=zz_;obtain⟨h1,h2⟩:=qky I1 r1 ty;refine⟨T,id,pa,slot,hty,h1,h2,?_⟩;have hA:=ha cpos pins s1 σ H1 _ I1 q1;rw[hs]at hA ⊢;refine Calls.callWith_builtin (by show (false || (backTo cpos (starEach es X.env)).any (·.1))=false;rw[hplain]<;>rfl) (Calls.evalArgs_plain ?_);exact thn hA fun us s2 ⟨vs,H2,I2,r2,q2⟩=>hm pins s2 σ H2 x vs v us Q I2 r1 r2 q2
end
def MtM (X:Cx) (id:String) (r:V->List V->Hp->VK->Prop):Prop :=
 ∀ (pins:List (Addr×Obj)) (s:Shared) (σ:St) (H:Hp) (x:V) (xs:List V) (v:Value) (us:List Value) (Q:VK),Inv X pins σ H s->RelV x v->Vals xs us->r x xs H Q ->
   wpAny (model X.prog X.w) X.A (call (.builtin id) (v::us)) (EP X pins σ Q) X.xe s
theorem Vals.one {x:V}{us:List Value} (h:Vals [x] us):∃ u,us=[u]∧RelV x u:=by
 cases h with
 | cons r t=>cases t;exact⟨_,rfl,r⟩
section
variable {X:Cx}{pins:List (Addr×Obj)}{σ:St}{H:Hp}{s:Shared}{l b:Addr}{xs ys zs:List V}
theorem Inv.lset {its its':List Value}{n:Nat}{f:Array Value->Array Value}{t':Nat} (I:Inv X pins σ H s) (hH:H l=some (.lst xs))
   (e:s.heap.get? l=some { cls:=.type "list",data:=.seq its.toArray n }) (hf:f its.toArray=its'.toArray) (hv:Vals ys its') (hz:ys.length≤sizeLine) :
   Inv X pins σ (upd H l (.lst ys)) { s with heap:=s.heap.update l (Obj.mapSeq f),toks:=t' }:=by
 have q:=PySem.IsL.update e f;rw[hf]at q;refine I.write (x:=l) (e:=l) (by rw[hH];exact trivial) (.inl rfl) (fun b' u hb hu=>(Heap.get?_update_other s.heap (Obj.mapSeq f) (Ne.symm hb)).trans hu) ⟨_,q⟩ ?_;exact⟨hz,its',_,hv,q⟩
theorem Inv.lnew {its:List Value}{t':Nat} (I:Inv X pins σ H s) (hv:Vals ys its) (hz:ys.length≤sizeLine) :
   Inv X pins σ (upd H s.heap.objs.size (.lst ys)) { s with heap:=s.heap.push { cls:=.type "list",data:=.seq its.toArray },toks:=t' } :=
 I.laid (fun _ _ q=>Heap.get?_push_of_some _ q) (Nat.le_refl _) ⟨hz,its,0,hv,Heap.get?_push_size _ rfl⟩
theorem Inv.fresh (I:Inv X pins σ H s):H s.heap.objs.size=none:=I.hok.fresh (Nat.le_refl _)
theorem Inv.lstM (I:Inv X pins σ H s) (hH:H l=some (.lst xs)):xs.length≤sizeLine∧∃ (its:List Value) (n:Nat),Vals xs its∧xs.length=its.length∧s.heap.get? l=some { cls:=.type "list",data:=.seq its.toArray n }:=by
 obtain⟨z,its,n,r,e⟩:=I.hok l _ hH;exact⟨z,its,n,r,r.length,e⟩
theorem qh1 {n:Nat} (h:n≤sizeLine):Builtin.List.listTooLong n=false:=by
 unfold Builtin.List.listTooLong;exact decide_eq_false (by omega)
end
section
variable {X:Cx}
inductive qcZ (x:V) (vs:List V) (H:Hp) (Q:VK):Prop
 | mk (l xs y:_) (h1:x=.ref l) (h2:vs=[y]) (h3:H l=some (.lst xs)) (h4:xs.length < sizeLine) (h5:Q .non (upd H l (.lst (xs++[y])))):qcZ x vs H Q
def qjO:V->List V->Hp->VK->Prop:=fun x vs H Q=>qcZ x vs H Q
theorem Qq:MtM X "list.append" qjO:=by
 intro pins s σ H x vs v us Q I rx rv h;obtain⟨l,xs,y,rfl,rfl,hH,hz,q⟩:=h;cases rx;obtain⟨u,rfl,ru⟩:=rv.one;obtain⟨z,its,n,r,hl,e⟩:=I.lstM hH;refine call_meets F.slot_list_append ⟨_,e,rfl⟩ F.entry_list_append (F.args_list_append_2 _ _) (PySem.list_append l its.toArray n u (by rw[List.size_toArray];omega)) ⟨e,?_⟩;refine⟨.non,_,I.lset (its':=its++[u]) hH e (by simp) (r.append (.cons ru .nil)) ?_,rfl,q⟩;rw[List.length_append,List.length_singleton];omega
def qjN:V->List V->Hp->VK->Prop:=fun x vs H Q=>∃ l b xs zs,x=.ref l∧vs=[.ref b]∧H l=some (.lst xs)∧H b=some (.lst zs)∧xs.length+zs.length≤sizeLine∧Q .non (upd H l (.lst (xs++zs)))
theorem qdb:MtM X "list.extend" qjN:=by
 intro pins s σ H x vs v us Q I rx rv h;obtain⟨l,b,xs,zs,rfl,rfl,hH,hB,hz,q⟩:=h;cases rx;obtain⟨u,rfl,ru⟩:=rv.one;cases ru;obtain⟨z,its,n,r,hl,e⟩:=I.lstM hH;obtain⟨z2,its2,n2,r2,hl2,e2⟩:=I.lstM hB;have hsz:its.toArray.size+its2.toArray.size≤sizeLine:=by rw[List.size_toArray,List.size_toArray];omega
 have hlong:¬ (!its.toArray.isEmpty && Builtin.List.listTooLong (its.toArray.size+its2.toArray.size))=true:=by
   rw[qh1 hsz,Bool.and_false];exact Bool.false_ne_true
 refine call_meets F.slot_list_extend ⟨_,e,rfl⟩ F.entry_list_extend (F.args_list_extend_2 _ _)
   (AutoSeq1.list_extend_list_list_0 l its.toArray n b its2.toArray n2 hlong (by rw[List.size_toArray];omega) (by omega)) ⟨e,e2,?_⟩
 refine⟨.non,_,I.lset (its':=its++its2) hH e (by simp) (r.append r2) ?_,rfl,q⟩;rw[List.length_append];omega
inductive qiZ (x:V) (y:V) (H:Hp) (Q:VK):Prop
 | mk (l b xs zs:_) (h1:x=.ref l) (h2:y=.ref b) (h3:H l=some (.lst xs)) (h4:H b=some (.lst zs)) (h5:xs.length+zs.length≤sizeLine) (h6:∀ p,H p=none->Q (.ref p) (upd H p (.lst (xs++zs)))):qiZ x y H Q
def qmC:R2:=fun x y H Q=>qiZ x y H Q
theorem op_cat:OpR X (binaryOp .Add) qmC:=by
 intro pins s σ H x y v u Q I rx ry h;obtain⟨l,b,xs,zs,rfl,rfl,hH,hB,hz,q⟩:=h;cases rx;cases ry;obtain⟨z,its,n,r,hl,e⟩:=I.lstM hH;obtain⟨z2,its2,n2,r2,hl2,e2⟩:=I.lstM hB;refine PySem.P.add_list e e2 ?_ (by rw[List.size_toArray,List.size_toArray];omega);have ea:its.toArray++its2.toArray=(its++its2).toArray:=by simp
 rw[ea];exact⟨.ref _,_,I.lnew (t':=s.toks) (r.append r2) (by rw[List.length_append];omega),rfl,q _ I.fresh⟩
end
section
variable {κ:Type} [DecidableEq κ]
def qa1 (kvs:List (κ×V)) (k:κ):Option V:=(kvs.find? fun kv=>decide (kv.1=k)).map (·.2)
def JM (kvs:List (κ×V)) (k:κ) (v:V):List (κ×V) :=
 if (kvs.any fun kv=>decide (kv.1=k))=true then kvs.map (fun kv=>if kv.1=k then (kv.1,v) else kv) else kvs++[(k,v)]
theorem qbT {p:κ×V}{r:List (κ×V)}{k:κ} (e:p.1=k):qa1 (p::r) k=some p.2:=by simp[qa1,List.find?_cons,e]
theorem qbU {p:κ×V}{r:List (κ×V)}{k:κ} (e:¬ p.1=k):qa1 (p::r) k=qa1 r k:=by simp[qa1,List.find?_cons,e]
theorem qbV (k:κ):∀ kvs:List (κ×V),(kvs.any fun kv=>decide (kv.1=k))=(qa1 kvs k).isSome
 | []=>rfl
 | p::r=>by
   rw[List.any_cons];by_cases e:p.1=k
   · simp only[qbT e,decide_eq_true e,Bool.true_or,Option.isSome_some]
   · rw[qbU e,decide_eq_false e,Bool.false_or];exact qbV k r
theorem jv (kvs:List (κ×V)) (k:κ) (v:V):(JM kvs k v).length≤kvs.length+1:=by
 unfold JM;split
 · rw[List.length_map];omega
 · rw[List.length_append,List.length_cons,List.length_nil];omega
theorem qb7 {kvs:List (κ×V)}{k:κ} (v:V) (h:qa1 kvs k=none):JM kvs k v=kvs++[(k,v)]:=by
 unfold JM;rw[qbV,h];exact if_neg (by decide)
theorem RelO.isSome_eq {o:Option V}{u:Option Value} (r:RelO o u):o.isSome=u.isSome:=by
 cases o with
 | none=>cases u with
   | none=>rfl
   | some _=>exact(show False from r).elim
 | some _=>cases u with
   | none=>exact(show False from r).elim
   | some _=>rfl
theorem KV.val {kvs:List (κ×V)}{vs:List (κ×Value)} (r:KV kvs vs) (k:κ):RelO (qa1 kvs k) (valueAt vs k):=by
 unfold KV at r
 induction r with
 | nil=>exact True.intro
 | @cons p q ps qs h t ih =>
   obtain⟨h1,h2⟩:=h;by_cases e:p.1=k
   · have e':q.1=k:=h1.symm.trans e;have b:valueAt (q::qs) k=some q.2:=by simp[valueAt,List.find?_cons,e']
     rw[qbT e,b];exact h2
   · have e':¬ q.1=k:=fun z=>e (h1.trans z);have b:valueAt (q::qs) k=valueAt qs k:=by simp[valueAt,List.find?_cons,e']
     rw[qbU e,b];exact ih
theorem KV.any {kvs:List (κ×V)}{vs:List (κ×Value)} (r:KV kvs vs) (k:κ):(kvs.any fun kv=>decide (kv.1=k))=vs.any fun kv=>decide (kv.1=k):=by
 unfold KV at r
 induction r with
 | nil=>rfl
 | cons h t ih=>rw[List.any_cons,List.any_cons,ih,h.1]
theorem KV.repl {kvs:List (κ×V)}{vs:List (κ×Value)} (r:KV kvs vs) (k:κ) {y:V}{u:Value} (ry:RelV y u) :
   KV (kvs.map fun kv=>if kv.1=k then (kv.1,y) else kv) (vs.map fun kv=>if kv.1=k then (kv.1,u) else kv):=by
 unfold KV at r ⊢
 induction r with
 | nil=>exact .nil
 | @cons p q ps qs h t ih =>
   rw[List.map_cons,List.map_cons];refine .cons ?_ ih;obtain⟨h1,h2⟩:=h;by_cases e:p.1=k
   · rw[if_pos e,if_pos (h1.symm.trans e)];exact⟨h1,ry⟩
   · rw[if_neg e,if_neg (fun z=>e (h1.trans z))];exact⟨h1,h2⟩
theorem KV.put {kvs:List (κ×V)}{vs:List (κ×Value)} (r:KV kvs vs) (k:κ) {y:V}{u:Value} (ry:RelV y u):KV (JM kvs k y) (stored vs k u):=by
 unfold JM stored;rw[r.any k];by_cases e:(vs.any fun kv=>decide (kv.1=k))=true
 · rw[if_pos e,if_pos e];exact r.repl k ry
 · rw[if_neg e,if_neg e];exact Paired.snoc r ⟨rfl,ry⟩
theorem KV.length {kvs:List (κ×V)}{vs:List (κ×Value)} (r:KV kvs vs):kvs.length=vs.length:=Paired.length r
end
theorem qfh {P:Program}{w:World}{k:Key}{u:Value} (r:RelV (kV k) u):(qV P w).is k u=true:=by
 cases k with
 | inl i=>obtain⟨t,e⟩:=(show ∃ t,u=Value.int i t from r);subst e;exact qdW P w i t
 | inr x=>obtain⟨t,e⟩:=(show ∃ t,u=Value.str x t from r);subst e;exact qdV P w x t
theorem qdj {P:Program}{w:World}:∀ {ks:List Key}{us:List Value},Vals (ks.map kV) us->ItemsAre (qV P w) ks us
 | [],_,r=>by rw[List.map_nil]at r;cases r;exact .nil
 | k::ks,_,r=>by
   rw[List.map_cons]at r
   cases r with
   | cons h t=>exact .cons (qfh h) (qdj t)
abbrev KT (H:Hp):List (List Key×V)->List (List Key×Addr×Value)->Prop:=Paired fun p q=>p.1=q.1∧H q.2.1=some (.tup (p.1.map kV))∧RelV p.2 q.2.2
theorem KT.val {H:Hp}{kvs:List (List Key×V)}{xs:List (List Key×Addr×Value)} (r:KT H kvs xs) (k:List Key):RelO (qa1 kvs k) ((atKey xs k).map (·.2)):=by
 induction r with
 | nil=>exact True.intro
 | @cons p q ps qs h t ih =>
   obtain⟨h1,_,h2⟩:=h;by_cases e:p.1=k
   · have e':q.1=k:=h1.symm.trans e;have b:atKey (q::qs) k=some q.2:=by simp[atKey,List.find?_cons,e']
     rw[qbT e,b];exact h2
   · have e':¬ q.1=k:=fun z=>e (h1.trans z);have b:atKey (q::qs) k=atKey qs k:=by simp[atKey,List.find?_cons,e']
     rw[qbU e,b];exact ih
theorem KT.repl {H:Hp}{kvs:List (List Key×V)}{xs:List (List Key×Addr×Value)} (r:KT H kvs xs) (k:List Key) {y:V}{u:Value} (ry:RelV y u) :
   KT H (kvs.map fun kv=>if kv.1=k then (kv.1,y) else kv) (xs.map (putAt k u)):=by
 induction r with
 | nil=>exact .nil
 | @cons p q ps qs h t ih =>
   rw[List.map_cons,List.map_cons];refine .cons ?_ ih;obtain⟨h1,h2,h3⟩:=h;unfold putAt;by_cases e:p.1=k
   · rw[if_pos e,if_pos (h1.symm.trans e)];exact⟨h1,h2,ry⟩
   · rw[if_neg e,if_neg (fun z=>e (h1.trans z))];exact⟨h1,h2,h3⟩
theorem KT.put {H:Hp}{kvs:List (List Key×V)}{xs:List (List Key×Addr×Value)} (r:KT H kvs xs) (k:List Key) {b:Addr}{y:V}{u:Value} (hb:H b=some (.tup (k.map kV))) (ry:RelV y u) :
   KT H (JM kvs k y) (storedH xs k b u):=by
 have e:(kvs.any fun kv=>decide (kv.1=k))=(atKey xs k).isSome:=by
   rw[qbV,(r.val k).isSome_eq,Option.isSome_map]
 unfold JM storedH;rw[e];by_cases q:(atKey xs k).isSome=true
 · rw[if_pos q,if_pos q];exact r.repl k ry
 · rw[if_neg q,if_neg q];exact Paired.snoc r ⟨rfl,hb,ry⟩
theorem KT.keeps {H H':Hp}{kvs:List (List Key×V)}{xs:List (List Key×Addr×Value)} (r:KT H kvs xs) (ht:∀ b ys,H b=some (.tup ys)->H' b=some (.tup ys)):KT H' kvs xs :=
 Paired.mapP r fun _ _ z=>⟨z.1,ht _ _ z.2.1,z.2.2⟩
section
variable {P:Program}{w:World}{H:Hp}{h:Heap}{a:Addr}
theorem qkQ {u:HO} (ok:HOk P w H h) (e:Rd H a u):ObjOk P w H h a u:=e.ok ok
theorem qcu {kvs:List (Key×V)} (ok:HOk P w H h) (e:Rd H a (.dK kvs)):kvs.length≤sizeLine∧(a == sysModules)=false∧∃ vs,KV kvs vs∧h.DictOf (qV P w) a vs :=
 show ObjOk P w H h a (.dK kvs) from qkQ ok e
theorem qlx {kvs:List (Key×V)} (ok:HOk P w H h) (e:H a=some (.dK kvs)):kvs.length≤sizeLine∧(a == sysModules)=false∧∃ vs,KV kvs vs∧h.DictOf (qV P w) a vs:=qcu ok (.inl e)
theorem qdh {ks:List Key} (ok:HOk P w H h) (e:H a=some (.tup (ks.map kV))):(tupleKind (qV P w)).is h ks a:=by
 obtain⟨_,its,r,o,h1,h2,n,h3⟩:=(show ObjOk P w H h a (.tup (ks.map kV)) from ok a _ e)
 exact⟨o,its.toArray,n,h1,h2,h3,by simpa using qdj r⟩
theorem qfm {kvs:List (List Key×V)} (ok:HOk P w H h) (e:Rd H a (.dT kvs)):kvs.length≤sizeLine∧(a == sysModules)=false ∧
   ∃ xs,KT H kvs xs∧h.DictOfH (tupleKind (qV P w)) a xs:=by
 obtain⟨z,y,xs,r,o,es,ep,h1,h2,h3,h4,h5⟩:=(show ObjOk P w H h a (.dT kvs) from qkQ ok e)
 refine⟨z,y,xs,r,o,es,ep,h1,h2,h3,h4,fun x hx=>?_,h5⟩
 have all:∀ {l:List (List Key×V)}{m:List (List Key×Addr×Value)},KT H l m->∀ x∈m,(tupleKind (qV P w)).is h x.1 x.2.1:=by
   intro l m q
   induction q with
   | nil=>intro x hx;exact nomatch hx
   | @cons p q ps qs hq t ih =>
     intro x hx;rcases List.mem_cons.mp hx with e|hx
     · subst e;exact qdh ok (by rw[← hq.1];exact hq.2.1)
     · exact ih x hx
 exact all r x hx
theorem qmi {kvs:List (List Key×V)} (ok:HOk P w H h) (e:H a=some (.dT kvs)):kvs.length≤sizeLine∧(a == sysModules)=false ∧
   ∃ xs,KT H kvs xs∧h.DictOfH (tupleKind (qV P w)) a xs:=qfm ok (.inl e)
end
def qdB (H:Hp) (a:Addr) (y:V) (r:Option V):Prop :=
 (∃ kvs k,Rd H a (.dK kvs)∧y=kV k∧r=qa1 kvs k)∨∃ kvs k b,Rd H a (.dT kvs)∧y=.ref b∧H b=some (.tup (k.map kV))∧r=qa1 kvs k
def DPut (H:Hp) (a:Addr) (y v:V) (H':Hp):Prop :=
 (∃ kvs k,H a=some (.dK kvs)∧y=kV k∧kvs.length < sizeLine∧H'=upd H a (.dK (JM kvs k v))) ∨
 ∃ kvs k b,H a=some (.dT kvs)∧y=.ref b∧H b=some (.tup (k.map kV))∧kvs.length < sizeLine∧H'=upd H a (.dT (JM kvs k v))
theorem DPut.k {H:Hp}{a:Addr}{kvs:List (Key×V)}{k:Key}{v:V} (e:H a=some (.dK kvs)) (hl:kvs.length < sizeLine):DPut H a (kV k) v (upd H a (.dK (JM kvs k v))):=.inl ⟨kvs,k,e,rfl,hl,rfl⟩
section
variable {X:Cx}{pins:List (Addr×Obj)}{σ:St}{H:Hp}{s:Shared}{a:Addr}{y v:V}{u r:Value}{o:Option V}{A:Around}{E:Value->Shared->Prop}
theorem Inv.big (I:Inv X pins σ H s):sysModules < s.heap.objs.size:=by
 have h:mainGlobals < s.heap.objs.size:=(I.mod.glob.keeps I.bk).lt;exact Nat.lt_trans (by decide) h
theorem qg5 {Q:Value->Shared->Prop} (hu:A.units+1 < cLine) (I:Inv X pins σ H s) (g:qdB H a y (some v)) (ry:RelV y u) (h:∀ w' s',Inv X pins σ H s'->RelV v w'->Q w' s') :
   wpAny (model X.prog X.w) A (getItem (.ref a) u) Q E s:=by
 rcases g with ⟨kvs,k,e,ey,l⟩|⟨kvs,k,b,e,ey,eb,l⟩
 · subst ey;obtain⟨z,hd,vs,rel,dd⟩:=qcu I.hok e;obtain⟨w',hw,rw'⟩:=RelO.some_of (v:=v) (o:=valueAt vs k) (by rw[l];exact rel.val k);exact wpAny_getItem_of (qfh ry) dd.mapOf hw (h w' _ (I.tok _) rw')
 · subst ey;cases (show u=Value.ref b from ry);obtain⟨z,hd,xs,rel,dd⟩:=qfm I.hok e;obtain⟨w',hw,rw'⟩:=RelO.some_of (v:=v) (o:=(atKey xs k).map (·.2)) (by rw[l];exact rel.val k);obtain⟨p,hp,hp2⟩:=Option.map_eq_some_iff.mp hw;refine wpAny_getItem_heap (tupleKind_room_in1 hu) (qdh I.hok eb) dd hp ?_;rw[hp2];exact h w' _ (I.tok _) rw'
theorem qnb {Q:Value->Shared->Prop} (hu:A.units+1 < cLine) (I:Inv X pins σ H s) (g:qdB H a y o) (ry:RelV y u) (h:∀ s',Inv X pins σ H s'->Q (.bool o.isSome) s') :
   wpAny (model X.prog X.w) A (compareOp .In u (.ref a)) Q E s:=by
 rcases g with ⟨kvs,k,e,ey,l⟩|⟨kvs,k,b,e,ey,eb,l⟩
 · subst ey;obtain⟨z,hd,vs,rel,dd⟩:=qcu I.hok e;refine wpAny_in_of (qfh ry) hd dd.mapOf ?_;rw[← (rel.val k).isSome_eq,← l];exact h _ (I.tok _)
 · subst ey;cases (show u=Value.ref b from ry);obtain⟨z,hd,xs,rel,dd⟩:=qfm I.hok e;refine wpAny_in_heap (tupleKind_room_in1 hu) (qdh I.hok eb) hd dd ?_;have q:=(rel.val k).isSome_eq;rw[Option.isSome_map]at q;rw[← q,← l];exact h _ (I.tok _)
theorem qkm {Q:Value->Shared->Prop} (hu:A.units+1 < cLine) (I:Inv X pins σ H s) (g:qdB H a y o) (ry:RelV y u) (h:∀ s',Inv X pins σ H s'->Q (.bool (!o.isSome)) s') :
   wpAny (model X.prog X.w) A (compareOp .NotIn u (.ref a)) Q E s:=by
 rcases g with ⟨kvs,k,e,ey,l⟩|⟨kvs,k,b,e,ey,eb,l⟩
 · subst ey;obtain⟨z,hd,vs,rel,dd⟩:=qcu I.hok e;refine wpAny_notIn_of (qfh ry) hd dd.mapOf ?_;rw[← (rel.val k).isSome_eq,← l];exact h _ (I.tok _)
 · subst ey;cases (show u=Value.ref b from ry);obtain⟨z,hd,xs,rel,dd⟩:=qfm I.hok e;refine wpAny_notIn_heap (tupleKind_room_in1 hu) (qdh I.hok eb) hd dd ?_;have q:=(rel.val k).isSome_eq;rw[Option.isSome_map]at q;rw[← q,← l];exact h _ (I.tok _)
theorem qd2 {h':Heap}{t':Nat}{ob:HO} (I:Inv X pins σ H s) (mu:Mut (H a)) (hs:Heap.SameBut a s.heap h') (he:∃ q,h'.get? a=some q) (new:ObjOk X.prog X.w (upd H a ob) h' a ob) :
   Inv X pins σ (upd H a ob) { s with heap:=h',toks:=t' } :=
 I.write (x:=a) (e:=a) mu (.inl rfl) (fun b q hb z=>(hs.2 b hb).trans z) he new
theorem qjh {P:Program}{w:World}{H':Hp}{h':Heap}{kvs:List (Key×V)}{vs:List (Key×Value)} (z:kvs.length≤sizeLine) (hd:(a == sysModules)=false) (rel:KV kvs vs) (dd:h'.DictOf (qV P w) a vs) :
   ObjOk P w H' h' a (.dK kvs):=⟨z,hd,vs,rel,dd⟩
theorem qg4 {H':Hp}{Q:Unit->Shared->Prop} (hu:A.units+1 < cLine) (I:Inv X pins σ H s) (g:DPut H a y v H') (ry:RelV y u) (rv:RelV v r) (h:∀ s',Inv X pins σ H' s'->Q () s') :
   wpAny (model X.prog X.w) A (setItem (.ref a) u r) Q E s:=by
 rcases g with ⟨kvs,k,e,ey,l,eH⟩|⟨kvs,k,b,e,ey,eb,l,eH⟩
 · subst ey eH;obtain⟨z,hd,vs,rel,dd⟩:=qlx I.hok e;have hz:vs.length≤sizeLine:=by rw[← rel.length];exact z
   have hl:(JM kvs k v).length≤sizeLine:=by have:=jv kvs k v;omega
   refine wpAny_setItem_pairs (hsz:=hz) (qfh ry) dd fun h' dd' hs=>h _ ?_;have he:∃ q,h'.get? a=some q:=let ⟨q,_,_,hq,_⟩:=dd';⟨q,hq⟩;exact qd2 I (by rw[e];exact True.intro) hs he (qjh hl hd (rel.put k rv) dd')
 · subst ey eH;cases (show u=Value.ref b from ry);obtain⟨z,hd,xs,rel,dd⟩:=qmi I.hok e;have hz:xs.length≤sizeLine:=by rw[← Paired.length rel];exact z
   have hl:(JM kvs k v).length≤sizeLine:=by have:=jv kvs k v;omega
   refine wpAny_setItem_heap (hsz:=hz) (tupleKind_room_in1 hu) (qdh I.hok eb) dd fun h' dd' hs=>h _ ?_;obtain⟨q,es,ep,hq,h2,h3,h4,_,h5⟩:=dd';refine qd2 I (by rw[e];exact True.intro) hs ⟨q,hq⟩ ⟨hl,hd,_,(rel.put k eb rv).keeps fun c ys ec=>?_,q,es,ep,hq,h2,h3,h4,h5⟩;rw[qh (qW ec e (fun z=>nomatch z))];exact ec
end
section
variable {X:Cx}{pins:List (Addr×Obj)}{σ:St}{H:Hp}{s:Shared}{a:Addr}{kvs:List (Key×V)}{k:Key}{u:Value}{A:Around}{E:Value->Shared->Prop}
theorem qmj {Q:Value->Shared->Prop} (I:Inv X pins σ H s) (e:Rd H a (.dK kvs)) (h:∀ t s',Inv X pins σ H s'->Q (.int kvs.length t) s'):wpAny (model X.prog X.w) A (call (.builtin "len") [.ref a]) Q E s:=by
 obtain⟨z,hd,vs,rel,dd⟩:=qcu I.hok e;refine call_len_dict hd dd (by rw[← rel.length];rw[sizeLine_eq]at z;omega) ?_;rw[← rel.length];exact h _ _ (I.tok _)
end
def qmM (i:Expr):Prop:=∀ ov iv,subscripted i false ov iv=operate [ov,iv] (getItem ov iv)
theorem qjy {prog:Program}{w:World}{A:Around}{E:Value->Shared->Prop}{s:Shared}{env:Env}{value slice:Expr}{pos:Pos}{T id:String}{Q:Value->Shared->Prop}
   (hl:typeLookup (.type T) "__getitem__"=pure (some (.builtin id))) (hs:qmM slice)
   (h:wpAny (model prog w) A (eval value env) (fun o s₁=>wpAny (model prog w) A (eval slice env) (fun i s₂=>s₂.TypeIs o T∧wpAny (model prog w) A (getItem o i) Q E s₂) E s₁) E s) :
   wpAny (model prog w) A (eval (.Subscript value slice pos) env) Q E s:=by
 refine Subscript_ (wpAny_mono h (fun o s₁ h₁=>wpAny_mono h₁ (fun i s₂ h₂=>?_) fun _ _ x=>x) fun _ _ x=>x);obtain⟨hT,h₂⟩:=h₂;unfold subscriptTail;refine wpAny_bind ?_;rw[getitemInPython_of_ne hT.not_modules];refine wpAny_bind (wpAny_specialOf hT hl ?_)
 have fin:wpAny (model prog w) A (subscripted slice false o i) (fun r s₃=>wpAny (model prog w) A (letTemporaryGo value o r >>= fun _=>pure r) Q E s₃) E s₂:=by
   rw[hs o i];exact wpAny_operating (wpAny_mono h₂ (fun r s₃ h₃=>wpAny_bind (wpAny_letTemporaryGo (wpAny_pure h₃))) fun _ _ x=>x)
 first
   | exact wpAny_pure (wpAny_bind fin)
   | exact wpAny_bind (wpAny_pure (wpAny_bind fin))
   | exact wpAny_bind fin
theorem qd1 {X:Cx}{pins:List (Addr×Obj)}{σ:St}{H:Hp}{s:Shared}{a:Addr}{y:V}{o:Option V} (I:Inv X pins σ H s) (g:qdB H a y o):s.TypeIs (.ref a) "dict":=by
 rcases g with ⟨kvs,k,e,_,_⟩|⟨kvs,k,b,e,_,_,_⟩
 · obtain⟨_,_,vs,_,dd⟩:=qcu I.hok e;exact dd.typeIs
 · obtain⟨_,_,xs,_,dd⟩:=qfm I.hok e;exact dd.typeIs
def qlQ (td ty:TE):TE:=fun σ H Q=>td σ H fun x H1=>ty σ H1 fun y H2=>∃ a v,x=.ref a∧qdB H2 a y (some v)∧Q v H2
def qlU (td ty tv:TE):TS:=fun D σ H=>tv σ H fun v H1=>td σ H1 fun x H2=>ty σ H2 fun y H3=>∃ a H4,x=.ref a∧DPut H3 a y v H4∧D.nx σ H4
section
variable {X:Cx}{o i e value:Expr}{pos pos' tpos:Pos}{td ty tv:TE}
theorem zN (hu:X.A.units+1 < cLine) (ho:PE X o td) (hi:PE X i ty) (hs:qmM i):PE X (.Subscript o i pos) (qlQ td ty):=by
 intro pins s σ H Q I h;refine qjy PySem.F.slot_dict_getitem.lookup hs (thn (ho pins s σ H _ I h) fun u s1 ⟨x,H1,I1,rx,q1⟩=>thn (hi pins s1 σ H1 _ I1 q1) fun iv s2 zz_=>?_);obtain⟨y,H2,I2,ry,a,v,ex,g,q2⟩:=zz_;subst ex;obtain rfl:u=Value.ref a:=rx;exact⟨qd1 I2 g,qg5 hu I2 g ry fun w' s3 I3 rw'=>⟨v,H2,I3,rw',q2⟩⟩
theorem qaA (hu:X.A.units+1 < cLine) (ho:PE X o td) (hi:PE X i ty) (hv:PE X value tv) (hs:swapsWith value (some (.Subscript o i pos')) pos.line X.env=pure false) :
   PS X (.Assign [.Subscript o i pos'] value pos) (qlU td ty tv):=by
 intro pins s σ H D I h;refine wpAny_Assign_Subscript (thn (hv pins s σ H _ I h) fun r s1 ⟨v,H1,I1,rv,q1⟩=>thn (ho pins s1 σ H1 _ I1 q1) fun u s2 ⟨x,H2,I2,rx,q2⟩=>thn (hi pins s2 σ H2 _ I2 q2) fun iv s3 zz_=>?_) hs;obtain⟨y,H3,I3,ry,a,H4,ex,g,q3⟩:=zz_;subst ex;obtain rfl:u=Value.ref a:=rx;exact qg4 hu I3 g ry rv fun s4 I4=>⟨σ,H4,I4,q3⟩
end
theorem qeP {P:Program}{w:World}{H:Hp} (h:Heap) (hb:sysModules < h.objs.size):ObjOk P w H (h.push { cls:=.type "dict",data:=.dict #[] }) h.objs.size (.dK []) :=
 ⟨Nat.zero_le _,beq_eq_false_iff_ne.mpr (Ne.symm (Nat.ne_of_lt hb)),[],.nil,Heap.DictOf.new h⟩
def qkD:TE:=fun _ H Q=>∀ p,H p=none->Q (.ref p) (upd H p (.dK []))
section
variable {X:Cx}{pos:Pos}
theorem jX:PE X (.Dict [] [] pos) qkD:=fun pins s σ H Q I h =>
 wpAny_Dict_empty ⟨.ref s.heap.objs.size,_,I.laid (a:=s.heap.objs.size) (o:=.dK []) (t':=s.toks) (fun _ _ q=>Heap.get?_push_of_some _ q) (Nat.le_refl _) (qeP s.heap I.big),rfl,h _ (I.hok.fresh (Nat.le_refl _))⟩
end
def qfE:List (TE×TE)->St->Hp->(List (V×V)->Hp->Prop)->Prop
 | [],_,H,Q=>Q [] H
 | (tk,tv)::r,σ,H,Q=>tk σ H fun x H1=>tv σ H1 fun y H2=>qfE r σ H2 fun ps H3=>Q ((x,y)::ps) H3
abbrev VV:List (V×V)->List (Value×Value)->Prop:=Paired fun p q=>RelV p.1 q.1∧RelV p.2 q.2
def PPs (X:Cx) (pos:Pos) (keys:List (Option Expr)) (values:List Expr) (trs:List (TE×TE)):Prop :=
 ∀ (pins:List (Addr×Obj)) (s:Shared) (σ:St) (H:Hp) (Q:List (V×V)->Hp->Prop),Inv X pins σ H s->qfE trs σ H Q ->
   wpAny (model X.prog X.w) X.A (evalPairs (pairTrees keys values X.env pos)) (fun vs s'=>∃ ps H',Inv X pins σ H' s'∧VV ps vs∧Q ps H') X.xe s
theorem qjQ {X:Cx}{pos:Pos}:PPs X pos [] [] []:=fun pins s σ H Q I h=>pairTrees_nil_walk ⟨[],H,I,.nil,h⟩
theorem qhF {X:Cx}{pos:Pos}{k v:Expr}{ks:List (Option Expr)}{vs:List Expr}{tk tv:TE}{trs:List (TE×TE)} (hk:PE X k tk) (hv:PE X v tv) (hr:PPs X pos ks vs trs) :
   PPs X pos (some k::ks) (v::vs) ((tk,tv)::trs):=fun pins s σ H Q I h =>
 pairTrees_cons_walk (thn (hk pins s σ H _ I h) fun u s1 ⟨x,H1,I1,rx,q1⟩=>thn (hv pins s1 σ H1 _ I1 q1) fun w2 s2 ⟨y,H2,I2,ry,q2⟩ =>
   thn (hr pins s2 σ H2 _ I2 q2) fun ws s3 ⟨ps,H3,I3,rel,q3⟩=>⟨(x,y)::ps,H3,I3,.cons ⟨rx,ry⟩ rel,q3⟩)
def qbH (kvs more:List (Key×V)):List (Key×V):=more.foldl (fun acc kv=>JM acc kv.1 kv.2) kvs
theorem KV.merge:∀ {more:List (Key×V)}{rs:List (Key×Value)}{kvs:List (Key×V)}{vs:List (Key×Value)},KV more rs->KV kvs vs->KV (qbH kvs more) (merged vs rs):=by
 intro more rs kvs vs r;unfold KV at r
 induction r generalizing kvs vs with
 | nil=>intro q;exact q
 | @cons p q ps qs h t ih =>
   intro r0
   have e:KV (JM kvs p.1 p.2) (stored vs q.1 q.2):=by
     have:=r0.put p.1 h.2
     rw[← h.1];exact this
   exact ih e
theorem j8:∀ (more kvs:List (Key×V)),(qbH kvs more).length≤kvs.length+more.length
 | [],kvs=>by show kvs.length≤kvs.length+0;omega
 | p::r,kvs=>by
   have h1:=j8 r (JM kvs p.1 p.2);have h2:=jv kvs p.1 p.2;show (qbH (JM kvs p.1 p.2) r).length≤_;rw[List.length_cons];omega
theorem qbO {P:Program}{w:World}:∀ {kvs:List (Key×V)}{ws:List (Value×Value)},VV (kvs.map fun kv=>(kV kv.1,kv.2)) ws->∃ rs,Carries (qV P w) ws rs∧KV kvs rs
 | [],_,r=>by rw[List.map_nil]at r;cases r;exact⟨[],True.intro,.nil⟩
 | p::kvs,_,r=>by
   rw[List.map_cons]at r
   cases r with
   | @cons a b as bs h t =>
     obtain⟨rs,c,q⟩:=qbO (P:=P) (w:=w) t;obtain⟨b1,b2⟩:=b;exact⟨(p.1,b2)::rs,⟨qfh h.1,rfl,c⟩,.cons ⟨rfl,h.2⟩ q⟩
def qlP (trs:List (TE×TE)):TE:=fun σ H Q=>∀ p,H p=none->qfE trs σ (upd H p (.dK [])) fun ps H2=>H2 p=some (.dK [])∧∃ kvs:List (Key×V),ps=kvs.map (fun kv=>(kV kv.1,kv.2))∧kvs.length≤15∧Q (.ref p) (upd H2 p (.dK (qbH [] kvs)))
theorem qjV {X:Cx}{pos:Pos}{keys:List (Option Expr)}{values:List Expr}{trs:List (TE×TE)} (h:PPs X pos keys values trs) (hall:keys.all (·.isSome)=true) (hl:keys.length=values.length) (h0:keys≠[])
   (h15:keys.length≤15):PE X (.Dict keys values pos) (qlP trs):=by
 intro pins s σ H Q I q;have hn:=I.hok.fresh (Nat.le_refl s.heap.objs.size);have I1:=I.laid (a:=s.heap.objs.size) (o:=.dK []) (h':=s.heap.push { cls:=.type "dict",data:=.dict #[] }) (t':=s.toks) (fun _ _ q=>Heap.get?_push_of_some _ q) (Nat.le_refl _) (qeP s.heap I.big);refine wpAny_Dict_walk (knd:=qV X.prog X.w) hall hl h0 h15 (thn (h pins _ σ _ _ I1 (q _ hn)) fun ws s2 zz_=>?_);obtain⟨ps,H2,I2,rel,e,kvs,ep,lk,q2⟩:=zz_;subst ep;obtain⟨rs,c,rk⟩:=qbO (P:=X.prog) (w:=X.w) rel;obtain⟨z,hd,vs0,r0,dd⟩:=qlx I2.hok e;cases r0;refine⟨rs,c,dd,fun h' dd' hs=>⟨.ref s.heap.objs.size,_,?_,rfl,q2⟩⟩
 have hz:(qbH [] kvs).length≤sizeLine:=by
   have h1:=j8 kvs [];rw[List.length_nil]at h1;rw[sizeLine_eq];omega
 have he:∃ q,h'.get? s.heap.objs.size=some q:=let ⟨q,_,_,hq,_⟩:=dd';⟨q,hq⟩;exact qd2 I2 (by rw[e];exact True.intro) hs he (qjh hz hd (rk.merge .nil) dd')
def IsD (H:Hp) (a:Addr):Prop:=(∃ kvs,Rd H a (.dK kvs))∨∃ kvs,Rd H a (.dT kvs)
theorem qlo {X:Cx}{pins:List (Addr×Obj)}{σ:St}{H:Hp}{s:Shared}{a:Addr} (I:Inv X pins σ H s) (d:IsD H a) :
   s.TypeIs (.ref a) "dict"∧(∀ b,Value.ref a=.ref b->∃ ob,s.heap.get? b=some ob∧ob.dict=none)∧(a == sysModules)=false:=by
 rcases d with ⟨kvs,e⟩|⟨kvs,e⟩
 · obtain⟨_,hd,vs,_,dd⟩:=qcu I.hok e;refine⟨dd.typeIs,fun b q=>?_,hd⟩;cases q;obtain⟨ob,_,_,h1,h2,_⟩:=dd;exact⟨ob,h1,h2.2.1⟩
 · obtain⟨_,hd,xs,_,dd⟩:=qfm I.hok e;refine⟨dd.typeIs,fun b q=>?_,hd⟩;cases q;obtain⟨ob,_,_,h1,h2,_⟩:=dd;exact⟨ob,h1,h2.2.1⟩
end L2
namespace Att
open PySem PySem.W PySem.Calls PyProof.Rows
theorem qaS {P:Params}{h:Heap}:∀ (ns:List Int) (vs:List Value),WellAll P h vs (ns.map WData.int)->IntsAre vs ns:=by
 intro ns
 induction ns with
 | nil =>
   intro vs w;rw[List.map_nil]at w;cases w;exact .nil
 | cons n ns ih =>
   intro vs w;rw[List.map_cons]at w
   cases w with
   | cons a b =>
     cases a;exact .cons _ _ (ih _ b)
theorem qfQ {l:OpenLaw}{n:Nat} (hn:l.most=some n) {P:Params}{h:Heap}{args:List WData}{vals:List Value}
   (hpre:l.row.toRowW.claim.pre args=true) (hwl:WellAll P h vals args) :
   ∃ a vs ns,vals=[Value.ref a]∧args=[WData.list (ns.map WData.int)]∧h.get? a=some { cls:=.type "list",data:=.seq vs.toArray }∧IntsAre vs ns∧ns.length≤n:=by
 have hsh:WShape.hasAll [] args [.list .int]=true:=(pre_splitW hpre).1;have hc:l.pre.holds [] { args:=args }=true:=(pre_splitW hpre).2;obtain⟨d,r,rfl,h1,h2⟩:=hasAllW_cons hsh;obtain rfl:=hasAllW_nil h2;obtain⟨xs,rfl,h3⟩:=hasW_list h1;obtain⟨ns,rfl⟩:=items_int h3
 have hlen:ns.length≤n:=by
   unfold OpenLaw.pre at hc
   have h4:(WTm.not (.lt (.lit (.int (n:Int))) (.len (.arg 0)))).holds [] { args:=[.list (ns.map .int)] }=true:=by
     have h4:=(holds_andW hc).1;rw[hn]at h4;exact h4
   have h5:=condW_of h4 (w_not (w_lt w_lit (w_len_list (w_arg rfl))));rw[List.length_map]at h5;refine Nat.le_of_not_lt fun q=>?_;have q':(n:Int) < ((ns.length:Nat):Int):=by omega
   first
     | (rw[decide_eq_true q']at h5;exact absurd h5 (by decide))
     | (simp at h5;omega)
 cases hwl with
 | cons w1 w2 =>
   cases w2
   cases w1 with
   | list ho hall=>exact⟨_,_,ns,rfl,rfl,ho,qaS ns _ hall,hlen⟩
theorem qf8 (l:OpenLaw) (args:List WData):l.row.toRowW.claim.post args (.bool true) args=true :=
 postW_of (r:=l.row.toRowW) (X:=(true == true))
   (show WShape.has [] (.bool true) .bool=true by first|rfl|decide|simp[WShape.has,WShape.arms,WShape.armsAll])
   (show (WTm.eq .res (.lit (.bool true))).value [] { args:=args,res:=some (.bool true),after:=args }=some (.bool (true == true)) from w_eq_bool (w_res rfl) w_lit) rfl
theorem attach_call {l:OpenLaw}{n:Nat}{q:Program}{loose:List Str}{XP:(Str->Option Value)->Heap->Prop}{YP:World->Heap->Prop}{d:DefRec}
   (hn:l.most=some n) (hdf:d.params.defaults=[])
   (call:∀ (w:World) (s₀ s₁:Shared) (mg mb:Str->Option Value) (fa:Addr) (o:Obj) (pm cd doc:Value) (a:Addr) (vs:List Value) (ns:List Int),
     Ground q loose [] XP w s₀ mg mb s₁.heap->YP w s₁.heap ->
     s₁.heap.get? fa=some o->o.data=.func (docDef d.name d.params d.body d.scope pm cd doc)->s₁.heap.CodeRec cd d.name->mg d.name=some (.ref fa) ->
     s₁.heap.get? a=some { cls:=.type "list",data:=.seq vs.toArray }->IntsAre vs ns->ns.length≤n->s₁.gens=#[] ->
     codeAny (model l.prog w) callerA (.call (.ref fa) ⟨[.ref a],[]⟩) (fun r s'=>r=.ok (.ret (.bool true))∧OldK s₁.heap s'.heap∧s'.os=s₁.os∧AllBare s'.gens) s₁) :
   WalkO q loose XP YP l.row.toRowW d [] (fun f vs=>PySem.call f vs):=by
 intro w s₀ s₁ mg mb G Y fa o pm cd doc dV kV ho hd hcd hD hmg hg args vals as hpre hlay hrd hwl hlo;obtain rfl:dV=.none:=Dflts.none hD hdf;obtain rfl:kV=.none:=Dflts.noKw hD;obtain⟨a,vs,ns,rfl,rfl,hobj,hints,hlen⟩:=qfQ hn hpre hwl;refine enter_call (codeAny_mono (call w s₀ s₁ mg mb fa o pm cd doc a vs ns G Y ho (fd_plain hd) hcd hmg hobj hints hlen hg) fun r s' hq=>?_);obtain⟨rfl,h2,h3,h4⟩:=hq;exact⟨.inl ⟨.bool true,.bool true,[],rfl,fun _=>rfl,.bool true,qf8 l _,fun _=>⟨List.Pairwise.nil,fun _ hm=>(nomatch hm)⟩⟩,h2,h3,h4⟩
end Att
namespace L2
open PySem PySem.Spec PyProof.Rows
open PySem.W (Frag keepIn kitOne fnOf codeIn)
theorem qcA:∀ {vs:List Value}{ns:List Int},IntsAre vs ns->Vals (ns.map V.int) vs
 | _,_,.nil=>.nil
 | _,_,.cons n t h=>.cons ⟨t,rfl⟩ (qcA h)
def qQ (s:Stmt) (j:Nat):Stmt:=match s with
 | .ClassDef _ _ _ body _ _ _ _ _ _ _=>body.getD j (.Pass ⟨0,0,0,0⟩)
 | _=>.Pass ⟨0,0,0,0⟩
def QJ (s:Stmt):Arguments:=match s with
 | .FunctionDef _ a _ _ _ _ _ _ _ _=>a
 | _=>{ posonlyargs:=[],args:=[],vararg:=none,kwonlyargs:=[],kw_defaults:=[],kwarg:=none,defaults:=[] }
def zK (s:Stmt):List Stmt:=match s with
 | .FunctionDef _ _ b _ _ _ _ _ _ _=>b
 | _=>[]
def qg (s:Stmt):Scope:=match s with
 | .FunctionDef _ _ _ _ _ _ sc _ _ _=>sc
 | _=>{ kind:=.function,names:=[],isGenerator:=false,isCoroutine:=false }
abbrev CX0:CXT:=fun _ _ _ _ _ _=>False
abbrev E0:XK:=fun _ _ _=>False
theorem qk {X:Cx}:JR CX0 X E0:=fun _ _ _ _ _ _ _ h=>h.elim
structure Fun (K:Frag) (x qual:Str) (st:Stmt) (f:Addr) (fd:FuncData):Prop where
 ex:∃ (oc:Value) (od:Option Addr) (kV doc pm:Value) (an:Option Addr) (cdv ct:Value) (osl:Array (Option Value)),
   fd=fnOf x qual (QJ st) (zK st) (qg st) .none kV doc pm an cdv ct∧K.lookup f=some ⟨oc,od,.func fd,osl⟩∧codeIn K cdv qual=true
 kp:keepIn K (.ref f)=true
section
variable {P:Program}{w:World}{K:Frag}{mg:Str->Option Value}{base:Heap}
theorem Fun.ok {x qual:Str}{st:Stmt}{f:Addr}{fd:FuncData}{N ps:List Str}{k:Nat}{sp:Sp} (F:Fun K x qual st f fd) (S:qm N ps (qg st)) (len:∀ vs H Q E,sp vs H Q E->vs.length=ps.length)
   (hbody:∀ (cdv:Value) (A:Around) (outer:List Env) (s:Shared) (H:Hp) (vs:List V) (Q:VK) (E:XK),Room k (A.deeper (envOfC qual (qg st) s.heap.objs.size f cdv))->sp vs H Q E ->
     ∃ t,PSs (zi CX0 P w K mg base N qual (qg st) f cdv A outer s H E).nox (zK st) t∧t { nx:=fun _ H'=>Q .non H',rt:=Q } (JT N vs) H):qy P w K mg base CX0 (k+1) f fd ps sp:=by
 obtain⟨oc,od,kV,doc,pm,an,cdv,ct,osl,rfl,lk,hcd⟩:=F.ex;refine qmh lk hcd S len fun A outer s H vs Q E hr hsp=>?_;obtain⟨t,h,q⟩:=hbody cdv A outer s H vs Q E hr hsp;exact⟨t,h.nox,q⟩
theorem Fun.binds {x qual:Str}{st:Stmt}{f:Addr}{fd:FuncData}{ps:List Str} (F:Fun K x qual st f fd)
   (h:∀ (kV doc pm:Value) (an:Option Addr) (cdv ct:Value) (us:List Value),us.length=ps.length->bindArgs (fnOf x qual (QJ st) (zK st) (qg st) .none kV doc pm an cdv ct) ⟨us,[]⟩=pure (ps.zip us)):Binds K fd ps []:=by
 obtain⟨oc,od,kV,doc,pm,an,cdv,ct,osl,rfl,lk,hcd⟩:=F.ex;exact .all (h kV doc pm an cdv ct)
theorem qeL {x qual:Str}{st:Stmt}{f:Addr}{oc:Value}{od an:Option Addr}{osl:Array (Option Value)}{kV doc pm cdv ct:Value} (l:K.lookup f=some ⟨oc,od,.func (fnOf x qual (QJ st) (zK st) (qg st) .none kV doc pm an cdv ct),osl⟩)
   (c:codeIn K cdv qual=true) (k:keepIn K (.ref f)=true):Fun K x qual st f (fnOf x qual (QJ st) (zK st) (qg st) .none kV doc pm an cdv ct):=⟨⟨oc,od,kV,doc,pm,an,cdv,ct,osl,rfl,l,c⟩,k⟩
end
theorem qD {A:Around}{k:Nat} (hr:Room k A):A.units+1 < cLine:=Nat.lt_of_le_of_lt (Nat.add_le_add_left (by decide:1≤64) _) hr.units
theorem qE {n:Nat} (h:n≤1000):n < sizeLine:=Nat.lt_of_le_of_lt h (by decide)
section
variable {X:Cx}
theorem pv (i:Nat) {x:Str}{pos:Pos} (hN:X.N[i]?=some x:=by rfl) (hv:Vis X.env.scope x:=by first|exact Or.inl rfl|exact Or.inr (Or.inl rfl)|exact Or.inr (Or.inr rfl)) (hd:(x == ("__debug__":Str))=false:=by decide)
   (hcd:(x == ("__classdict__":Str))=false:=by decide):PE X (.Name x pos) (qks i):=qk4 hN hv hd hcd
theorem Je:CallR X (.builtin "len") (fun xs H Q=>∃ a kvs,xs=[V.ref a]∧H a=some (.dK kvs)∧Q (.int kvs.length) H):=by
 intro pins s σ H xs us Q I r h;obtain⟨a,kvs,rfl,ha,q⟩:=h;obtain⟨u,rfl,ru⟩:=JS r;cases ru;exact qmj I (.inl ha) fun t s' I'=>⟨.int kvs.length,H,I',⟨t,rfl⟩,q⟩
end
theorem qkf {A B:Prop} (h:B):if false=true then A else B:=by
 rw[if_neg Bool.false_ne_true];exact h
theorem qhm {A B:Prop} (h:A):if true=true then A else B:=by
 rw[if_pos rfl];exact h
def Same (H H':Hp):Prop:=∀ b o,H b=some o->H' b=some o
theorem Same.refl (H:Hp):Same H H:=fun _ _ h=>h
theorem Same.trans {H H1 H2:Hp} (a:Same H H1) (b:Same H1 H2):Same H H2:=fun c o h=>b c o (a c o h)
section
variable {X:Cx}{pins:List (Addr×Obj)}{σ:St}{H:Hp}{s:Shared}{h':Heap}
theorem Inv.turnLaid {ch:List Addr}{a:Addr}{o:HO}{t':Nat} (I:Inv X pins σ H s) (k:∀ b u,b∉ch->s.heap.get? b=some u->h'.get? b=some u) (hf:∀ b∈ch,qeW X pins H b)
   (hp:s.heap.objs.size≤a) (new:ObjOk X.prog X.w (upd H a o) h' a o):Inv X pins σ (upd H a o) { s with heap:=h',toks:=t' }:=by
 have hn:H a=none:=I.hok.fresh hp;refine I.step (g':=s.gens) (d':=s.drawn) (ch:=ch) (fun b hb=>?_) (fun b u _ _ hc e _=>k b u hc e) (fun b u _ _ hc e _=>⟨u.slots,k b u hc e⟩)
   (fun b u _ e n=>?_) (fun b u hc e=>⟨u,k b u hc e⟩) (fun b xs e=>?_) (fun b u v e=>?_) (fun b ps e=>?_) (fun m hm=>?_) (fun b u e=>?_) I.bare
 · obtain⟨_,f1,_,f3,f4,f5⟩:=hf b hb;exact⟨f3,f1,f4,f5⟩
 · rw[qh (Nat.ne_of_lt (Nat.lt_of_lt_of_le (Heap.lt_size e) hp))];exact n
 · rw[qh (qi e hn)];exact e
 · rw[qh (qi e hn)];exact e
 · exact⟨#[],by rw[qh (qi e hn),e];simp⟩
 · obtain⟨ob,es,ep,ho,r⟩:=hm;exact⟨ob,es,ep,k _ ob (fun z=>(hf _ z).2.1 rfl) ho,r⟩
 · by_cases hb:b=a
   · subst hb;rw[qd]at e;cases e;exact new
   · rw[qh hb]at e;refine(I.hok b u e).stay (fun c v hc q=>k c v ?_ q) (fun c q=>by rw[qh (qi q hn)];exact q) fun c xs q=>by rw[qh (qi q hn)];exact q
     intro z;have zz:=(hf c z).1;rcases hc with rfl|hc
     · rw[e]at zz;cases zz
     · rw[hc]at zz;cases zz
theorem Inv.turnL {ch:List Addr}{t':Nat} (I:Inv X pins σ H s) (k:∀ b u,b∉ch->s.heap.get? b=some u->h'.get? b=some u) (hf:∀ b∈ch,qeW X pins H b) :
   Inv X pins σ H { s with heap:=h',toks:=t' }:=by
 refine I.step (g':=s.gens) (d':=s.drawn) (ch:=ch) (fun b hb=>?_) (fun b u _ _ hc e _=>k b u hc e) (fun b u _ _ hc e _=>⟨u.slots,k b u hc e⟩)
   (fun b u _ e n=>n) (fun b u hc e=>⟨u,k b u hc e⟩) (fun b xs e=>e) (fun b u v e=>e) (fun b ps e=>⟨#[],by rw[e];simp⟩) (fun m hm=>?_) (fun b u e=>?_) I.bare
 · obtain⟨_,f1,_,f3,f4,f5⟩:=hf b hb;exact⟨f3,f1,f4,f5⟩
 · obtain⟨ob,es,ep,ho,r⟩:=hm;exact⟨ob,es,ep,k _ ob (fun z=>(hf _ z).2.1 rfl) ho,r⟩
 · refine(I.hok b u e).stay (fun c v hc q=>k c v ?_ q) (fun c q=>q) fun c xs q=>q;intro z;have zz:=(hf c z).1;rcases hc with rfl|hc
   · rw[e]at zz;cases zz
   · rw[hc]at zz;cases zz
end
def Ite (K:Frag) (a:Addr):It :=
 ⟨fun i H=>∃ xs x,SqL K H a xs∧xs[i]?=some x,
  fun i H x H'=>∃ p v,H p=none∧x=.ref p∧(∀ xs,SqL K H a xs->xs[i]?=some v)∧H'=upd H p (.tup [.int i,v]),
  fun i H=>∃ xs,SqL K H a xs∧xs.length≤i⟩
theorem qfx {P:Program}{w:World}{K:Frag}{elts:List Expr}{k:Nat}{pos:Pos} (a e it:Addr) (hne:e≠it) :
   qiz P w K (.Tuple elts k pos) (Ite K a) [e,it] e (fun i h=>(∃ old,IsEnum h e it i old)∧h.IsListIter it a i) where
 mem:=by simp
 obj:=fun i h st b hb=>by
   obtain⟨⟨old,he⟩,hit⟩:=st;rcases List.mem_cons.mp hb with rfl|hb
   · exact⟨_,he,fun v z=>by cases z⟩
   · have e1:b=it:=by simpa using hb
     subst e1;obtain⟨o,q,c,d⟩:=hit;exact⟨o,q,fun v z=>by rw[d]at z;cases z⟩
 keep:=fun i h h' st kk=>by
   obtain⟨⟨old,he⟩,hit⟩:=st;exact⟨⟨old,kk e (by simp) _ he⟩,hit.at fun o q=>kk it (by simp) o q⟩
 item:=by
   intro X hP hw hK hc i pins s σ H E I hf st hg;subst hP hw hK;obtain⟨xs,x,hq,hx⟩:=hg;obtain⟨its,rv,p,hz⟩:=I.list hq;obtain⟨u,hu,ru⟩:=rv.get hx;obtain⟨⟨old,he⟩,hit⟩:=st;refine wpAny_pyNext_enum_item he hit p.isList (x:=u) (by simpa using hu) hne fun h1 ho hit1 hT hsz hk=>?_;refine⟨_,rfl,wpAny_letOwnedTupleGo_enum (s:={ s with heap:=h1,toks:=s.toks+1 }) ho fun h2 he2 hs2=>?_⟩;have hel:e < s.heap.objs.size:=Heap.lt_size he;have hil:it < s.heap.objs.size:=by obtain⟨_,q,_⟩:=hit;exact Heap.lt_size q
   have hT2:h2.get? s.heap.objs.size=some { cls:=.type "tuple",data:=.seq #[.int i s.toks,u] }:=(hs2.2 _ (Nat.ne_of_gt hel)).trans hT
   have I1:Inv X pins σ (upd H s.heap.objs.size (.tup [.int i,x])) { s with heap:=h2,toks:=s.toks+1 }:=by
     refine I.turnLaid (ch:=[e,it]) (fun b o hb q=>?_) hf (Nat.le_refl _) ⟨by show 2≤sizeLine;decide,[.int i s.toks,u],.cons ⟨_,rfl⟩ (.cons ru .nil),⟨_,hT2,rfl,_,rfl⟩⟩;have b1:b≠e:=fun z=>hb (by simp[z]);have b2:b≠it:=fun z=>hb (by simp[z]);exact(hs2.2 b b1).trans (hk b o b1 b2 q)
   refine⟨.ref s.heap.objs.size,_,I1,rfl,⟨_,x,I.hok.fresh (Nat.le_refl _),rfl,fun ys hy=>by rw[I.list_inj hy hq];exact hx,rfl⟩,⟨⟨_,by simpa using he2⟩,hit1.at fun o q=>(hs2.2 it hne.symm).trans q⟩,fun b hb=>?_⟩
   have hbl:b < s.heap.objs.size:=by
     rcases List.mem_cons.mp hb with rfl|hb
     · exact hel
     · have e1:b=it:=by simpa using hb
       rw[e1];exact hil
   rw[qh (Nat.ne_of_lt hbl)];exact(hf b hb).1
 done:=by
   intro X hP hw hK hc i pins s σ H E I hf st hg;subst hP hw hK;obtain⟨xs,hq,hx⟩:=hg;obtain⟨its,rv,p,hz⟩:=I.list hq;obtain⟨⟨old,he⟩,hit⟩:=st;have hl:=rv.length;refine wpAny_pyNext_enum_end (I.ok.hd hc) he hit p.isList (by simp;omega) fun h' eb=>⟨rfl,I.turnL (t':=s.toks) (ch:=[e,it]) (fun b o hb q=>eb b o (fun z=>hb (by simp[z])) q) hf⟩
 self:=fun _ _ _ _ _ st h=>by
   obtain⟨⟨old,he⟩,_⟩:=st;exact wpAny_pyIter_enum he h
theorem qhd:bootBuiltins "enumerate"=some (.type "enumerate"):=by decide +kernel
inductive qgN (K:Frag) (R:(It->Hp->Prop)) (vs:List V) (H1:Hp):Prop
 | mk (a:_) (h1:vs=[.ref a]) (h2:(∃ xs,SqL K H1 a xs)) (h3:R (Ite K a) H1):qgN K R vs H1
def qme (K:Frag) (ta:TA):TI:=fun σ H R=>ta σ H fun vs H1=>qgN K R vs H1
section
variable {X:Cx}
theorem qdO {a:Expr}{ta:TA}{p pos tp:Pos}{elts:List Expr}{kk:Nat} (hg:Gl X "enumerate") (hm:X.mg "enumerate"=none) (ha:PA X [a] ta) (hs:starEach [a] X.env=[(false,eval a X.env)]:=by rfl) :
   PI X (.Tuple elts kk tp) (.Call (.Name "enumerate" p) [a] [] pos) (qme X.K ta):=by
 intro pins s σ H R I h;refine Call_ (qaN I hg hm qhd (PyProof.Rows.callWith_type1 (thn (ha pos pins s σ H _ I h) fun us s1 zz_=>?_) hs rfl));obtain⟨vs,H1,I1,r1,q1⟩:=zz_;obtain⟨l,e,⟨xs,hq⟩,q⟩:=q1;subst e;obtain⟨u,rfl,ru⟩:=JS r1;cases ru;obtain⟨its,rv,pl,hz⟩:=I1.list hq;refine call_enumerate_list pl.isList fun h' he hit hsz hk=>?_;have I2:Inv X pins σ H1 { s1 with heap:=h' }:=I1.kept (t':=s1.toks) hk;refine wpAny_pyIter_enum he ⟨s1.heap.objs.size+1,[s1.heap.objs.size+1,s1.heap.objs.size],_,Ite X.K l,H1,rfl,I2,qfx l _ _ (Nat.succ_ne_self _),⟨⟨_,he⟩,hit⟩,fun b hb=>?_,q⟩
 have hb1:s1.heap.objs.size≤b:=by
   rcases List.mem_cons.mp hb with e1|hb
   · rw[e1];exact Nat.le_succ _
   · have e1:b=s1.heap.objs.size:=by simpa using hb
     rw[e1];exact Nat.le_refl _
 exact I1.fpOk hb1 (I1.hok.fresh hb1)
end
theorem qcs {K:Frag}{a:Addr}{xs:List V}{g:TG}{tb:TS}{D:qdA}{σ:St}{H:Hp} (Pv:Nat->St->Hp->Prop) (h0:Pv 0 σ H) (hl:∀ i σ H,i≤xs.length->Pv i σ H->SqL K H a xs)
   (hs:∀ i x σ H p,xs[i]?=some x->Pv i σ H->H p=none->g (.ref p) σ (upd H p (.tup [.int i,x])) fun σ2 H2=>tb { D with nx:=Pv (i+1),ct:=Pv (i+1),bk:=D.nx } σ2 H2) (hd:∀ σ H,Pv xs.length σ H->D.nx σ H) :
   ∃ W:Nat->Nat->St->Hp->Prop,(∃ m,W 0 m σ H)∧∀ i m σ H,W i m σ H ->
     ((Ite K a).stop i H∧D.nx σ H)∨((Ite K a).go i H∧∃ N:St->Hp->Prop,(∀ σ' H',N σ' H'->∃ m',m' < m∧W (i+1) m' σ' H')∧∀ x H',(Ite K a).yld i H x H'->g x σ H' fun σ2 H2=>tb { D with nx:=N,ct:=N,bk:=D.nx } σ2 H2):=by
 refine⟨fun i m σ H=>m=xs.length - i∧i≤xs.length∧Pv i σ H,⟨xs.length,by simp,Nat.zero_le _,h0⟩,?_⟩;rintro i m σ H ⟨rfl,hi,p⟩;have q:=hl i σ H hi p;by_cases hlt:i < xs.length
 · refine .inr ⟨⟨xs,xs[i],q,by simp[hlt]⟩,Pv (i+1),fun σ' H' p'=>⟨xs.length - (i+1),by omega,rfl,hlt,p'⟩,fun x H' y=>?_⟩;obtain⟨t,v,hn,rfl,y,rfl⟩:=y;exact hs i v σ _ t (y xs q) p hn
 · have e:i=xs.length:=by omega
   subst e;exact .inl ⟨⟨xs,q,Nat.le_refl _⟩,hd σ H p⟩
def tyN (H:Hp):V->Option String
 | .non=>some "NoneType"
 | .bl _=>some "bool"
 | .int _=>some "int"
 | .str _=>some "str"
 | .ref a=>match H a with
   | some (.lst _)=>some "list"
   | some (.tup _)=>some "tuple"
   | some (.dK _)=>some "dict"
   | _=>none
 | _=>none
def qmF (c t:String):Bool:=t == c || (t == "bool" && c == "int")
theorem qhr {K:Frag}{H:Hp}{v:V}{t:String} (h:tyN H v=some t):qdz K H v (.type t):=by
 cases v with
 | non=>cases h;exact .non
 | bl b=>cases h;exact .bl b
 | int b=>cases h;exact .int b
 | str b=>cases h;exact .str b
 | byt b=>cases h
 | flt b=>cases h
 | ty b=>cases h
 | ref a =>
   simp only[tyN]at h;split at h
   · rename_i e;cases h;exact .lst e
   · rename_i e;cases h;exact .tup e
   · rename_i e;cases h;exact .dK e
   · cases h
def qdC:List String:=["NoneType","bool","int","str","list","tuple","dict"]
theorem qjq {H:Hp}{v:V}{t:String} (h:tyN H v=some t):t∈qdC:=by
 cases v with
 | non=>cases h;decide
 | bl b=>cases h;decide
 | int b=>cases h;decide
 | str b=>cases h;decide
 | byt b=>cases h
 | flt b=>cases h
 | ty b=>cases h
 | ref a =>
   simp only[tyN]at h;split at h<;>first|(cases h;decide)|cases h
def qcp:List String:=["bool","int","str","list","tuple","dict"]
theorem qln (K:Frag) {t c:String} (ht:t∈qdC) (hc:c∈qcp):kitOne K (.type t) (.type c)=some (qmF c t):=by
 simp only[qdC,qcp,List.mem_cons,List.not_mem_nil,or_false]at ht hc;rcases ht with rfl|rfl|rfl|rfl|rfl|rfl|rfl<;>rcases hc with rfl|rfl|rfl|rfl|rfl|rfl<;>(unfold kitOne PySem.W.kitCls;rfl)
inductive qiX (xs:List V) (H:Hp) (Q:VK):Prop
 | mk (x c t:_) (h1:xs=[x,.ty c]) (h2:c∈qcp) (h3:tyN H x=some t) (h4:Q (.bl (qmF c t)) H):qiX xs H Q
def qmZ:List V->Hp->VK->Prop:=fun xs H Q=>qiX xs H Q
section
variable {X:Cx}
theorem zu:CallR X (.builtin "isinstance") qmZ:=by
 intro pins s σ H xs us Q I r h;obtain⟨x,c,t,rfl,hc,ht,q⟩:=h;obtain⟨u,w',rfl,ru,rw'⟩:=qfu r;cases (show w'=Value.type c from rw');exact qdk I ru (qhr ht) (qln X.K (qjq ht) hc) fun tk=>⟨.bl _,H,I.tok tk,rfl,q⟩
end
mutual
inductive DV (H:Hp):V->PyData->Prop
 | non:DV H .non .none
 | bl (b):DV H (.bl b) (.bool b)
 | int (i):DV H (.int i) (.int i)
 | str (x):DV H (.str x) (.str x)
 | lst {a xs ds}:Rd H a (.lst xs)->DVs H xs ds->DV H (.ref a) (.list ds)
 | tup {a xs ds}:Rd H a (.tup xs)->DVs H xs ds->DV H (.ref a) (.tuple ds)
inductive DVs (H:Hp):List V->List PyData->Prop
 | nil:DVs H [] []
 | cons {x xs d ds}:DV H x d->DVs H xs ds->DVs H (x::xs) (d::ds)
end
section
variable {P:Program}{w:World}{H:Hp}{h:Heap}
mutual
theorem DV.reads (ok:HOk P w H h):∀ {v:V}{d:PyData}{u:Value},DV H v d->RelV v u->∃ as,Reads h u d as
 | _,_,u,.non,r=>by cases (show u=Value.none from r);exact⟨_,.none⟩
 | _,_,u,.bl b,r=>by cases (show u=Value.bool b from r);exact⟨_,.bool b⟩
 | _,_,u,.int i,r=>by obtain⟨t,q⟩:=(show ∃ t,u=Value.int i t from r);cases q;exact⟨_,.int i t⟩
 | _,_,u,.str x,r=>by obtain⟨t,q⟩:=(show ∃ t,u=Value.str x t from r);cases q;exact⟨_,.str x t⟩
 | _,_,u,.lst (a:=a) rd q,r=>by
   cases (show u=Value.ref a from r);obtain⟨_,its,n,rv,e⟩:=rd.ok ok;obtain⟨as,z⟩:=DVs.reads ok q rv;exact⟨_,.list e rfl rfl z⟩
 | _,_,u,.tup (a:=a) rd q,r=>by
   cases (show u=Value.ref a from r);obtain⟨_,its,rv,ob,e,c,n,d⟩:=rd.ok ok;obtain⟨as,z⟩:=DVs.reads ok q rv;exact⟨_,.tuple e c d z⟩
theorem DVs.reads (ok:HOk P w H h):∀ {vs:List V}{ds:List PyData}{us:List Value},DVs H vs ds->Vals vs us->∃ as,ReadsAll h us ds as
 | _,_,_,.nil,.nil=>⟨_,.nil⟩
 | _,_,_,.cons a b,.cons r t=>by
   obtain⟨as,z⟩:=DV.reads ok a r;obtain⟨bs,y⟩:=DVs.reads ok b t;exact⟨_,.cons z y⟩
end
end
section
variable {X:Cx}
inductive qiY (x:V) (y:V) (H:Hp) (Q:VK):Prop
 | mk (d e:_) (h1:DV H x d) (h2:DV H y e) (h3:SeqAt.shaped d=true) (h4:SeqAt.shaped e=true) (h5:Q (.bl (PyData.eqv d e)) H):qiY x y H Q
def qmB:R2:=fun x y H Q=>qiY x y H Q
inductive qiU (x:V) (y:V) (H:Hp) (Q:VK):Prop
 | mk (d e:_) (h1:DV H x d) (h2:DV H y e) (h3:SeqAt.shaped d=true) (h4:SeqAt.shaped e=true) (h5:Q (.bl (!PyData.eqv d e)) H):qiU x y H Q
def qmv:R2:=fun x y H Q=>qiU x y H Q
theorem qk7 (hu:X.A.units+64 < cLine):OpR X (compareOp .Eq) qmB:=by
 intro pins s σ H x y v u Q I rx ry h;obtain⟨d,e,hd,he,sd,se,q⟩:=h;obtain⟨as,ra⟩:=hd.reads I.hok rx;obtain⟨bs,rb⟩:=he.reads I.hok ry;exact eq_dataH ra rb sd se hu ⟨.bl _,H,I,rfl,q⟩
theorem qk6 (hu:X.A.units+64 < cLine):OpR X (compareOp .NotEq) qmv:=by
 intro pins s σ H x y v u Q I rx ry h;obtain⟨d,e,hd,he,sd,se,q⟩:=h;obtain⟨as,ra⟩:=hd.reads I.hok rx;obtain⟨bs,rb⟩:=he.reads I.hok ry;exact ne_dataH ra rb sd se hu ⟨.bl _,H,I,rfl,q⟩
def qlZ:R2:=fun x y H Q=>rI0 (fun i j=>.int (i+j)) x y H Q∨qmC x y H Q∨∃ i j,x=.str i∧y=.str j∧i.length+j.length≤sizeLine∧Q (.str (i++j)) H
theorem QY:OpR X (binaryOp .Add) qlZ:=op_add.or (op_cat.or qe8)
def qmA:R2:=fun x y H Q=>rEq x y H Q∨qmB x y H Q
def qmY:R2:=fun x y H Q=>rNe x y H Q∨qmv x y H Q
theorem uEq (hU:X.A.units+64 < cLine):OpR X (compareOp .Eq) qmA:=op_eq.or (qk7 hU)
theorem uNe (hU:X.A.units+64 < cLine):OpR X (compareOp .NotEq) qmY:=op_ne.or (qk6 hU)
end
theorem jx:bootBuiltins "tuple"=some (.type "tuple"):=by decide +kernel
theorem q9:bootBuiltins "list"=some (.type "list"):=by decide +kernel
theorem Jg:bootBuiltins "int"=some (.type "int"):=by decide +kernel
theorem qbR:bootBuiltins "bool"=some (.type "bool"):=by decide +kernel
theorem qdq:bootBuiltins "str"=some (.type "str"):=by decide +kernel
theorem qfp:bootBuiltins "dict"=some (.type "dict"):=by decide +kernel
theorem qF:bootBuiltins "len"=some (.builtin "len"):=by decide +kernel
theorem zn:bootBuiltins "max"=some (.builtin "max"):=by decide +kernel
theorem z9:bootBuiltins "min"=some (.builtin "min"):=by decide +kernel
theorem qr:bootBuiltins "isinstance"=some (.builtin "isinstance"):=by decide +kernel
structure Df (K:Frag) (mg:Str->Option Value) (x:Str) (st:Stmt) (ps:List Str) (f:Addr) (fd:FuncData):Prop where
 F:Fun K x x st f fd
 b:Binds K fd ps []
 m:mg x=some (.ref f)
 k:keepIn K (.ref f)=true
theorem Same.new {H:Hp}{p:Addr} (o:HO) (h:H p=none):Same H (upd H p o):=fun b u e=>by rw[qh (qi e h)];exact e
theorem Same.then {H H1:Hp} (s:Same H H1) {p:Addr} (o:HO) (h:H1 p=none):Same H (upd H1 p o):=s.trans (Same.new o h)
def But (p:Addr) (H H':Hp):Prop:=∀ b o,H b=some o->b≠p->H' b=some o
theorem But.refl (p:Addr) (H:Hp):But p H H:=fun _ _ h _=>h
theorem But.trans {p:Addr}{H H1 H2:Hp} (a:But p H H1) (b:But p H1 H2):But p H H2:=fun c o h n=>b c o (a c o h n) n
theorem But.new {p:Addr}{H H1:Hp} (s:But p H H1) {q:Addr} (o:HO) (h:H1 q=none):But p H (upd H1 q o):=fun b u e n=>by
 have z:=s b u e n;rw[qh (qi z h)];exact z
theorem But.put {p:Addr}{H H1:Hp} (s:But p H H1) (o:HO):But p H (upd H1 p o):=fun b u e n=>by rw[qh n];exact s b u e n
theorem But.same {p:Addr}{H H1 H2:Hp} (a:But p H H1) (b:Same H1 H2):But p H H2:=fun c o h n=>b c o (a c o h n)
theorem qo {n:Nat} (h:n≤1000):n≤sizeLine:=Nat.le_of_lt (qE h)
theorem qT {b:Bool}{A B:Prop} (e:b=false) (h:B):if b=true then A else B:=by rw[e];exact qkf h
theorem Ze {b:Bool}{A B:Prop} (e:b=true) (h:A):if b=true then A else B:=by rw[e];exact qhm h
theorem qfi {b:Bool}{A B:Prop} (h1:b=true->A) (h2:b=false->B):if b=true then A else B:=by
 cases b
 · exact qkf (h2 rfl)
 · exact qhm (h1 rfl)
theorem zT {c A B:Prop} [Decidable c] (h1:c->A) (h2:¬ c->B):if (decide c)=true then A else B:=by
 by_cases h:c
 · rw[decide_eq_true h];exact qhm (h1 h)
 · rw[decide_eq_false h];exact qkf (h2 h)
theorem qlm {c A B:Prop} [Decidable c] (h1:¬ c->A) (h2:c->B):if (!decide c)=true then A else B:=by
 by_cases h:c
 · rw[decide_eq_true h];exact qkf (h2 h)
 · rw[decide_eq_false h];exact qhm (h1 h)
section
variable {prog:Program}{w:World}{A:Around}{R:Result->Shared->Prop}{s:Shared}
abbrev noE:Value->Shared->Prop:=fun _ _=>False
theorem qaW {elt target iter:Expr}{ifs:List Expr}{scope:Scope}{pos:Pos}{it acc:Value}{env:Env} (I:Nat->Shared->Prop)
   (turn:∀ n s,I n s->wpAny (model prog w) A (pyNext it) (fun r s₁=>match r with
     | none=>R (.ok .next) s₁
     | some v=>wpAny (model prog w) A (letOwnedTupleGo target it v) (fun _ s₀=>wpAny (model prog w) A (assign target env v) (fun _ s₂ =>
         wpAny (model prog w) A (forIn ifs true fun c r=>if r=true then do let ok ← isTrue c env (eval c env);pure (ForInStep.yield ok) else pure (ForInStep.yield r)) (fun ok s₃ =>
           if ok=true then wpAny (model prog w) A (eval elt env) (fun x s₄ =>
             wpAny (model prog w) A (call (.builtin "list.append") [acc,x]) (fun _ s₅=>∃ m,m < n∧I m s₅) noE s₄) noE s₃
           else ∃ m,m < n∧I m s₃) noE s₂) noE s₀) noE s₁) noE s)
   (n:Nat) (h:I n s) :
   codeAny (model prog w) A (.compLoop (.ListComp elt [⟨target,iter,ifs,0⟩] scope pos) 0 it acc env) R s:=by
 refine codeAny_loop rfl I (fun n s hI=>?_) n h;show wpAny _ A ((compTurn (.ListComp elt [⟨target,iter,ifs,0⟩] scope pos) 0 it acc env).onRaise (fun x=>do noteFrame x env;theTreesLotGoes x)) _ _ s;refine wpAny_noted ?_;rw[compTurn_list];refine wpAny_bind (wpAny_standAt (wpAny_bind (wpAny_mono (turn n s hI) (fun r s₁ h₁=>?_) fun _ _ h'=>h'.elim)))
 cases r with
 | none=>exact wpAny_pure h₁
 | some v =>
   refine wpAny_bind (wpAny_mono h₁ (fun _ s₀ h₀=>?_) fun _ _ h'=>h'.elim);refine wpAny_bind (wpAny_mono h₀ (fun _ s₂ h₂=>wpAny_bind (wpAny_mono h₂ (fun ok s₃ h₃=>?_) fun _ _ h'=>h'.elim)) fun _ _ h'=>h'.elim)
   cases ok with
   | false=>exact wpAny_pure ⟨rfl,h₃⟩
   | true =>
     exact wpAny_bind (wpAny_bind (wpAny_mono h₃ (fun x s₄ h₄=>wpAny_bind (wpAny_mono h₄ (fun _ s₅ h₅=>wpAny_pure (wpAny_pure ⟨rfl,h₅⟩)) fun _ _ h'=>h'.elim)) fun _ _ h'=>h'.elim))
end
def zb (X:Cx) (scope:Scope) (N:List Str) (cl:List (Str×Addr)) (C:Addr) (s₀:Shared) (H₀:Hp) (ex:List Addr) (pn:List (Addr×Obj)):Cx where
 prog:=X.prog
 w:=X.w
 K:=X.K
 mg:=X.mg
 base:=X.base
 A:=X.A
 N:=N
 s₀:=s₀
 H₀:=H₀
 env:=compEnvC scope cl C X.env
 outer:=X.stack
 stack:=X.stack
 ex:=ex
 fn:=fun x=>!(cl.lookup x).isSome
 calm:=X.calm
 pn:=pn
 xe:=noE
def st0 (js:List (Option Nat)) (σ:St):St:=js.map fun o=>o.bind fun j=>(σ[j]?).join
def PTs (X:Cx) (ifs:List Expr) (t:TT):Prop :=
 ∀ (pins:List (Addr×Obj)) (s:Shared) (σ:St) (H:Hp) (Q:Bool->Hp->Prop),Inv X pins σ H s->t σ H Q ->
   wpAny (model X.prog X.w) X.A (forIn ifs true fun c r=>if r=true then do let ok ← isTrue c X.env (eval c X.env);pure (ForInStep.yield ok) else pure (ForInStep.yield r)) (TP X pins σ Q) X.xe s
def qmP:TT:=fun _ H Q=>Q true H
theorem ZJ {X:Cx}:PTs X [] qmP:=fun _ _ _ H _ I h=>wpAny_tests_nil ⟨H,I,h⟩
theorem Jm {X:Cx}{c:Expr}{t:TT} (h:PT X c t):PTs X [c] t:=fun pins s σ H Q I q=>wpAny_tests_one (h pins s σ H Q I q)
def Jc (J:It) (g:TG) (tt:TT) (te:TE) (D:Addr) (Q:VK) (σ0:St) (H0:Hp):Prop :=
 ∃ W:Nat->Nat->St->Hp->Prop,(∃ m,W 0 m σ0 H0)∧∀ i m σ' H',W i m σ' H' ->
   (J.stop i H'∧Q (.ref D) H')∨(J.go i H'∧∃ N:St->Hp->Prop,(∀ σ2 H2,N σ2 H2->∃ m',m' < m∧W (i+1) m' σ2 H2) ∧
     ∀ x H2,J.yld i H' x H2->g x σ' H2 fun σ3 H3=>tt σ3 H3 fun ok H4=>if ok=true then te σ3 H4 fun y H5=>∃ ys,H5 D=some (.lst ys)∧ys.length < sizeLine∧N σ3 (upd H5 D (.lst (ys++[y]))) else N σ3 H4)
def qjw (wi:TI) (g:TG) (tt:TT) (te:TE) (js:List (Option Nat)):TE:=fun σ H Q=>wi σ H fun J H1=>∀ D,H1 D=none->Jc J g tt te D Q (st0 js σ) (upd H1 D (.lst []))
structure CompOk (X:Cx) (scope:Scope) (N:List Str) (cl:List (Str×Addr)) (js:List (Option Nat)):Prop where
 clos:closureFor scope X.env=pure cl
 sub:∀ x c,cl.lookup x=some c->X.env.cells.lookup x=some c
 all:∀ x,((relabel scope X.env).names.lookup x=some .cell∨(relabel scope X.env).names.lookup x=some .free)->∃ c,cl.lookup x=some c
 cell:∀ y∈scope.names,y.2≠.cell
 kind:scope.kind=.function
 names:∀ y∈scope.names,y.2=.local->scope.names.lookup y.1=some .local
 len:js.length=N.length
 fr:∀ (i j:Nat) (x:Str),js[i]?=some (some j)->N[i]?=some x->X.N[j]?=some x∧X.env.kindOf x=some .cell∧((relabel scope X.env).names.lookup x=some .cell∨(relabel scope X.env).names.lookup x=some .free)
section
variable {X:Cx}
theorem qjA {js:List (Option Nat)}{σ:St}{i:Nat}{v:V} (h:(st0 js σ)[i]?=some (some v)):∃ j,js[i]?=some (some j)∧σ[j]?=some (some v):=by
 unfold st0 at h;rw[List.getElem?_map]at h
 cases e:js[i]? with
 | none=>rw[e]at h;cases h
 | some o =>
   rw[e]at h
   cases o with
   | none=>cases h
   | some j =>
     refine⟨j,rfl,?_⟩;have h':(σ[j]?).join=some v:=by simpa using h
     cases e2:σ[j]? with
     | none=>rw[e2]at h';cases h'
     | some o2=>rw[e2]at h';cases o2 with
       | none=>cases h'
       | some u=>rw[show u=v by simpa using h']
theorem qkn {pins:List (Addr×Obj)}{σ:St}{H:Hp}{s:Shared}{scope:Scope}{N:List Str}{cl:List (Str×Addr)}{js:List (Option Nat)}{C:Addr}{fp:List Addr} (k:CompOk X scope N cl js) (I:Inv X pins σ H s)
   (hf:∀ b∈fp,qeW X pins H b) (hfl:∀ b∈fp,b < s.heap.objs.size) (hC:s.heap.objs.size≤C):(zb X scope N cl C s H fp (X.pn++pins)).Ok where
 mod:=I.ok.mod
 kind:=k.kind
 glob:=I.ok.glob
 blt:=I.ok.blt
 above:=hC
 inj:=fun x y c h1 h2=>I.ok.inj x y c (k.sub _ _ h1) (k.sub _ _ h2)
 has:=fun x h=>k.all x h
 cab:=fun x c h1 h2=>by
   have h1':(!(cl.lookup x).isSome)=true:=h1;have h2':cl.lookup x=some c:=h2;rw[h2']at h1';cases h1'
 hd:=I.ok.hd
 frames:=I.ok.frames
 stk:=.inl rfl
 exf:=fun b hb=>⟨Nat.ne_of_lt (Nat.lt_of_lt_of_le (hfl b hb) hC),fun x c h=>(hf b hb).2.2.2.2.1 x c (k.sub _ _ h)⟩
 bs:=I.bs
 bsz:=Nat.le_trans I.ok.bsz I.sz
 noex:=fun b o e hb=>by
   rcases (hf b hb).2.2.2.1 with z|z
   · exact I.ok.noex b o e z
   · exact absurd (Nat.lt_of_lt_of_le (Heap.lt_size e) (Nat.le_trans I.ok.bsz z)) (Nat.lt_irrefl _)
 exfs:=fun b hb z=>by
   rcases List.mem_cons.mp (I.stkSub b z) with e|e
   · exact(hf b hb).2.1 e
   · exact(hf b hb).2.2.1 e
 funs:=I.stack
 frf:=I.stkFree
theorem qeT {pins:List (Addr×Obj)}{σ:St}{H:Hp}{s:Shared}{h1:Heap}{t':Nat}{scope:Scope}{N:List Str}{cl:List (Str×Addr)}{js:List (Option Nat)}{C D:Addr}{fp:List Addr}{m:Str->Option Value} (k:CompOk X scope N cl js) (I:Inv X pins σ H s)
   (hf:∀ b∈fp,qeW X pins H b) (hfl:∀ b∈fp,b < s.heap.objs.size) (hD:s.heap.objs.size≤D) (hC:s.heap.objs.size≤C) (hDC:D≠C)
   (hn:h1.Ns C m) (hl:h1.get? D=some { cls:=.type "list",data:=.seq ([]:List Value).toArray }) (hk:∀ b o,s.heap.get? b=some o->h1.get? b=some o) :
   Inv (zb X scope N cl C s H fp (X.pn++pins)) [] (st0 js σ) (upd H D (.lst [])) { s with heap:=h1,toks:=t' }:=by
 have fD:H D=none:=I.hok.fresh hD;have fC:H C=none:=I.hok.fresh hC;have nC:∀ b,b < s.heap.objs.size->b≠C:=fun b hb=>Nat.ne_of_lt (Nat.lt_of_lt_of_le hb hC);refine⟨qkn k I hf hfl hC,rfl,I.bare,?_,?_,?_,?_,?_,?_,?_,?_⟩
 · exact(Un.laid (fs:=frs X.stack) (ex:=fp) (o:=.lst []) hk hD fD)
 · refine⟨m,hn,fun i x v e1 e2 e3=>?_⟩;obtain⟨j,f1,f2⟩:=qjA e2;obtain⟨g1,g2,g3⟩:=k.fr i j x f1 e1;obtain⟨m',hn',hl'⟩:=I.loc;obtain⟨u,ru,lk⟩:=hl' j x v g1 f2 (.inr (.inl g2));refine⟨u,ru,.inr ⟨g3,?_⟩⟩;obtain⟨c,hc⟩:=k.all x g3;rcases lk with ⟨z,_⟩|⟨_,c',hc',ic⟩
   · rw[g2]at z;cases z
   · have e:=k.sub _ _ hc;rw[hc']at e;cases e;obtain⟨o,ho,hd⟩:=ic;exact⟨c,hc,o,hk _ _ ho,hd⟩
 · intro x c h;obtain⟨v,o,ho,hd⟩:=I.cell x c (k.sub _ _ h);exact⟨v,o,hk _ _ ho,hd⟩
 · show (upd H D (.lst [])) C=none;rw[qh hDC.symm];exact fC
 · intro x c h;obtain⟨v,o,ho,hd⟩:=I.cell x c (k.sub _ _ h);rw[qh (Nat.ne_of_lt (Nat.lt_of_lt_of_le (Heap.lt_size ho) hD))];exact I.freeC x c (k.sub _ _ h)
 · intro p hp;have hp':p∈X.pn++pins:=by simpa[zb] using hp
   obtain⟨e,n,ne,nf,d⟩:=I.pin p hp';have lt:=Heap.lt_size e;refine⟨hk _ _ e,by rw[qh (Nat.ne_of_lt (Nat.lt_of_lt_of_le lt hD))];exact n,nC _ lt,fun z=>?_,d⟩;rcases List.mem_cons.mp (I.stkSub _ z) with e|e
   · exact ne e
   · exact nf e
 · exact I.hok.laid hk hD ⟨Nat.zero_le _,[],0,.nil,hl⟩
 · show (st0 js σ).length=N.length;unfold st0;rw[List.length_map];exact k.len
theorem qhM {Cm:Cx->Prop}{elt iter tg:Expr}{ifs:List Expr}{scope:Scope}{pos:Pos}{wi:TI}{g:TG}{tt:TT}{te:TE}{N:List Str}{cl:List (Str×Addr)}{js:List (Option Nat)} (hc:∀ C s₀ H₀ ex pn,Cm (zb X scope N cl C s₀ H₀ ex pn)) (k:CompOk X scope N cl js) (hi:PIC Cm X tg iter wi)
   (hg:∀ C s₀ H₀ ex pn,PG (zb X scope N cl C s₀ H₀ ex pn) tg g) (ht:∀ C s₀ H₀ ex pn,PTs (zb X scope N cl C s₀ H₀ ex pn) ifs tt) (he:∀ C s₀ H₀ ex pn,PE (zb X scope N cl C s₀ H₀ ex pn) elt te)
   (hs:∀ x,foldedSetIterable iter X.env x=pure x:=by intro _;rfl) :
   PE X (.ListComp elt [⟨tg,iter,ifs,0⟩] scope pos) (qjw wi g tt te js):=by
 intro pins s σ H Q I h;rw[eval_ListComp];refine wpAny_comprehension_free (use:=none) rfl hs k.clos k.kind k.names ?_;refine thn (hi pins s σ H _ I h) fun v s1 h1=>thn h1 fun itv s2 h2=>?_;obtain⟨it,fp,tn,J,H2,e,I2,T,st2,f2,hD⟩:=h2;subst e;refine wpAny_newObj_type (wpAny_newFunctionEnv k.cell (by intro y hy;simp at hy) (fun h₁ hns₁ hsb₁=>?_) k.kind);dsimp only at hns₁ hsb₁ ⊢;generalize hH2:s2.heap.push { cls:=.type "list",dict:=none,data:=.seq ([]:List Value).toArray }=P2 at hns₁ hsb₁ ⊢;have hC:P2.objs.size=s2.heap.objs.size+1:=by rw[← hH2,Heap.size_push]
 have hDC:s2.heap.objs.size≠P2.objs.size:=by rw[hC];exact Nat.ne_of_lt (Nat.lt_succ_self _)
 have hCle:s2.heap.objs.size≤P2.objs.size:=by rw[hC];exact Nat.le_succ _
 have old:∀ b o,s2.heap.get? b=some o->h₁.get? b=some o:=fun b o e=>hsb₁.extBut b o (Nat.ne_of_lt (Nat.lt_of_lt_of_le (Heap.lt_size e) hCle)) (Heap.get?_push_of_some _ (hH2▸Heap.get?_push_of_some _ e));have hacc:h₁.get? s2.heap.objs.size=some { cls:=.type "list",data:=.seq ([]:List Value).toArray }:=hsb₁.extBut _ _ hDC (Heap.get?_push_of_some _ (hH2▸Heap.get?_push_size _ rfl))
 have hfl:∀ b∈fp,b < s2.heap.objs.size:=fun b hb=>by
   obtain⟨o,e,_⟩:=T.obj _ _ st2 b hb;exact Heap.lt_size e
 have fD:H2 s2.heap.objs.size=none:=I2.hok.fresh (Nat.le_refl _);obtain⟨W,⟨m0,w0⟩,turn⟩:=hD _ fD
 have IX:Inv (zb X scope N cl P2.objs.size s2 H2 fp (X.pn++pins)) [] (st0 js σ) (upd H2 s2.heap.objs.size (.lst [])) { s2 with heap:=h₁,toks:=s2.toks+([]:List (Str×Value)).length } :=
   qeT k I2 f2 hfl (Nat.le_refl _) hCle hDC hns₁ hacc old
 have hg':=hg P2.objs.size s2 H2 fp (X.pn++pins);have ht':=ht P2.objs.size s2 H2 fp (X.pn++pins);have he':=he P2.objs.size s2 H2 fp (X.pn++pins)
 have stat:∀ {H':Hp},(∀ b∈fp,H' b=none)->∀ b∈fp,qeW (zb X scope N cl P2.objs.size s2 H2 fp (X.pn++pins)) [] H' b:=fun hn b hb=>by
   obtain⟨g0,g1,g2,g3,g4,g5⟩:=f2 b hb;refine⟨hn b hb,Nat.ne_of_lt (Nat.lt_of_lt_of_le (hfl b hb) hCle),fun z=>?_,.inl hb,fun x c h=>g4 x c (k.sub _ _ h),fun p hp=>g5 p (by simpa[zb] using hp)⟩;rcases List.mem_cons.mp (I2.stkSub b z) with e|e
   · exact g1 e
   · exact g2 e
 have loop:∀ s₃:Shared,s₃={ s2 with heap:=h₁,toks:=s2.toks+([]:List (Str×Value)).length } ->
     codeAny (model X.prog X.w) X.A (.compLoop (.ListComp elt [⟨tg,iter,ifs,0⟩] scope pos) 0 (.ref it) (.ref s2.heap.objs.size) (compEnvC scope cl P2.objs.size X.env))
       (compPost (model X.prog X.w) X.A X.xe none (EP X pins σ Q) (.ref s2.heap.objs.size) P2.objs.size) s₃:=by
   rintro s₃ rfl;refine qaW (fun n s'=>∃ i σ' H',Inv (zb X scope N cl P2.objs.size s2 H2 fp (X.pn++pins)) [] σ' H' s'∧tn i s'.heap∧(∀ b∈fp,H' b=none)∧W i n σ' H') ?_ m0
     ⟨0,st0 js σ,_,IX,T.keep _ _ _ st2 (fun b hb o e=>old b o e),fun b hb=>by rw[qh (Nat.ne_of_lt (hfl b hb))];exact(f2 b hb).1,w0⟩
   rintro n s3 ⟨i,σ3,H3,I3,st3,fr3,w3⟩;rcases turn i n σ3 H3 w3 with ⟨stop,qn⟩|⟨go,N2,hN,step⟩
   · refine thn (T.done (zb X scope N cl P2.objs.size s2 H2 fp (X.pn++pins)) rfl rfl rfl (hc _ _ _ _ _) i [] s3 σ3 H3 noE I3 (stat fr3) st3 stop) fun r s4 ⟨hr,I4⟩=>?_;subst hr;obtain⟨m4,hn4,_⟩:=id I4.loc;refine⟨m4,hn4,fun h' hsb=>⟨.ref s2.heap.objs.size,H3,?_,rfl,qn⟩⟩;have u4:Un (frs X.stack) fp H2 H3 s2.heap s4.heap:=I4.base;have ltC:∀ b o,s2.heap.get? b=some o->b≠P2.objs.size:=fun b o e=>Nat.ne_of_lt (Nat.lt_of_lt_of_le (Heap.lt_size e) hCle)
     have u5:Un (frs X.stack) fp H2 H3 s2.heap h' :=
       { keep:=fun b o e n hb hx=>hsb.extBut b o (ltC b o e) (u4.keep b o e n hb hx)
         slot:=fun b o e n hb hx=>by
           obtain⟨sl,q⟩:=u4.slot b o e n hb hx;exact⟨sl,hsb.extBut b _ (ltC b o e) q⟩
         free:=u4.free
         there:=fun b o e hx=>by
           obtain⟨o',q⟩:=u4.there b o e hx;exact⟨o',hsb.extBut b _ (ltC b o e) q⟩
         tups:=u4.tups
         frzs:=u4.frzs
         tbls:=u4.tbls }
     have fC:H3 P2.objs.size=none:=I4.free
     have hok5:HOk X.prog X.w H3 h':=fun b u e=>(I4.hok b u e).stay (fun c v hc' q=>hsb.extBut c v (fun z=>by
       rcases hc' with y|y
       · rw[y]at z;rw[z,fC]at e;cases e
       · rw[z,fC]at y;cases y) q) (fun _ q=>q) fun _ _ q=>q
     exact I2.call' (s':={ s4 with heap:=h' }) I4.os u5 hok5 I4.bare fun b hb=>by
       obtain⟨g0,g1,g2,g3,g4,g5⟩:=f2 b hb;exact⟨g3,g1,g4,g5⟩
   · refine thn (T.item (zb X scope N cl P2.objs.size s2 H2 fp (X.pn++pins)) rfl rfl rfl (hc _ _ _ _ _) i [] s3 σ3 H3 noE I3 (stat fr3) st3 go) fun r s4 ⟨u,hr,h4⟩=>?_;subst hr;refine thn h4 fun _ s5 zz_=>?_;obtain⟨x,H5,I5,r5,y5,st5,fr5⟩:=zz_;have I5':=I5.pinned (stat fr5) (T.obj _ _ st5);refine thn (hg' _ s5 σ3 H5 x u _ I5' r5 (step x H5 y5)) fun _ s6 zz_=>?_;obtain⟨σ6,H6,I6,q6⟩:=zz_;refine thn (ht' _ s6 σ6 H6 _ I6 q6) fun ok s7 zz_=>?_;obtain⟨H7,I7,q7⟩:=zz_;have again:∀ {s8:Shared}{σ8:St}{H8:Hp},Inv (zb X scope N cl P2.objs.size s2 H2 fp (X.pn++pins)) ([]++qbB fp s5.heap) σ8 H8 s8->N2 σ8 H8 ->
         ∃ m,m < n∧∃ i σ' H',Inv (zb X scope N cl P2.objs.size s2 H2 fp (X.pn++pins)) [] σ' H' s8∧tn i s8.heap∧(∀ b∈fp,H' b=none)∧W i m σ' H':=fun {s8 σ8 H8} I8 n8=>by
       obtain⟨m',hm,w8⟩:=hN σ8 H8 n8;refine⟨m',hm,i+1,σ8,H8,I8.unpinned,T.keep _ _ _ st5 fun b hb o e=>(I8.pin (b,o) (List.mem_append_right _ (List.mem_append_right _ (zW hb e)))).1,fun b hb=>?_,w8⟩;obtain⟨o,e,d⟩:=T.obj _ _ st5 b hb;exact(I8.pin (b,o) (List.mem_append_right _ (List.mem_append_right _ (zW hb e)))).2.1
     cases ok with
     | false=>exact again I7 (by simpa using q7)
     | true =>
       have q7':te σ6 H7 fun y H5=>∃ ys,H5 s2.heap.objs.size=some (.lst ys)∧ys.length < sizeLine∧N2 σ6 (upd H5 s2.heap.objs.size (.lst (ys++[y]))):=by simpa using q7
       refine thn (he' _ s7 σ6 H7 _ I7 q7') fun xv s8 zz_=>?_;obtain⟨y,H8,I8,r8,ys,hy,hlen,n8⟩:=zz_;refine thn (Qq (X:=zb X scope N cl P2.objs.size s2 H2 fp (X.pn++pins)) _ s8 σ6 H8 (.ref s2.heap.objs.size) [y] (.ref s2.heap.objs.size) [xv] (fun _ H9=>N2 σ6 H9) I8 rfl (.cons r8 .nil) ⟨_,ys,y,rfl,rfl,hy,hlen,n8⟩) fun _ s9 ⟨_,H9,I9,_,n9⟩=>again I9 n9
 exact codeAny_compStart_list (loop _ rfl) (T.self _ 0 _ _ _ (T.keep _ _ _ st2 (fun b hb o e=>old b o e)) (loop _ rfl))
theorem Qb {elt iter tg:Expr}{ifs:List Expr}{scope:Scope}{pos:Pos}{wi:TI}{g:TG}{tt:TT}{te:TE}{N:List Str}{cl:List (Str×Addr)}{js:List (Option Nat)} (hc:X.calm=true) (k:CompOk X scope N cl js) (hi:PI X tg iter wi)
   (hg:∀ C s₀ H₀ ex pn,PG (zb X scope N cl C s₀ H₀ ex pn) tg g) (ht:∀ C s₀ H₀ ex pn,PTs (zb X scope N cl C s₀ H₀ ex pn) ifs tt) (he:∀ C s₀ H₀ ex pn,PE (zb X scope N cl C s₀ H₀ ex pn) elt te)
   (hs:∀ x,foldedSetIterable iter X.env x=pure x:=by intro _;rfl) :
   PE X (.ListComp elt [⟨tg,iter,ifs,0⟩] scope pos) (qjw wi g tt te js):=qhM (Cm:=fun X=>X.calm=true) (fun _ _ _ _ _=>hc) k hi hg ht he hs
end
def Its (x:Str):It:=⟨fun i _=>i < x.cps.size,fun i H v H'=>H'=H∧∃ c,x.cps[i]?=some c∧v=.str ⟨#[c]⟩,fun i _=>x.cps.size≤i⟩
theorem qjc {M:Model}{A:Around}{E:Value->Shared->Prop}{s:Shared}{tg:Expr}{it:Addr}{y:Str}{t:Tok}{Q:Unit->Shared->Prop} (hQ:Q () s):wpAny M A (letOwnedTupleGo tg (.ref it) (.str y t)) Q E s:=by
 unfold letOwnedTupleGo;cases tg<;>exact wpAny_pure hQ
theorem qht {P:Program}{w:World}{K:Frag}{tg:Expr} (it:Addr) (x:Str) (t:Tok) (ty:String) (hty:ty="str_ascii_iterator"∨ty="str_iterator") :
   qiz P w K tg (Its x) [it] it (fun i h=>h.IsStrIter it ty x t i) where
 mem:=by simp
 obj:=fun i h st b hb=>by
   have e:b=it:=by simpa using hb
   subst e;obtain⟨o,e,c,d⟩:=st;exact⟨o,e,fun v z=>by rw[d]at z;cases z⟩
 keep:=fun i h h' st k=>by
   obtain⟨o,e,r⟩:=st;exact⟨o,k it (by simp) o e,r⟩
 item:=by
   intro X hP hw hK hc i pins s σ H E I hf st hg;subst hP hw hK;obtain⟨f0,f1,f2,f3,f4,f5⟩:=hf it (by simp);have hi:i < x.cps.size:=hg;rcases hty with rfl|rfl
   · refine wpAny_pyNext_ascii_item st (c:=x.cps[i]) (by simp[hi]) fun h' st' sb=>?_;have I1:Inv X pins σ H { s with heap:=h',toks:=s.toks+1 }:=I.turned (fun b o hb e=>sb.extBut b o hb e) f0 f1 f3 f4 f5;exact⟨_,rfl,qjc (s:={ s with heap:=h',toks:=s.toks+1 }) ⟨.str ⟨#[x.cps[i]]⟩,H,I1,⟨_,rfl⟩,⟨rfl,x.cps[i],by simp[hi],rfl⟩,st',fun b hb=>(hf b hb).1⟩⟩
   · refine wpAny_pyNext_wide_item st (c:=x.cps[i]) (by simp[hi]) fun h' st' sb=>?_;have I1:Inv X pins σ H { s with heap:=h',toks:=s.toks+1 }:=I.turned (fun b o hb e=>sb.extBut b o hb e) f0 f1 f3 f4 f5;exact⟨_,rfl,qjc (s:={ s with heap:=h',toks:=s.toks+1 }) ⟨.str ⟨#[x.cps[i]]⟩,H,I1,⟨_,rfl⟩,⟨rfl,x.cps[i],by simp[hi],rfl⟩,st',fun b hb=>(hf b hb).1⟩⟩
 done:=by
   intro X hP hw hK hc i pins s σ H E I hf st hg;subst hP hw hK;obtain⟨f0,f1,f2,f3,f4,f5⟩:=hf it (by simp);have hi:x.cps.size≤i:=hg;rcases hty with rfl|rfl
   · exact wpAny_pyNext_ascii_end (I.ok.hd hc) st (by simp[hi]) fun h' eb=>⟨rfl,I.turned (t':=s.toks) (fun b o hb e=>eb b o hb e) f0 f1 f3 f4 f5⟩
   · exact wpAny_pyNext_wide_end (I.ok.hd hc) st (by simp[hi]) fun h' eb=>⟨rfl,I.turned (t':=s.toks) (fun b o hb e=>eb b o hb e) f0 f1 f3 f4 f5⟩
 self:=fun _ _ _ _ _ st h=>by
   rcases hty with rfl|rfl
   · exact wpAny_pyIter_striter_ascii st h
   · exact wpAny_pyIter_striter_wide st h
def qm7 (te:TE):TI:=fun σ H R=>te σ H fun x H1=>∃ z,x=.str z∧R (Its z) H1
section
variable {X:Cx}{tg:Expr}
theorem qk3 {e:Expr}{te:TE} (he:PE X e te):PI X tg e (qm7 te):=by
 intro pins s σ H R I h;refine thn (he pins s σ H _ I h) fun v s1 zz_=>?_;obtain⟨x,H1,I1,r1,q1⟩:=zz_;obtain⟨z,e,q⟩:=q1;subst e;obtain⟨t,rfl⟩:=r1
 have fin:∀ ty,(ty="str_ascii_iterator"∨ty="str_iterator")->PIE X pins σ tg R (.ref s1.heap.objs.size) { s1 with heap:=s1.heap.push { cls:=.type ty,data:=.fields #[.str z t,.int 0 0] } }:=fun ty hty=>by
   refine⟨s1.heap.objs.size,[s1.heap.objs.size],_,_,H1,rfl,I1.kept (t':=s1.toks) fun b o e=>Heap.get?_push_of_some _ e,qht _ z t ty hty,⟨_,Heap.get?_push_size _ rfl,rfl,rfl⟩,fun b hb=>?_,q⟩;have e:b=s1.heap.objs.size:=by simpa using hb
   subst e;exact I1.fpOk (Nat.le_refl _) (I1.hok.fresh (Nat.le_refl _))
 cases ha:z.cps.all (· < 128)
 · exact wpAny_pyIter_wide ha (fin _ (.inr rfl))
 · exact wpAny_pyIter_ascii ha (fin _ (.inl rfl))
end
theorem qit {x:Str}{g:TG}{tt:TT}{te:TE}{D:Addr}{Q:VK}{σ:St}{H:Hp} (Pv:Nat->St->Hp->Prop) (h0:Pv 0 σ H)
   (hs:∀ i c σ H,x.cps[i]?=some c->Pv i σ H->g (.str ⟨#[c]⟩) σ H fun σ3 H3=>tt σ3 H3 fun ok H4=>if ok=true then te σ3 H4 fun y H5=>∃ ys,H5 D=some (.lst ys)∧ys.length < sizeLine∧Pv (i+1) σ3 (upd H5 D (.lst (ys++[y]))) else Pv (i+1) σ3 H4)
   (hd:∀ σ H,Pv x.cps.size σ H->Q (.ref D) H) :
   Jc (Its x) g tt te D Q σ H:=by
 refine⟨fun i m σ H=>m=x.cps.size - i∧i≤x.cps.size∧Pv i σ H,⟨x.cps.size,by simp,Nat.zero_le _,h0⟩,?_⟩;rintro i m σ H ⟨rfl,hi,p⟩;by_cases hlt:i < x.cps.size
 · refine .inr ⟨hlt,Pv (i+1),fun σ' H' p'=>⟨x.cps.size - (i+1),by omega,rfl,hlt,p'⟩,fun v H' y=>?_⟩;obtain⟨rfl,c,hc,rfl⟩:=y;exact hs i c σ _ hc p
 · have e:i=x.cps.size:=by omega
   subst e;exact .inl ⟨Nat.le_refl _,hd σ H p⟩
theorem qbM {lo:Int}{n:Nat}{g:TG}{tt:TT}{te:TE}{D:Addr}{Q:VK}{σ:St}{H:Hp} (Pv:Nat->St->Hp->Prop) (h0:Pv 0 σ H)
   (hs:∀ i σ H,i < n->Pv i σ H->g (.int (lo+i)) σ H fun σ3 H3=>tt σ3 H3 fun ok H4=>if ok=true then te σ3 H4 fun y H5=>∃ ys,H5 D=some (.lst ys)∧ys.length < sizeLine∧Pv (i+1) σ3 (upd H5 D (.lst (ys++[y]))) else Pv (i+1) σ3 H4)
   (hd:∀ σ H,Pv n σ H->Q (.ref D) H) :
   Jc (Itr lo n) g tt te D Q σ H:=by
 refine⟨fun i m σ H=>m=n - i∧i≤n∧Pv i σ H,⟨n,by simp,Nat.zero_le _,h0⟩,?_⟩;rintro i m σ H ⟨rfl,hi,p⟩;by_cases hlt:i < n
 · refine .inr ⟨hlt,Pv (i+1),fun σ' H' p'=>⟨n - (i+1),by omega,rfl,hlt,p'⟩,fun v H' y=>?_⟩;obtain⟨rfl,rfl⟩:=y;exact hs i σ _ hlt p
 · have e:i=n:=by omega
   subst e;exact .inl ⟨Nat.le_refl _,hd σ H p⟩
theorem zH {K:Frag}{a:Addr}{xs:List V}{g:TG}{tt:TT}{te:TE}{D:Addr}{Q:VK}{σ:St}{H:Hp} (Pv:Nat->St->Hp->Prop) (h0:Pv 0 σ H) (hl:∀ i σ H,i≤xs.length->Pv i σ H->SqL K H a xs)
   (hs:∀ i x σ H,xs[i]?=some x->Pv i σ H->g x σ H fun σ3 H3=>tt σ3 H3 fun ok H4=>if ok=true then te σ3 H4 fun y H5=>∃ ys,H5 D=some (.lst ys)∧ys.length < sizeLine∧Pv (i+1) σ3 (upd H5 D (.lst (ys++[y]))) else Pv (i+1) σ3 H4)
   (hd:∀ σ H,Pv xs.length σ H->Q (.ref D) H) :
   Jc (Itl K a) g tt te D Q σ H:=by
 refine⟨fun i m σ H=>m=xs.length - i∧i≤xs.length∧Pv i σ H,⟨xs.length,by simp,Nat.zero_le _,h0⟩,?_⟩;rintro i m σ H ⟨rfl,hi,p⟩;have q:=hl i σ H hi p;by_cases hlt:i < xs.length
 · refine .inr ⟨⟨xs,xs[i],q,by simp[hlt]⟩,Pv (i+1),fun σ' H' p'=>⟨xs.length - (i+1),by omega,rfl,hlt,p'⟩,fun v H' y=>?_⟩;obtain⟨e,y⟩:=y;subst e;exact hs i v σ _ (y xs q) p
 · have e:i=xs.length:=by omega
   subst e;exact .inl ⟨⟨xs,q,Nat.le_refl _⟩,hd σ H p⟩
theorem qhe:∀ {bs:List Bool}{us:List Value},Vals (bs.map V.bl) us->us=bs.map Value.bool
 | [],_,r=>by cases r;rfl
 | b::bs,_,r=>by
   cases r with
   | cons r t =>
     cases r;rw[qhe t];rfl
section
variable {X:Cx}
def qm1 (K:Frag):List V->Hp->VK->Prop:=fun xs H Q=>∃ (p:Addr) (bs:List Bool),xs=[.ref p]∧SqL K H p (bs.map V.bl)∧Q (.bl (bs.all id)) H
theorem qdx {α:Type} (f:α->Bool) (d:α):∀ l:List α,(List.range l.length).all (fun i=>f (l.getD i d))=l.all f
 | []=>rfl
 | a::l=>by
   rw[List.length_cons,List.range_succ_eq_map,List.all_cons,List.all_map,List.all_cons,← qdx f d l];rfl
theorem qdp (hc:X.calm=true):CallR X (.builtin "all") (qm1 X.K):=by
 intro pins s σ H xs us Q I r h;obtain⟨p,bs,rfl,hq,q⟩:=h;obtain⟨u,rfl,ru⟩:=JS r;cases ru;obtain⟨its,rv,pl,hz⟩:=I.list hq;have eits:=qhe rv;subst eits;have hlt:p < s.heap.objs.size:=by obtain⟨_,_,e,_⟩:=pl;exact Heap.lt_size e
 refine call_all_walk (wpAny_pyIter_list pl.isList ?_);have W:=Walks.list (prog:=X.prog) (w:=X.w) (A:=X.A.in1) (I.ok.hd hc) s.heap.objs.size p (Nat.ne_of_lt hlt) (bs.map Value.bool).toArray;refine⟨_,_,_,_,_,_,(fun i=>(bs.getD i true)),rfl,W,⟨⟨_,Heap.get?_push_size _ rfl,rfl,rfl⟩,pl.isList.push _⟩,?_,?_⟩
 · intro i v s' Q' E' hP hQ;have hv:(bs.map Value.bool)[i]?=some v:=by simpa using hP
   rw[List.getElem?_map]at hv
   cases e:bs[i]? with
   | none=>rw[e]at hv;cases hv
   | some b =>
     rw[e]at hv;cases hv;have e2:bs.getD i true=b:=by rw[List.getD_eq_getElem?_getD,e];rfl
     have hQ:Q' (bs.getD i true) s':=hQ;rw[e2]at hQ;exact wpAny_truthy_bool hQ
 · intro h' tk hk;have es:(bs.map Value.bool).toArray.size=bs.length:=by simp
   have ea:(List.range (bs.map Value.bool).toArray.size).all (fun i=>bs.getD i true)=bs.all id:=by rw[es];exact qdx id true bs
   refine⟨.bl _,H,?_,by rw[ea];rfl,q⟩;exact I.kept (t':=tk) fun b o e=>hk b o (by simp;exact Nat.ne_of_lt (Heap.lt_size e)) (Heap.get?_push_of_some _ e)
end
theorem qds:bootBuiltins "all"=some (.builtin "all"):=by decide +kernel
theorem qfI:∀ {ys:List Str}{us:List Value},Vals (ys.map V.str) us->StrsAre us ys
 | [],_,r=>by cases r;exact .nil
 | y::ys,_,r=>by
   cases r with
   | cons r t =>
     obtain⟨k,rfl⟩:=r;exact .cons y k (qfI t)
section
variable {X:Cx}
def qlY (K:Frag):V->List V->Hp->VK->Prop:=fun x xs H Q=>∃ (sep:Str) (p:Addr) (ys:List Str),x=.str sep∧xs=[.ref p]∧SqL K H p (ys.map V.str)∧(ys.map (·.length)).sum+ys.length * sep.length≤16777216∧Q (.str (Txt.join sep ys)) H
theorem qgu:MtR X "str.join" (qlY X.K):=by
 intro pins s σ H x xs v us Q I rx r h;obtain⟨sep,p,ys,rfl,rfl,hq,hz,q⟩:=h;obtain⟨t,rfl⟩:=rx;obtain⟨u,rfl,ru⟩:=JS r;cases ru;obtain⟨its,rv,pl,_⟩:=I.list hq;exact join_list pl.isList (by simpa using qfI rv) hz fun t' k=>⟨.str _,H,I.tok k,⟨_,rfl⟩,q⟩
def qmt:V->Option Int->Option Int->Hp->VK->Prop:=fun x lo hi H Q=>∃ z,x=.str z∧z.length≤sizeLine∧Q (.str (Txt.slice z lo hi)) H
theorem qkK:SlR X qmt:=by
 intro pins s σ H x v vl vu lo hi sl Q I rx hs pl pu h;obtain⟨z,rfl,hz,q⟩:=h;obtain⟨t,rfl⟩:=rx;refine⟨"str",_,F.slot_str_getitem.lookup,typeIs_str _ _ _,?_⟩;have fin:∀ t' k,EP X pins σ Q (.str (Txt.slice z lo hi) t') { s with toks:=k }:=fun t' k=>⟨.str _,H,I.tok k,⟨_,rfl⟩,q⟩
 obtain⟨o,e1,e2,e3⟩:=hs
 cases pl with
 | none =>
   cases pu with
   | none=>exact wpAny_getItem_str_slice (l:=none) (u:=none) (st:=none) ⟨o,e1,e2,e3⟩ rfl (post_val_or_str ⟨Nat.le_trans (Txt.slice_le z _ _) hz,fin⟩)
   | int j u=>exact wpAny_getItem_str_slice (l:=none) (u:=some (j,u)) (st:=none) ⟨o,e1,e2,e3⟩ rfl (post_val_or_str ⟨Nat.le_trans (Txt.slice_le z _ _) hz,fin⟩)
 | int i ui =>
   cases pu with
   | none=>exact wpAny_getItem_str_slice (l:=some (i,ui)) (u:=none) (st:=none) ⟨o,e1,e2,e3⟩ rfl (post_val_or_str ⟨Nat.le_trans (Txt.slice_le z _ _) hz,fin⟩)
   | int j u=>exact wpAny_getItem_str_slice (l:=some (i,ui)) (u:=some (j,u)) (st:=none) ⟨o,e1,e2,e3⟩ rfl (post_val_or_str ⟨Nat.le_trans (Txt.slice_le z _ _) hz,fin⟩)
theorem uSl:SlR X (fun x lo hi H Q=>qmu X.K x lo hi H Q∨qmt x lo hi H Q):=sl_list.or qkK
theorem qc3:OpR X (compareOp .LtE) (fun x y H Q=>∃ i j,x=.str i∧y=.str j∧Q (.bl (!decide (j.cps.toList < i.cps.toList))) H):=by
 intro pins s σ H x y v u Q I rx ry h;obtain⟨i,j,rfl,rfl,q⟩:=h;obtain⟨t,rfl⟩:=rx;obtain⟨t',rfl⟩:=ry;exact P.le_str ⟨.bl _,H,I,rfl,q⟩
def qkE (Ok:Addr->Sp->Prop) (tv:TE) (t:TA):TE:=fun σ H Q=>tv σ H fun fv H1=>∃ f sp,fv=.ref f∧Ok f sp∧t σ H1 fun vs H2=>sp (vs++[]) H2 Q E0
end
def zU (cells:List (Str×Addr)):List (Str×NameKind)->List (Str×Addr)->List (Str×Addr)
 | [],acc=>acc
 | (n,k)::r,acc=>zU cells r (if k == .free then (n,(cells.lookup n).getD 0)::acc else acc)
def qjj (env:Env) (x:Str×NameKind) (cs:List (Str×Addr)):Sem (ForInStep (List (Str×Addr))):=match x with
 | (name,kind)=>if (kind == NameKind.free)=true then (do let a ← cellOf env name;pure (ForInStep.yield ((name,a)::cs))) else pure (ForInStep.yield cs)
theorem qg6 {env:Env}{n:Str}{k:NameKind}{acc:List (Str×Addr)} (h:k=.free->∃ c,env.cells.lookup n=some c) :
   qjj env (n,k) acc=pure (ForInStep.yield (if k == .free then (n,(env.cells.lookup n).getD 0)::acc else acc)):=by
 by_cases hk:k=.free
 · subst hk;obtain⟨c,hc⟩:=h rfl;show (do let a ← cellOf env n;pure (ForInStep.yield ((n,a)::acc)))=(pure (ForInStep.yield ((n,(env.cells.lookup n).getD 0)::acc)):Sem _);unfold cellOf;rw[hc];rfl
 · cases k<;>first|exact absurd rfl hk|rfl
theorem qbN {env:Env}:∀ (names:List (Str×NameKind)) (acc:List (Str×Addr)),(∀ y∈names,y.2=.free->∃ c,env.cells.lookup y.1=some c) ->
   (forIn names acc (qjj env))=(pure (zU env.cells names acc):Sem (List (Str×Addr)))
 | [],acc,_=>rfl
 | (n,k)::r,acc,h=>by
   rw[List.forIn_cons,qg6 fun e=>h (n,k) List.mem_cons_self e];exact qbN (env:=env) r _ fun y hy=>h y (List.mem_cons_of_mem _ hy)
theorem Jp {scope:Scope}{env:Env} (h:∀ y∈scope.names,y.2=.free->∃ c,env.cells.lookup y.1=some c):closureFor scope env=pure (zU env.cells scope.names []):=by
 unfold closureFor;exact(congrArg (fun (m:Sem (List (Str×Addr)))=>m >>= fun cs=>pure cs) (qbN (env:=env) scope.names [] h)).trans rfl
theorem zD {cells:List (Str×Addr)}{x:Str}:∀ (names:List (Str×NameKind)) (acc:List (Str×Addr)),(∀ y∈names,y.2=.free->∃ c,cells.lookup y.1=some c)->(∀ c,acc.lookup x=some c->cells.lookup x=some c) ->
   (∀ c,(zU cells names acc).lookup x=some c->cells.lookup x=some c)∧(((x,NameKind.free)∈names∨(acc.lookup x).isSome=true)->((zU cells names acc).lookup x).isSome=true)
 | [],acc,_,ha=>⟨ha,fun h=>h.elim (fun z=>nomatch z) id⟩
 | (n,k)::r,acc,h,ha=>by
   unfold zU;have hr:∀ y∈r,y.2=.free->∃ c,cells.lookup y.1=some c:=fun y hy=>h y (List.mem_cons_of_mem _ hy)
   cases hk:(k == NameKind.free) with
   | false =>
     obtain⟨i1,i2⟩:=zD (cells:=cells) (x:=x) r acc hr ha;refine⟨by simpa using i1,fun z=>?_⟩
     have:((zU cells r acc).lookup x).isSome=true:=i2 (by
       rcases z with z|z
       · rcases List.mem_cons.mp z with e|e
         · cases e;cases hk
         · exact .inl e
       · exact .inr z)
     simpa using this
   | true =>
     obtain⟨c,hc⟩:=h (n,k) List.mem_cons_self (by simpa using hk);have hc:cells.lookup n=some c:=hc;have ek:k=NameKind.free:=by simpa using hk
     subst ek
     have ha':∀ c',((n,(cells.lookup n).getD 0)::acc).lookup x=some c'->cells.lookup x=some c':=fun c' z=>by
       rw[List.lookup_cons]at z
       cases e:x == n with
       | true =>
         rw[e]at z;have e':x=n:=by simpa using e
         rw[e',hc]at *;simpa using z
       | false=>rw[e]at z;exact ha c' z
     obtain⟨i1,i2⟩:=zD (cells:=cells) (x:=x) r _ hr ha';refine⟨i1,fun z=>i2 ?_⟩;by_cases e:x=n
     · right;rw[List.lookup_cons,e];simp
     · rcases z with z|z
       · rcases List.mem_cons.mp z with q|q
         · cases q;exact absurd rfl e
         · exact .inl q
       · right;rw[List.lookup_cons]
         have:(x == n)=false:=by simpa using e
         rw[this];exact z
theorem ZS {x:Str}{k:NameKind}:∀ {names:List (Str×NameKind)},names.lookup x=some k->(x,k)∈names
 | [],h=>by cases h
 | (n,j)::r,h=>by
   rw[List.lookup_cons]at h
   cases e:x == n with
   | true =>
     rw[e]at h;have e':x=n:=by simpa using e
     cases h;rw[e'];exact List.mem_cons_self
   | false=>rw[e]at h;exact List.mem_cons_of_mem _ (ZS h)
theorem qay {scope:Scope}{env:Env}{x:Str}{k:NameKind} (h:(x,k)∈(relabel scope env).names):(x,k)∈scope.names∨(k=.cell∧(x,NameKind.free)∈scope.names):=by
 have h':(x,k)∈scope.names.map fun (n,k)=>if (k == .free && env.scope.kind == .function && env.kindOf n == some .cell) then (n,.cell) else (n,k):=h
 obtain⟨⟨n,j⟩,hm,e⟩:=List.mem_map.mp h';simp only at e;split at e
 · rename_i c
   cases e
   have:j=.free:=by
     have c1:=(Bool.and_eq_true_iff.mp (Bool.and_eq_true_iff.mp c).1).1;simpa using c1
   subst this;exact .inr ⟨rfl,hm⟩
 · cases e;exact .inl hm
theorem Qr {env:Env}{x:Str} (hX:env.scope.kind=.function) (g3:env.kindOf x=some .cell):∀ {names:List (Str×NameKind)},names.lookup x=some .free ->
   (names.map fun (n,k)=>if (k == NameKind.free && env.scope.kind == .function && env.kindOf n == some .cell) then (n,NameKind.cell) else (n,k)).lookup x=some .cell
 | [],h=>by cases h
 | (n,k)::r,h=>by
   have ih:=Qr hX g3 (names:=r);show List.lookup x ((if (k == NameKind.free && env.scope.kind == .function && env.kindOf n == some .cell)=true then (n,NameKind.cell) else (n,k))::_)=_;rw[List.lookup_cons]at h
   cases e:x == n with
   | true =>
     rw[e]at h;have e':x=n:=by simpa using e
     have ek:k=.free:=by simpa using h
     rw[ek,← e',if_pos (show (NameKind.free == NameKind.free && env.scope.kind == .function && env.kindOf x == some .cell)=true by rw[hX,g3];decide),List.lookup_cons];simp
   | false =>
     rw[e]at h;by_cases hc:(k == NameKind.free && env.scope.kind == .function && env.kindOf n == some .cell)=true
     · rw[if_pos hc,List.lookup_cons,e];exact ih h
     · rw[if_neg hc,List.lookup_cons,e];exact ih h
theorem CompOk.of {X:Cx}{scope:Scope}{N:List Str}{js:List (Option Nat)} (hkind:scope.kind=.function) (hcell:∀ y∈scope.names,y.2≠.cell) (hnames:∀ y∈scope.names,y.2=.local->scope.names.lookup y.1=some .local)
   (hX:X.env.scope.kind=.function) (hfree:∀ y∈scope.names,y.2=.free->X.env.kindOf y.1=some .cell∧∃ c,X.env.cells.lookup y.1=some c) (len:js.length=N.length)
   (hfr:∀ (i j:Nat) (x:Str),js[i]?=some (some j)->N[i]?=some x->X.N[j]?=some x∧scope.names.lookup x=some .free) :
   CompOk X scope N (zU X.env.cells scope.names []) js where
 clos:=Jp fun y hy z=>(hfree y hy z).2
 sub:=fun x c h=>(zD scope.names [] (fun y hy z=>(hfree y hy z).2) (fun c h=>by cases h)).1 c h
 all:=fun x h=>by
   have hm:(x,NameKind.free)∈scope.names:=by
     rcases h with h|h
     · rcases qay (ZS h) with z|⟨_,z⟩
       · exact absurd rfl (hcell _ z)
       · exact z
     · rcases qay (ZS h) with z|⟨e,_⟩
       · exact z
       · cases e
   have:=(zD (cells:=X.env.cells) (x:=x) scope.names [] (fun y hy z=>(hfree y hy z).2) (fun c h=>by cases h)).2 (.inl hm)
   exact Option.isSome_iff_exists.mp this
 cell:=hcell
 kind:=hkind
 names:=hnames
 len:=len
 fr:=fun i j x h1 h2=>by
   obtain⟨g1,g2⟩:=hfr i j x h1 h2;obtain⟨g3,_⟩:=hfree (x,.free) (ZS g2) rfl;refine⟨g1,g3,.inl ?_⟩;exact Qr hX g3 g2
def qlr (sc:Scope) (N0 N:List Str) (js:List (Option Nat)):Bool:=(js.zip N).all fun p=>match p.1 with
 | none=>true
 | some j=>N0[j]? == some p.2 && sc.names.lookup p.2 == some .free
theorem qin {sc:Scope}{N0:List Str}:∀ {js:List (Option Nat)}{N:List Str},qlr sc N0 N js=true->∀ (i j:Nat) (x:Str),js[i]?=some (some j)->N[i]?=some x->N0[j]?=some x∧sc.names.lookup x=some .free:=by
 intro js N h i j x h1 h2
 have hm:(some j,x)∈js.zip N:=by
   refine List.mem_of_getElem? (i:=i) ?_;rw[List.getElem?_zip_eq_some];exact⟨h1,h2⟩
 have:=List.all_eq_true.mp h _ hm
 simpa using this
theorem CompOk.def {CX:CXT}{P:Program}{w:World}{K:Frag}{mg:Str->Option Value}{base:Heap}{N0:List Str}{qual:Str}{sc0:Scope}{f:Addr}{cd:Value}{A:Around}{outer:List Env}{s:Shared}{H:Hp}{E:XK}{scope:Scope}
   (N:List Str) (js:List (Option Nat)) (hk0:sc0.kind=.function:=by rfl) (hk:scope.kind=.function:=by rfl) (hcell:∀ y∈scope.names,y.2≠.cell:=by decide +kernel) (hnames:∀ y∈scope.names,y.2=.local->scope.names.lookup y.1=some .local:=by decide +kernel)
   (hfr0:∀ y∈scope.names,y.2=.free->sc0.names.lookup y.1=some .cell:=by decide +kernel) (len:js.length=N.length:=by rfl) (hfr:qlr scope N0 N js=true:=by decide +kernel) :
   CompOk (zi CX P w K mg base N0 qual sc0 f cd A outer s H E).nox scope N (zU (zi CX P w K mg base N0 qual sc0 f cd A outer s H E).nox.env.cells scope.names []) js :=
 CompOk.of hk hcell hnames hk0 (fun y hy z=>⟨hfr0 y hy z,Option.isSome_iff_exists.mp (PySem.W.cellsFrom_some _ _ _ (.inl (hfr0 y hy z)))⟩) len (qin hfr)
inductive qev (K:Frag) (x:V) (y:V) (H:Hp) (Q:VK):Prop
 | mk (p b xs:_) (h1:x=.ref p) (h2:y=.ref b) (h3:SqL K H p xs) (h4:SqL K H b []) (h5:Q (.bl xs.isEmpty) H):qev K x y H Q
def qkV (K:Frag):R2:=fun x y H Q=>qev K x y H Q
theorem qhQ {X:Cx} (hu:X.A.units+64 < cLine):OpR X (compareOp .Eq) (qkV X.K):=by
 intro pins s σ H x y v u Q I rx ry h;obtain⟨p,b,xs,rfl,rfl,hp,hb,q⟩:=h;cases rx;cases ry;obtain⟨its,rv,pl,_⟩:=I.list hp;obtain⟨its2,rv2,pl2,_⟩:=I.list hb;cases rv2;have hl:=rv.length
 cases xs with
 | nil =>
   cases rv;exact SeqAt.eq_listAt (e:=fun _=>true) pl.isList pl2.isList rfl (by omega) (fun j h1 h2=>by simp at h1) ⟨.bl true,H,I,rfl,q⟩
 | cons a r=>exact SeqAt.eq_list_lengthsAt pl.isList pl2.isList (by simp;intro z;rw[z]at hl;cases hl) (by omega) ⟨.bl false,H,I,rfl,q⟩
section
variable {prog:Program}{w:World}{A:Around}{E:Value->Shared->Prop}{s:Shared}
theorem qh0 {j u:Addr}{k:Nat}{xs:Array Value}{x:Value}{Q:Value->Shared->Prop} (a:s.heap.IsTupleIter j u k) (b:s.heap.IsTuple u xs) (e:xs[k]?=some x)
   (q:∀ h',h'.IsTupleIter j u (k+1)->Heap.SameBut j s.heap h'->Q x { s with heap:=h' }):wpAny (model prog w) A (Builtin.SmallTypes.nextOf (.ref j)) Q E s:=by
 obtain⟨oj,gj,cj,dj⟩:=id a;obtain⟨ou,gu,_,nu,du⟩:=b;unfold Builtin.SmallTypes.nextOf;refine wpAny_bind (wpAny_callSpecial?_slot (name:=Str.ofString "__next__") a.typeIs F.slot_tuple_iterator_next (wpAny_call_entry F.slot_tuple_iterator_next a.typeIs F.entry_tuple_iterator_next ?_ (F.args_tuple_iterator_next_1 _)));show wpAny _ _ (field (.ref j) 0 >>= _) _ _ s;refine wpAny_bind (wpAny_field gj dj (x:=.ref u) rfl ?_);show wpAny _ _ (if (Value.ref u == Value.none)=true then _ else _) _ _ s;rw[if_neg (show ¬ ((Value.ref u == Value.none)=true) from Bool.false_ne_true)];show wpAny _ _ (field (.ref j) 1 >>= _) _ _ s;refine wpAny_bind (wpAny_field gj dj (x:=.int k 0) rfl ?_);show wpAny _ _ (seqItems? (.ref u) >>= _) _ _ s;refine wpAny_bind (wpAny_seqItems gu du ?_);simp only[Int.toNat_natCast,e];refine wpAny_bind (wpAny_setField gj dj (by simp) (wpAny_pure ⟨x,rfl,wpAny_pure (q _ ?_ (Heap.SameBut.update ..))⟩));refine⟨_,Heap.get?_update_self _ gj (Obj.isFreed_of_fields (Obj.data_mapFields dj _)),(Obj.cls_mapFields ..).trans cj,?_⟩;rw[Obj.data_mapFields dj];simp[rawInt]
theorem qj3 {j u:Addr}{k:Nat}{xs:Array Value}{Q:Value->Shared->Prop} (hd:A.handled=none) (a:s.heap.IsTupleIter j u k) (b:s.heap.IsTuple u xs) (e:xs[k]?=none)
   (q:∀ h' z,Heap.ExtBut j s.heap h'->(∃ o,h'.get? z=some o∧o.cls=.type "StopIteration")->E (.ref z) { s with heap:=h' }):wpAny (model prog w) A (Builtin.SmallTypes.nextOf (.ref j)) Q E s:=by
 obtain⟨oj,gj,cj,dj⟩:=id a;obtain⟨ou,gu,_,nu,du⟩:=b;unfold Builtin.SmallTypes.nextOf;refine wpAny_bind (wpAny_callSpecial?_slot (name:=Str.ofString "__next__") a.typeIs F.slot_tuple_iterator_next (wpAny_call_entry F.slot_tuple_iterator_next a.typeIs F.entry_tuple_iterator_next ?_ (F.args_tuple_iterator_next_1 _)));show wpAny _ _ (field (.ref j) 0 >>= _) _ _ s;refine wpAny_bind (wpAny_field gj dj (x:=.ref u) rfl ?_);show wpAny _ _ (if (Value.ref u == Value.none)=true then _ else _) _ _ s;rw[if_neg (show ¬ ((Value.ref u == Value.none)=true) from Bool.false_ne_true)];show wpAny _ _ (field (.ref j) 1 >>= _) _ _ s;refine wpAny_bind (wpAny_field gj dj (x:=.int k 0) rfl ?_);show wpAny _ _ (seqItems? (.ref u) >>= _) _ _ s;refine wpAny_bind (wpAny_seqItems gu du ?_);simp only[Int.toNat_natCast,e];refine wpAny_bind (wpAny_rule (wpAny_bind (wpAny_setField gj dj (by simp) ?_)));show wpAny _ _ (newExc (.type "StopIteration") [] >>= _) _ _ { s with heap:=_ };refine wpAny_bind ?_;simp only[newExc,newTuple];refine wpAny_bind (wpAny_newObj_type ?_ (by size_fits));refine wpAny_bind (m:=firstArgMember _ _) (wpAny_of_eq (a:=Value.none) (by first|rfl|(simp only[firstArgMember];rfl)) (wpAny_newObj_type ?_ (by size_fits)));simp only[raiseNew];refine wpAny_bind (wpAny_handled ?_)
 first|rw[show A.in1.handled=none from hd]|rw[hd]
 exact wpAny_bind (wpAny_pure (wpAny_throw (q _ _ (((Heap.SameBut.update ..).extBut.push _).push _) ⟨_,Heap.get?_push_size _ rfl,rfl⟩)))
def itK:Bool->Heap->Addr->Addr->Nat->Prop
 | false,h,j,u,k=>h.IsListIter j u k
 | true,h,j,u,k=>h.IsTupleIter j u k
def sqK:Bool->Heap->Addr->Array Value->Prop
 | false,h,u,xs=>h.IsList u xs
 | true,h,u,xs=>h.IsTuple u xs
theorem itK.at {t:Bool}{h h':Heap}{j u:Addr}{k:Nat} (x:itK t h j u k) (e:∀ o,h.get? j=some o->h'.get? j=some o):itK t h' j u k:=by
 cases t with
 | false=>exact Heap.IsListIter.at x e
 | true=>obtain⟨o,g,r⟩:=x;exact⟨o,e o g,r⟩
theorem itK.get {t:Bool}{h:Heap}{j u:Addr}{k:Nat} (x:itK t h j u k):∃ o,h.get? j=some o∧o.data=.fields #[.ref u,.int k 0]:=by
 cases t with
 | false=>obtain⟨o,g,_,d⟩:=x;exact⟨o,g,d⟩
 | true=>obtain⟨o,g,_,d⟩:=x;exact⟨o,g,d⟩
theorem sqK.at {t:Bool}{h h':Heap}{u:Addr}{xs:Array Value} (x:sqK t h u xs) (e:∀ o,h.get? u=some o->h'.get? u=some o):sqK t h' u xs:=by
 cases t with
 | false=>exact Heap.IsList.at x e
 | true=>obtain⟨o,g,r⟩:=x;exact⟨o,e o g,r⟩
theorem sqK.lt {t:Bool}{h:Heap}{u:Addr}{xs:Array Value} (x:sqK t h u xs):u < h.objs.size:=by
 cases t with
 | false=>obtain⟨o,g,_⟩:=x;exact Heap.lt_size g
 | true=>obtain⟨o,g,_⟩:=x;exact Heap.lt_size g
theorem qci {t:Bool}{j u:Addr}{k:Nat}{xs:Array Value}{x:Value}{Q:Value->Shared->Prop} (a:itK t s.heap j u k) (b:sqK t s.heap u xs) (e:xs[k]?=some x)
   (q:∀ h',itK t h' j u (k+1)->Heap.SameBut j s.heap h'->Q x { s with heap:=h' }):wpAny (model prog w) A (Builtin.SmallTypes.nextOf (.ref j)) Q E s:=by
 cases t with
 | false=>exact wpAny_nextOf_list_item a b e q
 | true=>exact qh0 a b e q
theorem qgs {t:Bool}{j u:Addr}{k:Nat}{xs:Array Value}{Q:Value->Shared->Prop} (hd:A.handled=none) (a:itK t s.heap j u k) (b:sqK t s.heap u xs) (e:xs[k]?=none)
   (q:∀ h' z,Heap.ExtBut j s.heap h'->(∃ o,h'.get? z=some o∧o.cls=.type "StopIteration")->E (.ref z) { s with heap:=h' }):wpAny (model prog w) A (Builtin.SmallTypes.nextOf (.ref j)) Q E s:=by
 cases t with
 | false=>exact wpAny_nextOf_list_end hd a b e q
 | true=>exact qj3 hd a b e q
theorem qjp {t:Bool}{z TI TO i1 i2 l1 l2:Addr}{k:Nat}{xs ys:Array Value}{x y a b:Value}{Q:Value->Shared->Prop} (D:ZipApart z TI TO i1 i2 l1 l2)
   (gz:IsZip s.heap z TI TO .none) (gI:IsPair s.heap TI (.ref i1) (.ref i2)) (gO:IsPair s.heap TO a b) (j1:itK t s.heap i1 l1 k) (j2:itK t s.heap i2 l2 k) (m1:sqK t s.heap l1 xs) (m2:sqK t s.heap l2 ys) (ex:xs[k]?=some x) (ey:ys[k]?=some y)
   (q:∀ h',IsZip h' z TI TO (rawInt s.heap.objs.size)->IsPair h' TO x y->itK t h' i1 l1 (k+1)->itK t h' i2 l2 (k+1)->IsPair h' s.heap.objs.size x y ->
     (∀ c o,c≠z->c≠TO->c≠i1->c≠i2->s.heap.get? c=some o->h'.get? c=some o)->Q (.ref s.heap.objs.size) { s with heap:=h' }) :
   wpAny (model prog w) A (Builtin.«zip.__next__» ⟨[.ref z],[]⟩) (fun fin s'=>∃ v,fin=.done (.ret v)∧Q v s') E s:=by
 show wpAny _ _ (field (.ref z) 2 >>= _) _ _ s;refine wpAny_bind (wpAny_field gz rfl (x:=.bool false) rfl ?_);show wpAny _ _ (field (.ref z) 3 >>= _) _ _ s;refine wpAny_bind (wpAny_field gz rfl (x:=.ref TI) rfl (wpAny_bind (wpAny_seqItems gI rfl ?_)));show wpAny _ _ (Builtin.SmallTypes.ownedTupleIsFree (.ref z) >>= _) _ _ s;refine wpAny_bind ?_;unfold Builtin.SmallTypes.ownedTupleIsFree;refine wpAny_bind (wpAny_field gz rfl (x:=.none) rfl (wpAny_pure ?_));simp only[if_true];refine wpAny_bind (wpAny_rule (wpAny_bind (wpAny_field gz rfl (x:=.ref TO) rfl (wpAny_bind (wpAny_setField_rec gz (by simp) fun g1 z1 n1=>?_)))));replace z1:IsZip g1 z TI TO .ellipsis:=z1;refine wpAny_bind ?_;simp only[List.zipIdx_cons,List.zipIdx_nil,List.forIn_cons,List.forIn_nil];refine wpAny_bind (wpAny_bind (wpAny_onRaise ?_));show wpAny _ _ (Builtin.SmallTypes.nextOf (.ref i1) >>= _) _ _ { s with heap:=g1 };refine wpAny_bind (qci (t:=t) (s:={ s with heap:=g1 }) (j1.at fun o e=>n1.extBut _ o D.i1z e) (m1.at fun o e=>n1.extBut _ o D.l1z e) ex fun g2 j12 n2=>wpAny_pure ?_);have O2:IsPair g2 TO a b:=n2.extBut _ _ D.TOi1 (n1.extBut _ _ D.TOz gO);refine wpAny_bind (wpAny_seqItems O2 rfl (wpAny_bind (wpAny_updateSeq_pair O2 fun g3 O3 n3=>?_)));replace O3:IsPair g3 TO x b:=O3;refine wpAny_bind (wpAny_letGo (wpAny_pure (wpAny_bind (wpAny_bind (wpAny_onRaise ?_)))));show wpAny _ _ (Builtin.SmallTypes.nextOf (.ref i2) >>= _) _ _ { s with heap:=g3 };have k3:∀ c o,c≠z->c≠i1->c≠TO->s.heap.get? c=some o->g3.get? c=some o:=fun c o c1 c2 c3 e=>n3.extBut _ _ c3 (n2.extBut _ _ c2 (n1.extBut _ _ c1 e));refine wpAny_bind (qci (t:=t) (s:={ s with heap:=g3 }) (j2.at fun o e=>k3 _ o D.i2z D.i12.symm D.TOi2.symm e) (m2.at fun o e=>k3 _ o D.l2z D.l2i1 D.l2TO e) ey fun g4 j24 n4=>wpAny_pure ?_);have O4:IsPair g4 TO x b:=n4.extBut _ _ D.TOi2 O3;refine wpAny_bind (wpAny_seqItems O4 rfl (wpAny_bind (wpAny_updateSeq_pair O4 fun g5 O5 n5=>?_)));replace O5:IsPair g5 TO x y:=O5;refine wpAny_bind (wpAny_letGo (wpAny_pure (wpAny_pure (wpAny_bind (wpAny_seqItems O5 rfl (wpAny_bind (wpAny_newTuple ?_)))))));have sz:g5.objs.size=s.heap.objs.size:=by rw[n5.1,n4.1,n3.1,n2.1,n1.1]
 have z5:IsZip g5 z TI TO .ellipsis:=n5.extBut _ _ D.TOz.symm (n4.extBut _ _ D.i2z.symm (n3.extBut _ _ D.TOz.symm (n2.extBut _ _ D.i1z.symm z1)));have k5:∀ c o,c≠z->c≠TO->c≠i1->c≠i2->s.heap.get? c=some o->g5.get? c=some o:=fun c o c1 c2 c3 c4 e=>n5.extBut _ _ c2 (n4.extBut _ _ c4 (k3 c o c1 c3 c2 e));have p1:itK t g5 i1 l1 (k+1):=((j12.at fun o e=>n3.extBut _ o D.TOi1.symm e).at fun o e=>n4.extBut _ o D.i12 e).at fun o e=>n5.extBut _ o D.TOi1.symm e;have p2:itK t g5 i2 l2 (k+1):=j24.at fun o e=>n5.extBut _ o D.TOi2.symm e;have lz:z < g5.objs.size:=Heap.lt_size z5;show wpAny _ _ (Builtin.SmallTypes.ownedTupleHandOut (.ref z) (.ref g5.objs.size) >>= _) _ _ { s with heap:=_ };refine wpAny_bind ?_;unfold Builtin.SmallTypes.ownedTupleHandOut;have z6:IsZip (g5.push { cls:=.type "tuple",data:=.seq #[x,y] }) z TI TO .ellipsis:=Heap.get?_push_of_some _ z5;refine wpAny_bind (wpAny_setField_rec z6 (by simp) fun g7 z7 n7=>?_);replace z7:IsZip g7 z TI TO (rawInt g5.objs.size):=z7;refine wpAny_setField_rec z7 (by simp) fun g8 z8 n8=>?_;replace z8:IsZip g8 z TI TO (rawInt g5.objs.size):=z8;have up:∀ c o,c≠z->g5.get? c=some o->g8.get? c=some o:=fun c o c1 e=>n8.extBut _ _ c1 (n7.extBut _ _ c1 (Heap.get?_push_of_some _ e));have T8:IsPair g8 g5.objs.size x y:=n8.extBut _ _ (Nat.ne_of_gt lz) (n7.extBut _ _ (Nat.ne_of_gt lz) (Heap.get?_push_size _ rfl));rw[sz]at z8 T8;refine wpAny_pure ⟨_,rfl,?_⟩;show Q (.ref g5.objs.size) { s with heap:=g8 };rw[sz];exact q g8 z8 (up _ _ D.TOz O5) (p1.at fun o e=>up _ o D.i1z e) (p2.at fun o e=>up _ o D.i2z e) T8 fun c o c1 c2 c3 c4 e=>up c o c1 (k5 c o c1 c2 c3 c4 e)
theorem qkx {t:Bool}{z TI TO i1 i2 l1 l2:Addr}{k:Nat}{xs ys:Array Value}{a b:Value}{Q:Fin->Shared->Prop} (hd:A.handled=none) (D:ZipApart z TI TO i1 i2 l1 l2)
   (gz:IsZip s.heap z TI TO .none) (gI:IsPair s.heap TI (.ref i1) (.ref i2)) (gO:IsPair s.heap TO a b) (j1:itK t s.heap i1 l1 k) (j2:itK t s.heap i2 l2 k) (m1:sqK t s.heap l1 xs) (m2:sqK t s.heap l2 ys) (en:xs[k]?=none∨ys[k]?=none)
   (q:∀ h' v,(∀ c o,c≠z->c≠TO->c≠i1->c≠i2->s.heap.get? c=some o->h'.get? c=some o)->(∃ o,h'.get? v=some o∧o.cls=.type "StopIteration")->E (.ref v) { s with heap:=h' }) :
   wpAny (model prog w) A (Builtin.«zip.__next__» ⟨[.ref z],[]⟩) Q E s:=by
 show wpAny _ _ (field (.ref z) 2 >>= _) _ _ s;refine wpAny_bind (wpAny_field gz rfl (x:=.bool false) rfl ?_);show wpAny _ _ (field (.ref z) 3 >>= _) _ _ s;refine wpAny_bind (wpAny_field gz rfl (x:=.ref TI) rfl (wpAny_bind (wpAny_seqItems gI rfl ?_)));show wpAny _ _ (Builtin.SmallTypes.ownedTupleIsFree (.ref z) >>= _) _ _ s;refine wpAny_bind ?_;unfold Builtin.SmallTypes.ownedTupleIsFree;refine wpAny_bind (wpAny_field gz rfl (x:=.none) rfl (wpAny_pure ?_));simp only[if_true];refine wpAny_bind (wpAny_rule (wpAny_bind (wpAny_field gz rfl (x:=.ref TO) rfl (wpAny_bind (wpAny_setField_rec gz (by simp) fun g1 z1 n1=>?_)))));replace z1:IsZip g1 z TI TO .ellipsis:=z1;refine wpAny_bind ?_;simp only[List.zipIdx_cons,List.zipIdx_nil,List.forIn_cons,List.forIn_nil];refine wpAny_bind (wpAny_bind (wpAny_onRaise ?_));show wpAny _ _ (Builtin.SmallTypes.nextOf (.ref i1) >>= _) _ _ { s with heap:=g1 };have a1:itK t g1 i1 l1 k:=j1.at fun o e=>n1.extBut _ o D.i1z e;have b1:sqK t g1 l1 xs:=m1.at fun o e=>n1.extBut _ o D.l1z e
 cases ex:xs[k]? with
 | none =>
   refine wpAny_bind (qgs (t:=t) (s:={ s with heap:=g1 }) hd a1 b1 ex fun g2 v n2 sv=>?_);obtain⟨ov,gv,cv⟩:=sv;have z2:IsZip g2 z TI TO .ellipsis:=n2 _ _ D.i1z.symm z1;have vz:v≠z:=fun e=>by subst e;rw[z2]at gv;cases gv;simp at cv
   exact wpAny_setField_rec z2 (by simp) fun g3 _ n3=>q g3 v (fun c o c1 _ c3 _ e=>n3.extBut _ _ c1 (n2 _ _ c3 (n1.extBut _ _ c1 e))) ⟨ov,n3.extBut _ _ vz gv,cv⟩
 | some x =>
   have ey:ys[k]?=none:=en.resolve_left fun e=>by rw[ex]at e;cases e
   refine wpAny_bind (qci (t:=t) (s:={ s with heap:=g1 }) a1 b1 ex fun g2 j12 n2=>wpAny_pure ?_);have O2:IsPair g2 TO a b:=n2.extBut _ _ D.TOi1 (n1.extBut _ _ D.TOz gO);refine wpAny_bind (wpAny_seqItems O2 rfl (wpAny_bind (wpAny_updateSeq_pair O2 fun g3 O3 n3=>?_)));refine wpAny_bind (wpAny_letGo (wpAny_pure (wpAny_bind (wpAny_bind (wpAny_onRaise ?_)))));show wpAny _ _ (Builtin.SmallTypes.nextOf (.ref i2) >>= _) _ _ { s with heap:=g3 };have k3:∀ c o,c≠z->c≠i1->c≠TO->s.heap.get? c=some o->g3.get? c=some o:=fun c o c1 c2 c3 e=>n3.extBut _ _ c3 (n2.extBut _ _ c2 (n1.extBut _ _ c1 e));refine wpAny_bind (qgs (t:=t) (s:={ s with heap:=g3 }) hd (j2.at fun o e=>k3 _ o D.i2z D.i12.symm D.TOi2.symm e) (m2.at fun o e=>k3 _ o D.l2z D.l2i1 D.l2TO e) ey fun g4 v n4 sv=>?_);obtain⟨ov,gv,cv⟩:=sv;have z4:IsZip g4 z TI TO .ellipsis:=n4 _ _ D.i2z.symm (n3.extBut _ _ D.TOz.symm (n2.extBut _ _ D.i1z.symm z1));have vz:v≠z:=fun e=>by subst e;rw[z4]at gv;cases gv;simp at cv
   exact wpAny_setField_rec z4 (by simp) fun g5 _ n5=>q g5 v (fun c o c1 c2 c3 c4 e=>n5.extBut _ _ c1 (n4 _ _ c4 (k3 c o c1 c3 c2 e))) ⟨ov,n5.extBut _ _ vz gv,cv⟩
theorem qhG {t:Bool}{z TI TO i1 i2 l1 l2:Addr}{k:Nat}{xs ys:Array Value}{x y a b:Value}{Q:Option Value->Shared->Prop} (D:ZipApart z TI TO i1 i2 l1 l2)
   (gz:IsZip s.heap z TI TO .none) (gI:IsPair s.heap TI (.ref i1) (.ref i2)) (gO:IsPair s.heap TO a b) (j1:itK t s.heap i1 l1 k) (j2:itK t s.heap i2 l2 k) (m1:sqK t s.heap l1 xs) (m2:sqK t s.heap l2 ys) (ex:xs[k]?=some x) (ey:ys[k]?=some y)
   (q:∀ h',IsZip h' z TI TO (rawInt s.heap.objs.size)->IsPair h' TO x y->itK t h' i1 l1 (k+1)->itK t h' i2 l2 (k+1)->IsPair h' s.heap.objs.size x y ->
     (∀ c o,c≠z->c≠TO->c≠i1->c≠i2->s.heap.get? c=some o->h'.get? c=some o)->Q (some (.ref s.heap.objs.size)) { s with heap:=h' }) :
   wpAny (model prog w) A (pyNext (.ref z)) Q E s:=by
 have T:s.TypeIs (.ref z) "zip":=⟨_,gz,rfl⟩
 unfold pyNext
 exact wpAny_bind (wpAny_attempt (wpAny_callSpecial?_slot (name:=Str.ofString "__next__") T F.slot_zip_next (wpAny_call_entry F.slot_zip_next T F.entry_zip_next
   (qjp D gz gI gO j1 j2 m1 m2 ex ey fun h' c1 c2 c3 c4 c5 c6=>wpAny_pure (q h' c1 c2 c3 c4 c5 c6)) (F.args_zip_next_1 _))))
theorem qjR {t:Bool}{z TI TO i1 i2 l1 l2:Addr}{k:Nat}{xs ys:Array Value}{a b:Value}{Q:Option Value->Shared->Prop} (hd:A.handled=none) (D:ZipApart z TI TO i1 i2 l1 l2)
   (gz:IsZip s.heap z TI TO .none) (gI:IsPair s.heap TI (.ref i1) (.ref i2)) (gO:IsPair s.heap TO a b) (j1:itK t s.heap i1 l1 k) (j2:itK t s.heap i2 l2 k) (m1:sqK t s.heap l1 xs) (m2:sqK t s.heap l2 ys) (en:xs[k]?=none∨ys[k]?=none)
   (q:∀ h',(∀ c o,c≠z->c≠TO->c≠i1->c≠i2->s.heap.get? c=some o->h'.get? c=some o)->Q none { s with heap:=h' }):wpAny (model prog w) A (pyNext (.ref z)) Q E s:=by
 have T:s.TypeIs (.ref z) "zip":=⟨_,gz,rfl⟩
 unfold pyNext
 refine wpAny_bind (wpAny_attempt (wpAny_callSpecial?_slot (name:=Str.ofString "__next__") T F.slot_zip_next (wpAny_call_entry F.slot_zip_next T F.entry_zip_next
   (qkx hd D gz gI gO j1 j2 m1 m2 en fun h' v hk sv=>?_) (F.args_zip_next_1 _))))
 obtain⟨o,go,co⟩:=sv;exact wpAny_bind (wpAny_isInstance (T:="StopIteration") (b:=true) ⟨o,go,co⟩ isSubtype_stop (wpAny_pure (q _ hk)))
end
def itN:Bool->String
 | false=>"list_iterator"
 | true=>"tuple_iterator"
abbrev zk1 (t:Bool) (h:Heap) (u:Addr):Heap:=h.push { cls:=.type (itN t),data:=.fields #[.ref u,.int 0 0] }
abbrev zk3 (t:Bool) (h:Heap) (u v:Addr):Heap:=(zk1 t (zk1 t h u) v).push { cls:=.type "tuple",data:=.seq #[.ref h.objs.size,.ref (zk1 t h u).objs.size] }
abbrev zk4 (t:Bool) (h:Heap) (u v:Addr):Heap:=(zk3 t h u v).push { cls:=.type "tuple",data:=.seq #[.none,.none] }
abbrev zk5 (t:Bool) (h:Heap) (u v:Addr):Heap:=(zk4 t h u v).push { cls:=.type "zip",data:=.fields #[.none,.bool false,.bool false,.ref (zk1 t (zk1 t h u) v).objs.size,.ref (zk3 t h u v).objs.size] }
theorem qkw (t:Bool) (u v:Addr) (xs ys:Array Value):Meets (Builtin.«zip.__new__» ⟨[.type "zip",.ref u,.ref v],[]⟩) (fun _ R s=>sqK t s.heap u xs∧sqK t s.heap v ys ∧
     R (.ok (.ret (.ref (zk4 t s.heap u v).objs.size))) { s with heap:=zk5 t s.heap u v }) :=
 .of_wp fun prog w A R s h=>by
   obtain⟨hp,g,d,tk,os⟩:=s;obtain⟨m1,m2,h⟩:=h;have hsub:=sub_zip
   cases t with
   | false =>
     have L1:Heap.IsList (Shared.heap ⟨hp,g,d,tk,os⟩) u xs:=m1;have L2:Heap.IsList (Shared.heap ⟨hp.push { cls:=.type "list_iterator",data:=.fields #[.ref u,.int 0 0] },g,d,tk,os⟩) v ys:=Heap.IsList.push m2 _
     wp_walk using wpAny_pyIter_list L1,wpAny_pyIter_list L2
     exact⟨_,rfl,h⟩
   | true =>
     have L1:Heap.IsTuple (Shared.heap ⟨hp,g,d,tk,os⟩) u xs:=m1;have L2:Heap.IsTuple (Shared.heap ⟨hp.push { cls:=.type "tuple_iterator",data:=.fields #[.ref u,.int 0 0] },g,d,tk,os⟩) v ys:=Heap.IsTuple.push m2 _
     wp_walk using wpAny_pyIter_tuple L1,wpAny_pyIter_tuple L2
     exact⟨_,rfl,h⟩
section
variable {prog:Program}{w:World}{A:Around}{E:Value->Shared->Prop}{s:Shared}
theorem itK.new {t:Bool}{h:Heap}{j u:Addr} (g:h.get? j=some { cls:=.type (itN t),data:=.fields #[.ref u,.int 0 0] }):itK t h j u 0:=by
 cases t with
 | false=>exact⟨_,g,rfl,rfl⟩
 | true=>exact⟨_,g,rfl,rfl⟩
theorem qg8 {t:Bool}{u v:Addr}{xs ys:Array Value}{Q:Value->Shared->Prop} (m1:sqK t s.heap u xs) (m2:sqK t s.heap v ys)
   (q:∀ h',IsZip h' (s.heap.objs.size+4) (s.heap.objs.size+2) (s.heap.objs.size+3) .none->IsPair h' (s.heap.objs.size+2) (.ref s.heap.objs.size) (.ref (s.heap.objs.size+1)) ->
     IsPair h' (s.heap.objs.size+3) .none .none->itK t h' s.heap.objs.size u 0->itK t h' (s.heap.objs.size+1) v 0->(∀ c o,s.heap.get? c=some o->h'.get? c=some o)->Q (.ref (s.heap.objs.size+4)) { s with heap:=h' }) :
   wpAny (model prog w) A (call (.type "zip") [.ref u,.ref v]) Q E s:=by
 refine callType_new F.called_zip (by decide) (F.typeCall_zip_2 _ _) (F.newCall_zip_2 _ _) (fun obj=>F.args_object_init_3 obj _ _) F.entry_zip_new (qkw t u v xs ys) ⟨m1,m2,?_⟩;have y1:(zk1 t s.heap u).objs.size=s.heap.objs.size+1:=Heap.size_push ..;have y2:(zk1 t (zk1 t s.heap u) v).objs.size=s.heap.objs.size+2:=by rw[Heap.size_push,y1]
 have y3:(zk3 t s.heap u v).objs.size=s.heap.objs.size+3:=by rw[Heap.size_push,y2]
 have y4:(zk4 t s.heap u v).objs.size=s.heap.objs.size+4:=by rw[Heap.size_push,y3]
 have f5:(zk5 t s.heap u v).get? (zk4 t s.heap u v).objs.size=some _:=Heap.get?_push_size _ rfl;have f4:(zk5 t s.heap u v).get? (zk3 t s.heap u v).objs.size=some _:=Heap.get?_push_of_some _ (Heap.get?_push_size _ rfl);have f3:(zk5 t s.heap u v).get? (zk1 t (zk1 t s.heap u) v).objs.size=some _:=Heap.get?_push_of_some _ (Heap.get?_push_of_some _ (Heap.get?_push_size _ rfl));have f2:(zk5 t s.heap u v).get? (zk1 t s.heap u).objs.size=some _:=Heap.get?_push_of_some _ (Heap.get?_push_of_some _ (Heap.get?_push_of_some _ (Heap.get?_push_size _ rfl)));have f1:(zk5 t s.heap u v).get? s.heap.objs.size=some _:=Heap.get?_push_of_some _ (Heap.get?_push_of_some _ (Heap.get?_push_of_some _ (Heap.get?_push_of_some _ (Heap.get?_push_size _ rfl))));show _∧_;rw[y2,y3,y4]at f5;rw[y1,y2]at f3;rw[y3]at f4;rw[y1]at f2;rw[y4];exact⟨⟨_,f5,rfl⟩,q _ f5 f3 f4 (.new f1) (.new f2) fun c o e=>Heap.get?_push_of_some _ (Heap.get?_push_of_some _ (Heap.get?_push_of_some _ (Heap.get?_push_of_some _ (Heap.get?_push_of_some _ e))))⟩
end
def SqK (K:Frag):Bool->Hp->Addr->List V->Prop
 | false=>SqL K
 | true=>SqT K
def Itz (K:Frag) (t:Bool) (a b:Addr):It :=
 ⟨fun i H=>∃ xs ys x y,SqK K t H a xs∧SqK K t H b ys∧xs[i]?=some x∧ys[i]?=some y,
  fun i H v H'=>∃ p x y,H p=none∧v=.ref p∧(∀ xs ys,SqK K t H a xs->SqK K t H b ys->xs[i]?=some x∧ys[i]?=some y)∧H'=upd H p (.tup [x,y]),
  fun i H=>∃ xs ys,SqK K t H a xs∧SqK K t H b ys∧(xs.length≤i∨ys.length≤i)⟩
section
variable {X:Cx}{pins:List (Addr×Obj)}{σ:St}{H:Hp}{s:Shared}
theorem Inv.seqK {t:Bool}{a:Addr}{xs:List V} (I:Inv X pins σ H s) (h:SqK X.K t H a xs):∃ its:List Value,Vals xs its∧sqK t s.heap a its.toArray∧xs.length≤sizeLine:=by
 cases t with
 | false =>
   obtain⟨its,rv,p,z⟩:=I.list h;exact⟨its,rv,p.isList,z⟩
 | true=>exact I.tuple h
theorem Inv.seqK_inj {t:Bool}{a:Addr}{xs ys:List V} (I:Inv X pins σ H s) (h:SqK X.K t H a xs) (h':SqK X.K t H a ys):xs=ys:=by
 cases t with
 | false=>exact I.list_inj h h'
 | true=>exact I.tuple_inj h h'
end
structure ZSt (t:Bool) (z TI TO i1 i2 a b:Addr) (i:Nat) (h:Heap):Prop where
 gz:IsZip h z TI TO .none
 gI:IsPair h TI (.ref i1) (.ref i2)
 gO:∃ u v,IsPair h TO u v
 j1:itK t h i1 a i
 j2:itK t h i2 b i
theorem qfv {Cm:Cx->Prop}{sp:Nat->Hp->Prop}{P:Program}{w:World}{K:Frag}{elts:List Expr}{k:Nat}{pos:Pos}{t:Bool} (z TI TO i1 i2 a b:Addr) (D:ZipApart z TI TO i1 i2 a b)
   (dn:∀ (X:Cx),X.prog=P->X.w=w->X.K=K->Cm X->∀ (i:Nat) (pins:List (Addr×Obj)) (s:Shared) (σ:St) (H:Hp) (E:Value->Shared->Prop),Inv X pins σ H s->(∀ b∈[z,TI,TO,i1,i2],qeW X pins H b)->ZSt t z TI TO i1 i2 a b i s.heap->sp i H ->
     wpAny (model P w) X.A (pyNext (.ref z)) (fun r s1=>r=none∧Inv X pins σ H s1) E s) :
   qiy Cm P w K (.Tuple elts k pos) ⟨(Itz K t a b).go,(Itz K t a b).yld,sp⟩ [z,TI,TO,i1,i2] z (ZSt t z TI TO i1 i2 a b) where
 mem:=by simp
 obj:=fun i h st c hc=>by
   obtain⟨gz,gI,⟨u,v,gO⟩,j1,j2⟩:=st;simp only[List.mem_cons,List.not_mem_nil,or_false]at hc;rcases hc with rfl|rfl|rfl|rfl|rfl
   · exact⟨_,gz,fun v e=>by cases e⟩
   · exact⟨_,gI,fun v e=>by cases e⟩
   · exact⟨_,gO,fun v e=>by cases e⟩
   · obtain⟨o,g,d⟩:=j1.get;exact⟨o,g,fun v e=>by rw[d]at e;cases e⟩
   · obtain⟨o,g,d⟩:=j2.get;exact⟨o,g,fun v e=>by rw[d]at e;cases e⟩
 keep:=fun i h h' st kk=>by
   obtain⟨gz,gI,⟨u,v,gO⟩,j1,j2⟩:=st;exact⟨kk z (by simp) _ gz,kk TI (by simp) _ gI,⟨u,v,kk TO (by simp) _ gO⟩,j1.at fun o e=>kk i1 (by simp) o e,j2.at fun o e=>kk i2 (by simp) o e⟩
 item:=by
   intro X hP hw hK hc i pins s σ H E I hf st hg;subst hP hw hK;obtain⟨xs,ys,x,y,hq,hq2,hx,hy⟩:=hg;obtain⟨its,rv,p,hz⟩:=I.seqK hq;obtain⟨its2,rv2,p2,hz2⟩:=I.seqK hq2;obtain⟨u,hu,ru⟩:=rv.get hx;obtain⟨u2,hu2,ru2⟩:=rv2.get hy;obtain⟨gz,gI,⟨_,_,gO⟩,j1,j2⟩:=st;refine qhG (t:=t) D gz gI gO j1 j2 p p2 (x:=u) (y:=u2) (by simpa using hu) (by simpa using hu2) fun h1 w1 w2 w3 w4 w5 hk=>?_;refine⟨_,rfl,wpAny_letOwnedTupleGo_zip (s:={ s with heap:=h1 }) w1 fun h2 gz2 hs2=>?_⟩;have lz:z < s.heap.objs.size:=Heap.lt_size gz;have lI:TI < s.heap.objs.size:=Heap.lt_size gI;have lO:TO < s.heap.objs.size:=Heap.lt_size gO;have l1:i1 < s.heap.objs.size:=by obtain⟨o,g,_⟩:=j1.get;exact Heap.lt_size g
   have l2:i2 < s.heap.objs.size:=by obtain⟨o,g,_⟩:=j2.get;exact Heap.lt_size g
   have T2:h2.get? s.heap.objs.size=some { cls:=.type "tuple",data:=.seq #[u,u2] }:=(hs2.2 _ (Nat.ne_of_gt lz)).trans w5
   have I1:Inv X pins σ (upd H s.heap.objs.size (.tup [x,y])) { s with heap:=h2,toks:=s.toks }:=by
     refine I.turnLaid (ch:=[z,TI,TO,i1,i2]) (fun c o hc q=>?_) hf (Nat.le_refl _) ⟨by show 2≤sizeLine;decide,[u,u2],.cons ru (.cons ru2 .nil),⟨_,T2,rfl,_,rfl⟩⟩;have c1:c≠z:=fun e=>hc (by simp[e]);exact(hs2.2 c c1).trans (hk c o c1 (fun e=>hc (by simp[e])) (fun e=>hc (by simp[e])) (fun e=>hc (by simp[e])) q)
   refine⟨.ref s.heap.objs.size,_,I1,rfl,⟨_,x,y,I.hok.fresh (Nat.le_refl _),rfl,fun ys1 ys2 q1 q2=>by rw[I.seqK_inj q1 hq,I.seqK_inj q2 hq2];exact⟨hx,hy⟩,rfl⟩,?_,fun c hc=>?_⟩
   · exact⟨gz2,(hs2.2 _ D.TIz).trans (hk _ _ D.TIz D.TITO D.TIi1 D.TIi2 gI),⟨_,_,(hs2.2 _ D.TOz).trans w2⟩,w3.at fun o e=>(hs2.2 _ D.i1z).trans e,w4.at fun o e=>(hs2.2 _ D.i2z).trans e⟩
   · have hcl:c < s.heap.objs.size:=by
       simp only[List.mem_cons,List.not_mem_nil,or_false]at hc;rcases hc with rfl|rfl|rfl|rfl|rfl<;>assumption
     rw[qh (Nat.ne_of_lt hcl)];exact(hf c hc).1
 done:=dn
 self:=fun _ _ _ _ _ st h=>wpAny_pyIter_zip st.gz h
theorem qhs {P:Program}{w:World}{K:Frag}{elts:List Expr}{k:Nat}{pos:Pos}{t:Bool} (z TI TO i1 i2 a b:Addr) (D:ZipApart z TI TO i1 i2 a b) :
   qiz P w K (.Tuple elts k pos) (Itz K t a b) [z,TI,TO,i1,i2] z (ZSt t z TI TO i1 i2 a b):=qfv (Cm:=fun X=>X.calm=true) (sp:=(Itz K t a b).stop) z TI TO i1 i2 a b D (by
   intro X hP hw hK hc i pins s σ H E I hf st hg;subst hP hw hK;obtain⟨xs,ys,hq,hq2,hx⟩:=hg;obtain⟨its,rv,p,hz⟩:=I.seqK hq;obtain⟨its2,rv2,p2,hz2⟩:=I.seqK hq2;obtain⟨gz,gI,⟨_,_,gO⟩,j1,j2⟩:=st;have e1:=rv.length;have e2:=rv2.length
   refine qjR (t:=t) (I.ok.hd hc) D gz gI gO j1 j2 p p2 (by simp;omega) fun h' hk=>⟨rfl,I.turnL (t':=s.toks) (ch:=[z,TI,TO,i1,i2]) (fun c o hc q=>hk c o (fun e=>hc (by simp[e])) (fun e=>hc (by simp[e])) (fun e=>hc (by simp[e])) (fun e=>hc (by simp[e])) q) hf⟩)
theorem qhb:bootBuiltins "zip"=some (.type "zip"):=by decide +kernel
inductive qjb (K:Frag) (sp:Bool->Addr->Addr->Nat->Hp->Prop) (R:(It->Hp->Prop)) (vs:List V) (H1:Hp):Prop
 | mk (t a b:_) (h1:vs=[.ref a,.ref b]) (h2:(∃ xs,SqK K t H1 a xs)) (h3:(∃ ys,SqK K t H1 b ys)) (h4:R ⟨(Itz K t a b).go,(Itz K t a b).yld,sp t a b⟩ H1):qjb K sp R vs H1
def qlp (K:Frag) (sp:Bool->Addr->Addr->Nat->Hp->Prop) (ta:TA):TI:=fun σ H R=>ta σ H fun vs H1=>qjb K sp R vs H1
abbrev qm5 (K:Frag) (ta:TA):TI:=qlp K (fun t a b=>(Itz K t a b).stop) ta
section
variable {X:Cx}
theorem qjT {Cm:Cx->Prop}{sp:Bool->Addr->Addr->Nat->Hp->Prop}{e1 e2:Expr}{ta:TA}{p pos tp:Pos}{elts:List Expr}{kk:Nat} (T:∀ (t:Bool) (z TI TO i1 i2 a b:Addr),ZipApart z TI TO i1 i2 a b->qiy Cm X.prog X.w X.K (.Tuple elts kk tp) ⟨(Itz X.K t a b).go,(Itz X.K t a b).yld,sp t a b⟩ [z,TI,TO,i1,i2] z (ZSt t z TI TO i1 i2 a b)) (hg:Gl X "zip") (hm:X.mg "zip"=none) (ha:PA X [e1,e2] ta) (hs:starEach [e1,e2] X.env=(false,eval e1 X.env)::starEach [e2] X.env:=by rfl)
   (hpl:(backTo pos (starEach [e2] X.env)).any (·.1)=false:=by rfl):PIC Cm X (.Tuple elts kk tp) (.Call (.Name "zip" p) [e1,e2] [] pos) (qlp X.K sp ta):=by
 intro pins s σ H R I h;refine Call_ (qaN I hg hm qhb (PyProof.Rows.callWith_type1 (thn (ha pos pins s σ H _ I h) fun us s1 zz_=>?_) hs hpl));obtain⟨vs,H1,I1,r1,q1⟩:=zz_;obtain⟨t,a,b,e,⟨xs,hq⟩,⟨ys,hq2⟩,q⟩:=q1;subst e;obtain⟨u,v,rfl,ru,rv⟩:=qfu r1;cases ru;cases rv;obtain⟨its,rv,pl,hz⟩:=I1.seqK hq;obtain⟨its2,rv2,pl2,hz2⟩:=I1.seqK hq2;refine qg8 (t:=t) pl pl2 fun h' gz gI gO j1 j2 hk=>?_;have I2:Inv X pins σ H1 { s1 with heap:=h' }:=I1.kept (t':=s1.toks) hk;have la:=pl.lt;have lb:=pl2.lt
 have D:ZipApart (s1.heap.objs.size+4) (s1.heap.objs.size+2) (s1.heap.objs.size+3) s1.heap.objs.size (s1.heap.objs.size+1) a b:=by
   constructor<;>(intro h;have h':=@id (@Eq Nat _ _) h;clear h;revert la lb h';exact fun (la:@LT.lt Nat _ _ _) (lb:@LT.lt Nat _ _ _) h'=>by omega)
 refine wpAny_pyIter_zip gz ⟨s1.heap.objs.size+4,_,_,_,H1,rfl,I2,T t _ _ _ _ _ _ _ D,⟨gz,gI,⟨_,_,gO⟩,j1,j2⟩,fun c hc=>?_,q⟩
 have hc1:s1.heap.objs.size≤c:=by
   simp only[List.mem_cons,List.not_mem_nil,or_false]at hc;rcases hc with rfl|rfl|rfl|rfl|rfl<;>omega
 exact I1.fpOk hc1 (I1.hok.fresh hc1)
theorem qk1 {e1 e2:Expr}{ta:TA}{p pos tp:Pos}{elts:List Expr}{kk:Nat} (hg:Gl X "zip") (hm:X.mg "zip"=none) (ha:PA X [e1,e2] ta) (hs:starEach [e1,e2] X.env=(false,eval e1 X.env)::starEach [e2] X.env:=by rfl)
   (hpl:(backTo pos (starEach [e2] X.env)).any (·.1)=false:=by rfl):PI X (.Tuple elts kk tp) (.Call (.Name "zip" p) [e1,e2] [] pos) (qm5 X.K ta):=qjT (Cm:=fun X=>X.calm=true) (sp:=fun t a b=>(Itz X.K t a b).stop) (fun t z TI TO i1 i2 a b D=>qhs z TI TO i1 i2 a b D) hg hm ha hs hpl
end
theorem qis {K:Frag}{t:Bool}{a b:Addr}{xs ys:List V}{g:TG}{tt:TT}{te:TE}{D:Addr}{Q:VK}{σ0:St}{H0:Hp} (Pv:Nat->St->Hp->Prop) (he:xs.length=ys.length) (h0:Pv 0 σ0 H0)
   (hl:∀ i σ H,i≤xs.length->Pv i σ H->SqK K t H a xs∧SqK K t H b ys)
   (hs:∀ i x y σ H p,xs[i]?=some x->ys[i]?=some y->Pv i σ H->H p=none->g (.ref p) σ (upd H p (.tup [x,y])) fun σ3 H3=>tt σ3 H3 fun ok H4=>if ok=true then te σ3 H4 fun v H5=>∃ zs,H5 D=some (.lst zs)∧zs.length < sizeLine∧Pv (i+1) σ3 (upd H5 D (.lst (zs++[v]))) else Pv (i+1) σ3 H4)
   (hd:∀ σ H,Pv xs.length σ H->Q (.ref D) H):Jc (Itz K t a b) g tt te D Q σ0 H0:=by
 refine⟨fun i m σ H=>m=xs.length - i∧i≤xs.length∧Pv i σ H,⟨xs.length,by simp,Nat.zero_le _,h0⟩,?_⟩;rintro i m σ H ⟨rfl,hi,p⟩;obtain⟨q1,q2⟩:=hl i σ H hi p;by_cases hlt:i < xs.length
 · have hlt2:i < ys.length:=by omega
   refine .inr ⟨⟨xs,ys,xs[i],ys[i],q1,q2,by simp[hlt],by simp[hlt2]⟩,Pv (i+1),fun σ' H' p'=>⟨xs.length - (i+1),by omega,rfl,hlt,p'⟩,fun x H' y=>?_⟩;obtain⟨c,u,v,hn,rfl,z,rfl⟩:=y;obtain⟨z1,z2⟩:=z xs ys q1 q2;exact hs i u v σ _ c z1 z2 p hn
 · have e:i=xs.length:=by omega
   subst e;exact .inl ⟨⟨xs,ys,q1,q2,.inl (Nat.le_refl _)⟩,hd σ H p⟩
theorem Same.put {G H:Hp}{p:Addr} (s:Same G H) (n:G p=none) (o:HO):Same G (upd H p o):=fun c u e=>by rw[qh (qi e n)];exact s c u e
theorem Same.none {G H:Hp}{p:Addr} (s:Same G H) (n:H p=none):G p=none:=by
 cases e:G p with
 | none=>rfl
 | some o=>rw[s p o e]at n;cases n
theorem But.none {H H':Hp}{p q:Addr} (b:But p H H') (n:H' q=none) (h:q≠p):H q=none:=by
 cases e:H q with
 | none=>rfl
 | some o=>rw[b q o e h]at n;cases n
theorem But.putN {H H':Hp}{p q:Addr} (b:But p H H') (n:H q=Option.none) (o:HO):But p H (upd H' q o):=fun c u e h=>by rw[qh (qi e n)];exact b c u e h
def cut (H:Hp) (ts:List Addr):Hp:=fun b=>if b∈ts then none else H b
theorem qeS {H:Hp}{ts:List Addr}{b:Addr} (h:b∈ts):cut H ts b=none:=by unfold cut;rw[if_pos h]
theorem qaV {H:Hp}{ts:List Addr}{b:Addr} (h:b∉ts):cut H ts b=H b:=by unfold cut;rw[if_neg h]
theorem qbY {α:Type}{xs:List α}{x y:α}{i:Nat} (h:(xs++[x])[i]?=some y):xs[i]?=some y∨(i=xs.length∧y=x):=by
 rw[List.getElem?_append]at h;by_cases hi:i < xs.length
 · rw[if_pos hi]at h;exact .inl h
 · rw[if_neg hi]at h
   have e:i - xs.length=0:=by
     cases n:i - xs.length with
     | zero=>rfl
     | succ k=>rw[n]at h;simp at h
   rw[e]at h;exact .inr ⟨by omega,by simpa using h.symm⟩
def qjM (K:Frag):List V->Hp->VK->Prop:=fun xs H Q=>∃ p ys,xs=[.ref p]∧(SqL K H p ys∨SqT K H p ys)∧∀ l,H l=none->Q (.ref l) (upd H l (.lst ys))
section
variable {X:Cx}
theorem qf7 {i:Nat}{x:Str}{pos' pos:Pos}{elt iter tg:Expr}{ifs:List Expr}{scope:Scope}{cpos:Pos}{wi:TI}{g:TG}{tt:TT}{te:TE}{N:List Str}{cl:List (Str×Addr)}{js:List (Option Nat)} (hN:X.N.Nodup) (hi0:X.N[i]?=some x) (hx:Loc X.env.scope x)
   (hc:X.calm=true) (k:CompOk X scope N cl js) (hi:PI X tg iter wi)
   (hg:∀ C s₀ H₀ ex pn,PG (zb X scope N cl C s₀ H₀ ex pn) tg g) (ht:∀ C s₀ H₀ ex pn,PTs (zb X scope N cl C s₀ H₀ ex pn) ifs tt) (he:∀ C s₀ H₀ ex pn,PE (zb X scope N cl C s₀ H₀ ex pn) elt te)
   (hsw:swapsWith (.ListComp elt [⟨tg,iter,ifs,0⟩] scope cpos) (some (.Name x pos')) pos.line X.env=pure true:=by rfl)
   (hf:X.fn x=true∨X.env.scope.names.lookup x=some .local:=by first|exact .inl rfl|exact .inr rfl|assumption)
   (hs:∀ x,foldedSetIterable iter X.env x=pure x:=by intro _;rfl) :
   PS X (.Assign [.Name x pos'] (.ListComp elt [⟨tg,iter,ifs,0⟩] scope cpos) pos) (qlG (qjw wi g tt te js) (qim i)):=by
 intro pins s σ H D0 I h;rw[exec_Assign_Name_used _ _ _ _ hsw];refine wpAny_bind (wpAny_standAt (wpAny_bind ?_));show wpAny _ X.A (do let _ ← comprehension (.ListComp elt [⟨tg,iter,ifs,0⟩] scope cpos) scope X.env _ (newList []) false (eval iter X.env) (some (assign (.Name x pos') X.env))) _ _ s;refine wpAny_bind (wpAny_mono (wpAny_comprehension_free (use:=some (assign (.Name x pos') X.env)) (Q:=fun _ s'=>∃ σ' H',Inv X pins σ' H' s'∧D0.nx σ' H') rfl hs k.clos k.kind k.names ?_) (fun _ s' hq=>wpAny_pure (wpAny_pure hq)) fun _ _ e=>e);refine thn (hi pins s σ H _ I h) fun v s1 h1=>thn h1 fun itv s2 h2=>?_;obtain⟨it,fp,tn,J,H2,e,I2,T,st2,f2,hD⟩:=h2;subst e;refine wpAny_newObj_type (wpAny_newFunctionEnv k.cell (by intro y hy;simp at hy) (fun h₁ hns₁ hsb₁=>?_) k.kind);dsimp only at hns₁ hsb₁ ⊢;generalize hH2:s2.heap.push { cls:=.type "list",dict:=none,data:=.seq ([]:List Value).toArray }=P2 at hns₁ hsb₁ ⊢;have hC:P2.objs.size=s2.heap.objs.size+1:=by rw[← hH2,Heap.size_push]
 have hDC:s2.heap.objs.size≠P2.objs.size:=by rw[hC];exact Nat.ne_of_lt (Nat.lt_succ_self _)
 have hCle:s2.heap.objs.size≤P2.objs.size:=by rw[hC];exact Nat.le_succ _
 have old:∀ b o,s2.heap.get? b=some o->h₁.get? b=some o:=fun b o e=>hsb₁.extBut b o (Nat.ne_of_lt (Nat.lt_of_lt_of_le (Heap.lt_size e) hCle)) (Heap.get?_push_of_some _ (hH2▸Heap.get?_push_of_some _ e));have hacc:h₁.get? s2.heap.objs.size=some { cls:=.type "list",data:=.seq ([]:List Value).toArray }:=hsb₁.extBut _ _ hDC (Heap.get?_push_of_some _ (hH2▸Heap.get?_push_size _ rfl))
 have hfl:∀ b∈fp,b < s2.heap.objs.size:=fun b hb=>by
   obtain⟨o,e,_⟩:=T.obj _ _ st2 b hb;exact Heap.lt_size e
 have fD:H2 s2.heap.objs.size=none:=I2.hok.fresh (Nat.le_refl _);obtain⟨W,⟨m0,w0⟩,turn⟩:=hD _ fD
 have IX:Inv (zb X scope N cl P2.objs.size s2 H2 fp (X.pn++pins)) [] (st0 js σ) (upd H2 s2.heap.objs.size (.lst [])) { s2 with heap:=h₁,toks:=s2.toks+([]:List (Str×Value)).length } :=
   qeT k I2 f2 hfl (Nat.le_refl _) hCle hDC hns₁ hacc old
 have hg':=hg P2.objs.size s2 H2 fp (X.pn++pins);have ht':=ht P2.objs.size s2 H2 fp (X.pn++pins);have he':=he P2.objs.size s2 H2 fp (X.pn++pins)
 have stat:∀ {H':Hp},(∀ b∈fp,H' b=none)->∀ b∈fp,qeW (zb X scope N cl P2.objs.size s2 H2 fp (X.pn++pins)) [] H' b:=fun hn b hb=>by
   obtain⟨g0,g1,g2,g3,g4,g5⟩:=f2 b hb;refine⟨hn b hb,Nat.ne_of_lt (Nat.lt_of_lt_of_le (hfl b hb) hCle),fun z=>?_,.inl hb,fun x c h=>g4 x c (k.sub _ _ h),fun p hp=>g5 p (by simpa[zb] using hp)⟩;rcases List.mem_cons.mp (I2.stkSub b z) with e|e
   · exact g1 e
   · exact g2 e
 have loop:∀ s₃:Shared,s₃={ s2 with heap:=h₁,toks:=s2.toks+([]:List (Str×Value)).length } ->
     codeAny (model X.prog X.w) X.A (.compLoop (.ListComp elt [⟨tg,iter,ifs,0⟩] scope cpos) 0 (.ref it) (.ref s2.heap.objs.size) (compEnvC scope cl P2.objs.size X.env))
       (compPost (model X.prog X.w) X.A X.xe (some (assign (.Name x pos') X.env)) (fun _ s'=>∃ σ' H',Inv X pins σ' H' s'∧D0.nx σ' H') (.ref s2.heap.objs.size) P2.objs.size) s₃:=by
   rintro s₃ rfl;refine qaW (fun n s'=>∃ i σ' H',Inv (zb X scope N cl P2.objs.size s2 H2 fp (X.pn++pins)) [] σ' H' s'∧tn i s'.heap∧(∀ b∈fp,H' b=none)∧W i n σ' H') ?_ m0
     ⟨0,st0 js σ,_,IX,T.keep _ _ _ st2 (fun b hb o e=>old b o e),fun b hb=>by rw[qh (Nat.ne_of_lt (hfl b hb))];exact(f2 b hb).1,w0⟩
   rintro n s3 ⟨i,σ3,H3,I3,st3,fr3,w3⟩;rcases turn i n σ3 H3 w3 with ⟨stop,qn⟩|⟨go,N2,hN,step⟩
   · refine thn (T.done (zb X scope N cl P2.objs.size s2 H2 fp (X.pn++pins)) rfl rfl rfl hc i [] s3 σ3 H3 noE I3 (stat fr3) st3 stop) fun r s4 ⟨hr,I4⟩=>?_;subst hr;obtain⟨m4,hn4,_⟩:=id I4.loc;have u4:Un (frs X.stack) fp H2 H3 s2.heap s4.heap:=I4.base;have fC:H3 P2.objs.size=none:=I4.free
     have I6:Inv X pins σ H3 s4:=I2.call' (s':=s4) I4.os u4 I4.hok I4.bare fun b hb=>by
       obtain⟨g0,g1,g2,g3,g4,g5⟩:=f2 b hb;exact⟨g3,g1,g4,g5⟩
     have fpC:qeW X pins H3 P2.objs.size:=I2.fpOk hCle fC;have hn4':s4.heap.Ns P2.objs.size m4:=hn4;obtain⟨oC,esC,epC,gC,rC⟩:=id hn4';have I7:=I6.pinned (fp:=[P2.objs.size]) (fun b hb=>by rw[show b=P2.objs.size by simpa using hb];exact fpC) (fun b hb=>⟨oC,by rw[show b=P2.objs.size by simpa using hb];exact gC,fun v z=>by rw[rC.1]at z;cases z⟩);show wpAny _ X.A (assign (.Name x pos') X.env (.ref s2.heap.objs.size)) _ _ s4;refine wpAny_assign_Name (J3 I7 hN hi0 hx (v:=.ref s2.heap.objs.size) rfl (fun s5 I8=>?_) hf);have g5:=(I8.pin (P2.objs.size,oC) (List.mem_append_right _ (List.mem_append_right _ (zW (by simp) gC)))).1;refine⟨m4,hn4'.at' (fun o e=>by rw[gC]at e;cases e;exact g5),fun h' hsb=>⟨_,H3,?_,qn⟩⟩;exact I8.unpinned.turnL (t':=s5.toks) (ch:=[P2.objs.size]) (fun b o hb e=>hsb.extBut b o (fun z=>hb (by simp[z])) e) (fun b hb=>by rw[show b=P2.objs.size by simpa using hb];exact fpC)
   · refine thn (T.item (zb X scope N cl P2.objs.size s2 H2 fp (X.pn++pins)) rfl rfl rfl hc i [] s3 σ3 H3 noE I3 (stat fr3) st3 go) fun r s4 ⟨u,hr,h4⟩=>?_;subst hr;refine thn h4 fun _ s5 zz_=>?_;obtain⟨x,H5,I5,r5,y5,st5,fr5⟩:=zz_;have I5':=I5.pinned (stat fr5) (T.obj _ _ st5);refine thn (hg' _ s5 σ3 H5 x u _ I5' r5 (step x H5 y5)) fun _ s6 zz_=>?_;obtain⟨σ6,H6,I6,q6⟩:=zz_;refine thn (ht' _ s6 σ6 H6 _ I6 q6) fun ok s7 zz_=>?_;obtain⟨H7,I7,q7⟩:=zz_;have again:∀ {s8:Shared}{σ8:St}{H8:Hp},Inv (zb X scope N cl P2.objs.size s2 H2 fp (X.pn++pins)) ([]++qbB fp s5.heap) σ8 H8 s8->N2 σ8 H8 ->
         ∃ m,m < n∧∃ i σ' H',Inv (zb X scope N cl P2.objs.size s2 H2 fp (X.pn++pins)) [] σ' H' s8∧tn i s8.heap∧(∀ b∈fp,H' b=none)∧W i m σ' H':=fun {s8 σ8 H8} I8 n8=>by
       obtain⟨m',hm,w8⟩:=hN σ8 H8 n8;refine⟨m',hm,i+1,σ8,H8,I8.unpinned,T.keep _ _ _ st5 fun b hb o e=>(I8.pin (b,o) (List.mem_append_right _ (List.mem_append_right _ (zW hb e)))).1,fun b hb=>?_,w8⟩;obtain⟨o,e,d⟩:=T.obj _ _ st5 b hb;exact(I8.pin (b,o) (List.mem_append_right _ (List.mem_append_right _ (zW hb e)))).2.1
     cases ok with
     | false=>exact again I7 (by simpa using q7)
     | true =>
       have q7':te σ6 H7 fun y H5=>∃ ys,H5 s2.heap.objs.size=some (.lst ys)∧ys.length < sizeLine∧N2 σ6 (upd H5 s2.heap.objs.size (.lst (ys++[y]))):=by simpa using q7
       refine thn (he' _ s7 σ6 H7 _ I7 q7') fun xv s8 zz_=>?_;obtain⟨y,H8,I8,r8,ys,hy,hlen,n8⟩:=zz_;refine thn (Qq (X:=zb X scope N cl P2.objs.size s2 H2 fp (X.pn++pins)) _ s8 σ6 H8 (.ref s2.heap.objs.size) [y] (.ref s2.heap.objs.size) [xv] (fun _ H9=>N2 σ6 H9) I8 rfl (.cons r8 .nil) ⟨_,ys,y,rfl,rfl,hy,hlen,n8⟩) fun _ s9 ⟨_,H9,I9,_,n9⟩=>again I9 n9
 exact codeAny_compStart_list (loop _ rfl) (T.self _ 0 _ _ _ (T.keep _ _ _ st2 (fun b hb o e=>old b o e)) (loop _ rfl))
end
theorem qR {t u:TS}{D:qdA}{σ:St}{H:Hp} (Post:St->Hp->Prop) (h1:∀ N:St->Hp->Prop,(∀ σ' H',Post σ' H'->N σ' H')->t { D with nx:=N } σ H) (h2:∀ σ' H',Post σ' H'->u D σ' H'):qlJ t u D σ H:=h1 (u D) h2
inductive qhj (H:Hp) (p:Addr):Prop
 | mk (c x y:Int) (h1:0≤c) (h2:H p=some (.lst [.int c,.int x,.int y])):qhj H p
def PenAt (H:Hp) (p:Addr):Prop:=qhj H p
theorem PenAt.ne {H:Hp}{p q:Addr} (h:PenAt H p) (hq:H q=none):q≠p:=by
 obtain⟨c,x,y,_,e⟩:=h;exact(qi e hq).symm
theorem PenAt.same {H H':Hp}{p:Addr} (h:PenAt H p) (s:Same H H'):PenAt H' p:=by
 obtain⟨c,x,y,k,e⟩:=h;exact⟨c,x,y,k,s _ _ e⟩
theorem PenAt.upd {H:Hp}{p q:Addr} (h:PenAt H p) (n:q≠p) (o:HO):PenAt (L2.upd H q o) p:=by
 obtain⟨c,x,y,k,e⟩:=h;exact⟨c,x,y,k,by rw[qh n.symm];exact e⟩
inductive qlB {β:Type} (f:β->List V) (H:Hp) (ps:List β) (i:Nat) (z:V):Prop
 | mk (p:β) (t:Addr) (h1:ps[i]?=some p) (h2:z=.ref t) (h3:H t=some (.tup (f p))):qlB f H ps i z
inductive qlC {β:Type} (f:β->List V) (H:Hp) (zs:List V) (i:Nat) (p:β):Prop
 | mk (t:Addr) (h1:zs[i]?=some (.ref t)) (h2:H t=some (.tup (f p))):qlC f H zs i p
def TupL {β:Type} (f:β->List V) (H:Hp) (zs:List V) (ps:List β):Prop:=zs.length=ps.length∧∀ (i:Nat) z p,zs[i]?=some z->ps[i]?=some p->∃ t,z=.ref t∧H t=some (.tup (f p))
section
variable {β:Type}{f:β->List V}{H H':Hp}{zs:List V}{ps:List β}
theorem TupL.nil:TupL f H [] []:=⟨rfl,fun i z p e=>by simp at e⟩
theorem TupL.same (h:TupL f H zs ps) (s:Same H H'):TupL f H' zs ps:=⟨h.1,fun i z p e1 e2=>by
 obtain⟨t,e,q⟩:=h.2 i z p e1 e2
 exact⟨t,e,s _ _ q⟩⟩
theorem TupL.put {q:Addr}{xs ys:List V} (h:TupL f H zs ps) (hq:H q=some (.lst xs)):TupL f (upd H q (.lst ys)) zs ps:=⟨h.1,fun i z y e1 e2=>by
 obtain⟨t,e,r⟩:=h.2 i z y e1 e2
 exact⟨t,e,by rw[qh (qW r hq (by intro z;cases z))];exact r⟩⟩
theorem TupL.snoc {t:Addr}{p:β} (h:TupL f H zs ps) (q:H t=some (.tup (f p))):TupL f H (zs++[.ref t]) (ps++[p]):=⟨by rw[List.length_append,List.length_append,h.1];rfl,fun i z y e1 e2=>by
 rcases qbY e1 with e|⟨ei,e⟩
 · rcases qbY e2 with e'|⟨ei',_⟩
   · exact h.2 i z y e e'
   · have:=(List.getElem?_eq_some_iff.mp e).1
     rw[ei',← h.1]at this;exact absurd this (Nat.lt_irrefl _)
 · rcases qbY e2 with e'|⟨_,e'⟩
   · have:=(List.getElem?_eq_some_iff.mp e').1
     rw[ei,h.1]at this;exact absurd this (Nat.lt_irrefl _)
   · exact⟨t,e,e'▸q⟩⟩
theorem TupL.at_ (h:TupL f H zs ps) {i:Nat}{p:β} (e:ps[i]?=some p):qlC f H zs i p:=by
 have hi:i < zs.length:=by rw[h.1];exact(List.getElem?_eq_some_iff.mp e).1
 obtain⟨t,et,q⟩:=h.2 i _ p (List.getElem?_eq_getElem hi) e;exact⟨t,by rw[List.getElem?_eq_getElem hi,et],q⟩
theorem TupL.of (h:TupL f H zs ps) {i:Nat}{z:V} (e:zs[i]?=some z):qlB f H ps i z:=by
 have hi:i < ps.length:=by rw[← h.1];exact(List.getElem?_eq_some_iff.mp e).1
 obtain⟨t,et,q⟩:=h.2 i z _ e (List.getElem?_eq_getElem hi);exact⟨_,t,List.getElem?_eq_getElem hi,et,q⟩
end
end L2
namespace KC
open PySem L2 PySem.NumText PyProof.Rows
theorem qaX {xs:List V}{i:Int} (h0:0≤i) (h1:i < xs.length):∃ v,atI xs i=some v∧v∈xs:=by
 obtain⟨n,rfl⟩:=Int.eq_ofNat_of_zero_le h0;have hn:n < xs.length:=by omega
 exact⟨xs[n],zh (List.getElem?_eq_getElem hn),List.getElem_mem hn⟩
end KC
namespace L2
open PySem PySem.Spec PyProof.Rows
open PySem.W (Frag typeIn mroIn clsIn subIn isClsIn)
def tyS:Value->String
 | .type a=>a
 | _=>""
def qfs:List Value->Bool
 | []=>false
 | x::r=>match x with
   | .ref _=>qfs r
   | _=>(x::r).map tyS == ["ValueError","Exception","BaseException","object"]
inductive qjn (K:Frag) (C:Addr):Prop
 | mk (nm qn:Str) (N:Addr) (bs bm:List Value) (sn:List Str) (sub:List Value) (ab:Bool) (col:Option Bool) (dd:Option Addr) (k0 k1 k2 k3 k5:Option Value) (h1:K.lookup C=some (excClassObj nm qn C N bs bm true sn sub ab col dd k0 k1 k2 k3 k5 "ValueError.__new__")) (h2:qfs bm=true):qjn K C
def qml (K:Frag) (C:Addr):Prop:=qjn K C
noncomputable def xIn (K:Frag) (C:Addr):Bool:=@decide (qml K C) (Classical.propDecidable _)
theorem xIn_iff {K:Frag}{C:Addr}:xIn K C=true↔qml K C:=@decide_eq_true_iff (qml K C) (Classical.propDecidable _)
section
variable {M:Model}{A:Around}{E:Value->Shared->Prop}{h:Heap}{g:Array GenState}{d:Drawn}{t:Nat}{os:OsState}
variable {nm q:Str}{C N:Addr}{bs bm bmB:List Value}{sn:List Str}{sub:List Value}{ab:Bool}{col:Option Bool}{dd:Option Addr}{k0 k1 k2 k3 k5:Option Value}{B newId initId:String}
end
section
variable {prog:Program}{w:World}{A:Around}{R:Result->Shared->Prop}{E:Value->Shared->Prop}{h:Heap}{g:Array GenState}{d:Drawn}{t:Nat}{os:OsState}
variable {nm q:Str}{C N:Addr}{bs bm bmB:List Value}{sn:List Str}{sub:List Value}{ab:Bool}{col:Option Bool}{dd:Option Addr}{k0 k1 k2 k3 k5:Option Value}{B newId initId:String}
end
section
variable {X:Cx}{o e value:Expr}{es:List Expr}{f x:Str}{p apos pos pos' tpos:Pos}{ta tv:TE}{t:TA}{C fa:Addr}
structure qhl (K:Frag) (C f:Addr):Prop where
 sp:PySem.W.specialIn K (.ref C) "__getattribute__"=some (some (.builtin "type.__getattribute__"))
 rd:PySem.W.readsIn K C (.type "type")=true
 at_:PySem.W.findCls K (.ref C) (.type "type") "__init__"=some (.val (.ref f))
 kp:PySem.W.keepIn K (.ref f)=true
theorem ZR {k:Nat}{fd:FuncData}{ps:List Str}{sp:Sp}{pl:Sem Bool} (c:qhl X.K C fa) (F:qy X.prog X.w X.K X.mg X.base CX0 k fa fd ps sp) (hr:Room k X.A) (hb:Binds X.K fd ps []) (hg:Gl X x) (hm:X.mg x=some (.ref C))
   (ha:PA X (e::es) t) (hdb:(x == ("__debug__":Str))=false:=by decide)
   (hst:starEach (e::es) X.env=(false,eval e X.env)::starEach es X.env:=by rfl) (hpl:(backTo pos (starEach es X.env)).any (·.1)=false:=by rfl)
   (ht:eval (.Call (.Attribute (.Name x p) "__init__" apos) (e::es) [] pos) X.env=(do
     let ov ← eval (.Name x p) X.env
     standAt apos.atName
     let (f,first) ← holding [ov] (getMethod ov "__init__" pl)
     callWith pos f first (backTo pos (starEach (e::es) X.env)) (backToKw pos (keywordEach [] X.env))):=by rfl) :
   PE X (.Call (.Attribute (.Name x p) "__init__" apos) (e::es) [] pos) (qkG sp [] E0 t):=by
 intro pins s σ H Q I h;refine PySem.W.methodCall_KW (pl:=pl) (qaM I hg hm ?_ hdb) ht;refine PySem.W.method_cls I.kIn c.sp (PySem.W.cls_value I.kIn c.rd c.at_ rfl ?_);have I0:=I.tok (s.toks+1);refine PySem.W.callWith_K (h₀:=X.base) I.ok.mod.kin c.kp (thn (ha pos pins _ σ H _ I0 h) fun us s1 ⟨vs,H1,I1,r,q⟩=>⟨I1.kIn,?_⟩) hst hpl;exact qcY F hr hb .nil qk I1 r q
def qlF (K:Frag) (C:Addr):V->Option Bool
 | .ref D=>if (clsIn K D).isSome && typeIn K (.ref D) == some (.type "type") then subIn K (.ref C) (.ref D) else none
 | .ty T=>if T == "ValueError" then some true else none
 | _=>none
end
def qkg (v:Value):Bool:=match v with
 | .type s=>s == "type"
 | _=>false
def qkh (v:Option Value):Bool:=match v with
 | some (.builtin s)=>s == "ValueError.__new__"
 | _=>false
def ql1 (C:Addr) (l:List Value):Bool:=match l with
 | .ref C1::bm=>C1 == C && qfs bm
 | _=>false
def xOb (C:Addr) (o:Obj):Bool:=match o.data with
 | .cls cd=>qkg o.cls && ql1 C cd.mro && !cd.hasDel && cd.hasDict && o.slots.size == 6 && qkh (o.slots.getD 4 none)
 | _=>false
theorem qif {v:Value} (h:qkg v=true):v=.type "type":=by
 cases v with
 | type s=>rw[eq_of_beq (show (s == "type")=true from h)]
 | _=>cases h
theorem qig {v:Option Value} (h:qkh v=true):v=some (.builtin "ValueError.__new__"):=by
 cases v with
 | none=>cases h
 | some v =>
   cases v with
   | builtin s=>rw[eq_of_beq (show (s == "ValueError.__new__")=true from h)]
   | _=>cases h
theorem qj6 {C:Addr}{l:List Value} (h:ql1 C l=true):∃ bm,l=.ref C::bm∧qfs bm=true:=by
 cases l with
 | nil=>cases h
 | cons v bm =>
   cases v with
   | ref C1 =>
     have h':(C1 == C && qfs bm)=true:=h;rw[Bool.and_eq_true]at h';exact⟨bm,by rw[eq_of_beq h'.1],h'.2⟩
   | _=>cases h
theorem six {α:Type}{l:List α} (h:l.length=6):∃ a b c d e f,l=[a,b,c,d,e,f]:=by
 obtain⟨a,l,rfl⟩:=List.exists_cons_of_length_eq_add_one h;obtain⟨b,l,rfl⟩:=List.exists_cons_of_length_eq_add_one (Nat.succ.inj h);obtain⟨c,l,rfl⟩:=List.exists_cons_of_length_eq_add_one (Nat.succ.inj (Nat.succ.inj h));obtain⟨d,l,rfl⟩:=List.exists_cons_of_length_eq_add_one (Nat.succ.inj (Nat.succ.inj (Nat.succ.inj h)));obtain⟨e,l,rfl⟩:=List.exists_cons_of_length_eq_add_one (Nat.succ.inj (Nat.succ.inj (Nat.succ.inj (Nat.succ.inj h))));obtain⟨f,l,rfl⟩:=List.exists_cons_of_length_eq_add_one (Nat.succ.inj (Nat.succ.inj (Nat.succ.inj (Nat.succ.inj (Nat.succ.inj h)))))
 have:l=[]:=List.eq_nil_of_length_eq_zero (Nat.succ.inj (Nat.succ.inj (Nat.succ.inj (Nat.succ.inj (Nat.succ.inj (Nat.succ.inj h))))))
 subst this;exact⟨a,b,c,d,e,f,rfl⟩
theorem xIn_of {K:Frag}{C:Addr}{o:Obj} (h:K.lookup C=some o) (q:xOb C o=true):xIn K C=true:=by
 obtain⟨oc,dd,od,⟨sl⟩⟩:=o
 cases od with
 | cls cd =>
   have q':(qkg oc && ql1 C cd.mro && !cd.hasDel && cd.hasDict && sl.length == 6 && qkh ((Array.mk sl).getD 4 none))=true:=q;simp only[Bool.and_eq_true,beq_iff_eq,Bool.not_eq_true']at q';obtain⟨⟨⟨⟨⟨q0,q1⟩,q2⟩,q3⟩,q4⟩,q5⟩:=q';obtain⟨bm,hm,hx⟩:=qj6 q1;obtain⟨k0,k1,k2,k3,k4,k5,rfl⟩:=six q4;have e4:k4=some (.builtin "ValueError.__new__"):=qig q5;have e0:=qif q0;obtain⟨nm,bs,mro,ns,qn,hdc,sn,sub,ab,col,del⟩:=cd;dsimp only at hm q2 q3;subst hm q2 q3 e4 e0;exact xIn_iff.mpr ⟨nm,qn,ns,bs,bm,sn,sub,ab,col,dd,k0,k1,k2,k3,k5,h,hx⟩
 | _=>cases q
theorem xIsa_of {K:Frag}{C D:Addr}{b:Bool} (h1:isClsIn K D=true) (h2:typeIn K (.ref D)=some (.type "type")) (h3:subIn K (.ref C) (.ref D)=some b):qlF K C (.ref D)=some b:=by
 unfold qlF;have h1':(clsIn K D).isSome=true:=h1;simp only[h1',h2,Bool.true_and,beq_self_eq_true,if_true];exact h3
section
variable {prog:Program}{w:World}{A:Around}{E:Value->Shared->Prop}
theorem qeO {j u:Addr}{xs:Array Value} (ne:u≠j):∀ (n k:Nat) (s:Shared) (Q:List Value->Shared->Prop),s.heap.IsListIter j u k->s.heap.IsList u xs->k+n≤xs.size ->
   (∀ h',h'.IsListIter j u (k+n)->Heap.SameBut j s.heap h'->Q ((xs.toList.drop k).take n) { s with heap:=h' })->wpAny (model prog w) A (draw (.ref j) n) Q E s
 | 0,k,s,Q,a,_,_,q=>by
   show wpAny _ _ (pure []) Q E s;exact wpAny_pure (by simpa using q s.heap a (Heap.SameBut.refl ..))
 | n+1,k,s,Q,a,b,le,q=>by
   have lt:k < xs.size:=by omega
   show wpAny _ _ (pyNext (.ref j) >>= _) Q E s;refine wpAny_bind (wpAny_pyNext_list_item a b (x:=xs[k]) (by simp[lt]) fun g1 a1 n1=>wpAny_bind (wpAny_holding ?_));refine qeO ne n (k+1) _ _ a1 (b.extBut n1.extBut ne) (by omega) fun g2 a2 n2=>wpAny_pure ?_;have e:xs.toList.drop k=xs[k]::xs.toList.drop (k+1):=by simp[List.drop_eq_getElem_cons,lt]
   have z:=q g2 (by rw[show k+(n+1)=k+1+n by omega];exact a2) (n1.trans n2);rw[e,List.take_succ_cons]at z;exact z
theorem qeY {s:Shared}{u:Addr}{xs:Array Value}{Q:List Value->Shared->Prop} (hd:A.handled=none) (b:s.heap.IsList u xs)
   (q:∀ h',Heap.ExtBut s.heap.objs.size s.heap h'->Q xs.toList { s with heap:=h' }):wpAny (model prog w) A (unpackItems (.ref u) xs.size none) Q E s:=by
 have ne:u≠s.heap.objs.size:=by obtain⟨o,g,_⟩:=b;exact Nat.ne_of_lt (Heap.lt_size g)
 unfold unpackItems;refine wpAny_bind ?_
 · unfold notIterableAtAll;refine wpAny_bind (wpAny_specialOf b.typeIs slot_list_iter.lookup (wpAny_pure ?_));simp only[Bool.false_eq_true,if_false];refine wpAny_bind (wpAny_holding (wpAny_pyIter_list b (wpAny_bind (wpAny_holding ?_))));refine qeO ne xs.size 0 _ _ ⟨_,Heap.get?_push_size _ rfl,rfl,rfl⟩ (b.push _) (by omega) fun g1 a1 n1=>?_;rw[show List.take xs.size (List.drop 0 xs.toList)=xs.toList by rw[List.drop_zero];exact List.take_of_length_le (by simp),if_neg (by simp)];have b1:g1.IsList u xs:=(b.push _).extBut n1.extBut ne;refine wpAny_bind (wpAny_holding (wpAny_pyNext_list_end hd (by simpa using a1) b1 (by simp) fun g2 n2=>?_));simp only[Option.isSome_none,Bool.false_eq_true,if_false];exact wpAny_pure (q g2 fun c o hc e=>n2 c o hc (n1.extBut c o hc (Heap.get?_push_of_some _ e)))
end
inductive qje (K:Frag) (n:Nat) (t:TGs) (v:V) (σ:St) (H:Hp) (Q:(St->Hp->Prop)):Prop
 | mk (a xs:_) (h1:v=.ref a) (h2:SqL K H a xs) (h3:xs.length=n) (h4:t xs σ H Q):qje K n t v σ H Q
def qna (K:Frag) (n:Nat) (t:TGs):TG:=fun v σ H Q=>qje K n t v σ H Q
theorem qi2 {X:Cx}{pos:Pos}{es:List Expr}{k:Nat}{t:TGs}{n:Nat} (hc:X.calm=true) (h:PGs X es t)
   (hn:(assignEach es X.env).length=n:=by rfl) (hst:(assignEach es X.env).findIdx? (·.1)=none:=by rfl):PG X (.Tuple es k pos) (qna X.K n t):=by
 intro pins s σ H v u Q I r hw;obtain⟨a,xs,rfl,hq,hl,hw⟩:=hw;cases r;obtain⟨its,rv,pl,hz⟩:=I.list hq;have hsz:(assignEach es X.env).length=its.toArray.size:=by simp[hn,← hl,rv.length]
 rw[assign_Tuple];refine wpAny_bind (wpAny_standAt ?_);unfold unpack;rw[hsz,hst];refine wpAny_bind (wpAny_holding (qeY (I.ok.hd hc) pl.isList fun h' hx=>?_));have I1:Inv X pins σ H { s with heap:=h' }:=I.kept (t':=s.toks) fun b o e=>hx b o (Nat.ne_of_lt (Heap.lt_size e)) e;exact h pins _ σ H xs _ Q I1 (by simpa using rv) hw
theorem qeR (zs:List V) (n:Nat) (k:Int) (hk:k=(n:Int)):qcw zs none (some k)=zs.take n:=by
 subst hk;unfold qcw;rw[HT.sIx_none,HT.sIx_nat,Nat.sub_zero,List.drop_zero];by_cases h:n≤zs.length
 · rw[Nat.min_eq_left h]
 · rw[Nat.min_eq_right (by omega),List.take_of_length_le (Nat.le_refl _),List.take_of_length_le (by omega)]
def qmn (i j:Int):Prop:=0 < j∧j < 340282366920938463463374607431768211456
theorem qhP {X:Cx}:OpR X (binaryOp .FloorDiv) (rI qmn fun i j=>.int (i / j)):=opI fun i j _ _ _ _ _ hc q=>by
 have h1:(0:Int) < j:=hc.1;have h2:j < 340282366920938463463374607431768211456:=hc.2;have h3:j.natAbs < 2 ^ 128:=by omega
 have h4:j.natAbs.log2 < 128:=(Nat.log2_lt (by omega)).mpr h3;exact floordiv_int (by omega) (by rw[Int.fdiv_eq_ediv_of_nonneg i (by omega)];exact q) (.inl (PyProof.noPylong_of_log2 (by omega)))
def qlW:Value->Option Addr
 | .ref a=>some a
 | _=>none
theorem qf1 (D:Addr):∀ l:List Value,l.contains (.ref D)=(l.map qlW).contains (some D)
 | []=>rfl
 | v::l=>by
   rw[List.map_cons,List.contains_cons,List.contains_cons,qf1 D l];congr 1
   cases v with
   | ref c =>
     show (Value.ref D == Value.ref c)=(some D == some c);by_cases e:D=c
     · subst e;simp
     · rw[beq_eq_false_iff_ne.mpr (fun z=>e (Value.ref.inj z)),beq_eq_false_iff_ne.mpr (fun z=>e (Option.some.inj z))]
   | _=>rfl
def XMro (K:Frag) (C:Addr) (l:List (Option Addr)):Prop:=∃ cd,clsIn K C=some cd∧cd.mro.map qlW=l
def qlb (l:List (Option Addr)) (o:Obj):Bool:=match o.data with
 | .cls cd=>cd.mro.map qlW == l
 | _=>false
theorem XMro.of {K:Frag}{C:Addr}{o:Obj}{l:List (Option Addr)} (h:K.lookup C=some o) (q:qlb l o=true):XMro K C l:=by
 obtain⟨oc,od,odt,osl⟩:=o;unfold qlb at q
 cases odt with
 | cls cd =>
   refine⟨cd,?_,eq_of_beq q⟩;unfold clsIn;rw[h]
 | _=>cases q
def qhk (K:Frag) (D:Addr):Prop:=isClsIn K D=true∧typeIn K (.ref D)=some (.type "type")
theorem qhp {K:Frag}{C D:Addr}{l:List (Option Addr)} (m:XMro K C l) (hl:l≠[]) (d:qhk K D):qlF K C (.ref D)=some (l.contains (some D)):=by
 obtain⟨cd,h1,h2⟩:=m;refine xIsa_of d.1 d.2 ?_;show mroIn K C (.ref D)=_;unfold mroIn;rw[h1,Option.bind_some,if_neg,qf1,h2];intro z;rw[List.isEmpty_iff]at z;rw[z]at h2;exact hl h2.symm
end L2
namespace Srt
open PySem PySem.W PyProof.Rows
def RunP {α:Type} (lt:Nat->Nat->Bool) (n:Nat):KasT α->(α->Prop)->Prop
 | .ret a,P=>P a
 | .ask i j k,P=>i < n∧j < n∧RunP lt n (k (lt i j)) P
section
variable {lt:Nat->Nat->Bool}{n:Nat}
theorem RunP.bind {α β:Type}{f:α->KasT β}{P:β->Prop}:∀ {t:KasT α},RunP lt n t (fun a=>RunP lt n (f a) P)->RunP lt n (t.bind f) P
 | .ret _,h=>h
 | .ask i j k,h=>⟨h.1,h.2.1,RunP.bind (t:=k (lt i j)) h.2.2⟩
theorem RunP.mono {α:Type}{P P':α->Prop} (hp:∀ a,P a->P' a):∀ {t:KasT α},RunP lt n t P->RunP lt n t P'
 | .ret _,h=>hp _ h
 | .ask i j k,h=>⟨h.1,h.2.1,RunP.mono hp (t:=k (lt i j)) h.2.2⟩
theorem RunP.wp {α:Type}{cmp:Nat->Nat->(Bool->Shared->Prop)->Shared->Prop}{Q:α->Shared->Prop}{P:α->Prop}{s:Shared} (hc:∀ i j (C:Bool->Shared->Prop),i < n->j < n->C (lt i j) s->cmp i j C s) (hq:∀ a,P a->Q a s):∀ {t:KasT α},RunP lt n t P->t.kasWp cmp Q s
 | .ret _,h=>hq _ h
 | .ask i j k,h=>hc i j _ h.1 h.2.1 (RunP.wp hc hq (t:=k (lt i j)) h.2.2)
theorem RunP.ite {α:Type}{c:Prop} [Decidable c] {t u:KasT α}{P:α->Prop} (h1:c->RunP lt n t P) (h2:¬ c->RunP lt n u P):RunP lt n (if c then t else u) P:=by
 by_cases h:c
 · rw[if_pos h];exact h1 h
 · rw[if_neg h];exact h2 h
def Bd (n:Nat) (p:Array Nat):Prop:=∀ x,p.getD x 0 < n
theorem qaT {p q:Array Nat}{x y:Nat} (h:p[x]?=q[y]?):p.getD x 0=q.getD y 0:=by
 simp only[Array.getD_eq_getD_getElem?,h]
theorem qbA {p:Array Nat}{i j:Nat} (hj:j≤p.size) (x:Nat):(kas_rev p i j).getD x 0=if i≤x∧x < j then p.getD (i+j - 1 - x) 0 else p.getD x 0:=by
 have h:=getElem?_mirror_all (xs:=p) (i:=i) hj x;by_cases c:i≤x∧x < j
 · rw[if_pos c]at h ⊢;exact qaT h
 · rw[if_neg c]at h ⊢;exact qaT h
theorem Bd.rev {p:Array Nat}{i j:Nat} (h:Bd n p) (hj:j≤p.size):Bd n (kas_rev p i j):=fun x=>by
 rw[qbA hj];split<;>exact h _
theorem qha {p:Array Nat}{k d:Nat} (hk:k < p.size) (hd:d≤k) (x:Nat):(bubble p k d).getD x 0=if x=k - d then p.getD k 0 else if k - d < x∧x≤k then p.getD (x - 1) 0 else p.getD x 0:=by
 have h:=getElem?_bubble (xs:=p) hk d hd x;by_cases c:x=k - d
 · rw[if_pos c]at h ⊢;exact qaT h
 · rw[if_neg c]at h ⊢;by_cases c2:k - d < x∧x≤k
   · rw[if_pos c2]at h ⊢;exact qaT h
   · rw[if_neg c2]at h ⊢;exact qaT h
theorem Bd.bub {p:Array Nat}{k d:Nat} (h:Bd n p) (hk:k < p.size) (hd:d≤k):Bd n (bubble p k d):=fun x=>by
 rw[qha hk hd];by_cases c:x=k - d
 · rw[if_pos c];exact h _
 · rw[if_neg c];by_cases c2:k - d < x∧x≤k
   · rw[if_pos c2];exact h _
   · rw[if_neg c2];exact h _
structure Ord (lt:Nat->Nat->Bool):Prop where
 tr:∀ a b c,lt b a=false->lt c b=false->lt c a=false
 asy:∀ a b,lt a b=true->lt b a=false
theorem Ord.irr (O:Ord lt) (a:Nat):lt a a=false:=by
 cases h:lt a a with
 | false=>rfl
 | true=>rw[← h];exact O.asy _ _ h
def Up (lt:Nat->Nat->Bool) (p:Array Nat) (k:Nat):Prop:=∀ x,x+1 < k->lt (p.getD (x+1) 0) (p.getD x 0)=false
def Dn (lt:Nat->Nat->Bool) (p:Array Nat) (k:Nat):Prop:=∀ x,x+1 < k->lt (p.getD x 0) (p.getD (x+1) 0)=false
def Eqv (lt:Nat->Nat->Bool) (a b:Nat):Prop:=lt a b=false∧lt b a=false
theorem Eqv.not (O:Ord lt) {a a' b b':Nat} (h1:Eqv lt a a') (h2:Eqv lt b b') (h:lt a b=false):lt a' b'=false:=O.tr _ _ _ (O.tr _ _ _ h2.1 h) h1.2
theorem Up.le (O:Ord lt) {p:Array Nat}{k:Nat} (h:Up lt p k) {x:Nat}:∀ d,x+d < k->lt (p.getD (x+d) 0) (p.getD x 0)=false
 | 0,_=>O.irr _
 | d+1,hd=>O.tr _ _ _ (Up.le O h d (by omega)) (h (x+d) (by omega))
theorem qhg (p:Array Nat) (hb:Bd n p):∀ (f m:Nat),1≤m->Up lt p m->RunP lt n (kas_asc p f m) fun r=>m≤r∧r≤m+f∧Up lt p r∧(r < m+f->lt (p.getD r 0) (p.getD (r - 1) 0)=true)
 | 0,m,_,hu=>⟨Nat.le_refl _,Nat.le_refl _,hu,fun h=>absurd h (by omega)⟩
 | f+1,m,h1,hu=>by
   refine⟨hb _,hb _,RunP.ite (fun c=>?_) (fun c=>?_)⟩
   · exact⟨Nat.le_refl _,by omega,hu,fun _=>c⟩
   · have c:lt (p.getD m 0) (p.getD (m - 1) 0)=false:=by simpa using c
     refine RunP.mono (fun r h=>?_) (qhg p hb f (m+1) (by omega) (fun x hx=>?_))
     · exact⟨by omega,by omega,h.2.2.1,fun z=>h.2.2.2 (by omega)⟩
     · by_cases e:x+1=m
       · have e1:x=m - 1:=by omega
         rw[e1,show m - 1+1=m by omega];exact c
       · exact hu x (by omega)
def Blk (lt:Nat->Nat->Bool) (p:Array Nat) (m q:Nat):Prop:=q+1≤m∧∀ x,m - (q+1)≤x->x < m->Eqv lt (p.getD x 0) (p.getD (m - 1) 0)
theorem Blk.rev (O:Ord lt) {p:Array Nat}{m q:Nat} (hm:m≤p.size) (h:Blk lt p m q) (x:Nat) (hx:x < m):Eqv lt (p.getD x 0) ((kas_rev p (m - (q+1)) m).getD x 0):=by
 rw[qbA hm];by_cases c:m - (q+1)≤x∧x < m
 · rw[if_pos c];have h1:=h.2 x c.1 c.2;have hq:=h.1;have h2:=h.2 (m - (q+1)+m - 1 - x) (by omega) (by omega);exact⟨O.tr _ _ _ h2.2 h1.1,O.tr _ _ _ h1.2 h2.1⟩
 · rw[if_neg c];exact⟨O.irr _,O.irr _⟩
theorem Dn.eqv (O:Ord lt) {p p':Array Nat}{m:Nat} (h:Dn lt p m) (e:∀ x,x < m->Eqv lt (p.getD x 0) (p'.getD x 0)):Dn lt p' m:=fun x hx=>(e x (by omega)).not O (e (x+1) hx) (h x hx)
theorem qcv (O:Ord lt):∀ (f:Nat) (p:Array Nat) (m q:Nat),Bd n p->1≤m->m+f≤p.size->Dn lt p m->Blk lt p m q->RunP lt n (kas_desc f p m q) fun r =>
   Bd n r.1∧r.1.Perm p∧r.1.size=p.size∧m≤r.2.1∧r.2.1≤m+f∧Dn lt r.1 r.2.1∧Blk lt r.1 r.2.1 r.2.2
 | 0,p,m,q,hb,h1,hs,hd,bl=>⟨hb,Array.Perm.refl _,rfl,Nat.le_refl _,Nat.le_refl _,hd,bl⟩
 | f+1,p,m,q,hb,h1,hs,hd,bl=>by
   have one:∀ p':Array Nat,p'.getD m 0=p'.getD (m+1 - 1) 0:=fun p'=>rfl;refine⟨hb _,hb _,RunP.ite (fun c=>RunP.ite (fun hq=>?_) (fun hq=>?_)) (fun c=>⟨hb _,hb _,RunP.ite (fun d=>?_) (fun d=>?_)⟩)⟩
   · have hm:m≤p.size:=by omega
     have ev:=bl.rev O hm;have sz:(kas_rev p (m - (q+1)) m).size=p.size:=kas_rev_size _ _;have out:(kas_rev p (m - (q+1)) m).getD m 0=p.getD m 0:=by rw[qbA hm,if_neg (by omega)]
     refine RunP.mono (fun r h=>?_) (qcv O f (kas_rev p (m - (q+1)) m) (m+1) 0 (hb.rev hm) (by omega) (by omega) (fun x hx=>?_) ⟨by omega,fun x h0 h2=>?_⟩)
     · exact⟨h.1,h.2.1.trans (mirror_perm _ _ _ _),by rw[h.2.2.1,sz],by omega,by omega,h.2.2.2.2.2.1,h.2.2.2.2.2.2⟩
     · by_cases e:x+1=m
       · have e1:x=m - 1:=by omega
         subst e1;rw[show m - 1+1=m by omega,out];exact(ev (m - 1) (by omega)).not O ⟨O.irr _,O.irr _⟩ (O.asy _ _ c)
       · exact hd.eqv O ev x (by omega)
     · have e:x=m:=by omega
       subst e;exact⟨O.irr _,O.irr _⟩
   · refine RunP.mono (fun r h=>?_) (qcv O f p (m+1) 0 hb (by omega) (by omega) (fun x hx=>?_) ⟨by omega,fun x h0 h2=>?_⟩)
     · exact⟨h.1,h.2.1,h.2.2.1,by omega,by omega,h.2.2.2.2.2.1,h.2.2.2.2.2.2⟩
     · by_cases e:x+1=m
       · have e1:x=m - 1:=by omega
         subst e1;rw[show m - 1+1=m by omega];exact O.asy _ _ c
       · exact hd x (by omega)
     · have e:x=m:=by omega
       subst e;exact⟨O.irr _,O.irr _⟩
   · exact⟨hb,Array.Perm.refl _,rfl,Nat.le_refl _,(by show m≤m+(f+1);omega),hd,bl⟩
   · have c:lt (p.getD m 0) (p.getD (m - 1) 0)=false:=by simpa using c
     have d:lt (p.getD (m - 1) 0) (p.getD m 0)=false:=by simpa using d
     refine RunP.mono (fun r h=>?_) (qcv O f p (m+1) (q+1) hb (by omega) (by omega) (fun x hx=>?_) ⟨by have:=bl.1;omega,fun x h0 h2=>?_⟩)
     · exact⟨h.1,h.2.1,h.2.2.1,by omega,by omega,h.2.2.2.2.2.1,h.2.2.2.2.2.2⟩
     · by_cases e:x+1=m
       · have e1:x=m - 1:=by omega
         subst e1;rw[show m - 1+1=m by omega];exact d
       · exact hd x (by omega)
     · show Eqv lt (p.getD x 0) (p.getD m 0);by_cases e:x=m
       · rw[e];exact⟨O.irr _,O.irr _⟩
       · have:=bl.2 x (by omega) (by omega)
         exact⟨O.tr _ _ _ d this.1,O.tr _ _ _ this.2 c⟩
theorem Dn.rev {p:Array Nat}{m:Nat} (h:Dn lt p m) (hm:m≤p.size):Up lt (kas_rev p 0 m) m:=fun x hx=>by
 rw[qbA hm,qbA hm,if_pos ⟨Nat.zero_le _,by omega⟩,if_pos ⟨Nat.zero_le _,by omega⟩]
 have:=h (m - 2 - x) (by omega)
 rw[show m - 2 - x+1=0+m - 1 - x by omega]at this;rw[show 0+m - 1 - (x+1)=m - 2 - x by omega];exact this
def Cnt (lt:Nat->Nat->Bool) (n N:Nat) (p:Array Nat) (r:Nat×Array Nat):Prop:=Bd n r.2∧r.2.Perm p∧r.2.size=p.size∧1≤r.1∧r.1≤N∧Up lt r.2 r.1
theorem qd7 {N m:Nat}{p:Array Nat} (hb:Bd n p) (h1:1≤m) (hm:m≤N) (hs:N≤p.size) (hd:Dn lt p m):RunP lt n (kas_tail3 m N p) (Cnt lt n N p):=by
 unfold kas_tail3;refine RunP.bind (RunP.mono (fun r h=>?_) (qhg (kas_rev p 0 m) (hb.rev (by omega)) (N - m) m h1 (hd.rev (by omega))));exact⟨hb.rev (by omega),mirror_perm _ _ _ _,kas_rev_size _ _,by omega,by omega,h.2.2.1⟩
theorem qaU (O:Ord lt) {N m:Nat}{p:Array Nat} (hb:Bd n p) (h1:1≤m) (hm:m < N) (hs:N≤p.size) (hd:Dn lt p (m+1)):RunP lt n (kas_descPart m N p) (Cnt lt n N p):=by
 unfold kas_descPart
 refine RunP.bind (RunP.mono (fun r h=>?_) (qcv O (N - (m+1)) p (m+1) 0 hb (by omega) (by omega) hd ⟨by omega,fun x h0 h2=>by
   have e:x=m:=by omega
   subst e
   exact⟨O.irr _,O.irr _⟩⟩))
 obtain⟨g1,g2,g3,g4,g5,g6,g7⟩:=h;refine RunP.ite (fun hq=>?_) (fun hq=>?_)
 · have hm2:r.2.1≤r.1.size:=by omega
   refine RunP.mono (fun z hz=>?_) (qd7 (g1.rev hm2) (by omega) (by omega) (by rw[kas_rev_size];omega) (g6.eqv O (g7.rev O hm2)));exact⟨hz.1,(hz.2.1.trans (mirror_perm _ _ _ _)).trans g2,by rw[hz.2.2.1,kas_rev_size,g3],hz.2.2.2⟩
 · refine RunP.mono (fun z hz=>?_) (qd7 g1 (by omega) (by omega) (by omega) g6);exact⟨hz.1,hz.2.1.trans g2,by rw[hz.2.2.1,g3],hz.2.2.2⟩
theorem qir (O:Ord lt) {N:Nat}{p:Array Nat} (hb:Bd n p) (h2:1≤N) (hs:N≤p.size):RunP lt n (kas_count N p) (Cnt lt n N p):=by
 unfold kas_count;refine RunP.bind (RunP.mono (fun m h=>?_) (qhg p hb (N - 1) 1 (Nat.le_refl _) (fun x hx=>by omega)));obtain⟨m1,mN,up,stop⟩:=h;refine RunP.ite (fun c=>?_) (fun c=>?_)
 · exact⟨hb,Array.Perm.refl _,rfl,m1,by omega,up⟩
 · have c:m≠N:=by simpa using c
   have st:=stop (by omega);refine RunP.ite (fun g=>⟨hb _,hb _,RunP.ite (fun e=>?_) (fun e=>?_)⟩) (fun g=>?_)
   · exact⟨hb,Array.Perm.refl _,rfl,m1,by omega,up⟩
   · have e:lt (p.getD 0 0) (p.getD (m - 1) 0)=false:=by simpa using e
     -- all of the first m are alike
     have alike:∀ x,x < m->Eqv lt (p.getD x 0) (p.getD (m - 1) 0):=fun x hx=>by
       have a1:=up.le O (x:=x) (m - 1 - x) (by omega);rw[show x+(m - 1 - x)=m - 1 by omega]at a1;have a2:=up.le O (x:=0) x (by omega);rw[Nat.zero_add]at a2;exact⟨O.tr _ _ _ e a2,a1⟩
     have hmp:m≤p.size:=by omega
     have blk:Blk lt p m (m - 1):=⟨by omega,fun x _ hx=>alike x hx⟩
     have ev:=blk.rev O hmp;rw[show m - (m - 1+1)=0 by omega]at ev;have dn0:Dn lt p m:=fun x hx=>O.tr _ _ _ (alike (x+1) hx).2 (alike x (by omega)).1
     have dn:Dn lt (kas_rev p 0 m) (m+1):=fun x hx=>by
       by_cases e1:x+1=m
       · have e2:x=m - 1:=by omega
         subst e2;have out:(kas_rev p 0 m).getD (m - 1+1) 0=p.getD m 0:=by rw[qbA hmp,if_neg (by omega),show m - 1+1=m by omega]
         rw[out];exact(ev (m - 1) (by omega)).not O ⟨O.irr _,O.irr _⟩ (O.asy _ _ st)
       · exact dn0.eqv O ev x (by omega)
     refine RunP.mono (fun z hz=>?_) (qaU O (hb.rev hmp) m1 (by omega) (by rw[kas_rev_size];exact hs) dn);exact⟨hz.1,hz.2.1.trans (mirror_perm _ _ _ _),by rw[hz.2.2.1,kas_rev_size],hz.2.2.2⟩
   · have e1:m=1:=by omega
     subst e1
     exact qaU O hb (Nat.le_refl _) (by omega) hs (fun x hx=>by
       have:x=0:=by omega
       subst this
       exact O.asy _ _ st)
theorem qb9 (O:Ord lt) {p:Array Nat}{k:Nat} (hb:Bd n p) (up:Up lt p k):∀ (f l r:Nat),l≤r->r≤k->r - l≤f->(∀ x,x < l->lt (p.getD k 0) (p.getD x 0)=false)->(∀ x,r≤x->x < k->lt (p.getD k 0) (p.getD x 0)=true) ->
   RunP lt n (kas_place p k f l r) fun m=>m≤k∧(∀ x,x < m->lt (p.getD k 0) (p.getD x 0)=false)∧∀ x,m≤x->x < k->lt (p.getD k 0) (p.getD x 0)=true
 | 0,l,r,h1,h2,h3,a,b=>⟨by omega,a,fun x hx=>b x (by omega)⟩
 | f+1,l,r,h1,h2,h3,a,b=>by
   refine RunP.ite (fun c=>?_) (fun c=>⟨hb _,hb _,RunP.ite (fun d=>?_) (fun d=>?_)⟩)
   · exact⟨by omega,a,fun x hx=>b x (by omega)⟩
   · refine qb9 O hb up f l ((l+r) / 2) (by omega) (by omega) (by omega) a fun x hx hk=>?_
     cases hz:lt (p.getD k 0) (p.getD x 0) with
     | true=>rfl
     | false =>
       have q:=up.le O (x:=(l+r) / 2) (x - (l+r) / 2) (by omega);rw[show (l+r) / 2+(x - (l+r) / 2)=x by omega]at q
       have:=O.tr _ _ _ q hz
       rw[d]at this;cases this
   · have d:lt (p.getD k 0) (p.getD ((l+r) / 2) 0)=false:=by simpa using d
     refine qb9 O hb up f ((l+r) / 2+1) r (by omega) h2 (by omega) (fun x hx=>?_) b;have q:=up.le O (x:=x) ((l+r) / 2 - x) (by omega);rw[show x+((l+r) / 2 - x)=(l+r) / 2 by omega]at q;exact O.tr _ _ _ q d
theorem qjk (O:Ord lt):∀ (f:Nat) (p:Array Nat) (k:Nat),Bd n p->k+f≤p.size->Up lt p k->RunP lt n (kas_bin f p k) fun r=>r.Perm p∧Up lt r (k+f)
 | 0,p,k,hb,hs,up=>⟨Array.Perm.refl _,up⟩
 | f+1,p,k,hb,hs,up=>by
   refine RunP.bind (RunP.mono (fun l h=>?_) (qb9 O hb up k 0 k (Nat.zero_le _) (Nat.le_refl _) (by omega) (fun x hx=>absurd hx (by omega)) (fun x h1 h2=>absurd h1 (by omega))));obtain⟨lk,lo,hi⟩:=h;have hk:k < p.size:=by omega
   refine RunP.mono (fun r h=>⟨h.1.trans (bubble_perm _ _ _),by rw[show k+(f+1)=k+1+f by omega];exact h.2⟩) (qjk O f (bubble p k (k - l)) (k+1) (hb.bub hk (by omega)) (by rw[bubble_size];omega) (fun x hx=>?_));have e:k - (k - l)=l:=by omega
   rw[qha hk (by omega),qha hk (by omega),e];by_cases c1:x+1=l
   · rw[if_pos c1,if_neg (by omega),if_neg (by omega)];exact lo x (by omega)
   · rw[if_neg c1];by_cases c2:x=l
     · rw[if_pos c2,if_pos ⟨by omega,by omega⟩,show x+1 - 1=x by omega];exact O.asy _ _ (hi x (by omega) (by omega))
     · rw[if_neg c2];by_cases c3:l < x
       · rw[if_pos ⟨by omega,by omega⟩,if_pos ⟨c3,by omega⟩]
         have:=up (x - 1) (by omega)
         rw[show x - 1+1=x by omega]at this;rw[show x+1 - 1=x by omega];exact this
       · rw[if_neg (by omega),if_neg (by omega)];exact up x (by omega)
theorem sort_ok (O:Ord lt) (h:1≤n):RunP lt n (kas_sort n) fun r=>r.Perm (List.toArray (List.range n))∧Up lt r n:=by
 have hb:Bd n (List.toArray (List.range n)):=fun x=>by
   simp only[Array.getD_eq_getD_getElem?,List.getElem?_toArray];by_cases hx:x < n
   · rw[List.getElem?_range hx];exact hx
   · rw[List.getElem?_eq_none (by simp;omega)];exact h
 have sz:(List.toArray (List.range n)).size=n:=by simp
 unfold kas_sort;refine RunP.bind (RunP.mono (fun r hr=>?_) (qir O hb h (by omega)));obtain⟨g1,g2,g3,g4,g5,g6⟩:=hr;refine RunP.ite (fun c=>?_) (fun c=>?_)
 · have e:max r.1 1=r.1:=by omega
   rw[e];refine RunP.mono (fun z hz=>⟨hz.1.trans g2,?_⟩) (qjk O (n - r.1) r.2 r.1 g1 (by omega) g6)
   have:=hz.2
   rw[show r.1+(n - r.1)=n by omega]at this;exact this
 · have e:r.1=n:=by omega
   rw[e]at g6;exact⟨g2,g6⟩
end
end Srt
namespace L2
open PySem PySem.Spec PyProof.Rows
open PySem.W (Frag kitOne)
theorem ObjOk.lies {P:Program}{w:World}{H:Hp}{h:Heap}{a:Addr}{o:HO} (x:ObjOk P w H h a o):∃ ob,h.get? a=some ob:=by
 cases o with
 | lst xs=>obtain⟨_,_,_,_,e⟩:=x;exact⟨_,e⟩
 | tup xs=>obtain⟨_,_,_,o,e,_⟩:=x;exact⟨_,e⟩
 | dK kvs=>obtain⟨_,_,_,_,o,_,_,e,_⟩:=x;exact⟨_,e⟩
 | dT kvs=>obtain⟨_,_,_,_,o,_,_,e,_⟩:=x;exact⟨_,e⟩
 | set S n=>obtain⟨o,_,_,_,e,_⟩:=x;exact⟨_,e⟩
 | ins C dx fs=>obtain⟨_,_,_,e,_⟩:=x;exact⟨_,e⟩
 | own y=>obtain⟨_,e⟩:=x;exact⟨_,e⟩
 | xd fs=>obtain⟨_,⟨_,_,_,e,_⟩,_⟩:=x;exact⟨_,e⟩
 | rng lo hi=>obtain⟨_,_,_,e⟩:=x;exact⟨_,e⟩
 | frz ob u=>obtain⟨e,_⟩:=x;exact⟨_,e⟩
 | tbl ps=>exact⟨_,(show h.get? a=some _ from x)⟩
 | met f y=>exact⟨_,(show h.get? a=some _ from x)⟩
 | ext φ=>obtain⟨_,⟨_,e⟩,_⟩:=x;exact⟨_,e⟩
section
variable {X:Cx}{pins:List (Addr×Obj)}{σ:List (Option V)}{H:Hp}{s:Shared}{h':Heap}
theorem Inv.unlaid {a:Addr} (I:Inv X pins σ H s) (e:s.heap.get? a=none):H a=none:=by
 cases q:H a with
 | none=>rfl
 | some o =>
   obtain⟨ob,z⟩:=(I.hok a o q).lies;rw[e]at z;cases z
theorem Inv.laidL {a:Addr}{o:HO}{t':Nat} (I:Inv X pins σ H s) (k:∀ b u,b≠X.env.locals->s.heap.get? b=some u->h'.get? b=some u) (ns:∀ m,s.heap.Ns X.env.locals m->h'.Ns X.env.locals m)
   (hp:s.heap.get? a=none) (new:ObjOk X.prog X.w (upd H a o) h' a o):Inv X pins σ (upd H a o) { s with heap:=h',toks:=t' }:=by
 have hn:H a=none:=I.unlaid hp;have nL:∀ b u,H b=some u->b≠X.env.locals:=fun b u e z=>by rw[z,I.free]at e;cases e
 have na:∀ b u,s.heap.get? b=some u->b≠a:=fun b u q z=>by rw[z,hp]at q;cases q
 refine I.step (g':=s.gens) (d':=s.drawn) (ch:=[]) (fun _ z=>nomatch z) (fun b o hb _ _ e _=>k b o hb e) (fun b o hb _ _ e _=>⟨o.slots,k b o hb e⟩) (fun b o _ e n=>by rw[qh (na b o e)];exact n) (fun b o _ e=>?_)
   (fun b xs q=>by rw[qh (qi q hn)];exact q) (fun b u xs q=>by rw[qh (qi q hn)];exact q) (fun b ps q=>⟨#[],by rw[qh (qi q hn),q];simp⟩) ns (fun b u e=>?_) I.bare
 · by_cases z:b=X.env.locals
   · obtain⟨m,hm,_⟩:=I.loc;obtain⟨o',_,_,ho',_⟩:=ns m hm;exact⟨o',by rw[z];exact ho'⟩
   · exact⟨o,k b o z e⟩
 · by_cases z:b=a
   · subst z;rw[qd]at e;cases e;exact new
   · rw[qh z]at e;refine(I.hok b u e).stay (fun c v hc q=>k c v ?_ q) (fun c q=>by rw[qh (qi q hn)];exact q) fun c xs q=>by rw[qh (qi q hn)];exact q
     rcases hc with z|z
     · rw[z];exact nL b u e
     · exact nL c _ z
end
def qdy (base h:Heap) (L:Addr):List (Addr×Obj):=(List.range h.objs.size).filterMap fun a=>if a=L then none else if (base.get? a).isSome then none else (h.get? a).map fun o=>(a,o)
theorem qbS (base h:Heap) (L:Addr):News base L h (qdy base h L):=by
 intro p hp;unfold qdy at hp;obtain⟨a,_,e⟩:=List.mem_filterMap.mp hp;by_cases c1:a=L
 · rw[if_pos c1]at e;cases e
 · rw[if_neg c1]at e;by_cases c2:(base.get? a).isSome=true
   · rw[if_pos c2]at e;cases e
   · rw[if_neg c2]at e
     cases q:h.get? a with
     | none=>rw[q]at e;cases e
     | some o =>
       rw[q]at e;cases e;refine⟨q,c1,?_⟩
       cases z:base.get? a with
       | none=>rfl
       | some _=>rw[z]at c2;exact absurd rfl c2
theorem Jh {base h:Heap}{L b:Addr}{o:Obj} (e:h.get? b=some o) (ne:b≠L) (n:base.get? b=none):(b,o)∈qdy base h L:=by
 unfold qdy;refine List.mem_filterMap.mpr ⟨b,List.mem_range.mpr (Heap.lt_size e),?_⟩;rw[if_neg ne,n,e];rfl
theorem qi4 {h:Heap}{a:Addr}{m m':Str->Option Value} (x:h.Ns a m) (y:h.Ns a m'):m=m':=by
 obtain⟨o,es,ep,ho,hd,_,f⟩:=x;obtain⟨o',es',ep',ho',hd',_,f'⟩:=y;rw[ho]at ho';cases ho';rw[hd]at hd';cases hd';exact funext fun n=>(f n).symm.trans (f' n)
section
variable {X:Cx}{pins:List (Addr×Obj)}{σ:List (Option V)}{H:Hp}{s:Shared}{h':Heap}
theorem Inv.laidN {D:Addr}{m:Str->Option Value}{vs:List Value}{c:Nat}{ys:List V} (I:Inv X pins σ H s) (F:Fr X.base X.env.locals s.heap m) (F':Fr X.base X.env.locals h' m)
   (N':News X.base X.env.locals h' ((D,PySem.W.listOf vs.toArray c)::qdy X.base s.heap X.env.locals)) (hD:∀ q∈qdy X.base s.heap X.env.locals,q.1 < D) (r:Vals ys vs) (hz:ys.length≤sizeLine) :
   H D=none∧Inv X pins σ (upd H D (.lst ys)) { s with heap:=h' }:=by
 obtain⟨e1,e2,e3⟩:=N' _ (.head _)
 have free:s.heap.get? D=none:=by
   cases q:s.heap.get? D with
   | none=>rfl
   | some o=>exact absurd (hD _ (Jh q e2 e3)) (Nat.lt_irrefl _)
 have kp:∀ b u,b≠X.env.locals->s.heap.get? b=some u->h'.get? b=some u:=fun b u ne q=>by
   cases z:X.base.get? b with
   | some o =>
     have:=I.bk b o z
     rw[q]at this;cases this;exact F'.keep b _ z
   | none=>exact(N' _ (List.mem_cons_of_mem _ (Jh q ne z))).1
 refine⟨I.unlaid free,I.laidL (t':=s.toks) kp (fun m' hm=>?_) free ⟨hz,vs,c,r,?_⟩⟩
 · rw[qi4 hm F.ns];exact F'.ns
 · exact e1
theorem qeJ:∀ {ns:List Int}{vs:List Value},Vals (ns.map V.int) vs->IntsAre vs ns
 | [],_,.nil=>.nil
 | n::ns,_,.cons r t=>by
   obtain⟨tk,rfl⟩:=(show ∃ t,_=Value.int n t from r)
   exact .cons n tk (qeJ t)
end
def QW:List Int->List Int->Bool
 | a::as,b::bs=>if a=b then QW as bs else decide (a < b)
 | _,_=>false
theorem qdd:∀ as bs,QW as bs=true->QW bs as=false
 | [],_,h=>by simp[QW]at h
 | _::_,[],h=>by simp[QW]at h
 | a::as,b::bs,h=>by
   unfold QW at h ⊢;by_cases e:a=b
   · rw[if_pos e]at h;rw[if_pos e.symm];exact qdd as bs h
   · rw[if_neg e]at h;rw[if_neg fun z=>e z.symm]
     have:=of_decide_eq_true h
     exact decide_eq_false (by omega)
theorem qeF:∀ {as bs cs:List Int},as.length=bs.length->bs.length=cs.length->QW as bs=false->QW bs cs=false->QW as cs=false
 | [],_,_,_,_,_,_=>rfl
 | _::_,[],_,h,_,_,_=>by simp at h
 | _::_,_::_,[],_,h,_,_=>by simp at h
 | a::as,b::bs,c::cs,h1,h2,x,y=>by
   unfold QW at x y ⊢;by_cases e1:a=b
   · subst e1;rw[if_pos rfl]at x;by_cases e2:a=c
     · subst e2;rw[if_pos rfl]at y ⊢;exact qeF (by simpa using h1) (by simpa using h2) x y
     · rw[if_neg e2]at y ⊢;exact y
   · rw[if_neg e1]at x;have x':=of_decide_eq_false x;by_cases e2:b=c
     · subst e2;rw[if_neg e1];exact x
     · rw[if_neg e2]at y;have y':=of_decide_eq_false y;rw[if_neg (by omega)];exact decide_eq_false (by omega)
section
variable {prog:Program}{w:World}{A:Around}{s:Shared}
theorem qgA {b:Bool}{Q:Bool->Shared->Prop}:∀ {as bs:List Int}{us vs:List Value}{i:Nat},Vals (as.map V.int) us->Vals (bs.map V.int) vs->as.length=bs.length->Q (QW as bs) s->PySem.W.KatLex prog w A b false Q (us.zip vs) i s
 | [],[],_,_,_,.nil,.nil,_,h=>PySem.W.kat_nil h
 | [],_::_,_,_,_,_,_,e,_=>by simp at e
 | _::_,[],_,_,_,_,_,e,_=>by simp at e
 | a::as,c::cs,_,_,i,.cons r1 t1,.cons r2 t2,e,h=>by
   obtain⟨x,rfl⟩:=(show ∃ t,_=Value.int a t from r1)
   obtain⟨y,rfl⟩:=(show ∃ t,_=Value.int c t from r2)
   refine PySem.W.kat_cons (wpAny_eqBool_int ?_);unfold QW at h;by_cases z:a=c
   · rw[if_pos z]at h;rw[show (a == c)=true by rw[z];exact beq_self_eq_true c];exact PySem.W.kat_yes (qgA t1 t2 (by simpa using e) h)
   · rw[if_neg z]at h;rw[show (a == c)=false by exact beq_eq_false_iff_ne.mpr z];refine PySem.W.kat_no ?_
     cases (b && i == 0) with
     | true=>exact oneLt_int h
     | false=>exact PySem.W.kat_one _ _ (wpAny_lt_int h)
end
structure TupI (H:Hp) (zs:List V) (rs:List (List Int)):Prop where
 len:zs.length=rs.length
 at_:∀ (i:Nat) (z:V) (r:List Int),zs[i]?=some z->rs[i]?=some r->∃ t,z=.ref t∧H t=some (.tup (r.map V.int))
def ltI (k:Nat) (rs:List (List Int)) (i j:Nat):Bool:=QW (rs.getD i (List.replicate k 0)) (rs.getD j (List.replicate k 0))
theorem QD {k:Nat}{rs:List (List Int)} (h:∀ r∈rs,r.length=k) (i:Nat):(rs.getD i (List.replicate k 0)).length=k:=by
 rw[List.getD_eq_getElem?_getD]
 cases e:rs[i]? with
 | none=>exact List.length_replicate
 | some r=>exact h r (List.mem_of_getElem? e)
theorem qgw {k:Nat}{rs:List (List Int)} (h:∀ r∈rs,r.length=k):Srt.Ord (ltI k rs) :=
 ⟨fun a b c x y=>qeF ((QD h c).trans (QD h b).symm) ((QD h b).trans (QD h a).symm) y x,fun a b=>qdd _ _⟩
section
variable {X:Cx}{pins:List (Addr×Obj)}{σ:List (Option V)}{H:Hp}{s:Shared}
theorem Inv.tupI {t:Addr}{r:List Int} (I:Inv X pins σ H s) (h:H t=some (.tup (r.map V.int))):∃ (o:Obj) (us:List Value) (n:Nat),Vals (r.map V.int) us∧s.heap.get? t=some o∧o.cls=.type "tuple"∧o.data=.seq us.toArray n:=by
 obtain⟨_,its,rv,o,e,c,n,d⟩:=I.hok t _ h;exact⟨o,its,n,rv,e,c,d⟩
theorem Inv.kpN {h':Heap}{m:Str->Option Value}{x:Addr×Obj} (I:Inv X pins σ H s) (F':Fr X.base X.env.locals h' m) (N':News X.base X.env.locals h' (x::qdy X.base s.heap X.env.locals)) :
   ∀ b u,b≠X.env.locals->s.heap.get? b=some u->h'.get? b=some u:=fun b u ne q=>by
 cases z:X.base.get? b with
 | some o =>
   have:=I.bk b o z
   rw[q]at this;cases this;exact F'.keep b _ z
 | none=>exact(N' _ (List.mem_cons_of_mem _ (Jh q ne z))).1
end
theorem TupI.tail {H:Hp}{z:V}{zs:List V}{r:List Int}{rs:List (List Int)} (h:TupI H (z::zs) (r::rs)):TupI H zs rs :=
 ⟨by have:=h.len;simpa using this,fun i z' r' e1 e2=>h.at_ (i+1) z' r' (by simpa using e1) (by simpa using e2)⟩
inductive qhi (h:Heap) (v:Value) (r:List Int):Prop
 | mk (t:Addr) (o:Obj) (us:List Value) (n:Nat) (h1:v=.ref t) (h2:Vals (r.map V.int) us) (h3:h.get? t=some o) (h4:o.cls=.type "tuple") (h5:o.data=.seq us.toArray n):qhi h v r
def qlD (h:Heap) (v:Value) (r:List Int):Prop:=qhi h v r
theorem qbW {h:Heap}:∀ {vs:List Value}{rs:List (List Int)},Paired (qlD h) vs rs->(∀ r∈rs,0 < r.length)->∃ fs,PySem.W.KatTups h vs fs∧fs.length=vs.length∧∀ v∈fs,∃ i t,v=Value.int i t
 | _,_,.nil,_=>⟨[],.nil,rfl,fun _ z=>nomatch z⟩
 | _,r::rs,.cons ⟨t,o,us,n,e,rv,ho,hc,hd⟩ q,k=>by
   obtain⟨fs,k1,k2,k3⟩:=qbW q fun r hr=>k r (List.mem_cons_of_mem _ hr);subst e;have pos:=k r List.mem_cons_self
   match r,us,rv,pos with
   | a::r,_,.cons ra rt,_ =>
     obtain⟨tk,rfl⟩:=(show ∃ t,_=Value.int a t from ra)
     refine⟨_::fs,.cons ho hc hd (by simp;rfl) k1,by simp[k2],fun v hv=>?_⟩;rcases List.mem_cons.mp hv with rfl|hv
     · exact⟨_,_,rfl⟩
     · exact k3 v hv
theorem Qh {α β:Type}{F:α->β->Prop}:∀ {xs:List α}{ys:List β}{i:Nat}{d:α}{e:β},Paired F xs ys->i < xs.length->F (xs.getD i d) (ys.getD i e)
 | _,_,_,_,_,.nil,h=>by simp at h
 | _,_,0,_,_,.cons r _,_=>by simpa using r
 | _,_,i+1,_,_,.cons _ t,h=>by
   simp only[List.getD_cons_succ];exact Qh t (by simpa using h)
theorem qbE {α β:Type}{F:α->β->Prop}{xs:List α}{ys:List β}{d:α}{e:β} (r:Paired F xs ys):∀ {is:List Nat},(∀ i∈is,i < xs.length)->Paired F (is.map fun i=>xs.getD i d) (is.map fun i=>ys.getD i e)
 | [],_=>.nil
 | i::is,h=>.cons (Qh r (h i List.mem_cons_self)) (qbE r fun j hj=>h j (List.mem_cons_of_mem _ hj))
theorem qa5 {α:Type} (l:List α) (d:α):(List.range l.length).map (fun i=>l.getD i d)=l:=by
 apply List.ext_getElem
 · simp
 · intro i h1 h2;simp[h2]
section
variable {prog:Program}{w:World}{A:Around}{E:Value->Shared->Prop}{s:Shared}
theorem qhy {a:Addr}{vs:List Value}{n:Nat}{P:PySem.Fin->Shared->Prop} (ho:s.heap.get? a=some (seqObj "list" vs.toArray n)) (h2:vs.length < 2)
   (h:∀ c h',(∀ b o,b≠a->s.heap.get? b=some o->h'.get? b=some o)->h'.get? a=some (seqObj "list" vs.toArray c)->P (.done (.ret .none)) { s with heap:=h' }) :
   wpAny (model prog w) A (Builtin.«list.sort» ⟨[.ref a],[]⟩) P E s:=by
 obtain⟨e1,ho1⟩:∃ e1,(s.heap.update a (Obj.mapSeq fun _=>(#[]:Array Value))).get? a=some (seqObj "list" #[] e1):=⟨_,get?_update_seq ho fun _=>#[]⟩
 have s1:=Heap.SameBut.update s.heap a (Obj.mapSeq fun _=>(#[]:Array Value));rw[list_sort_plain];refine wpAny_bind (listItems_at ho rfl ?_);refine wpAny_bind (listUpdate_at ho rfl ?_ (by rw[List.size_toArray,sizeLine_eq];omega) (Nat.zero_le _));refine wpAny_bind (seqEpoch_at ho1 rfl ?_);refine wpAny_bind (wpAny_newTuple ?_ (by show vs.length≤_;rw[sizeLine_eq];omega));refine wpAny_bind (wpAny_newList ?_ (Nat.zero_le _));refine wpAny_holding ?_;dsimp only;have hn2:vs.toArray.size < 2:=by rw[List.size_toArray];omega
 rw[if_pos hn2];refine wpAny_bind (wpAny_pure ?_);rw[if_pos hn2];refine wpAny_bind (wpAny_pure ?_);have ho2:(((s.heap.update a (Obj.mapSeq fun _=>(#[]:Array Value))).push (seqObj "tuple" vs.toArray 0)).push (seqObj "list" #[] 0)).get? a=some (seqObj "list" #[] e1):=Heap.get?_push_of_some _ (Heap.get?_push_of_some _ ho1)
 have hsnd:Array.map (fun x:Keyed=>x.snd) (arrOf (SortSt.mk' general' (vs.toArray.zip vs.toArray) #[] 7 none))=vs.toArray:=by
   show Array.map (fun x:Value×Value=>x.snd) (vs.toArray.zip vs.toArray)=vs.toArray;apply Array.toList_inj.mp;simp only[Array.toList_map,Array.toList_zip];exact List.map_snd_zip (Nat.le_refl _)
 refine wpAny_bind (seqEpoch_at ho2 rfl ?_);dsimp only;rw[hsnd];refine wpAny_bind (listUpdate_at ho2 rfl ?_ (Nat.zero_le _) (by rw[List.size_toArray,sizeLine_eq];omega));show wpAny (model prog w) A (if (e1 != e1)=true then _ else ret Value.none) P E _;rw[if_neg (by simp)];refine wpAny_pure (h _ _ (fun b o hb q=>?_) (get?_update_seq ho2 fun _=>vs.toArray));rw[(Heap.SameBut.update _ a _).2 b hb];exact Heap.get?_push_of_some _ (Heap.get?_push_of_some _ ((s1.2 b hb).trans q))
theorem qbq {l:Addr}{vs:List Value}{Q:Value->Shared->Prop} (hl:s.heap.IsList l vs.toArray) (h2:vs.length < 2)
   (h:∀ D c h',s.heap.get? D=none->(∀ b o,s.heap.get? b=some o->h'.get? b=some o)->h'.get? D=some (seqObj "list" vs.toArray c)->Q (.ref D) { s with heap:=h' }) :
   wpAny (model prog w) A (call (.builtin "sorted") [.ref l]) Q E s:=by
 refine Calls.call_function_entry kind_sorted plain_sorted entry_sorted (args_sorted1 _) ?_;unfold Builtin.«sorted»;refine wpAny_bind (m:=checkCount "sorted" 1 1 _) (wpAny_pure ?_);refine wpAny_bind (collect_list hl ?_ (by rw[sizeLine_eq];omega));refine wpAny_bind (wpAny_newList ?_ (by rw[sizeLine_eq];omega))
 have hsz:((s.heap.push (seqObj "list" #[] 0)).update s.heap.objs.size (Obj.mapSeq (·++vs.toArray))).objs.size=s.heap.objs.size+1:=by
   rw[Heap.size_update,size_push']
 have hoL:(((s.heap.push (seqObj "list" #[] 0)).update s.heap.objs.size (Obj.mapSeq (·++vs.toArray))).push (seqObj "list" vs.toArray 0)).get? (s.heap.objs.size+1)=some (seqObj "list" vs.toArray 0):=by
   rw[← hsz];exact Heap.get?_push_size _ rfl
 have keep:∀ b o,s.heap.get? b=some o->(((s.heap.push (seqObj "list" #[] 0)).update s.heap.objs.size (Obj.mapSeq (·++vs.toArray))).push (seqObj "list" vs.toArray 0)).get? b=some o:=fun b o q=>by
   have hlt:b < s.heap.objs.size:=Heap.lt_size q;rw[Heap.get?_push_ne _ _ _ (by rw[hsz];exact Nat.ne_of_lt (Nat.lt_succ_of_lt hlt)),Heap.get?_update_ne _ _ _ _ (Nat.ne_of_lt hlt),Heap.get?_push_ne _ _ _ (Nat.ne_of_lt hlt)];exact q
 show wpAny _ _ _ _ _ { s with heap:=((s.heap.push (seqObj "list" #[] 0)).update s.heap.objs.size (Obj.mapSeq (·++vs.toArray))).push (seqObj "list" vs.toArray 0) };rw[hsz];refine wpAny_bind (wpAny_holding (wpAny_call_entry slot_list_sort ⟨_,hoL,rfl⟩ entry_list_sort ?body (args_list_sort _)))
 case body =>
   refine qhy (s:={ s with heap:=((s.heap.push (seqObj "list" #[] 0)).update s.heap.objs.size (Obj.mapSeq (·++vs.toArray))).push (seqObj "list" vs.toArray 0) }) hoL h2 fun c h' k e=>?_;exact⟨_,rfl,wpAny_pure ⟨_,rfl,h (s.heap.objs.size+1) c h' (Heap.get?_none_of_le (Nat.le_succ _)) (fun b o q=>k b o (Nat.ne_of_lt (Nat.lt_succ_of_lt (Heap.lt_size q))) (keep b o q)) e⟩⟩
end
inductive qet (K:Frag) (xs:List V) (H:Hp) (Q:VK):Prop
 | mk (l:Addr) (zs:List V) (rs:List (List Int)) (k:Nat) (h1:xs=[.ref l]) (h2:SqL K H l zs) (h3:TupI H zs rs) (h4:(∀ r∈rs,r.length=k)) (h5:0 < k) (h6:zs.length < 64) (h7:∀ (p:Addr) (zs':List V) (rs':List (List Int)),H p=none->rs'.Perm rs->TupI H zs' rs'->rs'.Pairwise (fun a b=>QW b a=false)->Q (.ref p) (upd H p (.lst zs'))):qet K xs H Q
def qiS (K:Frag):List V->Hp->VK->Prop:=fun xs H Q=>qet K xs H Q
theorem qdF {X:Cx}{pins:List (Addr×Obj)}{σ:List (Option V)}{H:Hp}{s:Shared}{h':Heap} (I:Inv X pins σ H s) (kp:∀ b u,b≠X.env.locals->s.heap.get? b=some u->h'.get? b=some u) :
   ∀ {zs:List V}{rs:List (List Int)}{vs:List Value},TupI H zs rs->Vals zs vs->Paired (qlD h') vs rs
 | [],rs,_,h,.nil=>by
   have:rs=[]:=List.eq_nil_of_length_eq_zero h.len.symm
   subst this;exact .nil
 | z::zs,[],_,h,_=>by have:=h.len;simp at this
 | z::zs,r::rs,_,h,.cons r1 t1=>by
   refine .cons ?_ (qdF I kp h.tail t1);obtain⟨t,rfl,ht⟩:=h.at_ 0 z r rfl rfl;obtain⟨o,us,n,rv,e,c,d⟩:=I.tupI ht;exact⟨t,o,us,n,r1,rv,kp t o (fun q=>by rw[q,I.free]at ht;cases ht) e,c,d⟩
theorem qfz {H:Hp}{zs:List V}{rs:List (List Int)}{d:V}{e:List Int} (h:TupI H zs rs) {is:List Nat} (hi:∀ i∈is,i < zs.length):TupI H (is.map fun i=>zs.getD i d) (is.map fun i=>rs.getD i e):=by
 refine⟨by rw[List.length_map,List.length_map],fun j z r e1 e2=>?_⟩;rw[List.getElem?_map]at e1 e2
 cases q:is[j]? with
 | none=>rw[q]at e1;cases e1
 | some i =>
   rw[q]at e1 e2;have lt:=hi i (List.mem_of_getElem? q);have lt2:i < rs.length:=by rw[← h.len];exact lt
   have z1:zs.getD i d=z:=Option.some.inj e1;have r1:rs.getD i e=r:=Option.some.inj e2;rw[List.getD_eq_getElem?_getD,List.getElem?_eq_getElem lt]at z1;rw[List.getD_eq_getElem?_getD,List.getElem?_eq_getElem lt2]at r1;exact h.at_ i z r (by rw[List.getElem?_eq_getElem lt];exact congrArg some z1) (by rw[List.getElem?_eq_getElem lt2];exact congrArg some r1)
section
variable {X:Cx}
theorem call_sortT:CallR X (.builtin "sorted") (qiS X.K):=by
 intro pins s σ H xs us Q I r h;obtain⟨l,zs,rs,k,rfl,hq,tp,hk,k0,h64,q⟩:=h;obtain⟨u,rfl,ru⟩:=JS r;cases (show u=Value.ref l from ru);obtain⟨its,rv,p,hz⟩:=I.list hq;have hlen:=rv.length;by_cases h2:its.length < 2
 · refine qbq p.isList h2 fun D c h' free kp e=>?_;have I':Inv X pins σ (upd H D (.lst zs)) { s with heap:=h' }:=I.laidL (t':=s.toks) (fun b u _ z=>kp b u z) (fun m ⟨o,es,ep,ho,r⟩=>⟨o,es,ep,kp _ _ ho,r⟩) free ⟨hz,its,c,rv,e⟩;refine⟨.ref D,_,I',rfl,q D zs rs (I.unlaid free) (List.Perm.refl _) tp ?_⟩;have l2:rs.length < 2:=by rw[← tp.len,hlen];exact h2
   match rs,l2 with
   | [],_=>exact .nil
   | [r],_=>exact List.pairwise_singleton _ _
   | _::_::_,l2=>simp at l2;omega
 · obtain⟨m,F⟩:=I.fr;refine PySem.W.kat_sorted F (qbS X.base s.heap X.env.locals) p.isList (by omega) (by omega) fun D e1 h' F' N' hD=>?_;have kp:=I.kpN F' N';have pa:=qdF I kp tp rv;obtain⟨fs,t1,t2,t3⟩:=qbW pa fun r hr=>by rw[hk r hr];exact k0
   refine PySem.W.kat_kind (T:=.type "int") t1 (by omega) (fun v hv=>?_) rfl ?_
   · obtain⟨i,t,rfl⟩:=t3 v hv;exact PySem.W.Looks.of_pure rfl
   refine Srt.RunP.wp (fun i j C hi hj hC=>?_) (fun a ha=>?_) (Srt.sort_ok (n:=its.length) (qgw hk) (by omega))
   · obtain⟨x,ox,ux,nx,ex,rx,hx,cx,dx⟩:=Qh (d:=Value.none) (e:=List.replicate k 0) pa hi;obtain⟨y,oy,uy,ny,ey,ry,hy,cy,dy⟩:=Qh (d:=Value.none) (e:=List.replicate k 0) pa hj;unfold PySem.W.kas_ask;rw[ex,ey];refine PySem.W.kat_lt hx dx hy dy ?_;have lx:=QD hk i;have ly:=QD hk j;have e1':=rx.length;have e2':=ry.length;rw[List.length_map]at e1' e2';rw[show decide (ux.toArray.size < uy.toArray.size)=false from decide_eq_false (by rw[List.size_toArray,List.size_toArray];omega)];exact qgA rx ry (by omega) hC
   · obtain⟨hp,up⟩:=ha
     have pl:a.toList.Perm (List.range its.length):=by
       have:=Array.perm_iff_toList_perm.mp hp
       simpa using this
     have inR:∀ i∈a.toList,i < zs.length:=fun i hi=>by rw[hlen];exact List.mem_range.mp (pl.mem_iff.mp hi)
     refine PySem.W.KasFin.intro F' N' (.head fun q hq=>Nat.ne_of_lt (hD q hq)) fun h2 c F2 N2=>?_;have rv2:Vals (a.toList.map fun i=>zs.getD i .non) (a.toList.map fun i=>its.getD i Value.none):=qbE rv inR;obtain⟨hn,I'⟩:=I.laidN F F2 N2 hD rv2 (by rw[List.length_map,pl.length_eq,List.length_range,← hlen];exact hz);refine⟨.ref D,_,I',rfl,q D _ (a.toList.map fun i=>rs.getD i (List.replicate k 0)) hn ?_ (qfz tp inR) ?_⟩
     · have:=pl.map fun i=>rs.getD i (List.replicate k 0)
       rw[← hlen,tp.len,qa5]at this;exact this
     · have sz:a.size=its.length:=by
         have:=pl.length_eq
         rw[Array.length_toList,List.length_range]at this;exact this
       refine List.pairwise_iff_getElem.mpr fun i j hi hj lt=>?_;have hj':j < a.size:=by simpa using hj
       have hi':i < a.size:=by omega
       have:=Srt.Up.le (qgw hk) up (x:=i) (j - i) (by omega)
       rw[show i+(j - i)=j by omega]at this;simp only[List.getElem_map,Array.getElem_toList];simp only[ltI,Array.getD_eq_getD_getElem?,Array.getElem?_eq_getElem hj',Array.getElem?_eq_getElem hi',Option.getD_some]at this;exact this
end
theorem qft:∀ {xs:List V}{us:List Value},us.length=xs.length->(∀ (i:Nat) (x:V) (u:Value),xs[i]?=some x->us[i]?=some u->RelV x u)->Vals xs us
 | [],[],_,_=>.nil
 | [],_::_,h,_=>by cases h
 | _::_,[],h,_=>by cases h
 | x::xs,u::us,h,r=>.cons (r 0 x u rfl rfl) (qft (Nat.succ.inj h) fun i y v e1 e2=>r (i+1) y v e1 e2)
theorem qdZ {k:Key}{v:Value} (h:qd0 k v=true):RelV (kV k) v:=by
 rcases ze h with ⟨i,t,rfl,rfl⟩|⟨x,t,rfl,rfl⟩
 · exact⟨t,rfl⟩
 · exact⟨t,rfl⟩
theorem qdf:∀ {kvs:List (Key×V)}{vs:List (Key×Value)},KV kvs vs->∀ {i:Nat}{k:Key}{x:Value},vs[i]?=some (k,x)->∃ y,kvs[i]?=some (k,y)∧RelV y x
 | _,_,.nil,i,k,x,e=>by cases e
 | _,_,.cons (a:=a) (b:=b) r t,i,k,x,e=>by
   cases i with
   | zero =>
     cases e;exact⟨a.2,by rw[List.getElem?_cons_zero];obtain⟨a1,a2⟩:=a;have:=r.1;simp at this;rw[this],r.2⟩
   | succ i=>exact qdf t e
theorem Zn:∀ {kvs:List (Key×V)}{vs:List (Key×Value)},KV kvs vs->vs.length=kvs.length
 | _,_,.nil=>rfl
 | _,_,.cons _ t=>by rw[List.length_cons,List.length_cons,Zn t]
section
variable {X:Cx}
def qf4:List V->Hp->VK->Prop:=fun xs H Q=>∃ a kvs,xs=[V.ref a]∧Rd H a (.dK kvs)∧∀ l,H l=none->Q (.ref l) (upd H l (.lst (kvs.map fun p=>kV p.1)))
theorem qbQ (hc:X.calm=true):CallR X (.type "list") qf4:=by
 intro pins s σ H xs us Q I r h;obtain⟨a,kvs,rfl,hq,q⟩:=h;obtain⟨u,rfl,ru⟩:=JS r;cases ru;obtain⟨hz,hS,vs,rel,o,es,ep,e,x,d,k,p,n⟩:=qcu I.hok hq;have D:s.heap.DictAt (qV X.prog X.w) a vs ep:=⟨o,es,e,x,d,k,p,n⟩
 refine PySem.W.kdl_call (PySem.W.kdl_dict (knd:=qV X.prog X.w) (kvs:=vs) (ep:=ep) hS) (I.ok.hd hc) D (by rw[Zn rel];exact hz) fun h' tk acc' c' kp e' it=>?_;obtain⟨al,ag⟩:=it
 have rv:Vals (kvs.map fun p=>kV p.1) acc'.toList:=by
   refine qft (by rw[Array.length_toList,al,List.length_map,Zn rel]) fun i y v e1 e2=>?_;obtain⟨k',x',e3,e4⟩:=ag i v (by rw[← Array.getElem?_toList];exact e2);obtain⟨y',e5,_⟩:=qdf rel e3;rw[List.getElem?_map,e5]at e1;cases e1;exact qdZ e4
 refine⟨.ref s.heap.objs.size,_,I.laid (t':=tk) kp (Nat.le_refl _) (show ObjOk X.prog X.w _ h' _ (.lst _) from ⟨by rw[List.length_map];exact hz,acc'.toList,c',rv,?_⟩),rfl,q _ (I.hok.fresh (Nat.le_refl _))⟩;rw[Array.toArray_toList];exact e'
def qkt (K:Frag):List V->Hp->VK->Prop:=fun xs H Q=>∃ x C t b,xs=[x,V.ref C]∧qdz K H x t∧kitOne K t (.ref C)=some b∧Q (.bl b) H
theorem Jf:CallR X (.builtin "isinstance") (qkt X.K):=by
 intro pins s σ H xs us Q I r h;obtain⟨x,C,t,b,rfl,ht,hk,q⟩:=h;obtain⟨u,w',rfl,ru,rw'⟩:=qfu r;cases (show w'=Value.ref C from rw');exact qdk I ru ht hk fun tk=>⟨.bl _,H,I.tok tk,rfl,q⟩
theorem zJ {K:Frag}{C D:Addr}{l:List (Option Addr)} (m:XMro K C l) (hl:l.head?=some (some C)) (d:qhk K D):kitOne K (.ref C) (.ref D)=some (l.contains (some D)):=by
 have e:=qhp m (by intro z;rw[z]at hl;cases hl) d;unfold kitOne;split
 · rename_i z
   have z':C=D:=Value.ref.inj (eq_of_beq z);subst z';congr 1
   cases l with
   | nil=>cases hl
   | cons x r=>rw[List.head?_cons]at hl;cases hl;simp
 · obtain⟨cd,h1,h2⟩:=m;unfold PySem.W.kitCls;have d1:(PySem.W.clsIn K D).isSome=true:=d.1;simp only[d.2,d1];simp only[qlF,d.2,d1]at e;simpa using e
theorem PE.or {e:Expr}{t u:TE} (h:PE X e t) (h':PE X e u):PE X e (fun σ H Q=>t σ H Q∨u σ H Q):=fun pins s σ H Q I q=>q.elim (h pins s σ H Q I) (h' pins s σ H Q I)
def qm0:R2:=fun x y H Q=>∃ a o,y=.ref a∧qdB H a x o∧Q (.bl o.isSome) H
theorem qgh (hu:X.A.units+1 < cLine):OpR X (compareOp .In) qm0:=by
 intro pins s σ H x y v u Q I rx ry h;obtain⟨a,o,rfl,g,q⟩:=h;cases ry;exact qnb hu I g rx fun s' I'=>⟨.bl _,H,I',rfl,q⟩
def qjL:R2:=fun x y H Q=>∃ a o,y=.ref a∧qdB H a x o∧Q (.bl (!o.isSome)) H
theorem qaD (hu:X.A.units+1 < cLine):OpR X (compareOp .NotIn) qjL:=by
 intro pins s σ H x y v u Q I rx ry h;obtain⟨a,o,rfl,g,q⟩:=h;cases ry;exact qkm hu I g rx fun s' I'=>⟨.bl _,H,I',rfl,q⟩
end
def Itd (a:Addr) (ob:Obj) (kvs:List (Key×V)):It :=
 ⟨fun i H=>H a=some (.frz ob (.dK kvs))∧i < kvs.length,fun i H x H'=>H'=H∧∃ k y,kvs[i]?=some (k,y)∧x=kV k,fun i H=>H a=some (.frz ob (.dK kvs))∧kvs.length≤i⟩
theorem qbL {P:Program}{w:World}{H:Hp}{h:Heap}{a:Addr}{ob:Obj}{kvs:List (Key×V)}{es:Array DictEntry}{ep:Nat} (ok:HOk P w H h) (e:H a=some (.frz ob (.dK kvs))) (hd:ob.data=.dict es ep) :
   (a == sysModules)=false∧∃ vs,KV kvs vs∧h.DictAt (qV P w) a vs ep:=by
 obtain⟨g,hz,hS,vs,rel,o,es',ep',e1,x,d,r⟩:=(show ObjOk P w H h a (.frz ob (.dK kvs)) from ok a _ e)
 rw[g]at e1;cases e1;rw[hd]at d;cases d;exact⟨hS,vs,rel,_,_,g,x,hd,r⟩
theorem qe2 {P:Program}{w:World}{K:Frag}{tg:Expr} (a it:Addr) (ob:Obj) (kvs:List (Key×V)) {es:Array DictEntry}{ep:Nat} (hd:ob.data=.dict es ep):qiz P w K tg (Itd a ob kvs) [it] it (fun i h=>h.IsKeyIter it a i kvs.length ep) where
 mem:=by simp
 obj:=fun i h st b hb=>by
   have e:b=it:=by simpa using hb
   subst e;obtain⟨o,e,c,d⟩:=st;exact⟨o,e,fun v z=>by rw[d]at z;cases z⟩
 keep:=fun i h h' st k=>by
   obtain⟨o,e,r⟩:=st;exact⟨o,k it (by simp) o e,r⟩
 item:=by
   intro X hP hw hK hc i pins s σ H E I hf st hg;subst hP hw hK;obtain⟨e,hi⟩:=hg;obtain⟨hS,vs,rel,D⟩:=qbL I.hok e hd;obtain⟨f0,f1,f2,f3,f4,f5⟩:=hf it (by simp);have ln:=Zn rel;obtain⟨⟨k,y⟩,hy⟩:∃ p,vs[i]?=some p:=⟨vs[i]'(by omega),by rw[List.getElem?_eq_getElem]⟩
   obtain⟨y',hy',_⟩:=qdf rel hy;rw[← ln]at st;refine wpAny_pyNext_dict_item st D hy fun key h' hkey st' sb=>?_;have I1:Inv X pins σ H { s with heap:=h' }:=I.turned (t':=s.toks) (fun b o hb e=>(sb.2 b hb).trans e) f0 f1 f3 f4 f5;obtain⟨o,e',c,d⟩:=id st';rw[ln]at st';exact⟨key,rfl,qgR (s:={ s with heap:=h' }) e' c d (by decide) ⟨kV k,H,I1,qdZ hkey,⟨rfl,k,y',hy',rfl⟩,st',fun b hb=>(hf b hb).1⟩⟩
 done:=by
   intro X hP hw hK hc i pins s σ H E I hf st hg;subst hP hw hK;obtain⟨e,hi⟩:=hg;obtain⟨hS,vs,rel,D⟩:=qbL I.hok e hd;obtain⟨f0,f1,f2,f3,f4,f5⟩:=hf it (by simp);have ln:=Zn rel;rw[← ln]at st;exact wpAny_pyNext_dict_end (I.ok.hd hc) st D (List.getElem?_eq_none (by omega)) fun h' eb=>⟨rfl,I.turned (t':=s.toks) (fun b o hb e=>eb b o hb e) f0 f1 f3 f4 f5⟩
 self:=fun _ _ _ _ _ st h=>wpAny_pyIter_keyiter st h
section
variable {X:Cx}{tg:Expr}
def qmf (tl:TE):TI:=fun σ H R=>tl σ H fun x H1=>∃ a ob kvs,x=.ref a∧H1 a=some (.frz ob (.dK kvs))∧R (Itd a ob kvs) H1
theorem qge {l:Expr}{tl:TE} (hl:PE X l tl):PI X tg l (qmf tl):=by
 intro pins s σ H R I h;refine thn (hl pins s σ H _ I h) fun v s1 zz_=>?_;obtain⟨x,H1,I1,r1,q1⟩:=zz_;obtain⟨a,ob,kvs,e,hq,q⟩:=q1;subst e;cases r1;obtain⟨g,hz,hS,vs,rel,o,es,ep,e1,x,d,r⟩:=(show ObjOk X.prog X.w H1 s1.heap a (.frz ob (.dK kvs)) from I1.hok a _ hq)
 rw[g]at e1;cases e1;have D:s1.heap.DictAt (qV X.prog X.w) a vs ep:=⟨_,_,g,x,d,r⟩
 refine wpAny_pyIter_dict hS D ?_;refine⟨s1.heap.objs.size,[s1.heap.objs.size],_,_,H1,rfl,I1.kept (t':=s1.toks) fun b o e=>Heap.get?_push_of_some _ e,qe2 a _ ob kvs d,(by rw[← Zn rel];exact⟨_,Heap.get?_push_size _ rfl,rfl,rfl⟩),fun b hb=>?_,q⟩;have e:b=s1.heap.objs.size:=by simpa using hb
 subst e;exact I1.fpOk (Nat.le_refl _) (I1.hok.fresh (Nat.le_refl _))
theorem qeM {a:Addr}{ob:Obj}{kvs:List (Key×V)}{g:TG}{tb:TS}{D:qdA}{σ:St}{H:Hp} (Pv:Nat->St->Hp->Prop) (h0:Pv 0 σ H) (hl:∀ i σ H,i≤kvs.length->Pv i σ H->H a=some (.frz ob (.dK kvs)))
   (hs:∀ i k y σ H,kvs[i]?=some (k,y)->Pv i σ H->g (kV k) σ H fun σ2 H2=>tb { D with nx:=Pv (i+1),ct:=Pv (i+1),bk:=D.nx } σ2 H2) (hd:∀ σ H,Pv kvs.length σ H->D.nx σ H) :
   ∃ W:Nat->Nat->St->Hp->Prop,(∃ m,W 0 m σ H)∧∀ i m σ H,W i m σ H ->
     ((Itd a ob kvs).stop i H∧D.nx σ H)∨((Itd a ob kvs).go i H∧∃ N:St->Hp->Prop,(∀ σ' H',N σ' H'->∃ m',m' < m∧W (i+1) m' σ' H')∧∀ x H',(Itd a ob kvs).yld i H x H'->g x σ H' fun σ2 H2=>tb { D with nx:=N,ct:=N,bk:=D.nx } σ2 H2):=by
 refine⟨fun i m σ H=>m=kvs.length - i∧i≤kvs.length∧Pv i σ H,⟨kvs.length,by simp,Nat.zero_le _,h0⟩,?_⟩;rintro i m σ H ⟨rfl,hi,p⟩;have q:=hl i σ H hi p;by_cases hlt:i < kvs.length
 · refine .inr ⟨⟨q,hlt⟩,Pv (i+1),fun σ' H' p'=>⟨kvs.length - (i+1),by omega,rfl,hlt,p'⟩,fun x H' y=>?_⟩;obtain⟨e,k,y,hk,ex⟩:=y;subst e;subst ex;exact hs i k y σ _ hk p
 · have e:i=kvs.length:=by omega
   subst e;exact .inl ⟨⟨q,Nat.le_refl _⟩,hd σ H p⟩
structure InsF (K:Frag) (C:Addr):Prop where
 cl:Cls K C
 ha:PySem.W.findIn K (.ref C) "__class__"=some (some (.builtin "object.__class__"))
 hn:PySem.W.specialIn K (.builtin "object.__class__") "__get__"=some (some (.builtin "getset_descriptor.__get__"))
 htk:PySem.W.takesIn K (.builtin "object.__class__")=some true
 hm:PySem.W.mroIn K C (.type "object")=some true
theorem InsF.ty {K:Frag}{H:Hp}{a C dx:Addr}{fs:List (Str×V)} (i:InsF K C) (e:H a=some (.ins C dx fs)):qdz K H (.ref a) (.ref C):=.ins e i.cl i.ha i.hn i.htk i.hm
end
section
variable {X:Cx}{o:Expr}{to:TE}{p apos cpos pos:Pos}
theorem qeQ {pins:List (Addr×Obj)}{σ:St}{H:Hp}{s:Shared}{a:Addr}{kvs:List (Key×V)} (I:Inv X pins σ H s) (h:Rd H a (.dK kvs)):s.TypeIs (.ref a) "dict"∧∀ b,Value.ref a=.ref b->∃ ob,s.heap.get? b=some ob∧ob.dict=none:=by
 obtain⟨h1,h2,_⟩:=qlo I (.inl ⟨kvs,h⟩);exact⟨h1,h2⟩
end
end L2
namespace L2
open PySem PySem.Spec PyProof.Rows
open PySem.W (Frag tabObj)
section
variable {X:Cx}{pins:List (Addr×Obj)}{σ σ':St}{H H':Hp}{s s':Shared}
theorem Inv.thaw {a:Addr}{u:HO}{ob:Obj} (I0:Inv X pins σ H s) (e0:H a=some u) (hu:(∀ xs,u≠.tup xs)∧(∀ o v,u≠.frz o v)∧∀ ps,u≠.tbl ps) (I:Inv X pins σ' H' s') (e:H' a=some (.frz ob u)):Inv X pins σ' (upd H' a u) s':=by
 have ne:∀ {b:Addr}{v:HO},X.H₀ b=some v->(∀ z,H b=some z->z≠u)->b≠a:=fun _ h z=>h _ (by rw[z];exact e0) rfl;have nn:∀ {b:Addr},H' b=none->b≠a:=fun n z=>by rw[z,e]at n;cases n
 have un:∀ {b:Addr},H' b=none->upd H' a u b=none:=fun n=>by rw[qh (nn n)];exact n
 have keepH:∀ b v,H' b=some v->v≠.frz ob u->upd H' a u b=some v:=fun b v q n=>by rw[qh fun z=>n (by rw[z,e]at q;exact(Option.some.inj q).symm)];exact q
 refine⟨I.ok,I.os,I.bare,⟨I.base.keep,I.base.slot,fun b o q n hx=>un (I.base.free b o q n hx),I.base.there,fun b xs q=>?_,fun b o v q=>?_,fun b ps q=>?_⟩,I.loc,I.cell,un I.free,fun x c q=>un (I.freeC x c q),fun p hp=>?_,fun b v q=>?_,I.len⟩
 · rw[qh (ne q fun z g=>by rw[I0.base.tups b xs q]at g;cases g;exact(hu.1 xs).symm)];exact I.base.tups b xs q
 · rw[qh (ne q fun z g=>by rw[I0.base.frzs b o v q]at g;cases g;exact(hu.2.1 o v).symm)];exact I.base.frzs b o v q
 · rw[qh (ne q fun z g=>by obtain⟨m,r⟩:=I0.base.tbls b ps q;rw[r]at g;cases g;exact(hu.2.2 _).symm)];exact I.base.tbls b ps q
 · obtain⟨p1,p2,p3⟩:=I.pin p hp;exact⟨p1,un p2,p3⟩
 · by_cases z:b=a
   · subst z;rw[qd]at q;cases q;obtain⟨_,ok⟩:=(show ObjOk X.prog X.w H' s'.heap b (.frz ob u) from I.hok b _ e)
     exact ok.stay (fun _ _ _ z=>z) (fun c r=>keepH c _ r (by intro z;cases z)) fun c xs r=>keepH c _ r (by intro z;cases z)
   · rw[qh z]at q;exact(I.hok b v q).stay (fun _ _ _ z=>z) (fun c r=>keepH c _ r (by intro z;cases z)) fun c xs r=>keepH c _ r (by intro z;cases z)
def loan (a:Addr) (ob:Obj) (kvs:List (Key×V)) (D:qdA):qdA :=
 { nx:=fun σ H=>H a=some (.frz ob (.dK kvs))∧D.nx σ (upd H a (.dK kvs)),ct:=fun σ H=>H a=some (.frz ob (.dK kvs))∧D.ct σ (upd H a (.dK kvs)),
   bk:=fun σ H=>H a=some (.frz ob (.dK kvs))∧D.bk σ (upd H a (.dK kvs)),rt:=fun v H=>H a=some (.frz ob (.dK kvs))∧D.rt v (upd H a (.dK kvs)) }
def qhC (t:TS):TS:=fun D σ H=>∃ a kvs,H a=some (.dK kvs)∧∀ ob,t (loan a ob kvs D) σ (upd H a (.frz ob (.dK kvs)))
theorem PS.loan {st:Stmt}{t:TS} (h:PS X st t):PS X st (qhC t):=by
 intro pins s σ H D I q;obtain⟨a,kvs,e,q⟩:=q;obtain⟨hz,hS,vs,rel,o,es,ep,e1,r⟩:=qcu I.hok (.inl e);have I':Inv X pins σ (upd H a (.frz o (.dK kvs))) { s with heap:=s.heap,toks:=s.toks }:=I.write (x:=a) (e:=a) (by rw[e];exact True.intro) (.inl rfl) (fun b u _ z=>z) ⟨_,e1⟩ ⟨e1,hz,hS,vs,rel,o,es,ep,e1,r⟩;have th:∀ {σ':St}{H':Hp}{s':Shared},Inv X pins σ' H' s'->H' a=some (.frz o (.dK kvs))->Inv X pins σ' (upd H' a (.dK kvs)) s':=fun J g=>I.thaw e ⟨fun _ z=>(nomatch z),fun _ _ z=>(nomatch z),fun _ z=>(nomatch z)⟩ J g;refine wpAny_mono (h pins s σ _ (L2.loan a o kvs D) I' (q o)) (fun f s' hq=>?_) fun _ _ z=>z
 cases f with
 | next=>obtain⟨σ7,H7,I7,g,n7⟩:=hq;exact⟨σ7,_,th I7 g,n7⟩
 | cont=>obtain⟨σ7,H7,I7,g,n7⟩:=hq;exact⟨σ7,_,th I7 g,n7⟩
 | brk=>obtain⟨σ7,H7,I7,g,n7⟩:=hq;exact⟨σ7,_,th I7 g,n7⟩
 | ret v=>obtain⟨x7,σ7,H7,I7,r7,g,n7⟩:=hq;exact⟨x7,σ7,_,th I7 g,r7,n7⟩
end
def qeX (mg:Str->Option Value) (base:Heap):Prop:=∃ bm o,mg "__builtins__"=some (.ref bm)∧bm≠builtinsNs∧base.get? bm=some o∧o.cls=.type "module"∧o.dict=some builtinsNs∧o.data=.plain
def qkr (ts:List Addr) (H:Hp):Prop:=∀ b,H b=none∨(∃ o xs,H b=some (.frz o (.lst xs)))∨(b∈ts∧H b=some (.tbl #[]))
theorem qgE {P:Program}{w:World}{K:Frag}{mg mb:Str->Option Value}{CX:CXT}{k:Nat}{fa a:Addr}{fd:FuncData}{x:Str}{sp:Sp}{s₁:Shared}{vs:List Value}{ns:List Int}{ts:List Addr}
   (KX:K.In s₁.heap) (hns:s₁.heap.Ns mainGlobals mg) (hb:s₁.heap.Ns builtinsNs mb) (hbb:∀ x:Str,x≠"__name__"->mb x=bootBuiltins x) (hlim:s₁.heap.NoLimit) (hg:s₁.gens=#[])
   (ht:∀ t∈ts,s₁.heap.get? t=some (tabObj #[])) (hc:∀ t∈ts,isCodeTable s₁.heap t) (hk:∀ t∈ts,K.lookup t=none)
   (hB:qeX mg s₁.heap) (ha:s₁.heap.get? a=some { cls:=.type "list",data:=.seq vs.toArray }) (hi:IntsAre vs ns) (hl:ns.length≤sizeLine) (hr:Room k callerA)
   (F:∀ base:Heap,K.In base->base.Ns mainGlobals mg->qeX mg base->qy P w K mg base CX k fa fd [x] sp) (hbind:∀ (s:Shared) (u:Value),BindsTo s fd ⟨[u],[]⟩ [(x,u)])
   (hsp:∀ H:Hp,qkr ts H->(∀ t∈ts,H t=some (.tbl #[]))->SqL K H a (ns.map V.int)->sp [.ref a] H (fun v _=>v=.bl true) fun _ _ _=>False)
   (hCX:∀ H e s',CX [] H s₁ (fun _ _ _=>False) e s'->False) :
   codeAny (model P w) callerA (.call (.ref fa) ⟨[.ref a],[]⟩) (fun r s'=>r=.ok (.ret (.bool true))∧OldK s₁.heap s'.heap∧s'.os=s₁.os∧AllBare s'.gens) s₁:=by
 have rv:=qcA hi;have lenV:=hi.length
 have nat:a∉ts:=fun m=>by
   have:=ht a m
   rw[ha]at this;cases this
 have core:∀ H:Hp,qkr ts H->(∀ t∈ts,H t=some (.tbl #[]))->SqL K H a (ns.map V.int)->HOk P w H s₁.heap->(∀ b,H b≠none->b=a∨b∈ts)->(H a≠none->K.lookup a=none) ->
     codeAny (model P w) callerA (.call (.ref fa) ⟨[.ref a],[]⟩) (fun r s'=>r=.ok (.ret (.bool true))∧OldK s₁.heap s'.heap∧s'.os=s₁.os∧AllBare s'.gens) s₁:=by
   intro H hO hT hS hok hA hK;have base_of:∀ {b:Addr}{o:Obj},s₁.heap.get? b=some o->H b=none->(qhn s₁.heap H).get? b=some o:=fun e n=>qii e n
   have noA:∀ {b:Addr}{o:Obj}{es:Array DictEntry}{ep:Nat},s₁.heap.get? b=some o->o.data=.dict es ep->H b=none:=fun {b o es ep} e d=>by
     cases q:H b with
     | none=>rfl
     | some u =>
       rcases hA b (by rw[q];simp) with rfl|m
       · rw[ha]at e;cases e;cases d
       · rw[ht b m]at e;cases e;cases d
   have nsK:∀ {b:Addr}{m:Str->Option Value},s₁.heap.Ns b m->(qhn s₁.heap H).Ns b m:=fun {b m} ⟨o,es,ep,e,d,r⟩=>⟨o,es,ep,base_of e (noA e d),d,r⟩
   have hKb:K.In (qhn s₁.heap H):=fun b o e=>base_of (KX b o e) (by
     cases q:H b with
     | none=>rfl
     | some u =>
       rcases hA b (by rw[q];simp) with z|m
       · subst z;rw[hK (by rw[q];simp)]at e;cases e
       · rw[hk b m]at e;cases e)
   have hBb:qeX mg (qhn s₁.heap H):=by
     obtain⟨bm,o,b1,b2,b3,b4,b5,b6⟩:=hB;refine⟨bm,o,b1,b2,base_of b3 ?_,b4,b5,b6⟩
     cases q:H bm with
     | none=>rfl
     | some u =>
       rcases hA bm (by rw[q];simp) with z|m
       · rw[z,ha]at b3;cases b3;cases b6
       · rw[ht bm m]at b3;cases b3;cases b6
   have hM:Mod K mg (qhn s₁.heap H):=⟨hKb,nsK hns,⟨mb,nsK hb,hbb⟩,let ⟨mc,h1,h2⟩:=hlim;⟨mc,nsK h1,h2⟩⟩
   have e0:Env0 P w K mg (qhn s₁.heap H) callerA [] s₁ H:=⟨rfl,hM,fun b o e=>qj2 e,Nat.le_of_eq (qgO _ _),trivial,fun b hb=>absurd (show b∈([]:List Addr) from hb) (by simp),hok,.of_eq hg⟩
   refine codeAny_mono ((F _ hKb (nsK hns) hBb).run callerA [] s₁ H ⟨[.ref a],[]⟩ [.ref a] [.ref a] _ _ hr e0 (hbind s₁ (.ref a)) (.cons rfl .nil) (hsp H hO hT hS)) fun r s' h=>?_
   cases r with
   | error e=>exact(hCX H e s' h).elim
   | ok fl =>
     cases fl with
     | next=>exact False.elim h
     | brk=>exact False.elim h
     | cont=>exact False.elim h
     | ret u =>
       obtain⟨v,H',os,bare,un,hok',r',q⟩:=h;have q':v=.bl true:=q;subst q';obtain rfl:u=Value.bool true:=r'
       have grown:∀ t∈ts,∃ more,s'.heap.get? t=some (tabObj more):=fun t m=>by
         obtain⟨more,z⟩:=un.tbls t #[] (hT t m);exact⟨_,(show ObjOk P w H' s'.heap t (.tbl (#[]++more)) from hok' t _ z)⟩
       have keep:∀ b o,b∉ts->s₁.heap.get? b=some o->s'.heap.get? b=some o:=fun b o nm e=>by
         rcases hO b with z|⟨ob,xs,z⟩|⟨m,_⟩
         · exact un.keep b o e z (by intro z;exact absurd (show b∈([]:List Addr) from z) (by simp)) (by simp)
         · have z2:=un.frzs b ob _ z;obtain⟨e1,_⟩:=hok b _ z;obtain⟨e2,_⟩:=hok' b _ z2;rw[e]at e1;cases e1;exact e2
         · exact absurd m nm
       refine⟨rfl,⟨fun b o e=>?_,fun b o e=>?_⟩,os,bare⟩
       · by_cases m:b∈ts
         · obtain⟨ps,g⟩:=grown b m;have e':=ht b m;rw[e]at e';cases e';exact .inr (.inl ⟨hc b m,rfl,#[],ps,rfl,by rw[Array.empty_append];exact g⟩)
         · exact .inl (keep b o m e)
       · by_cases m:b∈ts
         · obtain⟨ps,g⟩:=grown b m;exact⟨_,g⟩
         · exact⟨o,keep b o m e⟩
 cases hka:K.lookup a with
 | some o =>
   have e:=KX a o hka;rw[ha]at e;cases e;refine core (fun b=>if b∈ts then some (.tbl #[]) else none) (fun b=>?_) (fun t m=>if_pos m) (.inr ⟨_,vs.toArray,_,hka,rfl,rfl,rfl,by rw[List.size_toArray,lenV];exact hl,by simpa using rv⟩) (fun b u z=>?_) (fun b z=>?_) fun z=>absurd (if_neg nat) z
   · by_cases m:b∈ts
     · exact .inr (.inr ⟨m,if_pos m⟩)
     · exact .inl (if_neg m)
   · by_cases m:b∈ts
     · have z':=(if_pos m).symm.trans z;cases z';exact ht b m
     · have z':=(if_neg m).symm.trans z;cases z'
   · by_cases m:b∈ts
     · exact .inr m
     · exact absurd (if_neg m) z
 | none =>
   refine core (fun b=>if b=a then some (.frz { cls:=.type "list",data:=.seq vs.toArray } (.lst (ns.map V.int))) else if b∈ts then some (.tbl #[]) else none) (fun b=>?_) (fun t m=>?_) (.inl (.inr ⟨{ cls:=.type "list",data:=.seq vs.toArray },if_pos rfl⟩)) (fun b u z=>?_) (fun b z=>?_) fun _=>hka
   · by_cases hb:b=a
     · exact .inr (.inl ⟨_,_,if_pos hb⟩)
     · by_cases m:b∈ts
       · exact .inr (.inr ⟨m,(if_neg hb).trans (if_pos m)⟩)
       · exact .inl ((if_neg hb).trans (if_neg m))
   · have hb:t≠a:=fun z=>nat (z▸m);exact(if_neg hb).trans (if_pos m)
   · by_cases hb:b=a
     · have z':=(if_pos hb).symm.trans z;cases z';subst hb;exact⟨ha,by rw[List.length_map];exact hl,vs,_,rv,ha⟩
     · by_cases m:b∈ts
       · have z':=((if_neg hb).trans (if_pos m)).symm.trans z;cases z';exact ht b m
       · have z':=((if_neg hb).trans (if_neg m)).symm.trans z;cases z'
   · by_cases hb:b=a
     · exact .inl hb
     · by_cases m:b∈ts
       · exact .inr m
       · exact absurd ((if_neg hb).trans (if_neg m)) z
theorem walk_ofT {l:PySem.W.OpenLaw}{n k:Nat}{q:Program}{loose:List Str}{XP:(Str->Option Value)->Heap->Prop}{YP:World->Heap->Prop}{d:DefRec}{K:Params->Frag}{CX:World->CXT}{sp:World->Sp}{x:Str}{ts:List Addr}
   (hn:l.most=some n) (hn2:n≤sizeLine) (hdf:d.params.defaults=[]) (hr:Room k callerA)
   (hY:∀ (w:World) (h:Heap),YP w h->(K w.params).In h∧(∀ t∈ts,h.get? t=some (tabObj #[]))∧(∀ t∈ts,isCodeTable h t)∧∀ t∈ts,(K w.params).lookup t=none)
   (F:∀ (w:World) (mg:Str->Option Value) (fa:Addr) (h:Heap),(K w.params).In h->h.Ns mainGlobals mg->mg d.name=some (.ref fa) ->
     ∃ fd:FuncData,(∀ (s:Shared) (u:Value),BindsTo s fd ⟨[u],[]⟩ [(x,u)]) ∧
       ∀ base:Heap,(K w.params).In base->base.Ns mainGlobals mg->qeX mg base->qy l.prog w (K w.params) mg base (CX w) k fa fd [x] (sp w))
   (hsp:∀ (w:World) (H:Hp) (a:Addr) (ns:List Int),ns.length≤n->qkr ts H->(∀ t∈ts,H t=some (.tbl #[]))->SqL (K w.params) H a (ns.map V.int)->sp w [.ref a] H (fun v _=>v=.bl true) fun _ _ _=>False)
   (hCX:∀ (w:World) (H:Hp) (s:Shared) (e:Value) (s':Shared),CX w [] H s (fun _ _ _=>False) e s'->False) :
   PySem.W.WalkO q loose XP YP l.row.toRowW d [] (fun f vs=>PySem.call f vs):=by
 refine Att.attach_call hn hdf fun w s₀ s₁ mg mb fa o pm cd doc a vs ns G Y ho hd hcd hmg hobj hints hlen hg=>?_;obtain⟨KX,h1,h2,h3⟩:=hY w _ Y;obtain⟨fd,hb,hF⟩:=F w mg fa _ KX G.T.g hmg;exact qgE KX G.T.g G.T.b G.T.builtins G.T.nolimit hg h1 h2 h3 (let ⟨bm,ob,b1,b2,b3,b4,b5,b6⟩:=G.T.bmain;⟨bm,ob,b1,b2,b3,b4,b5,b6⟩) hobj hints (Nat.le_trans hlen hn2) hr hF hb (fun H hO hT hS=>hsp w H a ns hlen hO hT hS) fun H e s'=>hCX w H s₁ e s'
def ZU (c:Addr) (q:Str):Heap->Prop:=fun h=>h.CodeRec (.ref c) q
def qcz (f:Addr) (o:Obj):Heap->Prop:=fun h=>h.get? f=some o
section
variable {P:Program}{w:World}{H:Hp}{h:Heap}{c f:Addr}{q:Str}{o:Obj}
theorem qiu (x:ZU c q h):ObjOk P w H h c (.ext (ZU c q)):=by
 obtain⟨c',o,vs,t,e,g,r⟩:=id x;cases e;exact⟨x,⟨o,g⟩,fun h1 h2 ⟨c',o',vs',t',e',g',r'⟩ k=>by cases e';exact⟨c,o',vs',t',rfl,k _ g',r'⟩⟩
theorem qgr (x:qcz f o h):ObjOk P w H h f (.ext (qcz f o)):=⟨x,⟨o,x⟩,fun _ _ e k=>k _ e⟩
end
theorem Jq {i j:Int}{a b:Tok}{c:Value}:∀ {l:List Value},TriplesOk l->TriplesOk (l++[.int i a,.int j b,c])
 | [],_=>True.intro
 | .int _ _::.int _ _::_::r,h=>Jq (l:=r) h
section
variable {X:Cx}{pins:List (Addr×Obj)}{σ:St}{H:Hp}{s:Shared}{h':Heap}
theorem Inv.lam {T c':Addr}{ps:Array Value}{more:Array Value}{q:Str}{t':Nat} (I:Inv X pins σ H s) (hT:H T=some (.tbl ps)) (hx:Heap.ExtBut T s.heap h') (c0:s.heap.objs.size≤c') (c1:c' < h'.objs.size) (hr:h'.CodeRec (.ref c') q)
   (ht:h'.get? T=some (tabObj (ps++more))) (fo:Obj) (hfo:fo.isFreed=false) :
   Inv X pins σ (upd (upd (upd H T (.tbl (ps++more))) c' (.ext (ZU c' q))) h'.objs.size (.ext (qcz h'.objs.size fo))) { s with heap:=h'.push fo,toks:=t' }:=by
 have Tlt:T < s.heap.objs.size:=I.hok.lt hT;have nTc:T≠c':=Nat.ne_of_lt (Nat.lt_of_lt_of_le Tlt c0);have Tf:T < h'.objs.size:=Heap.lt_size ht;have nTf:T≠h'.objs.size:=Nat.ne_of_lt Tf;have ncf:c'≠h'.objs.size:=Nat.ne_of_lt c1;have hcn:H c'=none:=I.hok.fresh c0;have sle:s.heap.objs.size≤h'.objs.size:=Nat.le_trans c0 (Nat.le_of_lt c1);have hfn:H h'.objs.size=none:=I.hok.fresh sle;have oth:∀ b,b≠T->b≠c'->b≠h'.objs.size->upd (upd (upd H T (.tbl (ps++more))) c' (.ext (ZU c' q))) h'.objs.size (.ext (qcz h'.objs.size fo)) b=H b:=fun b n1 n2 n3=>by rw[qh n3,qh n2,qh n1]
 have kp:∀ b o,b≠T->s.heap.get? b=some o->(h'.push fo).get? b=some o:=fun b o n e=>Heap.get?_push_of_some _ (hx b o n e);have nT:∀ {b u},H b=some u->u≠.tbl ps->b≠T:=fun e n z=>by rw[z,hT]at e;exact n (Option.some.inj e).symm
 have nc:∀ {b u},H b=some u->b≠c':=fun e z=>by rw[z,hcn]at e;cases e
 have nf:∀ {b u},H b=some u->b≠h'.objs.size:=fun e z=>by rw[z,hfn]at e;cases e
 have same:∀ {b u},H b=some u->u≠.tbl ps->upd (upd (upd H T (.tbl (ps++more))) c' (.ext (ZU c' q))) h'.objs.size (.ext (qcz h'.objs.size fo)) b=some u:=fun e n=>by rw[oth _ (nT e n) (nc e) (nf e)];exact e
 refine I.un ⟨fun b o e n _ _=>kp b o (fun z=>by rw[z,hT]at n;cases n) e,fun b o e n _ _=>⟨o.slots,kp b o (fun z=>by rw[z,hT]at n;cases n) e⟩,fun b o e n _=>?_,fun b o e _=>?_,fun b xs e=>same e (by intro z;cases z),fun b o u e=>same e (by intro z;cases z),fun b qs e=>?_⟩ fun b u e=>?_
 · have lt:=Heap.lt_size e;rw[oth b (fun z=>by rw[z,hT]at n;cases n) (Nat.ne_of_lt (Nat.lt_of_lt_of_le lt c0)) (Nat.ne_of_lt (Nat.lt_of_lt_of_le lt sle))];exact n
 · by_cases z:b=T
   · subst z;exact⟨_,Heap.get?_push_of_some _ ht⟩
   · exact⟨o,kp b o z e⟩
 · by_cases z:b=T
   · subst z;rw[hT]at e;cases e;exact⟨more,by rw[qh nTf,qh nTc,qd]⟩
   · rw[oth b z (nc e) (nf e)];exact⟨#[],by rw[e];simp⟩
 · by_cases z3:b=h'.objs.size
   · subst z3;rw[qd]at e;cases e;exact qgr (Heap.get?_push_size _ hfo)
   · rw[qh z3]at e;by_cases z2:b=c'
     · subst z2;rw[qd]at e;cases e;exact qiu (hr.push fo)
     · rw[qh z2]at e;by_cases z1:b=T
       · subst z1;rw[qd]at e;cases e;exact Heap.get?_push_of_some _ ht
       · rw[qh z1]at e;refine(I.hok b u e).stay (fun c v hc g=>kp c v (fun z=>?_) g) (fun c r=>same r (by intro z;cases z)) fun c xs r=>same r (by intro z;cases z);rcases hc with hc|hc
         · exact z1 (hc▸z)
         · rw[z,hT]at hc;cases hc
def qfr (X:Cx) (params:Arguments) (body:Expr) (scope:Scope) (c:Addr) (o:Obj):Prop :=
 ∃ pm ctv,o=PySem.W.kla_obj "<lambda>" (X.env.qual++"<lambda>") params body scope (zU X.env.cells scope.names []) pm c ctv
end
section
variable {X:Cx}{pins:List (Addr×Obj)}{σ:List (Option V)}{H:Hp}{s:Shared}{h':Heap}
theorem Inv.keptL {t':Nat} (I:Inv X pins σ H s) (k:∀ b u,b≠X.env.locals->s.heap.get? b=some u->h'.get? b=some u) (ns:∀ m,s.heap.Ns X.env.locals m->h'.Ns X.env.locals m) :
   Inv X pins σ H { s with heap:=h',toks:=t' }:=by
 have nL:∀ b u,H b=some u->b≠X.env.locals:=fun b u e z=>by rw[z,I.free]at e;cases e
 refine I.step (g':=s.gens) (d':=s.drawn) (ch:=[]) (fun _ z=>nomatch z) (fun b o hb _ _ e _=>k b o hb e) (fun b o hb _ _ e _=>⟨o.slots,k b o hb e⟩) (fun b o _ e n=>n) (fun b o _ e=>?_)
   (fun b xs q=>q) (fun b u xs q=>q) (fun b ps q=>⟨#[],by rw[q];simp⟩) ns (fun b u e=>?_) I.bare
 · by_cases z:b=X.env.locals
   · obtain⟨m,hm,_⟩:=I.loc;obtain⟨o',_,_,ho',_⟩:=ns m hm;exact⟨o',by rw[z];exact ho'⟩
   · exact⟨o,k b o z e⟩
 · refine(I.hok b u e).stay (fun c v hc q=>k c v ?_ q) (fun c q=>q) fun c xs q=>q;rcases hc with z|z
   · rw[z];exact nL b u e
   · exact nL c _ z
theorem Inv.keptN {t':Nat}{m:Str->Option Value} (I:Inv X pins σ H s) (F:Fr X.base X.env.locals s.heap m) (F':Fr X.base X.env.locals h' m) (N':News X.base X.env.locals h' (qdy X.base s.heap X.env.locals)) :
   Inv X pins σ H { s with heap:=h',toks:=t' }:=by
 refine I.keptL (fun b u ne q=>?_) fun m' hm=>?_
 · cases z:X.base.get? b with
   | some o =>
     have:=I.bk b o z
     rw[q]at this;cases this;exact F'.keep b _ z
   | none=>exact(N' _ (Jh q ne z)).1
 · rw[qi4 hm F.ns];exact F'.ns
inductive qf2 (K:Frag) (xs:List V) (H:Hp) (Q:VK):Prop
 | mk (l:Addr) (ns:List Int) (h1:xs=[.ref l]) (h2:SqL K H l (ns.map V.int)) (h3:Q (.int ns.sum) H):qf2 K xs H Q
def qkR (K:Frag):List V->Hp->VK->Prop:=fun xs H Q=>qf2 K xs H Q
theorem qg9 (hc:X.calm=true):CallR X (.builtin "sum") (qkR X.K):=by
 intro pins s σ H xs us Q I r h;obtain⟨l,ns,rfl,hq,q⟩:=h;obtain⟨u,rfl,ru⟩:=JS r;cases (show u=Value.ref l from ru);obtain⟨its,rv,p,hz⟩:=I.list hq;obtain⟨m,F⟩:=I.fr;exact LSm.sum_ints F (qbS X.base s.heap X.env.locals) (I.ok.hd hc) p.isList (qeJ rv) fun h' tk t' F' N'=>⟨.int ns.sum,H,I.keptN F F' N',⟨t',rfl⟩,q⟩
end
end L2
namespace SetO
open PySem
end SetO
set_option maxHeartbeats 8000000
namespace L2
open PySem PySem.Spec PyProof.Rows
open PySem.W (Frag fnOf kla_obj envX)
inductive qeu (K:Frag) (x:V) (y:V) (H:Hp) (Q:VK):Prop
 | mk (p b xs:_) (h1:x=.ref p) (h2:y=.ref b) (h3:SqL K H p xs) (h4:SqL K H b []) (h5:Q (.bl (!xs.isEmpty)) H):qeu K x y H Q
def qkS (K:Frag):R2:=fun x y H Q=>qeu K x y H Q
theorem qhO {X:Cx} (hu:X.A.units+64 < cLine):OpR X (compareOp .NotEq) (qkS X.K):=by
 intro pins s σ H x y v u Q I rx ry h;obtain⟨p,b,xs,rfl,rfl,hp,hb,q⟩:=h;cases rx;cases ry;obtain⟨its,rv,pl,_⟩:=I.list hp;obtain⟨its2,rv2,pl2,_⟩:=I.list hb;cases rv2;have hl:=rv.length
 cases xs with
 | nil =>
   cases rv;exact SeqAt.RcNeAt.lists (e:=fun _=>true) pl.isList pl2.isList rfl (by omega) (fun j h1 h2=>by simp at h1) _ _ _ _ ⟨.bl false,H,I,rfl,q⟩
 | cons a r=>exact SeqAt.RcNeAt.lists_lengths pl.isList pl2.isList (by simp;intro z;rw[z]at hl;cases hl) (by omega) _ _ _ _ ⟨.bl true,H,I,rfl,q⟩
def qa0 (c:Addr) (v:V):Heap->Prop:=fun h=>∃ u,RelV v u∧h.IsCell c (some u)
def backL (H:Hp) (cs:List Addr) (H2:Hp):Hp:=fun b=>if b∈cs then H b else H2 b
theorem Qs {H H2:Hp}{cs:List Addr}{b:Addr} (h:b∉cs):backL H cs H2 b=H2 b:=by unfold backL;rw[if_neg h]
theorem qeV {H H2:Hp}{cs:List Addr}{b:Addr} (h:b∈cs):backL H cs H2 b=H b:=by unfold backL;rw[if_pos h]
theorem QX {H:Hp}{cs:List Addr}:backL H cs (cut H cs)=H:=by
 funext b;by_cases z:b∈cs
 · rw[qeV z]
 · rw[Qs z,qaV z]
section
variable {P:Program}{w:World}{H H2:Hp}{h h':Heap}{cs:List Addr}{c:Addr}{v:V}
theorem qiv (x:qa0 c v h):ObjOk P w H h c (.ext (qa0 c v)):=by
 obtain⟨u,r,o,e,d⟩:=id x;exact⟨x,⟨o,e⟩,fun h1 h2 ⟨u,r,o,e,d⟩ k=>⟨u,r,o,k _ e,d⟩⟩
theorem HOk.cutL (ok:HOk P w H h) (e:∀ c∈cs,∃ φ,H c=some (.ext φ)):HOk P w (cut H cs) h:=fun b u q=>by
 have nb:b∉cs:=fun z=>by rw[qeS z]at q;cases q
 have out:∀ c v,H c=some v->(∀ φ,v≠.ext φ)->cut H cs c=some v:=fun c v r nv=>by
   rw[qaV fun z=>by obtain⟨φ,e⟩:=e c z;rw[e]at r;exact nv φ (Option.some.inj r).symm];exact r
 rw[qaV nb]at q;exact(ok b u q).stay (fun _ _ _ z=>z) (fun c r=>out c _ r (by intro φ z;cases z)) fun c xs r=>out c _ r (by intro φ z;cases z)
theorem HOk.backL (ok:HOk P w H h) (e:∀ c∈cs,∃ φ,H c=some (.ext φ)) (ok2:HOk P w H2 h') (n2:∀ c∈cs,H2 c=none) (k:∀ c∈cs,∀ o,h.get? c=some o->h'.get? c=some o):HOk P w (backL H cs H2) h':=fun b u q=>by
 by_cases z:b∈cs
 · obtain⟨φ,e⟩:=e b z;rw[qeV z,e]at q;cases q;obtain⟨f,⟨o,g⟩,st⟩:=(show ObjOk P w H h b (.ext φ) from ok b _ e)
   exact⟨st h h' f (k b z),⟨o,k b z o g⟩,st⟩
 · rw[Qs z]at q;have out:∀ c v,H2 c=some v->L2.backL H cs H2 c=some v:=fun c v r=>by rw[Qs fun z=>by rw[n2 c z]at r;cases r];exact r
   exact(ok2 b u q).stay (fun _ _ _ z=>z) (fun c r=>out c _ r) fun c xs r=>out c _ r
end
inductive Clo (H:Hp) (f:Addr) (qual:Str) (params:Arguments) (body:Expr) (scope:Scope) (fv:List (Str×V)):Prop
 | mk (cl:List (Str×Addr)) (c:Addr) (pm ctv:Value) (hf:H f=some (.ext (qcz f (kla_obj "<lambda>" qual params body scope cl pm c ctv)))) (hc:H c=some (.ext (ZU c qual)))
     (cells:∀ x d,cl.lookup x=some d->∃ v,fv.lookup x=some v∧H d=some (.ext (qa0 d v))) (all:∀ x v,fv.lookup x=some v->∃ d,cl.lookup x=some d) (inj:∀ x y d,cl.lookup x=some d->cl.lookup y=some d->x=y):Clo H f qual params body scope fv
theorem Clo.mp {H H':Hp}{f:Addr}{qual:Str}{params:Arguments}{body:Expr}{scope:Scope}{fv:List (Str×V)} (h:Clo H f qual params body scope fv) (k:∀ b φ,H b=some (.ext φ)->H' b=some (.ext φ)):Clo H' f qual params body scope fv:=by
 obtain⟨cl,c,pm,ctv,hf,hc,cells,all,inj⟩:=h;exact⟨cl,c,pm,ctv,k _ _ hf,k _ _ hc,fun x d e=>let ⟨v,e1,e2⟩:=cells x d e;⟨v,e1,k _ _ e2⟩,all,inj⟩
def cxC (P:Program) (w:World) (K:Frag) (mg:Str->Option Value) (base:Heap) (N:List Str) (qual:Str) (scope:Scope) (f c:Addr) (cl:List (Str×Addr)) (A:Around) (outer:List Env) (s:Shared) (H:Hp):Cx where
 prog:=P
 w:=w
 K:=K
 mg:=mg
 base:=base
 A:=A.deeper (envX qual scope s.heap.objs.size f (.ref c) cl)
 N:=N
 s₀:=s
 H₀:=H
 env:=envX qual scope s.heap.objs.size f (.ref c) cl
 outer:=outer
 stack:=envX qual scope s.heap.objs.size f (.ref c) cl::outer
 ex:=[]
 fn:=fun x=>!(cl.lookup x).isSome
 calm:=true
 pn:=[]
 xe:=fun _ _=>False
def fcs (cl:List (Str×Addr)) (fv:List (Str×V)):List Addr:=fv.filterMap fun y=>cl.lookup y.1
structure qlE (params:Arguments) (body:Expr) (scope:Scope) (ps fs:List Str):Prop where
 co:scope.isCoroutine=false
 gen:scope.isGenerator=false
 kind:scope.kind=.function
 cell:∀ x∈scope.names,x.2≠.cell
 free:∀ y∈scope.names,y.2=.free->y.1∈fs
 loc:∀ x∈ps,scope.names.lookup x=some .local
 fre:∀ x∈fs,scope.names.lookup x=some .free
 bind:∀ (qual:Str) (cl:List (Str×Addr)) (pm cdv ct:Value) (us:List Value),us.length=ps.length->bindArgs (PySem.W.kla_fn "<lambda>" qual params body scope cl pm cdv ct) ⟨us,[]⟩=pure (ps.zip us)
 nd:(ps++fs).Nodup
theorem qeH {α:Type}{x:Str}{v:α}:∀ {l:List (Str×α)},(l.map (·.1)).Nodup->(x,v)∈l->l.lookup x=some v
 | y::r,nd,h=>by
   have n:=List.nodup_cons.mp nd;rcases List.mem_cons.mp h with z|m
   · subst z;exact List.lookup_cons_self
   · have mm:x∈r.map (·.1):=List.mem_map.mpr ⟨(x,v),m,rfl⟩
     have ne:(x == y.1)=false:=by
       rw[beq_eq_false_iff_ne];intro z;rw[z]at mm;exact n.1 mm
     rw[List.lookup_cons,ne];exact qeH n.2 m
theorem qd3 {k:Nat}{P:Program}{w:World}{K:Frag}{mg:Str->Option Value}{base:Heap}{f:Addr}{qual:Str}{params:Arguments}{body:Expr}{scope:Scope}{ps:List Str}{fv:List (Str×V)} (L:qlE params body scope ps (fv.map (·.1)))
   {A:Around}{outer:List Env}{s:Shared}{H:Hp}{us:List Value}{vs:List V}{Q:VK} (hr:Room (k+1) A) (e0:Env0 P w K mg base A outer s H) (C:Clo H f qual params body scope fv) (r:Vals vs us) (hl:vs.length=ps.length)
   (hbody:∀ (cl:List (Str×Addr)) (c:Addr),(∀ d∈fcs cl fv,∃ y v,fv.lookup y=some v∧H d=some (.ext (qa0 d v)))->Room k (A.deeper (envX qual scope s.heap.objs.size f (.ref c) cl))->(∀ b v,H b=some v->(∀ φ,v≠.ext φ)->cut H (fcs cl fv) b=some v) ->
     ∃ te,PE (cxC P w K mg base (ps++fv.map (·.1)) qual scope f c cl A outer s (cut H (fcs cl fv))) body te∧te (vs.map some++fv.map fun y=>some y.2) (cut H (fcs cl fv)) fun v H'=>Q v (backL H (fcs cl fv) H')) :
   codeAny (model P w) A (.call (.ref f) ⟨us,[]⟩) (CR CX0 outer P w H s Q E0) s:=by
 obtain⟨cl,c,pm,ctv,hf,hc,cells,all,inj⟩:=C;have ff:s.heap.get? f=some _:=((show ObjOk P w H s.heap f (.ext (qcz f _)) from e0.hok f _ hf)).1;have cc:s.heap.CodeRec (.ref c) qual:=((show ObjOk P w H s.heap c (.ext (ZU c qual)) from e0.hok c _ hc)).1;have lim:s.heap.NoLimit:=e0.mod.nolimit.keeps fun b o e=>(e0.bs b o e).1;have ul:us.length=ps.length:=by rw[← r.length];exact hl
 have csx:∀ d∈fcs cl fv,∃ v,H d=some (.ext (qa0 d v)):=fun d m=>by
   obtain⟨y,_,e⟩:=List.mem_filterMap.mp m;obtain⟨v,_,q⟩:=cells _ _ e;exact⟨v,q⟩
 have csin:∀ x d,cl.lookup x=some d->d∈fcs cl fv:=fun x d e=>by
   obtain⟨v,q,_⟩:=cells x d e;exact List.mem_filterMap.mpr ⟨(x,v),PySem.mem_of_lookup q,e⟩
 have cex:∀ d∈fcs cl fv,∃ φ,H d=some (.ext φ):=fun d m=>let ⟨v,q⟩:=csx d m;⟨_,q⟩
 have cn:∀ b,H b=none->cut H (fcs cl fv) b=none:=fun b n=>by
   unfold cut;split
   · rfl
   · exact n
 have e1:Env0 P w K mg base A outer s (cut H (fcs cl fv)):=⟨e0.frames,e0.mod,fun b o q=>⟨(e0.bs b o q).1,cn b (e0.bs b o q).2⟩,e0.bsz,e0.funs,fun b m=>cn b (e0.frf b m),e0.hok.cutL cex,e0.bare⟩
 refine PySem.W.kla_callFunE hr.depth ff rfl L.co L.gen rfl cc ?_;rw[show bindArgs _ _=_ from L.bind _ _ _ _ _ us ul];refine wpAny_pure (wpAny_newFunctionEnv L.cell (fun x hx=>L.loc _ (List.of_mem_zip hx).1) (fun h₁ hns hsb=>⟨lim.fresh _ hsb,?_⟩) L.kind);have hk₁:∀ b o,s.heap.get? b=some o->h₁.get? b=some o:=fun b o e=>hsb.extBut b o (Nat.ne_of_lt (Heap.lt_size e)) (Heap.get?_push_of_some _ e);show codeAny _ _ (.expr _ (envX qual scope s.heap.objs.size f (.ref c) cl)) _ _;refine PySem.W.kla_codeExpr ?_
 obtain⟨te,hte,hq⟩:=hbody cl c (fun d m=>by
   obtain⟨y,_,e⟩:=List.mem_filterMap.mp m;obtain⟨v,q,z⟩:=cells _ _ e
   exact⟨y.1,v,q,z⟩) (hr.deeper _) fun b v r nv=>(qaV fun z=>by obtain⟨φ,e⟩:=cex b z;rw[e]at r;exact nv φ (Option.some.inj r).symm).trans r
 have noA:∀ b:Addr,b∉(cxC P w K mg base (ps++fv.map (·.1)) qual scope f c cl A outer s (cut H (fcs cl fv))).ex:=fun b z=>absurd (show b∈([]:List Addr) from z) (by simp);have ndp:ps.Nodup:=(List.nodup_append.mp L.nd).1;have ndf:(fv.map (·.1)).Nodup:=(List.nodup_append.mp L.nd).2.1
 have zk:((ps.zip us).reverse.map (·.1)).Nodup:=by
   rw[List.map_reverse];rw[show (ps.zip us).map (·.1)=ps from List.map_fst_zip (by omega)];exact List.pairwise_reverse.mpr (List.Pairwise.imp Ne.symm ndp)
 have isc:∀ x d,cl.lookup x=some d->∃ v u,fv.lookup x=some v∧RelV v u∧s.heap.IsCell d (some u):=fun x d e=>by
   obtain⟨v,q,hd⟩:=cells x d e;obtain⟨⟨u,rv,ic⟩,_,_⟩:=(show ObjOk P w H s.heap d (.ext (qa0 d v)) from e0.hok d _ hd)
   exact⟨v,u,q,rv,ic⟩
 have up:∀ {d:Addr}{v:Option Value},s.heap.IsCell d v->h₁.IsCell d v:=fun⟨o,e,d⟩=>⟨o,hk₁ _ _ e,d⟩
 have I:Inv (cxC P w K mg base (ps++fv.map (·.1)) qual scope f c cl A outer s (cut H (fcs cl fv))) [] (vs.map some++fv.map fun y=>some y.2) (cut H (fcs cl fv)) { heap:=h₁,gens:=s.gens,drawn:=s.drawn,toks:=s.toks+(ps.zip us).length,os:=s.os }:=by
   refine⟨⟨e0.mod,L.kind,rfl,rfl,Nat.le_refl _,inj,fun y hy=>?_,fun y d h1 h2=>?_,fun _=>hr.hd,Around.frames_deeper e0.frames,.inr ⟨rfl,rfl⟩,fun b z=>absurd z (noA b),e1.bs,e1.bsz,fun b _ _=>noA b,fun b z=>absurd z (noA b),e0.funs,e1.frf⟩,
     rfl,e0.bare,Un.kept hk₁,⟨_,hns,fun i y v h1 h2 h3=>?_⟩,fun y d h=>?_,e1.hok.fresh (Nat.le_refl _),fun y d h=>qeS (csin y d h),fun p hp=>absurd (show p∈([]:List (Addr×Obj)) from hp) (by simp),e1.hok.kept hk₁,?_⟩
   · have hy:scope.names.lookup y=some .cell∨scope.names.lookup y=some .free:=hy;rcases hy with hy|hy
     · exact absurd rfl (L.cell _ (PySem.mem_of_lookup hy))
     · obtain⟨z,mz,ez⟩:=List.mem_map.mp (L.free _ (PySem.mem_of_lookup hy) rfl);obtain⟨d,hd⟩:=all z.1 z.2 (qeH ndf mz);exact⟨d,by rw[← show z.1=y from ez];exact hd⟩
   · have h1:(!(cl.lookup y).isSome)=true:=h1;have h2:cl.lookup y=some d:=h2;rw[h2]at h1;cases h1
   · have h1:(ps++fv.map (·.1))[i]?=some y:=h1;by_cases lt:i < ps.length
     · rw[List.getElem?_append_left lt]at h1;rw[List.getElem?_append_left (by rw[List.length_map,hl];exact lt),List.getElem?_map]at h2;obtain⟨v',hv,ev⟩:=Option.map_eq_some_iff.mp h2;cases ev;obtain⟨u,hu,rv⟩:=r.get hv;refine⟨u,rv,.inl ⟨L.loc y (List.mem_of_getElem? h1),?_⟩⟩;refine qeH zk (List.mem_reverse.mpr (List.mem_of_getElem? (i:=i) ?_));rw[List.getElem?_zip_eq_some];exact⟨h1,hu⟩
     · rw[List.getElem?_append_right (by omega)]at h1;rw[List.getElem?_append_right (by rw[List.length_map,hl];omega),List.length_map,hl]at h2;rw[List.getElem?_map]at h1 h2;obtain⟨z,hz,ez⟩:=Option.map_eq_some_iff.mp h1;rw[hz]at h2;cases h2;have lk:=qeH ndf (x:=z.1) (v:=z.2) (List.mem_of_getElem? hz);obtain⟨d,hd⟩:=all z.1 z.2 lk;obtain⟨v',u,q,rv,ic⟩:=isc z.1 d hd;rw[lk]at q;cases q;refine⟨u,rv,.inr ⟨.inr ?_,d,?_,up ic⟩⟩
       · rw[← show z.1=y from ez];exact L.fre _ (List.mem_map.mpr ⟨z,List.mem_of_getElem? hz,rfl⟩)
       · rw[← show z.1=y from ez];exact hd
   · obtain⟨v,u,_,_,ic⟩:=isc y d h;exact⟨_,up ic⟩
   · show (vs.map some++fv.map fun y=>some y.2).length=(ps++fv.map (·.1)).length;rw[List.length_append,List.length_append,List.length_map,List.length_map,List.length_map,hl]
 refine wpAny_mono (hte [] _ _ _ _ I hq) (fun u s' hs=>?_) fun e s' hs=>hs.elim;obtain⟨v,H',J,rv,q⟩:=hs;have un:=J.base;have nx:∀ b:Addr,b∉([]:List Addr):=fun b=>by simp
 have cold:∀ d∈fcs cl fv,∃ o,s.heap.get? d=some o∧d∉frs outer:=fun d m=>by
   obtain⟨v,q⟩:=csx d m;obtain⟨⟨u,_,o,e,_⟩,_,_⟩:=(show ObjOk P w H s.heap d (.ext (qa0 d v)) from e0.hok d _ q)
   exact⟨o,e,fun z=>by rw[e0.frf d z]at q;cases q⟩
 have n2:∀ d∈fcs cl fv,H' d=none:=fun d m=>let ⟨o,e,_⟩:=cold d m;un.free d o e (qeS m) (nx d);have kp:∀ d∈fcs cl fv,∀ o,s.heap.get? d=some o->s'.heap.get? d=some o:=fun d m o e=>un.keep d o e (qeS m) (let ⟨_,_,z⟩:=cold d m;z) (nx d)
 have out:∀ b v,H b=some v->(∀ φ,v≠.ext φ)->cut H (fcs cl fv) b=some v∧b∉fcs cl fv:=fun b v r nv=>by
   have nb:b∉fcs cl fv:=fun z=>by obtain⟨φ,e⟩:=cex b z;rw[e]at r;exact nv φ (Option.some.inj r).symm
   exact⟨(qaV nb).trans r,nb⟩
 refine⟨v,backL H (fcs cl fv) H',J.os,J.bare,⟨fun b o q n=>un.keep b o q (cn b n),fun b o q n=>un.slot b o q (cn b n),fun b o q n hx=>?_,un.there,fun b xs q=>?_,fun b o u q=>?_,fun b qs q=>?_⟩,e0.hok.backL cex J.hok n2 kp,rv,q⟩
 · have nb:b∉fcs cl fv:=fun z=>by obtain⟨φ,e⟩:=cex b z;rw[e]at n;cases n
   rw[Qs nb];exact un.free b o q (cn b n) hx
 · obtain⟨a1,a2⟩:=out b _ q (by intro φ z;cases z);rw[Qs a2];exact un.tups b xs a1
 · obtain⟨a1,a2⟩:=out b _ q (by intro φ z;cases z);rw[Qs a2];exact un.frzs b o u a1
 · obtain⟨a1,a2⟩:=out b _ q (by intro φ z;cases z);rw[Qs a2];exact un.tbls b qs a1
structure qiB where
 nx:St->Hp->Prop
 rt:V->St->Hp->Prop
abbrev TSK:=qiB->St->Hp->Prop
def SPK (X:Cx) (pins:List (Addr×Obj)) (D:qiB) (fl:Flow) (s':Shared):Prop :=
 match fl with
 | .next=>∃ σ' H',Inv X pins σ' H' s'∧D.nx σ' H'
 | .ret u=>∃ v σ' H',Inv X pins σ' H' s'∧RelV v u∧D.rt v σ' H'
 | _=>False
def PSK (X:Cx) (st:Stmt) (t:TSK):Prop :=
 ∀ (pins:List (Addr×Obj)) (s:Shared) (σ:St) (H:Hp) (D:qiB),Inv X pins σ H s->t D σ H->wpAny (model X.prog X.w) X.A (exec st X.env) (SPK X pins D) X.xe s
def qjo (X:Cx) (st:List Stmt) (t:TSK):Prop :=
 ∀ (pins:List (Addr×Obj)) (s:Shared) (σ:St) (H:Hp) (D:qiB),Inv X pins σ H s->t D σ H->wpAny (model X.prog X.w) X.A (execs st X.env) (SPK X pins D) X.xe s
section
variable {X:Cx}{st:Stmt}{rest:List Stmt}{t u:TSK}{pos:Pos}{e:Expr}{te:TE}
def qma:TSK:=fun D σ H=>D.nx σ H
def qm3 (t u:TSK):TSK:=fun D σ H=>t { D with nx:=u D } σ H
def qm4 (te:TE):TSK:=fun D σ H=>te σ H fun v H'=>D.rt v σ H'
def kIf (c:TT) (t u:TSK):TSK:=fun D σ H=>c σ H fun b H1=>if b=true then t D σ H1 else u D σ H1
theorem qhE:qjo X [] qma:=fun _ _ σ H _ I h=>wpAny_execs_nil ⟨σ,H,I,h⟩
theorem qf6 (h1:PSK X st t) (h2:qjo X rest u):qjo X (st::rest) (qm3 t u):=by
 intro pins s σ H D I h;refine wpAny_execs_cons (thn (h1 pins s σ H { D with nx:=u D } I h) fun f s1 q=>?_)
 cases f with
 | next =>
   obtain⟨σ',H',I',q⟩:=q;exact h2 pins s1 σ' H' D I' q
 | ret v=>exact q
 | brk=>exact q.elim
 | cont=>exact q.elim
theorem qb8 (h1:PSK X st t):qjo X [st] t:=by
 intro pins s σ H D I h;refine wpAny_execs_cons (thn (h1 pins s σ H D I h) fun f s1 q=>?_)
 cases f with
 | next=>exact wpAny_execs_nil q
 | ret v=>exact q
 | brk=>exact q.elim
 | cont=>exact q.elim
theorem qdN (he:PE X e te):PSK X (.Return (some e) pos) (qm4 te):=by
 intro pins s σ H D I h;exact wpAny_Return_some (thn (he pins s σ H _ I h) fun v s1 ⟨x,H1,I1,r1,q1⟩=>⟨x,σ,H1,I1,r1,q1⟩)
theorem qkX {c:Expr}{a b:List Stmt}{tc:TT} (hc:PT X c tc) (ha:qjo X a t) (hb:qjo X b u):PSK X (.If c a b pos) (kIf tc t u):=by
 intro pins s σ H D I h;refine wpAny_If (thn (hc pins s σ H _ I h) fun d s1 zz_=>?_);obtain⟨H1,I1,q1⟩:=zz_
 cases d with
 | true=>exact ha pins s1 σ H1 D I1 q1
 | false=>exact hb pins s1 σ H1 D I1 q1
end
structure jy (N:List Str) (scope:Scope) (cells:List (Str×Addr)) (σ:St) (H H':Hp):Prop where
 s:Same H H'
 at_:∀ (i:Nat) (y:Str) (v:V),N[i]?=some y->σ[i]?=some (some v)->scope.names.lookup y=some .cell->∃ c,cells.lookup y=some c∧H' c=some (.ext (qa0 c v))
 inj:∀ x y c,cells.lookup x=some c->cells.lookup y=some c->x=y
theorem qls {P:Program}{w:World}{K:Frag}{mg:Str->Option Value}{base:Heap}{k:Nat}{f:Addr}{name qual:Str}{params:Arguments}{body:List Stmt}{scope:Scope}{dV kV doc pm cdv ct oc:Value}{an od:Option Addr}
   {osl:Array (Option Value)}{N ps:List Str}{sp:Sp} (lk:K.lookup f=some ⟨oc,od,.func (fnOf name qual params body scope dV kV doc pm an cdv ct),osl⟩) (hcd:PySem.W.codeIn K cdv qual=true) (S:qm N ps scope)
   (len:∀ vs H Q E,sp vs H Q E->vs.length=ps.length)
   (hbody:∀ (A:Around) (outer:List Env) (s:Shared) (H:Hp) (vs:List V) (Q:VK) (E:XK),Room k (A.deeper (envOfC qual scope s.heap.objs.size f cdv))->sp vs H Q E ->
     ∃ t,qjo (zi CX0 P w K mg base N qual scope f cdv A outer s H E) body t∧t { nx:=fun _ _=>False,rt:=fun v σ' H'=>∀ H'',jy N scope (cellsFrom (s.heap.objs.size+1) scope.names []) σ' H' H''->Q v H'' } (JT N vs) H) :
   qy P w K mg base CX0 (k+1) f (fnOf name qual params body scope dV kV doc pm an cdv ct) ps sp:=by
 refine⟨len,fun A outer s H args us vs Q E hr e0 hb r hsp=>?_⟩;have hl:=len _ _ _ _ hsp;have KX:K.In s.heap:=e0.mod.kin.keeps fun b o e=>(e0.bs b o e).1;have lim:s.heap.NoLimit:=e0.mod.nolimit.keeps fun b o e=>(e0.bs b o e).1
 have hkind:∀ y∈ps.zip us,scope.names.lookup y.1=some .local∨(scope.names.lookup y.1=some .cell∧((cellsFrom (s.heap.objs.size+1) scope.names []).lookup y.1).isSome=true):=fun⟨n,v⟩ hy=>by
   rcases S.par n (List.of_mem_zip hy).1 with q|q
   · exact .inl q
   · exact .inr ⟨q,PySem.W.cellsFrom_some _ _ _ (.inl q)⟩
 refine codeAny_call_function hr.depth (KX _ _ lk) rfl S.co S.gen rfl (PySem.W.codeRec_of KX hcd) (hb _ _ _ _ ?_);refine wpAny_newFunctionEnv_cells S.kind hkind fun env he s1 x=>?_;subst he;refine⟨lim.keeps x.toInCall.keep,codeAny_func ?_⟩;obtain⟨t,ht,hq⟩:=hbody A outer s H vs Q E (hr.deeper _) hsp;have I:Inv (zi CX0 P w K mg base N qual scope f cdv A outer s H E) [] (JT N vs) H s1:=qdl S hr.hd e0 hl r x;refine wpAny_mono (ht [] s1 (JT N vs) H _ I hq) (fun fl s' hs=>?_) fun e s' hs=>hs
 cases fl with
 | next=>obtain⟨_,_,_,q⟩:=hs;exact q.elim
 | brk=>exact hs.elim
 | cont=>exact hs.elim
 | ret u =>
   obtain⟨v,σ',H',J,rv,q⟩:=hs;let Cl:Addr->V->Prop:=fun b z=>∃ (i:Nat) (y:Str),N[i]?=some y∧σ'[i]?=some (some z)∧scope.names.lookup y=some .cell∧(cellsFrom (s.heap.objs.size+1) scope.names []).lookup y=some b
   have one:∀ b z z',Cl b z->Cl b z'->z=z':=fun b z z' ⟨i,y,h1,h2,_,h4⟩ ⟨i',y',h1',h2',_,h4'⟩=>by
     have ey:y=y':=J.ok.inj y y' b h4 h4';subst ey;obtain⟨l1,g1⟩:=List.getElem?_eq_some_iff.mp h1;obtain⟨l2,g2⟩:=List.getElem?_eq_some_iff.mp h1';have ei:i=i':=(List.getElem_inj S.nd).mp (g1.trans g2.symm);subst ei;rw[h2]at h2';cases h2';rfl
   have old:∀ b z,Cl b z->H' b=none∧s.heap.objs.size≤b:=fun b z ⟨i,y,h1,h2,_,h4⟩=>⟨J.freeC y b h4,J.ok.cab y b rfl h4⟩
   open Classical in
   let H'':Hp:=fun b=>if h:∃ z,Cl b z then some (.ext (qa0 b h.choose)) else H' b
   have in_:∀ b z,Cl b z->H'' b=some (.ext (qa0 b z)):=fun b z h=>by
     have e:∃ z,Cl b z:=⟨z,h⟩
     show (if h:∃ z,Cl b z then some (.ext (qa0 b h.choose)) else H' b)=_;rw[dif_pos e,one b _ z e.choose_spec h]
   have out:∀ b,(¬ ∃ z,Cl b z)->H'' b=H' b:=fun b n=>dif_neg n
   have sm:Same H' H'':=fun b o e=>by
     rw[out b (fun⟨z,h⟩=>by rw[(old b z h).1]at e;cases e)];exact e
   refine⟨v,H'',J.os,J.bare,⟨J.base.keep,J.base.slot,fun b o e n hx=>?_,J.base.there,fun b xs e=>sm _ _ (J.base.tups b xs e),fun b o u e=>sm _ _ (J.base.frzs b o u e),fun b ps e=>?_⟩,fun b o e=>?_,rv,q H'' ⟨sm,fun i y z h1 h2 h3=>?_,J.ok.inj⟩⟩
   · rw[out b (fun⟨z,h⟩=>absurd (Heap.lt_size e) (Nat.not_lt.mpr (old b z h).2))];exact J.base.free b o e n hx
   · obtain⟨more,z⟩:=J.base.tbls b ps e;exact⟨more,sm _ _ z⟩
   · by_cases z:∃ z,Cl b z
     · obtain⟨z,h⟩:=z;rw[in_ b z h]at e;cases e;obtain⟨i,y,h1,h2,h3,h4⟩:=h;obtain⟨m,_,hl⟩:=J.loc;obtain⟨u',ru,lk'⟩:=hl i y z h1 h2 (.inr (.inl h3));refine qiv ⟨u',ru,?_⟩;rcases lk' with ⟨kl,_⟩|⟨_,c0,hc0,ic⟩
       · have:scope.names.lookup y=some .local:=kl
         rw[h3]at this;cases this
       · have:(cellsFrom (s.heap.objs.size+1) scope.names []).lookup y=some c0:=hc0
         rw[h4]at this;cases this;exact ic
     · rw[out b z]at e;exact(J.hok b o e).stay (fun _ _ _ z=>z) (fun c r=>sm _ _ r) fun c xs r=>sm _ _ r
   · have hv:((cellsFrom (s.heap.objs.size+1) scope.names []).lookup y).isSome=true:=PySem.W.cellsFrom_some _ _ _ (.inl h3);obtain⟨c,hc⟩:=Option.isSome_iff_exists.mp hv;exact⟨c,hc,in_ c z ⟨i,y,h1,h2,h3,hc⟩⟩
theorem Fun.okK {P:Program}{w:World}{K:Frag}{mg:Str->Option Value}{base:Heap}{x qual:Str}{st:Stmt}{f c:Addr}{fd:FuncData}{N ps:List Str}{k:Nat}{sp:Sp} (F:Fun K x qual st f fd) (hc:fd.code=.ref c) (S:qm N ps (qg st)) (len:∀ vs H Q E,sp vs H Q E->vs.length=ps.length)
   (hbody:∀ (cdv:Value) (A:Around) (outer:List Env) (s:Shared) (H:Hp) (vs:List V) (Q:VK) (E:XK),cdv=.ref c->Room k (A.deeper (envOfC qual (qg st) s.heap.objs.size f cdv))->sp vs H Q E ->
     ∃ t,qjo (zi CX0 P w K mg base N qual (qg st) f cdv A outer s H E) (zK st) t∧t { nx:=fun _ _=>False,rt:=fun v σ' H'=>∀ H'',jy N (qg st) (cellsFrom (s.heap.objs.size+1) (qg st).names []) σ' H' H''->Q v H'' } (JT N vs) H):qy P w K mg base CX0 (k+1) f fd ps sp:=by
 obtain⟨oc,od,kV,doc,pm,an,cdv,ct,osl,rfl,lk,hcd⟩:=F.ex;exact qls lk hcd S len fun A outer s H vs Q E hr hsp=>hbody cdv A outer s H vs Q E hc hr hsp
def qmI (P:Program) (w:World) (K:Frag) (mg:Str->Option Value) (base:Heap) (k:Nat) (f:Addr) (sp:Sp):Prop :=
 ∀ (A:Around) (outer:List Env) (s:Shared) (H:Hp) (us:List Value) (vs:List V) (Q:VK),Room k A->Env0 P w K mg base A outer s H->Vals vs us->sp vs H Q E0->codeAny (model P w) A (.call (.ref f) ⟨us,[]⟩) (CR CX0 outer P w H s Q E0) s
section
variable {X:Cx}{x:Str}{p pos:Pos}{e:Expr}{es:List Expr}{t:TA}{tv:TE}{k:Nat}{Ok:Addr->Sp->Prop}
inductive qd8 (Ok:Addr->Sp->Prop) (t:TA) (σ:St) (Q:VK) (fv:V) (H1:Hp):Prop
 | mk (f:Addr) (sp:Sp) (o:Obj) (fd:FuncData) (h1:fv=.ref f) (h2:H1 f=some (.ext (qcz f o))) (h3:o.data=.func fd) (h4:Ok f sp) (h5:t σ H1 fun vs H2=>H2 f=some (.ext (qcz f o))∧sp vs H2 Q E0):qd8 Ok t σ Q fv H1
def qkF (Ok:Addr->Sp->Prop) (tv:TE) (t:TA):TE:=fun σ H Q=>tv σ H fun fv H1=>qd8 Ok t σ Q fv H1
theorem qhN (hv:PE X (.Name x p) tv) (hr:Room k X.A) (hO:∀ f sp,Ok f sp->qmI X.prog X.w X.K X.mg X.base k f sp) (ha:PA X (e::es) t)
   (hes:backTo pos (starEach (e::es) X.env)=(false,eval e X.env)::backTo pos (starEach es X.env):=by rfl):PE X (.Call (.Name x p) (e::es) [] pos) (qkF Ok tv t):=by
 intro pins s σ H Q I h;refine wpAny_Call_Name_kw (thn (hv pins s σ H _ I h) fun v s1 zz_=>?_);obtain⟨fv,H1,I1,r1,q1⟩:=zz_;obtain⟨f,sp,o,fd,rfl,hf,hd,ok,q⟩:=q1;cases r1;refine PySem.Calls.callWith_function (o:=o) (fd:=fd) ?_;rw[hes];refine PySem.Calls.evalArgs_plain ?_;rw[← hes];refine thn (ha pos pins s1 σ H1 _ I1 q) fun us s2 ⟨vs,H2,I2,r2,hf2,q2⟩=>⟨⟨((show ObjOk X.prog X.w H2 s2.heap f (.ext (qcz f o)) from I2.hok f _ hf2)).1,hd⟩,?_⟩
 refine wpAny_call (codeAny_mono ((hO f sp ok) X.A X.stack s2 H2 us vs Q hr I2.env0 r2 q2) fun r s' hq=>?_)
 cases r with
 | error e=>exact hq.elim
 | ok fl =>
   cases fl with
   | ret u=>exact I2.after hq
   | next=>exact hq.elim
   | brk=>exact hq.elim
   | cont=>exact hq.elim
theorem qly {params:Arguments}{body:Expr}{scope sc0:Scope}{N:List Str}{σ:St}{H' H'':Hp}{f c:Addr}{o:Obj}{fv:List (Str×V)} (lo:qfr X params body scope c o) (ci:jy N sc0 X.env.cells σ H' H'')
   (hf:H' f=some (.ext (qcz f o))) (hc:H' c=some (.ext (ZU c (X.env.qual++"<lambda>"))))
   (hfree:∀ y∈scope.names,y.2=.free->∃ c,X.env.cells.lookup y.1=some c)
   (hfv:∀ y v,fv.lookup y=some v->(y,NameKind.free)∈scope.names∧sc0.names.lookup y=some .cell∧∃ i:Nat,N[i]?=some y∧σ[i]?=some (some v))
   (hal:∀ y,(zU X.env.cells scope.names []).lookup y≠none->(fv.lookup y).isSome=true):Clo H'' f (X.env.qual++"<lambda>") params body scope fv:=by
 obtain⟨pm,ctv,rfl⟩:=lo;have sub:∀ y d,(zU X.env.cells scope.names []).lookup y=some d->X.env.cells.lookup y=some d:=fun y d h=>(zD (cells:=X.env.cells) (x:=y) scope.names [] hfree (fun _ z=>nomatch z)).1 d h;refine⟨_,c,pm,ctv,ci.s _ _ hf,ci.s _ _ hc,fun y d h=>?_,fun y v h=>?_,fun y z d h1 h2=>ci.inj y z d (sub _ _ h1) (sub _ _ h2)⟩
 · obtain⟨v,hv⟩:=Option.isSome_iff_exists.mp (hal y (by rw[h];simp));obtain⟨_,hk,i,h1,h2⟩:=hfv y v hv;obtain⟨c',hc',hH⟩:=ci.at_ i y v h1 h2 hk;rw[sub y d h]at hc';cases hc';exact⟨v,hv,hH⟩
 · obtain⟨m,_⟩:=hfv y v h;exact Option.isSome_iff_exists.mp ((zD (cells:=X.env.cells) (x:=y) scope.names [] hfree (fun _ z=>nomatch z)).2 (.inl m))
end
theorem qaZ {pos pos':Pos}{c:Value} (hne:¬ (pos.line=pos'.line∧pos.col=pos'.col)):∀ {l:List Value},TriplesOk l->codeAmong pos' (l++[rawInt pos.line,rawInt pos.col,c])=codeAmong pos' l
 | [],_=>by
   show (if ((pos.line:Int) == (pos'.line:Int) && (pos.col:Int) == (pos'.col:Int))=true then some c else codeAmong pos' [])=none;rw[if_neg]
   · rfl
   · intro z;rw[Bool.and_eq_true,beq_iff_eq,beq_iff_eq]at z;exact hne ⟨by omega,by omega⟩
 | .int i a::.int j b::x::r,h=>by
   show (if (i == (pos'.line:Int) && j == (pos'.col:Int))=true then some x else codeAmong pos' (r++[rawInt pos.line,rawInt pos.col,c]))=(if (i == (pos'.line:Int) && j == (pos'.col:Int))=true then some x else codeAmong pos' r);rw[qaZ hne (l:=r) h]
theorem qiw {pos pos':Pos} (h1:pos.line=pos'.line) (h2:pos.col=pos'.col):∀ (l:List Value),codeAmong pos' l=codeAmong pos l:=fun l=>by
 fun_induction codeAmong pos l with
 | case1 i a j b x r h=>unfold codeAmong;rw[← h1,← h2,if_pos h]
 | case2 i a j b x r h ih=>rw[codeAmong,← h1,← h2,if_neg h];exact ih
 | case3 l h =>
   unfold codeAmong;split
   · exact absurd rfl (h _ _ _ _ _ _)
   · rfl
def TbA (H:Hp) (T:Addr) (l:List (Pos×Str)):Prop :=
 ∃ ps,H T=some (.tbl ps)∧TriplesOk ps.toList∧∀ x∈l,codeAmong x.1 ps.toList=none∨∃ c,codeAmong x.1 ps.toList=some (.ref c)∧H c=some (.ext (ZU c x.2))
theorem TbA.same {H H':Hp}{T:Addr}{l:List (Pos×Str)} (h:TbA H T l) (s:Same H H'):TbA H' T l:=by
 obtain⟨ps,h1,h2,h3⟩:=h;exact⟨ps,s _ _ h1,h2,fun x hx=>(h3 x hx).imp id fun⟨c,e1,e2⟩=>⟨c,e1,s _ _ e2⟩⟩
theorem TbA.but {H H':Hp}{T T':Addr}{l:List (Pos×Str)}{ps':Array Value} (h:TbA H T l) (hT':H T'=some (.tbl ps')) (s:But T' H H') (n:T≠T'):TbA H' T l:=by
 obtain⟨ps,h1,h2,h3⟩:=h;exact⟨ps,s _ _ h1 n,h2,fun x hx=>(h3 x hx).imp id fun⟨c,e1,e2⟩=>⟨c,e1,s _ _ e2 (qW e2 hT' (by intro z;cases z))⟩⟩
theorem TbA.at_ {H:Hp}{T:Addr}{l:List (Pos×Str)} (h:TbA H T l):∃ ps,H T=some (.tbl ps):=let ⟨ps,h1,_⟩:=h;⟨ps,h1⟩
theorem qjt {H:Hp}{T c' f:Addr}{ps:Array Value}{pos:Pos}{q:Str}{l:List (Pos×Str)}{o:HO} (hT:H T=some (.tbl ps)) (tr:TriplesOk ps.toList) (hn:codeAmong pos ps.toList=none) (h3:∀ x∈l,codeAmong x.1 ps.toList=none∨∃ c,codeAmong x.1 ps.toList=some (.ref c)∧H c=some (.ext (ZU c x.2)))
   (hl:∀ x∈l,x.1.line=pos.line->x.1.col=pos.col->x.2=q) (nTf:T≠f) (nTc:T≠c') (ncf:c'≠f) (hcn:H c'=none) (hfn:H f=none) :
   TbA (upd (upd (upd H T (.tbl (ps++#[rawInt pos.line,rawInt pos.col,.ref c']))) c' (.ext (ZU c' q))) f o) T l:=by
 refine⟨_,by rw[qh nTf,qh nTc,qd],by rw[Array.toList_append];exact Jq tr,fun x hx=>?_⟩;rw[Array.toList_append];by_cases e:pos.line=x.1.line∧pos.col=x.1.col
 · refine .inr ⟨c',?_,?_⟩
   · rw[qiw e.1 e.2];exact codeAmong_snoc _ tr hn
   · rw[qh ncf,qd,hl x hx e.1.symm e.2.symm]
 · rw[show (#[rawInt pos.line,rawInt pos.col,.ref c']:Array Value).toList=[rawInt pos.line,rawInt pos.col,.ref c'] from rfl,qaZ e tr];refine(h3 x hx).imp id fun⟨c,e1,e2⟩=>⟨c,e1,?_⟩
   rw[qh (qi e2 hfn),qh (qi e2 hcn),qh (qW e2 hT (by intro z;cases z))];exact e2
section
variable {X:Cx}
def qlN (X:Cx) (T:Addr) (l:List (Pos×Str)) (pos:Pos) (params:Arguments) (body:Expr) (scope:Scope):TE:=fun σ H Q=>TbA H T l ∧
 ∀ (f c:Addr) (o:Obj) (H':Hp),H f=none->f≠T->But T H H'->TbA H' T l->H' f=some (.ext (qcz f o))->H' c=some (.ext (ZU c (X.env.qual++"<lambda>")))->qfr X params body scope c o->Q (.ref f) H'
theorem qdP {l:List (Pos×Str)}{params:Arguments}{body:Expr}{scope:Scope}{pos:Pos}{c T:Addr} (hdef:defaultsOf params X.env=([],[])) (hfree:∀ y∈scope.names,y.2=.free->∃ c,X.env.cells.lookup y.1=some c) (hcode:X.env.code=.ref c)
   (hcd:PySem.W.codeHdIn X.K c T=true) (hbm:qeX X.mg X.base) (hm:(pos,X.env.qual++"<lambda>")∈l) (hl:∀ x∈l,x.1.line=pos.line->x.1.col=pos.col->x.2=X.env.qual++"<lambda>"):PE X (.Lambda params body scope pos) (qlN X T l pos params body scope):=by
 intro pins s σ H Q I h;obtain⟨⟨ps,hT,tr,hal⟩,h⟩:=h;have hc:=hal _ hm;have tb:s.heap.get? T=some (PySem.W.tabObj ps):=(show ObjOk X.prog X.w H s.heap T (.tbl ps) from I.hok T _ hT)
 have hg:s.heap.Ns mainGlobals X.mg:=I.mod.glob.keeps I.bk;have CH:=PySem.W.codeHd_of_K I.kIn hcd;obtain⟨bm,ob,b1,b2,b4,b5,b6,b7⟩:=hbm;have hbo:=I.bk bm ob b4
 have b3:bm≠mainGlobals:=fun z=>by
   obtain⟨o,es,ep,e,d,_⟩:=hg;rw[← z,hbo]at e;cases e;rw[b7]at d;cases d
 have nbT:bm≠T:=fun z=>by rw[z,tb]at hbo;cases hbo;cases b5
 have ngT:mainGlobals≠T:=fun z=>by
   obtain⟨o,es,ep,e,d,_⟩:=hg;rw[z,tb]at e;cases e;cases d
 have BA:s.heap.BuiltinsAt X.mg T:=⟨bm,ob,b1,b2,b3,nbT,hbo,b5,b6,b7⟩
 refine PySem.W.kla_eval hdef ?_;rcases hc with hn|⟨c',hc,hc'⟩
 · refine PySem.W.kla_makeFunction (clos:=zU X.env.cells scope.names []) (Jp hfree) I.ok.glob hg hcode CH tb tr hn ngT BA fun c' ctv h' tk hx hge hlt hrec htb=>?_;have Tlt:T < s.heap.objs.size:=I.hok.lt hT;have hfn:H h'.objs.size=none:=I.hok.fresh (Nat.le_trans hge (Nat.le_of_lt hlt));have hcn:H c'=none:=I.hok.fresh hge;have ncf:c'≠h'.objs.size:=Nat.ne_of_lt hlt;have nTf:T≠h'.objs.size:=Nat.ne_of_lt (Nat.lt_of_lt_of_le Tlt (Nat.le_trans hge (Nat.le_of_lt hlt)));have nTc:T≠c':=Nat.ne_of_lt (Nat.lt_of_lt_of_le Tlt hge);have J:=I.lam (t':=tk) hT hx hge hlt hrec htb (kla_obj "<lambda>" (X.env.qual++"<lambda>") params body scope (zU X.env.cells scope.names []) ((X.mg "__name__").getD .none) c' ctv) rfl;refine⟨.ref h'.objs.size,_,J,rfl,h _ c' _ _ hfn (Ne.symm nTf) (fun b o e n=>?_) (qjt hT tr hn hal hl nTf nTc ncf hcn hfn) qd (by rw[qh ncf,qd]) ⟨_,_,rfl⟩⟩;rw[qh (qi e hfn),qh (qi e hcn),qh n];exact e
 · refine PySem.W.kla_makeFunctionHit (clos:=zU X.env.cells scope.names []) (Jp hfree) I.ok.glob hg hcode CH tb tr hc BA fun ctv h' tk hk hsz=>?_;have hfn:H h'.objs.size=none:=I.hok.fresh hsz;have S:=Same.new (.ext (qcz h'.objs.size (kla_obj "<lambda>" (X.env.qual++"<lambda>") params body scope (zU X.env.cells scope.names []) ((X.mg "__name__").getD .none) c' ctv))) hfn;refine⟨.ref h'.objs.size,_,I.laid (t':=tk) (fun b o e=>Heap.get?_push_of_some _ (hk b o e)) hsz (qgr (Heap.get?_push_size _ rfl)),rfl,h _ c' _ _ hfn (qi hT hfn).symm (fun b o e _=>S b o e) (TbA.same ⟨ps,hT,tr,hal⟩ S) qd (S _ _ hc') ⟨_,_,rfl⟩⟩
end
section
variable {P:Program}{w:World}{H:Hp}{h:Heap}{d c f:Addr}{v x:V}{q:Str}{o:Obj}
theorem Clo.obj {qual:Str}{params:Arguments}{body:Expr}{scope:Scope}{fv:List (Str×V)} (C:Clo H f qual params body scope fv):∃ o fd,H f=some (.ext (qcz f o))∧o.data=.func fd:=by
 obtain⟨cl,c,pm,ctv,hf,_⟩:=C;exact⟨_,_,hf,rfl⟩
end
theorem PenAt.nk {H:Hp}{p b:Addr}{o:HO} (h:PenAt H p) (e:H b=some o) (n:∀ xs,o≠.lst xs):b≠p:=fun z=>by
 obtain⟨_,_,_,_,q⟩:=h;rw[z,q]at e;injection e with e;exact n _ e.symm
def Iti (a:Addr) (ob:Obj) (kvs:List (Key×V)):It :=
 ⟨fun i H=>H a=some (.frz ob (.dK kvs))∧i < kvs.length,fun i H x H'=>∃ p k y,H p=none∧x=.ref p∧kvs[i]?=some (k,y)∧H'=upd H p (.tup [kV k,y]),fun i H=>H a=some (.frz ob (.dK kvs))∧kvs.length≤i⟩
def Itw (a:Addr) (ob:Obj) (kvs:List (Key×V)):It :=
 ⟨fun i H=>H a=some (.frz ob (.dK kvs))∧i < kvs.length,fun i H x H'=>H'=H∧∃ k,kvs[i]?=some (k,x),fun i H=>H a=some (.frz ob (.dK kvs))∧kvs.length≤i⟩
theorem qe1 {P:Program}{w:World}{K:Frag}{elts:List Expr}{kk:Nat}{pos:Pos} (a it:Addr) (ob:Obj) (kvs:List (Key×V)) {es:Array DictEntry}{ep:Nat} (hd:ob.data=.dict es ep):qiz P w K (.Tuple elts kk pos) (Iti a ob kvs) [it] it (fun i h=>∃ ok ov,IsItemIter h it a i kvs.length ep ok ov) where
 mem:=by simp
 obj:=fun i h st b hb=>by
   have e:b=it:=by simpa using hb
   subst e;obtain⟨ok,ov,st⟩:=st;exact⟨_,st,fun v z=>by cases z⟩
 keep:=fun i h h' st k=>by
   obtain⟨ok,ov,st⟩:=st;exact⟨ok,ov,k it (by simp) _ st⟩
 item:=by
   intro X hP hw hK hc i pins s σ H E I hf st hg;subst hP hw hK;obtain⟨e,hi⟩:=hg;obtain⟨hS,vs,rel,D⟩:=qbL I.hok e hd;have ln:=Zn rel;obtain⟨⟨k,y⟩,hy⟩:∃ p,vs[i]?=some p:=⟨vs[i]'(by omega),by rw[List.getElem?_eq_getElem]⟩
   obtain⟨y',hy',ry⟩:=qdf rel hy;obtain⟨ok,ov,st⟩:=st;rw[← ln]at st;refine wpAny_pyNext_items_item st D hy fun key h1 hkey ho hT hsz hk=>?_;refine⟨_,rfl,wpAny_letOwnedTupleGo_items (s:={ s with heap:=h1 }) ho fun h2 he2 hs2=>?_⟩;replace hs2:Heap.SameBut it h1 h2:=hs2;have hil:it < s.heap.objs.size:=Heap.lt_size st;have hT2:h2.get? s.heap.objs.size=some { cls:=.type "tuple",data:=.seq #[key,y] }:=(hs2.2 _ (Nat.ne_of_gt hil)).trans hT
   have I1:Inv X pins σ (upd H s.heap.objs.size (.tup [kV k,y'])) { s with heap:=h2,toks:=s.toks }:=by
     refine I.turnLaid (ch:=[it]) (fun b o hb q=>?_) hf (Nat.le_refl _) ⟨by show 2≤sizeLine;decide,[key,y],.cons (qdZ hkey) (.cons ry .nil),⟨_,hT2,rfl,_,rfl⟩⟩;have b1:b≠it:=fun z=>hb (by simp[z]);exact(hs2.2 b b1).trans (hk b o b1 q)
   rw[ln]at he2;refine⟨.ref s.heap.objs.size,_,I1,rfl,⟨_,k,y',I.hok.fresh (Nat.le_refl _),rfl,hy',rfl⟩,⟨key,y,he2⟩,fun b hb=>?_⟩;have e1:b=it:=by simpa using hb
   rw[e1,qh (Nat.ne_of_lt hil)];exact(hf it (by simp)).1
 done:=by
   intro X hP hw hK hc i pins s σ H E I hf st hg;subst hP hw hK;obtain⟨e,hi⟩:=hg;obtain⟨hS,vs,rel,D⟩:=qbL I.hok e hd;obtain⟨f0,f1,f2,f3,f4,f5⟩:=hf it (by simp);have ln:=Zn rel;obtain⟨ok,ov,st⟩:=st;rw[← ln]at st;exact wpAny_pyNext_items_end (I.ok.hd hc) st D (List.getElem?_eq_none (by omega)) fun h' eb=>⟨rfl,I.turned (t':=s.toks) (fun b o hb e=>eb b o hb e) f0 f1 f3 f4 f5⟩
 self:=fun _ _ _ _ _ st h=>by
   obtain⟨ok,ov,st⟩:=st;exact PySem.W.kcp_self st h
theorem qdD {P:Program}{w:World}{K:Frag}{tg:Expr} (a it:Addr) (ob:Obj) (kvs:List (Key×V)) {es:Array DictEntry}{ep:Nat} (hd:ob.data=.dict es ep):qiz P w K tg (Itw a ob kvs) [it] it (fun i h=>h.IsValIter it a i kvs.length ep) where
 mem:=by simp
 obj:=fun i h st b hb=>by
   have e:b=it:=by simpa using hb
   subst e;obtain⟨o,e,c,d⟩:=st;exact⟨o,e,fun v z=>by rw[d]at z;cases z⟩
 keep:=fun i h h' st k=>by
   obtain⟨o,e,r⟩:=st;exact⟨o,k it (by simp) o e,r⟩
 item:=by
   intro X hP hw hK hc i pins s σ H E I hf st hg;subst hP hw hK;obtain⟨e,hi⟩:=hg;obtain⟨hS,vs,rel,D⟩:=qbL I.hok e hd;obtain⟨f0,f1,f2,f3,f4,f5⟩:=hf it (by simp);have ln:=Zn rel;obtain⟨⟨k,y⟩,hy⟩:∃ p,vs[i]?=some p:=⟨vs[i]'(by omega),by rw[List.getElem?_eq_getElem]⟩
   obtain⟨y',hy',ry⟩:=qdf rel hy;rw[← ln]at st;refine wpAny_pyNext_values_item st D hy fun h' st' sb=>?_;have I1:Inv X pins σ H { s with heap:=h' }:=I.turned (t':=s.toks) (fun b o hb e=>(sb.2 b hb).trans e) f0 f1 f3 f4 f5;obtain⟨o,e',c,d⟩:=id st';rw[ln]at st';exact⟨y,rfl,qgR (s:={ s with heap:=h' }) e' c d (by decide) ⟨y',H,I1,ry,⟨rfl,k,hy'⟩,st',fun b hb=>(hf b hb).1⟩⟩
 done:=by
   intro X hP hw hK hc i pins s σ H E I hf st hg;subst hP hw hK;obtain⟨e,hi⟩:=hg;obtain⟨hS,vs,rel,D⟩:=qbL I.hok e hd;obtain⟨f0,f1,f2,f3,f4,f5⟩:=hf it (by simp);have ln:=Zn rel;rw[← ln]at st;exact wpAny_pyNext_values_end (I.ok.hd hc) st D (List.getElem?_eq_none (by omega)) fun h' eb=>⟨rfl,I.turned (t':=s.toks) (fun b o hb e=>eb b o hb e) f0 f1 f3 f4 f5⟩
 self:=fun _ _ _ _ _ st h=>wpAny_pyIter_valiter st h
section
variable {X:Cx}{o:Expr}{to:TE}{apos cpos:Pos}
def qlq (to:TE):TI:=fun σ H R=>to σ H fun x H1=>∃ a ob kvs,x=.ref a∧H1 a=some (.frz ob (.dK kvs))∧R (Iti a ob kvs) H1
def qki (to:TE):TI:=fun σ H R=>to σ H fun x H1=>∃ a ob kvs,x=.ref a∧H1 a=some (.frz ob (.dK kvs))∧R (Itw a ob kvs) H1
theorem qhJ {elts:List Expr}{kk:Nat}{tp:Pos} (ho:PE X o to)
   (hbase:attributeBase o "items" X.env (eval o X.env)=eval o X.env:=by rfl) (hline:(apos.endLine == cpos.line)=true:=by rfl) :
   PI X (.Tuple elts kk tp) (.Call (.Attribute o "items" apos) [] [] cpos) (qlq to):=by
 intro pins s σ H R I h;refine wpAny_Call_method0_late hbase hline (thn (ho pins s σ H _ I h) fun v s1 zz_=>?_);obtain⟨x,H1,I1,r1,a,ob,kvs,ex,hq,q⟩:=zz_;subst ex;cases (show v=Value.ref a from r1);obtain⟨h1,h2⟩:=qeQ I1 (.inr ⟨ob,hq⟩);obtain⟨g,hz,hS,vs,rel,o',es,ep,e1,x,d,r⟩:=(show ObjOk X.prog X.w H1 s1.heap a (.frz ob (.dK kvs)) from I1.hok a _ hq)
 rw[g]at e1;cases e1;have D:s1.heap.DictAt (qV X.prog X.w) a vs ep:=⟨_,_,g,x,d,r⟩
 refine⟨"dict","dict.items",PySem.F.plainAttrs_dict,F.slot_dict_items,F.type_dict_items,h1,h2,Calls.callWith_builtin rfl (PySem.evalArgs_none ?_)⟩;refine call_meetsIn F.slot_dict_items h1 F.entry_dict_items (F.args_dict_items_1 _) (meets_dict_items (qV X.prog X.w) a hS) ⟨⟨vs,D.dictOf⟩,?_⟩;have I2:Inv X pins σ H1 { s1 with heap:=s1.heap.push { cls:=.type "dict_items",data:=.fields #[.ref a] } }:=I1.kept (t':=s1.toks) fun b o e=>Heap.get?_push_of_some _ e;have V2:(s1.heap.push { cls:=.type "dict_items",data:=.fields #[.ref a] }).IsItemsView s1.heap.objs.size a:=⟨_,Heap.get?_push_size _ rfl,rfl,rfl⟩
 have D2:(s1.heap.push { cls:=.type "dict_items",data:=.fields #[.ref a] }).DictAt (qV X.prog X.w) a vs ep:=⟨_,_,Heap.get?_push_of_some _ g,x,d,r⟩
 refine wpAny_pyIter_items V2 D2 ?_;generalize s1.heap.push { cls:=.type "dict_items",data:=.fields #[.ref a] }=hp2 at I2 V2 D2 ⊢;refine⟨hp2.objs.size,[hp2.objs.size],_,_,H1,rfl,I2.kept (t':=s1.toks) fun b o e=>Heap.get?_push_of_some _ e,qe1 a _ ob kvs d,(by rw[← Zn rel];exact⟨.none,.none,Heap.get?_push_size _ rfl⟩),fun b hb=>?_,q⟩;have e:b=hp2.objs.size:=by simpa using hb
 subst e;exact I2.fpOk (Nat.le_refl _) (I2.hok.fresh (Nat.le_refl _))
theorem qgc {tg:Expr} (ho:PE X o to)
   (hbase:attributeBase o "values" X.env (eval o X.env)=eval o X.env:=by rfl) (hline:(apos.endLine == cpos.line)=true:=by rfl) :
   PI X tg (.Call (.Attribute o "values" apos) [] [] cpos) (qki to):=by
 intro pins s σ H R I h;refine wpAny_Call_method0_late hbase hline (thn (ho pins s σ H _ I h) fun v s1 zz_=>?_);obtain⟨x,H1,I1,r1,a,ob,kvs,ex,hq,q⟩:=zz_;subst ex;cases (show v=Value.ref a from r1);obtain⟨h1,h2⟩:=qeQ I1 (.inr ⟨ob,hq⟩);obtain⟨g,hz,hS,vs,rel,o',es,ep,e1,x,d,r⟩:=(show ObjOk X.prog X.w H1 s1.heap a (.frz ob (.dK kvs)) from I1.hok a _ hq)
 rw[g]at e1;cases e1;have D:s1.heap.DictAt (qV X.prog X.w) a vs ep:=⟨_,_,g,x,d,r⟩
 refine⟨"dict","dict.values",PySem.F.plainAttrs_dict,F.slot_dict_values,F.type_dict_values,h1,h2,Calls.callWith_builtin rfl (PySem.evalArgs_none ?_)⟩;refine call_meetsIn F.slot_dict_values h1 F.entry_dict_values (F.args_dict_values_1 _) (meets_dict_values (qV X.prog X.w) a hS) ⟨⟨vs,D.dictOf⟩,?_⟩;have I2:Inv X pins σ H1 { s1 with heap:=s1.heap.push { cls:=.type "dict_values",data:=.fields #[.ref a] } }:=I1.kept (t':=s1.toks) fun b o e=>Heap.get?_push_of_some _ e;have V2:(s1.heap.push { cls:=.type "dict_values",data:=.fields #[.ref a] }).IsValuesView s1.heap.objs.size a:=⟨_,Heap.get?_push_size _ rfl,rfl,rfl⟩
 have D2:(s1.heap.push { cls:=.type "dict_values",data:=.fields #[.ref a] }).DictAt (qV X.prog X.w) a vs ep:=⟨_,_,Heap.get?_push_of_some _ g,x,d,r⟩
 refine wpAny_pyIter_values V2 D2 ?_;generalize s1.heap.push { cls:=.type "dict_values",data:=.fields #[.ref a] }=hp2 at I2 V2 D2 ⊢;refine⟨hp2.objs.size,[hp2.objs.size],_,_,H1,rfl,I2.kept (t':=s1.toks) fun b o e=>Heap.get?_push_of_some _ e,qdD a _ ob kvs d,(by rw[← Zn rel];exact⟨_,Heap.get?_push_size _ rfl,rfl,rfl⟩),fun b hb=>?_,q⟩;have e:b=hp2.objs.size:=by simpa using hb
 subst e;exact I2.fpOk (Nat.le_refl _) (I2.hok.fresh (Nat.le_refl _))
end
theorem qgT {a:Addr}{ob:Obj}{kvs:List (Key×V)}{g:TG}{tb:TS}{D:qdA}{σ:St}{H:Hp} (Pv:Nat->St->Hp->Prop) (h0:Pv 0 σ H) (hl:∀ i σ H,i≤kvs.length->Pv i σ H->H a=some (.frz ob (.dK kvs)))
   (hs:∀ i k y σ H p,kvs[i]?=some (k,y)->Pv i σ H->H p=none->g (.ref p) σ (upd H p (.tup [kV k,y])) fun σ2 H2=>tb { D with nx:=Pv (i+1),ct:=Pv (i+1),bk:=D.nx } σ2 H2) (hd:∀ σ H,Pv kvs.length σ H->D.nx σ H) :
   ∃ W:Nat->Nat->St->Hp->Prop,(∃ m,W 0 m σ H)∧∀ i m σ H,W i m σ H ->
     ((Iti a ob kvs).stop i H∧D.nx σ H)∨((Iti a ob kvs).go i H∧∃ N:St->Hp->Prop,(∀ σ' H',N σ' H'->∃ m',m' < m∧W (i+1) m' σ' H')∧∀ x H',(Iti a ob kvs).yld i H x H'->g x σ H' fun σ2 H2=>tb { D with nx:=N,ct:=N,bk:=D.nx } σ2 H2):=by
 refine⟨fun i m σ H=>m=kvs.length - i∧i≤kvs.length∧Pv i σ H,⟨kvs.length,by simp,Nat.zero_le _,h0⟩,?_⟩;rintro i m σ H ⟨rfl,hi,p⟩;have q:=hl i σ H hi p;by_cases hlt:i < kvs.length
 · refine .inr ⟨⟨q,hlt⟩,Pv (i+1),fun σ' H' p'=>⟨kvs.length - (i+1),by omega,rfl,hlt,p'⟩,fun x H' y=>?_⟩;obtain⟨p',k,y,fp,ex,hk,eh⟩:=y;subst ex;subst eh;exact hs i k y σ _ p' hk p fp
 · have e:i=kvs.length:=by omega
   subst e;exact .inl ⟨⟨q,Nat.le_refl _⟩,hd σ H p⟩
theorem qfl {a:Addr}{ob:Obj}{kvs:List (Key×V)}{g:TG}{tb:TS}{D:qdA}{σ:St}{H:Hp} (Pv:Nat->St->Hp->Prop) (h0:Pv 0 σ H) (hl:∀ i σ H,i≤kvs.length->Pv i σ H->H a=some (.frz ob (.dK kvs)))
   (hs:∀ i k y σ H,kvs[i]?=some (k,y)->Pv i σ H->g y σ H fun σ2 H2=>tb { D with nx:=Pv (i+1),ct:=Pv (i+1),bk:=D.nx } σ2 H2) (hd:∀ σ H,Pv kvs.length σ H->D.nx σ H) :
   ∃ W:Nat->Nat->St->Hp->Prop,(∃ m,W 0 m σ H)∧∀ i m σ H,W i m σ H ->
     ((Itw a ob kvs).stop i H∧D.nx σ H)∨((Itw a ob kvs).go i H∧∃ N:St->Hp->Prop,(∀ σ' H',N σ' H'->∃ m',m' < m∧W (i+1) m' σ' H')∧∀ x H',(Itw a ob kvs).yld i H x H'->g x σ H' fun σ2 H2=>tb { D with nx:=N,ct:=N,bk:=D.nx } σ2 H2):=by
 refine⟨fun i m σ H=>m=kvs.length - i∧i≤kvs.length∧Pv i σ H,⟨kvs.length,by simp,Nat.zero_le _,h0⟩,?_⟩;rintro i m σ H ⟨rfl,hi,p⟩;have q:=hl i σ H hi p;by_cases hlt:i < kvs.length
 · refine .inr ⟨⟨q,hlt⟩,Pv (i+1),fun σ' H' p'=>⟨kvs.length - (i+1),by omega,rfl,hlt,p'⟩,fun x H' y=>?_⟩;obtain⟨e,k,hk⟩:=y;subst e;exact hs i k x σ _ hk p
 · have e:i=kvs.length:=by omega
   subst e;exact .inl ⟨⟨q,Nat.le_refl _⟩,hd σ H p⟩
section
variable {X:Cx}
theorem qe7 {a b:Expr}{p pos:Pos}{e:Expr}{es:List Expr}{t:TA}{tv:TE}{k:Nat}{Ok:Addr->Sp->Prop} (hv:PE X (.Subscript a b p) tv) (hr:Room k X.A)
   (hO:∀ f sp,Ok f sp->∃ fd ps,qy X.prog X.w X.K X.mg X.base CX0 k f fd ps sp∧PySem.W.keepIn X.K (.ref f)=true∧Binds X.K fd ps [])
   (ha:PA X (e::es) t) (he:starEach (e::es) X.env=(false,eval e X.env)::starEach es X.env:=by rfl) (hpl:(backTo pos (starEach es X.env)).any (·.1)=false:=by rfl) :
   PE X (.Call (.Subscript a b p) (e::es) [] pos) (qkE Ok tv t):=by
 intro pins s σ H Q I h;show wpAny _ _ (do callWith pos (← eval (.Subscript a b p) X.env) [] (backTo pos (starEach (e::es) X.env)) (backToKw pos (keywordEach [] X.env))) _ _ _;refine wpAny_bind (thn (hv pins s σ H _ I h) fun v s1 zz_=>?_);obtain⟨fv,H1,I1,r1,q1⟩:=zz_;obtain⟨f,sp,rfl,ok,q⟩:=q1;cases r1;obtain⟨fd,ps,F,hk,hb⟩:=hO f sp ok;refine PySem.W.callWith_K (h₀:=X.base) I1.ok.mod.kin hk (thn (ha pos pins s1 σ H1 _ I1 q) fun us s2 ⟨vs,H2,I2,r2,q2⟩=>⟨I2.kIn,?_⟩) he hpl;exact qcY F hr hb .nil qk I2 r2 q2
def qjx (r r' r'':R2) (ta tb tc td:TE):TE:=fun σ H Q=>ta σ H fun x H1=>tb σ H1 fun y H2=>r x y H2 fun z H3=>∃ k,z=.bl k ∧
 (if k=true then tc σ H3 fun w H4=>r' y w H4 fun z' H5=>∃ k',z'=.bl k'∧(if k'=true then td σ H5 fun v H6=>r'' w v H6 Q else Q (.bl false) H5) else Q (.bl false) H3)
theorem qf5 {a b c d:Expr}{ta tb tc td:TE}{pos:Pos}{op op' op'':CmpOp}{r r' r'':R2} (ho:OpR X (compareOp op) r) (ho':OpR X (compareOp op') r') (ho'':OpR X (compareOp op'') r'') (ha:PE X a ta) (hb:PE X b tb) (hc:PE X c tc) (hd:PE X d td)
   (hm:lastMarks [op,op',op''] [b,c,d]=false:=by with_unfolding_all rfl):PT X (.Compare a [op,op',op''] [b,c,d] pos) (qju (qjx r r' r'' ta tb tc td)):=by
 intro pins s σ H Q I h
 refine isTrue_chain (thn (ha pins s σ H _ I h) fun v s1 ⟨x,H1,I1,r1,q1⟩=>test_link (thn (hb pins s1 σ H1 _ I1 q1) fun u s2 ⟨y,H2,I2,r2,q2⟩ =>
   thn (ho pins s2 σ H2 x y v u _ I2 r1 r2 q2) fun d s3 ⟨z,H3,I3,r3,k,e,q3⟩=>?_)) hm
 subst e;cases r3;refine wpAny_truthy_bool ?_
 cases k with
 | false =>
   obtain⟨k',e',q'⟩:=q3;cases e';exact ite_ff ⟨H3,I3,q'⟩
 | true =>
   refine ite_tt (test_link (thn (hc pins s3 σ H3 _ I3 q3) fun w' s4 ⟨z',H4,I4,r4,q4⟩=>thn (ho' pins s4 σ H4 y z' u w' _ I4 r2 r4 q4) fun d' s5 zz_=>?_));obtain⟨z2,H5,I5,r5,k2,e2,q5⟩:=zz_;subst e2;cases r5;refine wpAny_truthy_bool ?_
   cases k2 with
   | false =>
     obtain⟨k',e',q'⟩:=q5;cases e';exact ite_ff ⟨H5,I5,q'⟩
   | true =>
     refine ite_tt (test_last (thn (hd pins s5 σ H5 _ I5 q5) fun w2 s6 ⟨z3,H6,I6,r6,q6⟩=>thn (ho'' pins s6 σ H6 z' z3 w' w2 _ I6 r4 r6 q6) fun d2 s7 zz_=>?_));obtain⟨z4,H7,I7,r7,k3,e3,q7⟩:=zz_;subst e3;cases r7;exact wpAny_truthy_bool ⟨H7,I7,q7⟩
end
end L2
namespace L2
open PySem PySem.Spec PyProof.Rows PySem.W
open PySem.W (Frag)
theorem qdc:∀ (f n r:Nat),r≤1->minRun' f n r≤n+r
 | 0,n,r,_=>Nat.le_refl _
 | f+1,n,r,hr=>by
   rw[minRun'_succ];split
   · exact Nat.le_refl _
   · have ih:=qdc f (n / 2) (max r (n % 2)) (by omega);omega
section
variable {prog:Program}{w:World}{A:Around}{E:Value->Shared->Prop}{κ:SortKind}{it:Array Keyed}{s:Shared}
theorem qjK {r:Nat}{Q:Unit->SortSt->Shared->Prop}{G:Shared->Prop} (hG:∀ st s',arrOf st=(List.toArray (List.range (r+2))).map (kas_item it)->failedOf st=none->G s'->Q () st s')
   (up:(kas_asc (List.toArray (List.range (r+2))) (r+1) 1).kasWp (kas_cmp prog w A κ it) (fun k s'=>k=r+2∧G s') s):kasC (model prog w) A E sortRuns' Q (kas_st κ it (List.toArray (List.range (r+2)))) s:=by
 have z0:(List.toArray (List.range (r+2))).size=r+2:=by rw[List.size_toArray,List.length_range]
 have z1:(arrOf (kas_st κ it (List.toArray (List.range (r+2))))).size=r+2:=(Array.size_map ..).trans z0
 have cnt:(kas_count (r+2) (List.toArray (List.range (r+2)))).kasWp (kas_cmp prog w A κ it) (fun x s'=>x.1=r+2∧x.2=List.toArray (List.range (r+2))∧G s') s:=by
   unfold kas_count;rw[KasT.kasWp_bind];refine kas_wp_mono up fun k s' zz_=>?_;obtain⟨e,g⟩:=zz_;subst e;rw[if_pos (beq_self_eq_true _)];exact⟨rfl,rfl,g⟩
 rw[sortRuns'_eq];refine kasC_bind (kasC_get ?_);simp only[z1];refine kasC_bind (kasC_range ?_);show kasC _ _ _ (forIn (0::1::List.range' 2 r) _ _) _ _ s;refine kasC_cons ?_;dsimp only;rw[if_neg (by omega)];simp only[Nat.zero_add,Nat.sub_zero];refine kasC_bind (kas_count_ (by omega) (Nat.le_of_eq z0.symm) (fun k q s' _ _ _ hk=>?_) cnt);obtain⟨k1,k2,g⟩:=hk;simp only at k1 k2;subst k1 k2;dsimp only;rw[if_neg (Nat.not_lt.mpr (qdc (r+2) (r+2) 0 (Nat.zero_le _)))];refine kasC_bind (kasC_get ?_);rw[show (pendingOf (kas_st κ it (List.toArray (List.range (r+2))))).back?=none from rfl];dsimp only;refine kasC_bind (kasC_modify (kasC_pure ?_));show kasC _ _ _ (forIn (1::List.range' 2 r) _ _) _ _ s';refine kasC_cons ?_;dsimp only;rw[if_pos (Nat.le_refl _)];refine kasC_pure ?_;refine kasC_bind (kasC_range ?_);show kasC _ _ _ (forIn (0::1::List.range' 2 r) _ _) _ _ s';refine kasC_cons (kasC_bind (kasC_get ?_));rw[if_pos (show (pendingOf (setPending (kas_st κ it (List.toArray (List.range (r+2)))) ((pendingOf (kas_st κ it (List.toArray (List.range (r+2))))).push (0,r+2,0)))).size≤1 from Nat.le_refl 1)];exact kasC_pure (kasC_pure (hG _ _ rfl rfl g))
theorem qjl {vs:List Value}{G:Shared->Prop} (g:G s) (lt:∀ i,i+1 < vs.length->∀ C:Bool->Shared->Prop,C false s->wpAny (model prog w) A (keyLt' κ (vs.getD (i+1) Value.none) (vs.getD i Value.none)) C (fun _ _=>False) s) :
   ∀ (f k:Nat),1≤k->k+f=vs.length->(kas_asc (List.toArray (List.range vs.length)) f k).kasWp (kas_cmp prog w A κ (vs.toArray.zip vs.toArray)) (fun m s'=>m=vs.length∧G s') s
 | 0,k,_,h=>⟨by omega,g⟩
 | f+1,k,h1,h=>by
   have at_:∀ i,i < vs.length->(List.toArray (List.range vs.length)).getD i 0=i:=fun i hi=>by simp[Array.getD,hi]
   show kas_cmp prog w A κ (vs.toArray.zip vs.toArray) ((List.toArray (List.range vs.length)).getD k 0) ((List.toArray (List.range vs.length)).getD (k - 1) 0) _ s;rw[at_ k (by omega),at_ (k - 1) (by omega)];unfold kas_cmp;rw[kat_item rfl,kat_item rfl];have q:=lt (k - 1) (by omega);rw[show k - 1+1=k by omega]at q;refine q _ ?_;dsimp only;rw[if_neg (by decide)];exact qjl g lt f (k+1) (by omega) (by omega)
theorem qjC {a:Addr}{vs:List Value}{n:Nat}{P:PySem.Fin->Shared->Prop} (ho:s.heap.get? a=some (seqObj "list" vs.toArray n)) (h2:2≤vs.length) (hz:vs.length≤sizeLine)
   (ask:∀ h',(∀ b o,b≠a->s.heap.get? b=some o->h'.get? b=some o)->wpAny (model prog w) A (keyKind' vs.toArray) (fun κ s'=>s'={ s with heap:=h' }∧∀ i,i+1 < vs.length->∀ C:Bool->Shared->Prop,C false s'->wpAny (model prog w) A (keyLt' κ (vs.getD (i+1) Value.none) (vs.getD i Value.none)) C (fun _ _=>False) s') (fun _ _=>False) { s with heap:=h' })
   (h:∀ c h',(∀ b o,b≠a->s.heap.get? b=some o->h'.get? b=some o)->h'.get? a=some (seqObj "list" vs.toArray c)->P (.done (.ret .none)) { s with heap:=h' }) :
   wpAny (model prog w) A (Builtin.«list.sort» ⟨[.ref a],[]⟩) P E s:=by
 obtain⟨r,hr⟩:∃ r,vs.length=r+2:=⟨vs.length - 2,by omega⟩
 have big:¬ vs.toArray.size < 2:=by rw[List.size_toArray];omega
 have zz:vs.toArray.size≤sizeLine:=by rw[List.size_toArray];exact hz
 obtain⟨e1,ho1⟩:∃ e1,(s.heap.update a (Obj.mapSeq fun _=>(#[]:Array Value))).get? a=some (seqObj "list" #[] e1):=⟨_,get?_update_seq ho fun _=>#[]⟩
 rw[list_sort_plain];refine wpAny_bind (listItems_at ho rfl (wpAny_bind (listUpdate_at ho rfl ?_ zz (Nat.zero_le _))));refine wpAny_bind (seqEpoch_at ho1 rfl (wpAny_bind (wpAny_newTuple ?_ zz)));refine wpAny_bind (wpAny_newList (wpAny_holding ?_) (Nat.zero_le _))
 have k3:∀ b o,b≠a->s.heap.get? b=some o->(((s.heap.update a (Obj.mapSeq fun _=>(#[]:Array Value))).push (seqObj "tuple" vs.toArray 0)).push (seqObj "list" #[] 0)).get? b=some o:=fun b o hb q =>
   Heap.get?_push_of_some _ (Heap.get?_push_of_some _ (((Heap.SameBut.update s.heap a _).2 b hb).trans q))
 have ho2:(((s.heap.update a (Obj.mapSeq fun _=>(#[]:Array Value))).push (seqObj "tuple" vs.toArray 0)).push (seqObj "list" #[] 0)).get? a=some (seqObj "list" #[] e1):=Heap.get?_push_of_some _ (Heap.get?_push_of_some _ ho1);dsimp only;rw[if_neg big,if_neg big];refine wpAny_bind (wpAny_mono (ask _ k3) (fun κ s' zz_=>?_) fun _ _ x=>x.elim);obtain⟨es,lt⟩:=zz_;subst es
 have it0:(List.toArray (List.range (r+2))).map (kas_item (vs.toArray.zip vs.toArray))=vs.toArray.zip vs.toArray:=by
   have:=kas_range (vs.toArray.zip vs.toArray)
   rwa [show (vs.toArray.zip vs.toArray).size=r+2 by simp[hr]]at this
 have st0:SortSt.mk' κ (vs.toArray.zip vs.toArray) #[] 7 none=kas_st κ (vs.toArray.zip vs.toArray) (List.toArray (List.range (r+2))):=by
   unfold kas_st;rw[it0]
 have up:=qjl (G:=fun s'=>s'={ s with heap:=((s.heap.update a (Obj.mapSeq fun _=>(#[]:Array Value))).push (seqObj "tuple" vs.toArray 0)).push (seqObj "list" #[] 0) }) rfl lt (r+1) 1 (Nat.le_refl _) (by omega);rw[hr]at up;have run:=qjK (E:=E) (Q:=fun _ st s'=>arrOf st=vs.toArray.zip vs.toArray∧failedOf st=none∧s'={ s with heap:=((s.heap.update a (Obj.mapSeq fun _=>(#[]:Array Value))).push (seqObj "tuple" vs.toArray 0)).push (seqObj "list" #[] 0) }) (fun st s' x y z=>⟨x.trans it0,y,z⟩) up;rw[← st0]at run;unfold kasC at run;refine wpAny_bind (wpAny_mono run ?_ fun _ _ x=>x);rintro⟨⟨⟩,st⟩ s' ⟨ha,hf,rfl⟩
 have snd0:Array.map (fun x:Keyed=>x.snd) (arrOf st)=vs.toArray:=by
   rw[ha];apply Array.toList_inj.mp;simp only[Array.toList_map,Array.toList_zip];exact List.map_snd_zip (Nat.le_refl _)
 dsimp only;rw[snd0];refine wpAny_bind (seqEpoch_at ho2 rfl (wpAny_bind (listUpdate_at ho2 rfl ?_ (Nat.zero_le _) (Nat.le_succ_of_le zz))));rw[hf];simp only[bne_self_eq_false,Bool.false_eq_true,if_false];refine wpAny_pure (h _ _ (fun b o hb q=>?_) (get?_update_seq ho2 fun _=>vs.toArray));exact((Heap.SameBut.update _ a _).2 b hb).trans (k3 b o hb q)
theorem qfM {l:Addr}{vs:List Value}{Q:Value->Shared->Prop} (hl:s.heap.IsList l vs.toArray) (h2:2≤vs.length) (hz:vs.length≤sizeLine)
   (ask:∀ h',(∀ b o,s.heap.get? b=some o->h'.get? b=some o)->wpAny (model prog w) A.in1.in1 (keyKind' vs.toArray) (fun κ s'=>s'={ s with heap:=h' }∧∀ i,i+1 < vs.length->∀ C:Bool->Shared->Prop,C false s'->wpAny (model prog w) A.in1.in1 (keyLt' κ (vs.getD (i+1) Value.none) (vs.getD i Value.none)) C (fun _ _=>False) s') (fun _ _=>False) { s with heap:=h' })
   (h:∀ D c h',s.heap.get? D=none->(∀ b o,s.heap.get? b=some o->h'.get? b=some o)->h'.get? D=some (seqObj "list" vs.toArray c)->Q (.ref D) { s with heap:=h' }) :
   wpAny (model prog w) A (call (.builtin "sorted") [.ref l]) Q E s:=by
 refine Calls.call_function_entry kind_sorted plain_sorted entry_sorted (args_sorted1 _) ?_;unfold Builtin.«sorted»;refine wpAny_bind (m:=checkCount "sorted" 1 1 _) (wpAny_pure ?_);refine wpAny_bind (collect_list hl (wpAny_bind (wpAny_newList ?_ hz)) hz);generalize hg:(s.heap.push (seqObj "list" #[] 0)).update s.heap.objs.size (Obj.mapSeq (·++vs.toArray))=g;have z1:g.objs.size=s.heap.objs.size+1:=by rw[← hg,Heap.size_update,size_push']
 have at_:(g.push (seqObj "list" vs.toArray 0)).get? (s.heap.objs.size+1)=some (seqObj "list" vs.toArray 0):=by rw[← z1];exact Heap.get?_push_size _ rfl
 have kp:∀ b o,s.heap.get? b=some o->(g.push (seqObj "list" vs.toArray 0)).get? b=some o:=fun b o q=>by
   have lt:b < s.heap.objs.size:=Heap.lt_size q;rw[Heap.get?_push_ne _ _ _ (by rw[z1];exact Nat.ne_of_lt (Nat.lt_succ_of_lt lt)),← hg,Heap.get?_update_ne _ _ _ _ (Nat.ne_of_lt lt),Heap.get?_push_ne _ _ _ (Nat.ne_of_lt lt)];exact q
 rw[z1];refine wpAny_bind (wpAny_holding (wpAny_call_entry slot_list_sort ⟨_,at_,rfl⟩ entry_list_sort ?body (args_list_sort _)))
 case body =>
   refine qjC (s:={ s with heap:=g.push (seqObj "list" vs.toArray 0) }) at_ h2 hz (fun h' k=>ask h' fun b o q=>k b o (Nat.ne_of_lt (Nat.lt_succ_of_lt (Heap.lt_size q))) (kp b o q)) fun c h' k e=>?_;exact⟨_,rfl,wpAny_pure ⟨_,rfl,h (s.heap.objs.size+1) c h' (Heap.get?_none_of_le (Nat.le_succ _)) (fun b o q=>k b o (Nat.ne_of_lt (Nat.lt_succ_of_lt (Heap.lt_size q))) (kp b o q)) e⟩⟩
end
inductive qes (K:Frag) (xs:List V) (H:Hp) (Q:VK):Prop
 | mk (l:Addr) (zs:List V) (rs:List (List Int)) (k:Nat) (h1:xs=[.ref l]) (h2:SqL K H l zs) (h3:TupI H zs rs) (h4:(∀ r∈rs,r.length=k)) (h5:0 < k) (h6:rs.Pairwise (fun a b=>QW b a=false)) (h7:∀ p:Addr,H p=none->Q (.ref p) (upd H p (.lst zs))):qes K xs H Q
def qiR (K:Frag):List V->Hp->VK->Prop:=fun xs H Q=>qes K xs H Q
section
variable {X:Cx}
theorem qfo:CallR X (.builtin "sorted") (qiR X.K):=by
 intro pins s σ H xs us Q I r h;obtain⟨l,zs,rs,k,rfl,hq,tp,hk,k0,up,q⟩:=h;obtain⟨u,rfl,ru⟩:=JS r;cases (show u=Value.ref l from ru);obtain⟨its,rv,p,hz⟩:=I.list hq;have hlen:=rv.length
 have fin:∀ D c h',s.heap.get? D=none->(∀ b o,s.heap.get? b=some o->h'.get? b=some o)->h'.get? D=some (seqObj "list" its.toArray c)->EP X pins σ Q (.ref D) { s with heap:=h' }:=fun D c h' free kp e=>by
   have I':Inv X pins σ (upd H D (.lst zs)) { s with heap:=h' }:=I.laidL (t':=s.toks) (fun b u _ z=>kp b u z) (fun m ⟨o,es,ep,ho,r⟩=>⟨o,es,ep,kp _ _ ho,r⟩) free ⟨hz,its,c,rv,e⟩;exact⟨.ref D,_,I',rfl,q D (I.unlaid free)⟩
 by_cases h2:its.length < 2
 · exact qbq p.isList h2 fun D c h' free kp e=>fin D c h' free kp e
 · refine qfM p.isList (by omega) (by rw[← hlen];exact hz) (fun h' kp=>?_) fun D c h' free kp e=>fin D c h' free kp e;have pa:=qdF I (h':=h') (fun b u _ z=>kp b u z) tp rv;obtain⟨fs,t1,t2,t3⟩:=qbW pa fun r hr=>by rw[hk r hr];exact k0
   refine PySem.W.kat_kind (T:=.type "int") t1 (by omega) (fun v hv=>?_) rfl ⟨rfl,fun i hi C hC=>?_⟩
   · obtain⟨i,t,rfl⟩:=t3 v hv;exact PySem.W.Looks.of_pure rfl
   · obtain⟨x,ox,ux,nx,ex,rx,hx,cx,dx⟩:=Qh (d:=Value.none) (e:=List.replicate k 0) pa hi;obtain⟨y,oy,uy,ny,ey,ry,hy,cy,dy⟩:=Qh (d:=Value.none) (e:=List.replicate k 0) pa (show i < its.length by omega);rw[ex,ey];refine PySem.W.kat_lt hx dx hy dy ?_;have lx:=QD hk (i+1);have ly:=QD hk i;have e1':=rx.length;have e2':=ry.length;rw[List.length_map]at e1' e2';rw[show decide (ux.toArray.size < uy.toArray.size)=false from decide_eq_false (by rw[List.size_toArray,List.size_toArray];omega)];refine qgA rx ry (by omega) ?_;have lr:rs.length=its.length:=by rw[← tp.len];exact hlen
     have a1:i+1 < rs.length:=by omega
     have:=List.pairwise_iff_getElem.mp up i (i+1) (by omega) a1 (by omega)
     rw[List.getD_eq_getElem?_getD,List.getElem?_eq_getElem a1,List.getD_eq_getElem?_getD,List.getElem?_eq_getElem (show i < rs.length by omega)];simp only[Option.getD_some];rw[this];exact hC
end
end L2
namespace M04
open L2
def Mem (ws:List (Int×Int)) (n:Int):Prop:=∃ w∈ws,w.1≤n∧n≤w.2
def zj (ws:List (Int×Int)):Prop:=(∀ w∈ws,w.1≤w.2)∧ws.Pairwise fun a b=>a.2+1 < b.1
def qbf (acc:List (Int×Int)) (w:Int×Int):List (Int×Int):=match acc.getLast? with
 | some l=>if w.1≤l.2+1 then acc.set (acc.length - 1) (l.1,if w.2 > l.2 then w.2 else l.2) else acc++[w]
 | none=>[w]
theorem qcm (xs ys:List (Int×Int)) (n:Int):Mem (xs++ys) n↔Mem xs n∨Mem ys n:=by
 constructor
 · rintro⟨w,hw,h⟩;rcases List.mem_append.mp hw with m|m
   · exact .inl ⟨w,m,h⟩
   · exact .inr ⟨w,m,h⟩
 · rintro (⟨w,hw,h⟩|⟨w,hw,h⟩)
   · exact⟨w,List.mem_append.mpr (.inl hw),h⟩
   · exact⟨w,List.mem_append.mpr (.inr hw),h⟩
theorem qaK (w:Int×Int) (n:Int):Mem [w] n↔w.1≤n∧n≤w.2:=by
 constructor
 · rintro⟨x,hx,h⟩;have e:x=w:=by simpa using hx
   rw[← e];exact h
 · intro h;exact⟨w,by simp,h⟩
theorem mem_cons (w:Int×Int) (ws:List (Int×Int)) (n:Int):Mem (w::ws) n↔(w.1≤n∧n≤w.2)∨Mem ws n:=by
 rw[show w::ws=[w]++ws from rfl,qcm,qaK]
theorem qie {acc:List (Int×Int)}{l:Int×Int} (h:acc.getLast?=some l):∃ init,acc=init++[l] :=
 ⟨acc.dropLast,by
   have ne:acc≠[]:=fun z=>by rw[z]at h;cases h
   have e:acc.getLast ne=l:=by rw[List.getLast?_eq_some_getLast ne]at h;exact Option.some.inj h
   rw[← e];exact(List.dropLast_concat_getLast ne).symm⟩
theorem qhz (init:List (Int×Int)) (l x:Int×Int):(init++[l]).set ((init++[l]).length - 1) x=init++[x]:=by
 rw[List.length_append,show init.length+[l].length - 1=init.length by simp,List.set_append_right _ _ (Nat.le_refl _),Nat.sub_self];rfl
theorem canon_snoc {init:List (Int×Int)}{l:Int×Int}:zj (init++[l])↔zj init∧l.1≤l.2∧∀ a∈init,a.2+1 < l.1:=by
 unfold zj;constructor
 · rintro⟨h1,h2⟩;obtain⟨p1,_,p3⟩:=List.pairwise_append.mp h2;exact⟨⟨fun w m=>h1 w (by simp[m]),p1⟩,h1 l (by simp),fun a m=>p3 a m l (by simp)⟩
 · rintro⟨⟨h1,h2⟩,h3,h4⟩;refine⟨fun w m=>?_,List.pairwise_append.mpr ⟨h2,List.pairwise_singleton _ _,fun a ma b mb=>?_⟩⟩
   · rcases List.mem_append.mp m with m|m
     · exact h1 w m
     · have:w=l:=by simpa using m
       rw[this];exact h3
   · have:b=l:=by simpa using mb
     rw[this];exact h4 a ma
theorem qjz {acc:List (Int×Int)}{w:Int×Int} (c:zj acc) (hw:w.1≤w.2) (hl:∀ l∈acc,l.1≤w.1) :
   zj (qbf acc w)∧(∀ n,Mem (qbf acc w) n↔Mem acc n∨(w.1≤n∧n≤w.2))∧∀ l∈qbf acc w,l.1≤w.1:=by
 cases e:acc.getLast? with
 | none =>
   have e0:acc=[]:=List.getLast?_eq_none_iff.mp e;subst e0;show zj [w]∧(∀ n,Mem [w] n↔Mem [] n∨_)∧∀ l∈[w],l.1≤w.1;refine⟨⟨fun x m=>?_,List.pairwise_singleton _ _⟩,fun n=>?_,fun x m=>?_⟩
   · have:x=w:=by simpa using m
     rw[this];exact hw
   · rw[qaK];exact⟨.inr,fun h=>h.elim (fun⟨_,z,_⟩=>nomatch z) id⟩
   · have:x=w:=by simpa using m
     rw[this];exact Int.le_refl _
 | some l =>
   obtain⟨init,rfl⟩:=qie e;obtain⟨c1,c2,c3⟩:=canon_snoc.mp c;have hl1:=hl l (by simp);unfold qbf;rw[e];dsimp only;by_cases g:w.1≤l.2+1
   · rw[if_pos g,qhz];refine⟨canon_snoc.mpr ⟨c1,by show l.1≤(if w.2 > l.2 then w.2 else l.2);split<;>omega,c3⟩,fun n=>?_,fun x m=>?_⟩
     · rw[qcm,qcm,qaK,qaK,or_assoc];show _∨(l.1≤n∧n≤(if w.2 > l.2 then w.2 else l.2))↔_
       have:(l.1≤n∧n≤(if w.2 > l.2 then w.2 else l.2))↔((l.1≤n∧n≤l.2)∨(w.1≤n∧n≤w.2)):=by
         split<;>omega
       rw[this]
     · rcases List.mem_append.mp m with m|m
       · exact hl x (by simp[m])
       · have:x=(l.1,if w.2 > l.2 then w.2 else l.2):=by simpa using m
         rw[this];exact hl1
   · rw[if_neg g];refine⟨canon_snoc.mpr ⟨c,hw,fun a m=>?_⟩,fun n=>by rw[qcm _ [w],qaK],fun x m=>?_⟩
     · rcases List.mem_append.mp m with m|m
       · have:=c3 a m;omega
       · have:a=l:=by simpa using m
         rw[this];omega
     · rcases List.mem_append.mp m with m|m
       · exact hl x m
       · have:x=w:=by simpa using m
         rw[this];exact Int.le_refl _
theorem qgU:∀ (S acc:List (Int×Int)),zj acc->(∀ w∈S,w.1≤w.2)->S.Pairwise (fun a b=>a.1≤b.1)->(∀ l∈acc,∀ w∈S,l.1≤w.1)->zj (S.foldl qbf acc)∧∀ n,Mem (S.foldl qbf acc) n↔Mem acc n∨Mem S n
 | [],acc,c,_,_,_=>⟨c,fun n=>⟨.inl,fun h=>h.elim id fun⟨_,z,_⟩=>nomatch z⟩⟩
 | w::S,acc,c,ok,hp,hl=>by
   obtain⟨p1,p2⟩:=List.pairwise_cons.mp hp;obtain⟨s1,s2,s3⟩:=qjz c (ok w (by simp)) fun l m=>hl l m w (by simp);obtain⟨f1,f2⟩:=qgU S (qbf acc w) s1 (fun x m=>ok x (by simp[m])) p2 fun l m x mx=>Int.le_trans (s3 l m) (p1 x mx);refine⟨f1,fun n=>?_⟩;rw[List.foldl_cons,f2,s2,mem_cons,or_assoc]
end M04
namespace K39
open PySem L2 PySem.NumText PyProof.Rows KC M04
open PySem.W (Frag keepIn kitOne fnOf codeIn codeHdIn nsIn)
def top (i:Nat):Stmt:=PySem.Challenge.pw_foldlog_k39_whole_moments_by_what_clocks.main.body.getD i (.Pass ⟨0,0,0,0⟩)
abbrev qap:Stmt:=top 17
theorem qcM:qm ["thing"] ["thing"] (qg qap):=⟨rfl,rfl,rfl,by decide +kernel,rfl,by decide +kernel,by decide +kernel⟩
abbrev qbt:Stmt:=top 18
theorem qdI:qm ["thing","low","high"] ["thing","low","high"] (qg qbt):=⟨rfl,rfl,rfl,by decide +kernel,rfl,by decide +kernel,by decide +kernel⟩
abbrev qaq:Stmt:=top 19
theorem qcN:qm ["thing"] ["thing"] (qg qaq):=⟨rfl,rfl,rfl,by decide +kernel,rfl,by decide +kernel,by decide +kernel⟩
abbrev JD:Stmt:=top 20
theorem qb2:qm ["thing"] ["thing"] (qg JD):=⟨rfl,rfl,rfl,by decide +kernel,rfl,by decide +kernel,by decide +kernel⟩
abbrev qcU:Stmt:=top 21
theorem qe5:qm ["thing"] ["thing"] (qg qcU):=⟨rfl,rfl,rfl,by decide +kernel,rfl,by decide +kernel,by decide +kernel⟩
abbrev JC:Stmt:=top 23
theorem qb1:qm ["thing"] ["thing"] (qg JC):=⟨rfl,rfl,rfl,by decide +kernel,rfl,by decide +kernel,by decide +kernel⟩
abbrev QS:Stmt:=top 24
theorem sc_check_stretches:qm ["stretches","place","stretch"] ["stretches"] (qg QS):=⟨rfl,rfl,rfl,by decide +kernel,rfl,by decide +kernel,by decide +kernel⟩
abbrev qbs:Stmt:=top 25
theorem sc_spans_of:qm ["stretches","told","low","high"] ["stretches"] (qg qbs):=⟨rfl,rfl,rfl,by decide +kernel,rfl,by decide +kernel,by decide +kernel⟩
abbrev qiP:Stmt:=top 26
theorem sc_both:qm ["one","other","told","at_one","at_other","low","high"] ["one","other"] (qg qiP):=⟨rfl,rfl,rfl,by decide +kernel,rfl,by decide +kernel,by decide +kernel⟩
abbrev JB:Stmt:=top 27
theorem sc_place_from:qm ["spans","number","low","high","middle"] ["spans","number"] (qg JB):=⟨rfl,rfl,rfl,by decide +kernel,rfl,by decide +kernel,by decide +kernel⟩
abbrev qkN:Stmt:=top 28
theorem qkL:qm ["spans","thing"] ["spans","thing"] (qg qkN):=⟨rfl,rfl,rfl,by decide +kernel,rfl,by decide +kernel,by decide +kernel⟩
abbrev qbu:Stmt:=top 29
theorem qdJ:qm ["spans"] ["spans"] (qg qbu):=⟨rfl,rfl,rfl,by decide +kernel,rfl,by decide +kernel,by decide +kernel⟩
abbrev JE:Stmt:=top 30
theorem sc_first_from:qm ["spans","number","place"] ["spans","number"] (qg JE):=⟨rfl,rfl,rfl,by decide +kernel,rfl,by decide +kernel,by decide +kernel⟩
abbrev JH:Stmt:=top 34
theorem qb3:qm ["thing"] ["thing"] (qg JH):=⟨rfl,rfl,rfl,by decide +kernel,rfl,by decide +kernel,by decide +kernel⟩
abbrev jb:Stmt:=top 35
theorem qak:qm ["thing"] ["thing"] (qg jb):=⟨rfl,rfl,rfl,by decide +kernel,rfl,by decide +kernel,by decide +kernel⟩
abbrev ZF:Stmt:=top 36
theorem JV:qm ["thing"] ["thing"] (qg ZF):=⟨rfl,rfl,rfl,by decide +kernel,rfl,by decide +kernel,by decide +kernel⟩
abbrev jQ:Stmt:=top 44
theorem sc_check_parts:qm ["parts","part"] ["parts"] (qg jQ):=⟨rfl,rfl,rfl,by decide +kernel,rfl,by decide +kernel,by decide +kernel⟩
abbrev JG:Stmt:=top 45
theorem sc_check_part:qm ["part","many"] ["part"] (qg JG):=⟨rfl,rfl,rfl,by decide +kernel,rfl,by decide +kernel,by decide +kernel⟩
abbrev qej:Stmt:=top 52
theorem qfS:qm ["thing","keyed"] ["thing","keyed"] (qg qej):=⟨rfl,rfl,rfl,by decide +kernel,rfl,by decide +kernel,by decide +kernel⟩
abbrev zG:Stmt:=top 56
theorem qe4:qm ["low","high"] ["low","high"] (qg zG):=⟨rfl,rfl,rfl,by decide +kernel,rfl,by decide +kernel,by decide +kernel⟩
abbrev zo:Stmt:=top 57
theorem qhA:qm ["low","high"] ["low","high"] (qg zo):=⟨rfl,rfl,rfl,by decide +kernel,rfl,by decide +kernel,by decide +kernel⟩
abbrev qei:Stmt:=top 59
theorem qfR:qm ["thing","widest"] ["thing","widest"] (qg qei):=⟨rfl,rfl,rfl,by decide +kernel,rfl,by decide +kernel,by decide +kernel⟩
abbrev qao:Stmt:=top 60
theorem qcL:qm ["rows","place"] ["rows","place"] (qg qao):=⟨rfl,rfl,rfl,by decide +kernel,rfl,by decide +kernel,by decide +kernel⟩
abbrev JF:Stmt:=top 61
theorem sc_check_rows:qm ["rows","most","widest","place","row"] ["rows","most","widest"] (qg JF):=⟨rfl,rfl,rfl,by decide +kernel,rfl,by decide +kernel,by decide +kernel⟩
abbrev qbv:Stmt:=top 67
theorem qdK:qm ["names","thing"] ["names","thing"] (qg qbv):=⟨rfl,rfl,rfl,by decide +kernel,rfl,by decide +kernel,by decide +kernel⟩
abbrev qbw:Stmt:=top 68
theorem sc_fault_of:qm ["log","thing","names","name","number","bond"] ["log","thing"] (qg qbw):=⟨rfl,rfl,rfl,by decide +kernel,rfl,by decide +kernel,by decide +kernel⟩
abbrev qf0:Stmt:=top 70
theorem qhB:qm ["_law_script","_law_k"] ["_law_script","_law_k"] (qg qf0):=⟨rfl,rfl,rfl,by decide +kernel,rfl,by decide +kernel,by decide +kernel⟩
abbrev qiQ:Stmt:=top 71
theorem sc_Lmix:qm ["_law_cell_here","_law_k","_law_number"] ["_law_cell_here","_law_k"] (qg qiQ):=⟨rfl,rfl,rfl,by decide +kernel,rfl,by decide +kernel,by decide +kernel⟩
abbrev qen:Stmt:=top 72
theorem qfT:qm ["_law_cell_here"] ["_law_cell_here"] (qg qen):=⟨rfl,rfl,rfl,by decide +kernel,rfl,by decide +kernel,by decide +kernel⟩
abbrev qfV:Stmt:=top 73
theorem sc_Lpull:qm ["_law_state","_law_many","_law_digit","_law_high","_law_low"] ["_law_state","_law_many"] (qg qfV):=⟨rfl,rfl,rfl,by decide +kernel,rfl,by decide +kernel,by decide +kernel⟩
abbrev qel:Stmt:=top 74
theorem sc_Lnames:qm ["_law_state","_law_many","_law_letters","_law_size","_law_at","_law_base","_law_first","_law_step","_law_names_here","_law_k","_law_behind","_law_sign"] ["_law_state","_law_many"] (qg qel):=⟨rfl,rfl,rfl,by decide +kernel,rfl,by decide +kernel,by decide +kernel⟩
abbrev qek:Stmt:=top 75
theorem sc_Lshift:qm ["_law_state","_law_way"] ["_law_state"] (qg qek):=⟨rfl,rfl,rfl,by decide +kernel,rfl,by decide +kernel,by decide +kernel⟩
abbrev qfU:Stmt:=top 76
theorem sc_Lrows:qm ["_law_state","_law_unit","_law_rows_here","_law_k"] ["_law_state"] (qg qfU):=⟨rfl,rfl,rfl,by decide +kernel,rfl,by decide +kernel,by decide +kernel⟩
abbrev qfY:Stmt:=top 77
theorem sc_Lmade:qm ["_law_spec","_law_word","_law_name","_law_place","_law_low","_law_high"] ["_law_spec"] (qg qfY):=⟨rfl,rfl,rfl,by decide +kernel,rfl,by decide +kernel,by decide +kernel⟩
abbrev qbx:Stmt:=top 78
theorem qdL:qm ["_law_rows_here","_law_moment"] ["_law_rows_here","_law_moment"] (qg qbx):=⟨rfl,rfl,rfl,by decide +kernel,rfl,by decide +kernel,by decide +kernel⟩
abbrev qcW:Stmt:=top 79
theorem sc_Laround:qm ["_law_state","_law_name","_law_places","_law_tables","_law_moment","_law_word","_law_place","_law_near","_law_far","_law_reading_here"] ["_law_state","_law_name","_law_places","_law_tables","_law_moment"] (qg qcW):=⟨rfl,rfl,rfl,by decide +kernel,rfl,by decide +kernel,by decide +kernel⟩
abbrev qfZ:Stmt:=top 80
theorem sc_Llets:qm ["_law_spec","_law_tables","_law_moment","_law_word","_law_name","_law_place","_law_low","_law_high"] ["_law_spec","_law_tables","_law_moment"] (qg qfZ):=⟨rfl,rfl,rfl,by decide +kernel,rfl,by decide +kernel,by decide +kernel⟩
abbrev jT:Stmt:=top 81
theorem sc_Lsieve_lets:qm ["_law_sieve","_law_moment","_law_word","_law_one","_law_other"] ["_law_sieve","_law_moment"] (qg jT):=⟨rfl,rfl,rfl,by decide +kernel,rfl,by decide +kernel,by decide +kernel⟩
abbrev qbz:Stmt:=top 82
theorem sc_Lall_let:qm ["_law_plan_here","_law_tables","_law_moment","_law_specs","_law_sieve"] ["_law_plan_here","_law_tables","_law_moment"] (qg qbz):=⟨rfl,rfl,rfl,by decide +kernel,rfl,by decide +kernel,by decide +kernel⟩
abbrev qfW:Stmt:=top 83
theorem sc_Lplan:qm ["_law_state","_law_name","_law_places","_law_tables","_law_moment","_law_specs","_law_kind","_law_k","_law_low","_law_reading_here","_law_day"] ["_law_state","_law_name","_law_places","_law_tables","_law_moment"] (qg qfW):=⟨rfl,rfl,rfl,by decide +kernel,rfl,by decide +kernel,by decide +kernel⟩
abbrev qem:Stmt:=top 84
theorem sc_Lentry:qm ["_law_name","_law_plan_here","_law_specs","_law_sieve","_law_parts","_law_keeps"] ["_law_name","_law_plan_here"] (qg qem):=⟨rfl,rfl,rfl,by decide +kernel,rfl,by decide +kernel,by decide +kernel⟩
abbrev JJ:Stmt:=top 85
theorem sc_Lare_spans:qm ["_law_spans","_law_last","_law_one","_law_number"] ["_law_spans"] (qg JJ):=⟨rfl,rfl,rfl,by decide +kernel,rfl,by decide +kernel,by decide +kernel⟩
abbrev qep:Stmt:=top 86
theorem sc_Lalone:qm ["_law_name","_law_plan_here","_law_tables","_law_moment","_law_inside","_law_log","_law_place"] ["_law_name","_law_plan_here","_law_tables","_law_moment","_law_inside"] (qg qep):=⟨rfl,rfl,rfl,by decide +kernel,rfl,by decide +kernel,by decide +kernel⟩
abbrev qeo:Stmt:=top 87
theorem sc_Lasked:qm ["_law_log","_law_plans","_law_tables","_law_more_here","_law_name","_law_plan_here","_law_spans","_law_moments","_law_low","_law_high","_law_moment","_law_inside"] ["_law_log","_law_plans","_law_tables","_law_more_here"] (qg qeo):=⟨rfl,rfl,rfl,by decide +kernel,rfl,by decide +kernel,by decide +kernel⟩
abbrev qfX:Stmt:=top 88
theorem sc_Lmore:qm ["_law_state","_law_tables","_law_moment","_law_found","_law_rows_here","_law_begin"] ["_law_state","_law_tables","_law_moment"] (qg qfX):=⟨rfl,rfl,rfl,by decide +kernel,rfl,by decide +kernel,by decide +kernel⟩
abbrev qkM:Stmt:=top 89
theorem sc_law:qm ["_law_script","_law_k","_law_state","_law_words","_law_tables","_law_place","_law_moment","_law_log","_law_plans","_law_name"] ["_law_script"] (qg qkM):=⟨rfl,rfl,rfl,by decide +kernel,rfl,by decide +kernel,by decide +kernel⟩
abbrev JL:Stmt:=qQ (top 37) 0
theorem qb6:qm ["self","name"] ["self","name"] (qg JL):=⟨rfl,rfl,rfl,by decide +kernel,rfl,by decide +kernel,by decide +kernel⟩
abbrev jg:Stmt:=qQ (top 37) 2
theorem qam:qm ["self"] ["self"] (qg jg):=⟨rfl,rfl,rfl,by decide +kernel,rfl,by decide +kernel,by decide +kernel⟩
abbrev jV:Stmt:=qQ (top 37) 3
theorem qa4:qm ["self","tables"] ["self","tables"] (qg jV):=⟨rfl,rfl,rfl,by decide +kernel,rfl,by decide +kernel,by decide +kernel⟩
abbrev jR:Stmt:=qQ (top 38) 0
theorem qa2:qm ["self","name","low","high"] ["self","name","low","high"] (qg jR):=⟨rfl,rfl,rfl,by decide +kernel,rfl,by decide +kernel,by decide +kernel⟩
abbrev jc:Stmt:=qQ (top 38) 2
theorem qal:qm ["self","tables"] ["self","tables"] (qg jc):=⟨rfl,rfl,rfl,by decide +kernel,rfl,by decide +kernel,by decide +kernel⟩
abbrev qcX:Stmt:=qQ (top 39) 0
theorem qe6:qm ["self","name","moment"] ["self","name","moment"] (qg qcX):=⟨rfl,rfl,rfl,by decide +kernel,rfl,by decide +kernel,by decide +kernel⟩
abbrev jh:Stmt:=qQ (top 40) 0
theorem qan:qm ["self","name","place","low","high"] ["self","name","place","low","high"] (qg jh):=⟨rfl,rfl,rfl,by decide +kernel,rfl,by decide +kernel,by decide +kernel⟩
abbrev Zm:Stmt:=qQ (top 40) 2
theorem Jl:qm ["self"] ["self"] (qg Zm):=⟨rfl,rfl,rfl,by decide +kernel,rfl,by decide +kernel,by decide +kernel⟩
abbrev ZI:Stmt:=qQ (top 40) 3
theorem JX:qm ["self","tables"] ["self","tables"] (qg ZI):=⟨rfl,rfl,rfl,by decide +kernel,rfl,by decide +kernel,by decide +kernel⟩
abbrev qar:Stmt:=qQ (top 41) 0
theorem qcO:qm ["self","name","place","reading"] ["self","name","place","reading"] (qg qar):=⟨rfl,rfl,rfl,by decide +kernel,rfl,by decide +kernel,by decide +kernel⟩
abbrev JK:Stmt:=qQ (top 42) 0
theorem qb5:qm ["self","name","parts"] ["self","name","parts"] (qg JK):=⟨rfl,rfl,rfl,by decide +kernel,rfl,by decide +kernel,by decide +kernel⟩
abbrev jf:Stmt:=qQ (top 42) 3
theorem sc_Joint_places:qm ["self","told","part"] ["self"] (qg jf):=⟨rfl,rfl,rfl,by decide +kernel,rfl,by decide +kernel,by decide +kernel⟩
abbrev jU:Stmt:=qQ (top 42) 4
theorem sc_Joint_spans:qm ["self","tables","told","part"] ["self","tables"] (qg jU):=⟨rfl,rfl,rfl,by decide +kernel,rfl,by decide +kernel,by decide +kernel⟩
abbrev jS:Stmt:=qQ (top 43) 0
theorem qa3:qm ["self","name","part","keeps"] ["self","name","part","keeps"] (qg jS):=⟨rfl,rfl,rfl,by decide +kernel,rfl,by decide +kernel,by decide +kernel⟩
abbrev ZH:Stmt:=qQ (top 43) 2
theorem JW:qm ["self"] ["self"] (qg ZH):=⟨rfl,rfl,rfl,by decide +kernel,rfl,by decide +kernel,by decide +kernel⟩
abbrev je:Stmt:=qQ (top 43) 3
theorem sc_Sifted_spans:qm ["self","tables","keeps","told","low","high"] ["self","tables"] (qg je):=⟨rfl,rfl,rfl,by decide +kernel,rfl,by decide +kernel,by decide +kernel⟩
abbrev qby:Stmt:=qQ (top 53) 0
theorem qdM:qm ["self"] ["self"] (qg qby):=⟨rfl,rfl,rfl,by decide +kernel,rfl,by decide +kernel,by decide +kernel⟩
abbrev qav:Stmt:=qQ (top 53) 1
theorem qcS:qm ["self","place","table"] ["self","place","table"] (qg qav):=⟨rfl,rfl,rfl,by decide +kernel,rfl,by decide +kernel,by decide +kernel⟩
abbrev qcV:Stmt:=qQ (top 53) 2
theorem sc_Log_put:qm ["self","entry","place"] ["self","entry"] (qg qcV):=⟨rfl,rfl,rfl,by decide +kernel,rfl,by decide +kernel,by decide +kernel⟩
abbrev QT:Stmt:=qQ (top 53) 6
theorem jP:qm ["self","name"] ["self","name"] (qg QT):=⟨rfl,rfl,rfl,by decide +kernel,rfl,by decide +kernel,by decide +kernel⟩
abbrev qat:Stmt:=qQ (top 53) 8
theorem qcQ:qm ["self"] ["self"] (qg qat):=⟨rfl,rfl,rfl,by decide +kernel,rfl,by decide +kernel,by decide +kernel⟩
abbrev qau:Stmt:=qQ (top 53) 9
theorem qcR:qm ["self","name"] ["self","name"] (qg qau):=⟨rfl,rfl,rfl,by decide +kernel,rfl,by decide +kernel,by decide +kernel⟩
abbrev qas:Stmt:=qQ (top 53) 10
theorem qcP:qm ["self","name"] ["self","name"] (qg qas):=⟨rfl,rfl,rfl,by decide +kernel,rfl,by decide +kernel,by decide +kernel⟩
abbrev qaw:Stmt:=qQ (top 53) 11
theorem qcT:qm ["self"] ["self"] (qg qaw):=⟨rfl,rfl,rfl,by decide +kernel,rfl,by decide +kernel,by decide +kernel⟩
abbrev JI:Stmt:=qQ (top 65) 0
theorem qb4:qm ["self","rows"] ["self","rows"] (qg JI):=⟨rfl,rfl,rfl,by decide +kernel,rfl,by decide +kernel,by decide +kernel⟩
abbrev jd:Stmt:=qQ (top 65) 2
theorem sc_Table_pieces:qm ["self","ends"] ["self"] (qg jd):=⟨rfl,rfl,rfl,by decide +kernel,rfl,by decide +kernel,by decide +kernel⟩
abbrev zM:Stmt:=qQ (top 65) 6
theorem QR:qm ["self","low","high"] ["self","low","high"] (qg zM):=⟨rfl,rfl,rfl,by decide +kernel,rfl,by decide +kernel,by decide +kernel⟩
abbrev qax:Stmt:=qQ (top 2) 0
set_option genInjectivity false in
structure Ad where
 k_on_days:Addr
 t_on_days:Addr
 k_daily:Addr
 t_daily:Addr
 c_LogError:Addr
 c_NoSpans:Addr
 c_NoTable:Addr
 c_TooMany:Addr
 c_NoMoment:Addr
 c_NoReading:Addr
 c_NoName:Addr
 c_NoPlace:Addr
 c_NoEntry:Addr
 c_Taken:Addr
 c_Entry:Addr
 c_Within:Addr
 c_At:Addr
 c_Between:Addr
 c_Read:Addr
 c_Joint:Addr
 c_Sifted:Addr
 c_Log:Addr
 c_Table:Addr
 f_b:Addr
 fd_b:FuncData
 f_i:Addr
 fd_i:FuncData
 f_n:Addr
 fd_n:FuncData
 f_l:Addr
 fd_l:FuncData
 f_o:Addr
 fd_o:FuncData
 f_I:Addr
 fd_I:FuncData
 f_J:Addr
 fd_J:FuncData
 f_j:Addr
 fd_j:FuncData
 f_K:Addr
 fd_K:FuncData
 f_L:Addr
 fd_L:FuncData
 f_M:Addr
 fd_M:FuncData
 f_N:Addr
 fd_N:FuncData
 f_O:Addr
 fd_O:FuncData
 f_p:Addr
 fd_p:FuncData
 f_A:Addr
 fd_A:FuncData
 f_B:Addr
 fd_B:FuncData
 f_P:Addr
 fd_P:FuncData
 f_Q:Addr
 fd_Q:FuncData
 f_R:Addr
 fd_R:FuncData
 f_7:Addr
 fd_7:FuncData
 f_8:Addr
 fd_8:FuncData
 f_S:Addr
 fd_S:FuncData
 f_T:Addr
 fd_T:FuncData
 f_U:Addr
 fd_U:FuncData
 f_V:Addr
 fd_V:FuncData
 f_W:Addr
 fd_W:FuncData
 f_X:Addr
 fd_X:FuncData
 f_C:Addr
 fd_C:FuncData
 f_Y:Addr
 fd_Y:FuncData
 f_a:Addr
 fd_a:FuncData
 f_Z:Addr
 fd_Z:FuncData
 f_D:Addr
 fd_D:FuncData
 f_E:Addr
 fd_E:FuncData
 f_0:Addr
 fd_0:FuncData
 f_k:Addr
 fd_k:FuncData
 f_1:Addr
 fd_1:FuncData
 f_2:Addr
 fd_2:FuncData
 f_3:Addr
 fd_3:FuncData
 f_F:Addr
 fd_F:FuncData
 f_4:Addr
 fd_4:FuncData
 f_r:Addr
 fd_r:FuncData
 f_5:Addr
 fd_5:FuncData
 f_6:Addr
 fd_6:FuncData
 f_G:Addr
 fd_G:FuncData
 f_H:Addr
 fd_H:FuncData
 f_am:Addr
 fd_am:FuncData
 f_d:Addr
 fd_d:FuncData
 f_e:Addr
 fd_e:FuncData
 f_u:Addr
 fd_u:FuncData
 f_v:Addr
 fd_v:FuncData
 f_c:Addr
 fd_c:FuncData
 f_9:Addr
 fd_9:FuncData
 f_w:Addr
 fd_w:FuncData
 f_g:Addr
 fd_g:FuncData
 f_h:Addr
 fd_h:FuncData
 f_aa:Addr
 fd_aa:FuncData
 f_ab:Addr
 fd_ab:FuncData
 f_ac:Addr
 fd_ac:FuncData
 f_ad:Addr
 fd_ad:FuncData
 f_ae:Addr
 fd_ae:FuncData
 f_af:Addr
 fd_af:FuncData
 f_ag:Addr
 fd_ag:FuncData
 f_z:Addr
 fd_z:FuncData
 f_m:Addr
 fd_m:FuncData
 f_x:Addr
 fd_x:FuncData
 f_ah:Addr
 fd_ah:FuncData
 f_ai:Addr
 fd_ai:FuncData
 f_f:Addr
 fd_f:FuncData
 f_y:Addr
 fd_y:FuncData
 f_aj:Addr
 fd_aj:FuncData
 f_s:Addr
 fd_s:FuncData
 f_ak:Addr
 fd_ak:FuncData
 f_al:Addr
 fd_al:FuncData
 f_an:Addr
 fd_an:FuncData
structure DfM (K:Frag) (C:Addr) (x q:Str) (st:Stmt) (ps:List Str) (f:Addr) (fd:FuncData):Prop where
 F:Fun K x q st f fd
 b:Binds K fd ps []
 mt:qho K C x f
structure Txt (K:Frag) (mg:Str->Option Value) (a:Ad):Prop where
 d_b:Df K mg "is_number" qap ["thing"] a.f_b a.fd_b
 d_i:Df K mg "is_whole" qbt ["thing","low","high"] a.f_i a.fd_i
 d_n:Df K mg "is_moment" qaq ["thing"] a.f_n a.fd_n
 d_l:Df K mg "is_reading" JD ["thing"] a.f_l a.fd_l
 d_o:Df K mg "is_name" qcU ["thing"] a.f_o a.fd_o
 d_I:Df K mg "is_stretch" JC ["thing"] a.f_I a.fd_I
 d_J:Df K mg "check_stretches" QS ["stretches"] a.f_J a.fd_J
 d_j:Df K mg "spans_of" qbs ["stretches"] a.f_j a.fd_j
 d_K:Df K mg "both" qiP ["one","other"] a.f_K a.fd_K
 d_L:Df K mg "place_from" JB ["spans","number"] a.f_L a.fd_L
 d_M:Df K mg "has" qkN ["spans","thing"] a.f_M a.fd_M
 d_N:Df K mg "how_many" qbu ["spans"] a.f_N a.fd_N
 d_O:Df K mg "first_from" JE ["spans","number"] a.f_O a.fd_O
 d_p:Df K mg "check_name" JH ["thing"] a.f_p a.fd_p
 d_A:Df K mg "check_moment" jb ["thing"] a.f_A a.fd_A
 d_B:Df K mg "check_reading" ZF ["thing"] a.f_B a.fd_B
 d_P:Df K mg "check_parts" jQ ["parts"] a.f_P a.fd_P
 d_Q:Df K mg "check_part" JG ["part"] a.f_Q a.fd_Q
 d_R:Df K mg "is_key" qej ["thing","keyed"] a.f_R a.fd_R
 d_7:Df K mg "on_days" zG ["low","high"] a.f_7 a.fd_7
 d_8:Df K mg "daily" zo ["low","high"] a.f_8 a.fd_8
 d_S:Df K mg "is_row" qei ["thing","widest"] a.f_S a.fd_S
 d_T:Df K mg "may_stand" qao ["rows","place"] a.f_T a.fd_T
 d_U:Df K mg "check_rows" JF ["rows","most","widest"] a.f_U a.fd_U
 d_V:Df K mg "has_form" qbv ["names","thing"] a.f_V a.fd_V
 d_W:Df K mg "fault_of" qbw ["log","thing"] a.f_W a.fd_W
 d_X:Df K mg "_law_cell" qf0 ["_law_script","_law_k"] a.f_X a.fd_X
 d_C:Df K mg "_law_mix" qiQ ["_law_cell_here","_law_k"] a.f_C a.fd_C
 d_Y:Df K mg "_law_begun" qen ["_law_cell_here"] a.f_Y a.fd_Y
 d_a:Df K mg "_law_pull" qfV ["_law_state","_law_many"] a.f_a a.fd_a
 d_Z:Df K mg "_law_names" qel ["_law_state","_law_many"] a.f_Z a.fd_Z
 d_D:Df K mg "_law_shift" qek ["_law_state"] a.f_D a.fd_D
 d_E:Df K mg "_law_rows" qfU ["_law_state"] a.f_E a.fd_E
 d_0:Df K mg "_law_made" qfY ["_law_spec"] a.f_0 a.fd_0
 d_k:Df K mg "_law_reading" qbx ["_law_rows_here","_law_moment"] a.f_k a.fd_k
 d_1:Df K mg "_law_around" qcW ["_law_state","_law_name","_law_places","_law_tables","_law_moment"] a.f_1 a.fd_1
 d_2:Df K mg "_law_lets" qfZ ["_law_spec","_law_tables","_law_moment"] a.f_2 a.fd_2
 d_3:Df K mg "_law_sieve_lets" jT ["_law_sieve","_law_moment"] a.f_3 a.fd_3
 d_F:Df K mg "_law_all_let" qbz ["_law_plan_here","_law_tables","_law_moment"] a.f_F a.fd_F
 d_4:Df K mg "_law_plan" qfW ["_law_state","_law_name","_law_places","_law_tables","_law_moment"] a.f_4 a.fd_4
 d_r:Df K mg "_law_entry" qem ["_law_name","_law_plan_here"] a.f_r a.fd_r
 d_5:Df K mg "_law_are_spans" JJ ["_law_spans"] a.f_5 a.fd_5
 d_6:Df K mg "_law_alone" qep ["_law_name","_law_plan_here","_law_tables","_law_moment","_law_inside"] a.f_6 a.fd_6
 d_G:Df K mg "_law_asked" qeo ["_law_log","_law_plans","_law_tables","_law_more_here"] a.f_G a.fd_G
 d_H:Df K mg "_law_more" qfX ["_law_state","_law_tables","_law_moment"] a.f_H a.fd_H
 d_am:Df K mg "law" qkM ["_law_script"] a.f_am a.fd_am
 d_d:DfM K a.c_Entry "__init__" "Entry.__init__" JL ["self","name"] a.f_d a.fd_d
 d_e:DfM K a.c_Entry "places" "Entry.places" jg ["self"] a.f_e a.fd_e
 d_u:DfM K a.c_Entry "spans" "Entry.spans" jV ["self","tables"] a.f_u a.fd_u
 d_v:DfM K a.c_Within "__init__" "Within.__init__" jR ["self","name","low","high"] a.f_v a.fd_v
 d_c:DfM K a.c_Within "spans" "Within.spans" jc ["self","tables"] a.f_c a.fd_c
 d_9:DfM K a.c_At "__init__" "At.__init__" qcX ["self","name","moment"] a.f_9 a.fd_9
 d_w:DfM K a.c_Between "__init__" "Between.__init__" jh ["self","name","place","low","high"] a.f_w a.fd_w
 d_g:DfM K a.c_Between "places" "Between.places" Zm ["self"] a.f_g a.fd_g
 d_h:DfM K a.c_Between "spans" "Between.spans" ZI ["self","tables"] a.f_h a.fd_h
 d_aa:DfM K a.c_Read "__init__" "Read.__init__" qar ["self","name","place","reading"] a.f_aa a.fd_aa
 d_ab:DfM K a.c_Joint "__init__" "Joint.__init__" JK ["self","name","parts"] a.f_ab a.fd_ab
 d_ac:DfM K a.c_Joint "places" "Joint.places" jf ["self"] a.f_ac a.fd_ac
 d_ad:DfM K a.c_Joint "spans" "Joint.spans" jU ["self","tables"] a.f_ad a.fd_ad
 d_ae:DfM K a.c_Sifted "__init__" "Sifted.__init__" jS ["self","name","part","keeps"] a.f_ae a.fd_ae
 d_af:DfM K a.c_Sifted "places" "Sifted.places" ZH ["self"] a.f_af a.fd_af
 d_ag:DfM K a.c_Sifted "spans" "Sifted.spans" je ["self","tables"] a.f_ag a.fd_ag
 d_z:DfM K a.c_Log "__init__" "Log.__init__" qby ["self"] a.f_z a.fd_z
 d_m:DfM K a.c_Log "clock" "Log.clock" qav ["self","place","table"] a.f_m a.fd_m
 d_x:DfM K a.c_Log "put" "Log.put" qcV ["self","entry"] a.f_x a.fd_x
 d_ah:DfM K a.c_Log "check_entry" "Log.check_entry" QT ["self","name"] a.f_ah a.fd_ah
 d_ai:DfM K a.c_Log "names" "Log.names" qat ["self"] a.f_ai a.fd_ai
 d_f:DfM K a.c_Log "entry" "Log.entry" qau ["self","name"] a.f_f a.fd_f
 d_y:DfM K a.c_Log "spans" "Log.spans" qas ["self","name"] a.f_y a.fd_y
 d_aj:DfM K a.c_Log "bonds" "Log.bonds" qaw ["self"] a.f_aj a.fd_aj
 d_s:DfM K a.c_Table "__init__" "Table.__init__" JI ["self","rows"] a.f_s a.fd_s
 d_ak:DfM K a.c_Table "pieces" "Table.pieces" jd ["self"] a.f_ak a.fd_ak
 d_al:DfM K a.c_Table "moments_between" "Table.moments_between" zM ["self","low","high"] a.f_al a.fd_al
 d_an:DfM K a.c_LogError "__init__" "LogError.__init__" qax ["self","text"] a.f_an a.fd_an
 g_Entry:mg "Entry"=some (.ref a.c_Entry)
 cl_Entry:Cls K a.c_Entry
 M_Entry:Mk K a.c_Entry a.f_d
 n_Entry_name:NoAttr K a.c_Entry "name"
 g_Within:mg "Within"=some (.ref a.c_Within)
 cl_Within:Cls K a.c_Within
 M_Within:Mk K a.c_Within a.f_v
 n_Within_low:NoAttr K a.c_Within "low"
 n_Within_high:NoAttr K a.c_Within "high"
 n_Within_name:NoAttr K a.c_Within "name"
 g_At:mg "At"=some (.ref a.c_At)
 cl_At:Cls K a.c_At
 M_At:Mk K a.c_At a.f_9
 n_At_low:NoAttr K a.c_At "low"
 n_At_high:NoAttr K a.c_At "high"
 n_At_name:NoAttr K a.c_At "name"
 g_Between:mg "Between"=some (.ref a.c_Between)
 cl_Between:Cls K a.c_Between
 M_Between:Mk K a.c_Between a.f_w
 n_Between_place:NoAttr K a.c_Between "place"
 n_Between_low:NoAttr K a.c_Between "low"
 n_Between_high:NoAttr K a.c_Between "high"
 n_Between_name:NoAttr K a.c_Between "name"
 g_Read:mg "Read"=some (.ref a.c_Read)
 cl_Read:Cls K a.c_Read
 M_Read:Mk K a.c_Read a.f_aa
 n_Read_place:NoAttr K a.c_Read "place"
 n_Read_low:NoAttr K a.c_Read "low"
 n_Read_high:NoAttr K a.c_Read "high"
 n_Read_name:NoAttr K a.c_Read "name"
 g_Joint:mg "Joint"=some (.ref a.c_Joint)
 cl_Joint:Cls K a.c_Joint
 M_Joint:Mk K a.c_Joint a.f_ab
 n_Joint_kept_parts:NoAttr K a.c_Joint "kept_parts"
 n_Joint_name:NoAttr K a.c_Joint "name"
 g_Sifted:mg "Sifted"=some (.ref a.c_Sifted)
 cl_Sifted:Cls K a.c_Sifted
 M_Sifted:Mk K a.c_Sifted a.f_ae
 n_Sifted_part:NoAttr K a.c_Sifted "part"
 n_Sifted_keeps:NoAttr K a.c_Sifted "keeps"
 n_Sifted_name:NoAttr K a.c_Sifted "name"
 g_Log:mg "Log"=some (.ref a.c_Log)
 cl_Log:Cls K a.c_Log
 M_Log:Mk K a.c_Log a.f_z
 n_Log_tables:NoAttr K a.c_Log "tables"
 n_Log_entries:NoAttr K a.c_Log "entries"
 n_Log_bound:NoAttr K a.c_Log "bound"
 g_Table:mg "Table"=some (.ref a.c_Table)
 cl_Table:Cls K a.c_Table
 M_Table:Mk K a.c_Table a.f_s
 n_Table_kept:NoAttr K a.c_Table "kept"
 n_len:mg "len"=none
 n_max:mg "max"=none
 n_min:mg "min"=none
 n_isinstance:mg "isinstance"=none
 n_range:mg "range"=none
 n_enumerate:mg "enumerate"=none
 n_int:mg "int"=none
 n_bool:mg "bool"=none
 n_str:mg "str"=none
 n_list:mg "list"=none
 n_tuple:mg "tuple"=none
 n_dict:mg "dict"=none
 n_sorted:mg "sorted"=none
 n_sum:mg "sum"=none
 n_zip:mg "zip"=none
 n_all:mg "all"=none
 g_LAST:∃ t,mg "LAST"=some (.int 1000000000 t)
 g_WIDEST_READING:∃ t,mg "WIDEST_READING"=some (.int 10000000000 t)
 g_LONGEST_NAME:∃ t,mg "LONGEST_NAME"=some (.int 8 t)
 g_MOST_PARTS:∃ t,mg "MOST_PARTS"=some (.int 8 t)
 g_MOST_SIFTED:∃ t,mg "MOST_SIFTED"=some (.int 1000 t)
 g_LATER:∃ t,mg "LATER"=some (.int 0 t)
 g_EARLIER:∃ t,mg "EARLIER"=some (.int 1 t)
 g_MINUTES:∃ t,mg "MINUTES"=some (.int 2 t)
 g_DAY:∃ t,mg "DAY"=some (.int 1440 t)
 g_MOST_ROWS:∃ t,mg "MOST_ROWS"=some (.int 21 t)
 g_WIDEST_SHIFT:∃ t,mg "WIDEST_SHIFT"=some (.int 2880 t)
 g_MOST_PLACES:∃ t,mg "MOST_PLACES"=some (.int 6 t)
 g_MOST_ENTRIES:∃ t,mg "MOST_ENTRIES"=some (.int 60 t)
 n_ValueError:mg "ValueError"=none
 g_LogError:mg "LogError"=some (.ref a.c_LogError)
 g_NoSpans:mg "NoSpans"=some (.ref a.c_NoSpans)
 g_NoTable:mg "NoTable"=some (.ref a.c_NoTable)
 g_TooMany:mg "TooMany"=some (.ref a.c_TooMany)
 g_NoMoment:mg "NoMoment"=some (.ref a.c_NoMoment)
 g_NoReading:mg "NoReading"=some (.ref a.c_NoReading)
 g_NoName:mg "NoName"=some (.ref a.c_NoName)
 g_NoPlace:mg "NoPlace"=some (.ref a.c_NoPlace)
 g_NoEntry:mg "NoEntry"=some (.ref a.c_NoEntry)
 g_Taken:mg "Taken"=some (.ref a.c_Taken)
 xl_LogError:xIn K a.c_LogError=true
 ci_LogError:qhl K a.c_LogError a.f_an
 i_Within_places:qho K a.c_Within "places" a.f_e
 i_At_places:qho K a.c_At "places" a.f_e
 i_At_spans:qho K a.c_At "spans" a.f_c
 i_Read_places:qho K a.c_Read "places" a.f_g
 i_Read_spans:qho K a.c_Read "spans" a.f_h
 ci_Entry:qhl K a.c_Entry a.f_d
 ci_Within:qhl K a.c_Within a.f_v
 ci_Between:qhl K a.c_Between a.f_w
 mr_Entry:XMro K a.c_Entry [some a.c_Entry,none]
 io_Entry:InsF K a.c_Entry
 mr_Within:XMro K a.c_Within [some a.c_Within,some a.c_Entry,none]
 io_Within:InsF K a.c_Within
 mr_At:XMro K a.c_At [some a.c_At,some a.c_Within,some a.c_Entry,none]
 io_At:InsF K a.c_At
 mr_Between:XMro K a.c_Between [some a.c_Between,some a.c_Entry,none]
 io_Between:InsF K a.c_Between
 mr_Read:XMro K a.c_Read [some a.c_Read,some a.c_Between,some a.c_Entry,none]
 io_Read:InsF K a.c_Read
 mr_Joint:XMro K a.c_Joint [some a.c_Joint,some a.c_Entry,none]
 io_Joint:InsF K a.c_Joint
 mr_Sifted:XMro K a.c_Sifted [some a.c_Sifted,some a.c_Entry,none]
 io_Sifted:InsF K a.c_Sifted
 mr_Log:XMro K a.c_Log [some a.c_Log,none]
 io_Log:InsF K a.c_Log
 mr_Table:XMro K a.c_Table [some a.c_Table,none]
 io_Table:InsF K a.c_Table
 t_Entry:qhk K a.c_Entry
 t_Within:qhk K a.c_Within
 t_At:qhk K a.c_At
 t_Between:qhk K a.c_Between
 t_Read:qhk K a.c_Read
 t_Joint:qhk K a.c_Joint
 t_Sifted:qhk K a.c_Sifted
 t_Log:qhk K a.c_Log
 t_Table:qhk K a.c_Table
 ndc:([a.c_Entry,a.c_Within,a.c_At,a.c_Between,a.c_Read,a.c_Joint,a.c_Sifted,a.c_Log,a.c_Table]:List Addr).Nodup
 cd_on_days:a.fd_7.code=.ref a.k_on_days
 hd_on_days:codeHdIn K a.k_on_days a.t_on_days=true
 cd_daily:a.fd_8.code=.ref a.k_daily
 hd_daily:codeHdIn K a.k_daily a.t_daily=true
 nt:[a.t_on_days,a.t_daily].Nodup
theorem Zb {α β:Type}{f:α->β}{xs:List α}{i:Nat}{y:β} (h:(xs.map f)[i]?=some y):∃ x,xs[i]?=some x∧y=f x:=by
 rw[List.getElem?_map]at h
 cases e:xs[i]? with
 | none=>rw[e]at h;cases h
 | some x=>rw[e]at h;exact⟨x,rfl,(Option.some.inj h).symm⟩
def Asc (rows:List (Int×Int)):Prop:=rows.Pairwise fun a b=>a.1 < b.1
def g2 (p:Int×Int):List Int:=[p.1,p.2]
abbrev pr:Int×Int->List V:=fun p=>(g2 p).map V.int
structure Good (rows:List (Int×Int)):Prop where
 few:rows.length≤21
 fst:∃ n,rows.head?=some (0,n)
 asc:Asc rows
 ok:∀ r∈rows,0≤r.1∧r.1≤1000000000∧-2880≤r.2∧r.2≤2880
structure Pa (rows:List (Int×Int)) (mo:Int):Prop where
 fst:(rows=[]∧mo=0)∨∃ n,rows.head?=some (0,n)
 asc:Asc rows
 top:∀ r∈rows,r.1≤mo
 ok:∀ r∈rows,0≤r.1∧-2880≤r.2∧r.2≤2880
theorem Pa.nil:Pa [] 0:=⟨.inl ⟨rfl,rfl⟩,List.Pairwise.nil,(fun r m=>nomatch m),(fun r m=>nomatch m)⟩
theorem Pa.snoc {rows:List (Int×Int)}{mo m s:Int} (h:Pa rows mo) (h0:rows=[]->m=0) (h1:rows≠[]->mo < m) (m0:0≤m) (s0:-2880≤s) (s1:s≤2880):Pa (rows++[(m,s)]) m:=by
 have lt:∀ r∈rows,r.1 < m:=fun r mr=>by
   have:=h.top r mr
   have:=h1 (fun e=>by rw[e]at mr;cases mr)
   omega
 refine⟨.inr ?_,List.pairwise_append.mpr ⟨h.asc,List.pairwise_singleton _ _,fun r mr b mb=>?_⟩,fun r mr=>?_,fun r mr=>?_⟩
 · cases rows with
   | nil=>exact⟨s,by rw[h0 rfl];rfl⟩
   | cons r rs =>
     rcases h.fst with z|⟨n,hn⟩
     · cases z.1
     · exact⟨n,by simpa using hn⟩
 · have e:b=(m,s):=by simpa using mb
   rw[e];exact lt r mr
 · rcases List.mem_append.mp mr with mr|mr
   · exact Int.le_of_lt (lt r mr)
   · have e:r=(m,s):=by simpa using mr
     rw[e];exact Int.le_refl _
 · rcases List.mem_append.mp mr with mr|mr
   · exact h.ok r mr
   · have e:r=(m,s):=by simpa using mr
     rw[e];exact⟨m0,s0,s1⟩
theorem Pa.good {rows:List (Int×Int)}{mo:Int} (h:Pa rows mo) (hm:mo≤1000000000) (h0:0 < rows.length) (h1:rows.length≤21):Good rows:=by
 refine⟨h1,?_,h.asc,fun r m=>?_⟩
 · rcases h.fst with z|z
   · rw[z.1]at h0;simp at h0
   · exact z
 · have:=h.ok r m
   have:=h.top r m
   omega
theorem Pa.far {rows:List (Int×Int)}{mo:Int}{l:Int×Int} (h:Pa rows mo) (hm:mo≤1000000000) (h0:1 < rows.length) (h1:rows.length≤21) (el:rows.getLast?=some l):Good (rows.set (rows.length - 1) (1000000000,l.2)):=by
 obtain⟨ys,rfl⟩:=List.getLast?_eq_some_iff.mp el
 have ey:(ys++[l]).set ((ys++[l]).length - 1) (1000000000,l.2)=ys++[(1000000000,l.2)]:=by
   rw[List.length_append];show (ys++[l]).set (ys.length+1 - 1) _=_;rw[Nat.add_sub_cancel,List.set_append_right _ _ (Nat.le_refl _),Nat.sub_self];rfl
 rw[ey];have hl:ys.length+1≤21:=by rw[List.length_append]at h1;exact h1
 have pos:0 < ys.length:=by rw[List.length_append]at h0;simp at h0;omega
 have okl:=h.ok l (by simp)
 have lt:∀ r∈ys,r.1 < 1000000000:=fun r mr=>by
   have h2:=(List.pairwise_append.mp h.asc).2.2 r mr l (by simp);have h3:=h.top l (by simp);have h4:r.1 < l.1:=h2;omega
 refine⟨by rw[List.length_append];exact hl,?_,List.pairwise_append.mpr ⟨(List.pairwise_append.mp h.asc).1,List.pairwise_singleton _ _,fun r mr b mb=>?_⟩,fun r mr=>?_⟩
 · rcases h.fst with z|⟨n,hn⟩
   · simp at z
   · cases ys with
     | nil=>simp at pos
     | cons r rs=>exact⟨n,by simpa using hn⟩
 · have e:b=(1000000000,l.2):=by simpa using mb
   rw[e];exact lt r mr
 · rcases List.mem_append.mp mr with mr|mr
   · have:=h.ok r (List.mem_append_left _ mr)
     have:=lt r mr
     omega
   · have e:r=(1000000000,l.2):=by simpa using mr
     rw[e];exact⟨(by show (0:Int)≤1000000000;decide),(by show (1000000000:Int)≤1000000000;decide),okl.2.1,okl.2.2⟩
theorem QE {α:Type}{xs:List α}{x:α} (h:xs.getLast?=some x):atI xs (-1)=some x:=by
 have hne:0 < xs.length:=List.length_pos_iff.mpr (fun z=>by rw[z]at h;cases h);unfold atI ixN;rw[if_neg (by decide),if_pos (by omega)];show xs[((-1:Int)+(xs.length:Int)).toNat]?=_;rw[tn_ xs.length,← List.getLast?_eq_getElem?];exact h
theorem qeI {n:Nat} (h:0 < n):ixN n (-1)=some (n - 1):=by
 unfold ixN;rw[if_neg (by decide),if_pos (by omega)];rw[tn_ n]
theorem TupL.last {H:Hp}{zs:List V}{ps:List (Int×Int)}{p:Int×Int} (h:TupL pr H zs ps) (e:ps.getLast?=some p):∃ t,zs.getLast?=some (.ref t)∧H t=some (.tup (pr p)):=by
 rw[List.getLast?_eq_getElem?]at e;obtain⟨t,h1,h2⟩:=h.at_ e;exact⟨t,by rw[List.getLast?_eq_getElem?,h.1];exact h1,h2⟩
theorem TupL.set {H:Hp}{zs:List V}{ps:List (Int×Int)}{i:Nat}{t:Addr}{p:Int×Int} (h:TupL pr H zs ps) (e:H t=some (.tup (pr p))):TupL pr H (zs.set i (.ref t)) (ps.set i p):=⟨by rw[List.length_set,List.length_set,h.1],fun j z y e1 e2=>by
 rw[List.getElem?_set]at e1 e2;by_cases hj:i=j
 · rw[if_pos hj]at e1 e2;split at e1
   · split at e2
     · cases e1;cases e2;exact⟨t,rfl,e⟩
     · cases e2
   · cases e1
 · rw[if_neg hj]at e1 e2
   exact h.2 j z y e1 e2⟩
inductive qmJ (H:Hp) (q:Addr) (rows:List (Int×Int)):Prop
 | mk (zs:_) (h1:H q=some (.lst zs)) (h2:TupL pr H zs rows):qmJ H q rows
def Rs (H:Hp) (q:Addr) (rows:List (Int×Int)):Prop:=qmJ H q rows
inductive qbn (K:Frag) (vs:List V) (H:Hp) (Q:VK):Prop
 | mk (a:Addr) (ns:List Int) (k:Int) (h1:vs=[.ref a,.int k]) (h2:SqL K H a (ns.map V.int)) (h3:0≤k) (h4:∀ c,Q (.int c) H):qbn K vs H Q
def qeg (K:Frag):Sp:=fun vs H Q _=>qbn K vs H Q
inductive qcG (vs:List V) (H:Hp) (Q:VK):Prop
 | mk (c k:Int) (h1:vs=[.int c,.int k]) (h2:∀ n:Int,0≤n->n < 268435456->Q (.int n) H):qcG vs H Q
def qfL:Sp:=fun vs H Q _=>qcG vs H Q
inductive qae (vs:List V) (H:Hp) (Q:VK):Prop
 | mk (c:Int) (h1:vs=[.int c]) (h2:∀ (p:Addr) (A B:Int),H p=none->0≤A->Q (.ref p) (upd H p (.lst [.int A,.int B,.int 0]))):qae vs H Q
def qcH:Sp:=fun vs H Q _=>qae vs H Q
inductive qbi (vs:List V) (H:Hp) (Q:VK):Prop
 | mk (p:Addr) (many:Int) (h1:vs=[.ref p,.int many]) (h2:PenAt H p) (h3:0 < many) (h4:many < 340282366920938463463374607431768211456) (h5:∀ (d:Int) (H':Hp),0≤d->d < many->But p H H'->PenAt H' p->Q (.int d) H'):qbi vs H Q
def Qy:Sp:=fun vs H Q _=>qbi vs H Q
inductive qaa (vs:List V) (H:Hp) (Q:VK):Prop
 | mk (p:Addr) (h1:vs=[.ref p]) (h2:PenAt H p) (h3:∀ (d:Int) (H':Hp),-2880≤d->d≤2880->But p H H'->PenAt H' p->Q (.int d) H'):qaa vs H Q
def qcE:Sp:=fun vs H Q _=>qaa vs H Q
inductive qbh (vs:List V) (H:Hp) (Q:VK):Prop
 | mk (p:Addr) (h1:vs=[.ref p]) (h2:PenAt H p) (h3:∀ (q:Addr) (rows:List (Int×Int)) (H':Hp),H q=none->But p H H'->PenAt H' p->Rs H' q rows->Good rows->Q (.ref q) H'):qbh vs H Q
def qeb:Sp:=fun vs H Q _=>qbh vs H Q
theorem But.up {p:Addr}{H:Hp} (o:HO):But p H (upd H p o):=(But.refl p H).put o
section
variable {P:Program}{w:World}{K:Frag}{mg:Str->Option Value}{base:Heap}
theorem qjZ {a:Ad} (T:Txt K mg a):qy P w K mg base CX0 1 a.f_C a.fd_C ["_law_cell_here","_law_k"] qfL:=by
 refine T.d_C.F.ok sc_Lmix (fun vs H Q E h=>?_) (fun cdv A outer s H vs Q E hr h=>?_)
 · obtain⟨c,k,rfl,kk⟩:=h;rfl
 · obtain⟨c,k,rfl,kk⟩:=h;have hU:=hr.units
   refine⟨_,(qc (qz (i:=2) sc_Lmix.nd rfl (Or.inl rfl) (qx QB (qx QY (qx QY (pv 0) (qx ZM qe (pv 1))) qe) qe))
     (qc (qz (i:=2) sc_Lmix.nd rfl (Or.inl rfl) (qx QB (qx ZM (qx QB (qx ZM (pv 2) (pv 2)) qe) qe) qe))
     (qf (qq (qx qaE (qx QB (qx ZM (pv 2) (qx QY (pv 2) qe)) qe) qe))))),?_⟩
   try dsimp only [zi,Cx.nox]
   refine⟨_,rfl,_,rfl,_,_,rfl,rfl,.inl ⟨by decide,by decide⟩,.inl ⟨_,_,rfl,rfl,.inl ⟨_,_,rfl,rfl,_,_,rfl,rfl,(by show (0:Int) < _;decide),?_⟩⟩⟩;(try dsimp only);generalize hn:(c+7919 * k+12345) % 2147483629=n;have n0:0≤n:=by omega
   have n1:n < 2147483629:=by omega
   refine⟨_,rfl,_,rfl,_,_,rfl,rfl,.inl ⟨by omega,by omega⟩,_,_,rfl,rfl,(by show (0:Int) < _;decide),_,_,rfl,rfl,.inr ⟨by decide,by decide⟩,_,_,rfl,rfl,(by show (0:Int) < _;decide),?_⟩;(try dsimp only);generalize hm:n * n % 2147483587 * 48271 % 2147483549=m;have m0:0≤m:=by rw[← hm];exact Int.emod_nonneg _ (by decide)
   have m1:m < 2147483549:=by rw[← hm];exact Int.emod_lt_of_pos _ (by decide)
   refine⟨_,rfl,_,rfl,.inl ⟨_,_,rfl,rfl,_,_,rfl,rfl,.inl ⟨by omega,by omega⟩,_,_,rfl,rfl,(by show (0:Int) < _;decide),_,_,rfl,rfl,⟨by decide,by decide⟩,?_⟩⟩;(try dsimp only);generalize hz:m * (m+31) % 2147483543=z;have z0:0≤z:=by rw[← hz];exact Int.emod_nonneg _ (by decide)
   have z1:z < 2147483543:=by rw[← hz];exact Int.emod_lt_of_pos _ (by decide)
   exact kk _ (by omega) (by omega)
theorem qgn {a:Ad} (T:Txt K mg a):qy P w K mg base CX0 1 a.f_Y a.fd_Y ["_law_cell_here"] qcH:=by
 refine T.d_Y.F.ok qfT (fun vs H Q E h=>?_) (fun cdv A outer s H vs Q E hr h=>?_)
 · obtain⟨c,rfl,kk⟩:=h;rfl
 · obtain⟨c,rfl,kk⟩:=h;refine⟨_,(qf (qq (qY (qa (ql (zm rfl) (by rfl) T.n_max zn (qa qe (qa (qx zY (pv 0) (qx Qo qe qe)) qb))) (qa (qx QB (pv 0) qe) (qa qe qb)))))),?_⟩;(try dsimp only [zi,Cx.nox]);refine⟨_,rfl,_,_,rfl,rfl,⟨by decide,by decide,by decide⟩,_,_,rfl,rfl,_,_,rfl,?_⟩;refine⟨_,rfl,_,_,rfl,rfl,(by show (0:Int) < _;decide),qo (Nat.le_of_ble_eq_true rfl),fun p fp=>?_⟩;exact kk p _ _ fp (by split<;>omega)
theorem Za {a:Ad} (T:Txt K mg a):qy P w K mg base CX0 2 a.f_a a.fd_a ["_law_state","_law_many"] Qy:=by
 have G_C:=qjZ (P:=P) (w:=w) (base:=base) T;refine T.d_a.F.ok sc_Lpull (fun vs H Q E h=>?_) (fun cdv A outer s H vs Q E hr h=>?_)
 · obtain⟨p,many,rfl,⟨c,x,y,c0,hp⟩,m0,m1,kk⟩:=h;rfl
 · obtain⟨p,many,rfl,⟨c,x,y,c0,hp⟩,m0,m1,kk⟩:=h;have h_C:Room (1) _:=hr.mono (by decide)
   refine⟨_,(qc (qG (qv qdQ (qA (r:=rIx K) qt (pv 0) qe (fun _ _=>rfl)) qe (qB _))
       (qc (qz (i:=2) sc_Lpull.nd rfl (Or.inl rfl) (qx QB (qA (r:=rIx K) qt (pv 0) qe (fun _ _=>rfl)) (pv 1)))
       (qc (ZK (qx qhP (qA (r:=rIx K) qt (pv 0) qe (fun _ _=>rfl)) (pv 1)) (qbC (pv 0) qe ZQ))
       (qf (qq (pv 2)))))
       qu)
     (qc (ZK (qx QY (qA (r:=rIx K) qt (pv 0) qe (fun _ _=>rfl)) qe) (qbC (pv 0) qe ZQ))
     (qc (qz (i:=3) sc_Lpull.nd rfl (Or.inl rfl) (qj G_C h_C rfl T.d_C.m T.d_C.k T.d_C.b .nil qk (qa (qA (r:=rIx K) qt (pv 0) qe (fun _ _=>rfl)) (qa (qx ZM qe (qA (r:=rIx K) qt (pv 0) qe (fun _ _=>rfl))) qb))))
     (qc (qz (i:=4) sc_Lpull.nd rfl (Or.inl rfl) (qj G_C h_C rfl T.d_C.m T.d_C.k T.d_C.b .nil qk (qa (qA (r:=rIx K) qt (pv 0) qe (fun _ _=>rfl)) (qa (qx QY (qx ZM qe (qA (r:=rIx K) qt (pv 0) qe (fun _ _=>rfl))) qe) qb))))
     (qf (qq (qx QB (qx QY (qx ZM (pv 3) qe) (pv 4)) (pv 1)))))))),?_⟩
   try dsimp only [zi,Cx.nox]
   refine⟨_,rfl,.inl ⟨p,_,_,_,rfl,rfl,SqL.of hp,rfl,_,_,rfl,rfl,_,rfl,?_⟩⟩;refine zT (fun hL=>?_) (fun hL=>?_)
   · refine⟨_,rfl,.inl ⟨p,_,_,_,rfl,rfl,SqL.of hp,rfl,_,rfl,_,_,rfl,rfl,m0,?_⟩⟩;refine⟨_,rfl,.inl ⟨p,_,_,_,rfl,rfl,SqL.of hp,rfl,_,rfl,_,_,rfl,rfl,⟨m0,m1⟩,_,rfl,p,_,_,0,rfl,rfl,hp,rfl,?_⟩⟩;refine⟨_,rfl,?_⟩;exact kk _ _ (Int.emod_nonneg _ (by omega)) (Int.emod_lt_of_pos _ m0) (But.up _) ⟨_,x,y,Int.ediv_nonneg c0 (by omega),qd⟩
   · refine⟨_,rfl,.inl ⟨p,_,_,_,rfl,rfl,SqL.of hp,rfl,.inl ⟨_,_,rfl,rfl,_,rfl,p,_,_,2,rfl,rfl,hp,rfl,?_⟩⟩⟩;have h1:(upd H p (.lst ([.int c,.int x,.int y].set 2 (.int (y+1))))) p=some (.lst [.int c,.int x,.int (y+1)]):=qd;have B:But p H (upd H p (.lst ([.int c,.int x,.int y].set 2 (.int (y+1))))):=But.up _;(try dsimp only);generalize upd H p (.lst ([.int c,.int x,.int y].set 2 (.int (y+1))))=G at h1 B ⊢;refine⟨_,rfl,.inl ⟨p,_,_,_,rfl,rfl,SqL.of h1,rfl,_,rfl,.inl ⟨p,_,_,_,rfl,rfl,SqL.of h1,rfl,_,_,rfl,rfl,.inl ⟨by decide,by decide⟩,_,_,rfl,fun n n0 n1=>?_⟩⟩⟩;refine⟨_,rfl,.inl ⟨p,_,_,_,rfl,rfl,SqL.of h1,rfl,_,rfl,.inl ⟨p,_,_,_,rfl,rfl,SqL.of h1,rfl,_,_,rfl,rfl,.inl ⟨by decide,by decide⟩,.inl ⟨_,_,rfl,rfl,_,_,rfl,fun k k0 k1=>?_⟩⟩⟩⟩;refine⟨_,rfl,_,_,rfl,rfl,.inr ⟨by decide,by decide⟩,_,rfl,.inl ⟨_,_,rfl,rfl,_,rfl,_,_,rfl,rfl,m0,?_⟩⟩;exact kk _ _ (Int.emod_nonneg _ (by omega)) (Int.emod_lt_of_pos _ m0) B ⟨c,x,y+1,c0,h1⟩
theorem qgl {a:Ad} (T:Txt K mg a):qy P w K mg base CX0 3 a.f_D a.fd_D ["_law_state"] qcE:=by
 have G_a:=Za (P:=P) (w:=w) (base:=base) T;refine T.d_D.F.ok sc_Lshift (fun vs H Q E h=>?_) (fun cdv A outer s H vs Q E hr h=>?_)
 · obtain⟨p,rfl,hp,kk⟩:=h;rfl
 · obtain⟨p,rfl,hp,kk⟩:=h;have hU:=hr.units;have h_a:Room (2) _:=hr.mono (by decide)
   refine⟨_,(qc (qz (i:=1) sc_Lshift.nd rfl (Or.inl rfl) (qj G_a h_a rfl T.d_a.m T.d_a.k T.d_a.b .nil qk (qa (pv 0) (qa qe qb))))
     (qc (qG (qv (uEq hU) (pv 1) qe (qB _))
       (qf (qq (qx ZM qe (qx zY (qj G_a h_a rfl T.d_a.m T.d_a.k T.d_a.b .nil qk (qa (pv 0) (qa qe qb))) qe))))
       qu)
     (qc (qG (qv (uEq hU) (pv 1) qe (qB _))
       (qf (qq (qx zY (qj G_a h_a rfl T.d_a.m T.d_a.k T.d_a.b .nil qk (qa (pv 0) (qa qe qb))) qe)))
       qu)
     (qf (qq (qx zY (qj G_a h_a rfl T.d_a.m T.d_a.k T.d_a.b .nil qk (qa (pv 0) (qa qe qb))) qe)))))),?_⟩
   try dsimp only [zi,Cx.nox]
   refine⟨_,rfl,p,_,rfl,hp,by decide,by decide,fun w G1 w0 w1 B_G1 p_G1=>?_⟩;refine⟨_,rfl,.inl ⟨rfl,_,rfl,?_⟩⟩;refine zT (fun g=>?_) (fun g=>?_)
   · refine⟨_,rfl,p,_,rfl,p_G1,by decide,by decide,fun d G2 d0 d1 B_G2 p_G2=>?_⟩;refine⟨_,_,rfl,rfl,_,_,rfl,rfl,.inl ⟨by decide,by decide⟩,?_⟩;exact kk _ _ (by omega) (by omega) (B_G1.trans B_G2) p_G2
   refine⟨_,rfl,.inl ⟨rfl,_,rfl,?_⟩⟩;refine zT (fun g=>?_) (fun g=>?_)
   · refine⟨_,rfl,p,_,rfl,p_G1,by decide,by decide,fun d G2 d0 d1 B_G2 p_G2=>?_⟩;refine⟨_,_,rfl,rfl,?_⟩;exact kk _ _ (by omega) (by omega) (B_G1.trans B_G2) p_G2
   · refine⟨_,rfl,p,_,rfl,p_G1,by decide,by decide,fun d G2 d0 d1 B_G2 p_G2=>?_⟩;refine⟨_,_,rfl,rfl,?_⟩;exact kk _ _ (by omega) (by omega) (B_G1.trans B_G2) p_G2
end
theorem TupL.pen {H H':Hp}{p:Addr}{zs:List V}{ps:List (Int×Int)} (h:TupL pr H zs ps) (hp:PenAt H p) (b:But p H H'):TupL pr H' zs ps:=⟨h.1,fun j z y e1 e2=>by
 obtain⟨t,e,ht⟩:=h.2 j z y e1 e2;obtain⟨c,x,y',_,hq⟩:=hp
 exact⟨t,e,b _ _ ht (qW ht hq (by intro z;cases z))⟩⟩
section
variable {P:Program}{w:World}{K:Frag}{mg:Str->Option Value}{base:Heap}
theorem qhT {a:Ad} (T:Txt K mg a):qy P w K mg base CX0 4 a.f_E a.fd_E ["_law_state"] qeb:=by
 have G_a:=Za (P:=P) (w:=w) (base:=base) T;have G_D:=qgl (P:=P) (w:=w) (base:=base) T;refine T.d_E.F.ok sc_Lrows (fun vs H Q E h=>?_) (fun cdv A outer s H vs Q E hr h=>?_)
 · obtain⟨p,rfl,hp,kk⟩:=h;rfl
 · obtain⟨p,rfl,hp,kk⟩:=h;have hU:=hr.units;have h_a:Room (2) _:=hr.mono (by decide);have h_D:Room (3) _:=hr.mono (by decide)
   refine⟨_,(@qc _ _ _ _ _ (by exact(@qz _ _ 1 _ _ _ _ (by exact sc_Lrows.nd) (by rfl) (by exact(Or.inl rfl)) (by exact(@qA _ _ _ _ _ _ (rIx K) (by exact qt) (by exact(@qY _ _ _ _ (by exact(@qa _ _ _ _ _ (by exact qe) (by exact(@qa _ _ _ _ _ (by exact qe) (by exact(@qa _ _ _ _ _ (by exact qe) (by exact(@qa _ _ _ _ _ (by exact qe) (by exact(@qa _ _ _ _ _ (by exact(qx Qo qe qe)) (by exact(@qb _)) (by rfl))) (by rfl))) (by rfl))) (by rfl))) (by rfl))))) (by exact(qj G_a h_a rfl T.d_a.m T.d_a.k T.d_a.b .nil qk (qa (pv 0) (qa qe qb)))) (by exact fun _ _=>rfl))) (by rfl) (by exact .inl rfl)))
     (by exact(@qc _ _ _ _ _ (by exact(@qz _ _ 2 _ _ _ _ (by exact sc_Lrows.nd) (by rfl) (by exact(Or.inl rfl)) (by exact(@qY _ _ _ _ (by exact(@qa _ _ _ _ _ (by exact(@zf _ _ _ _ _ (by exact(@qa _ _ _ _ _ (by exact qe) (by exact(@qa _ _ _ _ _ (by exact(qj G_D h_D rfl T.d_D.m T.d_D.k T.d_D.b .nil qk (qa (pv 0) qb))) (by exact(@qb _)) (by rfl))) (by rfl))))) (by exact(@qb _)) (by rfl))))) (by rfl) (by exact .inl rfl)))
     (by exact(@qc _ _ _ _ _ (by exact(@zr _ _ _ _ _ _ _ _ (by exact PassesOwn.never) (by rfl) (by exact(ZL rfl T.n_range (qa (qj G_a h_a rfl T.d_a.m T.d_a.k T.d_a.b .nil qk (qa (pv 0) (qa (@qA _ _ _ _ _ _ (rIx K) (by exact qt) (by exact(@qY _ _ _ _ (by exact(@qa _ _ _ _ _ (by exact qe) (by exact(@qa _ _ _ _ _ (by exact qe) (by exact(@qa _ _ _ _ _ (by exact qe) (by exact(@qa _ _ _ _ _ (by exact qe) (by exact(@qb _)) (by rfl))) (by rfl))) (by rfl))) (by rfl))))) (by exact(qj G_a h_a rfl T.d_a.m T.d_a.k T.d_a.b .nil qk (qa (pv 0) (qa qe qb)))) (by exact fun _ _=>rfl)) qb))) qb))) (by exact(qp (i:=3) (sc_Lrows.nd) rfl (Or.inl rfl)))
       (by exact(@qf _ _ _ (by exact(qO (qca PySem.F.plainAttrs_list PySem.F.slot_list_append PySem.F.type_list_append Qq (pv 2) (qa (zf (qa (qx QY (qx QY (qA (r:=rIx K) qt (qA (r:=rIx K) qt (pv 2) (jW Qu qe) (fun _ _=>rfl)) qe (fun _ _=>rfl)) qe) (qj G_a h_a rfl T.d_a.m T.d_a.k T.d_a.b .nil qk (qa (pv 0) (qa (qx ZM qe (pv 1)) qb)))) (qa (qj G_D h_D rfl T.d_D.m T.d_D.k T.d_D.b .nil qk (qa (pv 0) qb)) qb))) qb)))))) (by intro _;rfl)))
     (by exact(@qc _ _ _ _ _ (by exact(@qG _ _ _ _ _ _ _ _ (by exact(PW.pt (qc0 (qv qdQ (ql qZ (by rfl) T.n_len qF (qa (pv 2) qb)) qe (qB _)) (qaz (qv (uEq hU) (qj G_a h_a rfl T.d_a.m T.d_a.k T.d_a.b .nil qk (qa (pv 0) (qa qe qb))) qe (qB _))))))
       (by exact(@qf _ _ _ (by exact(ZK (zf (qa (qx Qo qe qe) (qa (qA (r:=rIx K) qt (qA (r:=rIx K) qt (pv 2) (jW Qu qe) (fun _ _=>rfl)) qe (fun _ _=>rfl)) qb))) (qbC (pv 2) (jW Qu qe) ZQ)))))
       (by exact qu)))
     (by exact(qf (qq (pv 2))))))))))),?_⟩
   try dsimp only [zi,Cx.nox]
   have p0:PenAt H p:=hp;have t0:But p H H:=But.refl p H;refine⟨_,_,rfl,rfl,⟨by decide,by decide,by decide⟩,(qo (Nat.le_of_ble_eq_true rfl)),fun l1 f_l1=>?_⟩;have n_l1:l1≠p:=p0.ne f_l1;have e_l1:(upd H l1 (.lst [.int 1,.int 4,.int 60,.int 1440,.int (10 ^ (7:Int).toNat)])) l1=some (.lst [.int 1,.int 4,.int 60,.int 1440,.int (10 ^ (7:Int).toNat)]):=qd;have p1:PenAt (upd H l1 (.lst [.int 1,.int 4,.int 60,.int 1440,.int (10 ^ (7:Int).toNat)])) p:=p0.upd n_l1 _;have u1:Same H (upd H l1 (.lst [.int 1,.int 4,.int 60,.int 1440,.int (10 ^ (7:Int).toNat)])):=Same.new _ f_l1;have t1:=t0.same u1;(try dsimp only);generalize upd H l1 (.lst [.int 1,.int 4,.int 60,.int 1440,.int (10 ^ (7:Int).toNat)])=G1 at e_l1 p1 u1 t1 ⊢;refine⟨_,rfl,p,_,rfl,p1,by decide,by decide,fun da G2 da0 da1 u2 p2=>?_⟩;have t2:=t1.trans u2;obtain⟨v,hv,mv⟩:=qaX (xs:=([.int 1,.int 4,.int 60,.int 1440,.int (10 ^ (7:Int).toNat)]:List V)) da0 da1
   obtain⟨u,rfl,ub0,ub1⟩:∃ u:Int,v=.int u∧1≤u∧u≤10000000:=by
     simp only[List.mem_cons,List.not_mem_nil,or_false]at mv;rcases mv with rfl|rfl|rfl|rfl|rfl<;>exact⟨_,rfl,by decide,by decide⟩
   refine .inl ⟨l1,_,_,_,rfl,rfl,SqL.of (u2 _ _ e_l1 n_l1),hv,?_⟩;refine⟨_,rfl,p,rfl,p2,fun sh G3 sh0 sh1 u3 p3=>?_⟩;have t3:=t2.trans u3;refine⟨(qo (Nat.le_of_ble_eq_true rfl)),fun t f_t=>?_⟩;have n_t:t≠p:=p3.ne f_t;have e_t:(upd G3 t (.tup [.int 0,.int sh])) t=some (.tup [.int 0,.int sh]):=qd;have p4:PenAt (upd G3 t (.tup [.int 0,.int sh])) p:=p3.upd n_t _;have u4:Same G3 (upd G3 t (.tup [.int 0,.int sh])):=Same.new _ f_t;have t4:=t3.same u4;(try dsimp only);generalize upd G3 t (.tup [.int 0,.int sh])=G4 at e_t p4 u4 t4 ⊢;refine⟨(qo (Nat.le_of_ble_eq_true rfl)),fun q f_q=>?_⟩;have n_q:q≠p:=p4.ne f_q;have e_q:(upd G4 q (.lst [.ref t])) q=some (.lst [.ref t]):=qd;have p5:PenAt (upd G4 q (.lst [.ref t])) p:=p4.upd n_q _;have u5:Same G4 (upd G4 q (.lst [.ref t])):=Same.new _ f_q;have t5:=t4.same u5;(try dsimp only);generalize upd G4 q (.lst [.ref t])=G5 at e_q p5 u5 t5 ⊢;have fqH:H q=none:=(t4).none f_q n_q
   have T0:TupL pr G5 [.ref t] [(0,sh)]:=by
     refine⟨rfl,fun j z y e1 e2=>?_⟩
     cases j with
     | zero=>cases e1;cases e2;exact⟨t,rfl,(u5 _ _ e_t)⟩
     | succ j=>cases e1
   have P0:Pa [(0,sh)] 0:=Pa.nil.snoc (fun _=>rfl) (fun z=>absurd rfl z) (by decide) (by omega) (by omega);clear u1 u2 u3 u4 u5 p0 p1 p2 p3 p4 t0 t1 t2 t3 t4 e_l1 e_t hv;(try unfold qJ);(try dsimp only);refine qR (t:=qfH _ _ _) (fun σ' H'=>∃ (s3:Option V) (zs:List V) (rows:List (Int×Int)) (mo:Int),σ'=[some (.ref p),some (.int u),some (.ref q),s3]∧But p H H'∧PenAt H' p∧H' q=some (.lst zs)∧TupL pr H' zs rows∧0 < rows.length∧rows.length≤21∧Pa rows mo∧mo≤900000000) (fun N hN=>?_) ?_;have t5':=t5
   · have p0:PenAt G5 p:=p5;have t0:But p G5 G5:=But.refl p G5;refine⟨_,rfl,(qo (Nat.le_of_ble_eq_true rfl)),fun l3 f_l3=>?_⟩;have n_l3:l3≠p:=p0.ne f_l3;have e_l3:(upd G5 l3 (.lst [.int 4,.int 4,.int 4,.int 21])) l3=some (.lst [.int 4,.int 4,.int 4,.int 21]):=qd;have p1:PenAt (upd G5 l3 (.lst [.int 4,.int 4,.int 4,.int 21])) p:=p0.upd n_l3 _;have u1:Same G5 (upd G5 l3 (.lst [.int 4,.int 4,.int 4,.int 21])):=Same.new _ f_l3;have t1:=t0.same u1;(try dsimp only);generalize upd G5 l3 (.lst [.int 4,.int 4,.int 4,.int 21])=G1 at e_l3 p1 u1 t1 ⊢;refine⟨_,rfl,p,_,rfl,p1,by decide,by decide,fun db G2 db0 db1 u2 p2=>?_⟩;have t2:=t1.trans u2;obtain⟨v,hv,mv⟩:=qaX (xs:=([.int 4,.int 4,.int 4,.int 21]:List V)) db0 db1
     obtain⟨m,rfl,m0,m1⟩:∃ u:Int,v=.int u∧0 < u∧u≤21:=by
       simp only[List.mem_cons,List.not_mem_nil,or_false]at mv;rcases mv with rfl|rfl|rfl|rfl<;>exact⟨_,rfl,by decide,by decide⟩
     refine .inl ⟨l3,_,_,_,rfl,rfl,SqL.of (u2 _ _ e_l3 n_l3),hv,?_⟩;refine⟨p,_,rfl,p2,m0,by omega,fun dn G3 dn0 dn1 u3 p3=>?_⟩;have t3:=t2.trans u3;have B0:But p H G3:=t5'.trans t3;have hq0:=(u3 _ _ (u2 _ _ (u1 _ _ e_q) n_q) n_q)
     have T1:=(TupL.pen (TupL.pen (L2.TupL.same T0 u1) p1 u2) p2 u3)
     refine⟨_,rfl,by omega,by omega,Jb (lo:=0) (D:={ nx:=N,rt:=Q }) (fun i σ H2=>∃ (s3:Option V) (zs:List V) (rows:List (Int×Int)) (mo:Int),σ=[some (.ref p),some (.int u),some (.ref q),s3]∧But p H H2∧PenAt H2 p∧H2 q=some (.lst zs)∧TupL pr H2 zs rows∧rows.length=i+1∧Pa rows mo∧0≤mo∧mo≤30000000 * (i:Int)∧∃ s,rows.getLast?=some (mo,s)) ⟨_,_,_,0,rfl,B0,p3,hq0,T1,rfl,P0,Int.le_refl _,(by omega),sh,rfl⟩ ?_ ?_⟩
     · rintro i σ H2 hi ⟨s3,zs,rows,mo,rfl,B,pB,hq,tz,lr,pa,mo0,mo1,s,el⟩;obtain⟨t0,hz0,ht0⟩:=TupL.last tz el;have hi2:i < 21:=by omega
       refine⟨_,rfl,.inl ⟨rfl,_,SqL.of hq⟩,?_⟩;refine⟨_,rfl,_,rfl,.inl ⟨q,_,_,_,rfl,rfl,SqL.of hq,QE hz0,.inr (.inl ⟨t0,_,_,_,rfl,rfl,SqT.of ht0,rfl,.inl ⟨_,_,rfl,rfl,?_⟩⟩)⟩⟩;refine⟨_,rfl,_,rfl,_,_,rfl,rfl,.inl ⟨by decide,by decide⟩,p,_,rfl,pB,by omega,by omega,fun d H3 d0 d1 B3 p3=>?_⟩;refine .inl ⟨_,_,rfl,rfl,_,rfl,p,rfl,p3,fun s2 H4 s20 s21 B4 p4=>?_⟩;have hq4:=B4 _ _ (B3 _ _ hq (n_q)) (n_q);have tz4:=TupL.pen (TupL.pen tz pB B3) p3 B4;refine⟨qo (Nat.le_of_ble_eq_true rfl),fun tt ft=>?_⟩;have ntp:tt≠p:=p4.ne ft;have St:=Same.new (.tup [.int (mo+1+d),.int s2]) ft;have hq5:=St _ _ hq4;refine⟨q,_,_,rfl,rfl,hq5,qE (by rw[tz.1];omega),?_⟩;refine⟨_,zs++[.ref tt],rows++[(mo+1+d,s2)],mo+1+d,rfl,?_,?_,qd,((tz4.same St).snoc (p:=(mo+1+d,s2)) qd).put hq5,by rw[List.length_append,lr];rfl,pa.snoc (fun z=>by rw[z]at lr;simp at lr) (fun _=>by omega) (by omega) (by omega) (by omega),by omega,by push_cast;omega,s2,by simp⟩
       · intro b o z nb
         have:=(B.trans (B3.trans B4)) b o z nb
         rw[qh (qi z fqH),qh (qi this ft)];exact this
       · exact(p4.upd ntp _).upd n_q _
     · rintro σ H2 ⟨s3,zs,rows,mo,rfl,B,pB,hq,tz,lr,pa,mo0,mo1,s,el⟩;exact hN _ _ ⟨s3,zs,rows,mo,rfl,B,pB,hq,tz,by omega,by omega,pa,by omega⟩
   rintro _ H2 ⟨s3,zs,rows,mo,rfl,B,pB,hq,tz,r0,r1,pa,mo1⟩;have e9:(10:Int) ^ (9:Int).toNat=1000000000:=by decide
   refine qR (t:=qkC _ _ _) (fun σ' H'=>∃ rows':List (Int×Int),σ'=[some (.ref p),some (.int u),some (.ref q),s3]∧But p H H'∧PenAt H' p∧Rs H' q rows'∧Good rows') (fun N hN=>?_) ?_
   · refine⟨_,rfl,_,_,rfl,.inl ⟨_,SqL.of hq,rfl⟩,_,_,rfl,rfl,_,rfl,zT (fun g1=>?_) (fun g1=>qkf (hN _ _ ⟨rows,rfl,B,pB,⟨zs,hq,tz⟩,pa.good (by omega) r0 r1⟩))⟩;have g3:1 < rows.length:=by have:=tz.1;omega
     refine⟨_,rfl,p,_,rfl,pB,by decide,by decide,fun d H3 d0 d1 B3 p3=>?_⟩;have hq3:=B3 _ _ hq n_q;have tz3:=TupL.pen tz pB B3;refine .inl ⟨rfl,_,rfl,zT (fun g2=>?_) (fun g2=>hN _ _ ⟨rows,rfl,B.trans B3,p3,⟨zs,hq3,tz3⟩,pa.good (by omega) r0 r1⟩)⟩
     cases el:rows.getLast? with
     | none =>
       rw[List.getLast?_eq_none_iff.mp el]at g3;simp at g3
     | some l =>
       obtain⟨t0,hz0,ht0⟩:=TupL.last tz3 el;refine⟨_,_,rfl,rfl,⟨by decide,by decide,by decide⟩,_,rfl,_,rfl,.inl ⟨q,_,_,_,rfl,rfl,SqL.of hq3,QE hz0,.inr (.inl ⟨t0,_,_,_,rfl,rfl,SqT.of ht0,rfl,qo (Nat.le_of_ble_eq_true rfl),fun tt ft=>?_⟩)⟩⟩;(try dsimp only);rw[e9];have St:=Same.new (.tup [.int 1000000000,.int l.2]) ft;have ntp:tt≠p:=p3.ne ft;refine⟨_,rfl,_,rfl,q,_,_,zs.length - 1,rfl,rfl,St _ _ hq3,qeI (by rw[tz.1];omega),?_⟩;refine hN _ _ ⟨_,rfl,?_,(p3.upd ntp _).upd n_q _,⟨_,qd,(TupL.set (tz3.same St) (i:=zs.length - 1) (p:=(1000000000,l.2)) qd).put (St _ _ hq3)⟩,?_⟩
       · intro b o z nb
         have:=(B.trans B3) b o z nb
         rw[qh (qi z fqH),qh (qi this ft)];exact this
       · rw[tz.1];exact pa.far (by omega) g3 r1 el
   rintro _ G6 ⟨rows',rfl,B6,p6,R6,good6⟩;exact⟨_,rfl,kk q rows' G6 fqH B6 p6 R6 good6⟩
end
def sgn (c:Nat):Bool:=(!decide ((⟨#[c]⟩:Str).cps.toList < ("a":Str).cps.toList)) && (!decide (("z":Str).cps.toList < (⟨#[c]⟩:Str).cps.toList))
def zC:V->Bool
 | .str x=>decide (1≤x.length) && decide (x.length≤8) && x.cps.toList.all sgn
 | _=>false
theorem qfA {l:List Nat}{i c:Nat} (h:l[i]?=some c):l.take (i+1)=l.take i++[c]:=by
 rw[List.take_add_one,h];rfl
theorem qjD {n:Nat} (h:n≤2000):n≤sizeLine:=Nat.le_trans h (by decide)
inductive ZW (vs:List V) (H:Hp) (Q:VK):Prop
 | mk (i:_) (h1:vs=[.int i]) (h2:Q (.bl true) H):ZW vs H Q
def zX:Sp:=fun vs H Q _=>ZW vs H Q
inductive jC (vs:List V) (H:Hp) (Q:VK):Prop
 | mk (i lo hi:Int) (h1:vs=[.int i,.int lo,.int hi]) (h2:lo≤i) (h3:i≤hi) (h4:Q (.bl true) H):jC vs H Q
def Q3:Sp:=fun vs H Q _=>jC vs H Q
inductive ZX (vs:List V) (H:Hp) (Q:VK):Prop
 | mk (i:Int) (h1:vs=[.int i]) (h2:0≤i) (h3:i≤1000000000) (h4:Q (.bl true) H):ZX vs H Q
def Zs:Sp:=fun vs H Q _=>ZX vs H Q
inductive Zr (vs:List V) (H:Hp) (Q:VK):Prop
 | mk (i:Int) (h1:vs=[.int i]) (h2:-10000000000≤i) (h3:i≤10000000000) (h4:Q (.bl true) H):Zr vs H Q
def Q4:Sp:=fun vs H Q _=>Zr vs H Q
inductive Jt (vs:List V) (H:Hp) (Q:VK):Prop
 | mk (x:Str) (h1:vs=[.str x]) (h2:zC (.str x)=true) (h3:∀ H',Same H H'->Q (.bl true) H'):Jt vs H Q
def Jj:Sp:=fun vs H Q _=>Jt vs H Q
inductive Zw (vs:List V) (H:Hp) (Q:VK):Prop
 | mk (x:Str) (h1:vs=[.str x]) (h2:zC (.str x)=true) (h3:∀ H',Same H H'->Q .non H'):Zw vs H Q
def Q5:Sp:=fun vs H Q _=>Zw vs H Q
inductive QK (vs:List V) (H:Hp) (Q:VK):Prop
 | mk (i:Int) (h1:vs=[.int i]) (h2:0≤i) (h3:i≤1000000000) (h4:Q .non H):QK vs H Q
def Zx:Sp:=fun vs H Q _=>QK vs H Q
inductive Qw (vs:List V) (H:Hp) (Q:VK):Prop
 | mk (i:Int) (h1:vs=[.int i]) (h2:-10000000000≤i) (h3:i≤10000000000) (h4:Q .non H):Qw vs H Q
def Zf:Sp:=fun vs H Q _=>Qw vs H Q
inductive ZE (K:Frag) (vs:List V) (H:Hp) (Q:VK):Prop
 | mk (x C dx:Addr) (nm:Str) (h1:vs=[.ref x,.str nm]) (h2:H x=some (.ins C dx [])) (h3:zC (.str nm)=true) (h4:Cls K C) (h5:NoAttr K C "name") (h6:∀ H',But x H H'->H' x=some (.ins C dx [("name",.str nm)])->Q .non H'):ZE K vs H Q
def zB (K:Frag):Sp:=fun vs H Q _=>ZE K vs H Q
inductive Zh (K:Frag) (vs:List V) (H:Hp) (Q:VK):Prop
 | mk (x C dx:Addr) (nm:Str) (lo hi:Int) (h1:vs=[.ref x,.str nm,.int lo,.int hi]) (h2:H x=some (.ins C dx [])) (h3:zC (.str nm)=true) (h4:(0≤lo∧lo≤1000000000)) (h5:(0≤hi∧hi≤1000000000)) (h6:Cls K C) (h7:NoAttr K C "name") (h8:NoAttr K C "low") (h9:NoAttr K C "high") (h10:∀ H',But x H H'->H' x=some (.ins C dx [("name",.str nm),("low",.int lo),("high",.int hi)])->Q .non H'):Zh K vs H Q
def QG (K:Frag):Sp:=fun vs H Q _=>Zh K vs H Q
inductive JA (a:Ad) (vs:List V) (H:Hp) (Q:VK):Prop
 | mk (x dx:Addr) (nm:Str) (m:Int) (h1:vs=[.ref x,.str nm,.int m]) (h2:H x=some (.ins a.c_At dx [])) (h3:zC (.str nm)=true) (h4:(0≤m∧m≤1000000000)) (h5:∀ H',But x H H'->H' x=some (.ins a.c_At dx [("name",.str nm),("low",.int m),("high",.int m)])->Q .non H'):JA a vs H Q
def qbp (a:Ad):Sp:=fun vs H Q _=>JA a vs H Q
inductive QQ (K:Frag) (vs:List V) (H:Hp) (Q:VK):Prop
 | mk (x C dx:Addr) (nm pl:Str) (lo hi:Int) (h1:vs=[.ref x,.str nm,.str pl,.int lo,.int hi]) (h2:H x=some (.ins C dx [])) (h3:zC (.str nm)=true) (h4:zC (.str pl)=true) (h5:(-10000000000≤lo∧lo≤10000000000)) (h6:(-10000000000≤hi∧hi≤10000000000)) (h7:Cls K C) (h8:NoAttr K C "name") (h9:NoAttr K C "place") (h10:NoAttr K C "low") (h11:NoAttr K C "high") (h12:∀ H',But x H H'->H' x=some (.ins C dx [("name",.str nm),("place",.str pl),("low",.int lo),("high",.int hi)])->Q .non H'):QQ K vs H Q
def Qm (K:Frag):Sp:=fun vs H Q _=>QQ K vs H Q
inductive Z0 (a:Ad) (vs:List V) (H:Hp) (Q:VK):Prop
 | mk (x dx:Addr) (nm pl:Str) (m:Int) (h1:vs=[.ref x,.str nm,.str pl,.int m]) (h2:H x=some (.ins a.c_Read dx [])) (h3:zC (.str nm)=true) (h4:zC (.str pl)=true) (h5:(-10000000000≤m∧m≤10000000000)) (h6:∀ H',But x H H'->H' x=some (.ins a.c_Read dx [("name",.str nm),("place",.str pl),("low",.int m),("high",.int m)])->Q .non H'):Z0 a vs H Q
def Ju (a:Ad):Sp:=fun vs H Q _=>Z0 a vs H Q
inductive QP (vs:List V) (H:Hp) (Q:VK):Prop
 | mk (v:V) (h1:vs=[v]) (h2:∀ l,H l=none->Q (.ref l) (upd H l (.lst []))):QP vs H Q
def qI:Sp:=fun vs H Q _=>QP vs H Q
section
variable {P:Program}{w:World}{K:Frag}{mg:Str->Option Value}{base:Heap}
theorem QC {a:Ad} (T:Txt K mg a):qy P w K mg base CX0 1 a.f_b a.fd_b ["thing"] zX:=by
 refine T.d_b.F.ok qcM (fun vs H Q E h=>?_) (fun cdv A outer s H vs Q E hr h=>?_)
 · obtain⟨i,rfl,kk⟩:=h;rfl
 · obtain⟨i,rfl,kk⟩:=h;refine⟨_,(qf (qq (jY (ql zu (by rfl) T.n_isinstance qr (qa (pv 0) (qa (zO (v:=.ty "int") rfl T.n_int Jg rfl) qb))) (JN (qi3 (ql zu (by rfl) T.n_isinstance qr (qa (pv 0) (qa (zO (v:=.ty "bool") rfl T.n_bool qbR rfl) qb)))))))),?_⟩;(try dsimp only [zi,Cx.nox]);refine⟨_,rfl,_,_,_,rfl,(by decide),rfl,true,rfl,qhm ?_⟩;exact⟨_,rfl,_,_,_,rfl,(by decide),rfl,false,rfl,kk⟩
theorem jt {a:Ad} (T:Txt K mg a):qy P w K mg base CX0 2 a.f_i a.fd_i ["thing","low","high"] Q3:=by
 have G_b:=QC (P:=P) (w:=w) (base:=base) T;refine T.d_i.F.ok qdI (fun vs H Q E h=>?_) (fun cdv A outer s H vs Q E hr h=>?_)
 · obtain⟨i,lo,hi,rfl,h1,h2,kk⟩:=h;rfl
 · obtain⟨i,lo,hi,rfl,h1,h2,kk⟩:=h;have h_b:Room (1) _:=hr.mono (by decide);refine⟨_,(qf (qq (jY (qj G_b h_b rfl T.d_b.m T.d_b.k T.d_b.b .nil qk (qa (pv 0) qb)) (JN (Qg zS zS (pv 1) (pv 0) (pv 2)))))),?_⟩;(try dsimp only [zi,Cx.nox]);refine⟨_,rfl,i,rfl,true,rfl,qhm ?_⟩;refine⟨_,rfl,_,rfl,_,_,rfl,rfl,_,rfl,zT (fun _=>?_) (fun g=>absurd h1 g)⟩;refine⟨_,rfl,_,_,rfl,rfl,?_⟩;show Q (.bl (decide (i≤hi))) H;rw[decide_eq_true h2];exact kk
theorem JO {a:Ad} (T:Txt K mg a):qy P w K mg base CX0 3 a.f_n a.fd_n ["thing"] Zs:=by
 have G_i:=jt (P:=P) (w:=w) (base:=base) T;refine T.d_n.F.ok qcN (fun vs H Q E h=>?_) (fun cdv A outer s H vs Q E hr h=>?_)
 · obtain⟨i,rfl,h1,h2,kk⟩:=h;rfl
 · obtain⟨i,rfl,h1,h2,kk⟩:=h;have h_i:Room (2) _:=hr.mono (by decide);obtain⟨t_LAST,c_LAST⟩:=T.g_LAST;refine⟨_,(qf (qq (qj G_i h_i rfl T.d_i.m T.d_i.k T.d_i.b .nil qk (qa (pv 0) (qa qe (qa (qS (v:=.int 1000000000) rfl c_LAST ⟨_,rfl⟩) qb)))))),?_⟩;(try dsimp only [zi,Cx.nox]);exact⟨_,rfl,i,0,1000000000,rfl,h1,h2,kk⟩
theorem jZ {a:Ad} (T:Txt K mg a):qy P w K mg base CX0 3 a.f_l a.fd_l ["thing"] Q4:=by
 have G_i:=jt (P:=P) (w:=w) (base:=base) T;refine T.d_l.F.ok qb2 (fun vs H Q E h=>?_) (fun cdv A outer s H vs Q E hr h=>?_)
 · obtain⟨i,rfl,h1,h2,kk⟩:=h;rfl
 · obtain⟨i,rfl,h1,h2,kk⟩:=h;have h_i:Room (2) _:=hr.mono (by decide);obtain⟨t_WIDEST_READING,c_WIDEST_READING⟩:=T.g_WIDEST_READING;refine⟨_,(qf (qq (qj G_i h_i rfl T.d_i.m T.d_i.k T.d_i.b .nil qk (qa (pv 0) (qa (jW Qu (qS (v:=.int 10000000000) rfl c_WIDEST_READING ⟨_,rfl⟩)) (qa (qS (v:=.int 10000000000) rfl c_WIDEST_READING ⟨_,rfl⟩) qb)))))),?_⟩;(try dsimp only [zi,Cx.nox]);exact⟨_,rfl,_,rfl,i,-10000000000,10000000000,rfl,h1,h2,kk⟩
theorem qbF {a:Ad} (T:Txt K mg a):qy P w K mg base CX0 1 a.f_o a.fd_o ["thing"] Jj:=by
 refine T.d_o.F.ok qe5 (fun vs H Q E h=>?_) (fun cdv A outer s H vs Q E hr h=>?_)
 · obtain⟨x,rfl,ok,k⟩:=h;rfl
 · obtain⟨x,rfl,ok,k⟩:=h;obtain⟨t_LONGEST_NAME,c_LONGEST_NAME⟩:=T.g_LONGEST_NAME
   refine⟨_,(qc (qG (PW.pt (qa6 (q8 (qX (ql zu (by rfl) T.n_isinstance qr (qa (pv 0) (qa (zO (v:=.ty "str") rfl T.n_str qdq rfl) qb))))) (jj (q8 (qex zS zS qe (ql qZ (by rfl) T.n_len qF (qa (pv 0) qb)) (qS (v:=.int 8) rfl c_LONGEST_NAME ⟨_,rfl⟩))))))
       (qf (qq jq))
       qu)
     (qf (qq (ql (qdp rfl) (by rfl) T.n_all qds (qa (Qb rfl (CompOk.def ["sign"] [none]) (qk3 (pv 0)) (fun _ _ _ _ _=>(qp (i:=0) (show List.Nodup (["sign"]:List Str) by decide +kernel) rfl (Or.inl rfl))) (fun _ _ _ _ _=>ZJ) (fun _ _ _ _ _=>(Qg qc3 qc3 qP (pv 0) qP))) qb))))),?_⟩
   try dsimp only [zi,Cx.nox]
   obtain⟨⟨l1,l8⟩,al⟩:(1≤x.length∧x.length≤8)∧x.cps.toList.all sgn=true:=by
     simp only[zC,Bool.and_eq_true,decide_eq_true_eq]at ok;exact ok
   have hx:x.length=x.cps.size:=rfl;refine⟨_,rfl,_,_,_,rfl,(by decide),rfl,true,rfl,qT rfl ?_⟩;refine⟨_,rfl,_,_,rfl,⟨qjD (by omega),rfl⟩,_,_,rfl,rfl,_,rfl,?_⟩;refine zT (fun h2=>?_) (fun h2=>absurd (by omega) h2);refine⟨_,_,rfl,rfl,_,rfl,?_⟩;refine qlm (fun h3=>absurd (by omega) h3) (fun h3=>?_);refine⟨_,rfl,x,rfl,fun D fD=>?_⟩;refine qit (x:=x) (D:=D) (fun i σ H2=>∃ (s0:Option V) (bs:List Bool),σ=[s0]∧Same H H2∧H2 D=some (.lst (bs.map V.bl))∧bs=(x.cps.toList.take i).map sgn) ⟨none,[],rfl,Same.new _ fD,qd,rfl⟩ ?_ ?_
   · rintro i c σ H2 hc ⟨s0,bs,rfl,s2,hD,hb⟩;obtain⟨hi,_⟩:=Array.getElem?_eq_some_iff.mp hc;have hcl:x.cps.toList[i]?=some c:=by simpa using hc
     have hbl:bs.length≤i:=by rw[hb,List.length_map,List.length_take];omega
     refine⟨_,rfl,_,_,rfl,rfl,_,rfl,?_⟩
     have fin:∀ v:Bool,v=sgn c->∃ ys,H2 D=some (.lst ys)∧ys.length < sizeLine∧∃ (s0:Option V) (bs:List Bool),[some (V.str ⟨#[c]⟩)]=[s0]∧Same H (upd H2 D (.lst (ys++[.bl v])))∧(upd H2 D (.lst (ys++[.bl v]))) D=some (.lst (bs.map V.bl))∧bs=(x.cps.toList.take (i+1)).map sgn:=fun v e =>
       ⟨_,hD,qE (by rw[List.length_map];omega),_,bs++[v],rfl,(fun b o z=>by rw[qh (qi z fD)];exact s2 b o z),by rw[qd,List.map_append];rfl,by rw[qfA hcl,List.map_append,← hb,e];rfl⟩
     refine qfi (fun h4=>?_) (fun h4=>?_)
     · refine⟨_,_,rfl,rfl,fin _ ?_⟩;unfold sgn;rw[h4,Bool.true_and]
     · refine fin _ ?_;unfold sgn;rw[h4,Bool.false_and]
   · rintro σ H2 ⟨s0,bs,rfl,s2,hD,hb⟩;refine⟨D,bs,rfl,SqL.of hD,?_⟩
     have e:bs.all id=true:=by
       rw[hb,List.all_map];refine List.all_eq_true.mpr fun c m=>?_;exact List.all_eq_true.mp al c (List.mem_of_mem_take m)
     first
       | (rw[e];exact k H2 s2)
       | (have:=k H2 s2;simpa[e] using this)
theorem j4 {a:Ad} (T:Txt K mg a):qy P w K mg base CX0 2 a.f_p a.fd_p ["thing"] Q5:=by
 have G_o:=qbF (P:=P) (w:=w) (base:=base) T;refine T.d_p.F.ok qb3 (fun vs H Q E h=>?_) (fun cdv A outer s H vs Q E hr h=>?_)
 · obtain⟨x,rfl,ok,k⟩:=h;rfl
 · obtain⟨x,rfl,ok,k⟩:=h;have h_o:Room (1) _:=hr.mono (by decide)
   refine⟨_,(qf (qG (q8 (qX (qj G_o h_o rfl T.d_o.m T.d_o.k T.d_o.b .nil qk (qa (pv 0) qb))))
       (qf qN)
       qu)),?_⟩
   try dsimp only [zi,Cx.nox]
   exact⟨_,rfl,x,rfl,ok,fun H1 S1=>⟨true,rfl,qT rfl (k H1 S1)⟩⟩
theorem qaF {a:Ad} (T:Txt K mg a):qy P w K mg base CX0 4 a.f_A a.fd_A ["thing"] Zx:=by
 have G_n:=JO (P:=P) (w:=w) (base:=base) T;refine T.d_A.F.ok qak (fun vs H Q E h=>?_) (fun cdv A outer s H vs Q E hr h=>?_)
 · obtain⟨i,rfl,h1,h2,k⟩:=h;rfl
 · obtain⟨i,rfl,h1,h2,k⟩:=h;have h_n:Room (3) _:=hr.mono (by decide)
   refine⟨_,(qf (qG (q8 (qX (qj G_n h_n rfl T.d_n.m T.d_n.k T.d_n.b .nil qk (qa (pv 0) qb))))
       (qf qN)
       qu)),?_⟩
   try dsimp only [zi,Cx.nox]
   exact⟨_,rfl,i,rfl,h1,h2,true,rfl,qT rfl k⟩
theorem JY {a:Ad} (T:Txt K mg a):qy P w K mg base CX0 4 a.f_B a.fd_B ["thing"] Zf:=by
 have G_l:=jZ (P:=P) (w:=w) (base:=base) T;refine T.d_B.F.ok JV (fun vs H Q E h=>?_) (fun cdv A outer s H vs Q E hr h=>?_)
 · obtain⟨i,rfl,h1,h2,k⟩:=h;rfl
 · obtain⟨i,rfl,h1,h2,k⟩:=h;have h_l:Room (3) _:=hr.mono (by decide)
   refine⟨_,(qf (qG (q8 (qX (qj G_l h_l rfl T.d_l.m T.d_l.k T.d_l.b .nil qk (qa (pv 0) qb))))
       (qf qN)
       qu)),?_⟩
   try dsimp only [zi,Cx.nox]
   exact⟨_,rfl,i,rfl,h1,h2,true,rfl,qT rfl k⟩
theorem zQ {a:Ad} (T:Txt K mg a):qy P w K mg base CX0 3 a.f_d a.fd_d ["self","name"] (zB K):=by
 have G_p:=j4 (P:=P) (w:=w) (base:=base) T;refine T.d_d.F.ok qb6 (fun vs H Q E h=>?_) (fun cdv A outer s H vs Q E hr h=>?_)
 · obtain⟨x,C,dx,nm,rfl,hx,ok,cl,na,k⟩:=h;rfl
 · obtain⟨x,C,dx,nm,rfl,hx,ok,cl,na,k⟩:=h;have h_p:Room (2) _:=hr.mono (by decide)
   refine⟨_,(qc (qO (qj G_p h_p rfl T.d_p.m T.d_p.k T.d_p.b .nil qk (qa (pv 1) qb)))
     (qf (QU (pv 0) (pv 1) rfl))),?_⟩
   try dsimp only [zi,Cx.nox]
   refine⟨_,rfl,nm,rfl,ok,fun H1 S1=>?_⟩;exact⟨_,rfl,_,rfl,x,C,dx,_,rfl,S1 _ _ hx,cl,na,(by decide),k _ (fun b o z nb=>by rw[qh nb];exact S1 b o z) qd⟩
theorem jk {a:Ad} (T:Txt K mg a):qy P w K mg base CX0 5 a.f_v a.fd_v ["self","name","low","high"] (QG K):=by
 have G_d:=zQ (P:=P) (w:=w) (base:=base) T;have G_A:=qaF (P:=P) (w:=w) (base:=base) T;refine T.d_v.F.ok qa2 (fun vs H Q E h=>?_) (fun cdv A outer s H vs Q E hr h=>?_)
 · obtain⟨x,C,dx,nm,lo,hi,rfl,hx,ok,hlo,hhi,cl,n1,n2,n3,k⟩:=h;rfl
 · obtain⟨x,C,dx,nm,lo,hi,rfl,hx,ok,hlo,hhi,cl,n1,n2,n3,k⟩:=h;have h_d:Room (3+1) _:=hr.mono (by decide);have h_A:Room (4) _:=hr.mono (by decide)
   refine⟨_,(qc (qO (ZR T.ci_Entry G_d (h_d.mono (by decide)) T.d_d.b rfl T.g_Entry (qa (pv 0) (qa (pv 1) qb))))
     (qc (qO (qj G_A h_A rfl T.d_A.m T.d_A.k T.d_A.b .nil qk (qa (pv 2) qb)))
     (qc (qO (qj G_A h_A rfl T.d_A.m T.d_A.k T.d_A.b .nil qk (qa (pv 3) qb)))
     (qc (QU (pv 0) (pv 2) rfl)
     (qf (QU (pv 0) (pv 3) rfl)))))),?_⟩
   try dsimp only [zi,Cx.nox]
   refine⟨_,rfl,_,rfl,x,C,dx,nm,rfl,hx,ok,cl,n1,fun H1 B1 h1=>?_⟩;refine⟨_,rfl,lo,rfl,hlo.1,hlo.2,?_⟩;refine⟨_,rfl,hi,rfl,hhi.1,hhi.2,?_⟩;refine⟨_,rfl,_,rfl,x,C,dx,_,rfl,h1,cl,n2,(by simp),?_⟩;refine⟨_,rfl,_,rfl,x,C,dx,_,rfl,qd,cl,n3,(Nat.le_of_ble_eq_true rfl),?_⟩;exact k _ ((B1.put _).put _) (by rw[qd];rfl)
theorem qfb {a:Ad} (T:Txt K mg a):qy P w K mg base CX0 7 a.f_9 a.fd_9 ["self","name","moment"] (qbp a):=by
 have G_v:=jk (P:=P) (w:=w) (base:=base) T;refine T.d_9.F.ok qe6 (fun vs H Q E h=>?_) (fun cdv A outer s H vs Q E hr h=>?_)
 · obtain⟨x,dx,nm,m,rfl,hx,ok,hm,k⟩:=h;rfl
 · obtain⟨x,dx,nm,m,rfl,hx,ok,hm,k⟩:=h;have h_v:Room (5+1) _:=hr.mono (by decide);refine⟨_,(qf (qO (ZR T.ci_Within G_v (h_v.mono (by decide)) T.d_v.b rfl T.g_Within (qa (pv 0) (qa (pv 1) (qa (pv 2) (qa (pv 2) qb))))))),?_⟩;(try dsimp only [zi,Cx.nox]);exact⟨_,rfl,_,rfl,_,rfl,_,rfl,x,a.c_At,dx,nm,m,m,rfl,hx,ok,hm,hm,T.cl_At,T.n_At_name,T.n_At_low,T.n_At_high,fun H1 B1 h1=>k H1 B1 h1⟩
theorem ZN {a:Ad} (T:Txt K mg a):qy P w K mg base CX0 5 a.f_w a.fd_w ["self","name","place","low","high"] (Qm K):=by
 have G_d:=zQ (P:=P) (w:=w) (base:=base) T;have G_p:=j4 (P:=P) (w:=w) (base:=base) T;have G_B:=JY (P:=P) (w:=w) (base:=base) T;refine T.d_w.F.ok qan (fun vs H Q E h=>?_) (fun cdv A outer s H vs Q E hr h=>?_)
 · obtain⟨x,C,dx,nm,pl,lo,hi,rfl,hx,ok,okp,hlo,hhi,cl,n1,n2,n3,n4,k⟩:=h;rfl
 · obtain⟨x,C,dx,nm,pl,lo,hi,rfl,hx,ok,okp,hlo,hhi,cl,n1,n2,n3,n4,k⟩:=h;have h_d:Room (3+1) _:=hr.mono (by decide);have h_p:Room (2) _:=hr.mono (by decide);have h_B:Room (4) _:=hr.mono (by decide)
   refine⟨_,(qc (qO (ZR T.ci_Entry G_d (h_d.mono (by decide)) T.d_d.b rfl T.g_Entry (qa (pv 0) (qa (pv 1) qb))))
     (qc (qO (qj G_p h_p rfl T.d_p.m T.d_p.k T.d_p.b .nil qk (qa (pv 2) qb)))
     (qc (qO (qj G_B h_B rfl T.d_B.m T.d_B.k T.d_B.b .nil qk (qa (pv 3) qb)))
     (qc (qO (qj G_B h_B rfl T.d_B.m T.d_B.k T.d_B.b .nil qk (qa (pv 4) qb)))
     (qc (QU (pv 0) (pv 2) rfl)
     (qc (QU (pv 0) (pv 3) rfl)
     (qf (QU (pv 0) (pv 4) rfl)))))))),?_⟩
   try dsimp only [zi,Cx.nox]
   refine⟨_,rfl,_,rfl,x,C,dx,nm,rfl,hx,ok,cl,n1,fun H1 B1 h1=>?_⟩;refine⟨_,rfl,pl,rfl,okp,fun H2 S2=>?_⟩;refine⟨_,rfl,lo,rfl,hlo.1,hlo.2,?_⟩;refine⟨_,rfl,hi,rfl,hhi.1,hhi.2,?_⟩;refine⟨_,rfl,_,rfl,x,C,dx,_,rfl,S2 _ _ h1,cl,n2,(by simp),?_⟩;refine⟨_,rfl,_,rfl,x,C,dx,_,rfl,qd,cl,n3,(Nat.le_of_ble_eq_true rfl),?_⟩;refine⟨_,rfl,_,rfl,x,C,dx,_,rfl,qd,cl,n4,(Nat.le_of_ble_eq_true rfl),?_⟩;exact k _ ((((B1.same S2).put _).put _).put _) (by rw[qd];rfl)
theorem qc6 {a:Ad} (T:Txt K mg a):qy P w K mg base CX0 7 a.f_aa a.fd_aa ["self","name","place","reading"] (Ju a):=by
 have G_w:=ZN (P:=P) (w:=w) (base:=base) T;refine T.d_aa.F.ok qcO (fun vs H Q E h=>?_) (fun cdv A outer s H vs Q E hr h=>?_)
 · obtain⟨x,dx,nm,pl,m,rfl,hx,ok,okp,hm,k⟩:=h;rfl
 · obtain⟨x,dx,nm,pl,m,rfl,hx,ok,okp,hm,k⟩:=h;have h_w:Room (5+1) _:=hr.mono (by decide);refine⟨_,(qf (qO (ZR T.ci_Between G_w (h_w.mono (by decide)) T.d_w.b rfl T.g_Between (qa (pv 0) (qa (pv 1) (qa (pv 2) (qa (pv 3) (qa (pv 3) qb)))))))),?_⟩;(try dsimp only [zi,Cx.nox]);exact⟨_,rfl,_,rfl,_,rfl,_,rfl,_,rfl,x,a.c_Read,dx,nm,pl,m,m,rfl,hx,ok,okp,hm,hm,T.cl_Read,T.n_Read_name,T.n_Read_place,T.n_Read_low,T.n_Read_high,fun H1 B1 h1=>k H1 B1 h1⟩
theorem Qp {a:Ad} (T:Txt K mg a):qy P w K mg base CX0 1 a.f_e a.fd_e ["self"] qI:=by
 refine T.d_e.F.ok qam (fun vs H Q E h=>?_) (fun cdv A outer s H vs Q E hr h=>?_)
 · obtain⟨v,rfl,k⟩:=h;rfl
 · obtain⟨v,rfl,k⟩:=h;refine⟨_,(qf (qq (qY qb))),?_⟩;(try dsimp only [zi,Cx.nox]);exact⟨Nat.zero_le _,fun l f=>k l f⟩
end
def SrtOk (ws:List (Int×Int)):Prop:=ws.length < 64∨(ws.length≤1000∧(ws.map g2).Pairwise (fun a b=>QW b a=false))
theorem SrtOk.le {ws:List (Int×Int)} (h:SrtOk ws):ws.length≤1000:=by rcases h with h|h<;>omega
theorem SrtOk.filter {ws:List (Int×Int)} (h:SrtOk ws) (p:Int×Int->Bool):SrtOk (ws.filter p):=by
 have l:=List.length_filter_le p ws;rcases h with h|⟨h,k⟩
 · exact .inl (by omega)
 · exact .inr ⟨by omega,List.Pairwise.sublist (List.Sublist.map _ List.filter_sublist) k⟩
theorem SrtOk.one (w:Int×Int):SrtOk [w]:=.inl (Nat.le_of_ble_eq_true rfl)
theorem qdr:bootBuiltins "sorted"=some (.builtin "sorted"):=by decide +kernel
theorem Rs.same {H H':Hp}{q:Addr}{rows:List (Int×Int)} (h:Rs H q rows) (s:Same H H'):Rs H' q rows:=by
 obtain⟨zs,h1,h2⟩:=h;exact⟨zs,s _ _ h1,h2.same s⟩
abbrev okw (w:Int×Int):Bool:=decide (w.1≤w.2)
theorem qdE {H:Hp}{zs:List V}{ws:List (Int×Int)} (h:TupL pr H zs ws):TupI H zs (ws.map g2):=by
 refine⟨by rw[List.length_map];exact h.1,fun i z r e1 e2=>?_⟩;obtain⟨p,hp,rfl⟩:=Zb e2;exact h.2 i z p e1 hp
theorem qj1 {H:Hp}{zs:List V}{ws:List (Int×Int)} (h:TupI H zs (ws.map g2)):TupL pr H zs ws :=
 ⟨by have:=h.len;rwa [List.length_map]at this,fun i z p e1 e2=>h.at_ i z (g2 p) e1 (by rw[List.getElem?_map,e2];rfl)⟩
theorem qhK {rs:List (List Int)}{fs:List (Int×Int)} (h:rs.Perm (fs.map g2)):∃ ss:List (Int×Int),rs=ss.map g2∧ss.Perm fs:=by
 refine⟨rs.map fun r=>(r.getD 0 0,r.getD 1 0),?_,?_⟩
 · rw[List.map_map];refine(List.map_id rs).symm.trans (List.map_congr_left fun r hr=>?_);obtain⟨p,_,rfl⟩:=List.mem_map.mp (h.mem_iff.mp hr);rfl
 · have:=h.map fun r=>(r.getD 0 0,r.getD 1 0)
   rw[List.map_map]at this
   rwa [show (fs.map ((fun r:List Int=>(r.getD 0 0,r.getD 1 0)) ∘ g2))=fs from (List.map_congr_left fun p _=>rfl).trans (List.map_id fs)]at this
theorem qk5 {ss:List (Int×Int)} (h:(ss.map g2).Pairwise fun a b=>QW b a=false):ss.Pairwise fun a b=>a.1≤b.1:=by
 refine(List.pairwise_map.mp h).imp fun {a b} g=>?_;have g':QW [b.1,b.2] [a.1,a.2]=false:=g;unfold QW at g';by_cases e:b.1=a.1
 · omega
 · rw[if_neg e]at g'
   have:=of_decide_eq_false g'
   omega
theorem qld (ws:List (Int×Int)) (n:Int):Mem (ws.filter okw) n↔Mem ws n:=by
 constructor
 · rintro⟨w,hw,h⟩;exact⟨w,(List.mem_filter.mp hw).1,h⟩
 · rintro⟨w,hw,h⟩;exact⟨w,List.mem_filter.mpr ⟨hw,decide_eq_true (by omega)⟩,h⟩
theorem qh3 {ss fs:List (Int×Int)} (h:ss.Perm fs) (n:Int):Mem ss n↔Mem fs n :=
 ⟨fun⟨w,hw,k⟩=>⟨w,h.mem_iff.mp hw,k⟩,fun⟨w,hw,k⟩=>⟨w,h.mem_iff.mpr hw,k⟩⟩
theorem qgQ {acc:List (Int×Int)}{l w:Int×Int} (h:acc.getLast?=some l) (e:w.1≤l.2+1):qbf acc w=acc.set (acc.length - 1) (l.1,if w.2 > l.2 then w.2 else l.2):=by
 unfold qbf;rw[h];exact if_pos e
theorem qij {acc:List (Int×Int)}{l w:Int×Int} (h:acc.getLast?=some l) (e:¬ w.1≤l.2+1):qbf acc w=acc++[w]:=by
 unfold qbf;rw[h];exact if_neg e
theorem qik (acc:List (Int×Int)) (w:Int×Int):(qbf acc w).length≤acc.length+1:=by
 unfold qbf;split
 · split
   · rw[List.length_set];omega
   · rw[List.length_append];exact Nat.le_refl _
 · simp
theorem qeK {ws:List (Int×Int)}{i:Nat}{w:Int×Int} (h:ws[i]?=some w):(ws.take (i+1)).foldl qbf []=qbf ((ws.take i).foldl qbf []) w:=by
 rw[List.take_add_one,h,List.foldl_append];rfl
theorem Ja (ws:List (Int×Int)):∀ i,((ws.take i).foldl qbf []).length≤i
 | 0=>by simp
 | i+1=>by
   cases h:ws[i]? with
   | none =>
     have:=Ja ws i
     rw[List.take_add_one,h];simp only[Option.toList,List.append_nil];omega
   | some w =>
     have:=Ja ws i
     have:=qik ((ws.take i).foldl qbf []) w
     rw[qeK h];omega
theorem qlT {K:Frag}{H:Hp}{q:Addr}{zs:List V}{ws:List (Int×Int)}{Q:VK} (hq:SqL K H q zs) (tp:TupL pr H zs ws) (so:SrtOk ws)
   (k:∀ (p:Addr) (zs':List V) (rs':List (List Int)),H p=none->rs'.Perm (ws.map g2)->TupI H zs' rs'->rs'.Pairwise (fun a b=>QW b a=false)->Q (.ref p) (upd H p (.lst zs'))):qiS K [.ref q] H Q∨qiR K [.ref q] H Q:=by
 have h2:∀ r∈ws.map g2,r.length=2:=fun r hr=>by obtain⟨w,_,rfl⟩:=List.mem_map.mp hr;rfl
 rcases so with so|⟨_,up⟩
 · exact .inl ⟨q,zs,ws.map g2,2,rfl,hq,qdE tp,h2,(by decide),by rw[tp.1];exact so,k⟩
 · exact .inr ⟨q,zs,ws.map g2,2,rfl,hq,qdE tp,h2,(by decide),up,fun p fp=>k p zs _ fp (.refl _) (qdE tp) up⟩
inductive Zq (vs:List V) (H:Hp) (Q:VK):Prop
 | mk (t:Addr) (r:Int×Int) (h1:vs=[.ref t]) (h2:H t=some (.tup (pr r))) (h3:Q (.bl true) H):Zq vs H Q
def jD:Sp:=fun vs H Q _=>Zq vs H Q
inductive Qe (vs:List V) (H:Hp) (Q:VK):Prop
 | mk (q:Addr) (ws:List (Int×Int)) (h1:vs=[.ref q]) (h2:Rs H q ws) (h3:∀ H',Same H H'->Q .non H'):Qe vs H Q
def Qv:Sp:=fun vs H Q _=>Qe vs H Q
inductive jA (vs:List V) (H:Hp) (Q:VK):Prop
 | mk (q:Addr) (ws:List (Int×Int)) (h1:vs=[.ref q]) (h2:Rs H q ws) (h3:SrtOk ws) (h4:∀ (d:Addr) (r:List (Int×Int)) (H':Hp),H d=none->Same H H'->Rs H' d r->zj r->r.length≤ws.length->(∀ n,Mem r n↔Mem ws n)->Q (.ref d) H'):jA vs H Q
def Q0:Sp:=fun vs H Q _=>jA vs H Q
section
variable {P:Program}{w:World}{K:Frag}{mg:Str->Option Value}{base:Heap}
theorem qcc {a:Ad} (T:Txt K mg a):qy P w K mg base CX0 2 a.f_I a.fd_I ["thing"] jD:=by
 have G_b:=QC (P:=P) (w:=w) (base:=base) T;refine T.d_I.F.ok qb1 (fun vs H Q E h=>?_) (fun cdv A outer s H vs Q E hr h=>?_)
 · obtain⟨t,r,rfl,ht,kk⟩:=h;rfl
 · obtain⟨t,r,rfl,ht,kk⟩:=h;have hU:=hr.units;have h_b:Room (1) _:=hr.mono (by decide);refine⟨_,(qf (qq (jY (ql zu (by rfl) T.n_isinstance qr (qa (pv 0) (qa (zO (v:=.ty "tuple") rfl T.n_tuple jx rfl) qb))) (jY (Qc (uEq hU) (ql qZ (by rfl) T.n_len qF (qa (pv 0) qb)) qe (qB _)) (jY (qj G_b h_b rfl T.d_b.m T.d_b.k T.d_b.b .nil qk (qa (qA (r:=rIx K) qt (pv 0) qe (fun _ _=>rfl)) qb)) (JN (qj G_b h_b rfl T.d_b.m T.d_b.k T.d_b.b .nil qk (qa (qA (r:=rIx K) qt (pv 0) qe (fun _ _=>rfl)) qb)))))))),?_⟩;(try dsimp only [zi,Cx.nox]);have ty:tyN H (.ref t)=some "tuple":=by simp only[tyN];rw[ht]
   refine⟨_,rfl,_,_,_,rfl,(by decide),ty,_,rfl,Ze rfl ?_⟩;refine⟨_,rfl,_,_,rfl,.inr ⟨_,SqT.of ht,rfl⟩,.inl ⟨rfl,_,rfl,Ze (decide_eq_true rfl) ?_⟩⟩;refine⟨_,rfl,.inr (.inl ⟨t,_,_,_,rfl,rfl,SqT.of ht,rfl,_,rfl,true,rfl,qhm ?_⟩)⟩;exact⟨_,rfl,.inr (.inl ⟨t,_,_,_,rfl,rfl,SqT.of ht,rfl,_,rfl,kk⟩)⟩
theorem j3 {a:Ad} (T:Txt K mg a):qy P w K mg base CX0 3 a.f_J a.fd_J ["stretches"] Qv:=by
 have G_I:=qcc (P:=P) (w:=w) (base:=base) T;refine T.d_J.F.ok sc_check_stretches (fun vs H Q E h=>?_) (fun cdv A outer s H vs Q E hr h=>?_)
 · obtain⟨q,ws,rfl,hrs,kk⟩:=h;rfl
 · obtain⟨q,ws,rfl,hrs,kk⟩:=h;have h_I:Room (2) _:=hr.mono (by decide)
   refine⟨_,(qc (qG (q8 (qX (ql zu (by rfl) T.n_isinstance qr (qa (pv 0) (qa (zO (v:=.ty "list") rfl T.n_list q9 rfl) qb)))))
       (qf qN)
       qu)
     (qf (zr PassesOwn.never rfl (qdO rfl T.n_enumerate (qa (pv 0) qb)) (Qn rfl (qw (qp (i:=1) (sc_check_stretches.nd) rfl (Or.inl rfl)) (qw (qp (i:=2) (sc_check_stretches.nd) rfl (Or.inl rfl)) zx)))
       (qf (qG (q8 (qX (qj G_I h_I rfl T.d_I.m T.d_I.k T.d_I.b .nil qk (qa (pv 2) qb))))
         (qf qN)
         qu))))),?_⟩
   try dsimp only [zi,Cx.nox]
   obtain⟨zs,hq,tp⟩:=id hrs;have ty:tyN H (.ref q)=some "list":=by simp only[tyN];rw[hq]
   refine⟨_,rfl,_,_,_,rfl,(by decide),ty,true,rfl,qT rfl ?_⟩;refine⟨_,rfl,q,rfl,⟨zs,SqL.of hq⟩,qcs (K:=K) (a:=q) (xs:=zs) (fun i σ H2=>∃ s1 s2:Option V,σ=[some (.ref q),s1,s2]∧Same H H2) ⟨none,none,rfl,Same.refl H⟩ (fun i σ H2 _ ⟨_,_,_,S⟩=>SqL.of (S _ _ hq)) ?_ ?_⟩
   · rintro i x σ H2 p hx ⟨s1,s2,rfl,S⟩ hn;have S2:Same H (upd H2 p (.tup [.int i,x])):=S.then _ hn
     obtain⟨r,t,hr',rfl,ht⟩:=tp.of hx;refine⟨p,_,rfl,SqT.of qd,rfl,_,_,rfl,_,_,rfl,rfl,?_⟩;exact⟨_,rfl,t,r,rfl,S2 _ _ ht,_,rfl,qT rfl ⟨_,_,rfl,S2⟩⟩
   · rintro σ H2 ⟨s1,s2,rfl,S⟩;exact kk H2 S
theorem jr {a:Ad} (T:Txt K mg a):qy P w K mg base CX0 4 a.f_j a.fd_j ["stretches"] Q0:=by
 have G_J:=j3 (P:=P) (w:=w) (base:=base) T;refine T.d_j.F.ok sc_spans_of (fun vs H Q E h=>?_) (fun cdv A outer s H vs Q E hr h=>?_)
 · obtain⟨q,ws,rfl,hrs,few,kk⟩:=h;rfl
 · obtain⟨q,ws,rfl,hrs,few,kk⟩:=h;have few1:=few.le;have h_J:Room (3) _:=hr.mono (by decide)
   refine⟨_,(qc (qO (qj G_J h_J rfl T.d_J.m T.d_J.k T.d_J.b .nil qk (qa (pv 0) qb)))
     (qc (qz (i:=1) sc_spans_of.nd rfl (Or.inl rfl) (qY qb))
     (qc (zr PassesOwn.never rfl (zc (ql (call_sortT.or qfo) (by rfl) T.n_sorted qdr (qa (Qb rfl (CompOk.def ["stretch"] [none]) (zc (pv 0)) (fun _ _ _ _ _=>(qp (i:=0) (show List.Nodup (["stretch"]:List Str) by decide +kernel) rfl (Or.inl rfl))) (fun _ _ _ _ _=>(Jm (qv zS (qA (r:=rIx K) qt (pv 0) qe (fun _ _=>rfl)) (qA (r:=rIx K) qt (pv 0) qe (fun _ _=>rfl)) (qB _)))) (fun _ _ _ _ _=>(pv 0))) qb))) (Qn rfl (qw (qp (i:=2) (sc_spans_of.nd) rfl (Or.inl rfl)) (qw (qp (i:=3) (sc_spans_of.nd) rfl (Or.inl rfl)) zx)))
       (qf (qG (PW.pt (qc0 (qhD (pv 1) (fun _=>rfl)) (qaz (qv zS (pv 2) (qx QY (qA (r:=rIx K) qt (qA (r:=rIx K) qt (pv 1) (jW Qu qe) (fun _ _=>rfl)) qe (fun _ _=>rfl)) qe) (qB _)))))
         (qf (ZK (zf (qa (qA (r:=rIx K) qt (qA (r:=rIx K) qt (pv 1) (jW Qu qe) (fun _ _=>rfl)) qe (fun _ _=>rfl)) (qa (ql (zm rfl) (by rfl) T.n_max zn (qa (qA (r:=rIx K) qt (qA (r:=rIx K) qt (pv 1) (jW Qu qe) (fun _ _=>rfl)) qe (fun _ _=>rfl)) (qa (pv 3) qb))) qb))) (qbC (pv 1) (jW Qu qe) ZQ)))
         (qf (qO (qca PySem.F.plainAttrs_list PySem.F.slot_list_append PySem.F.type_list_append Qq (pv 1) (qa (zf (qa (pv 2) (qa (pv 3) qb))) qb)))))))
     (qf (qq (pv 1)))))),?_⟩
   try dsimp only [zi,Cx.nox]
   refine⟨_,rfl,q,ws,rfl,hrs,fun G0 S0=>?_⟩;refine⟨qo (Nat.le_of_ble_eq_true rfl),fun D fD=>?_⟩;have SD:=Same.new (.lst []) fD;have hD0:(upd G0 D (.lst [])) D=some (.lst []):=qd;obtain⟨zs,hq,tp⟩:=(hrs.same S0).same SD;(try unfold qJ);(try dsimp only);generalize upd G0 D (.lst [])=G at SD hD0 hq tp ⊢;have hl:zs.length=ws.length:=tp.1;refine⟨_,rfl,q,rfl,⟨_,SqL.of hq⟩,fun C fC=>?_⟩;refine zH (K:=K) (a:=q) (xs:=zs) (D:=C) (fun i σ H2=>∃ (c0:Option V) (cs:List V),σ=[c0]∧Same G H2∧H2 C=some (.lst cs)∧TupL pr H2 cs ((ws.take i).filter okw)) ⟨none,[],rfl,Same.new _ fC,qd,.nil⟩ (fun i σ H2 _ ⟨_,_,_,S,_⟩=>SqL.of (S _ _ hq)) ?_ ?_
   · rintro i z σ H2 hz ⟨c0,cs,rfl,S,hC,tc⟩;obtain⟨r,t,hr',rfl,ht⟩:=tp.of hz;have ht2:=S _ _ ht;have et:ws.take (i+1)=ws.take i++[r]:=by rw[List.take_add_one,hr'];rfl
     have lc:cs.length≤1000:=by
       rw[tc.1];refine Nat.le_trans (List.length_filter_le _ _) ?_;rw[List.length_take];omega
     refine⟨_,rfl,.inr (.inl ⟨t,_,_,_,rfl,rfl,SqT.of ht2,rfl,_,rfl,.inr (.inl ⟨t,_,_,_,rfl,rfl,SqT.of ht2,rfl,_,_,rfl,rfl,_,rfl,zT (fun g=>?_) (fun g=>?_)⟩)⟩)⟩
     · refine⟨_,rfl,_,hC,qE (by omega),_,cs++[.ref t],rfl,S.put fC _,qd,?_⟩;rw[et,List.filter_append,show List.filter okw [r]=[r] by simp[okw,g]];exact(tc.snoc (p:=r) ht2).put hC
     · refine⟨_,cs,rfl,S,hC,?_⟩;rw[et,List.filter_append,show List.filter okw [r]=[] by simp[okw,g],List.append_nil];exact tc
   rintro σ H2 ⟨c0,cs,rfl,S,hC,tc⟩;rw[hl,List.take_length]at tc;have okf:∀ w∈ws.filter okw,w.1≤w.2:=fun w hw=>of_decide_eq_true (List.mem_filter.mp hw).2;have lf:(ws.filter okw).length≤ws.length:=List.length_filter_le _ _;have mok:=qld ws;have sof:=few.filter okw;generalize ws.filter okw=fs at tc okf lf mok sof;refine qlT (SqL.of hC) tc sof fun p zs' rs' fp hp tI ho=>?_;obtain⟨ss,rfl,hss⟩:=qhK hp;have ord:=qk5 ho;have oks:∀ w∈ss,w.1≤w.2:=fun w m=>okf w (hss.mem_iff.mp m);have lss:ss.length≤ws.length:=by rw[hss.length_eq];exact lf
   have tz0:TupL pr H2 zs' ss:=qj1 tI;have Sp:=Same.new (.lst zs') fp;have tz:=tz0.same Sp;have hp1:(upd H2 p (.lst zs')) p=some (.lst zs'):=qd;have hD1:=Sp _ _ (S _ _ hD0);have npD:p≠D:=fun e=>by rw[e,S _ _ hD0]at fp;cases fp
   have SG:=SD.trans (S.trans Sp);(try dsimp only);generalize upd H2 p (.lst zs')=G1 at tz hp1 hD1 SG ⊢;refine⟨p,rfl,⟨_,SqL.of hp1⟩,zI (D:={ nx:=qhv (qks 1) { nx:=fun _ H'=>Q .non H',rt:=Q },rt:=Q }) (K:=K) (a:=p) (xs:=zs') (fun i σ H3=>∃ (s2 s3:Option V) (ys:List V),σ=[some (.ref q),some (.ref D),s2,s3]∧But D G1 H3∧H3 D=some (.lst ys)∧TupL pr H3 ys ((ss.take i).foldl qbf [])) ⟨none,none,[],rfl,(fun c o e _=>e),hD1,.nil⟩ (fun i σ H3 _ ⟨_,_,_,_,B,_⟩=>SqL.of (B _ _ hp1 npD)) ?_ ?_⟩
   · rintro i z σ H3 hz ⟨s2,s3,ys,rfl,B,hD,ty⟩;obtain⟨wv,t,hw,rfl,ht⟩:=tz.of hz;have ntD:t≠D:=qW ht hD1 (by intro z;cases z);have ht3:=B _ _ ht ntD;have okv:=oks wv (List.mem_of_getElem? hw)
     have ly:ys.length≤1000:=by
       have:=Ja ss i
       have lti:i < ss.length:=(List.getElem?_eq_some_iff.mp hw).1;rw[ty.1];omega
     refine⟨t,_,rfl,SqT.of ht3,rfl,_,_,rfl,_,_,rfl,rfl,?_⟩;rw[qeK hw];generalize (ss.take i).foldl qbf []=acc at ty ⊢
     cases ea:acc.getLast? with
     | none =>
       have e0:acc=[]:=List.getLast?_eq_none_iff.mp ea;subst e0;have ey:ys=[]:=List.eq_nil_of_length_eq_zero ty.1;subst ey;refine⟨_,rfl,false,.inl ⟨_,SqL.of hD,rfl⟩,qkf (qkf ?_)⟩;refine⟨_,rfl,.inl ⟨rfl,_,SqL.of hD⟩,_,rfl,_,rfl,qo (Nat.le_of_ble_eq_true rfl),fun tt ft=>?_⟩;have St:=Same.new (.tup [.int wv.1,.int wv.2]) ft;refine⟨D,_,_,rfl,rfl,St _ _ hD,qE (by omega),?_⟩;refine⟨_,_,[]++[.ref tt],rfl,(fun c o e n=>?_),qd,?_⟩
       · rw[qh n];exact St _ _ (B c o e n)
       · exact((TupL.nil (f:=pr)).snoc (p:=wv) qd).put (St _ _ hD)
     | some l =>
       obtain⟨tl,hzl,htl⟩:=TupL.last ty ea
       have ey:true=!ys.isEmpty:=by
         cases ys with
         | nil=>cases hzl
         | cons y ys=>rfl
       refine⟨_,rfl,true,.inl ⟨_,SqL.of hD,ey⟩,qhm ?_⟩;refine⟨_,rfl,_,rfl,_,rfl,.inl ⟨D,_,_,_,rfl,rfl,SqL.of hD,QE hzl,.inr (.inl ⟨tl,_,_,_,rfl,rfl,SqT.of htl,rfl,.inl ⟨_,_,rfl,rfl,_,_,rfl,rfl,_,rfl,zT (fun g=>?_) (fun g=>?_)⟩⟩)⟩⟩
       · have g':wv.1≤l.2+1:=g;refine⟨_,rfl,_,rfl,.inl ⟨D,_,_,_,rfl,rfl,SqL.of hD,QE hzl,.inr (.inl ⟨tl,_,_,_,rfl,rfl,SqT.of htl,rfl,_,rfl,_,rfl,.inl ⟨D,_,_,_,rfl,rfl,SqL.of hD,QE hzl,.inr (.inl ⟨tl,_,_,_,rfl,rfl,SqT.of htl,rfl,_,rfl,_,_,rfl,qo (Nat.le_of_ble_eq_true rfl),fun tt ft=>?_⟩)⟩⟩)⟩⟩;have St:=Same.new (.tup [.int l.1,.int (if wv.2 > l.2 then wv.2 else l.2)]) ft;refine⟨_,rfl,_,rfl,D,_,_,ys.length - 1,rfl,rfl,St _ _ hD,qeI (by cases ys with|nil=>cases hzl|cons y ys=>simp),?_⟩;refine⟨_,_,ys.set (ys.length - 1) (.ref tt),rfl,(fun c o e n=>?_),qd,?_⟩
         · rw[qh n];exact St _ _ (B c o e n)
         · rw[qgQ ea g',← ty.1];exact(TupL.set (ty.same St) (i:=ys.length - 1) (p:=(l.1,if wv.2 > l.2 then wv.2 else l.2)) qd).put (St _ _ hD)
       · have g':¬ wv.1≤l.2+1:=g;refine⟨_,rfl,.inl ⟨rfl,_,SqL.of hD⟩,_,rfl,_,rfl,qo (Nat.le_of_ble_eq_true rfl),fun tt ft=>?_⟩;have St:=Same.new (.tup [.int wv.1,.int wv.2]) ft;refine⟨D,_,_,rfl,rfl,St _ _ hD,qE (by omega),?_⟩;refine⟨_,_,ys++[.ref tt],rfl,(fun c o e n=>?_),qd,?_⟩
         · rw[qh n];exact St _ _ (B c o e n)
         · rw[qij ea g'];exact((ty.same St).snoc (p:=wv) qd).put (St _ _ hD)
   · rintro σ H3 ⟨s2,s3,ys,rfl,B,hD,ty⟩;have glen:=Ja ss ss.length;rw[tz.1]at ty;rw[List.take_length]at ty glen;obtain⟨f1,f2⟩:=qgU ss [] ⟨fun _ z=>(nomatch z),List.Pairwise.nil⟩ oks ord fun _ z=>nomatch z;refine⟨_,rfl,kk D _ H3 (S0.none fD) (fun c o e=>?_) ⟨ys,hD,ty⟩ f1 (by omega) fun n=>?_⟩
     · have n:c≠D:=qi (S0 _ _ e) fD;exact B _ _ (SG _ _ (S0 _ _ e)) n
     · rw[f2,qh3 hss,mok];exact⟨fun h=>h.elim (fun⟨_,z,_⟩=>nomatch z) id,.inr⟩
end
abbrev pr3:Int×Int×Int->List V:=fun p=>[.int p.1,.int p.2.1,.int p.2.2]
def qg0 (rows:List (Int×Int)):List Int:=(rows.drop 1).map (fun r=>r.1 - 1)++[1000000000]
def nxt:List (Int×Int)->Int
 | []=>1000000000
 | r::_=>r.1 - 1
def pcs:List (Int×Int)->List (Int×Int×Int)
 | []=>[]
 | r::rs=>(r.1,nxt rs,r.2)::pcs rs
theorem Jn:∀ rows:List (Int×Int),(pcs rows).length=rows.length
 | []=>rfl
 | r::rs=>by show (pcs rs).length+1=rs.length+1;rw[Jn rs]
theorem qiq {rows:List (Int×Int)} (h:0 < rows.length):(qg0 rows).length=rows.length:=by
 unfold qg0;rw[List.length_append,List.length_map,List.length_drop];show rows.length - 1+1=rows.length;omega
theorem qdn (r r':Int×Int) (rs:List (Int×Int)):qg0 (r::r'::rs)=(r'.1 - 1)::qg0 (r'::rs):=rfl
theorem qeB:∀ (rows:List (Int×Int)) (i:Nat) (r:Int×Int) (e:Int),rows[i]?=some r->(qg0 rows)[i]?=some e->(pcs rows)[i]?=some (r.1,e,r.2)
 | [],i,r,e,h,_=>by simp at h
 | [r0],i,r,e,h,h'=>by
   cases i with
   | zero=>cases h;cases h';rfl
   | succ i=>simp at h
 | r0::r1::rs,i,r,e,h,h'=>by
   cases i with
   | zero =>
     cases h;rw[qdn]at h';cases h';rfl
   | succ i =>
     rw[qdn]at h';exact qeB (r1::rs) i r e h h'
theorem qnc (zs:List V) (h:0 < zs.length):qcw zs (some 1) none=zs.drop 1:=by
 unfold qcw;rw[show HT.sIx zs.length 0 (some 1)=min 1 zs.length from HT.sIx_nat _ _ 1,HT.sIx_none,Nat.min_eq_left h];rw[List.take_of_length_le (by rw[List.length_drop];exact Nat.le_refl _)]
theorem qcr {rows:List (Int×Int)} (h:Good rows):0 < rows.length:=by
 obtain⟨n,hn⟩:=h.fst
 cases rows with
 | nil=>cases hn
 | cons r rs=>exact Nat.succ_pos _
def mp (lo hi:Int) (p:Int×Int×Int):Int×Int:=(if lo - p.2.2 > p.1 then lo - p.2.2 else p.1,if hi - p.2.2 < p.2.1 then hi - p.2.2 else p.2.1)
def shw (rows:List (Int×Int)) (lo hi:Int):List (Int×Int):=(pcs rows).map (mp lo hi)
def qlt (k:Addr):List (Str×V):=qc1 "kept" (.ref k) []
theorem qdm (k:Addr):(qlt k).lookup ("kept":Str)=some (.ref k):=by
 unfold qlt;rw[Zd,if_pos rfl]
theorem qgW (k:Addr) {m:Str} (h1:¬ m="kept"):(qlt k).lookup m=none:=by
 unfold qlt;rw[Zd,if_neg h1];rfl
inductive qmH (a:Ad) (H:Hp) (x:Addr) (rows:List (Int×Int)):Prop
 | mk (k dx:Addr) (zs:List V) (h1:H x=some (.ins a.c_Table dx (qlt k))) (h2:H k=some (.lst zs)) (h3:TupL pr H zs rows):qmH a H x rows
def Tb (a:Ad) (H:Hp) (x:Addr) (rows:List (Int×Int)):Prop:=qmH a H x rows
inductive QM (a:Ad) (vs:List V) (H:Hp) (Q:VK):Prop
 | mk (x:Addr) (rows:List (Int×Int)) (h1:vs=[.ref x]) (h2:Tb a H x rows) (h3:Good rows) (h4:∀ (d:Addr) (zs:List V) (H':Hp),H d=none->Same H H'->H' d=some (.lst zs)->TupL pr3 H' zs (pcs rows)->Q (.ref d) H'):QM a vs H Q
def Zy (a:Ad):Sp:=fun vs H Q _=>QM a vs H Q
inductive zE (a:Ad) (vs:List V) (H:Hp) (Q:VK):Prop
 | mk (x:Addr) (rows:List (Int×Int)) (lo hi:Int) (h1:vs=[.ref x,.int lo,.int hi]) (h2:Tb a H x rows) (h3:Good rows) (h4:(-10000000000≤lo∧lo≤10000000000)) (h5:(-10000000000≤hi∧hi≤10000000000)) (h6:∀ (d:Addr) (r:List (Int×Int)) (H':Hp),H d=none->Same H H'->Rs H' d r->zj r->r.length≤21->(∀ n,Mem r n↔Mem (shw rows lo hi) n)->Q (.ref d) H'):zE a vs H Q
def zL (a:Ad):Sp:=fun vs H Q _=>zE a vs H Q
section
variable {P:Program}{w:World}{K:Frag}{mg:Str->Option Value}{base:Heap}
theorem qaG {a:Ad} (T:Txt K mg a):qy P w K mg base CX0 1 a.f_ak a.fd_ak ["self"] (Zy a):=by
 refine T.d_ak.F.ok sc_Table_pieces (fun vs H Q E h=>?_) (fun cdv A outer s H vs Q E hr h=>?_)
 · obtain⟨x,rows,rfl,⟨k,dx,zs,hx,hk,tp⟩,good,kk⟩:=h;rfl
 · obtain⟨x,rows,rfl,⟨k,dx,zs,hx,hk,tp⟩,good,kk⟩:=h;obtain⟨t_LAST,c_LAST⟩:=T.g_LAST
   refine⟨_,(qc (qz (i:=1) sc_Table_pieces.nd rfl (Or.inl rfl) (qx QY (Qb rfl (CompOk.def ["moment","shift"] [none,none]) (zc (Q9 uSl (qU (pv 0) rfl) (Q8 qe) qaB)) (fun _ _ _ _ _=>(show PG _ _ (qku K 2 _) from (Qn rfl (qw (qp (i:=0) (show List.Nodup (["moment","shift"]:List Str) by decide +kernel) rfl (Or.inl rfl)) (qw (qp (i:=1) (show List.Nodup (["moment","shift"]:List Str) by decide +kernel) rfl (Or.inl rfl)) zx))))) (fun _ _ _ _ _=>ZJ) (fun _ _ _ _ _=>(qx zY (pv 0) qe))) (qY (qa (qS (v:=.int 1000000000) rfl c_LAST ⟨_,rfl⟩) qb))))
     (qf (qq (Qb rfl (CompOk.def ["row","end"] [none,none]) (qk1 rfl T.n_zip (qa (qU (pv 0) rfl) (qa (pv 1) qb))) (fun _ _ _ _ _=>(show PG _ _ (qku K 2 _) from (Qn rfl (qw (qp (i:=0) (show List.Nodup (["row","end"]:List Str) by decide +kernel) rfl (Or.inl rfl)) (qw (qp (i:=1) (show List.Nodup (["row","end"]:List Str) by decide +kernel) rfl (Or.inl rfl)) zx))))) (fun _ _ _ _ _=>ZJ) (fun _ _ _ _ _=>(zf (qa (qA (r:=rIx K) qt (pv 0) qe (fun _ _=>rfl)) (qa (pv 1) (qa (qA (r:=rIx K) qt (pv 0) qe (fun _ _=>rfl)) qb))))))))),?_⟩
   try dsimp only [zi,Cx.nox]
   have hl:zs.length=rows.length:=tp.1;have pos:=qcr good;have few:=good.few;refine⟨_,rfl,x,_,dx,_,_,rfl,hx,T.cl_Table,T.n_Table_kept,qdm _,_,rfl,.inl ⟨k,_,rfl,SqL.of hk,fun sl fsl=>?_⟩⟩;rw[qnc zs (by omega)];have B1:=Same.new (.lst (zs.drop 1)) fsl;refine⟨sl,rfl,⟨_,SqL.of qd⟩,fun D fD=>?_⟩;have B2:=B1.then (.lst []) fD
   refine zH (K:=K) (a:=sl) (xs:=zs.drop 1) (D:=D) (fun i σ H2=>∃ c0 c1:Option V,σ=[c0,c1]∧Same (upd H sl (.lst (zs.drop 1))) H2∧H2 D=some (.lst (((rows.drop 1).take i).map fun r=>V.int (r.1 - 1)))) ⟨none,none,rfl,Same.new _ fD,qd⟩ (fun i σ H2 _ ⟨_,_,_,S,_⟩=>SqL.of (S _ _ qd)) ?_ ?_
   · rintro i z σ H2 hz ⟨c0,c1,rfl,S,hD⟩;have hz':zs[i+1]?=some z:=by rw[List.getElem?_drop]at hz;rw[Nat.add_comm];exact hz
     have hi:i+1 < rows.length:=by rw[← hl];exact(List.getElem?_eq_some_iff.mp hz').1
     obtain⟨r,hr'⟩:∃ r,rows[i+1]?=some r:=⟨_,List.getElem?_eq_getElem hi⟩
     obtain⟨u,rfl,hu'⟩:=tp.2 (i+1) z r hz' hr';have hu2:=S _ _ (B1 _ _ hu');have hrd:(rows.drop 1)[i]?=some r:=by rw[List.getElem?_drop,Nat.add_comm];exact hr'
     have et:(rows.drop 1).take (i+1)=(rows.drop 1).take i++[r]:=by rw[List.take_add_one,hrd];rfl
     refine⟨u,_,rfl,SqT.of hu2,rfl,_,_,rfl,_,_,rfl,rfl,?_⟩;refine⟨_,rfl,_,_,rfl,rfl,_,hD,qE ?_,_,_,rfl,S.put fD _,?_⟩
     · rw[List.length_map,List.length_take,List.length_drop];omega
     · rw[qd,et,List.map_append];rfl
   rintro σ H2 ⟨c0,c1,rfl,S,hD⟩;rw[List.length_drop,hl,show rows.length - 1=(rows.drop 1).length by rw[List.length_drop],List.take_length]at hD;refine⟨qo (Nat.le_of_ble_eq_true rfl),fun l1 fl1=>?_⟩;have C1:=Same.new (.lst [.int 1000000000]) fl1;refine .inr (.inl ⟨D,l1,_,_,rfl,rfl,C1 _ _ hD,qd,qE (by rw[List.length_map,List.length_drop];omega),fun e fe=>?_⟩)
   have he:(upd (upd H2 l1 (.lst [.int 1000000000])) e (.lst (((rows.drop 1).map fun r=>V.int (r.1 - 1))++[.int 1000000000]))) e=some (.lst ((qg0 rows).map V.int)):=by
     rw[qd];unfold qg0;rw[List.map_append,List.map_map];rfl
   have C2:=Same.new (.lst (((rows.drop 1).map fun r=>V.int (r.1 - 1))++[.int 1000000000])) fe;have SS:=((B1.trans S).trans C1).trans C2;(try dsimp only);generalize upd (upd H2 l1 (.lst [.int 1000000000])) e (.lst (((rows.drop 1).map fun r=>V.int (r.1 - 1))++[.int 1000000000]))=G at he SS ⊢;have hkG:=SS _ _ hk;have tpG:=tp.same SS;refine⟨_,rfl,x,_,dx,_,_,rfl,(SS _ _ hx),T.cl_Table,T.n_Table_kept,qdm _,_,rfl,false,k,e,rfl,⟨_,SqL.of hkG⟩,⟨_,SqL.of he⟩,fun D2 fD2=>?_⟩;have el:zs.length=((qg0 rows).map V.int).length:=by rw[List.length_map,qiq pos,hl]
   refine qis (K:=K) (t:=false) (a:=k) (b:=e) (xs:=zs) (ys:=(qg0 rows).map V.int) (D:=D2) (fun i σ H3=>∃ (c0 c1:Option V) (ws:List V),σ=[c0,c1]∧Same G H3∧H3 D2=some (.lst ws)∧TupL pr3 H3 ws ((pcs rows).take i)) el ⟨none,none,[],rfl,Same.new _ fD2,qd,.nil⟩ (fun i σ H3 _ ⟨_,_,_,_,S3,_⟩=>⟨SqL.of (S3 _ _ hkG),SqL.of (S3 _ _ he)⟩) ?_ ?_
   · rintro i z y σ H3 p hz hy ⟨c0,c1,ws,rfl,S3,hD2,tw⟩ fp;obtain⟨ey,hey,rfl⟩:=Zb hy;obtain⟨r,u,hr',rfl,hu'⟩:=tpG.of hz;have hpc:=qeB rows i r ey hr' hey;have P1:=Same.new (.tup [.ref u,.int ey]) fp;have S4:=S3.trans P1;have hu2:=S4 _ _ hu';have et:(pcs rows).take (i+1)=(pcs rows).take i++[(r.1,ey,r.2)]:=by rw[List.take_add_one,hpc];rfl
     refine⟨p,_,rfl,SqT.of qd,rfl,_,_,rfl,_,_,rfl,rfl,?_⟩;refine⟨_,rfl,.inr (.inl ⟨u,_,_,_,rfl,rfl,SqT.of hu2,rfl,_,rfl,_,rfl,.inr (.inl ⟨u,_,_,_,rfl,rfl,SqT.of hu2,rfl,qo (Nat.le_of_ble_eq_true rfl),fun tt ft=>?_⟩)⟩)⟩;have P2:=Same.new (.tup [.int r.1,.int ey,.int r.2]) ft;have hD3:=P2 _ _ (P1 _ _ hD2);have lw:ws.length≤21:=by rw[tw.1,List.length_take,Jn];omega
     refine⟨_,hD3,qE (by omega),_,_,ws++[.ref tt],rfl,(S4.trans P2).put fD2 _,qd,?_⟩;rw[et];exact(((tw.same P1).same P2).snoc (p:=(r.1,ey,r.2)) qd).put hD3
   · rintro σ H3 ⟨c0,c1,ws,rfl,S3,hD2,tw⟩;rw[hl,show rows.length=(pcs rows).length by rw[Jn],List.take_length]at tw;exact kk D2 ws H3 (SS.none fD2) (SS.trans S3) hD2 tw
theorem QV {a:Ad} (T:Txt K mg a):qy P w K mg base CX0 5 a.f_al a.fd_al ["self","low","high"] (zL a):=by
 have G_j:=jr (P:=P) (w:=w) (base:=base) T;have G_l:=jZ (P:=P) (w:=w) (base:=base) T;have G_ak:=qaG (P:=P) (w:=w) (base:=base) T;refine T.d_al.F.ok QR (fun vs H Q E h=>?_) (fun cdv A outer s H vs Q E hr h=>?_)
 · obtain⟨x,rows,lo,hi,rfl,tb,good,hlo,hhi,kk⟩:=h;rfl
 · obtain⟨x,rows,lo,hi,rfl,tb,good,hlo,hhi,kk⟩:=h;have h_j:Room (4) _:=hr.mono (by decide);have h_l:Room (3) _:=hr.mono (by decide);have h_ak:Room (1) _:=hr.mono (by decide)
   refine⟨_,(qc (qG (q8 (qX (qj G_l h_l rfl T.d_l.m T.d_l.k T.d_l.b .nil qk (qa (pv 1) qb))))
       (qf qN)
       qu)
     (qc (qG (q8 (qX (qj G_l h_l rfl T.d_l.m T.d_l.k T.d_l.b .nil qk (qa (pv 2) qb))))
       (qf qN)
       qu)
     (qf (qq (qj G_j h_j rfl T.d_j.m T.d_j.k T.d_j.b .nil qk (qa (Qb rfl (CompOk.def ["start","end","shift","low","high"] [none,none,none,some 1,some 2]) (zc (zd (pv 0) T.cl_Table T.d_ak.mt G_ak h_ak T.d_ak.b .nil qk)) (fun _ _ _ _ _=>(show PG _ _ (qku K 3 _) from (Qn rfl (qw (qp (i:=0) (show List.Nodup (["start","end","shift","low","high"]:List Str) by decide +kernel) rfl (Or.inl rfl)) (qw (qp (i:=1) (show List.Nodup (["start","end","shift","low","high"]:List Str) by decide +kernel) rfl (Or.inl rfl)) (qw (qp (i:=2) (show List.Nodup (["start","end","shift","low","high"]:List Str) by decide +kernel) rfl (Or.inl rfl)) zx)))))) (fun _ _ _ _ _=>ZJ) (fun _ _ _ _ _=>(zf (qa (ql (zm rfl) (by rfl) T.n_max zn (qa (pv 0) (qa (qx zY (pv 3) (pv 2)) qb))) (qa (ql (zZ rfl) (by rfl) T.n_min z9 (qa (pv 1) (qa (qx zY (pv 4) (pv 2)) qb))) qb))))) qb)))))),?_⟩
   try dsimp only [zi,Cx.nox]
   have lp:=Jn rows;have few:=good.few;obtain⟨k0,dx,zs0,hx,hk0,tp0⟩:=id tb;refine⟨_,rfl,lo,rfl,hlo.1,hlo.2,true,rfl,qT rfl ?_⟩;refine⟨_,rfl,hi,rfl,hhi.1,hhi.2,true,rfl,qT rfl ?_⟩;refine⟨_,rfl,x,dx,_,rfl,hx,qgW _ (by decide),x,rows,rfl,tb,good,fun d zs H1 fd S1 hd tz=>⟨d,rfl,⟨_,SqL.of hd⟩,fun C fC=>?_⟩⟩;refine zH (K:=K) (a:=d) (xs:=zs) (D:=C) (fun i σ H2=>∃ (c0 c1 c2:Option V) (cs:List V),σ=[c0,c1,c2,some (.int lo),some (.int hi)]∧Same H1 H2∧H2 C=some (.lst cs)∧TupL pr H2 cs (((pcs rows).take i).map (mp lo hi))) ⟨none,none,none,[],rfl,Same.new _ fC,qd,.nil⟩ (fun i σ H2 _ ⟨_,_,_,_,_,S,_⟩=>SqL.of (S _ _ hd)) ?_ ?_
   · rintro i z σ H2 hz ⟨c0,c1,c2,cs,rfl,S,hC,tc⟩;obtain⟨r,u,hr',rfl,hu'⟩:=tz.of hz;have hu2:=S _ _ hu';have et:(pcs rows).take (i+1)=(pcs rows).take i++[r]:=by rw[List.take_add_one,hr'];rfl
     have lc:cs.length≤21:=by rw[tc.1,List.length_map,List.length_take];omega
     refine⟨u,_,rfl,SqT.of hu2,rfl,_,_,rfl,_,_,rfl,_,_,rfl,rfl,?_⟩;refine⟨_,rfl,_,rfl,_,rfl,_,_,rfl,rfl,_,_,rfl,_,rfl,_,rfl,_,rfl,_,_,rfl,rfl,_,_,rfl,qo (Nat.le_of_ble_eq_true rfl),fun tt ft=>?_⟩;have St:=Same.new (.tup (pr (mp lo hi r))) ft;have hC2:=St _ _ hC;refine⟨_,hC2,qE (by omega),_,_,_,cs++[.ref tt],rfl,(S.trans St).put fC _,qd,?_⟩;rw[et,List.map_append];exact((tc.same St).snoc (p:=mp lo hi r) qd).put hC2
   rintro σ H2 ⟨c0,c1,c2,cs,rfl,S,hC,tc⟩;rw[tz.1,List.take_length]at tc;refine⟨C,(pcs rows).map (mp lo hi),rfl,⟨cs,hC,tc⟩,.inl (by rw[List.length_map];omega),fun e r H3 fe S3 R can lr mem=>?_⟩;rw[List.length_map]at lr;exact kk e r H3 ((S1.trans S).none fe) ((S1.trans S).trans S3) R can (by omega) mem
end
abbrev fsW (nm:Str) (lo hi:Int):List (Str×V):=[("name",.str nm),("low",.int lo),("high",.int hi)]
abbrev fsB (nm pl:Str) (lo hi:Int):List (Str×V):=[("name",.str nm),("place",.str pl),("low",.int lo),("high",.int hi)]
inductive Zl (vs:List V) (H:Hp) (Q:VK):Prop
 | mk (v u:V) (h1:vs=[v,u]) (h2:∀ (d:Addr) (H':Hp),H d=none->Same H H'->Rs H' d [(0,1000000000)]->Q (.ref d) H'):Zl vs H Q
def zF:Sp:=fun vs H Q _=>Zl vs H Q
inductive QL (K:Frag) (vs:List V) (H:Hp) (Q:VK):Prop
 | mk (x C dx:Addr) (nm:Str) (lo hi:Int) (u:V) (h1:vs=[.ref x,u]) (h2:H x=some (.ins C dx (fsW nm lo hi))) (h3:Cls K C) (h4:NoAttr K C "low") (h5:NoAttr K C "high") (h6:∀ (d:Addr) (r:List (Int×Int)) (H':Hp),H d=none->Same H H'->Rs H' d r->zj r->r.length≤1->(∀ n,Mem r n↔Mem [(lo,hi)] n)->Q (.ref d) H'):QL K vs H Q
def qH (K:Frag):Sp:=fun vs H Q _=>QL K vs H Q
inductive Ql (K:Frag) (vs:List V) (H:Hp) (Q:VK):Prop
 | mk (x C dx:Addr) (nm pl:Str) (lo hi:Int) (h1:vs=[.ref x]) (h2:H x=some (.ins C dx (fsB nm pl lo hi))) (h3:Cls K C) (h4:NoAttr K C "place") (h5:∀ l,H l=none->Q (.ref l) (upd H l (.lst [.str pl]))):Ql K vs H Q
def qM (K:Frag):Sp:=fun vs H Q _=>Ql K vs H Q
theorem qgi {H:Hp}{t d:Addr}{w:Int×Int} (h1:H t=some (.tup (pr w))) (h2:H d=some (.lst [.ref t])):Rs H d [w]:=by
 refine⟨_,h2,rfl,fun j z y e1 e2=>?_⟩
 cases j with
 | zero=>cases e1;cases e2;exact⟨t,rfl,h1⟩
 | succ j=>cases e1
section
variable {P:Program}{w:World}{K:Frag}{mg:Str->Option Value}{base:Heap}
theorem jm {a:Ad} (T:Txt K mg a):qy P w K mg base CX0 1 a.f_u a.fd_u ["self","tables"] zF:=by
 refine T.d_u.F.ok qa4 (fun vs H Q E h=>?_) (fun cdv A outer s H vs Q E hr h=>?_)
 · obtain⟨v,u,rfl,kk⟩:=h;rfl
 · obtain⟨v,u,rfl,kk⟩:=h;obtain⟨t_LAST,c_LAST⟩:=T.g_LAST;refine⟨_,(qf (qq (qY (qa (zf (qa qe (qa (qS (v:=.int 1000000000) rfl c_LAST ⟨_,rfl⟩) qb))) qb)))),?_⟩;(try dsimp only [zi,Cx.nox]);refine⟨qo (Nat.le_of_ble_eq_true rfl),fun t ft=>⟨qo (Nat.le_of_ble_eq_true rfl),fun d fd=>?_⟩⟩;have S1:=Same.new (.tup [.int 0,.int 1000000000]) ft;have S2:=Same.new (.lst [.ref t]) fd;exact kk d _ (S1.none fd) (S1.trans S2) (qgi (w:=(0,1000000000)) (S2 _ _ qd) qd)
theorem zP {a:Ad} (T:Txt K mg a):qy P w K mg base CX0 5 a.f_c a.fd_c ["self","tables"] (qH K):=by
 have G_j:=jr (P:=P) (w:=w) (base:=base) T;refine T.d_c.F.ok qal (fun vs H Q E h=>?_) (fun cdv A outer s H vs Q E hr h=>?_)
 · obtain⟨x,C,dx,nm,lo,hi,u,rfl,hx,cl,n1,n2,kk⟩:=h;rfl
 · obtain⟨x,C,dx,nm,lo,hi,u,rfl,hx,cl,n1,n2,kk⟩:=h;have h_j:Room (4) _:=hr.mono (by decide);refine⟨_,(qf (qq (qj G_j h_j rfl T.d_j.m T.d_j.k T.d_j.b .nil qk (qa (qY (qa (zf (qa (qU (pv 0) rfl) (qa (qU (pv 0) rfl) qb))) qb)) qb)))),?_⟩;(try dsimp only [zi,Cx.nox]);refine⟨_,rfl,x,_,dx,_,_,rfl,hx,cl,n1,rfl,_,rfl,x,_,dx,_,_,rfl,hx,cl,n2,rfl,qo (Nat.le_of_ble_eq_true rfl),fun t ft=>⟨qo (Nat.le_of_ble_eq_true rfl),fun d fd=>?_⟩⟩;have S1:=Same.new (.tup [.int lo,.int hi]) ft;have S2:=Same.new (.lst [.ref t]) fd;refine⟨d,[(lo,hi)],rfl,qgi (w:=(lo,hi)) (S2 _ _ qd) qd,.one _,fun e r H3 fe S3 R can lr mem=>?_⟩;exact kk e r H3 ((S1.trans S2).none fe) ((S1.trans S2).trans S3) R can lr mem
theorem zV {a:Ad} (T:Txt K mg a):qy P w K mg base CX0 1 a.f_g a.fd_g ["self"] (qM K):=by
 refine T.d_g.F.ok Jl (fun vs H Q E h=>?_) (fun cdv A outer s H vs Q E hr h=>?_)
 · obtain⟨x,C,dx,nm,pl,lo,hi,rfl,hx,cl,n1,kk⟩:=h;rfl
 · obtain⟨x,C,dx,nm,pl,lo,hi,rfl,hx,cl,n1,kk⟩:=h;refine⟨_,(qf (qq (qY (qa (qU (pv 0) rfl) qb)))),?_⟩;(try dsimp only [zi,Cx.nox]);exact⟨_,rfl,x,_,dx,_,_,rfl,hx,cl,n1,rfl,qo (Nat.le_of_ble_eq_true rfl),fun l fl=>kk l fl⟩
end
theorem Good.ne {rows:List (Int×Int)} (h:Good rows):0 < rows.length:=qcr h
inductive J5 (vs:List V) (H:Hp) (Q:VK):Prop
 | mk (t:Addr) (r:Int×Int) (w:Int) (h1:vs=[.ref t,.int w]) (h2:H t=some (.tup (pr r))) (h3:0≤r.1) (h4:r.1≤1000000000) (h5:-w≤r.2) (h6:r.2≤w) (h7:Q (.bl true) H):J5 vs H Q
def qcB:Sp:=fun vs H Q _=>J5 vs H Q
inductive ZV (vs:List V) (H:Hp) (Q:VK):Prop
 | mk (q:Addr) (i:Nat) (rows:List (Int×Int)) (h1:vs=[.ref q,.int i]) (h2:Rs H q rows) (h3:Good rows) (h4:i < rows.length) (h5:Q (.bl true) H):ZV vs H Q
def Js:Sp:=fun vs H Q _=>ZV vs H Q
inductive Zu (vs:List V) (H:Hp) (Q:VK):Prop
 | mk (q:Addr) (rows:List (Int×Int)) (h1:vs=[.ref q,.int 21,.int 2880]) (h2:Rs H q rows) (h3:Good rows) (h4:∀ H',Same H H'->Q .non H'):Zu vs H Q
def jI:Sp:=fun vs H Q _=>Zu vs H Q
inductive Zz (a:Ad) (vs:List V) (H:Hp) (Q:VK):Prop
 | mk (x dx q:Addr) (rows:List (Int×Int)) (h1:vs=[.ref x,.ref q]) (h2:H x=some (.ins a.c_Table dx [])) (h3:Rs H q rows) (h4:Good rows) (h5:∀ H',But x H H'->Tb a H' x rows->Q .non H'):Zz a vs H Q
def Q6 (a:Ad):Sp:=fun vs H Q _=>Zz a vs H Q
section
variable {P:Program}{w:World}{K:Frag}{mg:Str->Option Value}{base:Heap}
theorem qgj {a:Ad} (T:Txt K mg a):qy P w K mg base CX0 4 a.f_S a.fd_S ["thing","widest"] qcB:=by
 have G_n:=JO (P:=P) (w:=w) (base:=base) T;have G_i:=jt (P:=P) (w:=w) (base:=base) T;refine T.d_S.F.ok qfR (fun vs H Q E h=>?_) (fun cdv A outer s H vs Q E hr h=>?_)
 · obtain⟨t,r,w,rfl,ht,h1,h2,h3,h4,kk⟩:=h;rfl
 · obtain⟨t,r,w,rfl,ht,h1,h2,h3,h4,kk⟩:=h;have hU:=hr.units;have h_n:Room (3) _:=hr.mono (by decide);have h_i:Room (2) _:=hr.mono (by decide)
   refine⟨_,(qc (qG (PW.pt (qa6 (q8 (qX (ql zu (by rfl) T.n_isinstance qr (qa (pv 0) (qa (zO (v:=.ty "tuple") rfl T.n_tuple jx rfl) qb))))) (jj (qv (uNe hU) (ql qZ (by rfl) T.n_len qF (qa (pv 0) qb)) qe (qB _)))))
       (qf (qq jq))
       qu)
     (qf (qq (jY (qj G_n h_n rfl T.d_n.m T.d_n.k T.d_n.b .nil qk (qa (qA (r:=rIx K) qt (pv 0) qe (fun _ _=>rfl)) qb)) (JN (qj G_i h_i rfl T.d_i.m T.d_i.k T.d_i.b .nil qk (qa (qA (r:=rIx K) qt (pv 0) qe (fun _ _=>rfl)) (qa (jW Qu (pv 1)) (qa (pv 1) qb))))))))),?_⟩
   try dsimp only [zi,Cx.nox]
   have ty:tyN H (.ref t)=some "tuple":=by simp only[tyN];rw[ht]
   refine⟨_,rfl,_,_,_,rfl,(by decide),ty,true,rfl,qT rfl ?_⟩;refine⟨_,rfl,_,_,rfl,.inr ⟨_,SqT.of ht,rfl⟩,.inl ⟨rfl,_,rfl,qlm (fun g=>absurd rfl g) (fun _=>?_)⟩⟩;refine⟨_,rfl,.inr (.inl ⟨t,_,_,_,rfl,rfl,SqT.of ht,rfl,r.1,rfl,h1,h2,true,rfl,qhm ?_⟩)⟩;exact⟨_,rfl,.inr (.inl ⟨t,_,_,_,rfl,rfl,SqT.of ht,rfl,_,rfl,_,rfl,_,rfl,r.2,-w,w,rfl,h3,h4,kk⟩)⟩
theorem qc5 {a:Ad} (T:Txt K mg a):qy P w K mg base CX0 1 a.f_T a.fd_T ["rows","place"] Js:=by
 refine T.d_T.F.ok qcL (fun vs H Q E h=>?_) (fun cdv A outer s H vs Q E hr h=>?_)
 · obtain⟨q,i,rows,rfl,⟨zs,hq,tp⟩,good,hi,kk⟩:=h;rfl
 · obtain⟨q,i,rows,rfl,⟨zs,hq,tp⟩,good,hi,kk⟩:=h;have hU:=hr.units
   refine⟨_,(qc (qG (qv (uEq hU) (pv 1) qe (qB _))
       (qf (qq (Qc (uEq hU) (qA (r:=rIx K) qt (qA (r:=rIx K) qt (pv 0) qe (fun _ _=>rfl)) qe (fun _ _=>rfl)) qe (qB _))))
       qu)
     (qf (qq (Qc qdQ (qA (r:=rIx K) qt (qA (r:=rIx K) qt (pv 0) (pv 1) (fun _ _=>rfl)) qe (fun _ _=>rfl)) (qA (r:=rIx K) qt (qA (r:=rIx K) qt (pv 0) (qx zY (pv 1) qe) (fun _ _=>rfl)) qe (fun _ _=>rfl)) (qB _))))),?_⟩
   try dsimp only [zi,Cx.nox]
   refine⟨_,rfl,.inl ⟨rfl,_,rfl,?_⟩⟩;obtain⟨r,hr'⟩:∃ r,rows[i]?=some r:=⟨_,List.getElem?_eq_getElem hi⟩
   obtain⟨t,hz,ht⟩:=tp.at_ hr';refine zT (fun g=>?_) (fun g=>?_)
   · have g0:i=0:=by injection g with g;omega
     subst g0;obtain⟨n,hn⟩:=good.fst
     have e:r=(0,n):=by
       rw[List.head?_eq_getElem?,hr']at hn;exact Option.some.inj hn
     subst e;refine⟨_,rfl,.inl ⟨q,_,_,_,rfl,rfl,SqL.of hq,zh hz,.inr (.inl ⟨t,_,_,_,rfl,rfl,SqT.of ht,rfl,.inl ⟨rfl,?_⟩⟩)⟩⟩;exact kk
   · have g1:0 < i:=by
       refine Nat.pos_of_ne_zero fun z=>g ?_;rw[z];rfl
     obtain⟨r0,hr0⟩:∃ r,rows[i - 1]?=some r:=⟨_,List.getElem?_eq_getElem (by omega)⟩
     obtain⟨t0,hz0,ht0⟩:=tp.at_ hr0
     have lt:r0.1 < r.1:=by
       obtain⟨l1,e1⟩:=List.getElem?_eq_some_iff.mp hr0;obtain⟨l2,e2⟩:=List.getElem?_eq_some_iff.mp hr'
       have:=List.pairwise_iff_getElem.mp good.asc (i - 1) i l1 l2 (by omega)
       rw[e1,e2]at this;exact this
     refine⟨_,rfl,_,rfl,.inl ⟨q,_,_,_,rfl,rfl,SqL.of hq,zh hz,.inr (.inl ⟨t,_,_,_,rfl,rfl,SqT.of ht,rfl,_,rfl,_,rfl,_,_,rfl,rfl,.inl ⟨q,_,_,_,rfl,rfl,SqL.of hq,(by show atI zs ((i:Int) - 1)=_;rw[show (i:Int) - 1=((i - 1:Nat):Int) by omega];exact zh hz0),.inr (.inl ⟨t0,_,_,_,rfl,rfl,SqT.of ht0,rfl,_,_,rfl,rfl,?_⟩)⟩⟩)⟩⟩;show Q (.bl (decide (r0.1 < r.1))) H;rw[decide_eq_true lt];exact kk
theorem qce {a:Ad} (T:Txt K mg a):qy P w K mg base CX0 5 a.f_U a.fd_U ["rows","most","widest"] jI:=by
 have G_S:=qgj (P:=P) (w:=w) (base:=base) T;have G_T:=qc5 (P:=P) (w:=w) (base:=base) T;refine T.d_U.F.ok sc_check_rows (fun vs H Q E h=>?_) (fun cdv A outer s H vs Q E hr h=>?_)
 · obtain⟨q,rows,rfl,⟨zs,hq,tp⟩,good,kk⟩:=h;rfl
 · obtain⟨q,rows,rfl,⟨zs,hq,tp⟩,good,kk⟩:=h;have hU:=hr.units;have h_S:Room (4) _:=hr.mono (by decide);have h_T:Room (1) _:=hr.mono (by decide)
   refine⟨_,(qc (qG (PW.pt (qa6 (q8 (qX (ql zu (by rfl) T.n_isinstance qr (qa (pv 0) (qa (zO (v:=.ty "list") rfl T.n_list q9 rfl) qb))))) (jj (qv (uEq hU) (ql qZ (by rfl) T.n_len qF (qa (pv 0) qb)) qe (qB _)))))
       (qf qN)
       qu)
     (qc (qG (qv qdQ (ql qZ (by rfl) T.n_len qF (qa (pv 0) qb)) (pv 1) (qB _))
       (qf qN)
       qu)
     (qf (zr PassesOwn.never rfl (qdO rfl T.n_enumerate (qa (pv 0) qb)) (Qn rfl (qw (qp (i:=3) (sc_check_rows.nd) rfl (Or.inl rfl)) (qw (qp (i:=4) (sc_check_rows.nd) rfl (Or.inl rfl)) zx)))
       (qf (qG (PW.pt (qa6 (q8 (qX (qj G_S h_S rfl T.d_S.m T.d_S.k T.d_S.b .nil qk (qa (pv 4) (qa (pv 2) qb))))) (jj (q8 (qX (qj G_T h_T rfl T.d_T.m T.d_T.k T.d_T.b .nil qk (qa (pv 0) (qa (pv 3) qb))))))))
         (qf qN)
         qu)))))),?_⟩
   try dsimp only [zi,Cx.nox]
   have hl:zs.length=rows.length:=tp.1;have few:=good.few;have pos:=good.ne;have ty:tyN H (.ref q)=some "list":=by simp only[tyN];rw[hq]
   refine⟨_,rfl,_,_,_,rfl,(by decide),ty,true,rfl,qT rfl ?_⟩;refine⟨_,rfl,_,_,rfl,.inl ⟨_,SqL.of hq,rfl⟩,.inl ⟨rfl,_,rfl,zT (fun g=>?_) (fun _=>?_)⟩⟩
   · injection g with g;omega
   refine⟨_,rfl,_,_,rfl,.inl ⟨_,SqL.of hq,rfl⟩,_,rfl,_,_,rfl,rfl,_,rfl,zT (fun g=>?_) (fun _=>?_)⟩
   · omega
   refine⟨_,rfl,q,rfl,⟨zs,SqL.of hq⟩,qcs (K:=K) (a:=q) (xs:=zs) (fun i σ H2=>∃ s3 s4:Option V,σ=[some (.ref q),some (.int 21),some (.int 2880),s3,s4]∧Same H H2) ⟨none,none,rfl,Same.refl H⟩ (fun i σ H2 _ ⟨_,_,_,S⟩=>SqL.of (S _ _ hq)) ?_ ?_⟩
   · rintro i x σ H2 p hx ⟨s3,s4,rfl,S⟩ hn;have S2:Same H (upd H2 p (.tup [.int i,x])):=S.then _ hn
     have hi:i < rows.length:=by rw[← hl];exact(List.getElem?_eq_some_iff.mp hx).1
     obtain⟨r,hr'⟩:∃ r,rows[i]?=some r:=⟨_,List.getElem?_eq_getElem hi⟩
     obtain⟨t,rfl,ht⟩:=tp.2 i x r hx hr';have ok:=good.ok r (List.mem_of_getElem? hr');refine⟨p,_,rfl,SqT.of qd,rfl,_,_,rfl,_,_,rfl,rfl,?_⟩;refine⟨_,rfl,_,rfl,t,r,2880,rfl,S2 _ _ ht,ok.1,ok.2.1,ok.2.2.1,ok.2.2.2,true,rfl,qT rfl ?_⟩;exact⟨_,rfl,_,rfl,q,i,rows,rfl,⟨zs,S2 _ _ hq,tp.same S2⟩,good,hi,true,rfl,qT rfl ⟨_,_,rfl,S2⟩⟩
   · rintro σ H2 ⟨s3,s4,rfl,S⟩;exact kk H2 S
theorem j5 {a:Ad} (T:Txt K mg a):qy P w K mg base CX0 6 a.f_s a.fd_s ["self","rows"] (Q6 a):=by
 have G_U:=qce (P:=P) (w:=w) (base:=base) T;refine T.d_s.F.ok qb4 (fun vs H Q E h=>?_) (fun cdv A outer s H vs Q E hr h=>?_)
 · obtain⟨x,dx,q,rows,rfl,hx,hrs,good,kk⟩:=h;rfl
 · obtain⟨x,dx,q,rows,rfl,hx,hrs,good,kk⟩:=h;have h_U:Room (5) _:=hr.mono (by decide);obtain⟨t_MOST_ROWS,c_MOST_ROWS⟩:=T.g_MOST_ROWS;obtain⟨t_WIDEST_SHIFT,c_WIDEST_SHIFT⟩:=T.g_WIDEST_SHIFT
   refine⟨_,(qc (qO (qj G_U h_U rfl T.d_U.m T.d_U.k T.d_U.b .nil qk (qa (pv 1) (qa (qS (v:=.int 21) rfl c_MOST_ROWS ⟨_,rfl⟩) (qa (qS (v:=.int 2880) rfl c_WIDEST_SHIFT ⟨_,rfl⟩) qb)))))
     (qf (QU (pv 0) (zy (r:=qjM K) zA (by rfl) T.n_list q9 (qa (pv 1) qb)) rfl))),?_⟩
   try dsimp only [zi,Cx.nox]
   refine⟨_,rfl,q,rows,rfl,hrs,good,fun G1 S1=>?_⟩;obtain⟨zs,hq,tp⟩:=hrs.same S1;have hx1:=S1 _ _ hx;refine⟨_,rfl,q,zs,rfl,.inl (SqL.of hq),fun k fk=>?_⟩;have nkx:x≠k:=qi hx1 fk;refine⟨_,rfl,x,_,dx,[],rfl,(qh nkx).trans hx1,T.cl_Table,T.n_Table_kept,(by show 0 < 1000;decide),?_⟩;have fkH:H k=none:=S1.none fk;refine kk _ (fun c o e n=>?_) ⟨k,dx,zs,qd,(qh nkx.symm).trans qd,⟨tp.1,fun i z p e1 e2=>?_⟩⟩
   · rw[qh n,qh (qi e fkH)];exact S1 _ _ e
   · obtain⟨t,et,ht⟩:=tp.2 i z p e1 e2;refine⟨t,et,?_⟩;rw[qh (qW ht hx1 (by intro z;cases z)),qh (qi ht fk)];exact ht
end
abbrev abc:Str:="abcdefghijklmnopqrstuvwxyz"
abbrev ch (c:Nat):Str:=⟨#[c]⟩
abbrev chs (cs:List Nat):List Str:=cs.map ch
def Ltr (c:Nat):Prop:=97≤c∧c < 123
theorem qjm {i:Int} (h0:0≤i) (h1:i < 26):atI abc.cps.toList i=some (97+i.toNat):=by
 have:∀ n:Fin 26,atI abc.cps.toList ((n.1:Nat):Int)=some (97+n.1):=by decide +kernel
 have:=this ⟨i.toNat,by omega⟩
 rwa [Int.toNat_of_nonneg h0]at this
theorem qjG {c:Nat} (h:Ltr c):sgn c=true:=by
 have:∀ n:Fin 26,sgn (97+n.1)=true:=by decide +kernel
 have:=this ⟨c - 97,by have:=h.1;have:=h.2;omega⟩
 rwa [show 97+(c - 97)=c by have:=h.1;omega]at this
theorem qgI:∀ cs:List Nat,(Txt.join "" (chs cs)).cps.toList=cs
 | []=>rfl
 | [c]=>rfl
 | c::d::r=>by
   have ih:=qgI (d::r);have g:∀ ys:List Str,Txt.join "" ys=Str.join "" ys:=fun ys=>StrLaws.glued_eq_join _ _;rw[g]at ih ⊢;show (ch c++("":Str)++Str.join "" (chs (d::r))).cps.toList=_;have e:∀ x y:Str,(x++y).cps.toList=x.cps.toList++y.cps.toList:=fun x y=>Array.toList_append;rw[e,e,ih];rfl
theorem qd6 (x y:Str):(x++y).cps.toList=x.cps.toList++y.cps.toList:=Array.toList_append
theorem qdX (x:Str):x.length=x.cps.toList.length:=Array.length_toList.symm
theorem qdi (cs:List Nat):(Txt.join "" (chs cs)).length=cs.length:=by rw[qdX,qgI]
theorem qg7 (cs:List Nat):((chs cs).map (·.length)).sum+(chs cs).length * ("":Str).length=cs.length:=by
 have e:((chs cs).map (·.length)).sum=cs.length:=by
   induction cs with
   | nil=>rfl
   | cons c r ih =>
     show (ch c).length+((chs r).map (·.length)).sum=_;rw[ih];show 1+_=_;rw[List.length_cons];omega
 rw[e];rfl
theorem qh2 {x:Str}{cs:List Nat} (e:x.cps.toList=cs) (h1:1≤cs.length) (h8:cs.length≤8) (hl:∀ c∈cs,Ltr c):zC (.str x)=true:=by
 have:x.length=cs.length:=by rw[qdX,e]
 simp only[zC,Bool.and_eq_true,decide_eq_true_eq];rw[this,e];exact⟨⟨h1,h8⟩,List.all_eq_true.mpr fun c m=>qjG (hl c m)⟩
abbrev odds:List Int:=[1,3,5,7,9,11,15,17,19,21,23,25]
theorem qhZ {s f:Int}{j k:Nat} (h:s∈odds) (hj:j < 26) (hk:k < 26) (e:(f+s * (j:Int)) % 26=(f+s * (k:Int)) % 26):j=k:=by
 simp only[List.mem_cons,List.not_mem_nil,or_false]at h;rcases h with rfl|rfl|rfl|rfl|rfl|rfl|rfl|rfl|rfl|rfl|rfl|rfl<;>omega
structure Nms (ns:List Str):Prop where
 nm:∀ x∈ns,zC (.str x)=true
 nd:ns.Nodup
def NmsI (pre:List Nat) (f s:Int) (xs:List Str):Prop:=∀ (j:Nat) (x:Str),xs[j]?=some x->zC (.str x)=true∧∃ suf,x.cps.toList=pre++(97+((f+s * (j:Int)) % 26).toNat)::suf
theorem NmsI.nil {pre:List Nat}{f s:Int}:NmsI pre f s []:=fun j x e=>by cases e
theorem NmsI.snoc {pre:List Nat}{f s:Int}{xs:List Str}{x:Str} (h:NmsI pre f s xs) (h1:zC (.str x)=true) {suf:List Nat} (h2:x.cps.toList=pre++(97+((f+s * (xs.length:Int)) % 26).toNat)::suf):NmsI pre f s (xs++[x]):=fun j y e=>by
 by_cases hj:j < xs.length
 · rw[List.getElem?_append_left hj]at e;exact h j y e
 · rw[List.getElem?_append_right (by omega)]at e
   have hj2:j=xs.length:=by
     have:=(List.getElem?_eq_some_iff.mp e).1
     simp at this;omega
   subst hj2;rw[Nat.sub_self]at e;cases e;exact⟨h1,suf,h2⟩
theorem NmsI.end_ {pre:List Nat}{f s:Int}{xs:List Str} (h:NmsI pre f s xs) (hs:s∈odds) (hl:xs.length≤26):Nms xs:=by
 refine⟨fun x m=>?_,?_⟩
 · obtain⟨j,hj⟩:=List.getElem?_of_mem m;exact(h j x hj).1
 · rw[List.Nodup,List.pairwise_iff_getElem];intro i j hi hj hij e;obtain⟨_,s1,e1⟩:=h i _ (List.getElem?_eq_getElem hi);obtain⟨_,s2,e2⟩:=h j _ (List.getElem?_eq_getElem hj);rw[e,e2]at e1;have e3:=List.append_cancel_left e1;injection e3 with e4 _
   have:=qhZ (f:=f) (j:=i) (k:=j) hs (by omega) (by omega) (by omega)
   omega
theorem qko (cs:List Nat) (lo hi:Option Int):∃ ds:List Nat,qcw ((chs cs).map V.str) lo hi=(chs ds).map V.str∧ds=(cs.drop (HT.sIx cs.length 0 lo)).take (HT.sIx cs.length cs.length hi - HT.sIx cs.length 0 lo):=by
 refine⟨_,?_,rfl⟩;unfold qcw;simp only[chs,List.length_map,List.map_take,List.map_drop]
inductive qab (vs:List V) (H:Hp) (Q:VK):Prop
 | mk (p:Addr) (many:Int) (h1:vs=[.ref p,.int many]) (h2:PenAt H p) (h3:0≤many) (h4:many≤26) (h5:∀ (q:Addr) (ns:List Str) (H':Hp),H q=none->But p H H'->PenAt H' p->H' q=some (.lst (ns.map V.str))->(ns.length:Int)=many->Nms ns->Q (.ref q) H'):qab vs H Q
def qcF:Sp:=fun vs H Q _=>qab vs H Q
section
variable {P:Program}{w:World}{K:Frag}{mg:Str->Option Value}{base:Heap}
theorem qgm {a:Ad} (T:Txt K mg a):qy P w K mg base CX0 3 a.f_Z a.fd_Z ["_law_state","_law_many"] qcF:=by
 have G_a:=Za (P:=P) (w:=w) (base:=base) T;refine T.d_Z.F.ok sc_Lnames (fun vs H Q E h=>?_) (fun cdv A outer s H vs Q E hr h=>?_)
 · obtain⟨p,many,rfl,hp,many0,many1,kk⟩:=h;rfl
 · obtain⟨p,many,rfl,hp,many0,many1,kk⟩:=h;have h_a:Room (2) _:=hr.mono (by decide)
   refine⟨_,(@qc _ _ _ _ _ (by exact(qz (i:=2) sc_Lnames.nd rfl (Or.inr rfl) qP))
     (by exact(@qc _ _ _ _ _ (by exact(qz (i:=3) sc_Lnames.nd rfl (Or.inl rfl) (qx QY qe (qj G_a h_a rfl T.d_a.m T.d_a.k T.d_a.b .nil qk (qa (pv 0) (qa qe qb))))))
     (by exact(@qc _ _ _ _ _ (by exact(qz (i:=4) sc_Lnames.nd rfl (Or.inl rfl) (qj G_a h_a rfl T.d_a.m T.d_a.k T.d_a.b .nil qk (qa (pv 0) (qa (pv 3) qb)))))
     (by exact(@qc _ _ _ _ _ (by exact(qf7 (i:=5) sc_Lnames.nd rfl (Or.inl rfl) rfl (CompOk.def ["_law_k","_law_letters","_law_state"] [none,some 2,some 0]) (ZL rfl T.n_range (qa (pv 3) qb)) (fun _ _ _ _ _=>(qp (i:=0) (show List.Nodup (["_law_k","_law_letters","_law_state"]:List Str) by decide +kernel) rfl (Or.inl rfl))) (fun _ _ _ _ _=>ZJ) (fun _ _ _ _ _=>(qA (r:=rIx K) qt (pv 1) (qj G_a h_a rfl T.d_a.m T.d_a.k T.d_a.b .nil qk (qa (pv 2) (qa qe qb))) (fun _ _=>rfl)))))
     (by exact(@qc _ _ _ _ _ (by exact(qz (i:=6) sc_Lnames.nd rfl (Or.inl rfl) (qj G_a h_a rfl T.d_a.m T.d_a.k T.d_a.b .nil qk (qa (pv 0) (qa qe qb)))))
     (by exact(@qc _ _ _ _ _ (by exact(@qz _ _ 7 _ _ _ _ (by exact sc_Lnames.nd) (by rfl) (by exact(Or.inl rfl)) (by exact(@qA _ _ _ _ _ _ (rIx K) (by exact qt) (by exact(@qY _ _ _ _ (by exact(@qa _ _ _ _ _ (by exact qe) (by exact(@qa _ _ _ _ _ (by exact qe) (by exact(@qa _ _ _ _ _ (by exact qe) (by exact(@qa _ _ _ _ _ (by exact qe) (by exact(@qa _ _ _ _ _ (by exact qe) (by exact(@qa _ _ _ _ _ (by exact qe) (by exact(@qa _ _ _ _ _ (by exact qe) (by exact(@qa _ _ _ _ _ (by exact qe) (by exact(@qa _ _ _ _ _ (by exact qe) (by exact(@qa _ _ _ _ _ (by exact qe) (by exact(@qa _ _ _ _ _ (by exact qe) (by exact(@qa _ _ _ _ _ (by exact qe) (by exact(@qb _)) (by rfl))) (by rfl))) (by rfl))) (by rfl))) (by rfl))) (by rfl))) (by rfl))) (by rfl))) (by rfl))) (by rfl))) (by rfl))) (by rfl))))) (by exact(qj G_a h_a rfl T.d_a.m T.d_a.k T.d_a.b .nil qk (qa (pv 0) (qa qe qb)))) (by exact fun _ _=>rfl))) (by rfl) (by exact .inl rfl)))
     (by exact(qc (qz (i:=8) sc_Lnames.nd rfl (Or.inl rfl) (qY qb))
     (qc (zr PassesOwn.never rfl (ZL rfl T.n_range (qa (pv 1) qb)) (qp (i:=9) (sc_Lnames.nd) rfl (Or.inl rfl))
       (qc (qz (i:=10) sc_Lnames.nd rfl (Or.inl rfl) (Q9 uSl (pv 5) (Q8 (qx QY (pv 4) qe)) (Q8 (qx QY (qx QY (pv 4) qe) (qj G_a h_a rfl T.d_a.m T.d_a.k T.d_a.b .nil qk (qa (pv 0) (qa (qx zY (pv 3) (pv 4)) qb)))))))
       (qc (qz (i:=11) sc_Lnames.nd rfl (Or.inl rfl) (qA (r:=rIx K) qt (pv 2) (qx QB (qx QY (pv 6) (qx ZM (pv 7) (pv 9))) qe) (fun _ _=>rfl)))
       (qf (qO (qca PySem.F.plainAttrs_list PySem.F.slot_list_append PySem.F.type_list_append Qq (pv 8) (qa (qx QY (qx QY (qca PySem.F.plainAttrs_str PySem.F.slot_str_join PySem.F.type_str_join qgu qP (qa (Q9 uSl (pv 5) qaB (Q8 (pv 4))) qb)) (pv 11)) (qca PySem.F.plainAttrs_str PySem.F.slot_str_join PySem.F.type_str_join qgu qP (qa (pv 10) qb))) qb)))))))
     (qf (qq (pv 8))))))))))))))))),?_⟩
   try dsimp only [zi,Cx.nox]
   have p0:PenAt H p:=hp;have t0:But p H H:=But.refl p H;refine⟨_,rfl,p,_,rfl,p0,by decide,by decide,fun dz G1 dz0 dz1 u1 p1=>?_⟩;have t1:=t0.trans u1;refine .inl ⟨_,_,rfl,rfl,?_⟩;(try unfold qJ);(try dsimp only);obtain⟨z,hz⟩:∃ z:Int,z=1+dz:=⟨_,rfl⟩
   rw[← hz];refine⟨_,rfl,_,rfl,p,_,rfl,p1,by omega,by omega,fun at_ G2 at_0 at_1 u2 p2=>?_⟩;have t2:=t1.trans u2;refine⟨_,rfl,_,rfl,by omega,by omega,fun D fD=>?_⟩;have nD:D≠p:=p2.ne fD;refine qbM (lo:=0) (n:=z.toNat) (D:=D) (fun i σ H2=>∃ (s0:Option V) (cs:List Nat),σ=[s0,some (.str abc),some (.ref p)]∧But p G2 H2∧PenAt H2 p∧H2 D=some (.lst ((chs cs).map V.str))∧cs.length=i∧∀ c∈cs,Ltr c)
     ⟨none,[],rfl,fun b o z n=>by rw[qh (qi z fD)];exact z,p2.upd nD _,qd,rfl,fun y hy=>nomatch hy⟩ ?_ ?_
   · rintro i σ H2 hi ⟨s0,cs,rfl,t2,p2,hD,hl,hc⟩;refine⟨_,rfl,_,rfl,p,_,rfl,p2,by decide,by decide,fun d H3 d0 d1 B3 p3=>?_⟩;refine .inr (.inr ⟨_,_,_,rfl,rfl,qo (by decide +kernel),qjm d0 d1,?_⟩);refine⟨_,B3 _ _ hD nD,qE (by rw[List.length_map,List.length_map];omega),?_⟩;refine⟨_,cs++[97+d.toNat],rfl,?_,p3.upd nD _,?_,?_,?_⟩
     · intro b o z n;rw[qh (qi z fD)];exact B3 b o (t2 b o z n) n
     · rw[qd];simp only[chs,List.map_append];rfl
     · rw[List.length_append,hl];rfl
     · intro c hm;rcases List.mem_append.mp hm with z|z
       · exact hc c z
       · rw[show c=97+d.toNat by simpa using z];exact⟨by omega,by omega⟩
   rintro σ H2 ⟨s0,cs,rfl,tC,pC,hD,hl,hc⟩;have fD0:H D=none:=t2.none fD nD;have T2:But p H H2:=t2.trans tC;clear tC;have p0:PenAt H2 p:=pC;have t0:But p H2 H2:=But.refl p H2;refine⟨_,rfl,p,_,rfl,p0,by decide,by decide,fun fi G1 fi0 fi1 u1 p1=>?_⟩;have t1:=t0.trans u1;refine⟨(qo (Nat.le_of_ble_eq_true rfl)),fun ol f_ol=>?_⟩;have n_ol:ol≠p:=p1.ne f_ol;have e_ol:(upd G1 ol (.lst [.int 1,.int 3,.int 5,.int 7,.int 9,.int 11,.int 15,.int 17,.int 19,.int 21,.int 23,.int 25])) ol=some (.lst [.int 1,.int 3,.int 5,.int 7,.int 9,.int 11,.int 15,.int 17,.int 19,.int 21,.int 23,.int 25]):=qd;have p2:PenAt (upd G1 ol (.lst [.int 1,.int 3,.int 5,.int 7,.int 9,.int 11,.int 15,.int 17,.int 19,.int 21,.int 23,.int 25])) p:=p1.upd n_ol _;have u2:Same G1 (upd G1 ol (.lst [.int 1,.int 3,.int 5,.int 7,.int 9,.int 11,.int 15,.int 17,.int 19,.int 21,.int 23,.int 25])):=Same.new _ f_ol;have t2:=t1.same u2;(try dsimp only);generalize upd G1 ol (.lst [.int 1,.int 3,.int 5,.int 7,.int 9,.int 11,.int 15,.int 17,.int 19,.int 21,.int 23,.int 25])=G2 at e_ol p2 u2 t2 ⊢;refine⟨_,rfl,p,_,rfl,p2,by decide,by decide,fun ds G3 ds0 ds1 u3 p3=>?_⟩;have t3:=t2.trans u3;obtain⟨v,hv,mv⟩:=qaX (xs:=odds.map V.int) ds0 ds1;obtain⟨st,ho,rfl⟩:=List.mem_map.mp mv;refine .inl ⟨ol,_,_,_,rfl,rfl,SqL.of (u3 _ _ e_ol n_ol),hv,?_⟩
   have st0:1≤st∧st≤25:=by
     simp only[List.mem_cons,List.not_mem_nil,or_false]at ho;rcases ho with rfl|rfl|rfl|rfl|rfl|rfl|rfl|rfl|rfl|rfl|rfl|rfl<;>decide
   refine⟨(qo (Nat.le_of_ble_eq_true rfl)),fun q f_q=>?_⟩;have n_q:q≠p:=p3.ne f_q;have e_q:(upd G3 q (.lst [])) q=some (.lst []):=qd;have p4:PenAt (upd G3 q (.lst [])) p:=p3.upd n_q _;have u4:Same G3 (upd G3 q (.lst [])):=Same.new _ f_q;have t4:=t3.same u4;(try dsimp only);generalize upd G3 q (.lst [])=G4 at e_q p4 u4 t4 ⊢;have fq0:H q=none:=T2.none ((t3).none f_q n_q) n_q;have hD0:=(u4 _ _ (u3 _ _ (u2 _ _ (u1 _ _ hD nD)) nD))
   have B0:But p H G4:=T2.trans t4
   have nDq:D≠q:=qW hD0 e_q (by
     intro z;injection z with z;have z:=congrArg List.length z;rw[List.length_map,List.length_map,hl]at z
     simp at z;omega)
   obtain⟨pre,hpre⟩:∃ pre,pre=cs.take at_.toNat:=⟨_,rfl⟩
   have lpre:pre.length=at_.toNat:=by rw[hpre,List.length_take];omega
   have cpre:∀ c∈pre,Ltr c:=fun c m=>hc c (List.mem_of_mem_take (hpre▸m));(try unfold qJ);(try dsimp only);refine⟨_,rfl,_,rfl,by omega,by omega,Jb (lo:=0) (D:={ nx:=qhv (qks 8) { nx:=fun _ H'=>Q .non H',rt:=Q },rt:=Q }) (fun i σ H3=>∃ (s9 s10 s11:Option V) (xs:List Str),σ=[some (.ref p),some (.int many),some (.str abc),some (.int z),some (.int at_),some (.ref D),some (.int fi),some (.int st),some (.ref q),s9,s10,s11]∧But p H H3∧PenAt H3 p∧H3 D=some (.lst ((chs cs).map V.str))∧H3 q=some (.lst (xs.map V.str))∧xs.length=i∧NmsI pre fi st xs) ⟨_,_,_,[],rfl,B0,p4,hD0,e_q,rfl,.nil⟩ ?_ ?_⟩
   · rintro i σ H3 hi ⟨s9,s10,s11,xs,rfl,B,pB,hD3,hq3,lx,nm⟩;refine⟨_,rfl,_,rfl,.inl ⟨_,_,rfl,rfl,_,rfl,_,rfl,.inl ⟨_,_,rfl,rfl,_,rfl,_,rfl,_,rfl,_,_,rfl,rfl,p,_,rfl,pB,by omega,by omega,fun d H4 d0 d1 B4 p4=>?_⟩⟩⟩;refine .inl ⟨_,_,rfl,rfl,_,rfl,.inl ⟨D,_,rfl,SqL.of (B4 _ _ hD3 nD),fun b fb=>?_⟩⟩;have nb:b≠p:=p4.ne fb;obtain⟨ds,ed,hds⟩:=qko cs (some (at_+1)) (some (at_+1+d));rw[ed]
     have lds:ds.length≤7 - at_.toNat:=by
       rw[hds,List.length_take,List.length_drop];rw[show at_+1=((at_.toNat+1:Nat):Int) by omega,HT.sIx_nat];omega
     have cds:∀ c∈ds,Ltr c:=fun c m=>hc c (List.mem_of_mem_drop (List.mem_of_mem_take (hds▸m)));have Sb:=Same.new (.lst ((chs ds).map V.str)) fb;have hb5:(upd H4 b (.lst ((chs ds).map V.str))) b=some (.lst ((chs ds).map V.str)):=qd;have p5:=p4.upd nb (.lst ((chs ds).map V.str));have B5:But p H3 (upd H4 b (.lst ((chs ds).map V.str))):=B4.same Sb;(try unfold qJ);(try dsimp only);generalize upd H4 b (.lst ((chs ds).map V.str))=G5 at Sb hb5 p5 B5 ⊢;have m0:0≤(fi+st * (0+(i:Int))) % 26:=Int.emod_nonneg _ (by decide);have m1:(fi+st * (0+(i:Int))) % 26 < 26:=Int.emod_lt_of_pos _ (by decide);refine⟨_,rfl,_,rfl,_,rfl,_,rfl,_,_,rfl,rfl,.inl ⟨by omega,by omega⟩,.inl ⟨_,_,rfl,rfl,_,_,rfl,rfl,(by show (0:Int) < _;decide),.inr (.inr ⟨_,_,_,rfl,rfl,qo (by decide +kernel),qjm m0 m1,?_⟩)⟩⟩;have hD5:=B5 _ _ hD3 nD;have hq5:=B5 _ _ hq3 n_q;refine⟨_,rfl,.inl ⟨rfl,_,SqL.of hq5⟩,rfl,_,rfl,_,rfl,_,rfl,.inl ⟨D,_,rfl,SqL.of hD5,fun c fc=>?_⟩⟩;have nc:c≠p:=p5.ne fc;rw[qeR _ at_.toNat _ (by omega),show ((chs cs).map V.str).take at_.toNat=(chs pre).map V.str by rw[hpre];simp only[chs,List.map_take]];have Sc:=Same.new (.lst ((chs pre).map V.str)) fc;have hc6:(upd G5 c (.lst ((chs pre).map V.str))) c=some (.lst ((chs pre).map V.str)):=qd;have p6:=p5.upd nc (.lst ((chs pre).map V.str));have hb6:=Sc _ _ hb5;have hq6:=Sc _ _ hq5;have hD6:=Sc _ _ hD5;have B6:But p H3 (upd G5 c (.lst ((chs pre).map V.str))):=B5.same Sc;(try unfold qJ);(try dsimp only);generalize upd G5 c (.lst ((chs pre).map V.str))=G6 at hc6 p6 hb6 hq6 hD6 B6 ⊢;refine⟨_,c,_,rfl,rfl,SqL.of hc6,(by rw[qg7,lpre];omega),_,rfl,.inr (.inr ⟨_,_,rfl,rfl,?_,?_⟩)⟩
     · rw[qdi,lpre];exact qo (by show at_.toNat+1≤1000;omega)
     refine⟨rfl,_,rfl,_,b,_,rfl,rfl,SqL.of hb6,(by rw[qg7];omega),.inr (.inr ⟨_,_,rfl,rfl,?_,?_⟩)⟩
     · rw[qdX,qd6,qgI,qdi];exact qo (by rw[List.length_append,lpre];show _+1+_≤1000;omega)
     refine⟨q,_,_,rfl,rfl,hq6,qE (by rw[List.length_map];omega),?_⟩
     have ex:(Txt.join "" (chs pre)++ch (97+((fi+st * (0+(i:Int))) % 26).toNat)++Txt.join "" (chs ds)).cps.toList=pre++(97+((fi+st * (xs.length:Int)) % 26).toNat)::ds:=by
       rw[qd6,qd6,qgI,qgI,lx,Int.zero_add,List.append_assoc];rfl
     refine⟨_,_,_,xs++[_],rfl,?_,p6.upd n_q _,(by rw[qh nDq];exact hD6),(by rw[qd,List.map_append];rfl),(by rw[List.length_append,lx];rfl),nm.snoc (qh2 ex ?_ ?_ ?_) ex⟩
     · intro b o z nb;rw[qh (qi z fq0)];exact B6 b o (B b o z nb) nb
     · rw[List.length_append,List.length_cons];omega
     · rw[List.length_append,List.length_cons,lpre];omega
     · intro c hm;rcases List.mem_append.mp hm with z|z
       · exact cpre c z
       · rcases List.mem_cons.mp z with z|z
         · rw[z,lx];rw[Int.zero_add]at m0 m1;exact⟨by omega,by omega⟩
         · exact cds c z
   · rintro σ H3 ⟨s9,s10,s11,xs,rfl,B,pB,hD3,hq3,lx,nm⟩;exact⟨_,rfl,kk q xs H3 fq0 B pB hq3 (by rw[lx];omega) (nm.end_ ho (by omega))⟩
end
theorem qfc {l:List Addr} (n:l.Nodup) {i j:Nat}{x y:Addr} (hi:l[i]?=some x) (hj:l[j]?=some y) (h:i≠j):x≠y:=by
 intro e;subst e;obtain⟨h1,e1⟩:=List.getElem?_eq_some_iff.mp hi;obtain⟨h2,e2⟩:=List.getElem?_eq_some_iff.mp hj;exact h ((List.getElem_inj n).mp (e1.trans e2.symm))
theorem qC {H G:Hp}{l:Addr}{o:HO} (h:upd H l o=G) (f:H l=none):Same H G∧G l=some o:=by
 subst h;exact⟨Same.new o f,qd⟩
theorem qfP {i:Nat}{v:V}{u:TS}{D:qdA}{σ:L2.St}{H:Hp} (h:u D (σ.set i (some v)) H):qlJ (qlG (tC v) (qim i)) u D σ H:=h
theorem Jo {A:List (Int×Int)}{i:Nat}{x:Int×Int} (h:A[i]?=some x):A.drop i=x::A.drop (i+1):=by
 obtain⟨hi,e⟩:=List.getElem?_eq_some_iff.mp h;rw[← e];exact List.drop_eq_getElem_cons hi
theorem Jd {A:List (Int×Int)} (c:zj A) {i:Nat}{x:Int×Int} (h:A[i]?=some x):∀ u∈A.drop (i+1),x.2+1 < u.1:=fun u m=>by
 obtain⟨k,hk,e⟩:=List.mem_iff_getElem.mp m;rw[List.getElem_drop]at e;obtain⟨hi,ex⟩:=List.getElem?_eq_some_iff.mp h;have hk':i+1+k < A.length:=by rw[List.length_drop]at hk;omega
 have:=List.pairwise_iff_getElem.mp c.2 i (i+1+k) hi hk' (by omega)
 rw[ex,e]at this;exact this
theorem mem_cons2 {x:Int×Int}{A:List (Int×Int)}{n:Int}:Mem (x::A) n↔(x.1≤n∧n≤x.2)∨Mem A n:=by
 constructor
 · rintro⟨w,m,h⟩;rcases List.mem_cons.mp m with e|m
   · exact .inl (e▸h)
   · exact .inr ⟨w,m,h⟩
 · rintro (h|⟨w,m,h⟩)
   · exact⟨x,List.mem_cons_self,h⟩
   · exact⟨w,List.mem_cons_of_mem _ m,h⟩
theorem mem_snoc2 {x:Int×Int}{A:List (Int×Int)}{n:Int}:Mem (A++[x]) n↔Mem A n∨(x.1≤n∧n≤x.2):=by
 constructor
 · rintro⟨w,m,h⟩;rcases List.mem_append.mp m with m|m
   · exact .inl ⟨w,m,h⟩
   · exact .inr (List.mem_singleton.mp m▸h)
 · rintro (⟨w,m,h⟩|h)
   · exact⟨w,List.mem_append_left _ m,h⟩
   · exact⟨x,List.mem_append_right _ (List.mem_singleton.mpr rfl),h⟩
structure BI (A B:List (Int×Int)) (i j:Nat) (t:List (Int×Int)):Prop where
 can:zj t
 sub:∀ n,Mem t n->Mem A n∧Mem B n
 cov:∀ n,Mem A n->Mem B n->Mem t n∨(Mem (A.drop i) n∧Mem (B.drop j) n)
 sep:∀ w∈t,∀ x y,A[i]?=some x->B[j]?=some y->w.2+1 < x.1∨w.2+1 < y.1
 len:t.length≤i+j
abbrev mx2 (x y:Int):Int:=if y > x then y else x
abbrev mn2 (x y:Int):Int:=if y < x then y else x
abbrev bt (x y:Int×Int) (t:List (Int×Int)):List (Int×Int):=if mx2 x.1 y.1≤mn2 x.2 y.2 then t++[(mx2 x.1 y.1,mn2 x.2 y.2)] else t
theorem BI.mid {A B:List (Int×Int)}{i j:Nat}{t:List (Int×Int)}{x y:Int×Int} (b:BI A B i j t) (hx:A[i]?=some x) (hy:B[j]?=some y):zj (bt x y t)∧(∀ n,Mem (bt x y t) n->Mem A n∧Mem B n)∧(∀ n,Mem t n∨((x.1≤n∧n≤x.2)∧(y.1≤n∧n≤y.2))->Mem (bt x y t) n)∧(bt x y t).length≤i+j+1:=by
 have h1:x.1≤mx2 x.1 y.1∧y.1≤mx2 x.1 y.1∧(mx2 x.1 y.1=x.1∨mx2 x.1 y.1=y.1):=by unfold mx2;split<;>omega
 have h2:mn2 x.2 y.2≤x.2∧mn2 x.2 y.2≤y.2∧(mn2 x.2 y.2=x.2∨mn2 x.2 y.2=y.2):=by unfold mn2;split<;>omega
 have mx:=List.mem_of_getElem? hx;have my:=List.mem_of_getElem? hy;unfold bt;generalize mx2 x.1 y.1=lo at *;generalize mn2 x.2 y.2=hi at *;split
 · rename_i le
   refine⟨⟨fun w m=>?_,List.pairwise_append.mpr ⟨b.can.2,List.pairwise_singleton _ _,fun u mu v mv=>?_⟩⟩,fun n h=>?_,fun n h=>mem_snoc2.mpr ?_,?_⟩
   · rcases List.mem_append.mp m with m|m
     · exact b.can.1 w m
     · rw[List.mem_singleton.mp m];exact le
   · rw[List.mem_singleton.mp mv];show u.2+1 < lo;rcases b.sep u mu x y hx hy with z|z<;>omega
   · rcases mem_snoc2.mp h with h|h
     · exact b.sub n h
     · have h3:lo≤n:=h.1;have h4:n≤hi:=h.2;exact⟨⟨x,mx,by omega,by omega⟩,⟨y,my,by omega,by omega⟩⟩
   · rcases h with h|h
     · exact .inl h
     · refine .inr ⟨?_,?_⟩
       · show lo≤n;omega
       · show n≤hi;omega
   · rw[List.length_append];have:=b.len;show t.length+1≤_;omega
 · rename_i le
   refine⟨b.can,b.sub,fun n h=>?_,by have:=b.len;omega⟩;rcases h with h|h
   · exact h
   · omega
theorem BI.stepA {A B:List (Int×Int)} (cA:zj A) (cB:zj B) {i j:Nat}{t:List (Int×Int)}{x y:Int×Int} (b:BI A B i j t) (hx:A[i]?=some x) (hy:B[j]?=some y) (lt:x.2 < y.2):BI A B (i+1) j (bt x y t):=by
 obtain⟨m1,m2,m3,m4⟩:=b.mid hx hy;have gA:=Jd cA hx;have gB:=Jd cB hy;refine⟨m1,m2,fun n a1 a2=>?_,fun w mw x' y' hx' hy'=>?_,by omega⟩
 · rcases b.cov n a1 a2 with h|⟨h,h'⟩
   · exact .inl (m3 n (.inl h))
   · rw[Jo hx]at h;rcases mem_cons2.mp h with h|h
     · have h'':=h';rw[Jo hy]at h'';rcases mem_cons2.mp h'' with k|⟨u,mu,k1,k2⟩
       · exact .inl (m3 n (.inr ⟨h,k⟩))
       · have:=gB u mu
         omega
     · exact .inr ⟨h,h'⟩
 · have gx:=gA x' (by rw[Jo hx'];exact List.mem_cons_self);have x0:=cA.1 x (List.mem_of_getElem? hx);rw[hy]at hy';cases hy';unfold bt at mw;split at mw
   · rcases List.mem_append.mp mw with mw|mw
     · rcases b.sep w mw x y hx hy with z|z
       · exact .inl (by omega)
       · exact .inr z
     · rw[List.mem_singleton.mp mw];refine .inl ?_;show mn2 x.2 y.2+1 < x'.1;unfold mn2;split<;>omega
   · rcases b.sep w mw x y hx hy with z|z
     · exact .inl (by omega)
     · exact .inr z
theorem BI.stepB {A B:List (Int×Int)} (cA:zj A) (cB:zj B) {i j:Nat}{t:List (Int×Int)}{x y:Int×Int} (b:BI A B i j t) (hx:A[i]?=some x) (hy:B[j]?=some y) (lt:¬ x.2 < y.2):BI A B i (j+1) (bt x y t):=by
 obtain⟨m1,m2,m3,m4⟩:=b.mid hx hy;have gA:=Jd cA hx;have gB:=Jd cB hy;refine⟨m1,m2,fun n a1 a2=>?_,fun w mw x' y' hx' hy'=>?_,by omega⟩
 · rcases b.cov n a1 a2 with h|⟨h,h'⟩
   · exact .inl (m3 n (.inl h))
   · rw[Jo hy]at h';rcases mem_cons2.mp h' with k|k
     · have h'':=h;rw[Jo hx]at h'';rcases mem_cons2.mp h'' with k'|⟨u,mu,k1,k2⟩
       · exact .inl (m3 n (.inr ⟨k',k⟩))
       · have:=gA u mu
         omega
     · exact .inr ⟨h,k⟩
 · have gy:=gB y' (by rw[Jo hy'];exact List.mem_cons_self);have y0:=cB.1 y (List.mem_of_getElem? hy);rw[hx]at hx';cases hx';unfold bt at mw;split at mw
   · rcases List.mem_append.mp mw with mw|mw
     · rcases b.sep w mw x y hx hy with z|z
       · exact .inl z
       · exact .inr (by omega)
     · rw[List.mem_singleton.mp mw];refine .inr ?_;show mn2 x.2 y.2+1 < y'.1;unfold mn2;split<;>omega
   · rcases b.sep w mw x y hx hy with z|z
     · exact .inl z
     · exact .inr (by omega)
theorem BI.fin {A B:List (Int×Int)}{i j:Nat}{t:List (Int×Int)} (b:BI A B i j t) (h:A.length≤i∨B.length≤j):∀ n,Mem t n↔Mem A n∧Mem B n:=fun n=>by
 refine⟨b.sub n,fun zz_=>?_⟩;obtain⟨h1,h2⟩:=zz_;rcases b.cov n h1 h2 with z|⟨z1,z2⟩
 · exact z
 · rcases h with h|h
   · rw[List.drop_eq_nil_of_le h]at z1;obtain⟨_,m,_⟩:=z1;cases m
   · rw[List.drop_eq_nil_of_le h]at z2;obtain⟨_,m,_⟩:=z2;cases m
theorem BI.zero (A B:List (Int×Int)):BI A B 0 0 []:=⟨⟨(fun _ m=>nomatch m),List.Pairwise.nil⟩,(fun _ ⟨_,m,_⟩=>nomatch m),fun _ h1 h2=>.inr ⟨h1,h2⟩,(fun _ m=>nomatch m),Nat.zero_le _⟩
inductive qcD (vs:List V) (H:Hp) (Q:VK):Prop
 | mk (p q:Addr) (A B:List (Int×Int)) (h1:vs=[.ref p,.ref q]) (h2:Rs H p A) (h3:Rs H q B) (h4:zj A) (h5:zj B) (h6:A.length+B.length≤900) (h7:∀ (d:Addr) (r:List (Int×Int)) (H':Hp),H d=none->Same H H'->Rs H' d r->zj r->r.length≤A.length+B.length->(∀ n,Mem r n↔Mem A n∧Mem B n)->Q (.ref d) H'):qcD vs H Q
def qfK:Sp:=fun vs H Q _=>qcD vs H Q
section
variable {P:Program}{w:World}{K:Frag}{mg:Str->Option Value}{base:Heap}
theorem qjY {a:Ad} (T:Txt K mg a):qy P w K mg base CX0 1 a.f_K a.fd_K ["one","other"] qfK:=by
 refine T.d_K.F.ok sc_both (fun vs H Q E h=>?_) (fun cdv A outer s H vs Q E hr h=>?_)
 · obtain⟨p,q,A,B,rfl,⟨zp,hp,tp⟩,⟨zq,hq,tq⟩,cA,cB,few,kk⟩:=h;rfl
 · obtain⟨p,q,A,B,rfl,⟨zp,hp,tp⟩,⟨zq,hq,tq⟩,cA,cB,few,kk⟩:=h;have hu:=qD hr;have hU:=hr.units
   refine⟨_,(qc (qz (i:=2) sc_both.nd rfl (Or.inl rfl) (qY qb))
     (qc (qz (i:=3) sc_both.nd rfl (Or.inl rfl) qe)
     (qc (qz (i:=4) sc_both.nd rfl (Or.inl rfl) qe)
     (qc (qey PassesOwn.never (PW.pt (qc0 (qv qa7 (pv 3) (ql qZ (by rfl) T.n_len qF (qa (pv 0) qb)) (qB _)) (qaz (qv qa7 (pv 4) (ql qZ (by rfl) T.n_len qF (qa (pv 1) qb)) (qB _)))))
       (qc (qz (i:=5) sc_both.nd rfl (Or.inl rfl) (ql (zm rfl) (by rfl) T.n_max zn (qa (qA (r:=rIx K) qt (qA (r:=rIx K) qt (pv 0) (pv 3) (fun _ _=>rfl)) qe (fun _ _=>rfl)) (qa (qA (r:=rIx K) qt (qA (r:=rIx K) qt (pv 1) (pv 4) (fun _ _=>rfl)) qe (fun _ _=>rfl)) qb))))
       (qc (qz (i:=6) sc_both.nd rfl (Or.inl rfl) (ql (zZ rfl) (by rfl) T.n_min z9 (qa (qA (r:=rIx K) qt (qA (r:=rIx K) qt (pv 0) (pv 3) (fun _ _=>rfl)) qe (fun _ _=>rfl)) (qa (qA (r:=rIx K) qt (qA (r:=rIx K) qt (pv 1) (pv 4) (fun _ _=>rfl)) qe (fun _ _=>rfl)) qb))))
       (qc (qG (qv zS (pv 5) (pv 6) (qB _))
         (qf (qO (qca PySem.F.plainAttrs_list PySem.F.slot_list_append PySem.F.type_list_append Qq (pv 2) (qa (zf (qa (pv 5) (qa (pv 6) qb))) qb))))
         qu)
       (qf (qG (qv qa7 (qA (r:=rIx K) qt (qA (r:=rIx K) qt (pv 0) (pv 3) (fun _ _=>rfl)) qe (fun _ _=>rfl)) (qA (r:=rIx K) qt (qA (r:=rIx K) qt (pv 1) (pv 4) (fun _ _=>rfl)) qe (fun _ _=>rfl)) (qB _))
         (qf (qi0 (i:=3) sc_both.nd rfl (Or.inl rfl) qe qja))
         (qf (qi0 (i:=4) sc_both.nd rfl (Or.inl rfl) qe qja))))))))
     (qf (qq (pv 2))))))),?_⟩
   try dsimp only [zi,Cx.nox]
   refine⟨qo (Nat.le_of_ble_eq_true rfl),fun d fd=>?_⟩;generalize hG:upd H d _=G;obtain⟨S0,e0⟩:=qC hG fd;clear hG;(try unfold qJ);(try dsimp only);refine qfP (qfP ?_);refine qR (t:=qfB _ _) (fun σ' H'=>∃ (s3 s4 s5 s6:Option V) (t:List (Int×Int)),σ'=[some (.ref p),some (.ref q),some (.ref d),s3,s4,s5,s6]∧Same H H'∧Rs H' d t∧zj t∧t.length≤A.length+B.length∧∀ n,Mem t n↔Mem A n∧Mem B n) (fun N hN=>?_) ?_
   · refine⟨fun m σ H2=>∃ (i j:Nat) (s5 s6:Option V) (t:List (Int×Int)),σ=[some (.ref p),some (.ref q),some (.ref d),some (.int (i:Int)),some (.int (j:Int)),s5,s6]∧Same H H2∧Rs H2 d t∧BI A B i j t∧i≤A.length∧j≤B.length∧m=(A.length - i)+(B.length - j),⟨_,0,0,none,none,[],rfl,S0,⟨[],e0,.nil⟩,.zero A B,Nat.zero_le _,Nat.zero_le _,rfl⟩,?_⟩;rintro m σ H2 ⟨i,j,s5,s6,t,rfl,S2,⟨zt,ht,tt⟩,bi,hi,hj,rfl⟩;have lp:zp.length=A.length:=tp.1;have lq:zq.length=B.length:=tq.1;have hp2:=S2 _ _ hp;have hq2:=S2 _ _ hq;refine⟨_,rfl,_,rfl,_,_,rfl,.inl ⟨_,SqL.of hp2,rfl⟩,_,_,rfl,rfl,_,rfl,zT (fun g1=>?_) (fun g1=>?_)⟩
     case refine_2=>exact qT rfl (hN _ _ ⟨_,_,_,_,t,rfl,S2,⟨zt,ht,tt⟩,bi.can,Nat.le_trans bi.len (by omega),bi.fin (.inl (by omega))⟩)
     refine⟨_,rfl,_,rfl,_,_,rfl,.inl ⟨_,SqL.of hq2,rfl⟩,_,_,rfl,rfl,_,rfl,zT (fun g2=>?_) (fun g2=>?_)⟩
     case refine_2=>exact hN _ _ ⟨_,_,_,_,t,rfl,S2,⟨zt,ht,tt⟩,bi.can,Nat.le_trans bi.len (by omega),bi.fin (.inr (by omega))⟩
     refine⟨fun σ' H'=>∃ m',m' < (A.length - i)+(B.length - j)∧(fun m σ H2=>∃ (i j:Nat) (s5 s6:Option V) (t:List (Int×Int)),σ=[some (.ref p),some (.ref q),some (.ref d),some (.int (i:Int)),some (.int (j:Int)),s5,s6]∧Same H H2∧Rs H2 d t∧BI A B i j t∧i≤A.length∧j≤B.length∧m=(A.length - i)+(B.length - j)) m' σ' H',fun _ _ h=>h,?_⟩;obtain⟨x,hx⟩:∃ x,A[i]?=some x:=⟨_,List.getElem?_eq_getElem (by omega)⟩
     obtain⟨y,hy⟩:∃ y,B[j]?=some y:=⟨_,List.getElem?_eq_getElem (by omega)⟩
     obtain⟨u,ha,hu0⟩:=tp.at_ hx;obtain⟨v,hb,hv0⟩:=tq.at_ hy;have hu:=S2 _ _ hu0;have hv:=S2 _ _ hv0;refine⟨_,rfl,_,rfl,.inl ⟨p,_,_,_,rfl,rfl,SqL.of hp2,zh ha,.inr (.inl ⟨u,_,_,_,rfl,rfl,SqT.of hu,rfl,_,rfl,_,rfl,.inl ⟨q,_,_,_,rfl,rfl,SqL.of hq2,zh hb,.inr (.inl ⟨v,_,_,_,rfl,rfl,SqT.of hv,rfl,_,_,rfl,?_⟩)⟩⟩)⟩⟩;(try unfold qJ);(try dsimp only);refine⟨_,rfl,_,rfl,.inl ⟨p,_,_,_,rfl,rfl,SqL.of hp2,zh ha,.inr (.inl ⟨u,_,_,_,rfl,rfl,SqT.of hu,rfl,_,rfl,_,rfl,.inl ⟨q,_,_,_,rfl,rfl,SqL.of hq2,zh hb,.inr (.inl ⟨v,_,_,_,rfl,rfl,SqT.of hv,rfl,_,_,rfl,?_⟩)⟩⟩)⟩⟩;(try unfold qJ);(try dsimp only);have lt:zt.length=t.length:=tt.1;have bl:=bi.len;refine qR (t:=qkC _ _ _) (fun σ' H'=>σ'=[some (.ref p),some (.ref q),some (.ref d),some (.int (i:Int)),some (.int (j:Int)),some (.int (mx2 x.1 y.1)),some (.int (mn2 x.2 y.2))]∧Same H H'∧Rs H' d (bt x y t)) (fun N hN=>?_) ?_
     · refine⟨_,rfl,_,rfl,_,_,rfl,rfl,_,rfl,zT (fun g3=>?_) (fun g3=>hN _ _ ⟨rfl,S2,by unfold bt;rw[if_neg g3];exact⟨zt,ht,tt⟩⟩)⟩;refine⟨_,rfl,.inl ⟨rfl,_,SqL.of ht⟩,_,rfl,_,rfl,qo (Nat.le_of_ble_eq_true rfl),fun w fw=>?_⟩;generalize hG:upd H2 w _=G2;obtain⟨S3,e3⟩:=qC hG fw;clear hG;refine⟨d,_,_,rfl,rfl,S3 _ _ ht,qE (by omega),?_⟩;refine hN _ _ ⟨rfl,(S2.trans S3).put fd _,?_⟩;unfold bt;rw[if_pos g3];exact⟨_,qd,((tt.same S3).snoc (p:=(mx2 x.1 y.1,mn2 x.2 y.2)) e3).put (S3 _ _ ht)⟩
     rintro _ H3 ⟨rfl,S3,R3⟩;have hp2:=S3 _ _ hp;have hq2:=S3 _ _ hq;have hu:=S3 _ _ hu0;have hv:=S3 _ _ hv0;refine⟨_,rfl,_,rfl,.inl ⟨p,_,_,_,rfl,rfl,SqL.of hp2,zh ha,.inr (.inl ⟨u,_,_,_,rfl,rfl,SqT.of hu,rfl,_,rfl,_,rfl,.inl ⟨q,_,_,_,rfl,rfl,SqL.of hq2,zh hb,.inr (.inl ⟨v,_,_,_,rfl,rfl,SqT.of hv,rfl,_,_,rfl,rfl,_,rfl,zT (fun g4=>?_) (fun g4=>?_)⟩)⟩⟩)⟩⟩
     · refine⟨_,rfl,_,_,rfl,rfl,?_⟩;exact⟨_,(by omega:(A.length - (i+1))+(B.length - j) < _),i+1,j,_,_,_,rfl,S3,R3,bi.stepA cA cB hx hy g4,by omega,hj,rfl⟩
     · refine⟨_,rfl,_,_,rfl,rfl,?_⟩;exact⟨_,(by omega:(A.length - i)+(B.length - (j+1)) < _),i,j+1,_,_,_,rfl,S3,R3,bi.stepB cA cB hx hy g4,hi,by omega,rfl⟩
   rintro _ H2 ⟨s3,s4,s5,s6,t,rfl,S2,R2,c2,l2,m2⟩;exact⟨_,rfl,kk d t H2 fd S2 R2 c2 l2 m2⟩
end
theorem jo {K:Frag}{mg:Str->Option Value}{a:Ad} (T:Txt K mg a):kitOne K (.ref a.c_Entry) (.ref a.c_Entry)=some true:=by
 rw[zJ T.mr_Entry rfl T.t_Entry];simp
theorem ZO {K:Frag}{mg:Str->Option Value}{a:Ad} (T:Txt K mg a):kitOne K (.ref a.c_Within) (.ref a.c_Entry)=some true:=by
 rw[zJ T.mr_Within rfl T.t_Entry];simp
theorem qaQ {K:Frag}{mg:Str->Option Value}{a:Ad} (T:Txt K mg a):kitOne K (.ref a.c_At) (.ref a.c_Entry)=some true:=by
 rw[zJ T.mr_At rfl T.t_Entry];simp
theorem Zo {K:Frag}{mg:Str->Option Value}{a:Ad} (T:Txt K mg a):kitOne K (.ref a.c_Between) (.ref a.c_Entry)=some true:=by
 rw[zJ T.mr_Between rfl T.t_Entry];simp
theorem j9 {K:Frag}{mg:Str->Option Value}{a:Ad} (T:Txt K mg a):kitOne K (.ref a.c_Read) (.ref a.c_Entry)=some true:=by
 rw[zJ T.mr_Read rfl T.t_Entry];simp
theorem qbd {K:Frag}{mg:Str->Option Value}{a:Ad} (T:Txt K mg a):kitOne K (.ref a.c_Joint) (.ref a.c_Entry)=some true:=by
 rw[zJ T.mr_Joint rfl T.t_Entry];simp
theorem qaP {K:Frag}{mg:Str->Option Value}{a:Ad} (T:Txt K mg a):kitOne K (.ref a.c_Sifted) (.ref a.c_Entry)=some true:=by
 rw[zJ T.mr_Sifted rfl T.t_Entry];simp
theorem qbe {K:Frag}{mg:Str->Option Value}{a:Ad} (T:Txt K mg a):kitOne K (.ref a.c_Entry) (.ref a.c_Joint)=some false:=by
 rw[zJ T.mr_Entry rfl T.t_Joint];simp[qfc T.ndc (i:=5) (j:=0) rfl rfl (by decide)]
theorem qaO {K:Frag}{mg:Str->Option Value}{a:Ad} (T:Txt K mg a):kitOne K (.ref a.c_Within) (.ref a.c_Joint)=some false:=by
 rw[zJ T.mr_Within rfl T.t_Joint];simp[qfc T.ndc (i:=5) (j:=1) rfl rfl (by decide),qfc T.ndc (i:=5) (j:=0) rfl rfl (by decide)]
theorem qdY {K:Frag}{mg:Str->Option Value}{a:Ad} (T:Txt K mg a):kitOne K (.ref a.c_At) (.ref a.c_Joint)=some false:=by
 rw[zJ T.mr_At rfl T.t_Joint];simp[qfc T.ndc (i:=5) (j:=2) rfl rfl (by decide),qfc T.ndc (i:=5) (j:=1) rfl rfl (by decide),qfc T.ndc (i:=5) (j:=0) rfl rfl (by decide)]
theorem J1 {K:Frag}{mg:Str->Option Value}{a:Ad} (T:Txt K mg a):kitOne K (.ref a.c_Between) (.ref a.c_Joint)=some false:=by
 rw[zJ T.mr_Between rfl T.t_Joint];simp[qfc T.ndc (i:=5) (j:=3) rfl rfl (by decide),qfc T.ndc (i:=5) (j:=0) rfl rfl (by decide)]
theorem qco {K:Frag}{mg:Str->Option Value}{a:Ad} (T:Txt K mg a):kitOne K (.ref a.c_Read) (.ref a.c_Joint)=some false:=by
 rw[zJ T.mr_Read rfl T.t_Joint];simp[qfc T.ndc (i:=5) (j:=4) rfl rfl (by decide),qfc T.ndc (i:=5) (j:=3) rfl rfl (by decide),qfc T.ndc (i:=5) (j:=0) rfl rfl (by decide)]
theorem qbc {K:Frag}{mg:Str->Option Value}{a:Ad} (T:Txt K mg a):kitOne K (.ref a.c_Within) (.ref a.c_Read)=some false:=by
 rw[zJ T.mr_Within rfl T.t_Read];simp[qfc T.ndc (i:=4) (j:=1) rfl rfl (by decide),qfc T.ndc (i:=4) (j:=0) rfl rfl (by decide)]
theorem qdg {K:Frag}{mg:Str->Option Value}{a:Ad} (T:Txt K mg a):kitOne K (.ref a.c_Read) (.ref a.c_Read)=some true:=by
 rw[zJ T.mr_Read rfl T.t_Read];simp
theorem J0 {K:Frag}{mg:Str->Option Value}{a:Ad} (T:Txt K mg a):kitOne K (.ref a.c_Within) (.ref a.c_Within)=some true:=by
 rw[zJ T.mr_Within rfl T.t_Within];simp
abbrev fsJ (nm:Str) (l:Addr):List (Str×V):=[("name",.str nm),("kept_parts",.ref l)]
abbrev fsS (nm:Str) (p f:Addr):List (Str×V):=[("name",.str nm),("part",.ref p),("keeps",.ref f)]
theorem zg {H H':Hp}{x dx C:Addr} (h1:H x=none) (h2:H dx=none) (b:But x (upd (upd H dx (.own x)) x (.ins C dx [])) H'):Same H H':=fun c o e=>by
 have n1:=qi e h1;have n2:=qi e h2;exact b c o (by rw[qh n1,qh n2];exact e) n1
theorem up2 {H:Hp}{x dx:Addr}{o o':HO} (f1:H x=none) (f2:H dx=none):Same H (upd (upd H dx o) x o'):=fun b u e=>by
 rw[qh (qi e f1),qh (qi e f2)];exact e
theorem qla {H H':Hp}{x C dx:Addr} (hx:H x=some (.ins C dx [])) (b:But x H H'):∀ y C' d fs,H y=some (.ins C' d fs)->fs≠[]->H' y=some (.ins C' d fs):=fun y C' d fs e n=>by
 refine b _ _ e fun z=>?_;rw[z,hx]at e;injection e with e;injection e with _ _ e;exact n e.symm
abbrev qkv (n:Int):Prop:=-10000000000≤n∧n≤10000000000
inductive Pk where
 | any|wi (lo hi:Int)|at_ (m:Int)|bt (pl:Str) (lo hi:Int)|rd (pl:Str) (m:Int)
def Pk.pls:Pk->List Str
 | .bt pl _ _=>[pl]
 | .rd pl _=>[pl]
 | _=>[]
theorem Pk.one (k:Pk):k.pls.length≤1:=by cases k<;>exact Nat.le_of_ble_eq_true rfl
abbrev Ok9 (n:Int):Prop:=0≤n∧n≤1000000000
inductive EnP (a:Ad) (H:Hp) (x:Addr) (nm:Str):Pk->Prop
 | any {dx:Addr}:H x=some (.ins a.c_Entry dx [("name",.str nm)])->EnP a H x nm .any
 | wi {dx:Addr}{lo hi:Int}:H x=some (.ins a.c_Within dx (fsW nm lo hi))->Ok9 lo->Ok9 hi->EnP a H x nm (.wi lo hi)
 | at_ {dx:Addr}{m:Int}:H x=some (.ins a.c_At dx (fsW nm m m))->EnP a H x nm (.at_ m)
 | bt {dx:Addr}{pl:Str}{lo hi:Int}:H x=some (.ins a.c_Between dx (fsB nm pl lo hi))->qkv lo->qkv hi->EnP a H x nm (.bt pl lo hi)
 | rd {dx:Addr}{pl:Str}{m:Int}:H x=some (.ins a.c_Read dx (fsB nm pl m m))->qkv m->EnP a H x nm (.rd pl m)
theorem EnP.mp {a:Ad}{H H':Hp}{x:Addr}{nm:Str}{pk:Pk} (h:EnP a H x nm pk) (k:∀ C d fs,H x=some (.ins C d fs)->fs≠[]->H' x=some (.ins C d fs)):EnP a H' x nm pk:=by
 cases h with
 | any e=>exact .any (k _ _ _ e (by simp))
 | wi e h1 h2=>exact .wi (k _ _ _ e (by simp)) h1 h2
 | at_ e=>exact .at_ (k _ _ _ e (by simp))
 | bt e h1 h2=>exact .bt (k _ _ _ e (by simp)) h1 h2
 | rd e h1=>exact .rd (k _ _ _ e (by simp)) h1
theorem EnP.same {a:Ad}{H H':Hp}{x:Addr}{nm:Str}{pk:Pk} (h:EnP a H x nm pk) (s:Same H H'):EnP a H' x nm pk:=h.mp fun _ _ _ e _=>s _ _ e
def Pt (a:Ad) (H:Hp) (x:Addr) (pk:Pk):Prop:=∃ nm,EnP a H x nm pk
theorem Pt.mp {a:Ad}{H H':Hp}{x:Addr}{pk:Pk} (h:Pt a H x pk) (k:∀ C d fs,H x=some (.ins C d fs)->fs≠[]->H' x=some (.ins C d fs)):Pt a H' x pk:=let ⟨nm,e⟩:=h;⟨nm,e.mp k⟩
theorem Pt.same {a:Ad}{H H':Hp}{x:Addr}{pk:Pk} (h:Pt a H x pk) (s:Same H H'):Pt a H' x pk:=let ⟨nm,e⟩:=h;⟨nm,e.same s⟩
theorem qkW {K:Frag}{mg:Str->Option Value}{a:Ad} (T:Txt K mg a) {H:Hp}{x:Addr}{pk:Pk} (h:Pt a H x pk):∃ C,qdz K H (.ref x) (.ref C)∧kitOne K (.ref C) (.ref a.c_Entry)=some true∧kitOne K (.ref C) (.ref a.c_Joint)=some false:=by
 obtain⟨nm,h⟩:=h
 cases h with
 | any hx=>exact⟨_,T.io_Entry.ty hx,jo T,qbe T⟩
 | wi hx _ _=>exact⟨_,T.io_Within.ty hx,ZO T,qaO T⟩
 | at_ hx=>exact⟨_,T.io_At.ty hx,qaQ T,qdY T⟩
 | bt hx _ _=>exact⟨_,T.io_Between.ty hx,Zo T,J1 T⟩
 | rd hx _=>exact⟨_,T.io_Read.ty hx,j9 T,qco T⟩
def Sfk:Pk->Prop
 | .wi lo hi=>hi - lo < 1000
 | .rd _ _=>True
 | _=>False
def qmq (ws:List (Int×Int)):Int:=(ws.map fun w=>w.2 - w.1+1).sum
theorem qhc:bootBuiltins "sum"=some (.builtin "sum"):=by decide +kernel
inductive jE (vs:List V) (H:Hp) (Q:VK):Prop
 | mk (q:Addr) (ws:List (Int×Int)) (h1:vs=[.ref q]) (h2:Rs H q ws) (h3:ws.length≤64) (h4:∀ H',Same H H'->Q (.int (qmq ws)) H'):jE vs H Q
def J7:Sp:=fun vs H Q _=>jE vs H Q
theorem qhw {r:List (Int×Int)}{lo hi:Int} (c:zj r) (l:r.length≤1) (m:∀ n,Mem r n↔Mem [(lo,hi)] n) (h:hi - lo < 1000):qmq r≤1000:=by
 cases r with
 | nil=>decide
 | cons w t =>
   cases t with
   | cons _ _=>simp at l
   | nil =>
     have hw:=c.1 w (List.mem_singleton.mpr rfl);obtain⟨u,mu,a1,a2⟩:=(m w.1).mp ⟨w,List.mem_singleton.mpr rfl,Int.le_refl _,hw⟩;obtain⟨v,mv,b1,b2⟩:=(m w.2).mp ⟨w,List.mem_singleton.mpr rfl,hw,Int.le_refl _⟩;rw[List.mem_singleton.mp mu]at a1;rw[List.mem_singleton.mp mv]at b2;show (w.2 - w.1+1)+0≤1000;have a1':lo≤w.1:=a1;have b2':w.2≤hi:=b2;omega
inductive Zg (a:Ad) (vs:List V) (H:Hp) (Q:VK):Prop
 | mk (q:Addr) (ps:List (Addr×Pk)) (h1:vs=[.ref q]) (h2:H q=some (.lst (ps.map fun p=>V.ref p.1))) (h3:0 < ps.length) (h4:ps.length≤8) (h5:(∀ p∈ps,Pt a H p.1 p.2)) (h6:Q .non H):Zg a vs H Q
def ZY (a:Ad):Sp:=fun vs H Q _=>Zg a vs H Q
inductive ZD (a:Ad) (vs:List V) (H:Hp) (Q:VK):Prop
 | mk (x dx q:Addr) (nm:Str) (ps:List (Addr×Pk)) (h1:vs=[.ref x,.str nm,.ref q]) (h2:H x=some (.ins a.c_Joint dx [])) (h3:zC (.str nm)=true) (h4:H q=some (.lst (ps.map fun p=>V.ref p.1))) (h5:0 < ps.length) (h6:ps.length≤8) (h7:(∀ p∈ps,Pt a H p.1 p.2)) (h8:∀ (l:Addr) (H':Hp),H l=none->But x H H'->H' x=some (.ins a.c_Joint dx (fsJ nm l))->H' l=some (.lst (ps.map fun p=>V.ref p.1))->Q .non H'):ZD a vs H Q
def jO (a:Ad):Sp:=fun vs H Q _=>ZD a vs H Q
inductive Zv (a:Ad) (vs:List V) (H:Hp) (Q:VK):Prop
 | mk (x:Addr) (nm:Str) (pk:Pk) (h1:vs=[.ref x]) (h2:EnP a H x nm pk) (h3:Sfk pk) (h4:∀ H',Same H H'->Q .non H'):Zv a vs H Q
def jJ (a:Ad):Sp:=fun vs H Q _=>Zv a vs H Q
inductive Zi (a:Ad) (vs:List V) (H:Hp) (Q:VK):Prop
 | mk (x dx p f:Addr) (nm pn:Str) (pk:Pk) (h1:vs=[.ref x,.str nm,.ref p,.ref f]) (h2:H x=some (.ins a.c_Sifted dx [])) (h3:zC (.str nm)=true) (h4:EnP a H p pn pk) (h5:Sfk pk) (h6:∀ H',But x H H'->H' x=some (.ins a.c_Sifted dx (fsS nm p f))->Q .non H'):Zi a vs H Q
def ZZ (a:Ad):Sp:=fun vs H Q _=>Zi a vs H Q
inductive Qx (a:Ad) (vs:List V) (H:Hp) (Q:VK):Prop
 | mk (x dx p f:Addr) (nm pn:Str) (pk:Pk) (h1:vs=[.ref x]) (h2:H x=some (.ins a.c_Sifted dx (fsS nm p f))) (h3:EnP a H p pn pk) (h4:Sfk pk) (h5:∀ l,H l=none->Q (.ref l) (upd H l (.lst (pk.pls.map V.str)))):Qx a vs H Q
def Qa (a:Ad):Sp:=fun vs H Q _=>Qx a vs H Q
def Qt (acc ss:List Str):List Str:=acc++ss.filter fun u=>decide (u∉acc)
inductive QO (a:Ad) (vs:List V) (H:Hp) (Q:VK):Prop
 | mk (x dx l:Addr) (nm:Str) (ps:List (Addr×Pk)) (h1:vs=[.ref x]) (h2:H x=some (.ins a.c_Joint dx (fsJ nm l))) (h3:H l=some (.lst (ps.map fun p=>V.ref p.1))) (h4:ps.length≤8) (h5:(∀ p∈ps,Pt a H p.1 p.2∧p.2.pls.length≤1)) (h6:∀ (d:Addr) (H':Hp),H d=none->Same H H'->H' d=some (.lst ((ps.foldl (fun acc p=>Qt acc p.2.pls) []).map V.str))->Q (.ref d) H'):QO a vs H Q
def Qk (a:Ad):Sp:=fun vs H Q _=>QO a vs H Q
theorem qih {n:Str}{ns:List Str}:inV (.str n) (ns.map V.str)=decide (n∈ns):=by
 unfold inV;rw[List.any_map,Bool.eq_iff_iff,List.any_eq_true,decide_eq_true_iff];constructor
 · rintro⟨y,m,e⟩
   have:y=n:=by simpa[eqV] using e
   exact this▸m
 · intro m;exact⟨n,m,by simp[eqV]⟩
theorem qgX (ns:List Str):(ns.map V.str).all qct=true:=by
 rw[List.all_map,List.all_eq_true];intro x _;rfl
section
variable {P:Program}{w:World}{K:Frag}{mg:Str->Option Value}{base:Heap}
theorem qdR {a:Ad} (T:Txt K mg a):qy P w K mg base CX0 1 a.f_N a.fd_N ["spans"] J7:=by
 refine T.d_N.F.ok qdJ (fun vs H Q E h=>?_) (fun cdv A outer s H vs Q E hr h=>?_)
 · obtain⟨q,ws,rfl,hrs,few,kk⟩:=h;rfl
 · obtain⟨q,ws,rfl,hrs,few,kk⟩:=h;refine⟨_,(qf (qq (ql (r:=qkR K) (qg9 rfl) (by rfl) T.n_sum qhc (qa (Qb rfl (CompOk.def ["low","high"] [none,none]) (zc (pv 0)) (fun _ _ _ _ _=>(show PG _ _ (qku K 2 _) from (Qn rfl (qw (qp (i:=0) (show List.Nodup (["low","high"]:List Str) by decide +kernel) rfl (Or.inl rfl)) (qw (qp (i:=1) (show List.Nodup (["low","high"]:List Str) by decide +kernel) rfl (Or.inl rfl)) zx))))) (fun _ _ _ _ _=>ZJ) (fun _ _ _ _ _=>(qx QY (qx zY (pv 1) (pv 0)) qe))) qb)))),?_⟩;(try dsimp only [zi,Cx.nox]);obtain⟨zs,hq,tp⟩:=id hrs;refine⟨_,rfl,q,rfl,⟨_,SqL.of hq⟩,fun D fD=>?_⟩;refine zH (K:=K) (a:=q) (xs:=zs) (D:=D) (fun i σ H2=>∃ (s0 s1:Option V),σ=[s0,s1]∧Same H H2∧H2 D=some (.lst (((ws.take i).map fun w=>w.2 - w.1+1).map V.int))) ⟨none,none,rfl,Same.new _ fD,qd⟩ (fun i σ H2 _ ⟨_,_,_,S,_⟩=>SqL.of (S _ _ hq)) ?_ ?_
   · rintro i z σ H2 hz ⟨s0,s1,rfl,S,hD⟩;obtain⟨p,t,hp,rfl,ht⟩:=tp.of hz;have li:i < ws.length:=(List.getElem?_eq_some_iff.mp hp).1;refine⟨t,_,rfl,SqT.of (S _ _ ht),rfl,_,_,rfl,_,_,rfl,rfl,?_⟩;refine⟨_,rfl,_,rfl,_,_,rfl,rfl,.inl ⟨_,_,rfl,rfl,_,hD,qE (by rw[List.length_map,List.length_map,List.length_take];omega),_,_,rfl,S.put fD _,?_⟩⟩;rw[qd,List.take_add_one,hp];simp
   · rintro σ H2 ⟨s0,s1,rfl,S,hD⟩;rw[tp.1,List.take_length]at hD;exact⟨D,_,rfl,SqL.of hD,kk H2 S⟩
theorem qa8 {a:Ad} (T:Txt K mg a):qy P w K mg base CX0 1 a.f_P a.fd_P ["parts"] (ZY a):=by
 refine T.d_P.F.ok sc_check_parts (fun vs H Q E h=>?_) (fun cdv A outer s H vs Q E hr h=>?_)
 · obtain⟨q,ps,rfl,hq,h0,h8,en,kk⟩:=h;rfl
 · obtain⟨q,ps,rfl,hq,h0,h8,en,kk⟩:=h;have hU:=hr.units;obtain⟨t_MOST_PARTS,c_MOST_PARTS⟩:=T.g_MOST_PARTS
   refine⟨_,(qc (qG (PW.pt (qa6 (q8 (qX (ql zu (by rfl) T.n_isinstance qr (qa (pv 0) (qa (zO (v:=.ty "list") rfl T.n_list q9 rfl) qb))))) (jj (qv (uEq hU) (ql qZ (by rfl) T.n_len qF (qa (pv 0) qb)) qe (qB _)))))
       (qf qN)
       qu)
     (qc (qG (qv qdQ (ql qZ (by rfl) T.n_len qF (qa (pv 0) qb)) (qS (v:=.int 8) rfl c_MOST_PARTS ⟨_,rfl⟩) (qB _))
       (qf qN)
       qu)
     (qf (zr PassesOwn.never rfl (zc (pv 0)) (qp (i:=1) (sc_check_parts.nd) rfl (Or.inl rfl))
       (qf (qG (PW.pt (qa6 (q8 (qX (ql (r:=qkt K) Jf (by rfl) T.n_isinstance qr (qa (pv 1) (qa (qS (v:=.ref a.c_Entry) rfl T.g_Entry rfl) qb))))) (jj (qX (ql (r:=qkt K) Jf (by rfl) T.n_isinstance qr (qa (pv 1) (qa (qS (v:=.ref a.c_Joint) rfl T.g_Joint rfl) qb)))))))
         (qf qN)
         qu)))))),?_⟩
   try dsimp only [zi,Cx.nox]
   have ty:tyN H (.ref q)=some "list":=by simp only[tyN];rw[hq]
   have lq:(ps.map fun p=>V.ref p.1).length=ps.length:=List.length_map _;refine⟨_,rfl,_,_,_,rfl,(by decide),ty,true,rfl,qT rfl ?_⟩;refine⟨_,rfl,_,_,rfl,.inl ⟨_,SqL.of hq,rfl⟩,.inl ⟨rfl,_,rfl,zT (fun g=>absurd g ?_) (fun _=>?_)⟩⟩
   · intro z;injection z with z;omega
   refine⟨_,rfl,_,_,rfl,.inl ⟨_,SqL.of hq,rfl⟩,_,_,rfl,rfl,_,rfl,zT (fun g=>absurd g (by omega)) (fun _=>?_)⟩;(try unfold qJ);(try dsimp only);refine⟨_,rfl,q,rfl,⟨_,SqL.of hq⟩,zI (K:=K) (a:=q) (xs:=ps.map fun p=>V.ref p.1) (fun j σ H'=>∃ s1:Option V,σ=[some (.ref q),s1]∧H'=H) ⟨_,rfl,rfl⟩ (fun j σ H' _ ⟨_,_,h⟩=>h▸SqL.of hq) ?_ ?_⟩
   · rintro j z σ H' hz ⟨s1,rfl,rfl⟩;obtain⟨k,hk,rfl⟩:=Zb hz;obtain⟨C,c1,c2,c3⟩:=qkW T (en k (List.mem_of_getElem? hk));exact⟨_,rfl,_,_,_,_,rfl,c1,c2,true,rfl,qT rfl ⟨_,rfl,_,_,_,_,rfl,c1,c3,false,rfl,qT rfl ⟨_,rfl,rfl⟩⟩⟩
   · rintro σ H' ⟨s1,rfl,rfl⟩;exact kk
theorem qch {a:Ad} (T:Txt K mg a):qy P w K mg base CX0 5 a.f_ab a.fd_ab ["self","name","parts"] (jO a):=by
 have G_d:=zQ (P:=P) (w:=w) (base:=base) T;have G_P:=qa8 (P:=P) (w:=w) (base:=base) T;refine T.d_ab.F.ok qb5 (fun vs H Q E h=>?_) (fun cdv A outer s H vs Q E hr h=>?_)
 · obtain⟨x,dx,q,nm,ps,rfl,hx,ok,hq,h0,h8,en,kk⟩:=h;rfl
 · obtain⟨x,dx,q,nm,ps,rfl,hx,ok,hq,h0,h8,en,kk⟩:=h;have h_d:Room (3+1) _:=hr.mono (by decide);have h_P:Room (1) _:=hr.mono (by decide)
   refine⟨_,(qc (qO (ZR T.ci_Entry G_d (h_d.mono (by decide)) T.d_d.b rfl T.g_Entry (qa (pv 0) (qa (pv 1) qb))))
     (qc (qO (qj G_P h_P rfl T.d_P.m T.d_P.k T.d_P.b .nil qk (qa (pv 2) qb)))
     (qf (QU (pv 0) (zy (r:=qjM K) zA (by rfl) T.n_list q9 (qa (pv 2) qb)) rfl)))),?_⟩
   try dsimp only [zi,Cx.nox]
   refine⟨_,rfl,_,rfl,x,a.c_Joint,dx,nm,rfl,hx,ok,T.cl_Joint,T.n_Joint_name,fun H1 B1 h1=>?_⟩;have hq1:=B1 _ _ hq (qW hq hx (by intro z;cases z));refine⟨_,rfl,q,ps,rfl,hq1,h0,h8,fun p m=>(en p m).mp fun C d fs=>qla hx B1 p.1 C d fs,?_⟩;refine⟨_,rfl,q,_,rfl,.inl (SqL.of hq1),fun l fl=>?_⟩;have nl:l≠x:=fun z=>by rw[z,h1]at fl;cases fl
   refine⟨_,rfl,x,_,dx,_,rfl,(by rw[qh nl.symm];exact h1),T.cl_Joint,T.n_Joint_kept_parts,(Nat.le_of_ble_eq_true rfl),?_⟩;exact kk l _ (B1.none fl nl) (fun b o e nb=>by rw[qh nb,qh (qi (B1 b o e nb) fl)];exact B1 b o e nb) (by rw[qd];rfl) (by rw[qh nl,qd])
theorem qcf {a:Ad} (T:Txt K mg a):qy P w K mg base CX0 6 a.f_Q a.fd_Q ["part"] (jJ a):=by
 have G_N:=qdR (P:=P) (w:=w) (base:=base) T;have G_c:=zP (P:=P) (w:=w) (base:=base) T;refine T.d_Q.F.ok sc_check_part (fun vs H Q E h=>?_) (fun cdv A outer s H vs Q E hr h=>?_)
 · obtain⟨x,nm,pk,rfl,en,sk,kk⟩:=h;rfl
 · obtain⟨x,nm,pk,rfl,en,sk,kk⟩:=h;have h_N:Room (1) _:=hr.mono (by decide);have h_c:Room (5) _:=hr.mono (by decide);obtain⟨t_MOST_SIFTED,c_MOST_SIFTED⟩:=T.g_MOST_SIFTED
   refine⟨_,(qc (qG (qX (ql (r:=qkt K) Jf (by rfl) T.n_isinstance qr (qa (pv 0) (qa (qS (v:=.ref a.c_Read) rfl T.g_Read rfl) qb))))
       (qf qjP)
       qu)
     (qc (qG (q8 (qX (ql (r:=qkt K) Jf (by rfl) T.n_isinstance qr (qa (pv 0) (qa (qS (v:=.ref a.c_Within) rfl T.g_Within rfl) qb)))))
       (qf qN)
       qu)
     (qc (qz (i:=1) sc_check_part.nd rfl (Or.inl rfl) (qj G_N h_N rfl T.d_N.m T.d_N.k T.d_N.b .nil qk (qa (qL (pv 0) T.cl_Within T.d_c.mt G_c h_c T.d_c.b .nil qk (qa jX qb)) qb)))
     (qf (qG (qv qdQ (pv 1) (qS (v:=.int 1000) rfl c_MOST_SIFTED ⟨_,rfl⟩) (qB _))
       (qf qN)
       qu))))),?_⟩
   try dsimp only [zi,Cx.nox]
   cases en with
   | any hx=>cases sk
   | at_ hx=>cases sk
   | bt hx _ _=>cases sk
   | rd hx _ =>
     refine⟨_,rfl,_,_,_,_,rfl,T.io_Read.ty hx,qdg T,true,rfl,Ze rfl ?_⟩;exact kk H (Same.refl H)
   | @wi dx lo hi hx _ _ =>
     have hlt:hi - lo < 1000:=sk;refine⟨_,rfl,_,_,_,_,rfl,T.io_Within.ty hx,qbc T,false,rfl,qT rfl ?_⟩;refine⟨_,rfl,_,_,_,_,rfl,T.io_Within.ty hx,J0 T,true,rfl,qT rfl ?_⟩;(try unfold qJ);(try dsimp only);refine⟨_,rfl,x,dx,_,rfl,hx,rfl,fun d0 fd0=>⟨x,_,dx,_,_,_,_,rfl,(Same.new (.dK []) fd0) _ _ hx,T.cl_Within,T.n_Within_low,T.n_Within_high,fun d r H1 fd S1 R c l m=>⟨d,r,rfl,R,Nat.le_trans l (Nat.le_of_ble_eq_true rfl),fun H2 S2=>?_⟩⟩⟩;have S3:=((Same.new (.dK []) fd0).trans S1).trans S2;refine⟨_,rfl,_,_,rfl,rfl,_,rfl,zT (fun g=>absurd g ?_) (fun _=>kk H2 S3)⟩
     have:=qhw c l m hlt
     omega
theorem qa9 {a:Ad} (T:Txt K mg a):qy P w K mg base CX0 7 a.f_ae a.fd_ae ["self","name","part","keeps"] (ZZ a):=by
 have G_d:=zQ (P:=P) (w:=w) (base:=base) T;have G_Q:=qcf (P:=P) (w:=w) (base:=base) T;refine T.d_ae.F.ok qa3 (fun vs H Q E h=>?_) (fun cdv A outer s H vs Q E hr h=>?_)
 · obtain⟨x,dx,p,f,nm,pn,pk,rfl,hx,ok,hp,hlt,kk⟩:=h;rfl
 · obtain⟨x,dx,p,f,nm,pn,pk,rfl,hx,ok,hp,hlt,kk⟩:=h;have h_d:Room (3+1) _:=hr.mono (by decide);have h_Q:Room (6) _:=hr.mono (by decide)
   refine⟨_,(qc (qO (ZR T.ci_Entry G_d (h_d.mono (by decide)) T.d_d.b rfl T.g_Entry (qa (pv 0) (qa (pv 1) qb))))
     (qc (qO (qj G_Q h_Q rfl T.d_Q.m T.d_Q.k T.d_Q.b .nil qk (qa (pv 2) qb)))
     (qc (QU (pv 0) (pv 2) rfl)
     (qf (QU (pv 0) (pv 3) rfl))))),?_⟩
   try dsimp only [zi,Cx.nox]
   refine⟨_,rfl,_,rfl,x,a.c_Sifted,dx,nm,rfl,hx,ok,T.cl_Sifted,T.n_Sifted_name,fun H1 B1 h1=>?_⟩;refine⟨_,rfl,p,pn,pk,rfl,hp.mp fun C d fs=>qla hx B1 p C d fs,hlt,fun H2 S2=>?_⟩;refine⟨_,rfl,_,rfl,x,_,dx,_,rfl,S2 _ _ h1,T.cl_Sifted,T.n_Sifted_part,(Nat.le_of_ble_eq_true rfl),?_⟩;refine⟨_,rfl,_,rfl,x,_,dx,_,rfl,qd,T.cl_Sifted,T.n_Sifted_keeps,(Nat.le_of_ble_eq_true rfl),?_⟩;exact kk _ (fun b o e nb=>by rw[qh nb,qh nb];exact S2 b o (B1 b o e nb)) (by rw[qd];rfl)
theorem JZ {a:Ad} (T:Txt K mg a):qy P w K mg base CX0 2 a.f_af a.fd_af ["self"] (Qa a):=by
 have G_e:=Qp (P:=P) (w:=w) (base:=base) T;have G_g:=zV (P:=P) (w:=w) (base:=base) T;refine T.d_af.F.ok JW (fun vs H Q E h=>?_) (fun cdv A outer s H vs Q E hr h=>?_)
 · obtain⟨x,dx,p,f,nm,pn,pk,rfl,hx,hp,sk,kk⟩:=h;rfl
 · obtain⟨x,dx,p,f,nm,pn,pk,rfl,hx,hp,sk,kk⟩:=h;have h_e:Room (1) _:=hr.mono (by decide);have h_g:Room (1) _:=hr.mono (by decide);refine⟨_,(qf (qq (PE.or (zd (qU (pv 0) rfl) T.cl_Within T.i_Within_places G_e h_e T.d_e.b .nil qk) (zd (qU (pv 0) rfl) T.cl_Read T.i_Read_places G_g h_g T.d_g.b .nil qk)))),?_⟩;(try dsimp only [zi,Cx.nox])
   cases hp with
   | any hx=>cases sk
   | at_ hx=>cases sk
   | bt hx _ _=>cases sk
   | @wi dp lo hi hp _ _=>exact .inl ⟨_,rfl,x,_,dx,_,_,rfl,hx,T.cl_Sifted,T.n_Sifted_part,rfl,p,dp,_,rfl,hp,rfl,_,rfl,fun l fl=>kk l fl⟩
   | @rd dp pl m hp _=>exact .inr ⟨_,rfl,x,_,dx,_,_,rfl,hx,T.cl_Sifted,T.n_Sifted_part,rfl,p,dp,_,rfl,hp,rfl,p,_,dp,_,pl,_,_,rfl,hp,T.cl_Read,T.n_Read_place,fun l fl=>kk l fl⟩
end
theorem qi1 {K:Frag}{mg:Str->Option Value}{a:Ad} (T:Txt K mg a) {te:TE}{σ:L2.St}{H:Hp}{Q:VK}{x:Addr}{pk:Pk} (hte:∀ R:V->Hp->Prop,R (.ref x) H->te σ H R) (en:Pt a H x pk) (k:∀ l,H l=none->Q (.ref l) (upd H l (.lst (pk.pls.map V.str)))) :
   zR a.c_Entry "places" qI [] E0 te qdG σ H Q∨zR a.c_Within "places" qI [] E0 te qdG σ H Q∨zR a.c_At "places" qI [] E0 te qdG σ H Q∨zR a.c_Between "places" (qM K) [] E0 te qdG σ H Q∨zR a.c_Read "places" (qM K) [] E0 te qdG σ H Q:=by
 obtain⟨nm,en⟩:=en
 cases en with
 | @any dx hx=>exact .inl (hte _ ⟨x,dx,_,rfl,hx,rfl,_,rfl,fun l fl=>k l fl⟩)
 | @wi dx lo hi hx _ _=>exact .inr (.inl (hte _ ⟨x,dx,_,rfl,hx,rfl,_,rfl,fun l fl=>k l fl⟩))
 | @at_ dx m hx=>exact .inr (.inr (.inl (hte _ ⟨x,dx,_,rfl,hx,rfl,_,rfl,fun l fl=>k l fl⟩)))
 | @bt dx pl lo hi hx _ _=>exact .inr (.inr (.inr (.inl (hte _ ⟨x,dx,_,rfl,hx,rfl,x,_,dx,_,pl,_,_,rfl,hx,T.cl_Between,T.n_Between_place,fun l fl=>k l fl⟩))))
 | @rd dx pl m hx _=>exact .inr (.inr (.inr (.inr (hte _ ⟨x,dx,_,rfl,hx,rfl,x,_,dx,_,pl,_,_,rfl,hx,T.cl_Read,T.n_Read_place,fun l fl=>k l fl⟩))))
theorem qfq (acc ss:List Str):(Qt acc ss).length≤acc.length+ss.length:=by
 unfold Qt;rw[List.length_append]
 have:=List.length_filter_le (fun u=>decide (u∉acc)) ss
 omega
theorem qeN {ps:List (Addr×Pk)} (h:∀ p∈ps,p.2.pls.length≤1):∀ j,((ps.take j).foldl (fun acc p=>Qt acc p.2.pls) []).length≤j
 | 0=>Nat.le_refl _
 | j+1=>by
   have ih:=qeN h j
   cases e:ps[j]? with
   | none=>rw[List.take_add_one,e];simp only[Option.toList_none,List.append_nil];omega
   | some p =>
     rw[List.take_add_one,e,List.foldl_append]
     have:=qfq ((ps.take j).foldl (fun acc p=>Qt acc p.2.pls) []) p.2.pls
     have:=h p (List.mem_of_getElem? e)
     show (Qt _ p.2.pls).length≤_;omega
section
variable {P:Program}{w:World}{K:Frag}{mg:Str->Option Value}{base:Heap}
theorem qaJ {a:Ad} (T:Txt K mg a):qy P w K mg base CX0 2 a.f_ac a.fd_ac ["self"] (Qk a):=by
 have G_e:=Qp (P:=P) (w:=w) (base:=base) T;have G_g:=zV (P:=P) (w:=w) (base:=base) T;refine T.d_ac.F.ok sc_Joint_places (fun vs H Q E h=>?_) (fun cdv A outer s H vs Q E hr h=>?_)
 · obtain⟨x,dx,l,nm,ps,rfl,hx,hl,h8,en,kk⟩:=h;rfl
 · obtain⟨x,dx,l,nm,ps,rfl,hx,hl,h8,en,kk⟩:=h;have hu:=qD hr;have h_e:Room (1) _:=hr.mono (by decide);have h_g:Room (1) _:=hr.mono (by decide)
   refine⟨_,(qc (qz (i:=1) sc_Joint_places.nd rfl (Or.inr rfl) (qY qb))
     (qc (zr PassesOwn.never rfl (zc (qU (pv 0) rfl)) (qp (i:=2) (sc_Joint_places.nd) rfl (Or.inl rfl))
       (qf (qO (qca PySem.F.plainAttrs_list PySem.F.slot_list_extend PySem.F.type_list_extend qdb (pv 1) (qa (Qb rfl (CompOk.def ["place","told"] [none,some 1]) (zc (PE.or (zd (pv 2) T.cl_Entry T.d_e.mt G_e h_e T.d_e.b .nil qk) (PE.or (zd (pv 2) T.cl_Within T.i_Within_places G_e h_e T.d_e.b .nil qk) (PE.or (zd (pv 2) T.cl_At T.i_At_places G_e h_e T.d_e.b .nil qk) (PE.or (zd (pv 2) T.cl_Between T.d_g.mt G_g h_g T.d_g.b .nil qk) (zd (pv 2) T.cl_Read T.i_Read_places G_g h_g T.d_g.b .nil qk)))))) (fun _ _ _ _ _=>(qp (i:=0) (show List.Nodup (["place","told"]:List Str) by decide +kernel) rfl (Or.inl rfl))) (fun _ _ _ _ _=>(Jm (qv (r:=rIn K true) qc2 (pv 0) (pv 1) (by with_unfolding_all rfl)))) (fun _ _ _ _ _=>(pv 0))) qb)))))
     (qf (qq (pv 1))))),?_⟩
   try dsimp only [zi,Cx.nox]
   refine⟨Nat.zero_le _,fun t ft=>?_⟩;generalize hG:upd H t _=G;obtain⟨S0,e0⟩:=qC hG ft;clear hG;have lps:(ps.map fun p=>V.ref p.1).length=ps.length:=List.length_map _;(try unfold qJ);(try dsimp only);refine⟨_,rfl,x,_,dx,_,_,rfl,S0 _ _ hx,T.cl_Joint,T.n_Joint_kept_parts,rfl,l,rfl,⟨_,SqL.of (S0 _ _ hl)⟩,zI (K:=K) (a:=l) (xs:=ps.map fun p=>V.ref p.1) (D:={ nx:=qhv (qks 1) { nx:=fun _ H'=>Q .non H',rt:=Q },rt:=Q }) (fun j σ H'=>∃ s2:Option V,σ=[some (.ref x),some (.ref t),s2]∧Same H H'∧H' t=some (.lst (((ps.take j).foldl (fun acc p=>Qt acc p.2.pls) []).map V.str))) ⟨none,rfl,S0,e0⟩ (fun j σ H' _ ⟨_,_,S,_⟩=>SqL.of (S _ _ hl)) ?_ ?_⟩
   · rintro j z σ H2 hz ⟨s2,rfl,S2,ht⟩;obtain⟨p,hp,rfl⟩:=Zb hz;obtain⟨ep,l1⟩:=en p (List.mem_of_getElem? hp);have jl:j < ps.length:=(List.getElem?_eq_some_iff.mp hp).1;have fl:=qeN (fun p m=>(en p m).2) j;have sn:(ps.take (j+1)).foldl (fun acc p=>Qt acc p.2.pls) []=Qt ((ps.take j).foldl (fun acc p=>Qt acc p.2.pls) []) p.2.pls:=by rw[List.take_add_one,hp,List.foldl_append];rfl
     rw[sn];generalize (ps.take j).foldl (fun acc p=>Qt acc p.2.pls) []=acc at ht fl;refine⟨_,rfl,.inl ⟨rfl,_,SqL.of ht⟩,?_⟩;refine qi1 T (fun R h=>⟨_,rfl,h⟩) (ep.same S2) fun pq fpq=>?_;generalize hG:upd H2 pq _=H3;obtain⟨S3,ep3⟩:=qC hG fpq;clear hG;have ht3:=S3 _ _ ht;have npt:pq≠t:=fun z=>by rw[z,ht]at fpq;cases fpq
     refine⟨pq,rfl,⟨_,SqL.of ep3⟩,fun D fD=>?_⟩;refine zH (K:=K) (a:=pq) (xs:=p.2.pls.map V.str) (D:=D) (fun i σ H'=>∃ (c0:Option V),σ=[c0,some (.ref t)]∧Same H3 H'∧H' D=some (.lst (((p.2.pls.take i).filter fun u=>decide (u∉acc)).map V.str))) ⟨none,rfl,Same.new _ fD,qd⟩ (fun i σ H' _ ⟨_,_,S,_⟩=>SqL.of (S _ _ ep3)) ?_ ?_
     · rintro i z σ H4 hz ⟨c0,rfl,S4,hD⟩;obtain⟨u,hu,rfl⟩:=Zb hz
       have es:(p.2.pls.take (i+1)).filter (fun u=>decide (u∉acc))=(p.2.pls.take i).filter (fun u=>decide (u∉acc))++(if u∉acc then [u] else []):=by
         rw[List.take_add_one,hu,List.filter_append];congr 1;show List.filter _ [u]=_;rw[List.filter_cons];by_cases z:u∈acc
         · rw[if_neg (by simp[z]),if_neg (fun w=>w z)];rfl
         · rw[if_pos (by simp[z]),if_pos z];rfl
       have lf:=List.length_filter_le (fun u=>decide (u∉acc)) (p.2.pls.take i);rw[List.length_take]at lf;refine⟨_,rfl,_,rfl,t,_,rfl,.inl (SqL.of (S4 _ _ ht3)),rfl,qgX _,_,rfl,?_⟩;rw[qih];by_cases z:u∈acc
       · refine qT (by simp[z]) ⟨_,rfl,S4,?_⟩;rw[es,if_neg (fun w=>w z),List.append_nil];exact hD
       · refine Ze (by simp[z]) ⟨_,rfl,_,hD,qE (by rw[List.length_map];omega),_,rfl,S4.put fD _,?_⟩;rw[qd,es,if_pos z,List.map_append];rfl
     · rintro σ H4 ⟨c0,rfl,S4,hD⟩;rw[List.length_map,List.take_length]at hD;have lf:=List.length_filter_le (fun u=>decide (u∉acc)) p.2.pls;refine⟨t,D,_,_,rfl,rfl,S4 _ _ ht3,hD,Nat.le_of_lt (qE (by rw[List.length_map,List.length_map];omega)),?_⟩;refine⟨_,rfl,((S2.trans S3).trans S4).put ft _,?_⟩;rw[qd,← List.map_append];rfl
   · rintro σ H2 ⟨s2,rfl,S2,ht⟩;rw[lps,List.take_length]at ht;exact⟨_,rfl,kk t H2 ft S2 ht⟩
end
theorem ZT {sc sc':Scope}{n:Nat} (h:∀ y∈sc'.names,y.2=NameKind.free->sc.names.lookup y.1=some .cell):∀ y∈sc'.names,y.2=NameKind.free->∃ c,(cellsFrom n sc.names []).lookup y.1=some c:=fun y m e=>qcx (h y m e)
theorem qeE {cells:List (Str×Addr)}{y:Str}:∀ (names:List (Str×NameKind)) (acc:List (Str×Addr)),(zU cells names acc).lookup y≠none->(y,NameKind.free)∈names∨acc.lookup y≠none
 | [],acc,h=>.inr h
 | (n,k)::r,acc,h=>by
   unfold zU at h;rcases qeE r _ h with z|z
   · exact .inl (List.mem_cons_of_mem _ z)
   · by_cases e:(k == NameKind.free)=true
     · rw[if_pos e,List.lookup_cons]at z;by_cases e2:(y == n)=true
       · left;rw[eq_of_beq e2]
         have:k=NameKind.free:=by cases k<;>first|rfl|cases e
         rw[this];exact List.mem_cons_self
       · rw[show (y == n)=false from Bool.eq_false_iff.mpr e2]at z;exact .inr z
     · rw[if_neg e]at z;exact .inr z
theorem qgz {α:Type}{y:Str}:∀ {l:List (Str×α)},y∈l.map (·.1)->(l.lookup y).isSome=true
 | [],h=>nomatch h
 | x::r,h=>by
   rw[List.lookup_cons];split
   · rfl
   · rename_i e
     rcases List.mem_cons.mp h with z|z
     · rw[z,beq_self_eq_true]at e;cases e
     · exact qgz z
theorem qd4 {X:Cx}{params:Arguments}{body:Expr}{scope sc0:Scope}{N ps:List Str}{σ:L2.St}{H' H'':Hp}{f c:Addr}{o:Obj}{fv:List (Str×V)} (L:qlE params body scope ps (fv.map (·.1))) (lo:qfr X params body scope c o) (ci:jy N sc0 X.env.cells σ H' H'')
   (hf:H' f=some (.ext (qcz f o))) (hc:H' c=some (.ext (ZU c (X.env.qual++"<lambda>")))) (hfree:∀ y∈scope.names,y.2=.free->∃ c,X.env.cells.lookup y.1=some c)
   (hv:∀ y v,(y,v)∈fv->sc0.names.lookup y=some .cell∧∃ i:Nat,N[i]?=some y∧σ[i]?=some (some v)):Clo H'' f (X.env.qual++"<lambda>") params body scope fv :=
 qly (X:=X) (fv:=fv) lo ci hf hc hfree (fun y v h=>by
   have m:=PySem.mem_of_lookup h
   exact⟨PySem.mem_of_lookup (L.fre y (List.mem_map.mpr ⟨_,m,rfl⟩)),hv y v m⟩) fun y h=>qgz ((qeE _ _ h).elim (fun z=>L.free _ z rfl) fun z=>absurd rfl z)
abbrev qh5:Expr:=match zK zG with
 | .Return (some l) _::_=>l
 | _=>.Name "" ⟨0,0,0,0⟩
abbrev qh8:Arguments:=match qh5 with
 | .Lambda p _ _ _=>p
 | _=>⟨[],[],none,[],[],none,[]⟩
abbrev qib:Expr:=match qh5 with
 | .Lambda _ b _ _=>b
 | x=>x
abbrev qgB:Scope:=match qh5 with
 | .Lambda _ _ s _=>s
 | _=>qg zG
abbrev ql7:Pos:=match qh5 with
 | .Lambda _ _ _ p=>p
 | _=>⟨0,0,0,0⟩
abbrev qka:Str:="on_days"++".<locals>."++"<lambda>"
theorem qle:qlE qh8 qib qgB ["moment"] ["low","high"]:=⟨rfl,rfl,rfl,by decide +kernel,by decide +kernel,by decide +kernel,by decide +kernel,fun qual cl pm cdv ct us hl=>by
 obtain _|⟨u,_|⟨v,t⟩⟩:=us
 · cases hl
 · rfl
 · simp at hl,by decide +kernel⟩
theorem ql2 {X:Cx}{σ:L2.St}{H' H'':Hp}{f c:Addr}{o:Obj}{n:Nat}{v0 v1:V} (lob:qfr X qh8 qib qgB c o) (ci:jy ["low","high"] (qg zG) (cellsFrom n (qg zG).names []) σ H' H'') (h0:σ[0]?=some (some v0)) (h1:σ[1]?=some (some v1))
   (he:X.env={ X.env with qual:="on_days"++".<locals>.",cells:=cellsFrom n (qg zG).names [] }) (hf:H' f=some (.ext (qcz f o))) (hc:H' c=some (.ext (ZU c (X.env.qual++"<lambda>")))):Clo H'' f qka qh8 qib qgB [("low",v0),("high",v1)]:=by
 have hq:X.env.qual="on_days"++".<locals>.":=by rw[he]
 have hcl:X.env.cells=cellsFrom n (qg zG).names []:=by rw[he]
 have fr:∀ y∈(qgB).names,y.2=NameKind.free->∃ c,X.env.cells.lookup y.1=some c:=by rw[hcl];exact ZT (sc:=qg zG) (by decide +kernel)
 have c0:=qd4 (X:=X) (fv:=[("low",v0),("high",v1)]) qle lob (by rw[hcl];exact ci) hf hc fr (fun y v m=>by
   simp only[List.mem_cons,Prod.mk.injEq,List.not_mem_nil,or_false]at m;rcases m with ⟨rfl,rfl⟩|⟨rfl,rfl⟩
   · exact⟨by decide +kernel,0,rfl,h0⟩
   · exact⟨by decide +kernel,1,rfl,h1⟩)
 rw[hq]at c0;exact c0
abbrev qh7:Expr:=match zK zo with
 | .If _ [.Return (some l) _] _ _::_=>l
 | _=>.Name "" ⟨0,0,0,0⟩
abbrev qia:Arguments:=match qh7 with
 | .Lambda p _ _ _=>p
 | _=>⟨[],[],none,[],[],none,[]⟩
abbrev qid:Expr:=match qh7 with
 | .Lambda _ b _ _=>b
 | x=>x
abbrev qgD:Scope:=match qh7 with
 | .Lambda _ _ s _=>s
 | _=>qg zo
abbrev ql9:Pos:=match qh7 with
 | .Lambda _ _ _ p=>p
 | _=>⟨0,0,0,0⟩
abbrev qkc:Str:="daily"++".<locals>."++"<lambda>"
theorem qlg:qlE qia qid qgD ["moment"] ["low","high"]:=⟨rfl,rfl,rfl,by decide +kernel,by decide +kernel,by decide +kernel,by decide +kernel,fun qual cl pm cdv ct us hl=>by
 obtain _|⟨u,_|⟨v,t⟩⟩:=us
 · cases hl
 · rfl
 · simp at hl,by decide +kernel⟩
theorem ql5 {X:Cx}{σ:L2.St}{H' H'':Hp}{f c:Addr}{o:Obj}{n:Nat}{v0 v1:V} (lob:qfr X qia qid qgD c o) (ci:jy ["low","high"] (qg zo) (cellsFrom n (qg zo).names []) σ H' H'') (h0:σ[0]?=some (some v0)) (h1:σ[1]?=some (some v1))
   (he:X.env={ X.env with qual:="daily"++".<locals>.",cells:=cellsFrom n (qg zo).names [] }) (hf:H' f=some (.ext (qcz f o))) (hc:H' c=some (.ext (ZU c (X.env.qual++"<lambda>")))):Clo H'' f qkc qia qid qgD [("low",v0),("high",v1)]:=by
 have hq:X.env.qual="daily"++".<locals>.":=by rw[he]
 have hcl:X.env.cells=cellsFrom n (qg zo).names []:=by rw[he]
 have fr:∀ y∈(qgD).names,y.2=NameKind.free->∃ c,X.env.cells.lookup y.1=some c:=by rw[hcl];exact ZT (sc:=qg zo) (by decide +kernel)
 have c0:=qd4 (X:=X) (fv:=[("low",v0),("high",v1)]) qlg lob (by rw[hcl];exact ci) hf hc fr (fun y v m=>by
   simp only[List.mem_cons,Prod.mk.injEq,List.not_mem_nil,or_false]at m;rcases m with ⟨rfl,rfl⟩|⟨rfl,rfl⟩
   · exact⟨by decide +kernel,0,rfl,h0⟩
   · exact⟨by decide +kernel,1,rfl,h1⟩)
 rw[hq]at c0;exact c0
abbrev qh6:Expr:=match zK zo with
 | _::.Return (some l) _::_=>l
 | _=>.Name "" ⟨0,0,0,0⟩
abbrev qh9:Arguments:=match qh6 with
 | .Lambda p _ _ _=>p
 | _=>⟨[],[],none,[],[],none,[]⟩
abbrev qic:Expr:=match qh6 with
 | .Lambda _ b _ _=>b
 | x=>x
abbrev qgC:Scope:=match qh6 with
 | .Lambda _ _ s _=>s
 | _=>qg zo
abbrev ql8:Pos:=match qh6 with
 | .Lambda _ _ _ p=>p
 | _=>⟨0,0,0,0⟩
abbrev qkb:Str:="daily"++".<locals>."++"<lambda>"
theorem qlf:qlE qh9 qic qgC ["moment"] ["low","high"]:=⟨rfl,rfl,rfl,by decide +kernel,by decide +kernel,by decide +kernel,by decide +kernel,fun qual cl pm cdv ct us hl=>by
 obtain _|⟨u,_|⟨v,t⟩⟩:=us
 · cases hl
 · rfl
 · simp at hl,by decide +kernel⟩
theorem ql4 {X:Cx}{σ:L2.St}{H' H'':Hp}{f c:Addr}{o:Obj}{n:Nat}{v0 v1:V} (lob:qfr X qh9 qic qgC c o) (ci:jy ["low","high"] (qg zo) (cellsFrom n (qg zo).names []) σ H' H'') (h0:σ[0]?=some (some v0)) (h1:σ[1]?=some (some v1))
   (he:X.env={ X.env with qual:="daily"++".<locals>.",cells:=cellsFrom n (qg zo).names [] }) (hf:H' f=some (.ext (qcz f o))) (hc:H' c=some (.ext (ZU c (X.env.qual++"<lambda>")))):Clo H'' f qkb qh9 qic qgC [("low",v0),("high",v1)]:=by
 have hq:X.env.qual="daily"++".<locals>.":=by rw[he]
 have hcl:X.env.cells=cellsFrom n (qg zo).names []:=by rw[he]
 have fr:∀ y∈(qgC).names,y.2=NameKind.free->∃ c,X.env.cells.lookup y.1=some c:=by rw[hcl];exact ZT (sc:=qg zo) (by decide +kernel)
 have c0:=qd4 (X:=X) (fv:=[("low",v0),("high",v1)]) qlf lob (by rw[hcl];exact ci) hf hc fr (fun y v m=>by
   simp only[List.mem_cons,Prod.mk.injEq,List.not_mem_nil,or_false]at m;rcases m with ⟨rfl,rfl⟩|⟨rfl,rfl⟩
   · exact⟨by decide +kernel,0,rfl,h0⟩
   · exact⟨by decide +kernel,1,rfl,h1⟩)
 rw[hq]at c0;exact c0
def Qi:List (Pos×Str):=[(ql7,qka)]
theorem qfg:∀ x∈Qi,x.2="on_days"++".<locals>."++"<lambda>":=fun x hx=>by
 unfold Qi at hx;simp only[List.mem_cons,List.not_mem_nil,or_false]at hx;subst hx;rfl
def Zc:List (Pos×Str):=[(ql9,qkc),(ql8,qkb)]
theorem qeG:∀ x∈Zc,x.2="daily"++".<locals>."++"<lambda>":=fun x hx=>by
 unfold Zc at hx;simp only[List.mem_cons,List.not_mem_nil,or_false]at hx;rcases hx with rfl|rfl<;>rfl
structure Tbs (a:Ad) (H:Hp):Prop where
 t0:TbA H a.t_on_days Qi
 t1:TbA H a.t_daily Zc
theorem Tbs.same {a:Ad}{H H':Hp} (h:Tbs a H) (s:Same H H'):Tbs a H':=⟨h.t0.same s,h.t1.same s⟩
def NT (H H':Hp):Prop:=∀ c o,H c=some o->(∀ ps,o≠.tbl ps)->H' c=some o
theorem NT.refl (H:Hp):NT H H:=fun _ _ e _=>e
theorem NT.trans {H H1 H2:Hp} (a:NT H H1) (b:NT H1 H2):NT H H2:=fun c o e n=>b c o (a c o e n) n
theorem Same.nt {H H':Hp} (s:Same H H'):NT H H':=fun c o e _=>s c o e
theorem qj4 {H H':Hp}{T:Addr}{ps:Array Value} (h:H T=some (.tbl ps)) (b:But T H H'):NT H H':=fun c o e n=>b c o e fun z=>by rw[z,h]at e;exact n ps (Option.some.inj e).symm
theorem Tbs.at0 {K:Frag}{mg:Str->Option Value}{a:Ad} (T:Txt K mg a) {H H':Hp} (h:Tbs a H) (b:But a.t_on_days H H') (n:TbA H' a.t_on_days Qi):Tbs a H':=by
 obtain⟨ps,hp⟩:=h.t0.at_;have nd:=T.nt;simp only[List.nodup_cons,List.mem_cons,List.not_mem_nil,or_false,not_or,List.nodup_nil,and_true,not_false_eq_true]at nd;exact⟨n,h.t1.but hp b (by simp[nd,Ne.symm])⟩
theorem Tbs.at1 {K:Frag}{mg:Str->Option Value}{a:Ad} (T:Txt K mg a) {H H':Hp} (h:Tbs a H) (b:But a.t_daily H H') (n:TbA H' a.t_daily Zc):Tbs a H':=by
 obtain⟨ps,hp⟩:=h.t1.at_;have nd:=T.nt;simp only[List.nodup_cons,List.mem_cons,List.not_mem_nil,or_false,not_or,List.nodup_nil,and_true,not_false_eq_true]at nd;exact⟨h.t0.but hp b (by simp[nd,Ne.symm]),n⟩
def prD (lo hi:Int):Int->Bool:=fun n=>decide (lo≤n / 1440) && decide (n / 1440≤hi)
def prM (lo hi:Int):Int->Bool:=fun n=>decide (lo≤n % 1440) && decide (n % 1440≤hi)
def prO (lo hi:Int):Int->Bool:=fun n=>decide (lo≤n % 1440) || decide (n % 1440≤hi)
inductive Sf0 (H:Hp) (f:Addr):(Int->Bool)->Prop
 | od {lo hi:Int}:Clo H f qka qh8 qib qgB [("low",.int lo),("high",.int hi)]->Sf0 H f (prD lo hi)
 | d1 {lo hi:Int}:Clo H f qkc qia qid qgD [("low",.int lo),("high",.int hi)]->Sf0 H f (prM lo hi)
 | d2 {lo hi:Int}:Clo H f qkb qh9 qic qgC [("low",.int lo),("high",.int hi)]->Sf0 H f (prO lo hi)
theorem Sf0.mp {H H':Hp}{f:Addr}{pr:Int->Bool} (h:Sf0 H f pr) (k:∀ b φ,H b=some (.ext φ)->H' b=some (.ext φ)):Sf0 H' f pr:=by
 cases h with
 | od c=>exact .od (c.mp k)
 | d1 c=>exact .d1 (c.mp k)
 | d2 c=>exact .d2 (c.mp k)
theorem NT.ext {H H':Hp} (n:NT H H'):∀ b φ,H b=some (.ext φ)->H' b=some (.ext φ):=fun b φ e=>n b _ e (by intro ps z;cases z)
theorem Sf0.obj {H:Hp}{f:Addr}{pr:Int->Bool} (h:Sf0 H f pr):∃ o fd,H f=some (.ext (qcz f o))∧o.data=.func fd:=by
 cases h with
 | od c=>exact c.obj
 | d1 c=>exact c.obj
 | d2 c=>exact c.obj
def sp0 (f:Addr):Sp:=fun vs H Q _=>∃ (n:Int) (pr:Int->Bool),vs=[.int n]∧Sf0 H f pr∧Q (.bl (pr n)) H
theorem qhR {a:Ad}{P:Program}{w:World}{K:Frag}{mg:Str->Option Value}{base:Heap} (T:Txt K mg a) {f:Addr}:qmI P w K mg base 2 f (sp0 f):=by
 intro A outer s H us vs Q hr e0 r h;obtain⟨n,pr,rfl,sf,kk⟩:=h;obtain⟨t_DAY,c_DAY⟩:=T.g_DAY
 cases sf with
 | @od lo hi clo =>
   refine qd3 (k:=1) (fv:=[("low",.int lo),("high",.int hi)]) qle hr e0 clo r rfl fun cl c _ hr' out=>?_;refine⟨_,(Qg zS zS (pv 1) (qx qaE (pv 0) (qS (v:=.int 1440) rfl c_DAY ⟨_,rfl⟩)) (pv 2)),?_⟩;refine⟨_,rfl,_,rfl,_,_,rfl,rfl,⟨by decide,by decide⟩,_,_,rfl,rfl,_,rfl,qfi (fun g=>?_) (fun g=>?_)⟩
   · refine⟨_,rfl,_,_,rfl,rfl,?_⟩;(try dsimp only);rw[QX];have e:prD lo hi n=decide (n / 1440≤hi):=by unfold prD;rw[g,Bool.true_and]
     rw[e]at kk;exact kk
   · try dsimp only
     rw[QX];have e:prD lo hi n=false:=by unfold prD;rw[g,Bool.false_and]
     rw[e]at kk;exact kk
 | @d1 lo hi clo =>
   refine qd3 (k:=1) (fv:=[("low",.int lo),("high",.int hi)]) qlg hr e0 clo r rfl fun cl c _ hr' out=>?_;refine⟨_,(Qg zS zS (pv 1) (qx QB (pv 0) (qS (v:=.int 1440) rfl c_DAY ⟨_,rfl⟩)) (pv 2)),?_⟩;refine⟨_,rfl,_,rfl,_,_,rfl,rfl,(by decide),_,_,rfl,rfl,_,rfl,qfi (fun g=>?_) (fun g=>?_)⟩
   · refine⟨_,rfl,_,_,rfl,rfl,?_⟩;(try dsimp only);rw[QX];have e:prM lo hi n=decide (n % 1440≤hi):=by unfold prM;rw[g,Bool.true_and]
     rw[e]at kk;exact kk
   · try dsimp only
     rw[QX];have e:prM lo hi n=false:=by unfold prM;rw[g,Bool.false_and]
     rw[e]at kk;exact kk
 | @d2 lo hi clo =>
   refine qd3 (k:=1) (fv:=[("low",.int lo),("high",.int hi)]) qlf hr e0 clo r rfl fun cl c _ hr' out=>?_;refine⟨_,(ql0 (Qc qjW (qx QB (pv 0) (qS (v:=.int 1440) rfl c_DAY ⟨_,rfl⟩)) (pv 1) (qB _)) (JN (Qc zS (qx QB (pv 0) (qS (v:=.int 1440) rfl c_DAY ⟨_,rfl⟩)) (pv 2) (qB _)))),?_⟩;refine⟨_,rfl,_,_,rfl,rfl,(by decide),_,rfl,_,_,rfl,rfl,_,rfl,qfi (fun g=>?_) (fun g=>?_)⟩
   · try dsimp only
     rw[QX];have e:prO lo hi n=true:=by unfold prO;rw[show decide (lo≤n % 1440)=true from g,Bool.true_or]
     rw[e]at kk;exact kk
   · refine⟨_,rfl,_,_,rfl,rfl,(by decide),_,rfl,_,_,rfl,rfl,?_⟩;(try dsimp only);rw[QX];have e:prO lo hi n=decide (n % 1440≤hi):=by unfold prO;rw[show decide (lo≤n % 1440)=false from g,Bool.false_or]
     rw[e]at kk;exact kk
def prY (lo hi:Int):Int->Bool:=if lo≤hi then prM lo hi else prO lo hi
inductive Jr (a:Ad) (vs:List V) (H:Hp) (Q:VK):Prop
 | mk (lo hi:Int) (h1:vs=[.int lo,.int hi]) (h2:Tbs a H) (h3:∀ (f:Addr) (H':Hp),H f=none->NT H H'->Tbs a H'->Sf0 H' f (prD lo hi)->Q (.ref f) H'):Jr a vs H Q
def Ji (a:Ad):Sp:=fun vs H Q _=>Jr a vs H Q
inductive qbg (a:Ad) (vs:List V) (H:Hp) (Q:VK):Prop
 | mk (lo hi:Int) (h1:vs=[.int lo,.int hi]) (h2:Tbs a H) (h3:∀ (f:Addr) (H':Hp),H f=none->NT H H'->Tbs a H'->Sf0 H' f (prY lo hi)->Q (.ref f) H'):qbg a vs H Q
def qbX (a:Ad):Sp:=fun vs H Q _=>qbg a vs H Q
section
variable {P:Program}{w:World}{K:Frag}{mg:Str->Option Value}{base:Heap}
theorem qe9 {a:Ad} (T:Txt K mg a) (hB:qeX mg base):qy P w K mg base CX0 1 a.f_7 a.fd_7 ["low","high"] (Ji a):=by
 refine T.d_7.F.okK T.cd_on_days qe4 (fun vs H Q E h=>?_) (fun cdv A outer s H vs Q E hcd hr h=>?_)
 · obtain⟨lo,hi,rfl,tb,kk⟩:=h;rfl
 · obtain⟨lo,hi,rfl,tb,kk⟩:=h;obtain⟨t_DAY,c_DAY⟩:=T.g_DAY;refine⟨_,(qb8 (qdN (qdP (T:=a.t_on_days) (l:=Qi) rfl (ZT (sc:=qg zG) (by decide)) hcd T.hd_on_days hB (by exact List.mem_cons_self) (fun x hx _ _=>qfg x hx)))),?_⟩;obtain⟨ps,hps⟩:=tb.t0.at_;exact⟨tb.t0,fun f c o H' f0 nf B tb' hf hc lob H'' ci=>kk f H'' f0 ((qj4 hps B).trans (Same.nt ci.s)) ((tb.at0 T B tb').same ci.s) (.od (ql2 lob ci rfl rfl rfl hf hc))⟩
theorem qhS {a:Ad} (T:Txt K mg a) (hB:qeX mg base):qy P w K mg base CX0 1 a.f_8 a.fd_8 ["low","high"] (qbX a):=by
 refine T.d_8.F.okK T.cd_daily qhA (fun vs H Q E h=>?_) (fun cdv A outer s H vs Q E hcd hr h=>?_)
 · obtain⟨lo,hi,rfl,tb,kk⟩:=h;rfl
 · obtain⟨lo,hi,rfl,tb,kk⟩:=h;obtain⟨t_DAY,c_DAY⟩:=T.g_DAY
   refine⟨_,(qf6 (qkX (qv zS (pv 0) (pv 1) (qB _))
       (qb8 (qdN (qdP (T:=a.t_daily) (l:=Zc) rfl (ZT (sc:=qg zo) (by decide)) hcd T.hd_daily hB (by exact List.mem_cons_self) (fun x hx _ _=>qeG x hx))))
       qhE)
     (qb8 (qdN (qdP (T:=a.t_daily) (l:=Zc) rfl (ZT (sc:=qg zo) (by decide)) hcd T.hd_daily hB (by exact(List.mem_cons_of_mem _ List.mem_cons_self)) (fun x hx _ _=>qeG x hx))))),?_⟩
   obtain⟨ps,hps⟩:=tb.t1.at_;refine⟨_,rfl,_,rfl,_,_,rfl,rfl,_,rfl,zT (fun g=>?_) (fun g=>?_)⟩
   · have e:prY lo hi=prM lo hi:=if_pos g;rw[e]at kk;exact⟨tb.t1,fun f c o H' f0 nf B tb' hf hc lob H'' ci=>kk f H'' f0 ((qj4 hps B).trans (Same.nt ci.s)) ((tb.at1 T B tb').same ci.s) (.d1 (ql5 lob ci rfl rfl rfl hf hc))⟩
   · have e:prY lo hi=prO lo hi:=if_neg g;rw[e]at kk;exact⟨tb.t1,fun f c o H' f0 nf B tb' hf hc lob H'' ci=>kk f H'' f0 ((qj4 hps B).trans (Same.nt ci.s)) ((tb.at1 T B tb').same ci.s) (.d2 (ql4 lob ci rfl rfl rfl hf hc))⟩
end
theorem PenAt.sm {H H':Hp}{p:Addr} (h:PenAt H p) (s:Same H H'):PenAt H' p:=by
 obtain⟨c,x,y,c0,e⟩:=h;exact⟨c,x,y,c0,s _ _ e⟩
theorem qgf:∀ {rows:List (Int×Int)},(∀ r∈rows,0≤r.1∧r.1≤1000000000∧-2880≤r.2∧r.2≤2880)->∀ p∈pcs rows,(0≤p.1∧p.1≤1000000000)∧(-1≤p.2.1∧p.2.1≤1000000000)∧-2880≤p.2.2∧p.2.2≤2880
 | [],_,p,m=>nomatch m
 | r::rs,h,p,m=>by
   rcases List.mem_cons.mp m with rfl|m
   · have h0:=h r List.mem_cons_self;refine⟨⟨h0.1,h0.2.1⟩,?_,h0.2.2⟩
     cases rs with
     | nil=>exact(show (-1:Int)≤1000000000∧(1000000000:Int)≤1000000000 by decide)
     | cons r2 rs =>
       have h1:=h r2 (List.mem_cons_of_mem _ List.mem_cons_self);show -1≤r2.1 - 1∧r2.1 - 1≤_;omega
   · exact qgf (fun r m=>h r (List.mem_cons_of_mem _ m)) p m
theorem Rs.neP {H:Hp}{p q:Addr}{rows:List (Int×Int)} (hp:PenAt H p) (h:Rs H q rows):q≠p:=by
 obtain⟨zs,hq,tz⟩:=h;obtain⟨c,x,y,_,e⟩:=hp;refine qW hq e (fun z=>?_);injection z with z;subst z;have l:=tz.1
 cases rows with
 | nil=>cases l
 | cons r rs =>
   obtain⟨t,e1,_⟩:=tz.2 0 _ r rfl rfl;cases e1
theorem Rs.bp {H H':Hp}{p q:Addr}{rows:List (Int×Int)} (h:Rs H q rows) (hp:PenAt H p) (b:But p H H'):Rs H' q rows:=by
 have n:=h.neP hp;obtain⟨zs,hq,tz⟩:=h;exact⟨zs,b _ _ hq n,TupL.pen tz hp b⟩
abbrev Pls:=List (Str×Addr×List (Int×Int))
abbrev tv (ts:Pls):List (Str×V):=ts.map fun t=>(t.1,V.ref t.2.1)
abbrev fsL (td ed bl:Addr):List (Str×V):=[("tables",.ref td),("entries",.ref ed),("bound",.ref bl)]
def skv (ps:List (Str×V)):List (Key×V):=ps.map fun p=>((.inr p.1:Key),p.2)
theorem qai:∀ {ps:List (Str×V)},(ps.map (·.1)).Nodup->∀ e∈ps,qa1 (skv ps) (.inr e.1)=some e.2
 | [],_,x,m=>nomatch m
 | y::ps,nd,x,m=>by
   rw[List.map_cons,List.nodup_cons]at nd;unfold skv qa1;rw[List.map_cons,List.find?_cons];rcases List.mem_cons.mp m with rfl|m
   · simp
   · have n:¬ ((.inr y.1:Key)=.inr x.1):=fun e=>by
       injection e with e;exact nd.1 (e▸List.mem_map_of_mem m)
     rw[show decide (((.inr y.1:Key),y.2).1=.inr x.1)=false by simpa using n];exact qai nd.2 x m
theorem qeh:∀ {ps:List (Str×V)}{pl:Str},pl∉ps.map (·.1)->qa1 (skv ps) (.inr pl)=none
 | [],_,_=>rfl
 | y::ps,pl,h=>by
   rw[List.map_cons,List.mem_cons,not_or]at h;unfold skv qa1;rw[List.map_cons,List.find?_cons];have n:¬ ((.inr y.1:Key)=.inr pl):=fun e=>by injection e with e;exact h.1 e.symm
   rw[show decide (((.inr y.1:Key),y.2).1=.inr pl)=false by simpa using n];exact qeh h.2
theorem qfN {ps:List (Str×V)}{pl:Str} (no:pl∉ps.map (·.1)) (v:V):JM (skv ps) (.inr pl) v=skv (ps++[(pl,v)]):=by
 rw[qb7 _ (qeh no)];unfold skv;rw[List.map_append];rfl
theorem qgt {ps:List (Str×V)}{pl:Str}{v:V} (nd:(ps.map (·.1)).Nodup) (no:pl∉ps.map (·.1)):((ps++[(pl,v)]).map (·.1)).Nodup:=by
 rw[List.map_append];exact List.nodup_append.mpr ⟨nd,by simp,fun y m z mz e'=>no (by rw[List.mem_singleton.mp mz]at e';have e2:y=pl:=e';rw[← e2];exact m)⟩
structure Tq (a:Ad) (H:Hp) (td:Addr) (ts:Pls):Prop where
 ht:H td=some (.dK (skv (tv ts)))
 tt:∀ t∈ts,Tb a H t.2.1 t.2.2
 tg:∀ t∈ts,Good t.2.2
 nd:(ts.map (·.1)).Nodup
theorem QF (ts:Pls):(tv ts).map (·.1)=ts.map (·.1):=by
 rw[List.map_map];rfl
theorem Tb.sm {a:Ad}{H H':Hp}{x:Addr}{rows:List (Int×Int)} (h:Tb a H x rows) (s:Same H H'):Tb a H' x rows:=by
 obtain⟨k,dx,zs,h1,h2,h3⟩:=h;exact⟨k,dx,zs,s _ _ h1,s _ _ h2,h3.same s⟩
theorem Tq.sm {a:Ad}{H H':Hp}{td:Addr}{ts:Pls} (h:Tq a H td ts) (s:Same H H'):Tq a H' td ts:=⟨s _ _ h.ht,fun t m=>(h.tt t m).sm s,h.tg,h.nd⟩
theorem Tq.get {a:Ad}{H:Hp}{td:Addr}{ts:Pls} (h:Tq a H td ts) {t:Str×Addr×List (Int×Int)} (m:t∈ts):qdB H td (.str t.1) (some (.ref t.2.1)) :=
 .inl ⟨_,.inr t.1,.inl h.ht,rfl,(qai (by rw[QF];exact h.nd) (t.1,V.ref t.2.1) (List.mem_map.mpr ⟨t,m,rfl⟩)).symm⟩
def Sh (ts:Pls) (pl:Str) (lo hi n:Int):Prop:=∃ t∈ts,t.1=pl∧Mem (shw t.2.2 lo hi) n
theorem qi6 {ts:Pls} (nd:(ts.map (·.1)).Nodup) {t u:Str×Addr×List (Int×Int)} (h1:t∈ts) (h2:u∈ts) (e:t.1=u.1):t=u:=by
 induction ts with
 | nil=>cases h1
 | cons v ts ih =>
   have nd':=List.nodup_cons.mp nd;rcases List.mem_cons.mp h1 with rfl|m1
   · rcases List.mem_cons.mp h2 with rfl|m2
     · rfl
     · exact absurd (by show t.1∈_;rw[e];exact List.mem_map.mpr ⟨u,m2,rfl⟩) nd'.1
   · rcases List.mem_cons.mp h2 with rfl|m2
     · exact absurd (by show u.1∈_;rw[← e];exact List.mem_map.mpr ⟨t,m1,rfl⟩) nd'.1
     · exact ih nd'.2 m1 m2
theorem qjF {ts:Pls} (nd:(ts.map (·.1)).Nodup) {t:Str×Addr×List (Int×Int)} (m:t∈ts) {lo hi n:Int}:Mem (shw t.2.2 lo hi) n↔Sh ts t.1 lo hi n :=
 ⟨fun h=>⟨t,m,rfl,h⟩,fun⟨u,mu,e,h⟩=>by rw[← qi6 nd mu m e];exact h⟩
abbrev Gv (H:Hp) (Q:VK) (M:Int->Prop) (k:Nat):Prop:=∀ (d:Addr) (r:List (Int×Int)) (H':Hp),H d=none->Same H H'->Rs H' d r->zj r->r.length≤k->(∀ n,Mem r n↔M n)->Q (.ref d) H'
inductive QA (a:Ad) (vs:List V) (H:Hp) (Q:VK):Prop
 | mk (x C dx td:Addr) (nm pl:Str) (lo hi:Int) (ts:Pls) (h1:vs=[.ref x,.ref td]) (h2:(C=a.c_Between∨C=a.c_Read)) (h3:H x=some (.ins C dx (fsB nm pl lo hi))) (h4:Tq a H td ts) (h5:pl∈ts.map (·.1)) (h6:qkv lo) (h7:qkv hi) (h8:Gv H Q (Sh ts pl lo hi) 21):QA a vs H Q
def qK (a:Ad):Sp:=fun vs H Q _=>QA a vs H Q
def MP (ts:Pls):Pk->Int->Prop
 | .any,n=>0≤n∧n≤1000000000
 | .wi lo hi,n=>lo≤n∧n≤hi
 | .at_ m,n=>m≤n∧n≤m
 | .bt pl lo hi,n=>Sh ts pl lo hi n
 | .rd pl m,n=>Sh ts pl m m n
theorem mem1 {lo hi n:Int}:Mem [(lo,hi)] n↔lo≤n∧n≤hi:=by
 constructor
 · rintro⟨w,m,h1,h2⟩;rw[List.mem_singleton.mp m]at h1 h2;exact⟨h1,h2⟩
 · rintro⟨h1,h2⟩;exact⟨_,List.mem_singleton.mpr rfl,h1,h2⟩
theorem qiK {K:Frag}{mg:Str->Option Value}{a:Ad} (T:Txt K mg a) {te:TE}{ta:TA}{σ:L2.St}{H:Hp}{Q:VK}{x td:Addr}{ts:Pls}{nm:Str}{pk:Pk} (hte:∀ R:V->Hp->Prop,R (.ref x) H->te σ H R) (hta:∀ R:List V->Hp->Prop,R [.ref td] H->ta σ H R) (en:EnP a H x nm pk) (hp:∀ s∈pk.pls,s∈ts.map (·.1)) (tq:Tq a H td ts) (k:Gv H Q (MP ts pk) 21) :
   zR a.c_Entry "spans" zF [] E0 te ta σ H Q∨zR a.c_Within "spans" (qH K) [] E0 te ta σ H Q∨zR a.c_At "spans" (qH K) [] E0 te ta σ H Q∨zR a.c_Between "spans" (qK a) [] E0 te ta σ H Q∨zR a.c_Read "spans" (qK a) [] E0 te ta σ H Q:=by
 cases en with
 | @any dx hx=>exact Or.inl <| hte _ ⟨x,dx,_,rfl,hx,rfl,hta _ ⟨_,_,rfl,fun d H' fd S R=>k d _ H' fd S R ⟨fun w m=>by rw[List.mem_singleton.mp m];decide,List.pairwise_singleton _ _⟩ (by decide) fun n=>mem1⟩⟩
 | @wi dx lo hi hx h1 h2=>exact Or.inr <| Or.inl <| hte _ ⟨x,dx,_,rfl,hx,rfl,hta _ ⟨x,_,dx,_,_,_,_,rfl,hx,T.cl_Within,T.n_Within_low,T.n_Within_high,fun f r H' ff S' R c l m=>k f r H' ff S' R c (Nat.le_trans l (by decide)) fun n=>(m n).trans mem1⟩⟩
 | @at_ dx m hx=>exact Or.inr <| Or.inr <| Or.inl <| hte _ ⟨x,dx,_,rfl,hx,rfl,hta _ ⟨x,_,dx,_,_,_,_,rfl,hx,T.cl_At,T.n_At_low,T.n_At_high,fun f r H' ff S' R c l m=>k f r H' ff S' R c (Nat.le_trans l (by decide)) fun n=>(m n).trans mem1⟩⟩
 | @bt dx pl lo hi hx h1 h2=>exact Or.inr <| Or.inr <| Or.inr <| Or.inl <| hte _ ⟨x,dx,_,rfl,hx,rfl,hta _ ⟨x,_,dx,td,nm,pl,lo,hi,ts,rfl,.inl rfl,hx,tq,hp pl List.mem_cons_self,h1,h2,k⟩⟩
 | @rd dx pl m hx h1=>exact Or.inr <| Or.inr <| Or.inr <| Or.inr <| hte _ ⟨x,dx,_,rfl,hx,rfl,hta _ ⟨x,_,dx,td,nm,pl,m,m,ts,rfl,.inr rfl,hx,tq,hp pl List.mem_cons_self,h1,h1,k⟩⟩
theorem qkI {K:Frag}{mg:Str->Option Value}{a:Ad} (T:Txt K mg a) {te:TE}{ta:TA}{σ:L2.St}{H:Hp}{Q:VK}{x td:Addr}{ts:Pls}{nm:Str}{pk:Pk} (hte:∀ R:V->Hp->Prop,R (.ref x) H->te σ H R) (hta:∀ R:List V->Hp->Prop,R [.ref td] H->ta σ H R) (en:EnP a H x nm pk) (sk:Sfk pk) (hp:∀ s∈pk.pls,s∈ts.map (·.1)) (tq:Tq a H td ts) (k:Gv H Q (MP ts pk) 21) :
   zR a.c_Within "spans" (qH K) [] E0 te ta σ H Q∨zR a.c_Read "spans" (qK a) [] E0 te ta σ H Q:=by
 cases en with
 | any hx=>cases sk
 | at_ hx=>cases sk
 | bt hx _ _=>cases sk
 | @wi dx lo hi hx h1 h2=>exact .inl (hte _ ⟨x,dx,_,rfl,hx,rfl,hta _ ⟨x,_,dx,_,_,_,_,rfl,hx,T.cl_Within,T.n_Within_low,T.n_Within_high,fun f r H' ff S' R c l m=>k f r H' ff S' R c (Nat.le_trans l (by decide)) fun n=>(m n).trans mem1⟩⟩)
 | @rd dx pl m hx h1=>exact .inr (hte _ ⟨x,dx,_,rfl,hx,rfl,hta _ ⟨x,_,dx,td,nm,pl,m,m,ts,rfl,.inr rfl,hx,tq,hp pl List.mem_cons_self,h1,h1,k⟩⟩)
def MJ (ts:Pls) (ps:List (Addr×Pk)) (n:Int):Prop:=(0≤n∧n≤1000000000)∧∀ p∈ps,MP ts p.2 n
inductive Zk (a:Ad) (vs:List V) (H:Hp) (Q:VK):Prop
 | mk (x dx l td:Addr) (nm:Str) (ps:List (Addr×Pk)) (ts:Pls) (h1:vs=[.ref x,.ref td]) (h2:H x=some (.ins a.c_Joint dx (fsJ nm l))) (h3:H l=some (.lst (ps.map fun p=>V.ref p.1))) (h4:ps.length≤8) (h5:(∀ p∈ps,Pt a H p.1 p.2∧∀ s∈p.2.pls,s∈ts.map (·.1))) (h6:Tq a H td ts) (h7:Gv H Q (MJ ts ps) 400):Zk a vs H Q
def QH (a:Ad):Sp:=fun vs H Q _=>Zk a vs H Q
theorem qix {α:Type}{p:α->Prop}{l:List α}{i:Nat}{x:α} (h:l[i]?=some x):(∀ y∈l.take (i+1),p y)↔(∀ y∈l.take i,p y)∧p x:=by
 rw[List.take_add_one,h];constructor
 · intro k;exact⟨fun y m=>k y (List.mem_append_left _ m),k x (List.mem_append_right _ (List.mem_singleton.mpr rfl))⟩
 · rintro⟨k1,k2⟩ y m;rcases List.mem_append.mp m with m|m
   · exact k1 y m
   · rw[show y=x from List.mem_singleton.mp m];exact k2
def mo (w:Int×Int):List Int:=(List.range (w.2+1 - w.1).toNat).map fun k:Nat=>w.1+(k:Int)
def mos (r:List (Int×Int)):List Int:=r.flatMap mo
abbrev dup (n:Int):Int×Int:=(n,n)
theorem mem_mo {w:Int×Int}{n:Int}:n∈mo w↔w.1≤n∧n≤w.2:=by
 unfold mo;rw[List.mem_map];constructor
 · rintro⟨k,mk,e⟩
   have:=List.mem_range.mp mk
   omega
 · rintro⟨h1,h2⟩;exact⟨(n - w.1).toNat,List.mem_range.mpr (by omega),by omega⟩
theorem mem_mos {r:List (Int×Int)}{n:Int}:n∈mos r↔Mem r n:=by
 unfold mos;rw[List.mem_flatMap];exact⟨fun⟨w,m,h⟩=>⟨w,m,mem_mo.mp h⟩,fun⟨w,m,h⟩=>⟨w,m,mem_mo.mpr h⟩⟩
theorem qi7:∀ {r:List (Int×Int)},zj r->(mos r).Nodup
 | [],_=>List.nodup_nil
 | w::r,c=>by
   have c':zj r:=⟨fun u m=>c.1 u (List.mem_cons_of_mem _ m),(List.pairwise_cons.mp c.2).2⟩
   unfold mos;rw[List.flatMap_cons];refine List.nodup_append.mpr ⟨?_,qi7 c',fun n h1 m h2 e=>?_⟩
   · unfold mo;refine List.Pairwise.map _ (fun i j h=>?_) (List.nodup_range (n:=(w.2+1 - w.1).toNat));intro z;exact h (by omega)
   · subst e;obtain⟨u,mu,u1,u2⟩:=mem_mos.mp (show n∈mos r from h2)
     have:=(List.pairwise_cons.mp c.2).1 u mu
     have:=(mem_mo.mp h1).2
     omega
theorem qd9:∀ {l m:List Int},l.Nodup->(∀ x∈l,x∈m)->l.length≤m.length
 | [],_,_,_=>Nat.zero_le _
 | x::l,m,nd,h=>by
   rw[List.nodup_cons]at nd;have mx:=h x List.mem_cons_self
   have:=qd9 (l:=l) (m:=m.erase x) nd.2 fun y my=>by
     have ne:y≠x:=fun e=>nd.1 (by rw[← e];exact my);exact(List.mem_erase_of_ne ne).mpr (h y (List.mem_cons_of_mem _ my))
   rw[List.length_erase_of_mem mx]at this
   have:=List.length_pos_of_mem mx
   rw[List.length_cons];omega
theorem qfn {r:List (Int×Int)} (c:zj r) (i:Nat):zj (r.take i):=⟨fun w m=>c.1 w (List.mem_of_mem_take m),c.2.sublist (List.take_sublist _ _)⟩
theorem qhu {β:Type}{f:β->List V}{H:Hp}{xs ys:List V}{ps qs:List β} (h:TupL f H xs ps) (g:TupL f H ys qs):TupL f H (xs++ys) (ps++qs):=by
 have hl:=h.1;refine⟨by rw[List.length_append,List.length_append,h.1,g.1],fun j z y e1 e2=>?_⟩;by_cases c:j < xs.length
 · rw[List.getElem?_append_left c]at e1;rw[List.getElem?_append_left (by omega)]at e2;exact h.2 j z y e1 e2
 · rw[List.getElem?_append_right (by omega)]at e1;rw[List.getElem?_append_right (by omega)]at e2;rw[hl]at e1;exact g.2 _ z y e1 e2
theorem qj9 {l:List Int}{n:Int}:Mem (l.map dup) n↔n∈l:=by
 constructor
 · rintro⟨w,m,h1,h2⟩;obtain⟨k,mk,rfl⟩:=List.mem_map.mp m;have h1':k≤n:=h1;have h2':n≤k:=h2;rw[Int.le_antisymm h2' h1'];exact mk
 · intro m;exact⟨dup n,List.mem_map_of_mem m,Int.le_refl _,Int.le_refl _⟩
theorem qeD {r:List (Int×Int)}{i:Nat}{w:Int×Int} (h:r[i]?=some w):mos (r.take (i+1))=mos (r.take i)++mo w:=by
 unfold mos;rw[List.take_add_one,h,List.flatMap_append];simp
theorem qj8 {r:List (Int×Int)}{i:Nat}:∀ n∈mos (r.take i),n∈mos r:=fun n m=>by
 obtain⟨w,mw,h⟩:=List.mem_flatMap.mp m;exact List.mem_flatMap.mpr ⟨w,List.mem_of_mem_take mw,h⟩
theorem qlA (w:Int×Int):(mo w).Pairwise (· < ·):=by
 unfold mo;exact List.Pairwise.map _ (fun i j h=>by omega) (List.pairwise_lt_range (n:=(w.2+1 - w.1).toNat))
theorem qhh:∀ {r:List (Int×Int)},zj r->(mos r).Pairwise (· < ·)
 | [],_=>List.Pairwise.nil
 | w::r,c=>by
   have c':zj r:=⟨fun u m=>c.1 u (List.mem_cons_of_mem _ m),(List.pairwise_cons.mp c.2).2⟩
   unfold mos;rw[List.flatMap_cons];refine List.pairwise_append.mpr ⟨qlA w,qhh c',fun n h1 m h2=>?_⟩;obtain⟨u,mu,u1,u2⟩:=mem_mos.mp (show m∈mos r from h2)
   have:=(List.pairwise_cons.mp c.2).1 u mu
   have:=(mem_mo.mp h1).2
   omega
theorem qjB {us:List Int} (h:us.Pairwise (· < ·)) (l:us.length≤1000):SrtOk (us.map dup):=by
 refine .inr ⟨by rw[List.length_map];exact l,?_⟩;rw[List.map_map];refine List.Pairwise.map _ (fun i j h=>?_) h;show (if j=i then _ else decide (j < i))=false;rw[if_neg (by omega),decide_eq_false (by omega)]
inductive QN (a:Ad) (vs:List V) (H:Hp) (Q:VK):Prop
 | mk (x dx p f td:Addr) (nm pn:Str) (pk:Pk) (φ:Int->Bool) (ts:Pls) (h1:vs=[.ref x,.ref td]) (h2:H x=some (.ins a.c_Sifted dx (fsS nm p f))) (h3:EnP a H p pn pk) (h4:Sfk pk) (h5:(∀ s∈pk.pls,s∈ts.map (·.1))) (h6:Tq a H td ts) (h7:Sf0 H f φ) (h8:Gv H Q (fun n=>MP ts pk n∧φ n=true) 1000):QN a vs H Q
def Qj (a:Ad):Sp:=fun vs H Q _=>QN a vs H Q
theorem qj7 {a:Ad}{H:Hp}{p td:Addr}{ts:Pls}{pn:Str}{pk:Pk} (en:EnP a H p pn pk) (sk:Sfk pk) (hp:∀ s∈pk.pls,s∈ts.map (·.1)) (tq:Tq a H td ts):∃ L:List Int,L.length≤1000∧(∀ n∈L,-20000000000≤n∧n≤20000000000)∧∀ n,MP ts pk n->n∈L:=by
 cases en with
 | any hx=>cases sk
 | at_ hx=>cases sk
 | bt hx _ _=>cases sk
 | @wi dx lo hi hx h1 h2 =>
   have hlt:hi - lo < 1000:=sk;refine⟨mo (lo,hi),?_,fun n m=>?_,fun n h=>mem_mo.mpr h⟩
   · unfold mo;rw[List.length_map,List.length_range];show (hi+1 - lo).toNat≤1000;omega
   · have:=mem_mo.mp m
     have h3:lo≤n:=this.1;have h4:n≤hi:=this.2;omega
 | @rd dx pl m hx h1 =>
   obtain⟨x0,mx,ex⟩:=List.mem_map.mp (hp pl List.mem_cons_self);have good:=tq.tg x0 mx;refine⟨(pcs x0.2.2).map fun p=>m - p.2.2,by rw[List.length_map,Jn];exact Nat.le_trans good.few (by decide),fun n mn=>?_,fun n h=>?_⟩
   · obtain⟨p,mp',rfl⟩:=List.mem_map.mp mn
     have:=(qgf good.ok p mp').2.2
     omega
   · obtain⟨u,mu,eu,w,mw,h3,h4⟩:=h
     have:u=x0:=qi6 tq.nd mu mx (eu.trans ex.symm)
     subst this;obtain⟨p,mp',rfl⟩:=List.mem_map.mp mw;refine List.mem_map.mpr ⟨p,mp',?_⟩;unfold mp at h3 h4;dsimp only at h3 h4;split at h3<;>split at h4<;>omega
section
variable {P:Program}{w:World}{K:Frag}{mg:Str->Option Value}{base:Heap}
theorem Qd {a:Ad} (T:Txt K mg a):qy P w K mg base CX0 6 a.f_h a.fd_h ["self","tables"] (qK a):=by
 have G_al:=QV (P:=P) (w:=w) (base:=base) T;refine T.d_h.F.ok JX (fun vs H Q E h=>?_) (fun cdv A outer s H vs Q E hr h=>?_)
 · obtain⟨x,C,dx,td,nm,pl,lo,hi,ts,rfl,hC,hx,tq,hp,hlo,hhi,kk⟩:=h;rfl
 · obtain⟨x,C,dx,td,nm,pl,lo,hi,ts,rfl,hC,hx,tq,hp,hlo,hhi,kk⟩:=h;have hu:=qD hr;have h_al:Room (5) _:=hr.mono (by decide)
   refine⟨_,(qc (qG (qv (qaD hu) (qU (pv 0) rfl) (pv 1) (by with_unfolding_all rfl))
       (qf qN)
       qu)
     (qf (qq (qL (zN hu (pv 1) (qU (pv 0) rfl) (fun _ _=>rfl)) T.cl_Table T.d_al.mt G_al h_al T.d_al.b .nil qk (qa (qU (pv 0) rfl) (qa (qU (pv 0) rfl) qb)))))),?_⟩
   try dsimp only [zi,Cx.nox]
   obtain⟨cl,n_place,n_low,n_high⟩:Cls K C∧NoAttr K C "place"∧NoAttr K C "low"∧NoAttr K C "high":=by
     rcases hC with rfl|rfl
     · exact⟨T.cl_Between,T.n_Between_place,T.n_Between_low,T.n_Between_high⟩
     · exact⟨T.cl_Read,T.n_Read_place,T.n_Read_low,T.n_Read_high⟩
   obtain⟨t,mt,et⟩:=List.mem_map.mp hp;have et:t.1=pl:=et;subst et;refine⟨_,rfl,x,_,dx,_,_,rfl,hx,cl,n_place,rfl,_,rfl,td,_,rfl,tq.get mt,_,rfl,qT rfl ?_⟩;obtain⟨k0,dt,zs0,ht,hk0,tp0⟩:=id (tq.tt t mt);refine⟨_,rfl,_,rfl,x,_,dx,_,_,rfl,hx,cl,n_place,rfl,td,_,rfl,tq.get mt,t.2.1,dt,_,rfl,ht,qgW _ (by decide),?_⟩;exact⟨_,rfl,x,_,dx,_,_,rfl,hx,cl,n_low,rfl,_,rfl,x,_,dx,_,_,rfl,hx,cl,n_high,rfl,t.2.1,t.2.2,lo,hi,rfl,tq.tt t mt,tq.tg t mt,hlo,hhi,fun d r H' fd S R c l m=>kk d r H' fd S R c l fun n=>(m n).trans (qjF tq.nd mt)⟩
theorem qbb {a:Ad} (T:Txt K mg a):qy P w K mg base CX0 7 a.f_ad a.fd_ad ["self","tables"] (QH a):=by
 have G_K:=qjY (P:=P) (w:=w) (base:=base) T;have G_u:=jm (P:=P) (w:=w) (base:=base) T;have G_c:=zP (P:=P) (w:=w) (base:=base) T;have G_h:=Qd (P:=P) (w:=w) (base:=base) T;refine T.d_ad.F.ok sc_Joint_spans (fun vs H Q E h=>?_) (fun cdv A outer s H vs Q E hr h=>?_)
 · obtain⟨x,dx,l,td,nm,ps,ts,rfl,hx,hl,n8,pm,tq,kk⟩:=h;rfl
 · obtain⟨x,dx,l,td,nm,ps,ts,rfl,hx,hl,n8,pm,tq,kk⟩:=h;have h_K:Room (1) _:=hr.mono (by decide);have h_u:Room (1) _:=hr.mono (by decide);have h_c:Room (5) _:=hr.mono (by decide);have h_h:Room (6) _:=hr.mono (by decide);obtain⟨t_LAST,c_LAST⟩:=T.g_LAST
   refine⟨_,(qc (qz (i:=2) sc_Joint_spans.nd rfl (Or.inl rfl) (qY (qa (zf (qa qe (qa (qS (v:=.int 1000000000) rfl c_LAST ⟨_,rfl⟩) qb))) qb)))
     (qc (zr PassesOwn.never rfl (zc (qU (pv 0) rfl)) (qp (i:=3) (sc_Joint_spans.nd) rfl (Or.inl rfl))
       (qf (qz (i:=2) sc_Joint_spans.nd rfl (Or.inl rfl) (qj G_K h_K rfl T.d_K.m T.d_K.k T.d_K.b .nil qk (qa (pv 2) (qa (PE.or (qL (pv 3) T.cl_Entry T.d_u.mt G_u h_u T.d_u.b .nil qk (qa (pv 1) qb)) (PE.or (qL (pv 3) T.cl_Within T.d_c.mt G_c h_c T.d_c.b .nil qk (qa (pv 1) qb)) (PE.or (qL (pv 3) T.cl_At T.i_At_spans G_c h_c T.d_c.b .nil qk (qa (pv 1) qb)) (PE.or (qL (pv 3) T.cl_Between T.d_h.mt G_h h_h T.d_h.b .nil qk (qa (pv 1) qb)) (qL (pv 3) T.cl_Read T.i_Read_spans G_h h_h T.d_h.b .nil qk (qa (pv 1) qb)))))) qb))))))
     (qf (qq (pv 2))))),?_⟩
   try dsimp only [zi,Cx.nox]
   refine⟨qo (Nat.le_of_ble_eq_true rfl),fun t0 f0=>⟨qo (Nat.le_of_ble_eq_true rfl),fun d0 fd0=>?_⟩⟩;have S1:=Same.new (.tup [.int 0,.int 1000000000]) f0;have S2:=Same.new (.lst [.ref t0]) fd0;have R0:Rs (upd (upd H t0 (.tup [.int 0,.int 1000000000])) d0 (.lst [.ref t0])) d0 [(0,1000000000)]:=qgi (w:=(0,1000000000)) (S2 _ _ qd) qd;have S0:=S1.trans S2;have g0:H d0=none:=S1.none fd0;generalize upd (upd H t0 (.tup [.int 0,.int 1000000000])) d0 (.lst [.ref t0])=G at R0 S0 ⊢;(try unfold qJ);(try dsimp only);refine⟨_,rfl,x,_,dx,_,_,rfl,S0 _ _ hx,T.cl_Joint,T.n_Joint_kept_parts,rfl,l,rfl,⟨_,SqL.of (S0 _ _ hl)⟩,zI (K:=K) (a:=l) (xs:=ps.map fun p=>V.ref p.1) (D:={ nx:=qhv (qks 2) { nx:=fun _ H'=>Q .non H',rt:=Q },rt:=Q }) (fun j σ H'=>∃ (s3:Option V) (d:Addr) (rr:List (Int×Int)),σ=[some (.ref x),some (.ref td),some (.ref d),s3]∧Same H H'∧H d=none∧Rs H' d rr∧zj rr∧rr.length≤1+21 * j∧∀ n,Mem rr n↔(0≤n∧n≤1000000000)∧∀ p∈ps.take j,MP ts p.2 n) ⟨none,d0,_,rfl,S0,g0,R0,⟨fun w m=>by rw[List.mem_singleton.mp m];decide,List.pairwise_singleton _ _⟩,Nat.le_of_ble_eq_true rfl,fun n=>?_⟩ (fun j σ H' _ ⟨_,_,_,_,S,_⟩=>SqL.of (S _ _ hl)) ?_ ?_⟩
   · exact mem1.trans ⟨fun h=>⟨h,fun p m=>nomatch m⟩,fun h=>h.1⟩
   · rintro j z σ H2 hz ⟨s3,d,rr,rfl,S,gd,R,can,lr,mem⟩;obtain⟨b,hb,rfl⟩:=Zb hz;have mb:=List.mem_of_getElem? hb;have jl:j < ps.length:=(List.getElem?_eq_some_iff.mp hb).1;refine⟨_,rfl,qiK T (fun R h=>⟨_,rfl,h⟩) (fun R h=>⟨_,rfl,h⟩) ((pm b mb).1.choose_spec.same S) (pm b mb).2 (tq.sm S) fun f r2 H3 ff S3 R3 c3 l3 m3=>?_⟩;refine⟨d,f,rr,r2,rfl,R.same S3,R3,can,c3,by omega,fun d4 r4 H4 fd4 S4 R4 c4 l4 m4=>?_⟩;refine⟨_,d4,r4,rfl,(S.trans S3).trans S4,(S.trans S3).none fd4,R4,c4,by omega,fun n=>?_⟩;rw[m4,mem,m3,qix (p:=fun q:Addr×Pk=>MP ts q.2 n) hb];exact and_assoc
   · rintro σ H2 ⟨s3,d,rr,rfl,S,gd,R,can,lr,mem⟩;rw[List.length_map]at lr mem;rw[List.take_length]at mem;exact⟨_,rfl,kk d rr H2 gd S R can (by omega) mem⟩
theorem qaH {a:Ad} (T:Txt K mg a):qy P w K mg base CX0 7 a.f_ag a.fd_ag ["self","tables"] (Qj a):=by
 have G_c:=zP (P:=P) (w:=w) (base:=base) T;have G_h:=Qd (P:=P) (w:=w) (base:=base) T;have G_j:=jr (P:=P) (w:=w) (base:=base) T;refine T.d_ag.F.ok sc_Sifted_spans (fun vs H Q E h=>?_) (fun cdv A outer s H vs Q E hr h=>?_)
 · obtain⟨x,dx,p,f,td,nm,pn,pk,φ,ts,rfl,hx,en,sk,hp,tq,hf,kk⟩:=h;rfl
 · obtain⟨x,dx,p,f,td,nm,pn,pk,φ,ts,rfl,hx,en,sk,hp,tq,hf,kk⟩:=h;have hu:=qD hr;have h_c:Room (5) _:=hr.mono (by decide);have h_h:Room (6) _:=hr.mono (by decide);have h_j:Room (4) _:=hr.mono (by decide)
   refine⟨_,(qc (qz (i:=2) sc_Sifted_spans.nd rfl (Or.inr rfl) (qU (pv 0) rfl))
     (qc (qz (i:=3) sc_Sifted_spans.nd rfl (Or.inl rfl) (qY qb))
     (qc (zr PassesOwn.never rfl (zc (PE.or (qL (qU (pv 0) rfl) T.cl_Within T.d_c.mt G_c h_c T.d_c.b .nil qk (qa (pv 1) qb)) (qL (qU (pv 0) rfl) T.cl_Read T.i_Read_spans G_h h_h T.d_h.b .nil qk (qa (pv 1) qb)))) (Qn rfl (qw (qp (i:=4) (sc_Sifted_spans.nd) rfl (Or.inl rfl)) (qw (qp (i:=5) (sc_Sifted_spans.nd) rfl (Or.inl rfl)) zx)))
       (qf (qO (qca PySem.F.plainAttrs_list PySem.F.slot_list_extend PySem.F.type_list_extend qdb (pv 3) (qa (Qb rfl (CompOk.def ["moment","keeps"] [none,some 2]) (qgd rfl T.n_range (qa (pv 4) (qa (qx QY (pv 5) qe) qb))) (fun _ _ _ _ _=>(qp (i:=0) (show List.Nodup (["moment","keeps"]:List Str) by decide +kernel) rfl (Or.inl rfl))) (fun _ _ _ _ _=>(Jm (qX (qhN (k:=2) (Ok:=fun f sp=>sp=sp0 f) (pv 1) (hr.mono (by decide)) (fun f sp h=>by rw[h];exact qhR T) (qa (pv 0) qb))))) (fun _ _ _ _ _=>(zf (qa (pv 0) (qa (pv 0) qb))))) qb)))))
     (qf (qq (qj G_j h_j rfl T.d_j.m T.d_j.k T.d_j.b .nil qk (qa (pv 3) qb))))))),?_⟩
   try dsimp only [zi,Cx.nox]
   obtain⟨LL_,l1k,lb,lm⟩:=qj7 en sk hp tq;refine⟨_,rfl,x,_,dx,_,_,rfl,hx,T.cl_Sifted,T.n_Sifted_keeps,rfl,?_⟩;(try unfold qJ);(try dsimp only);refine⟨qo (Nat.le_of_ble_eq_true rfl),fun t ft=>?_⟩;generalize hG:upd H t _=G;obtain⟨S0,e0⟩:=qC hG ft;clear hG;(try unfold qJ);(try dsimp only);refine qR (t:=qfH _ _ _) (fun σ' H'=>∃ (s4 s5:Option V) (us:List Int),σ'=[some (.ref x),some (.ref td),some (.ref f),some (.ref t),s4,s5]∧Same H H'∧Rs H' t (us.map dup)∧us.length≤1000∧us.Pairwise (· < ·)∧∀ n,n∈us↔MP ts pk n∧φ n=true) (fun N hN=>?_) ?_
   · refine qkI T (fun R h=>⟨_,rfl,x,_,dx,_,_,rfl,(S0 _ _ hx),T.cl_Sifted,T.n_Sifted_part,rfl,h⟩) (fun R h=>⟨_,rfl,h⟩) (en.same S0) sk hp (tq.sm S0) fun fq rr H1 ff S1 ⟨zs,hfq,tz⟩ can l21 mem=>?_;have lz:zs.length=rr.length:=tz.1;have lenu:∀ i,((mos (rr.take i)).filter φ).length≤1000:=fun i=>Nat.le_trans (qd9 ((qi7 (qfn can i)).filter _) fun n m=>lm n ((mem n).mp (mem_mos.mp (qj8 n (List.mem_filter.mp m).1)))) l1k;have nft:fq≠t:=fun z=>by rw[z,e0]at ff;cases ff
     have ht1:=S1 _ _ e0;refine⟨fq,rfl,⟨_,SqL.of hfq⟩,zI (K:=K) (a:=fq) (xs:=zs) (D:={ nx:=N,rt:=Q }) (fun j σ H'=>∃ (s4 s5:Option V),σ=[some (.ref x),some (.ref td),some (.ref f),some (.ref t),s4,s5]∧But t H1 H'∧Rs H' t (((mos (rr.take j)).filter φ).map dup)) ⟨_,_,rfl,But.refl _ _,⟨[],ht1,.nil⟩⟩ (fun j σ H' _ ⟨_,_,_,b,_⟩=>SqL.of (b _ _ hfq nft)) ?_ ?_⟩
     · rintro j z σ H2 hz ⟨s4,s5,rfl,B2,⟨zt,ht,tt⟩⟩;obtain⟨w,u,hw',rfl,hu0⟩:=tz.of hz;have hu:=B2 _ _ hu0 (qW hu0 ht1 (by intro z;cases z));have mw:=List.mem_of_getElem? hw';have w12:=can.1 w mw;have b1:=lb w.1 (lm _ ((mem _).mp ⟨w,mw,Int.le_refl _,w12⟩));have b2:=lb w.2 (lm _ ((mem _).mp ⟨w,mw,w12,Int.le_refl _⟩));have lt:=tt.1;rw[List.length_map]at lt;have l0:=lenu j;have l1:=lenu (j+1);rw[qeD hw',List.filter_append,List.length_append]at l1;refine⟨u,_,rfl,SqT.of hu,rfl,_,_,rfl,_,_,rfl,rfl,?_⟩;refine⟨_,rfl,.inl ⟨rfl,_,SqL.of ht⟩,_,rfl,_,rfl,.inl ⟨_,_,rfl,rfl,_,_,rfl,⟨by omega,by omega,by omega,by omega⟩,fun D fD=>?_⟩⟩;have eT:(w.2+1 - w.1).toNat=(w.2+1 - w.1).toNat:=rfl;refine qbM (lo:=w.1) (n:=(w.2+1 - w.1).toNat) (D:=D) (fun i σ H3=>∃ (c0:Option V) (ys:List V),σ=[c0,some (.ref f)]∧Same H2 H3∧H3 D=some (.lst ys)∧TupL pr H3 ys ((((List.range i).map fun k:Nat=>w.1+(k:Int)).filter φ).map dup)) ⟨none,[],rfl,Same.new _ fD,qd,.nil⟩ ?_ ?_
       · rintro i σ H3 hi ⟨c0,ys,rfl,S3,hD,ty⟩
         have es:(((List.range (i+1)).map fun k:Nat=>w.1+(k:Int)).filter φ)=(((List.range i).map fun k:Nat=>w.1+(k:Int)).filter φ)++(if φ (w.1+(i:Int))=true then [w.1+(i:Int)] else []):=by
           rw[List.range_succ,List.map_append,List.filter_append];congr 1;show List.filter φ [w.1+(i:Int)]=_;rw[List.filter_cons];split<;>rfl
         have SH3:Same H H3:=fun b o e'=>S3 b o (B2 b o (S1 b o (S0 b o e')) (qi e' ft));have hf3:=hf.mp fun b φ e=>SH3 b _ e;obtain⟨ob,fdv,hfo,hfd⟩:=hf3.obj;refine⟨_,rfl,f,sp0 f,_,_,rfl,hfo,hfd,rfl,_,rfl,hfo,w.1+(i:Int),φ,rfl,hf3,_,rfl,?_⟩;refine qfi (fun g=>?_) (fun g=>?_)
         · refine⟨_,rfl,_,rfl,qo (Nat.le_of_ble_eq_true rfl),fun v fv=>⟨ys,(Same.new _ fv) _ _ hD,qE ?_,_,_,rfl,(S3.trans (Same.new _ fv)).put fD _,qd,?_⟩⟩
           · have h1:=ty.1;rw[List.length_map]at h1
             have h2:(((List.range i).map fun k:Nat=>w.1+(k:Int)).filter φ).length≤((mo w).filter φ).length:=by
               refine List.Sublist.length_le (List.Sublist.filter _ ?_);unfold mo;exact List.Sublist.map _ (List.range_sublist.mpr (by omega))
             omega
           · rw[es,if_pos g,List.map_append];exact((ty.same (Same.new _ fv)).snoc (p:=dup (w.1+(i:Int))) qd).put ((Same.new _ fv) _ _ hD)
         · refine⟨_,ys,rfl,S3,hD,?_⟩;rw[es,if_neg (by rw[show φ (w.1+(i:Int))=false from g];decide),List.append_nil];exact ty
       · rintro σ H3 ⟨c0,ys,rfl,S3,hD,ty⟩;have tyw:TupL pr H3 ys (((mo w).filter φ).map dup):=ty;have ly:=tyw.1;rw[List.length_map]at ly;refine⟨t,D,_,_,rfl,rfl,S3 _ _ ht,hD,Nat.le_of_lt (qE (by omega)),?_⟩;refine⟨_,_,rfl,fun b o e nb=>by rw[qh nb];exact S3 b o (B2 b o e nb),?_⟩;rw[qeD hw',List.filter_append,List.map_append];exact⟨_,qd,TupL.put (qhu (tt.same S3) tyw) (S3 _ _ ht)⟩
     · rintro σ H2 ⟨s4,s5,rfl,B2,R2⟩;rw[lz,List.take_length]at R2;refine hN _ _ ⟨_,_,_,rfl,fun b o e=>B2 b o (S1 b o (S0 b o e)) (qi e ft),R2,by have:=lenu rr.length;rw[List.take_length]at this;exact this,(qhh can).sublist List.filter_sublist,fun n=>?_⟩;rw[List.mem_filter,mem_mos,mem]
   rintro _ H2 ⟨s4,s5,us,rfl,S2,R2,l2,as2,m2⟩;refine⟨_,rfl,t,us.map dup,rfl,R2,qjB as2 l2,fun d rr H3 fd S3 R3 c3 l3 m3=>?_⟩;refine kk d rr H3 (S2.none fd) (S2.trans S3) R3 c3 (by rw[List.length_map]at l3;omega) fun n=>?_;rw[m3,qj9,m2]
end
structure Lo (a:Ad) (H:Hp) (x td ed bl:Addr) (ps ns:List (Str×V)) (zs:List V):Prop where
 hx:∃ dx,H x=some (.ins a.c_Log dx (fsL td ed bl))
 ht:H td=some (.dK (skv ps))
 he:H ed=some (.dK (skv ns))
 hb:H bl=some (.lst zs)
 ne:td≠ed
 ndt:(ps.map (·.1)).Nodup
 nde:(ns.map (·.1)).Nodup
section
variable {a:Ad}{H H':Hp}{x td ed bl:Addr}{ps ns:List (Str×V)}{zs:List V}
theorem Lo.sm (h:Lo a H x td ed bl ps ns zs) (s:Same H H'):Lo a H' x td ed bl ps ns zs :=
 ⟨let ⟨dx,e⟩:=h.hx;⟨dx,s _ _ e⟩,s _ _ h.ht,s _ _ h.he,s _ _ h.hb,h.ne,h.ndt,h.nde⟩
theorem Lo.eget (h:Lo a H x td ed bl ps ns zs) {e:Str×V} (m:e∈ns):qdB H ed (.str e.1) (some e.2):=.inl ⟨_,.inr e.1,.inl h.he,rfl,(qai h.nde e m).symm⟩
theorem Lo.tget (h:Lo a H x td ed bl ps ns zs) {e:Str×V} (m:e∈ps):qdB H td (.str e.1) (some e.2):=.inl ⟨_,.inr e.1,.inl h.ht,rfl,(qai h.ndt e m).symm⟩
end
section
variable {a:Ad}{H:Hp}{x td ed bl:Addr}{ps ns:List (Str×V)}{zs:List V}
theorem Lo.pe (h:Lo a H x td ed bl ps ns zs) (ns':List (Str×V)) (nd:(ns'.map (·.1)).Nodup):Lo a (upd H ed (.dK (skv ns'))) x td ed bl ps ns' zs :=
 ⟨let ⟨dx,e⟩:=h.hx;⟨dx,by rw[qh (qW e h.he (by intro z;cases z))];exact e⟩,by rw[qh h.ne];exact h.ht,qd,by rw[qh (qW h.hb h.he (by intro z;cases z))];exact h.hb,h.ne,h.ndt,nd⟩
theorem Lo.pt (h:Lo a H x td ed bl ps ns zs) (ps':List (Str×V)) (nd:(ps'.map (·.1)).Nodup):Lo a (upd H td (.dK (skv ps'))) x td ed bl ps' ns zs :=
 ⟨let ⟨dx,e⟩:=h.hx;⟨dx,by rw[qh (qW e h.ht (by intro z;cases z))];exact e⟩,qd,by rw[qh h.ne.symm];exact h.he,by rw[qh (qW h.hb h.ht (by intro z;cases z))];exact h.hb,h.ne,nd,h.nde⟩
end
theorem qaj (ps:List (Str×V)):(skv ps).length=ps.length:=by unfold skv;rw[List.length_map]
theorem qhf {n:Nat} (h:n≤100):n < sizeLine:=qE (by omega)
theorem qi8 {ns:List (Str×V)}{n:Str} (h:n∈ns.map (·.1)):∃ e∈ns,e.1=n:=by
 obtain⟨e,m,ee⟩:=List.mem_map.mp h;exact⟨e,m,ee⟩
inductive Kd where
 | pl (k:Pk)|jn (ks:List Pk)|sf (k:Pk) (φ:Int->Bool)
def Kd.pls:Kd->List Str
 | .pl k=>k.pls
 | .jn ks=>ks.foldl (fun acc k=>Qt acc k.pls) []
 | .sf k _=>k.pls
def Kd.all:Kd->List Str
 | .pl k=>k.pls
 | .jn ks=>ks.flatMap Pk.pls
 | .sf k _=>k.pls
theorem qgV:∀ {ks:List Pk}{acc:List Str}{s:Str},s∈ks.foldl (fun acc k=>Qt acc k.pls) acc->s∈acc∨s∈ks.flatMap Pk.pls
 | [],acc,s,h=>.inl h
 | k::ks,acc,s,h=>by
   rw[List.foldl_cons]at h;rw[List.flatMap_cons];rcases qgV h with h|h
   · unfold Qt at h;rcases List.mem_append.mp h with h|h
     · exact .inl h
     · exact .inr (List.mem_append_left _ (List.mem_filter.mp h).1)
   · exact .inr (List.mem_append_right _ h)
theorem Kd.pls_all {kd:Kd}{s:Str} (h:s∈kd.pls):s∈kd.all:=by
 cases kd with
 | pl k=>exact h
 | jn ks=>exact(qgV h).resolve_left (fun z=>nomatch z)
 | sf k φ=>exact h
def MK (ts:Pls):Kd->Int->Prop
 | .pl k,n=>MP ts k n
 | .jn ks,n=>(0≤n∧n≤1000000000)∧∀ k∈ks,MP ts k n
 | .sf k φ,n=>MP ts k n∧φ n=true
inductive EnD (a:Ad) (H:Hp) (y:Addr) (nm:Str):Kd->Prop
 | pl {k:Pk}:EnP a H y nm k->EnD a H y nm (.pl k)
 | jn {dx l':Addr}{ps:List (Addr×Pk)}:H y=some (.ins a.c_Joint dx (fsJ nm l'))->H l'=some (.lst (ps.map fun p=>V.ref p.1))->ps.length≤8->(∀ p∈ps,Pt a H p.1 p.2)->EnD a H y nm (.jn (ps.map (·.2)))
 | sf {dx p f:Addr}{pn:Str}{k:Pk}{φ:Int->Bool}:H y=some (.ins a.c_Sifted dx (fsS nm p f))->EnP a H p pn k->Sfk k->Sf0 H f φ->EnD a H y nm (.sf k φ)
theorem EnD.same {a:Ad}{H H':Hp}{y:Addr}{nm:Str}{kd:Kd} (h:EnD a H y nm kd) (s:Same H H'):EnD a H' y nm kd:=by
 cases h with
 | pl e=>exact .pl (e.same s)
 | jn e e1 h1 h2=>exact .jn (s _ _ e) (s _ _ e1) h1 fun p m=>(h2 p m).same s
 | sf e e1 h1 k=>exact .sf (s _ _ e) (e1.same s) h1 (k.mp fun b φ e=>s b _ e)
theorem qlv {K:Frag}{mg:Str->Option Value}{a:Ad} (T:Txt K mg a) {H:Hp}{x:Addr}{nm:Str}{kd:Kd} (h:EnD a H x nm kd):∃ C dx fs,H x=some (.ins C dx fs)∧qdz K H (.ref x) (.ref C)∧kitOne K (.ref C) (.ref a.c_Entry)=some true∧Cls K C∧NoAttr K C "name"∧fs.lookup ("name":Str)=some (V.str nm):=by
 cases h with
 | pl h=>cases h with
   | any hx=>exact⟨_,_,_,hx,T.io_Entry.ty hx,jo T,T.cl_Entry,T.n_Entry_name,rfl⟩
   | wi hx _ _=>exact⟨_,_,_,hx,T.io_Within.ty hx,ZO T,T.cl_Within,T.n_Within_name,rfl⟩
   | at_ hx=>exact⟨_,_,_,hx,T.io_At.ty hx,qaQ T,T.cl_At,T.n_At_name,rfl⟩
   | bt hx _ _=>exact⟨_,_,_,hx,T.io_Between.ty hx,Zo T,T.cl_Between,T.n_Between_name,rfl⟩
   | rd hx _=>exact⟨_,_,_,hx,T.io_Read.ty hx,j9 T,T.cl_Read,T.n_Read_name,rfl⟩
 | jn hx _ _ _=>exact⟨_,_,_,hx,T.io_Joint.ty hx,qbd T,T.cl_Joint,T.n_Joint_name,rfl⟩
 | sf hx _ _ _=>exact⟨_,_,_,hx,T.io_Sifted.ty hx,qaP T,T.cl_Sifted,T.n_Sifted_name,rfl⟩
inductive J6 (vs:List V) (H:Hp) (Q:VK):Prop
 | mk (x:Str) (d:Addr) (v:V) (h1:vs=[.str x,.ref d]) (h2:qdB H d (.str x) (some v)) (h3:Q (.bl true) H):J6 vs H Q
def qcC:Sp:=fun vs H Q _=>J6 vs H Q
inductive jL (a:Ad) (vs:List V) (H:Hp) (Q:VK):Prop
 | mk (x dx:Addr) (h1:vs=[.ref x]) (h2:H x=some (.ins a.c_Log dx [])) (h3:∀ (td ed bl:Addr) (H':Hp),But x H H'->H td=none->H ed=none->H bl=none->Lo a H' x td ed bl [] [] []->Q .non H'):jL a vs H Q
def jp (a:Ad):Sp:=fun vs H Q _=>jL a vs H Q
inductive Qf (a:Ad) (vs:List V) (H:Hp) (Q:VK):Prop
 | mk (x td ed bl:Addr) (ps ns:List (Str×V)) (zs:List V) (e:Str×V) (h1:vs=[.ref x,.str e.1]) (h2:Lo a H x td ed bl ps ns zs) (h3:e∈ns) (h4:Q .non H):Qf a vs H Q
def Qz (a:Ad):Sp:=fun vs H Q _=>Qf a vs H Q
inductive Z3 (a:Ad) (vs:List V) (H:Hp) (Q:VK):Prop
 | mk (x td ed bl:Addr) (ps ns:List (Str×V)) (zs:List V) (h1:vs=[.ref x]) (h2:Lo a H x td ed bl ps ns zs) (h3:∀ l,H l=none->Q (.ref l) (upd H l (.lst ((ns.map (·.1)).map V.str)))):Z3 a vs H Q
def Jw (a:Ad):Sp:=fun vs H Q _=>Z3 a vs H Q
inductive Z4 (a:Ad) (vs:List V) (H:Hp) (Q:VK):Prop
 | mk (x td ed bl:Addr) (ps ns:List (Str×V)) (zs:List V) (e:Str×V) (h1:vs=[.ref x,.str e.1]) (h2:Lo a H x td ed bl ps ns zs) (h3:e∈ns) (h4:Q e.2 H):Z4 a vs H Q
def Jx (a:Ad):Sp:=fun vs H Q _=>Z4 a vs H Q
inductive ja (a:Ad) (vs:List V) (H:Hp) (Q:VK):Prop
 | mk (x td ed bl:Addr) (ps ns:List (Str×V)) (zs:List V) (h1:vs=[.ref x]) (h2:Lo a H x td ed bl ps ns zs) (h3:∀ l,H l=none->Q (.ref l) (upd H l (.lst zs))):ja a vs H Q
def Jy (a:Ad):Sp:=fun vs H Q _=>ja a vs H Q
inductive Z5 (a:Ad) (vs:List V) (H:Hp) (Q:VK):Prop
 | mk (x td ed bl:Addr) (ps ns:List (Str×V)) (zs:List V) (pl:Str) (v:V) (h1:vs=[.ref x,.str pl,v]) (h2:Lo a H x td ed bl ps ns zs) (h3:zC (.str pl)=true) (h4:((pl∉ps.map (·.1)∧ps.length < 6∧∀ H',But td H H'->Lo a H' x td ed bl (ps++[(pl,v)]) ns zs->Q .non H') ∨
  (∃ ps',pl∈ps.map (·.1)∧ps.length≤6∧JM (skv ps) (.inr pl) v=skv ps'∧ps'.map (·.1)=ps.map (·.1)∧∀ H',But td H H'->Lo a H' x td ed bl ps' ns zs->Q .non H'))):Z5 a vs H Q
def ZB (a:Ad):Sp:=fun vs H Q _=>Z5 a vs H Q
inductive Jv (a:Ad) (vs:List V) (H:Hp) (Q:VK):Prop
 | mk (x td ed bl:Addr) (ps ns:List (Str×V)) (zs:List V) (y:Addr) (nm:Str) (kd:Kd) (h1:vs=[.ref x,.ref y]) (h2:Lo a H x td ed bl ps ns zs) (h3:EnD a H y nm kd) (h4:(∀ s∈kd.all,s∈ps.map (·.1))) (h5:nm∉ns.map (·.1)) (h6:ns.length < 60) (h7:∀ H',But ed H H'->Lo a H' x td ed bl ps (ns++[(nm,.ref y)]) zs->Q .non H'):Jv a vs H Q
def Jk (a:Ad):Sp:=fun vs H Q _=>Jv a vs H Q
inductive Z2 (a:Ad) (vs:List V) (H:Hp) (Q:VK):Prop
 | mk (x td ed bl:Addr) (ts:Pls) (ns:List (Str×V)) (zs:List V) (nm:Str) (y:Addr) (kd:Kd) (h1:vs=[.ref x,.str nm]) (h2:Lo a H x td ed bl (tv ts) ns zs) (h3:Tq a H td ts) (h4:(nm,V.ref y)∈ns) (h5:EnD a H y nm kd) (h6:(∀ s∈kd.all,s∈ts.map (·.1))) (h7:Gv H Q (MK ts kd) 1000):Z2 a vs H Q
def ZA (a:Ad):Sp:=fun vs H Q _=>Z2 a vs H Q
section
variable {P:Program}{w:World}{K:Frag}{mg:Str->Option Value}{base:Heap}
theorem qgk {a:Ad} (T:Txt K mg a):qy P w K mg base CX0 1 a.f_R a.fd_R ["thing","keyed"] qcC:=by
 refine T.d_R.F.ok qfS (fun vs H Q E h=>?_) (fun cdv A outer s H vs Q E hr h=>?_)
 · obtain⟨x,d,v,rfl,dg,kk⟩:=h;rfl
 · obtain⟨x,d,v,rfl,dg,kk⟩:=h;have hu:=qD hr;refine⟨_,(qf (qq (jY (ql zu (by rfl) T.n_isinstance qr (qa (pv 0) (qa (zO (v:=.ty "str") rfl T.n_str qdq rfl) qb))) (JN (Qc (qgh hu) (pv 0) (pv 1) (by with_unfolding_all rfl)))))),?_⟩;(try dsimp only [zi,Cx.nox]);refine⟨_,rfl,_,_,_,rfl,(by decide),rfl,true,rfl,qhm ?_⟩;exact⟨_,rfl,_,rfl,d,_,rfl,dg,kk⟩
theorem qaI {a:Ad} (T:Txt K mg a):qy P w K mg base CX0 1 a.f_z a.fd_z ["self"] (jp a):=by
 refine T.d_z.F.ok qdM (fun vs H Q E h=>?_) (fun cdv A outer s H vs Q E hr h=>?_)
 · obtain⟨x,dx,rfl,hx,kk⟩:=h;rfl
 · obtain⟨x,dx,rfl,hx,kk⟩:=h;have hU:=hr.units
   refine⟨_,(qc (QU (pv 0) jX rfl)
     (qc (QU (pv 0) jX rfl)
     (qf (QU (pv 0) (qY qb) rfl)))),?_⟩
   try dsimp only [zi,Cx.nox]
   intro td ftd;have n1:td≠x:=fun e=>by rw[e,hx]at ftd;cases ftd
   refine⟨_,rfl,x,_,dx,_,rfl,(by rw[qh n1.symm];exact hx),T.cl_Log,T.n_Log_tables,(by decide),?_⟩;intro ed fed;have n2:ed≠x:=fun e=>by rw[e,qd]at fed;cases fed
   have n3:ed≠td:=fun e=>by rw[e,qh n1,qd]at fed;cases fed
   rw[qh n2,qh n3]at fed;refine⟨_,rfl,x,_,dx,_,rfl,(by rw[qh n2.symm,qd]),T.cl_Log,T.n_Log_entries,(Nat.le_of_ble_eq_true rfl),?_⟩;refine⟨qo (Nat.le_of_ble_eq_true rfl),fun bl fbl=>?_⟩;have n4:bl≠x:=fun e=>by rw[e,qd]at fbl;cases fbl
   have n5:bl≠ed:=fun e=>by rw[e,qh n2,qd]at fbl;cases fbl
   have n6:bl≠td:=fun e=>by rw[e,qh n1,qh n3.symm,qh n1,qd]at fbl;cases fbl
   rw[qh n4,qh n5,qh n4,qh n6]at fbl;refine⟨_,rfl,x,_,dx,_,rfl,(by rw[qh n4.symm,qd]),T.cl_Log,T.n_Log_bound,(Nat.le_of_ble_eq_true rfl),?_⟩;refine kk td ed bl _ (fun b o e nb=>?_) ftd fed fbl ⟨⟨dx,?_⟩,?_,?_,?_,n3.symm,List.nodup_nil,List.nodup_nil⟩
   · rw[qh nb,qh (qi e fbl),qh nb,qh (qi e fed),qh nb,qh (qi e ftd)];exact e
   · rw[qd];rfl
   · rw[qh n1,qh n6.symm,qh n1,qh n3.symm,qh n1,qd];rfl
   · rw[qh n2,qh n5.symm,qh n2,qd];rfl
   · rw[qh n4,qd]
theorem j6 {a:Ad} (T:Txt K mg a):qy P w K mg base CX0 2 a.f_ah a.fd_ah ["self","name"] (Qz a):=by
 have G_R:=qgk (P:=P) (w:=w) (base:=base) T;refine T.d_ah.F.ok jP (fun vs H Q E h=>?_) (fun cdv A outer s H vs Q E hr h=>?_)
 · obtain⟨x,td,ed,bl,ps,ns,zs,e,rfl,hL,me,kk⟩:=h;rfl
 · obtain⟨x,td,ed,bl,ps,ns,zs,e,rfl,hL,me,kk⟩:=h;have h_R:Room (1) _:=hr.mono (by decide)
   refine⟨_,(qf (qG (q8 (qX (qj G_R h_R rfl T.d_R.m T.d_R.k T.d_R.b .nil qk (qa (pv 1) (qa (qU (pv 0) rfl) qb)))))
       (qf qN)
       qu)),?_⟩
   try dsimp only [zi,Cx.nox]
   obtain⟨dx,hx⟩:=hL.hx;exact⟨_,rfl,_,rfl,x,_,dx,_,_,rfl,hx,T.cl_Log,T.n_Log_entries,rfl,e.1,ed,_,rfl,hL.eget me,true,rfl,qT rfl kk⟩
theorem qc7 {a:Ad} (T:Txt K mg a):qy P w K mg base CX0 1 a.f_ai a.fd_ai ["self"] (Jw a):=by
 refine T.d_ai.F.ok qcQ (fun vs H Q E h=>?_) (fun cdv A outer s H vs Q E hr h=>?_)
 · obtain⟨x,td,ed,bl,ps,ns,zs,rfl,hL,kk⟩:=h;rfl
 · obtain⟨x,td,ed,bl,ps,ns,zs,rfl,hL,kk⟩:=h;refine⟨_,(qf (qq (zy (r:=qf4) (qbQ rfl) (by rfl) T.n_list q9 (qa (qU (pv 0) rfl) qb)))),?_⟩;(try dsimp only [zi,Cx.nox]);obtain⟨dx,hx⟩:=hL.hx;refine⟨_,rfl,x,_,dx,_,_,rfl,hx,T.cl_Log,T.n_Log_entries,rfl,ed,_,rfl,.inl hL.he,fun l fl=>?_⟩
   have e:((skv ns).map fun p=>kV p.1)=(ns.map (·.1)).map V.str:=by
     unfold skv;rw[List.map_map,List.map_map];rfl
   rw[e];exact kk l fl
theorem qc8 {a:Ad} (T:Txt K mg a):qy P w K mg base CX0 3 a.f_f a.fd_f ["self","name"] (Jx a):=by
 have G_ah:=j6 (P:=P) (w:=w) (base:=base) T;refine T.d_f.F.ok qcR (fun vs H Q E h=>?_) (fun cdv A outer s H vs Q E hr h=>?_)
 · obtain⟨x,td,ed,bl,ps,ns,zs,e,rfl,hL,me,kk⟩:=h;rfl
 · obtain⟨x,td,ed,bl,ps,ns,zs,e,rfl,hL,me,kk⟩:=h;have hu:=qD hr;have h_ah:Room (2) _:=hr.mono (by decide)
   refine⟨_,(qc (qO (qL (pv 0) T.cl_Log T.d_ah.mt G_ah h_ah T.d_ah.b .nil qk (qa (pv 1) qb)))
     (qf (qq (zN hu (qU (pv 0) rfl) (pv 1) (fun _ _=>rfl))))),?_⟩
   try dsimp only [zi,Cx.nox]
   obtain⟨dx,hx⟩:=hL.hx;refine⟨_,rfl,x,dx,_,rfl,hx,rfl,_,rfl,x,td,ed,bl,ps,ns,zs,e,rfl,hL,me,?_⟩;exact⟨_,rfl,x,_,dx,_,_,rfl,hx,T.cl_Log,T.n_Log_entries,rfl,_,rfl,ed,_,rfl,hL.eget me,kk⟩
theorem qc9 {a:Ad} (T:Txt K mg a):qy P w K mg base CX0 1 a.f_aj a.fd_aj ["self"] (Jy a):=by
 refine T.d_aj.F.ok qcT (fun vs H Q E h=>?_) (fun cdv A outer s H vs Q E hr h=>?_)
 · obtain⟨x,td,ed,bl,ps,ns,zs,rfl,hL,kk⟩:=h;rfl
 · obtain⟨x,td,ed,bl,ps,ns,zs,rfl,hL,kk⟩:=h;refine⟨_,(qf (qq (zy (r:=qjM K) zA (by rfl) T.n_list q9 (qa (qU (pv 0) rfl) qb)))),?_⟩;(try dsimp only [zi,Cx.nox]);obtain⟨dx,hx⟩:=hL.hx;exact⟨_,rfl,x,_,dx,_,_,rfl,hx,T.cl_Log,T.n_Log_bound,rfl,bl,zs,rfl,.inl (SqL.of hL.hb),fun l fl=>kk l fl⟩
theorem JQ {a:Ad} (T:Txt K mg a):qy P w K mg base CX0 2 a.f_m a.fd_m ["self","place","table"] (ZB a):=by
 have G_o:=qbF (P:=P) (w:=w) (base:=base) T;refine T.d_m.F.ok qcS (fun vs H Q E h=>?_) (fun cdv A outer s H vs Q E hr h=>?_)
 · obtain⟨x,td,ed,bl,ps,ns,zs,pl,v,rfl,hL,ok,kk⟩:=h;rfl
 · obtain⟨x,td,ed,bl,ps,ns,zs,pl,v,rfl,hL,ok,kk⟩:=h;have hu:=qD hr;have h_o:Room (1) _:=hr.mono (by decide);obtain⟨t_MOST_PLACES,c_MOST_PLACES⟩:=T.g_MOST_PLACES
   refine⟨_,(qc (qG (q8 (qX (qj G_o h_o rfl T.d_o.m T.d_o.k T.d_o.b .nil qk (qa (pv 1) qb))))
       (qf qN)
       qu)
     (qc (qG (PW.pt (qc0 (qv (qaD hu) (pv 1) (qU (pv 0) rfl) (by with_unfolding_all rfl)) (qaz (qv qjW (ql Je (by rfl) T.n_len qF (qa (qU (pv 0) rfl) qb)) (qS (v:=.int 6) rfl c_MOST_PLACES ⟨_,rfl⟩) (qB _)))))
       (qf qN)
       qu)
     (qf (qaA hu (qU (pv 0) rfl) (pv 1) (pv 2) rfl)))),?_⟩
   try dsimp only [zi,Cx.nox]
   refine⟨_,rfl,pl,rfl,ok,fun H1 S1=>⟨true,rfl,qT rfl ?_⟩⟩;have hL1:=hL.sm S1;obtain⟨dx,hx⟩:=hL1.hx;rcases kk with ⟨no,few,kk⟩|⟨ps',yes,few,ep,ek,kk⟩
   · have dg:qdB H1 td (.str pl) none:=.inl ⟨_,.inr pl,.inl hL1.ht,rfl,(qeh no).symm⟩;refine⟨_,rfl,_,rfl,x,_,dx,_,_,rfl,hx,T.cl_Log,T.n_Log_tables,rfl,td,_,rfl,dg,_,rfl,Ze rfl ?_⟩;refine⟨_,rfl,x,_,dx,_,_,rfl,hx,T.cl_Log,T.n_Log_tables,rfl,td,_,rfl,hL1.ht,_,_,rfl,rfl,_,rfl,zT (fun g=>absurd g ?_) (fun _=>?_)⟩
     · rw[qaj];omega
     refine⟨_,rfl,_,rfl,x,_,dx,_,_,rfl,hx,T.cl_Log,T.n_Log_tables,rfl,_,rfl,td,_,rfl,DPut.k (k:=.inr pl) hL1.ht (by rw[qaj];exact qhf (by omega)),?_⟩;rw[qfN no];exact kk _ (fun b o e nb=>by rw[qh nb];exact S1 b o e) (hL1.pt _ (qgt hL1.ndt no))
   · obtain⟨e,me,ee⟩:=qi8 yes;subst ee;refine⟨_,rfl,_,rfl,x,_,dx,_,_,rfl,hx,T.cl_Log,T.n_Log_tables,rfl,td,_,rfl,hL1.tget me,_,rfl,qT rfl (qT rfl ?_)⟩;refine⟨_,rfl,_,rfl,x,_,dx,_,_,rfl,hx,T.cl_Log,T.n_Log_tables,rfl,_,rfl,td,_,rfl,DPut.k (k:=.inr e.1) hL1.ht (by rw[qaj];exact qhf (by omega)),?_⟩;rw[ep];exact kk _ (fun b o e nb=>by rw[qh nb];exact S1 b o e) (hL1.pt _ (by rw[ek];exact hL1.ndt))
end
theorem qkY {K:Frag}{mg:Str->Option Value}{a:Ad} (T:Txt K mg a) {te:TE}{σ:L2.St}{H:Hp}{Q:VK}{x:Addr}{nm:Str}{kd:Kd} (hte:∀ R:V->Hp->Prop,R (.ref x) H->te σ H R) (en:EnD a H x nm kd) (k:∀ (l:Addr) (H':Hp),H l=none->Same H H'->H' l=some (.lst (kd.pls.map V.str))->Q (.ref l) H') :
   zR a.c_Entry "places" qI [] E0 te qdG σ H Q∨zR a.c_Within "places" qI [] E0 te qdG σ H Q∨zR a.c_At "places" qI [] E0 te qdG σ H Q∨zR a.c_Between "places" (qM K) [] E0 te qdG σ H Q∨zR a.c_Read "places" (qM K) [] E0 te qdG σ H Q∨zR a.c_Joint "places" (Qk a) [] E0 te qdG σ H Q∨zR a.c_Sifted "places" (Qa a) [] E0 te qdG σ H Q:=by
 have k0:∀ l,H l=none->Q (.ref l) (upd H l (.lst (kd.pls.map V.str))):=fun l fl=>k l _ fl (Same.new _ fl) qd
 cases en with
 | pl en =>
   rcases qi1 T hte ⟨nm,en⟩ k0 with h|h|h|h|h
   · exact .inl h
   · exact .inr (.inl h)
   · exact .inr (.inr (.inl h))
   · exact .inr (.inr (.inr (.inl h)))
   · exact .inr (.inr (.inr (.inr (.inl h))))
 | @jn dx l' ps hx hl h8 hp=>exact .inr (.inr (.inr (.inr (.inr (.inl (hte _ ⟨x,dx,_,rfl,hx,rfl,x,dx,l',nm,ps,rfl,hx,hl,h8,(fun p m=>⟨hp p m,p.2.one⟩),fun d H' fd S e=>k d H' fd S (by rw[e];show some (HO.lst (List.map V.str _))=some (HO.lst (List.map V.str ((ps.map (·.2)).foldl (fun acc k=>Qt acc k.pls) [])));rw[List.foldl_map])⟩))))))
 | @sf dx p f pn pk φ hx hp sk _=>exact .inr (.inr (.inr (.inr (.inr (.inr (hte _ ⟨x,dx,_,rfl,hx,rfl,x,dx,p,f,nm,pn,pk,rfl,hx,hp,sk,fun l fl=>k0 l fl⟩))))))
theorem qkJ {K:Frag}{mg:Str->Option Value}{a:Ad} (T:Txt K mg a) {te:TE}{ta:TA}{σ:L2.St}{H:Hp}{Q:VK}{x td:Addr}{ts:Pls}{nm:Str}{kd:Kd} (hte:∀ R:V->Hp->Prop,R (.ref x) H->te σ H R) (hta:∀ R:List V->Hp->Prop,R [.ref td] H->ta σ H R) (en:EnD a H x nm kd) (hp:∀ s∈kd.all,s∈ts.map (·.1)) (tq:Tq a H td ts) (k:Gv H Q (MK ts kd) 1000) :
   zR a.c_Entry "spans" zF [] E0 te ta σ H Q∨zR a.c_Within "spans" (qH K) [] E0 te ta σ H Q∨zR a.c_At "spans" (qH K) [] E0 te ta σ H Q∨zR a.c_Between "spans" (qK a) [] E0 te ta σ H Q∨zR a.c_Read "spans" (qK a) [] E0 te ta σ H Q∨zR a.c_Joint "spans" (QH a) [] E0 te ta σ H Q∨zR a.c_Sifted "spans" (Qj a) [] E0 te ta σ H Q:=by
 cases en with
 | pl en =>
   rcases qiK T hte hta en hp tq (fun d r H' fd S R c l m=>k d r H' fd S R c (Nat.le_trans l (by decide)) m) with h|h|h|h|h
   · exact .inl h
   · exact .inr (.inl h)
   · exact .inr (.inr (.inl h))
   · exact .inr (.inr (.inr (.inl h)))
   · exact .inr (.inr (.inr (.inr (.inl h))))
 | @jn dx l' ps hx hl h8 hpt=>exact .inr (.inr (.inr (.inr (.inr (.inl (hte _ ⟨x,dx,_,rfl,hx,rfl,hta _ ⟨x,dx,l',td,nm,ps,ts,rfl,hx,hl,h8,(fun p m=>⟨hpt p m,fun s ms=>hp s (List.mem_flatMap.mpr ⟨p.2,List.mem_map.mpr ⟨p,m,rfl⟩,ms⟩)⟩),tq,fun f r H' ff S' R c l' m=>k f r H' ff S' R c (Nat.le_trans l' (by decide)) fun n=>(m n).trans ⟨fun⟨z1,z2⟩=>⟨z1,fun q mq=>by
     obtain⟨p,mp',rfl⟩:=List.mem_map.mp mq
     exact z2 p mp'⟩,fun⟨z1,z2⟩=>⟨z1,fun p mp'=>z2 _ (List.mem_map.mpr ⟨p,mp',rfl⟩)⟩⟩⟩⟩))))))
 | @sf dx p f pn pk φ hx hp' sk hf=>exact .inr (.inr (.inr (.inr (.inr (.inr (hte _ ⟨x,dx,_,rfl,hx,rfl,hta _ ⟨x,dx,p,f,td,nm,pn,pk,φ,ts,rfl,hx,hp',sk,hp,tq,hf,k⟩⟩))))))
section
variable {P:Program}{w:World}{K:Frag}{mg:Str->Option Value}{base:Heap}
theorem JP {a:Ad} (T:Txt K mg a):qy P w K mg base CX0 8 a.f_y a.fd_y ["self","name"] (ZA a):=by
 have G_u:=jm (P:=P) (w:=w) (base:=base) T;have G_c:=zP (P:=P) (w:=w) (base:=base) T;have G_h:=Qd (P:=P) (w:=w) (base:=base) T;have G_ad:=qbb (P:=P) (w:=w) (base:=base) T;have G_ag:=qaH (P:=P) (w:=w) (base:=base) T;have G_f:=qc8 (P:=P) (w:=w) (base:=base) T;refine T.d_y.F.ok qcP (fun vs H Q E h=>?_) (fun cdv A outer s H vs Q E hr h=>?_)
 · obtain⟨x,td,ed,bl,ts,ns,zs,nm,y,kd,rfl,hL,tq,me,en,hp,kk⟩:=h;rfl
 · obtain⟨x,td,ed,bl,ts,ns,zs,nm,y,kd,rfl,hL,tq,me,en,hp,kk⟩:=h;have h_u:Room (1) _:=hr.mono (by decide);have h_c:Room (5) _:=hr.mono (by decide);have h_h:Room (6) _:=hr.mono (by decide);have h_ad:Room (7) _:=hr.mono (by decide);have h_ag:Room (7) _:=hr.mono (by decide);have h_f:Room (3) _:=hr.mono (by decide);refine⟨_,(qf (qq (PE.or (qL (qL (pv 0) T.cl_Log T.d_f.mt G_f h_f T.d_f.b .nil qk (qa (pv 1) qb)) T.cl_Entry T.d_u.mt G_u h_u T.d_u.b .nil qk (qa (qU (pv 0) rfl) qb)) (PE.or (qL (qL (pv 0) T.cl_Log T.d_f.mt G_f h_f T.d_f.b .nil qk (qa (pv 1) qb)) T.cl_Within T.d_c.mt G_c h_c T.d_c.b .nil qk (qa (qU (pv 0) rfl) qb)) (PE.or (qL (qL (pv 0) T.cl_Log T.d_f.mt G_f h_f T.d_f.b .nil qk (qa (pv 1) qb)) T.cl_At T.i_At_spans G_c h_c T.d_c.b .nil qk (qa (qU (pv 0) rfl) qb)) (PE.or (qL (qL (pv 0) T.cl_Log T.d_f.mt G_f h_f T.d_f.b .nil qk (qa (pv 1) qb)) T.cl_Between T.d_h.mt G_h h_h T.d_h.b .nil qk (qa (qU (pv 0) rfl) qb)) (PE.or (qL (qL (pv 0) T.cl_Log T.d_f.mt G_f h_f T.d_f.b .nil qk (qa (pv 1) qb)) T.cl_Read T.i_Read_spans G_h h_h T.d_h.b .nil qk (qa (qU (pv 0) rfl) qb)) (PE.or (qL (qL (pv 0) T.cl_Log T.d_f.mt G_f h_f T.d_f.b .nil qk (qa (pv 1) qb)) T.cl_Joint T.d_ad.mt G_ad h_ad T.d_ad.b .nil qk (qa (qU (pv 0) rfl) qb)) (qL (qL (pv 0) T.cl_Log T.d_f.mt G_f h_f T.d_f.b .nil qk (qa (pv 1) qb)) T.cl_Sifted T.d_ag.mt G_ag h_ag T.d_ag.b .nil qk (qa (qU (pv 0) rfl) qb)))))))))),?_⟩;(try dsimp only [zi,Cx.nox]);obtain⟨dx,hx⟩:=hL.hx;refine qkJ T (td:=td) (fun R h=>⟨_,rfl,x,dx,_,rfl,hx,rfl,_,rfl,x,td,ed,bl,tv ts,ns,zs,(nm,.ref y),rfl,hL,me,h⟩) (fun R h=>⟨_,rfl,x,_,dx,_,_,rfl,hx,T.cl_Log,T.n_Log_tables,rfl,h⟩) en hp tq kk
theorem qbG {a:Ad} (T:Txt K mg a):qy P w K mg base CX0 3 a.f_x a.fd_x ["self","entry"] (Jk a):=by
 have G_e:=Qp (P:=P) (w:=w) (base:=base) T;have G_g:=zV (P:=P) (w:=w) (base:=base) T;have G_ac:=qaJ (P:=P) (w:=w) (base:=base) T;have G_af:=JZ (P:=P) (w:=w) (base:=base) T;refine T.d_x.F.ok sc_Log_put (fun vs H Q E h=>?_) (fun cdv A outer s H vs Q E hr h=>?_)
 · obtain⟨x,td,ed,bl,ps,ns,zs,y,nm,kd,rfl,hL,en,hp,no,few,kk⟩:=h;rfl
 · obtain⟨x,td,ed,bl,ps,ns,zs,y,nm,kd,rfl,hL,en,hp,no,few,kk⟩:=h;have hu:=qD hr;have h_e:Room (1) _:=hr.mono (by decide);have h_g:Room (1) _:=hr.mono (by decide);have h_ac:Room (2) _:=hr.mono (by decide);have h_af:Room (2) _:=hr.mono (by decide);obtain⟨t_MOST_ENTRIES,c_MOST_ENTRIES⟩:=T.g_MOST_ENTRIES
   refine⟨_,(qc (qG (q8 (qX (ql (r:=qkt K) Jf (by rfl) T.n_isinstance qr (qa (pv 1) (qa (qS (v:=.ref a.c_Entry) rfl T.g_Entry rfl) qb)))))
       (qf qN)
       qu)
     (qc (qG (qv (qgh hu) (qU (pv 1) rfl) (qU (pv 0) rfl) (by with_unfolding_all rfl))
       (qf qN)
       qu)
     (qc (zr PassesOwn.never rfl (zc (PE.or (zd (pv 1) T.cl_Entry T.d_e.mt G_e h_e T.d_e.b .nil qk) (PE.or (zd (pv 1) T.cl_Within T.i_Within_places G_e h_e T.d_e.b .nil qk) (PE.or (zd (pv 1) T.cl_At T.i_At_places G_e h_e T.d_e.b .nil qk) (PE.or (zd (pv 1) T.cl_Between T.d_g.mt G_g h_g T.d_g.b .nil qk) (PE.or (zd (pv 1) T.cl_Read T.i_Read_places G_g h_g T.d_g.b .nil qk) (PE.or (zd (pv 1) T.cl_Joint T.d_ac.mt G_ac h_ac T.d_ac.b .nil qk) (zd (pv 1) T.cl_Sifted T.d_af.mt G_af h_af T.d_af.b .nil qk)))))))) (qp (i:=2) (sc_Log_put.nd) rfl (Or.inl rfl))
       (qf (qG (qv (qaD hu) (pv 2) (qU (pv 0) rfl) (by with_unfolding_all rfl))
         (qf qN)
         qu)))
     (qc (qG (qv qjW (ql Je (by rfl) T.n_len qF (qa (qU (pv 0) rfl) qb)) (qS (v:=.int 60) rfl c_MOST_ENTRIES ⟨_,rfl⟩) (qB _))
       (qf qN)
       qu)
     (qf (qaA hu (qU (pv 0) rfl) (qU (pv 1) rfl) (pv 1) rfl)))))),?_⟩
   try dsimp only [zi,Cx.nox]
   obtain⟨dx,hx⟩:=hL.hx;obtain⟨C,de,fe,he,ty,hk,cle,nae,lke⟩:=qlv T en;refine⟨_,rfl,_,_,_,_,rfl,ty,hk,true,rfl,qT rfl ?_⟩;have dg:qdB H ed (.str nm) none:=.inl ⟨_,.inr nm,.inl hL.he,rfl,(qeh no).symm⟩;refine⟨_,rfl,y,C,de,fe,_,rfl,he,cle,nae,lke,_,rfl,x,_,dx,_,_,rfl,hx,T.cl_Log,T.n_Log_entries,rfl,ed,_,rfl,dg,_,rfl,qT rfl ?_⟩;(try unfold qJ);(try dsimp only);refine qR (t:=qfH _ _ _) (fun σ' H'=>∃ s2:Option V,σ'=[some (.ref x),some (.ref y),s2]∧Same H H') (fun N hN=>?_) ?_
   · refine qkY T (fun R h=>⟨_,rfl,h⟩) en fun l H1 fl S1 hl=>?_;refine⟨l,rfl,⟨_,SqL.of hl⟩,zI (D:={ nx:=N,rt:=Q }) (K:=K) (a:=l) (xs:=kd.pls.map V.str) (fun j σ H'=>∃ s2:Option V,σ=[some (.ref x),some (.ref y),s2]∧H'=H1) ⟨_,rfl,rfl⟩ (fun j σ H' _ ⟨_,_,h⟩=>h▸SqL.of hl) ?_ ?_⟩
     · rintro j z σ H' hz ⟨s2,rfl,rfl⟩;obtain⟨s,hs,rfl⟩:=Zb hz;obtain⟨e,me,ee⟩:=qi8 (hp s (Kd.pls_all (List.mem_of_getElem? hs)));subst ee;exact⟨_,rfl,_,rfl,x,_,dx,_,_,rfl,S1 _ _ hx,T.cl_Log,T.n_Log_tables,rfl,td,_,rfl,(hL.sm S1).tget me,_,rfl,qT rfl ⟨_,rfl,rfl⟩⟩
     · rintro σ H' ⟨s2,rfl,rfl⟩;exact hN _ _ ⟨s2,rfl,S1⟩
   rintro _ H1 ⟨s2,rfl,S1⟩;have hL1:=hL.sm S1;have hx1:=S1 _ _ hx;refine⟨_,rfl,x,_,dx,_,_,rfl,hx1,T.cl_Log,T.n_Log_entries,rfl,ed,_,rfl,hL1.he,_,_,rfl,rfl,_,rfl,zT (fun g=>absurd g ?_) (fun _=>?_)⟩
   · rw[qaj];omega
   refine⟨_,rfl,_,rfl,x,_,dx,_,_,rfl,hx1,T.cl_Log,T.n_Log_entries,rfl,_,rfl,y,C,de,fe,_,rfl,S1 _ _ he,cle,nae,lke,ed,_,rfl,DPut.k (k:=.inr nm) hL1.he (by rw[qaj];exact qhf (by omega)),?_⟩;rw[qfN no];exact kk _ (fun b o e nb=>by rw[qh nb];exact S1 b o e) (hL1.pe _ (qgt hL1.nde no))
end
def oV:Option Int->V
 | none=>.non
 | some n=>.int n
def qiA (ws:List (Int×Int)) (n:Int):Option Int->Prop
 | some m=>n≤m∧Mem ws m∧∀ x,Mem ws x->n≤x->m≤x
 | none=>∀ x,Mem ws x->x < n
theorem qcy {ws:List (Int×Int)} (c:zj ws) {i j:Nat}{a b:Int×Int} (ha:ws[i]?=some a) (hb:ws[j]?=some b) (h:i < j):a.2+1 < b.1:=by
 obtain⟨l1,e1⟩:=List.getElem?_eq_some_iff.mp ha;obtain⟨l2,e2⟩:=List.getElem?_eq_some_iff.mp hb
 have:=List.pairwise_iff_getElem.mp c.2 i j l1 l2 h
 rw[e1,e2]at this;exact this
theorem qeU {ws:List (Int×Int)} (c:zj ws) {i:Nat}{a:Int×Int} (ha:ws[i]?=some a):a.1≤a.2:=c.1 a (List.mem_of_getElem? ha)
theorem qbP {ws:List (Int×Int)} (c:zj ws) {i j:Nat}{a b:Int×Int} (ha:ws[i]?=some a) (hb:ws[j]?=some b) (h:i≤j):a.2≤b.2:=by
 rcases Nat.lt_or_eq_of_le h with h|h
 · have:=qcy c ha hb h
   have:=qeU c hb
   omega
 · subst h;rw[ha]at hb;cases hb;exact Int.le_refl _
theorem qi9 {ws:List (Int×Int)}{x:Int} (h:Mem ws x):∃ (i:Nat) (w:Int×Int),ws[i]?=some w∧w.1≤x∧x≤w.2:=by
 obtain⟨w,hw,h1,h2⟩:=h;obtain⟨i,hi⟩:=List.getElem?_of_mem hw;exact⟨i,w,hi,h1,h2⟩
theorem qlz {ws:List (Int×Int)}{i:Nat}{w:Int×Int}{x:Int} (h:ws[i]?=some w) (h1:w.1≤x) (h2:x≤w.2):Mem ws x:=⟨w,List.mem_of_getElem? h,h1,h2⟩
section
variable {ws:List (Int×Int)}{n:Int}{k:Nat} (c:zj ws) (k1:∀ (i:Nat) w,i < k->ws[i]?=some w->w.2 < n) (k2:∀ (i:Nat) w,k≤i->ws[i]?=some w->n≤w.2)
include c k1 k2
theorem qip {p:Int×Int} (hp:ws[k]?=some p):qiA ws n (some (if n > p.1 then n else p.1)):=by
 have h2:=k2 k p (Nat.le_refl k) hp;have h0:=qeU c hp;refine⟨by split<;>omega,qlz hp (by split<;>omega) (by split<;>omega),fun x hx hn=>?_⟩;obtain⟨i,w,hi,w1,w2⟩:=qi9 hx;rcases Nat.lt_trichotomy i k with h|h|h
 · have:=k1 i w h hi;omega
 · subst h;rw[hp]at hi;cases hi;split<;>omega
 · have:=qcy c hp hi h
   split<;>omega
theorem qio (hk:ws.length≤k):qiA ws n none:=fun x hx=>by
 obtain⟨i,w,hi,w1,w2⟩:=qi9 hx
 have:=k1 i w (Nat.lt_of_lt_of_le (List.getElem?_eq_some_iff.mp hi).1 hk) hi
 omega
end
theorem qgY {ws:List (Int×Int)}{n:Int}{o:Option Int} (h:qiA ws n o):decide (oV o=V.int n)=true↔Mem ws n:=by
 rw[decide_eq_true_iff]
 cases o with
 | none =>
   refine⟨fun z=>(nomatch z),fun z=>?_⟩
   have:=h n z;omega
 | some m =>
   refine⟨fun z=>?_,fun z=>?_⟩
   · injection z with z;rw[← z];exact h.2.1
   · have:=h.1
     have:=h.2.2 n z (Int.le_refl n)
     show V.int m=V.int n;congr 1;omega
inductive Zp (vs:List V) (H:Hp) (Q:VK):Prop
 | mk (q:Addr) (ws:List (Int×Int)) (n:Int) (h1:vs=[.ref q,.int n]) (h2:Rs H q ws) (h3:zj ws) (h4:∀ k:Nat,k≤ws.length->(∀ (i:Nat) w,i < k->ws[i]?=some w->w.2 < n)->(∀ (i:Nat) w,k≤i->ws[i]?=some w->n≤w.2)->Q (.int k) H):Zp vs H Q
def jB:Sp:=fun vs H Q _=>Zp vs H Q
inductive Zt (vs:List V) (H:Hp) (Q:VK):Prop
 | mk (q:Addr) (ws:List (Int×Int)) (n:Int) (h1:vs=[.ref q,.int n]) (h2:Rs H q ws) (h3:zj ws) (h4:∀ o,qiA ws n o->Q (oV o) H):Zt vs H Q
def jG:Sp:=fun vs H Q _=>Zt vs H Q
inductive qea (vs:List V) (H:Hp) (Q:VK):Prop
 | mk (q:Addr) (ws:List (Int×Int)) (n:Int) (h1:vs=[.ref q,.int n]) (h2:Rs H q ws) (h3:zj ws) (h4:∀ b:Bool,(b=true↔Mem ws n)->Q (.bl b) H):qea vs H Q
def qiL:Sp:=fun vs H Q _=>qea vs H Q
abbrev qjX (nm:Str) (m:Int):List (Key×V):=[(.inr nm,.int m)]
inductive jF (vs:List V) (H:Hp) (Q:VK):Prop
 | mk (n d:Addr) (nm:Str) (m:Int) (h1:vs=[.ref n,.ref d]) (h2:H n=some (.lst [.str nm])) (h3:H d=some (.dK (qjX nm m))) (h4:∀ H',Same H H'->Q (.bl true) H'):jF vs H Q
def J8:Sp:=fun vs H Q _=>jF vs H Q
inductive jH (a:Ad) (vs:List V) (H:Hp) (Q:VK):Prop
 | mk (x td ed bl d y:Addr) (ts:Pls) (nm:Str) (kd:Kd) (m:Int) (h1:vs=[.ref x,.ref d]) (h2:Lo a H x td ed bl (tv ts) [(nm,V.ref y)] []) (h3:Tq a H td ts) (h4:EnD a H y nm kd) (h5:(∀ s∈kd.all,s∈ts.map (·.1))) (h6:H d=some (.dK (qjX nm m))) (h7:((MK ts kd m->∀ H',Same H H'->Q .non H')∧(¬ MK ts kd m->∀ (t:Addr) (H':Hp),Same H H'->H' t=some (.tup [.str "moment",.str nm])->Q (.ref t) H'))):jH a vs H Q
def J9 (a:Ad):Sp:=fun vs H Q _=>jH a vs H Q
section
variable {P:Program}{w:World}{K:Frag}{mg:Str->Option Value}{base:Heap}
theorem qcb {a:Ad} (T:Txt K mg a):qy P w K mg base CX0 1 a.f_L a.fd_L ["spans","number"] jB:=by
 refine T.d_L.F.ok sc_place_from (fun vs H Q E h=>?_) (fun cdv A outer s H vs Q E hr h=>?_)
 · obtain⟨q,ws,n,rfl,hrs,can,kk⟩:=h;rfl
 · obtain⟨q,ws,n,rfl,hrs,can,kk⟩:=h;have hU:=hr.units
   refine⟨_,(qc (qz (i:=2) sc_place_from.nd rfl (Or.inl rfl) qe)
     (qc (qz (i:=3) sc_place_from.nd rfl (Or.inl rfl) (ql qZ (by rfl) T.n_len qF (qa (pv 0) qb)))
     (qc (qey PassesOwn.never (qv qa7 (pv 2) (pv 3) (qB _))
       (qc (qz (i:=4) sc_place_from.nd rfl (Or.inl rfl) (qx qaE (qx QY (pv 2) (pv 3)) qe))
       (qf (qG (qv qa7 (qA (r:=rIx K) qt (qA (r:=rIx K) qt (pv 0) (pv 4) (fun _ _=>rfl)) qe (fun _ _=>rfl)) (pv 1) (qB _))
         (qf (qz (i:=2) sc_place_from.nd rfl (Or.inl rfl) (qx QY (pv 4) qe)))
         (qf (qz (i:=3) sc_place_from.nd rfl (Or.inl rfl) (pv 4)))))))
     (qf (qq (pv 2)))))),?_⟩
   try dsimp only [zi,Cx.nox]
   obtain⟨zs,hq,tp⟩:=id hrs;refine⟨_,rfl,_,_,rfl,.inl ⟨_,SqL.of hq,rfl⟩,?_⟩;refine qhq (fun σ H2=>∃ (lo hi:Int) (m:Option V),σ=[some (.ref q),some (.int n),some (.int lo),some (.int hi),m]∧H2=H∧0≤lo∧lo≤hi∧hi≤ws.length∧(∀ (i:Nat) p,(i:Int) < lo->ws[i]?=some p->p.2 < n)∧∀ (i:Nat) p,hi≤i->ws[i]?=some p->n≤p.2) (fun σ _=>match σ with|[_,_,some (.int lo),some (.int hi),_]=>(hi - lo).toNat|_=>0) ⟨0,_,none,rfl,rfl,Int.le_refl 0,by omega,by rw[tp.1];exact Int.le_refl _,fun i p h=>absurd h (by omega),fun i p h e=>absurd (List.getElem?_eq_some_iff.mp e).1 (by rw[tp.1]at h;omega)⟩ ?_ ?_
   · rintro σ H2 ⟨lo,hi,m,rfl,rfl,h0,h1,h2,h3,h4⟩;refine⟨_,rfl,_,rfl,_,_,rfl,rfl,_,rfl,?_⟩;refine zT (fun g=>?_) (fun g=>?_)
     · refine⟨_,rfl,_,rfl,.inl ⟨_,_,rfl,rfl,_,_,rfl,rfl,⟨by decide,by decide⟩,?_⟩⟩;obtain⟨mid,hm⟩:∃ mid:Nat,(lo+hi) / 2=(mid:Int):=⟨((lo+hi) / 2).toNat,by omega⟩
       have hml:mid < ws.length:=by omega
       obtain⟨p,tpm⟩:∃ p,ws[mid]?=some p:=⟨_,List.getElem?_eq_getElem hml⟩
       obtain⟨t,hz,ht⟩:=tp.at_ tpm;refine⟨_,rfl,_,rfl,.inl ⟨q,_,_,_,rfl,rfl,SqL.of hq,(by show atI zs ((lo+hi) / 2)=some (.ref t);rw[hm];exact zh hz),.inr (.inl ⟨t,_,_,_,rfl,rfl,SqT.of ht,rfl,_,rfl,_,_,rfl,rfl,_,rfl,?_⟩)⟩⟩;refine zT (fun g2=>?_) (fun g2=>?_)
       · refine⟨_,rfl,.inl ⟨_,_,rfl,rfl,⟨_,hi,_,rfl,rfl,by omega,by omega,h2,fun i p' hi' e=>?_,h4⟩,?_⟩⟩
         · have:p'.2≤p.2:=qbP can e tpm (by omega)
           omega
         · show (hi - ((lo+hi) / 2+1)).toNat < (hi - lo).toNat;omega
       · refine⟨_,rfl,⟨lo,_,_,rfl,rfl,h0,by omega,by omega,h3,fun i p' hi' e=>?_⟩,?_⟩
         · have:p.2≤p'.2:=qbP can tpm e (by omega)
           omega
         · show ((lo+hi) / 2 - lo).toNat < (hi - lo).toNat;omega
     · have e:hi=lo:=by omega
       subst e;have h:=kk hi.toNat (by omega) (fun i p hi' e=>h3 i p (by omega) e) (fun i p hi' e=>h4 i p (by omega) e);rw[Int.toNat_of_nonneg h0]at h;exact⟨_,rfl,h⟩
   · rintro σ H2 Q1 Q2 hm ⟨x,hx,y,hy,i,j,e1,e2,b,e3,q1⟩;exact⟨x,hx,y,hy,i,j,e1,e2,b,e3,hm _ _ q1⟩
theorem qcd {a:Ad} (T:Txt K mg a):qy P w K mg base CX0 2 a.f_O a.fd_O ["spans","number"] jG:=by
 have G_L:=qcb (P:=P) (w:=w) (base:=base) T;refine T.d_O.F.ok sc_first_from (fun vs H Q E h=>?_) (fun cdv A outer s H vs Q E hr h=>?_)
 · obtain⟨q,ws,n,rfl,hrs,can,kk⟩:=h;rfl
 · obtain⟨q,ws,n,rfl,hrs,can,kk⟩:=h;have h_L:Room (1) _:=hr.mono (by decide)
   refine⟨_,(qc (qz (i:=2) sc_first_from.nd rfl (Or.inl rfl) (qj G_L h_L rfl T.d_L.m T.d_L.k T.d_L.b .nil qk (qa (pv 0) (qa (pv 1) qb))))
     (qf (qq (qhL (qv qa7 (pv 2) (ql qZ (by rfl) T.n_len qF (qa (pv 0) qb)) (qB _)) (ql (zm rfl) (by rfl) T.n_max zn (qa (qA (r:=rIx K) qt (qA (r:=rIx K) qt (pv 0) (pv 2) (fun _ _=>rfl)) qe (fun _ _=>rfl)) (qa (pv 1) qb))) qbD)))),?_⟩
   try dsimp only [zi,Cx.nox]
   obtain⟨zs,hq,tp⟩:=id hrs;refine⟨_,rfl,_,rfl,q,ws,n,rfl,hrs,can,fun k k0 k1 k2=>?_⟩;refine⟨_,rfl,_,rfl,_,_,rfl,.inl ⟨_,SqL.of hq,rfl⟩,_,_,rfl,rfl,_,rfl,?_⟩;refine zT (fun g=>?_) (fun g=>?_)
   · have hk:k < ws.length:=by rw[← tp.1];omega
     obtain⟨p,hpk⟩:∃ p,ws[k]?=some p:=⟨_,List.getElem?_eq_getElem hk⟩
     obtain⟨t,hz,ht⟩:=tp.at_ hpk;exact⟨_,rfl,_,rfl,.inl ⟨q,_,_,_,rfl,rfl,SqL.of hq,zh hz,.inr (.inl ⟨t,_,_,_,rfl,rfl,SqT.of ht,rfl,_,rfl,_,_,rfl,kk (some _) (qip can k1 k2 hpk)⟩)⟩⟩
   · exact kk none (qio can k1 k2 (by rw[← tp.1];omega))
theorem qk9 {a:Ad} (T:Txt K mg a):qy P w K mg base CX0 3 a.f_M a.fd_M ["spans","thing"] qiL:=by
 have G_b:=QC (P:=P) (w:=w) (base:=base) T;have G_O:=qcd (P:=P) (w:=w) (base:=base) T;refine T.d_M.F.ok qkL (fun vs H Q E h=>?_) (fun cdv A outer s H vs Q E hr h=>?_)
 · obtain⟨q,ws,n,rfl,hrs,can,kk⟩:=h;rfl
 · obtain⟨q,ws,n,rfl,hrs,can,kk⟩:=h;have hU:=hr.units;have h_b:Room (1) _:=hr.mono (by decide);have h_O:Room (2) _:=hr.mono (by decide);refine⟨_,(qf (qq (jY (qj G_b h_b rfl T.d_b.m T.d_b.k T.d_b.b .nil qk (qa (pv 1) qb)) (JN (Qc (uEq hU) (qj G_O h_O rfl T.d_O.m T.d_O.k T.d_O.b .nil qk (qa (pv 0) (qa (pv 1) qb))) (pv 1) (qB _)))))),?_⟩;(try dsimp only [zi,Cx.nox]);refine⟨_,rfl,n,rfl,true,rfl,Ze rfl ?_⟩;refine⟨_,rfl,_,rfl,q,ws,n,rfl,hrs,can,fun o ho=>?_⟩;exact⟨_,rfl,.inl ⟨by cases o<;>rfl,kk _ (qgY ho)⟩⟩
theorem qdS {a:Ad} (T:Txt K mg a):qy P w K mg base CX0 2 a.f_V a.fd_V ["names","thing"] J8:=by
 have G_b:=QC (P:=P) (w:=w) (base:=base) T;refine T.d_V.F.ok qdK (fun vs H Q E h=>?_) (fun cdv A outer s H vs Q E hr h=>?_)
 · obtain⟨n,d,nm,m,rfl,hn,hd,kk⟩:=h;rfl
 · obtain⟨n,d,nm,m,rfl,hn,hd,kk⟩:=h;have hu:=qD hr;have hU:=hr.units;have h_b:Room (1) _:=hr.mono (by decide)
   refine⟨_,(qc (qG (PW.pt (qa6 (q8 (qX (ql zu (by rfl) T.n_isinstance qr (qa (pv 1) (qa (zO (v:=.ty "dict") rfl T.n_dict qfp rfl) qb))))) (jj (qv (uNe hU) (ql Je (by rfl) T.n_len qF (qa (pv 1) qb)) (ql qZ (by rfl) T.n_len qF (qa (pv 0) qb)) (qB _)))))
       (qf (qq jq))
       qu)
     (qf (qq (ql (qdp rfl) (by rfl) T.n_all qds (qa (Qb rfl (CompOk.def ["name","thing"] [none,some 1]) (zc (pv 0)) (fun _ _ _ _ _=>(qp (i:=0) (show List.Nodup (["name","thing"]:List Str) by decide +kernel) rfl (Or.inl rfl))) (fun _ _ _ _ _=>ZJ) (fun _ _ _ _ _=>(jY (Qc (qgh hu) (pv 0) (pv 1) (by with_unfolding_all rfl)) (JN (qj G_b h_b rfl T.d_b.m T.d_b.k T.d_b.b .nil qk (qa (zN hu (pv 1) (pv 0) (fun _ _=>rfl)) qb)))))) qb))))),?_⟩
   try dsimp only [zi,Cx.nox]
   have ty:tyN H (.ref d)=some "dict":=by simp[tyN,hd]
   refine⟨_,rfl,_,_,_,rfl,(by decide),ty,true,rfl,qT rfl ?_⟩;refine⟨_,rfl,d,_,rfl,hd,_,rfl,_,_,rfl,.inl ⟨_,SqL.of hn,rfl⟩,.inl ⟨rfl,false,rfl,qT rfl ?_⟩⟩;(try unfold qJ);(try dsimp only);refine⟨_,rfl,n,rfl,⟨_,SqL.of hn⟩,fun D fD=>?_⟩;refine zH (K:=K) (a:=n) (xs:=[.str nm]) (D:=D) (fun i σ H'=>∃ c0:Option V,σ=[c0,some (.ref d)]∧Same H H'∧H' D=some (.lst ((List.replicate i true).map V.bl))) ⟨none,rfl,Same.new _ fD,qd⟩ (fun i σ H' _ ⟨_,_,S,_⟩=>SqL.of (S _ _ hn)) ?_ ?_
   · rintro i z σ H' hz ⟨c0,rfl,S,hD⟩;have dg:qdB H' d (.str nm) (some (.int m)):=.inl ⟨_,.inr nm,.inl (S _ _ hd),rfl,by simp[qa1]⟩
     have ei:i=0∧z=.str nm:=by
       cases i with
       | zero=>cases hz;exact⟨rfl,rfl⟩
       | succ i=>cases hz
     obtain⟨rfl,rfl⟩:=ei;refine⟨_,rfl,_,rfl,d,_,rfl,dg,true,rfl,Ze rfl ⟨_,rfl,_,rfl,d,_,rfl,dg,m,rfl,?_⟩⟩;exact⟨_,hD,qo (Nat.le_of_ble_eq_true rfl),_,rfl,S.put fD _,qd⟩
   · rintro σ H' ⟨c0,rfl,S,hD⟩;exact⟨D,[true],rfl,SqL.of hD,kk H' S⟩
theorem qdT {a:Ad} (T:Txt K mg a):qy P w K mg base CX0 9 a.f_W a.fd_W ["log","thing"] (J9 a):=by
 have G_ai:=qc7 (P:=P) (w:=w) (base:=base) T;have G_V:=qdS (P:=P) (w:=w) (base:=base) T;have G_aj:=qc9 (P:=P) (w:=w) (base:=base) T;have G_M:=qk9 (P:=P) (w:=w) (base:=base) T;have G_y:=JP (P:=P) (w:=w) (base:=base) T;refine T.d_W.F.ok sc_fault_of (fun vs H Q E h=>?_) (fun cdv A outer s H vs Q E hr h=>?_)
 · obtain⟨x,td,ed,bl,d,y,ts,nm,kd,m,rfl,hL,tq,en,hp,hd,kk1,kk2⟩:=h;rfl
 · obtain⟨x,td,ed,bl,d,y,ts,nm,kd,m,rfl,hL,tq,en,hp,hd,kk1,kk2⟩:=h;have hu:=qD hr;have h_ai:Room (1) _:=hr.mono (by decide);have h_V:Room (2) _:=hr.mono (by decide);have h_aj:Room (1) _:=hr.mono (by decide);have h_M:Room (3) _:=hr.mono (by decide);have h_y:Room (8) _:=hr.mono (by decide);obtain⟨t_LATER,c_LATER⟩:=T.g_LATER;obtain⟨t_EARLIER,c_EARLIER⟩:=T.g_EARLIER;obtain⟨t_MINUTES,c_MINUTES⟩:=T.g_MINUTES
   refine⟨_,(qc (qz (i:=2) sc_fault_of.nd rfl (Or.inl rfl) (zd (pv 0) T.cl_Log T.d_ai.mt G_ai h_ai T.d_ai.b .nil qk))
     (qc (qG (q8 (qX (qj G_V h_V rfl T.d_V.m T.d_V.k T.d_V.b .nil qk (qa (pv 2) (qa (pv 1) qb)))))
       (qf (qq (zf (qa qP qb))))
       qu)
     (qc (zr PassesOwn.never rfl (zc (pv 2)) (qp (i:=3) (sc_fault_of.nd) rfl (Or.inl rfl))
       (qf (qG (q8 (qX (qj G_M h_M rfl T.d_M.m T.d_M.k T.d_M.b .nil qk (qa (qL (pv 0) T.cl_Log T.d_y.mt G_y h_y T.d_y.b .nil qk (qa (pv 3) qb)) (qa (zN hu (pv 1) (pv 3) (fun _ _=>rfl)) qb)))))
         (qf (qq (zf (qa qP (qa (pv 3) qb)))))
         qu)))
     (qc (zr PassesOwn.never rfl (qdO rfl T.n_enumerate (qa (zd (pv 0) T.cl_Log T.d_aj.mt G_aj h_aj T.d_aj.b .nil qk) qb)) (Qn rfl (qw (qp (i:=4) (sc_fault_of.nd) rfl (Or.inl rfl)) (qw (qp (i:=5) (sc_fault_of.nd) rfl (Or.inl rfl)) zx)))
       (qf (qG (qv qa7 (zN hu (pv 1) (qA (r:=rIx K) qt (pv 5) (qS (v:=.int 0) rfl c_LATER ⟨_,rfl⟩) (fun _ _=>rfl)) (fun _ _=>rfl)) (qx QY (zN hu (pv 1) (qA (r:=rIx K) qt (pv 5) (qS (v:=.int 1) rfl c_EARLIER ⟨_,rfl⟩) (fun _ _=>rfl)) (fun _ _=>rfl)) (qA (r:=rIx K) qt (pv 5) (qS (v:=.int 2) rfl c_MINUTES ⟨_,rfl⟩) (fun _ _=>rfl))) (qB _))
         (qf (qq (zf (qa qP (qa (pv 4) qb)))))
         qu)))
     (qf (qq qbD)))))),?_⟩
   try dsimp only [zi,Cx.nox]
   obtain⟨dx,hx⟩:=hL.hx;refine⟨_,rfl,x,dx,_,rfl,hx,rfl,x,td,ed,bl,tv ts,[(nm,V.ref y)],[],rfl,hL,fun n fn=>?_⟩;generalize hG:upd H n _=A1;obtain⟨s1,e1⟩:=qC hG fn;clear hG;have e1:A1 n=some (.lst [.str nm]):=e1;(try unfold qJ);(try dsimp only);refine⟨_,rfl,_,rfl,n,d,nm,m,rfl,e1,s1 _ _ hd,fun A2 s2=>⟨true,rfl,qT rfl ?_⟩⟩;have S2:=s1.trans s2;have e2:=s2 _ _ e1;clear e1;(try unfold qJ);(try dsimp only);refine qR (t:=qfH _ _ _) (fun σ' H'=>Same H H'∧MK ts kd m∧∃ s3 s4 s5:Option V,σ'=[some (.ref x),some (.ref d),some (.ref n),s3,s4,s5]) (fun N hN=>?_) ?_
   · refine⟨_,rfl,n,rfl,⟨_,SqL.of e2⟩,zI (D:={ nx:=N,rt:=Q }) (K:=K) (a:=n) (xs:=[.str nm]) (fun j σ H'=>Same A2 H'∧(j=1->MK ts kd m)∧∃ s3 s4 s5:Option V,σ=[some (.ref x),some (.ref d),some (.ref n),s3,s4,s5]) ⟨Same.refl _,(fun z=>nomatch z),_,_,_,rfl⟩ (fun j σ H' _ ⟨S,_⟩=>SqL.of (S _ _ e2)) ?_ ?_⟩
     · rintro j z σ H' hz ⟨S,_,s3,s4,s5,rfl⟩
       have ei:j=0∧z=.str nm:=by
         cases j with
         | zero=>cases hz;exact⟨rfl,rfl⟩
         | succ j=>cases hz
       obtain⟨rfl,rfl⟩:=ei;have S3:=S2.trans S;refine⟨_,rfl,x,dx,_,rfl,S3 _ _ hx,rfl,_,rfl,x,td,ed,bl,ts,[(nm,V.ref y)],[],nm,y,kd,rfl,hL.sm S3,tq.sm S3,List.mem_cons_self,en.same S3,hp,fun q r H2 fq S4 R c l mem=>?_⟩;have dg:qdB H2 d (.str nm) (some (.int m)):=.inl ⟨_,.inr nm,.inl ((S3.trans S4) _ _ hd),rfl,by simp[qa1]⟩;refine⟨_,rfl,_,rfl,d,_,rfl,dg,q,r,m,rfl,R,c,fun b hb=>⟨b,rfl,?_⟩⟩
       cases b with
       | true=>exact qT rfl ⟨S.trans S4,fun _=>(mem m).mp (hb.mp rfl),_,_,_,rfl⟩
       | false =>
         refine Ze rfl ⟨_,rfl,qo (Nat.le_of_ble_eq_true rfl),fun t ft=>?_⟩;exact kk2 (fun h=>by have:=hb.mpr ((mem m).mpr h);cases this) t _ (((S3.trans S4)).trans (Same.new _ ft)) qd
     · rintro σ H' ⟨S,h,w⟩;exact hN _ _ ⟨S2.trans S,h rfl,w⟩
   rintro _ A3 ⟨S3,mk,s3,s4,s5,rfl⟩;refine⟨_,rfl,x,dx,_,rfl,S3 _ _ hx,rfl,x,td,ed,bl,tv ts,[(nm,V.ref y)],[],rfl,hL.sm S3,fun b fb=>?_⟩;generalize hG:upd A3 b _=A4;obtain⟨u4,e4⟩:=qC hG fb;clear hG;refine⟨b,rfl,⟨_,SqL.of e4⟩,qcs (K:=K) (a:=b) (xs:=[]) (D:={ nx:=qhv (tC V.non) { nx:=fun _ H'=>Q .non H',rt:=Q },rt:=Q }) (fun j σ H'=>H'=A4) rfl (fun j σ H' _ h=>h▸SqL.of e4) (fun j z σ H' p hz=>nomatch hz) fun σ H' h=>?_⟩;exact kk1 mk H' (h▸S3.trans u4)
end
def dkv (ps:Pls):List (Key×V):=ps.map fun x=>((.inr x.1:Key),V.ref x.2.1)
structure TdI (H:Hp) (ps:Pls):Prop where
 rs:∀ x∈ps,Rs H x.2.1 x.2.2
 good:∀ x∈ps,Good x.2.2
 nm:∀ x∈ps,zC (.str x.1)=true
 nd:(ps.map (·.1)).Nodup
 ne:0 < ps.length
 few:ps.length≤4
def Td (H:Hp) (d:Addr) (ps:Pls):Prop:=Rd H d (.dK (dkv ps))∧TdI H ps
theorem Rd.bp {H H':Hp}{p d:Addr}{kvs:List (Key×V)} (h:Rd H d (.dK kvs)) (hp:PenAt H p) (b:But p H H'):Rd H' d (.dK kvs):=by
 obtain⟨c,x,y,_,e⟩:=hp;rcases h with h|⟨o,h⟩
 · exact .inl (b _ _ h (qW h e (by intro z;cases z)))
 · exact .inr ⟨o,b _ _ h (qW h e (by intro z;cases z))⟩
theorem Rd.sm {H H':Hp}{d:Addr}{u:HO} (h:Rd H d u) (b:Same H H'):Rd H' d u:=by
 rcases h with h|⟨o,h⟩
 · exact .inl (b _ _ h)
 · exact .inr ⟨o,b _ _ h⟩
theorem Td.bp {H H':Hp}{p d:Addr}{ps:Pls} (h:Td H d ps) (hp:PenAt H p) (b:But p H H'):Td H' d ps :=
 ⟨Rd.bp h.1 hp b,⟨fun x m=>(h.2.rs x m).bp hp b,h.2.good,h.2.nm,h.2.nd,h.2.ne,h.2.few⟩⟩
theorem Td.sm {H H':Hp}{d:Addr}{ps:Pls} (h:Td H d ps) (b:Same H H'):Td H' d ps :=
 ⟨Rd.sm h.1 b,⟨fun x m=>(h.2.rs x m).same b,h.2.good,h.2.nm,h.2.nd,h.2.ne,h.2.few⟩⟩
theorem qiF:∀ {ps:Pls},(ps.map (·.1)).Nodup->∀ x∈ps,qa1 (dkv ps) (.inr x.1)=some (V.ref x.2.1)
 | [],_,x,m=>nomatch m
 | y::ps,nd,x,m=>by
   rw[List.map_cons,List.nodup_cons]at nd;unfold dkv qa1;rw[List.map_cons,List.find?_cons];rcases List.mem_cons.mp m with rfl|m
   · simp
   · have n:¬ ((.inr y.1:Key)=.inr x.1):=fun e=>by
       injection e with e;exact nd.1 (e▸List.mem_map_of_mem m)
     rw[show decide (((.inr y.1:Key),V.ref y.2.1).1=.inr x.1)=false by simpa using n];exact qiF nd.2 x m
theorem qjs:∀ {ps:Pls}{pl:Str},pl∉ps.map (·.1)->qa1 (dkv ps) (.inr pl)=none
 | [],_,_=>rfl
 | y::ps,pl,h=>by
   rw[List.map_cons,List.mem_cons,not_or]at h;unfold dkv qa1;rw[List.map_cons,List.find?_cons];have n:¬ ((.inr y.1:Key)=.inr pl):=fun e=>by injection e with e;exact h.1 e.symm
   rw[show decide (((.inr y.1:Key),V.ref y.2.1).1=.inr pl)=false by simpa using n];exact qjs h.2
theorem Td.get {H:Hp}{d:Addr}{ps:Pls} (h:Td H d ps) {x:Str×Addr×List (Int×Int)} (m:x∈ps):qdB H d (.str x.1) (some (.ref x.2.1)):=.inl ⟨_,.inr x.1,h.1,rfl,(qiF h.2.nd x m).symm⟩
theorem jz {α:Type}{l:List α}{i:Nat}{x:α} (h:l[i]?=some x):l.take (i+1)=l.take i++[x]:=by rw[List.take_add_one,h];rfl
def qiN (rows:List (Int×Int)) (m:Int):Int:=((rows.filter fun r=>decide (r.1≤m)).map (·.2)).getLast?.getD 0
def rdg (rows:List (Int×Int)) (m:Int):Int:=m+qiN rows m
theorem qcn {rows:List (Int×Int)} (good:Good rows) {m:Int} (h0:0≤m):∃ (i:Nat) (r:Int×Int),rows[i]?=some r∧r.1≤m∧(∀ (j:Nat) s,i < j->rows[j]?=some s->m < s.1)∧qiN rows m=r.2:=by
 obtain⟨nf,hf⟩:=good.fst
 have key:∀ (l:List (Int×Int)),Asc l->(∃ r∈l,r.1≤m)->∃ (i:Nat) (r:Int×Int),l[i]?=some r∧r.1≤m∧(∀ (j:Nat) s,i < j->l[j]?=some s->m < s.1)∧qiN l m=r.2:=by
   intro l
   induction l with
   | nil=>rintro _ ⟨r,h,_⟩;cases h
   | cons x l ih =>
     intro as ex;have as':Asc l:=(List.pairwise_cons.mp as).2;by_cases e:∃ r∈l,r.1≤m
     · obtain⟨i,r,h1,h2,h3,h4⟩:=ih as' e;refine⟨i+1,r,h1,h2,fun j s hj hs=>?_,?_⟩
       · cases j with
         | zero=>omega
         | succ j=>exact h3 j s (by omega) hs
       · have hx:x.1≤m:=by
           have:=(List.pairwise_cons.mp as).1 r (List.mem_of_getElem? h1)
           omega
         unfold qiN at h4 ⊢;rw[List.filter_cons,if_pos (decide_eq_true hx),List.map_cons]
         have ne:((l.filter fun r=>decide (r.1≤m)).map (·.2))≠[]:=by
           intro z
           have:=List.map_eq_nil_iff.mp z
           have m2:r∈l.filter fun r=>decide (r.1≤m):=List.mem_filter.mpr ⟨List.mem_of_getElem? h1,decide_eq_true h2⟩;rw[this]at m2;cases m2
         rw[List.getLast?_cons_of_ne_nil ne];exact h4
     · have nx:∀ r∈l,m < r.1:=fun r h=>Int.not_le.mp fun z=>e ⟨r,h,z⟩;obtain⟨r,hr,hm⟩:=ex
       have er:r=x:=by
         rcases List.mem_cons.mp hr with z|z
         · exact z
         · have:=nx r z;omega
       subst er;refine⟨0,r,rfl,hm,fun j s hj hs=>?_,?_⟩
       · cases j with
         | zero=>omega
         | succ j=>exact nx s (List.mem_of_getElem? hs)
       · unfold qiN;rw[List.filter_cons,if_pos (decide_eq_true hm),List.filter_eq_nil_iff.mpr (fun a ha=>by have:=nx a ha;simp;omega)];rfl
 refine key rows good.asc ⟨(0,nf),?_,h0⟩;exact List.mem_of_mem_head? hf
theorem qkP {rows:List (Int×Int)} (good:Good rows) {m:Int} (h0:0≤m):m - 2880≤rdg rows m∧rdg rows m≤m+2880:=by
 obtain⟨i,r,h1,_,_,h4⟩:=qcn good h0
 have:=good.ok r (List.mem_of_getElem? h1)
 unfold rdg;omega
theorem qgZ {rows:List (Int×Int)}{i:Nat} (h:i < rows.length):(qg0 rows)[i]?=some (if i+1 < rows.length then (rows.getD (i+1) (0,0)).1 - 1 else 1000000000):=by
 unfold qg0;by_cases c:i+1 < rows.length
 · rw[if_pos c,List.getElem?_append_left (by rw[List.length_map,List.length_drop];omega),List.getElem?_map,List.getElem?_drop,Nat.add_comm 1 i,List.getElem?_eq_getElem c,List.getD_eq_getElem?_getD,List.getElem?_eq_getElem c];rfl
 · have e:i=((rows.drop 1).map fun r=>r.1 - 1).length:=by rw[List.length_map,List.length_drop];omega
   rw[if_neg c,List.getElem?_append_right (by omega),← e,Nat.sub_self];rfl
theorem qfO {rows:List (Int×Int)} (good:Good rows) {m lo hi:Int} (h0:0≤m) (h9:m≤1000000000):Mem (shw rows lo hi) m↔lo≤rdg rows m∧rdg rows m≤hi:=by
 obtain⟨i,r,h1,h2,h3,h4⟩:=qcn good h0;have il:=(List.getElem?_eq_some_iff.mp h1).1;have hi_:=qeB rows i r _ h1 (qgZ il)
 have en:m≤(if i+1 < rows.length then (rows.getD (i+1) (0,0)).1 - 1 else 1000000000):=by
   by_cases c:i+1 < rows.length
   · rw[if_pos c,List.getD_eq_getElem?_getD,List.getElem?_eq_getElem c]
     have:=h3 (i+1) rows[i+1] (by omega) (List.getElem?_eq_getElem c)
     show m≤rows[i+1].1 - 1;omega
   · rw[if_neg c];exact h9
 generalize (if i+1 < rows.length then (rows.getD (i+1) (0,0)).1 - 1 else 1000000000)=e at hi_ en;unfold rdg;rw[h4];constructor
 · rintro⟨w,mw,w1,w2⟩;obtain⟨p,mp',rfl⟩:=List.mem_map.mp mw;obtain⟨j,hj⟩:=List.getElem?_of_mem mp';have jl:j < rows.length:=by have:=(List.getElem?_eq_some_iff.mp hj).1;rw[Jn]at this;exact this
   have hj':=qeB rows j _ _ (List.getElem?_eq_getElem jl) (qgZ jl);rw[hj]at hj';have ep:=Option.some.inj hj';unfold mp at w1 w2;dsimp only at w1 w2;have a1:p.1≤m:=by split at w1<;>omega
   have a2:m≤p.2.1:=by split at w2<;>omega
   have a3:lo - p.2.2≤m:=by split at w1<;>omega
   have a4:m≤hi - p.2.2:=by split at w2<;>omega
   have ji:j=i:=by
     rcases Nat.lt_trichotomy j i with z|z|z
     · exfalso;have c:j+1 < rows.length:=by omega
       have e2:p.2.1=(rows.getD (j+1) (0,0)).1 - 1:=by rw[ep,if_pos c]
       rw[List.getD_eq_getElem?_getD,List.getElem?_eq_getElem c]at e2;have e3:p.2.1=rows[j+1].1 - 1:=e2
       have le:rows[j+1].1≤r.1:=by
         obtain⟨_,er⟩:=List.getElem?_eq_some_iff.mp h1;rcases Nat.lt_or_eq_of_le (show j+1≤i by omega) with y|y
         · have:=(List.pairwise_iff_getElem.mp good.asc) (j+1) i c il y
           rw[er]at this;omega
         · subst y;rw[er];exact Int.le_refl _
       omega
     · exact z
     · have:=h3 j rows[j] z (List.getElem?_eq_getElem jl)
       have e1:p.1=rows[j].1:=by rw[ep]
       omega
   subst ji
   have e2:p.2.2=r.2:=by
     obtain⟨_,er⟩:=List.getElem?_eq_some_iff.mp h1;rw[ep,← er]
   omega
 · rintro⟨g1,g2⟩;refine⟨_,List.mem_map.mpr ⟨_,List.mem_of_getElem? hi_,rfl⟩,?_,?_⟩
   · unfold mp;dsimp only;split<;>omega
   · unfold mp;dsimp only;split<;>omega
inductive Spc:Str->Str->Str->Int->Int->Prop
 | any {nm:Str}:zC (.str nm)=true->Spc "any" nm "" 0 1000000000
 | within {nm:Str}{lo hi:Int}:zC (.str nm)=true->(0≤lo∧lo≤1000000000)->(0≤hi∧hi≤1000000000)->Spc "within" nm "" lo hi
 | at_ {nm:Str}{m:Int}:zC (.str nm)=true->(0≤m∧m≤1000000000)->Spc "at" nm "" m m
 | between {nm pl:Str}{lo hi:Int}:zC (.str nm)=true->zC (.str pl)=true->(-10000000000≤lo∧lo≤10000000000)->(-10000000000≤hi∧hi≤10000000000)->Spc "between" nm pl lo hi
 | read {nm pl:Str}{m:Int}:zC (.str nm)=true->zC (.str pl)=true->(-10000000000≤m∧m≤10000000000)->Spc "read" nm pl m m
def qlH (wd nm pl:Str) (lo hi:Int):List V:=[.str wd,.str nm,.str pl,.int lo,.int hi]
def QZ (s:Str×Str×Int×Int):Pk:=if s.1="any" then .any else if s.1="within" then .wi s.2.2.1 s.2.2.2 else if s.1="at" then .at_ s.2.2.1 else if s.1="between" then .bt s.2.1 s.2.2.1 s.2.2.2 else .rd s.2.1 s.2.2.1
theorem qez {pl:Str}{lo hi:Int}:QZ ("any",pl,lo,hi)=.any:=if_pos rfl
theorem qf9 {pl:Str}{lo hi:Int}:QZ ("within",pl,lo,hi)=.wi lo hi:=(if_neg (show ¬ ("within":Str)="any" by decide)).trans (if_pos rfl)
theorem qhI {pl:Str}{lo hi:Int}:QZ ("at",pl,lo,hi)=.at_ lo:=(if_neg (show ¬ ("at":Str)="any" by decide)).trans ((if_neg (show ¬ ("at":Str)="within" by decide)).trans (if_pos rfl))
theorem qhH {pl:Str}{lo hi:Int}:QZ ("between",pl,lo,hi)=.bt pl lo hi:=(if_neg (show ¬ ("between":Str)="any" by decide)).trans ((if_neg (show ¬ ("between":Str)="within" by decide)).trans ((if_neg (show ¬ ("between":Str)="at" by decide)).trans (if_pos rfl)))
theorem qga {pl:Str}{lo hi:Int}:QZ ("read",pl,lo,hi)=.rd pl lo:=(if_neg (show ¬ ("read":Str)="any" by decide)).trans ((if_neg (show ¬ ("read":Str)="within" by decide)).trans ((if_neg (show ¬ ("read":Str)="at" by decide)).trans (if_neg (show ¬ ("read":Str)="between" by decide))))
inductive qbl (a:Ad) (vs:List V) (H:Hp) (Q:VK):Prop
 | mk (s:Addr) (wd nm pl:Str) (lo hi:Int) (h1:vs=[.ref s]) (h2:H s=some (.tup (qlH wd nm pl lo hi))) (h3:Spc wd nm pl lo hi) (h4:∀ (x:Addr) (H':Hp),H x=none->Same H H'->EnP a H' x nm (QZ (wd,pl,lo,hi))->Q (.ref x) H'):qbl a vs H Q
def qee (a:Ad):Sp:=fun vs H Q _=>qbl a vs H Q
inductive jK (vs:List V) (H:Hp) (Q:VK):Prop
 | mk (q:Addr) (rows:List (Int×Int)) (m:Int) (h1:vs=[.ref q,.int m]) (h2:Rs H q rows) (h3:Good rows) (h4:0≤m) (h5:∀ (n:Int) (H':Hp),Same H H'->m - 2880≤n->n≤m+2880->n=rdg rows m->Q (.int n) H'):jK vs H Q
def Q7:Sp:=fun vs H Q _=>jK vs H Q
section
variable {P:Program}{w:World}{K:Frag}{mg:Str->Option Value}{base:Heap}
theorem qhW {a:Ad} (T:Txt K mg a):qy P w K mg base CX0 9 a.f_0 a.fd_0 ["_law_spec"] (qee a):=by
 have G_aa:=qc6 (P:=P) (w:=w) (base:=base) T;have G_d:=zQ (P:=P) (w:=w) (base:=base) T;have G_v:=jk (P:=P) (w:=w) (base:=base) T;have G_9:=qfb (P:=P) (w:=w) (base:=base) T;have G_w:=ZN (P:=P) (w:=w) (base:=base) T;refine T.d_0.F.ok sc_Lmade (fun vs H Q E h=>?_) (fun cdv A outer s H vs Q E hr h=>?_)
 · obtain⟨s,wd,nm,pl,lo,hi,rfl,hs,sp,kk⟩:=h;rfl
 · obtain⟨s,wd,nm,pl,lo,hi,rfl,hs,sp,kk⟩:=h;have hU:=hr.units;have h_aa:Room (7+1) _:=hr.mono (by decide);have h_d:Room (3+1) _:=hr.mono (by decide);have h_v:Room (5+1) _:=hr.mono (by decide);have h_9:Room (7+1) _:=hr.mono (by decide);have h_w:Room (5+1) _:=hr.mono (by decide)
   refine⟨_,(qc (ZK (pv 0) (Qn rfl (qw (qp (i:=1) (sc_Lmade.nd) rfl (Or.inl rfl)) (qw (qp (i:=2) (sc_Lmade.nd) rfl (Or.inl rfl)) (qw (qp (i:=3) (sc_Lmade.nd) rfl (Or.inl rfl)) (qw (qp (i:=4) (sc_Lmade.nd) rfl (Or.inl rfl)) (qw (qp (i:=5) (sc_Lmade.nd) rfl (Or.inl rfl)) zx)))))))
     (qc (qG (qv (uEq hU) (pv 1) qP (qB _))
       (qf (qq (QI T.M_Entry G_d h_d rfl T.g_Entry T.d_d.b .nil qk (qa (pv 2) qb))))
       qu)
     (qc (qG (qv (uEq hU) (pv 1) qP (qB _))
       (qf (qq (QI T.M_Within G_v h_v rfl T.g_Within T.d_v.b .nil qk (qa (pv 2) (qa (pv 4) (qa (pv 5) qb))))))
       qu)
     (qc (qG (qv (uEq hU) (pv 1) qP (qB _))
       (qf (qq (QI T.M_At G_9 h_9 rfl T.g_At T.d_9.b .nil qk (qa (pv 2) (qa (pv 4) qb)))))
       qu)
     (qc (qG (qv (uEq hU) (pv 1) qP (qB _))
       (qf (qq (QI T.M_Between G_w h_w rfl T.g_Between T.d_w.b .nil qk (qa (pv 2) (qa (pv 3) (qa (pv 4) (qa (pv 5) qb)))))))
       qu)
     (qf (qq (QI T.M_Read G_aa h_aa rfl T.g_Read T.d_aa.b .nil qk (qa (pv 2) (qa (pv 3) (qa (pv 4) qb))))))))))),?_⟩
   try dsimp only [zi,Cx.nox]
   refine⟨_,rfl,s,_,rfl,SqT.of hs,rfl,_,_,rfl,_,_,rfl,_,_,rfl,_,_,rfl,_,_,rfl,rfl,?_⟩
   cases sp with
   | any ok =>
     rw[qez]at kk;refine⟨_,rfl,.inl ⟨rfl,_,rfl,zT (fun _=>?_) (fun g=>absurd rfl g)⟩⟩;exact⟨_,rfl,fun x dx f1 f2 ne=>⟨x,_,dx,nm,rfl,qd,ok,T.cl_Entry,T.n_Entry_name,fun H1 B1 h1=>⟨rfl,kk x H1 f1 (zg f1 f2 B1) (.any h1)⟩⟩⟩
   | within ok hlo hhi =>
     rw[qf9]at kk;refine⟨_,rfl,.inl ⟨rfl,_,rfl,zT (fun g=>absurd g (by decide)) (fun _=>?_)⟩⟩;refine⟨_,rfl,.inl ⟨rfl,_,rfl,zT (fun _=>?_) (fun g=>absurd rfl g)⟩⟩;exact⟨_,rfl,_,rfl,_,rfl,fun x dx f1 f2 ne=>⟨x,_,dx,nm,_,_,rfl,qd,ok,hlo,hhi,T.cl_Within,T.n_Within_name,T.n_Within_low,T.n_Within_high,fun H1 B1 h1=>⟨rfl,kk x H1 f1 (zg f1 f2 B1) (.wi h1 hlo hhi)⟩⟩⟩
   | at_ ok hm =>
     rw[qhI]at kk;refine⟨_,rfl,.inl ⟨rfl,_,rfl,zT (fun g=>absurd g (by decide)) (fun _=>?_)⟩⟩;refine⟨_,rfl,.inl ⟨rfl,_,rfl,zT (fun g=>absurd g (by decide)) (fun _=>?_)⟩⟩;refine⟨_,rfl,.inl ⟨rfl,_,rfl,zT (fun _=>?_) (fun g=>absurd rfl g)⟩⟩;exact⟨_,rfl,_,rfl,fun x dx f1 f2 ne=>⟨x,dx,nm,_,rfl,qd,ok,hm,fun H1 B1 h1=>⟨rfl,kk x H1 f1 (zg f1 f2 B1) (.at_ h1)⟩⟩⟩
   | between ok okp hlo hhi =>
     rw[qhH]at kk;refine⟨_,rfl,.inl ⟨rfl,_,rfl,zT (fun g=>absurd g (by decide)) (fun _=>?_)⟩⟩;refine⟨_,rfl,.inl ⟨rfl,_,rfl,zT (fun g=>absurd g (by decide)) (fun _=>?_)⟩⟩;refine⟨_,rfl,.inl ⟨rfl,_,rfl,zT (fun g=>absurd g (by decide)) (fun _=>?_)⟩⟩;refine⟨_,rfl,.inl ⟨rfl,_,rfl,zT (fun _=>?_) (fun g=>absurd rfl g)⟩⟩;exact⟨_,rfl,_,rfl,_,rfl,_,rfl,fun x dx f1 f2 ne=>⟨x,_,dx,nm,pl,_,_,rfl,qd,ok,okp,hlo,hhi,T.cl_Between,T.n_Between_name,T.n_Between_place,T.n_Between_low,T.n_Between_high,fun H1 B1 h1=>⟨rfl,kk x H1 f1 (zg f1 f2 B1) (.bt h1 hlo hhi)⟩⟩⟩
   | read ok okp hm =>
     rw[qga]at kk;refine⟨_,rfl,.inl ⟨rfl,_,rfl,zT (fun g=>absurd g (by decide)) (fun _=>?_)⟩⟩;refine⟨_,rfl,.inl ⟨rfl,_,rfl,zT (fun g=>absurd g (by decide)) (fun _=>?_)⟩⟩;refine⟨_,rfl,.inl ⟨rfl,_,rfl,zT (fun g=>absurd g (by decide)) (fun _=>?_)⟩⟩;refine⟨_,rfl,.inl ⟨rfl,_,rfl,zT (fun g=>absurd g (by decide)) (fun _=>?_)⟩⟩;exact⟨_,rfl,_,rfl,_,rfl,fun x dx f1 f2 ne=>⟨x,dx,nm,pl,_,rfl,qd,ok,okp,hm,fun H1 B1 h1=>⟨rfl,kk x H1 f1 (zg f1 f2 B1) (.rd h1 hm)⟩⟩⟩
theorem ju {a:Ad} (T:Txt K mg a):qy P w K mg base CX0 1 a.f_k a.fd_k ["_law_rows_here","_law_moment"] Q7:=by
 refine T.d_k.F.ok qdL (fun vs H Q E h=>?_) (fun cdv A outer s H vs Q E hr h=>?_)
 · obtain⟨q,rows,m,rfl,⟨zs,hq,tz⟩,good,m0,kk⟩:=h;rfl
 · obtain⟨q,rows,m,rfl,⟨zs,hq,tz⟩,good,m0,kk⟩:=h;have hu:=qD hr;refine⟨_,(qf (qq (qx QY (pv 1) (qA (r:=rIx K) qt (Qb rfl (CompOk.def ["_law_begin","_law_shift_here","_law_moment"] [none,none,some 1]) (zc (pv 0)) (fun _ _ _ _ _=>(show PG _ _ (qku K 2 _) from (Qn rfl (qw (qp (i:=0) (show List.Nodup (["_law_begin","_law_shift_here","_law_moment"]:List Str) by decide +kernel) rfl (Or.inl rfl)) (qw (qp (i:=1) (show List.Nodup (["_law_begin","_law_shift_here","_law_moment"]:List Str) by decide +kernel) rfl (Or.inl rfl)) zx))))) (fun _ _ _ _ _=>(Jm (qv zS (pv 0) (pv 2) (qB _)))) (fun _ _ _ _ _=>(pv 1))) (jW Qu qe) (fun _ _=>rfl))))),?_⟩;(try dsimp only [zi,Cx.nox]);have few:=good.few;refine⟨_,rfl,_,rfl,q,rfl,⟨_,SqL.of hq⟩,fun D fD=>?_⟩;refine zH (K:=K) (a:=q) (xs:=zs) (D:=D) (fun i σ H2=>∃ (c0 c1:Option V),σ=[c0,c1,some (.int m)]∧Same H H2∧H2 D=some (.lst ((((rows.take i).filter fun r=>decide (r.1≤m)).map (·.2)).map V.int))) ⟨none,none,rfl,Same.new _ fD,qd⟩ (fun i σ H2 _ ⟨_,_,_,S,_⟩=>SqL.of (S _ _ hq)) ?_ ?_
   · rintro i z σ H2 hz ⟨c0,c1,rfl,S,hD⟩;obtain⟨w,u,hw,rfl,hu⟩:=tz.of hz;have il:i < rows.length:=(List.getElem?_eq_some_iff.mp hw).1
     have ll:(((rows.take i).filter fun r=>decide (r.1≤m)).map (·.2)).length≤21:=by
       rw[List.length_map]
       have:=List.length_filter_le (fun r:Int×Int=>decide (r.1≤m)) (rows.take i)
       rw[List.length_take]at this;omega
     have es:(((rows.take (i+1)).filter fun r=>decide (r.1≤m)).map (·.2))=(((rows.take i).filter fun r=>decide (r.1≤m)).map (·.2))++(if decide (w.1≤m)=true then [w.2] else []):=by
       rw[jz hw,List.filter_append,List.map_append];congr 1;rw[List.filter_cons];split<;>rfl
     refine⟨u,_,rfl,SqT.of (S _ _ hu),rfl,_,_,rfl,_,_,rfl,rfl,?_⟩;refine⟨_,rfl,_,rfl,_,_,rfl,rfl,_,rfl,zT (fun g=>?_) (fun g=>?_)⟩
     · refine⟨_,rfl,_,hD,qE (by rw[List.length_map];omega),_,_,rfl,S.put fD _,?_⟩;rw[qd,es,if_pos (decide_eq_true g),List.map_append];rfl
     · refine⟨_,_,rfl,S,?_⟩;rw[hD,es,if_neg (by rw[decide_eq_false g];decide),List.append_nil]
   rintro σ H2 ⟨c0,c1,rfl,S,hD⟩;rw[tz.1,List.take_length]at hD;obtain⟨i,r,h1,h2,h3,h4⟩:=qcn good m0;obtain⟨b1,b2⟩:=qkP good m0
   have hx:(((rows.filter fun r=>decide (r.1≤m)).map (·.2)).getLast?)=some (qiN rows m):=by
     unfold qiN
     cases e:((rows.filter fun r=>decide (r.1≤m)).map (·.2)).getLast? with
     | some x=>rfl
     | none =>
       rw[List.getLast?_eq_none_iff,List.map_eq_nil_iff]at e;have m2:r∈rows.filter fun r=>decide (r.1≤m):=List.mem_filter.mpr ⟨List.mem_of_getElem? h1,decide_eq_true h2⟩;rw[e]at m2;cases m2
   refine⟨_,rfl,.inl ⟨D,_,_,_,rfl,rfl,SqL.of hD,QE (x:=V.int (qiN rows m)) (by rw[List.getLast?_map,hx];rfl),.inl ⟨_,_,rfl,rfl,?_⟩⟩⟩;exact kk _ H2 S b1 b2 rfl
end
inductive Jz (vs:List V) (H:Hp) (Q:VK):Prop
 | mk (p q tb:Addr) (nm:Str) (ps:Pls) (m:Int) (h1:vs=[.ref p,.str nm,.ref q,.ref tb,.int m]) (h2:PenAt H p) (h3:zC (.str nm)=true) (h4:H q=some (.lst ((ps.map (·.1)).map V.str))) (h5:Td H tb ps) (h6:(0≤m∧m≤1000000000)) (h7:∀ (s:Addr) (wd pl:Str) (lo hi:Int) (H':Hp),H s=none->But p H H'->PenAt H' p->H' s=some (.tup (qlH wd nm pl lo hi))->Spc wd nm pl lo hi->(pl=""∨pl∈ps.map (·.1))->Q (.ref s) H'):Jz vs H Q
def qbo:Sp:=fun vs H Q _=>Jz vs H Q
section
variable {P:Program}{w:World}{K:Frag}{mg:Str->Option Value}{base:Heap}
theorem qfa {a:Ad} (T:Txt K mg a):qy P w K mg base CX0 3 a.f_1 a.fd_1 ["_law_state","_law_name","_law_places","_law_tables","_law_moment"] qbo:=by
 have G_a:=Za (P:=P) (w:=w) (base:=base) T;have G_k:=ju (P:=P) (w:=w) (base:=base) T;refine T.d_1.F.ok sc_Laround (fun vs H Q E h=>?_) (fun cdv A outer s H vs Q E hr h=>?_)
 · obtain⟨p,q,tb,nm,ps,m,rfl,hp,hnm,hq,td,hm,kk⟩:=h;rfl
 · obtain⟨p,q,tb,nm,ps,m,rfl,hp,hnm,hq,td,hm,kk⟩:=h;have hu:=qD hr;have hU:=hr.units;have h_a:Room (2) _:=hr.mono (by decide);have h_k:Room (1) _:=hr.mono (by decide)
   refine⟨_,(@qc _ _ _ _ _ (by exact(@qz _ _ 5 _ _ _ _ (by exact sc_Laround.nd) (by rfl) (by exact(Or.inl rfl)) (by exact(@qA _ _ _ _ _ _ (rIx K) (by exact qt) (by exact(@qY _ _ _ _ (by exact(@qa _ _ _ _ _ (by exact qP) (by exact(@qa _ _ _ _ _ (by exact qP) (by exact(@qa _ _ _ _ _ (by exact qP) (by exact(@qa _ _ _ _ _ (by exact qP) (by exact(@qa _ _ _ _ _ (by exact qP) (by exact(@qa _ _ _ _ _ (by exact qP) (by exact(@qa _ _ _ _ _ (by exact qP) (by exact(@qa _ _ _ _ _ (by exact qP) (by exact(@qb _)) (by rfl))) (by rfl))) (by rfl))) (by rfl))) (by rfl))) (by rfl))) (by rfl))) (by rfl))))) (by exact(qj G_a h_a rfl T.d_a.m T.d_a.k T.d_a.b .nil qk (qa (pv 0) (qa qe qb)))) (by exact fun _ _=>rfl))) (by rfl) (by exact .inl rfl)))
     (by exact(@qc _ _ _ _ _ (by exact(qz (i:=6) sc_Laround.nd rfl (Or.inl rfl) (qA (r:=rIx K) qt (pv 2) (qj G_a h_a rfl T.d_a.m T.d_a.k T.d_a.b .nil qk (qa (pv 0) (qa (ql qZ (by rfl) T.n_len qF (qa (pv 2) qb)) qb))) (fun _ _=>rfl))))
     (by exact(@qc _ _ _ _ _ (by exact(@qz _ _ 7 _ _ _ _ (by exact sc_Laround.nd) (by rfl) (by exact(Or.inl rfl)) (by exact(@qA _ _ _ _ _ _ (rIx K) (by exact qt) (by exact(@qY _ _ _ _ (by exact(@qa _ _ _ _ _ (by exact qe) (by exact(@qa _ _ _ _ _ (by exact qe) (by exact(@qa _ _ _ _ _ (by exact qe) (by exact(@qa _ _ _ _ _ (by exact qe) (by exact(@qa _ _ _ _ _ (by exact qe) (by exact(@qa _ _ _ _ _ (by exact(qx Qo qe qe)) (by exact(@qb _)) (by rfl))) (by rfl))) (by rfl))) (by rfl))) (by rfl))) (by rfl))))) (by exact(qj G_a h_a rfl T.d_a.m T.d_a.k T.d_a.b .nil qk (qa (pv 0) (qa qe qb)))) (by exact fun _ _=>rfl))) (by rfl) (by exact .inl rfl)))
     (by exact(@qc _ _ _ _ _ (by exact(@qz _ _ 8 _ _ _ _ (by exact sc_Laround.nd) (by rfl) (by exact(Or.inl rfl)) (by exact(@qA _ _ _ _ _ _ (rIx K) (by exact qt) (by exact(@qY _ _ _ _ (by exact(@qa _ _ _ _ _ (by exact qe) (by exact(@qa _ _ _ _ _ (by exact qe) (by exact(@qa _ _ _ _ _ (by exact qe) (by exact(@qa _ _ _ _ _ (by exact qe) (by exact(@qa _ _ _ _ _ (by exact(qx Qo qe qe)) (by exact(@qb _)) (by rfl))) (by rfl))) (by rfl))) (by rfl))) (by rfl))))) (by exact(qj G_a h_a rfl T.d_a.m T.d_a.k T.d_a.b .nil qk (qa (pv 0) (qa qe qb)))) (by exact fun _ _=>rfl))) (by rfl) (by exact .inl rfl)))
     (by exact(@qc _ _ _ _ _ (by exact(@qG _ _ _ _ _ _ _ _ (by exact(qv qc4 (pv 5) (zf (qa qP (qa qP qb))) (by with_unfolding_all rfl)))
       (by exact(@qc _ _ _ _ _ (by exact(qz (i:=9) sc_Laround.nd rfl (Or.inl rfl) (qj G_k h_k rfl T.d_k.m T.d_k.k T.d_k.b .nil qk (qa (zN hu (pv 3) (pv 6) (fun _ _=>rfl)) (qa (pv 4) qb)))))
       (by exact(@qc _ _ _ _ _ (by exact(@qG _ _ _ _ _ _ _ _ (by exact(qv (uEq hU) (pv 5) qP (qB _)))
         (by exact(@qf _ _ _ (by exact(@qq _ _ _ _ (by exact(@zf _ _ _ _ _ (by exact(@qa _ _ _ _ _ (by exact(pv 5)) (by exact(@qa _ _ _ _ _ (by exact(pv 1)) (by exact(@qa _ _ _ _ _ (by exact(pv 6)) (by exact(@qa _ _ _ _ _ (by exact(pv 9)) (by exact(@qa _ _ _ _ _ (by exact(pv 9)) (by exact(@qb _)) (by rfl))) (by rfl))) (by rfl))) (by rfl))) (by rfl)))))))))
         (by exact qu)))
       (by exact(@qf _ _ _ (by exact(@qq _ _ _ _ (by exact(@zf _ _ _ _ _ (by exact(@qa _ _ _ _ _ (by exact(pv 5)) (by exact(@qa _ _ _ _ _ (by exact(pv 1)) (by exact(@qa _ _ _ _ _ (by exact(pv 6)) (by exact(@qa _ _ _ _ _ (by exact(qx zY (pv 9) (pv 7))) (by exact(@qa _ _ _ _ _ (by exact(qx QY (pv 9) (pv 8))) (by exact(@qb _)) (by rfl))) (by rfl))) (by rfl))) (by rfl))) (by rfl)))))))))))))
       (by exact qu)))
     (by exact(@qc _ _ _ _ _ (by exact(@qG _ _ _ _ _ _ _ _ (by exact(qv (uEq hU) (pv 5) qP (qB _)))
       (by exact(@qf _ _ _ (by exact(@qq _ _ _ _ (by exact(@zf _ _ _ _ _ (by exact(@qa _ _ _ _ _ (by exact(pv 5)) (by exact(@qa _ _ _ _ _ (by exact(pv 1)) (by exact(@qa _ _ _ _ _ (by exact qP) (by exact(@qa _ _ _ _ _ (by exact qe) (by exact(@qa _ _ _ _ _ (by exact(qx Qo qe qe)) (by exact(@qb _)) (by rfl))) (by rfl))) (by rfl))) (by rfl))) (by rfl)))))))))
       (by exact qu)))
     (by exact(@qc _ _ _ _ _ (by exact(@qG _ _ _ _ _ _ _ _ (by exact(qv (uEq hU) (pv 5) qP (qB _)))
       (by exact(@qf _ _ _ (by exact(@qq _ _ _ _ (by exact(@zf _ _ _ _ _ (by exact(@qa _ _ _ _ _ (by exact(pv 5)) (by exact(@qa _ _ _ _ _ (by exact(pv 1)) (by exact(@qa _ _ _ _ _ (by exact qP) (by exact(@qa _ _ _ _ _ (by exact(pv 4)) (by exact(@qa _ _ _ _ _ (by exact(pv 4)) (by exact(@qb _)) (by rfl))) (by rfl))) (by rfl))) (by rfl))) (by rfl)))))))))
       (by exact qu)))
     (by exact(@qf _ _ _ (by exact(@qq _ _ _ _ (by exact(@zf _ _ _ _ _ (by exact(@qa _ _ _ _ _ (by exact(pv 5)) (by exact(@qa _ _ _ _ _ (by exact(pv 1)) (by exact(@qa _ _ _ _ _ (by exact qP) (by exact(@qa _ _ _ _ _ (by exact(ql (zm rfl) (by rfl) T.n_max zn (qa qe (qa (qx zY (pv 4) (pv 7)) qb)))) (by exact(@qa _ _ _ _ _ (by exact(ql (zZ rfl) (by rfl) T.n_min z9 (qa (qx Qo qe qe) (qa (qx QY (pv 4) (pv 8)) qb)))) (by exact(@qb _)) (by rfl))) (by rfl))) (by rfl))) (by rfl))) (by rfl)))))))))))))))))))))),?_⟩
   try dsimp only [zi,Cx.nox]
   have p0:PenAt H p:=hp;have t0:But p H H:=But.refl p H;have lps:=td.2.ne;have lpf:=td.2.few
   have nq:q≠p:=by
     obtain⟨c,x,y,_,e⟩:=hp;refine qW hq e (fun z=>?_);injection z with z
     cases ps with
     | nil=>cases lps
     | cons a r=>cases z
   have lq:((ps.map (·.1)).map V.str).length=ps.length:=by rw[List.length_map,List.length_map]
   have e9:(10:Int) ^ (9:Int).toNat=1000000000:=by decide
   have e7:(10:Int) ^ (7:Int).toNat=10000000:=by decide
   refine⟨(qo (Nat.le_of_ble_eq_true rfl)),fun lw f_lw=>?_⟩;have n_lw:lw≠p:=p0.ne f_lw;have e_lw:(upd H lw (.lst [.str "within",.str "read",.str "between",.str "any",.str "at",.str "read",.str "between",.str "within"])) lw=some (.lst [.str "within",.str "read",.str "between",.str "any",.str "at",.str "read",.str "between",.str "within"]):=qd;have p1:PenAt (upd H lw (.lst [.str "within",.str "read",.str "between",.str "any",.str "at",.str "read",.str "between",.str "within"])) p:=p0.upd n_lw _;have u1:Same H (upd H lw (.lst [.str "within",.str "read",.str "between",.str "any",.str "at",.str "read",.str "between",.str "within"])):=Same.new _ f_lw;have t1:=t0.same u1;(try dsimp only);generalize upd H lw (.lst [.str "within",.str "read",.str "between",.str "any",.str "at",.str "read",.str "between",.str "within"])=G1 at e_lw p1 u1 t1 ⊢;refine⟨_,rfl,p,_,rfl,p1,by decide,by decide,fun iw G2 iw0 iw1 u2 p2=>?_⟩;have t2:=t1.trans u2;obtain⟨v,hv,mv⟩:=qaX (xs:=([.str "within",.str "read",.str "between",.str "any",.str "at",.str "read",.str "between",.str "within"]:List V)) iw0 iw1
   obtain⟨wd,rfl,hw⟩:∃ wd:Str,v=.str wd∧(wd="within"∨wd="read"∨wd="between"∨wd="any"∨wd="at"):=by
     simp only[List.mem_cons,List.not_mem_nil,or_false]at mv;rcases mv with rfl|rfl|rfl|rfl|rfl|rfl|rfl|rfl<;>exact⟨_,rfl,by decide⟩
   refine .inl ⟨lw,_,_,_,rfl,rfl,SqL.of (u2 _ _ e_lw n_lw),hv,?_⟩;refine⟨_,rfl,_,rfl,_,rfl,_,_,rfl,.inl ⟨_,SqL.of (t2 _ _ hq nq),rfl⟩,p,_,rfl,p2,by rw[lq];omega,by rw[lq];omega,fun ip G3 ip0 ip1 u3 p3=>?_⟩;have t3:=t2.trans u3;obtain⟨j,rfl⟩:=Int.eq_ofNat_of_zero_le ip0;have jl:j < ps.length:=by rw[lq]at ip1;omega
   have mx:=List.getElem_mem jl;have hx:((ps.map (·.1)).map V.str)[j]?=some (.str ps[j].1):=by rw[List.getElem?_map,List.getElem?_map,List.getElem?_eq_getElem jl];rfl
   generalize ps[j]=x at mx hx;refine .inl ⟨q,_,_,_,rfl,rfl,SqL.of (t3 _ _ hq nq),zh hx,?_⟩;refine⟨_,_,rfl,rfl,⟨by decide,by decide,by decide⟩,(qo (Nat.le_of_ble_eq_true rfl)),fun ln f_ln=>?_⟩;have n_ln:ln≠p:=p3.ne f_ln;have e_ln:(upd G3 ln (.lst [.int 0,.int 0,.int 1,.int 60,.int 3000,.int (10 ^ (7:Int).toNat)])) ln=some (.lst [.int 0,.int 0,.int 1,.int 60,.int 3000,.int (10 ^ (7:Int).toNat)]):=qd;have p4:PenAt (upd G3 ln (.lst [.int 0,.int 0,.int 1,.int 60,.int 3000,.int (10 ^ (7:Int).toNat)])) p:=p3.upd n_ln _;have u4:Same G3 (upd G3 ln (.lst [.int 0,.int 0,.int 1,.int 60,.int 3000,.int (10 ^ (7:Int).toNat)])):=Same.new _ f_ln;have t4:=t3.same u4;(try dsimp only);generalize upd G3 ln (.lst [.int 0,.int 0,.int 1,.int 60,.int 3000,.int (10 ^ (7:Int).toNat)])=G4 at e_ln p4 u4 t4 ⊢;refine⟨_,rfl,p,_,rfl,p4,by decide,by decide,fun ia G5 ia0 ia1 u5 p5=>?_⟩;have t5:=t4.trans u5;obtain⟨v,hv,mv⟩:=qaX (xs:=([.int 0,.int 0,.int 1,.int 60,.int 3000,.int (10 ^ (7:Int).toNat)]:List V)) ia0 ia1
   obtain⟨nr,rfl,nr0,nr1⟩:∃ u:Int,v=.int u∧0≤u∧u≤10000000:=by
     simp only[List.mem_cons,List.not_mem_nil,or_false]at mv;rcases mv with rfl|rfl|rfl|rfl|rfl|rfl<;>exact⟨_,rfl,by decide,by decide⟩
   refine .inl ⟨ln,_,_,_,rfl,rfl,SqL.of (u5 _ _ e_ln n_ln),hv,?_⟩;refine⟨_,_,rfl,rfl,⟨by decide,by decide,by decide⟩,(qo (Nat.le_of_ble_eq_true rfl)),fun lf f_lf=>?_⟩;have n_lf:lf≠p:=p5.ne f_lf;have e_lf:(upd G5 lf (.lst [.int 0,.int 1,.int 60,.int 3000,.int (10 ^ (7:Int).toNat)])) lf=some (.lst [.int 0,.int 1,.int 60,.int 3000,.int (10 ^ (7:Int).toNat)]):=qd;have p6:PenAt (upd G5 lf (.lst [.int 0,.int 1,.int 60,.int 3000,.int (10 ^ (7:Int).toNat)])) p:=p5.upd n_lf _;have u6:Same G5 (upd G5 lf (.lst [.int 0,.int 1,.int 60,.int 3000,.int (10 ^ (7:Int).toNat)])):=Same.new _ f_lf;have t6:=t5.same u6;(try dsimp only);generalize upd G5 lf (.lst [.int 0,.int 1,.int 60,.int 3000,.int (10 ^ (7:Int).toNat)])=G6 at e_lf p6 u6 t6 ⊢;refine⟨_,rfl,p,_,rfl,p6,by decide,by decide,fun ib G7 ib0 ib1 u7 p7=>?_⟩;have t7:=t6.trans u7;obtain⟨v,hv,mv⟩:=qaX (xs:=([.int 0,.int 1,.int 60,.int 3000,.int (10 ^ (7:Int).toNat)]:List V)) ib0 ib1
   obtain⟨fr,rfl,fr0,fr1⟩:∃ u:Int,v=.int u∧0≤u∧u≤10000000:=by
     simp only[List.mem_cons,List.not_mem_nil,or_false]at mv;rcases mv with rfl|rfl|rfl|rfl|rfl<;>exact⟨_,rfl,by decide,by decide⟩
   refine .inl ⟨lf,_,_,_,rfl,rfl,SqL.of (u7 _ _ e_lf n_lf),hv,?_⟩;refine⟨_,rfl,(qo (Nat.le_of_ble_eq_true rfl)),fun tt f_tt=>?_⟩;have n_tt:tt≠p:=p7.ne f_tt;have e_tt:(upd G7 tt (.tup [.str "between",.str "read"])) tt=some (.tup [.str "between",.str "read"]):=qd;have p8:PenAt (upd G7 tt (.tup [.str "between",.str "read"])) p:=p7.upd n_tt _;have u8:Same G7 (upd G7 tt (.tup [.str "between",.str "read"])):=Same.new _ f_tt;have t8:=t7.same u8;(try dsimp only);generalize upd G7 tt (.tup [.str "between",.str "read"])=G8 at e_tt p8 u8 t8 ⊢;refine⟨tt,_,rfl,.inr (SqT.of e_tt),rfl,rfl,_,rfl,?_⟩;have tdk:=td.bp hp t8;have good:=td.2.good x mx;have nmx:=td.2.nm x mx;have mpl:x.1∈ps.map (·.1):=List.mem_map_of_mem mx
   have fin:∀ (G:Hp) (s:Addr) (wd pl:Str) (lo hi:Int),Same G8 G->G s=none->Spc wd nm pl lo hi->(pl=""∨pl∈ps.map (·.1))->Q (.ref s) (upd G s (.tup (qlH wd nm pl lo hi))):=fun G s wd pl lo hi SG fs sp hp'=>by
     have pG:=p8.same SG;have ns:=pG.ne fs;exact kk s wd pl lo hi _ ((t8.same SG).none fs ns) ((t8.same SG).same (Same.new _ fs)) (pG.upd ns _) qd sp hp'
   rcases hw with rfl|rfl|rfl|rfl|rfl
   · refine qT (by decide) ?_;refine⟨_,rfl,.inl ⟨rfl,_,rfl,zT (fun g=>absurd g (by decide)) (fun _=>?_)⟩⟩;refine⟨_,rfl,.inl ⟨rfl,_,rfl,zT (fun g=>absurd g (by decide)) (fun _=>?_)⟩⟩;refine⟨_,rfl,_,rfl,_,rfl,_,rfl,_,_,rfl,rfl,_,_,rfl,_,_,rfl,rfl,⟨by decide,by decide,by decide⟩,_,rfl,_,rfl,.inl ⟨_,_,rfl,rfl,_,_,rfl,qo (Nat.le_of_ble_eq_true rfl),fun s fs=>?_⟩⟩;rw[e9];exact fin G8 s _ _ _ _ (Same.refl _) fs (.within hnm (by constructor<;>(split<;>omega)) (by constructor<;>(split<;>omega))) (.inl rfl)
   · refine Ze (by decide) ?_;refine⟨_,rfl,_,rfl,tb,_,rfl,tdk.get mx,_,rfl,x.2.1,x.2.2,m,rfl,tdk.2.rs x mx,good,hm.1,fun n G S n0 n1 _=>?_⟩;refine⟨_,rfl,.inl ⟨rfl,_,rfl,zT (fun _=>?_) (fun g=>absurd rfl g)⟩⟩;exact⟨_,rfl,_,rfl,_,rfl,_,rfl,_,rfl,qo (Nat.le_of_ble_eq_true rfl),fun s fs=>fin G s _ _ _ _ S fs (.read hnm nmx ⟨by omega,by omega⟩) (.inr mpl)⟩
   · refine Ze (by decide) ?_;refine⟨_,rfl,_,rfl,tb,_,rfl,tdk.get mx,_,rfl,x.2.1,x.2.2,m,rfl,tdk.2.rs x mx,good,hm.1,fun n G S n0 n1 _=>?_⟩;refine⟨_,rfl,.inl ⟨rfl,_,rfl,zT (fun g=>absurd g (by decide)) (fun _=>?_)⟩⟩;exact⟨_,rfl,_,rfl,_,rfl,_,rfl,_,rfl,_,_,rfl,rfl,_,rfl,_,rfl,.inl ⟨_,_,rfl,rfl,qo (Nat.le_of_ble_eq_true rfl),fun s fs=>fin G s _ _ _ _ S fs (.between hnm nmx ⟨by omega,by omega⟩ ⟨by omega,by omega⟩) (.inr mpl)⟩⟩
   · refine qT (by decide) ?_;refine⟨_,rfl,.inl ⟨rfl,_,rfl,zT (fun _=>?_) (fun g=>absurd rfl g)⟩⟩;refine⟨_,rfl,_,rfl,_,_,rfl,rfl,⟨by decide,by decide,by decide⟩,qo (Nat.le_of_ble_eq_true rfl),fun s fs=>?_⟩;rw[e9];exact fin G8 s _ _ _ _ (Same.refl _) fs (.any hnm) (.inl rfl)
   · refine qT (by decide) ?_;refine⟨_,rfl,.inl ⟨rfl,_,rfl,zT (fun g=>absurd g (by decide)) (fun _=>?_)⟩⟩;refine⟨_,rfl,.inl ⟨rfl,_,rfl,zT (fun _=>?_) (fun g=>absurd rfl g)⟩⟩;exact⟨_,rfl,_,rfl,_,rfl,_,rfl,qo (Nat.le_of_ble_eq_true rfl),fun s fs=>fin G8 s _ _ _ _ (Same.refl _) fs (.at_ hnm hm) (.inl rfl)⟩
end
abbrev wdS (d:Bool):Str:=if d=true then "days" else "daily"
theorem qck {x:Str} (h:zC (.str x)=true):x≠"":=fun z=>by subst z;cases h
def prS (q:Bool×Int×Int):Int->Bool:=if q.1=true then prD q.2.1 q.2.2 else prY q.2.1 q.2.2
abbrev S4:=Str×Str×Int×Int
abbrev spV (nm:Str) (s:S4):List V:=qlH s.1 nm s.2.1 s.2.2.1 s.2.2.2
abbrev Sp4 (nm:Str) (s:S4):Prop:=Spc s.1 nm s.2.1 s.2.2.1 s.2.2.2
def SvAt (H:Hp) (v:V):Option (Bool×Int×Int)->Prop
 | none=>v=.non
 | some (d,x,y)=>∃ t,v=.ref t∧H t=some (.tup [.str (wdS d),.int x,.int y])
structure PlA (H:Hp) (pa:Addr) (nm:Str) (S:List S4) (sv:Option (Bool×Int×Int)):Prop where
 ex:∃ (sl:Addr) (zs:List V) (v:V),H pa=some (.lst [.ref sl,v])∧H sl=some (.lst zs)∧TupL (spV nm) H zs S∧SvAt H v sv
 sp:∀ s∈S,Sp4 nm s
 n1:0 < S.length
 n4:S.length≤4
 sf:∀ q,sv=some q->S.length=1∧∀ s∈S,Sfk (QZ s)
theorem SvAt.same {H H':Hp}{v:V}{sv:Option (Bool×Int×Int)} (h:SvAt H v sv) (s:Same H H'):SvAt H' v sv:=by
 cases sv with
 | none=>exact h
 | some q=>obtain⟨t,e,h⟩:=h;exact⟨t,e,s _ _ h⟩
theorem PlA.same {H H':Hp}{pa:Addr}{nm:Str}{S:List S4}{sv:Option (Bool×Int×Int)} (h:PlA H pa nm S sv) (s:Same H H'):PlA H' pa nm S sv :=
 ⟨let ⟨sl,zs,v,h1,h2,h3,h4⟩:=h.ex;⟨sl,zs,v,s _ _ h1,s _ _ h2,h3.same s,h4.same s⟩,h.sp,h.n1,h.n4,h.sf⟩
def J2 (S:List S4):Option (Bool×Int×Int)->Kd
 | some q=>.sf (QZ (S.headD ("","",0,0))) (prS q)
 | none=>if S.length > 1 then .jn (S.map QZ) else .pl (QZ (S.headD ("","",0,0)))
theorem ql3 {ts:Pls}{S:List S4}{sv:Option (Bool×Int×Int)} (n1:0 < S.length) (sf:∀ q,sv=some q->S.length=1) {m:Int} (h0:0≤m∧m≤1000000000):MK ts (J2 S sv) m↔(∀ q,sv=some q->prS q m=true)∧∀ s∈S,MP ts (QZ s) m:=by
 cases sv with
 | some q =>
   obtain⟨s,rfl⟩:∃ s,S=[s]:=by
     have:=sf q rfl
     match S,this with
     | [s],_=>exact⟨s,rfl⟩
   show (MP ts (QZ s) m∧prS q m=true)↔_;exact⟨fun h=>⟨fun q' e=>by cases e;exact h.2,fun s' m'=>by rw[List.mem_singleton.mp m'];exact h.1⟩,fun h=>⟨h.2 s List.mem_cons_self,h.1 q rfl⟩⟩
 | none =>
   unfold J2;by_cases c:S.length > 1
   · rw[if_pos c];show ((0≤m∧m≤1000000000)∧∀ k∈S.map QZ,MP ts k m)↔_;exact⟨fun h=>⟨fun q e=>(nomatch e),fun s ms=>h.2 _ (List.mem_map.mpr ⟨s,ms,rfl⟩)⟩,fun h=>⟨h0,fun k mk=>by obtain⟨s,ms,rfl⟩:=List.mem_map.mp mk;exact h.2 s ms⟩⟩
   · rw[if_neg c]
     obtain⟨s,rfl⟩:∃ s,S=[s]:=by
       have:S.length=1:=by omega
       match S,this with
       | [s],_=>exact⟨s,rfl⟩
     show MP ts (QZ s) m↔_;exact⟨fun h=>⟨fun q e=>(nomatch e),fun s' m'=>by rw[List.mem_singleton.mp m'];exact h⟩,fun h=>h.2 s List.mem_cons_self⟩
inductive qbm (vs:List V) (H:Hp) (Q:VK):Prop
 | mk (s tb:Addr) (nm:Str) (c:S4) (ps:Pls) (m:Int) (h1:vs=[.ref s,.ref tb,.int m]) (h2:H s=some (.tup (spV nm c))) (h3:Sp4 nm c) (h4:Td H tb ps) (h5:(c.2.1=""∨c.2.1∈ps.map (·.1))) (h6:(0≤m∧m≤1000000000)) (h7:∀ (b:Bool) (H':Hp),Same H H'->(b=true↔MP ps (QZ c) m)->Q (.bl b) H'):qbm vs H Q
def qef:Sp:=fun vs H Q _=>qbm vs H Q
inductive Zj (vs:List V) (H:Hp) (Q:VK):Prop
 | mk (t:Addr) (d:Bool) (x y m:Int) (h1:vs=[.ref t,.int m]) (h2:H t=some (.tup [.str (wdS d),.int x,.int y])) (h3:Q (.bl (prS (d,x,y) m)) H):Zj vs H Q
def Z1:Sp:=fun vs H Q _=>Zj vs H Q
inductive jN (vs:List V) (H:Hp) (Q:VK):Prop
 | mk (pa tb:Addr) (nm:Str) (S:List S4) (sv:Option (Bool×Int×Int)) (ps:Pls) (m:Int) (h1:vs=[.ref pa,.ref tb,.int m]) (h2:PlA H pa nm S sv) (h3:Td H tb ps) (h4:(∀ c∈S,c.2.1=""∨c.2.1∈ps.map (·.1))) (h5:(0≤m∧m≤1000000000)) (h6:∀ (b:Bool) (H':Hp),Same H H'->(b=true↔MK ps (J2 S sv) m)->Q (.bl b) H'):jN vs H Q
def qah:Sp:=fun vs H Q _=>jN vs H Q
inductive ZC (vs:List V) (H:Hp) (Q:VK):Prop
 | mk (q:Addr) (ws:List (Int×Int)) (h1:vs=[.ref q]) (h2:Rs H q ws) (h3:zj ws) (h4:ws.length≤1000) (h5:(∀ n,Mem ws n->0≤n∧n≤1000000000)) (h6:Q (.bl true) H):ZC vs H Q
def jM:Sp:=fun vs H Q _=>ZC vs H Q
section
variable {P:Program}{w:World}{K:Frag}{mg:Str->Option Value}{base:Heap}
theorem qhX {a:Ad} (T:Txt K mg a):qy P w K mg base CX0 2 a.f_2 a.fd_2 ["_law_spec","_law_tables","_law_moment"] qef:=by
 have G_k:=ju (P:=P) (w:=w) (base:=base) T;refine T.d_2.F.ok sc_Llets (fun vs H Q E h=>?_) (fun cdv A outer s H vs Q E hr h=>?_)
 · obtain⟨s,tb,nm,⟨wd,pl,lo,hi⟩,ps,m,rfl,hs,sp,td,hp,⟨m0,m9⟩,kk⟩:=h;rfl
 · obtain⟨s,tb,nm,⟨wd,pl,lo,hi⟩,ps,m,rfl,hs,sp,td,hp,⟨m0,m9⟩,kk⟩:=h;have hu:=qD hr;have h_k:Room (1) _:=hr.mono (by decide)
   refine⟨_,(qc (ZK (pv 0) (Qn rfl (qw (qp (i:=3) (sc_Llets.nd) rfl (Or.inl rfl)) (qw (qp (i:=4) (sc_Llets.nd) rfl (Or.inl rfl)) (qw (qp (i:=5) (sc_Llets.nd) rfl (Or.inl rfl)) (qw (qp (i:=6) (sc_Llets.nd) rfl (Or.inl rfl)) (qw (qp (i:=7) (sc_Llets.nd) rfl (Or.inl rfl)) zx)))))))
     (qc (qG (qv qc4 (pv 3) (zf (qa qP (qa qP qb))) (by with_unfolding_all rfl))
       (qf (qq (Qg zS zS (pv 6) (qj G_k h_k rfl T.d_k.m T.d_k.k T.d_k.b .nil qk (qa (zN hu (pv 1) (pv 5) (fun _ _=>rfl)) (qa (pv 2) qb))) (pv 7))))
       qu)
     (qf (qq (Qg zS zS (pv 6) (pv 2) (pv 7)))))),?_⟩
   try dsimp only [zi,Cx.nox]
   dsimp only [Sp4]at sp;dsimp only at hp;refine⟨_,rfl,s,_,rfl,SqT.of hs,rfl,_,_,rfl,_,_,rfl,_,_,rfl,_,_,rfl,_,_,rfl,rfl,?_⟩
   cases sp with
   | any ok =>
     rw[qez]at kk;refine⟨_,rfl,qo (Nat.le_of_ble_eq_true rfl),fun tt ftt=>?_⟩;generalize hG:upd H tt _=A1;obtain⟨s1,e1⟩:=qC hG ftt;clear hG;refine⟨tt,_,rfl,.inr (SqT.of e1),rfl,rfl,_,rfl,?_⟩;refine qT rfl ?_;refine⟨_,rfl,_,rfl,_,_,rfl,rfl,_,rfl,qfi (fun g=>?_) (fun g=>?_)⟩
     · refine⟨_,rfl,_,_,rfl,rfl,kk _ _ s1 ?_⟩;rw[decide_eq_true_iff];exact⟨fun h=>⟨of_decide_eq_true g,h⟩,fun h=>h.2⟩
     · refine kk _ _ s1 ⟨fun z=>(nomatch z),fun h=>absurd h.1 (of_decide_eq_false g)⟩
   | within ok hlo hhi =>
     rw[qf9]at kk;refine⟨_,rfl,qo (Nat.le_of_ble_eq_true rfl),fun tt ftt=>?_⟩;generalize hG:upd H tt _=A1;obtain⟨s1,e1⟩:=qC hG ftt;clear hG;refine⟨tt,_,rfl,.inr (SqT.of e1),rfl,rfl,_,rfl,?_⟩;refine qT rfl ?_;refine⟨_,rfl,_,rfl,_,_,rfl,rfl,_,rfl,qfi (fun g=>?_) (fun g=>?_)⟩
     · refine⟨_,rfl,_,_,rfl,rfl,kk _ _ s1 ?_⟩;rw[decide_eq_true_iff];exact⟨fun h=>⟨of_decide_eq_true g,h⟩,fun h=>h.2⟩
     · refine kk _ _ s1 ⟨fun z=>(nomatch z),fun h=>absurd h.1 (of_decide_eq_false g)⟩
   | at_ ok hm =>
     rw[qhI]at kk;refine⟨_,rfl,qo (Nat.le_of_ble_eq_true rfl),fun tt ftt=>?_⟩;generalize hG:upd H tt _=A1;obtain⟨s1,e1⟩:=qC hG ftt;clear hG;refine⟨tt,_,rfl,.inr (SqT.of e1),rfl,rfl,_,rfl,?_⟩;refine qT rfl ?_;refine⟨_,rfl,_,rfl,_,_,rfl,rfl,_,rfl,qfi (fun g=>?_) (fun g=>?_)⟩
     · refine⟨_,rfl,_,_,rfl,rfl,kk _ _ s1 ?_⟩;rw[decide_eq_true_iff];exact⟨fun h=>⟨of_decide_eq_true g,h⟩,fun h=>h.2⟩
     · refine kk _ _ s1 ⟨fun z=>(nomatch z),fun h=>absurd h.1 (of_decide_eq_false g)⟩
   | between ok okp hlo hhi =>
     rw[qhH]at kk;obtain⟨x,mx,ex⟩:=List.mem_map.mp (hp.resolve_left (fun z=>qck okp z));have ex:x.1=pl:=ex;subst ex;refine⟨_,rfl,qo (Nat.le_of_ble_eq_true rfl),fun tt ftt=>?_⟩;generalize hG:upd H tt _=A1;obtain⟨s1,e1⟩:=qC hG ftt;clear hG;refine⟨tt,_,rfl,.inr (SqT.of e1),rfl,rfl,_,rfl,?_⟩;refine Ze rfl ?_;refine⟨_,rfl,_,rfl,_,rfl,tb,_,rfl,(td.sm s1).get mx,_,rfl,x.2.1,x.2.2,m,rfl,(td.2.rs x mx).same s1,td.2.good x mx,m0,fun n G S _ _ en=>?_⟩;have key:Sh ps x.1 lo hi m↔lo≤n∧n≤hi:=(qjF td.2.nd mx).symm.trans (by rw[en];exact qfO (td.2.good x mx) m0 m9);refine⟨_,_,rfl,rfl,_,rfl,qfi (fun g=>?_) (fun g=>?_)⟩
     · refine⟨_,rfl,_,_,rfl,rfl,kk _ _ (s1.trans S) ?_⟩;rw[decide_eq_true_iff];exact⟨fun h=>key.mpr ⟨of_decide_eq_true g,h⟩,fun h=>(key.mp h).2⟩
     · refine kk _ _ (s1.trans S) ⟨fun z=>(nomatch z),fun h=>absurd (key.mp h).1 (of_decide_eq_false g)⟩
   | read ok okp hm =>
     rw[qga]at kk;obtain⟨x,mx,ex⟩:=List.mem_map.mp (hp.resolve_left (fun z=>qck okp z));have ex:x.1=pl:=ex;subst ex;refine⟨_,rfl,qo (Nat.le_of_ble_eq_true rfl),fun tt ftt=>?_⟩;generalize hG:upd H tt _=A1;obtain⟨s1,e1⟩:=qC hG ftt;clear hG;refine⟨tt,_,rfl,.inr (SqT.of e1),rfl,rfl,_,rfl,?_⟩;refine Ze rfl ?_;refine⟨_,rfl,_,rfl,_,rfl,tb,_,rfl,(td.sm s1).get mx,_,rfl,x.2.1,x.2.2,m,rfl,(td.2.rs x mx).same s1,td.2.good x mx,m0,fun n G S _ _ en=>?_⟩;have key:Sh ps x.1 lo lo m↔lo≤n∧n≤lo:=(qjF td.2.nd mx).symm.trans (by rw[en];exact qfO (td.2.good x mx) m0 m9);refine⟨_,_,rfl,rfl,_,rfl,qfi (fun g=>?_) (fun g=>?_)⟩
     · refine⟨_,rfl,_,_,rfl,rfl,kk _ _ (s1.trans S) ?_⟩;rw[decide_eq_true_iff];exact⟨fun h=>key.mpr ⟨of_decide_eq_true g,h⟩,fun h=>(key.mp h).2⟩
     · refine kk _ _ (s1.trans S) ⟨fun z=>(nomatch z),fun h=>absurd (key.mp h).1 (of_decide_eq_false g)⟩
theorem qba {a:Ad} (T:Txt K mg a):qy P w K mg base CX0 1 a.f_3 a.fd_3 ["_law_sieve","_law_moment"] Z1:=by
 refine T.d_3.F.ok sc_Lsieve_lets (fun vs H Q E h=>?_) (fun cdv A outer s H vs Q E hr h=>?_)
 · obtain⟨t,d,x,y,m,rfl,ht,kk⟩:=h;rfl
 · obtain⟨t,d,x,y,m,rfl,ht,kk⟩:=h;have hU:=hr.units
   refine⟨_,(qc (ZK (pv 0) (Qn rfl (qw (qp (i:=2) (sc_Lsieve_lets.nd) rfl (Or.inl rfl)) (qw (qp (i:=3) (sc_Lsieve_lets.nd) rfl (Or.inl rfl)) (qw (qp (i:=4) (sc_Lsieve_lets.nd) rfl (Or.inl rfl)) zx)))))
     (qc (qG (qv (uEq hU) (pv 2) qP (qB _))
       (qf (qq (Qg zS zS (pv 3) (qx qaE (pv 1) qe) (pv 4))))
       qu)
     (qc (qG (qv zS (pv 3) (pv 4) (qB _))
       (qf (qq (Qg zS zS (pv 3) (qx QB (pv 1) qe) (pv 4))))
       qu)
     (qf (qq (qi3 (Qg qa7 qa7 (pv 4) (qx QB (pv 1) qe) (pv 3)))))))),?_⟩
   try dsimp only [zi,Cx.nox]
   refine⟨_,rfl,t,_,rfl,SqT.of ht,rfl,_,_,rfl,_,_,rfl,_,_,rfl,rfl,?_⟩
   cases d with
   | true =>
     refine⟨_,rfl,.inl ⟨rfl,_,rfl,zT (fun _=>?_) (fun g=>absurd rfl g)⟩⟩;refine⟨_,rfl,_,rfl,_,_,rfl,rfl,⟨by decide,by decide⟩,_,_,rfl,rfl,_,rfl,qfi (fun g=>?_) (fun g=>?_)⟩
     · refine⟨_,rfl,_,_,rfl,rfl,?_⟩;have e:prS (true,x,y) m=decide (m / 1440≤y):=by show (decide (x≤m / 1440) && decide (m / 1440≤y))=_;rw[show decide (x≤m / 1440)=true from g,Bool.true_and]
       rw[e]at kk;exact kk
     · have e:prS (true,x,y) m=false:=by show (decide (x≤m / 1440) && decide (m / 1440≤y))=_;rw[show decide (x≤m / 1440)=false from g,Bool.false_and]
       rw[e]at kk;exact kk
   | false =>
     refine⟨_,rfl,.inl ⟨rfl,_,rfl,zT (fun g=>absurd g (by decide)) (fun _=>?_)⟩⟩;refine⟨_,rfl,_,rfl,_,_,rfl,rfl,_,rfl,zT (fun c=>?_) (fun c=>?_)⟩
     · have e0:prS (false,x,y) m=prM x y m:=by show prY x y m=_;unfold prY;rw[if_pos c]
       rw[e0]at kk;refine⟨_,rfl,_,rfl,_,_,rfl,rfl,(by decide),_,_,rfl,rfl,_,rfl,qfi (fun g=>?_) (fun g=>?_)⟩
       · refine⟨_,rfl,_,_,rfl,rfl,?_⟩;have e:prM x y m=decide (m % 1440≤y):=by unfold prM;rw[show decide (x≤m % 1440)=true from g,Bool.true_and]
         rw[e]at kk;exact kk
       · have e:prM x y m=false:=by unfold prM;rw[show decide (x≤m % 1440)=false from g,Bool.false_and]
         rw[e]at kk;exact kk
     · have e0:prS (false,x,y) m=prO x y m:=by show prY x y m=_;unfold prY;rw[if_neg c]
       rw[e0]at kk;refine⟨_,rfl,_,rfl,_,_,rfl,rfl,(by decide),_,_,rfl,rfl,_,rfl,qfi (fun g=>?_) (fun g=>?_)⟩
       · refine⟨_,rfl,_,_,rfl,rfl,_,rfl,?_⟩;have g1:=of_decide_eq_true g
         have e:prO x y m=!decide (m % 1440 < x):=by
           unfold prO;rw[decide_eq_false (by omega:¬ m % 1440≤y),Bool.or_false];by_cases z:m % 1440 < x
           · rw[decide_eq_true z,decide_eq_false (by omega)];rfl
           · rw[decide_eq_false z,decide_eq_true (by omega)];rfl
         rw[e]at kk;exact kk
       · refine⟨_,rfl,?_⟩;have g1:=of_decide_eq_false g
         have e:prO x y m=true:=by
           unfold prO;rw[decide_eq_true (by omega:m % 1440≤y),Bool.or_true]
         rw[e]at kk;exact kk
theorem qdU {a:Ad} (T:Txt K mg a):qy P w K mg base CX0 3 a.f_F a.fd_F ["_law_plan_here","_law_tables","_law_moment"] qah:=by
 have G_3:=qba (P:=P) (w:=w) (base:=base) T;have G_2:=qhX (P:=P) (w:=w) (base:=base) T;refine T.d_F.F.ok sc_Lall_let (fun vs H Q E h=>?_) (fun cdv A outer s H vs Q E hr h=>?_)
 · obtain⟨pa,tb,nm,S,sv,ps,m,rfl,pl,td,hp,h09,kk⟩:=h;rfl
 · obtain⟨pa,tb,nm,S,sv,ps,m,rfl,pl,td,hp,h09,kk⟩:=h;have hU:=hr.units;have h_3:Room (1) _:=hr.mono (by decide);have h_2:Room (2) _:=hr.mono (by decide)
   refine⟨_,(qc (ZK (pv 0) (qi2 rfl (qw (qp (i:=3) (sc_Lall_let.nd) rfl (Or.inl rfl)) (qw (qp (i:=4) (sc_Lall_let.nd) rfl (Or.inl rfl)) zx))))
     (qc (qG (PW.pt (qc0 (qv qgg (pv 4) qbD (qB _)) (qaz (q8 (qX (qj G_3 h_3 rfl T.d_3.m T.d_3.k T.d_3.b .nil qk (qa (pv 4) (qa (pv 2) qb))))))))
       (qf (qq jq))
       qu)
     (qf (qq (Qc (qhQ hU) (Qb rfl (CompOk.def ["_law_spec","_law_tables","_law_moment"] [none,some 1,some 2]) (zc (pv 3)) (fun _ _ _ _ _=>(qp (i:=0) (show List.Nodup (["_law_spec","_law_tables","_law_moment"]:List Str) by decide +kernel) rfl (Or.inl rfl))) (fun _ _ _ _ _=>(Jm (q8 (qX (qj G_2 h_2 rfl T.d_2.m T.d_2.k T.d_2.b .nil qk (qa (pv 0) (qa (pv 1) (qa (pv 2) qb)))))))) (fun _ _ _ _ _=>(pv 0))) (qY qb) (qB _)))))),?_⟩
   try dsimp only [zi,Cx.nox]
   obtain⟨sl,zs,v,hpa,hsl,tz,hv⟩:=pl.ex;have n4:=pl.n4;have lz:=tz.1;have mk:=ql3 (ts:=ps) pl.n1 (fun q e=>(pl.sf q e).1) h09;refine⟨_,rfl,pa,_,rfl,SqL.of hpa,rfl,_,_,rfl,_,_,rfl,rfl,?_⟩;(try unfold qJ);(try dsimp only);refine qR (t:=qkC _ _ _) (fun σ' H'=>H'=H∧(∀ q,sv=some q->prS q m=true)∧σ'=[some (.ref pa),some (.ref tb),some (.int m),some (.ref sl),some v]) (fun N hN=>?_) ?_
   · cases sv with
     | none =>
       cases (show v=.non from hv);exact⟨_,rfl,rfl,_,rfl,qT rfl (qT rfl (hN _ _ ⟨rfl,(fun q e=>nomatch e),rfl⟩))⟩
     | some q =>
       obtain⟨d,x,y⟩:=q;obtain⟨t,rfl,ht⟩:=hv;refine⟨_,rfl,rfl,_,rfl,Ze (by simp) ⟨_,rfl,_,rfl,t,d,x,y,m,rfl,ht,_,rfl,?_⟩⟩
       cases e:prS (d,x,y) m with
       | true=>exact qT rfl (hN _ _ ⟨rfl,(fun q z=>by cases z;exact e),rfl⟩)
       | false=>exact Ze rfl (kk _ _ (Same.refl _) ⟨fun z=>(nomatch z),fun h=>by have:=(mk.mp h).1 _ rfl;rw[e]at this;cases this⟩)
   rintro _ H0 ⟨rfl,sq,rfl⟩;refine⟨_,rfl,sl,rfl,⟨_,SqL.of hsl⟩,fun D fD=>?_⟩;refine zH (K:=K) (a:=sl) (xs:=zs) (D:=D) (fun i σ H'=>∃ (c0:Option V) (ys:List V),σ=[c0,some (.ref tb),some (.int m)]∧Same H0 H'∧H' D=some (.lst ys)∧ys.length≤i∧(ys=[]↔∀ (j:Nat) c,j < i->S[j]?=some c->MP ps (QZ c) m)) ⟨none,[],rfl,Same.new _ fD,qd,Nat.le_refl _,⟨fun _ j c h=>absurd h (Nat.not_lt_zero _),fun _=>rfl⟩⟩ (fun i σ H' _ ⟨_,_,_,S',_⟩=>SqL.of (S' _ _ hsl)) ?_ ?_
   · rintro i z σ H' hz ⟨c0,ys,rfl,S',hD,ly,hy⟩;obtain⟨c,t,hc,rfl,ht⟩:=tz.of hz;have mc:=List.mem_of_getElem? hc;have il:=(List.getElem?_eq_some_iff.mp hc).1;refine⟨_,rfl,_,rfl,_,rfl,t,tb,nm,c,ps,m,rfl,S' _ _ ht,pl.sp c mc,td.sm S',hp c mc,h09,fun b H2 S2 hb=>⟨b,rfl,?_⟩⟩
     cases b with
     | true =>
       refine qT rfl ⟨_,ys,rfl,S'.trans S2,S2 _ _ hD,by omega,hy.trans ⟨fun h j c' hj e=>?_,fun h j c' hj e=>h j c' (by omega) e⟩⟩;rcases Nat.lt_or_eq_of_le (Nat.lt_succ_iff.mp hj) with z|z
       · exact h j c' z e
       · subst z;rw[hc]at e;cases e;exact hb.mp rfl
     | false =>
       refine Ze rfl ⟨_,rfl,ys,S2 _ _ hD,qE (by omega),_,ys++[.ref t],rfl,(S'.trans S2).put fD _,qd,by rw[List.length_append];show ys.length+1≤_;omega,⟨fun h=>absurd h (by simp),fun h=>?_⟩⟩
       have:=hb.mpr (h i c (Nat.lt_succ_self i) hc)
       cases this
   rintro σ H' ⟨c0,ys,rfl,S',hD,ly,hy⟩;refine⟨qo (Nat.le_of_ble_eq_true rfl),fun l0 fl0=>?_⟩;generalize hG:upd H' l0 _=A1;obtain⟨s1,e1⟩:=qC hG fl0;clear hG;refine⟨D,l0,ys,rfl,rfl,SqL.of (s1 _ _ hD),SqL.of e1,kk _ _ (S'.trans s1) ?_⟩;rw[mk];have e:ys.isEmpty=true↔ys=[]:=List.isEmpty_iff;rw[e,hy];refine⟨fun h=>⟨sq,fun c mc=>?_⟩,fun h j c _ e=>h.2 c (List.mem_of_getElem? e)⟩;obtain⟨j,hj⟩:=List.getElem?_of_mem mc;exact h j c (by rw[lz];exact(List.getElem?_eq_some_iff.mp hj).1) hj
theorem qcg {a:Ad} (T:Txt K mg a):qy P w K mg base CX0 1 a.f_5 a.fd_5 ["_law_spans"] jM:=by
 refine T.d_5.F.ok sc_Lare_spans (fun vs H Q E h=>?_) (fun cdv A outer s H vs Q E hr h=>?_)
 · obtain⟨q,ws,rfl,⟨zs,hq,tz⟩,can,few,bd,kk⟩:=h;rfl
 · obtain⟨q,ws,rfl,⟨zs,hq,tz⟩,can,few,bd,kk⟩:=h;have hU:=hr.units
   refine⟨_,(qc (qz (i:=1) sc_Lare_spans.nd rfl (Or.inl rfl) (jW Qu qe))
     (qc (zr PassesOwn.never rfl (zc (pv 0)) (qp (i:=2) (sc_Lare_spans.nd) rfl (Or.inl rfl))
       (qc (qG (PW.pt (qa6 (q8 (qX (ql zu (by rfl) T.n_isinstance qr (qa (pv 2) (qa (zO (v:=.ty "tuple") rfl T.n_tuple jx rfl) qb))))) (jj (qv (uNe hU) (ql qZ (by rfl) T.n_len qF (qa (pv 2) qb)) qe (qB _)))))
         (qf (qq jq))
         qu)
       (qc (zr PassesOwn.never rfl (qk2 (pv 2)) (qp (i:=3) (sc_Lare_spans.nd) rfl (Or.inl rfl))
         (qf (qG (PW.pt (qa6 (q8 (qX (ql zu (by rfl) T.n_isinstance qr (qa (pv 3) (qa (zO (v:=.ty "int") rfl T.n_int Jg rfl) qb))))) (jj (qX (ql zu (by rfl) T.n_isinstance qr (qa (pv 3) (qa (zO (v:=.ty "bool") rfl T.n_bool qbR rfl) qb)))))))
           (qf (qq jq))
           qu)))
       (qc (qG (q8 (qf5 zS zS zS (qx QY (pv 1) qe) (qA (r:=rIx K) qt (pv 2) qe (fun _ _=>rfl)) (qA (r:=rIx K) qt (pv 2) qe (fun _ _=>rfl)) (qx Qo qe qe)))
         (qf (qq jq))
         qu)
       (qf (qz (i:=1) sc_Lare_spans.nd rfl (Or.inl rfl) (qA (r:=rIx K) qt (pv 2) qe (fun _ _=>rfl))))))))
     (qf (qq jq)))),?_⟩
   try dsimp only [zi,Cx.nox]
   have lz:=tz.1;refine⟨_,rfl,?_⟩;(try unfold qJ);(try dsimp only);refine⟨_,rfl,q,rfl,⟨_,SqL.of hq⟩,zI (D:={ nx:=qhv (tC (.bl true)) { nx:=fun _ H'=>Q .non H',rt:=Q },rt:=Q }) (K:=K) (a:=q) (xs:=zs) (fun i σ H'=>H'=H∧∃ (la:Int) (s2 s3:Option V),σ=[some (.ref q),some (.int la),s2,s3]∧∀ (j:Nat) w,i≤j->ws[j]?=some w->la+2≤w.1) ⟨rfl,-2,_,_,rfl,fun j w _ e=>?_⟩ (fun i σ H' _ ⟨h,_⟩=>h▸SqL.of hq) ?_ ?_⟩
   · have mw:=List.mem_of_getElem? e
     have:=(bd w.1 ⟨w,mw,Int.le_refl _,can.1 w mw⟩).1
     omega
   · rintro i z σ H' hz ⟨rfl,la,s2,s3,rfl,hla⟩;obtain⟨w,t,hw,rfl,ht⟩:=tz.of hz;have mw:=List.mem_of_getElem? hw;have w12:=can.1 w mw;have b2:=(bd w.2 ⟨w,mw,w12,Int.le_refl _⟩).2;have tyt:tyN H' (.ref t)=some "tuple":=by simp only[tyN];rw[ht]
     refine⟨_,rfl,_,_,_,rfl,(by decide),tyt,true,rfl,qT rfl ?_⟩;refine⟨_,rfl,_,_,rfl,.inr ⟨_,SqT.of ht,rfl⟩,.inl ⟨rfl,false,rfl,qT rfl ?_⟩⟩;(try unfold qJ);(try dsimp only);refine qR (t:=qfH _ _ _) (fun σ' H2=>H2=H'∧∃ s3:Option V,σ'=[some (.ref q),some (.int la),some (.ref t),s3]) (fun N hN=>?_) ?_
     · refine⟨_,rfl,t,rfl,⟨_,SqT.of ht⟩,qkk (K:=K) (a:=t) (xs:=pr w) (D:={ nx:=N,rt:=Q }) (fun j σ H2=>H2=H'∧∃ s3:Option V,σ=[some (.ref q),some (.int la),some (.ref t),s3]) ⟨rfl,_,rfl⟩ (fun j σ H2 _ ⟨h,_⟩=>h▸SqT.of ht) ?_ ?_⟩
       · rintro j z σ H2 hz ⟨rfl,s3,rfl⟩;obtain⟨n,_,rfl⟩:=Zb hz;refine⟨_,rfl,_,_,_,rfl,(by decide),rfl,true,rfl,qT rfl ?_⟩;exact⟨_,rfl,_,_,_,rfl,(by decide),rfl,false,rfl,qT rfl ⟨rfl,_,rfl⟩⟩
       · rintro σ H2 h;exact hN _ _ h
     rintro _ H5 ⟨rfl,s3,rfl⟩;(try unfold qJ);(try dsimp only);have h1:=hla i w (Nat.le_refl _) hw;have IX:=fun (Q2:VK) (h:Q2 (.int w.1) H5)=>(show rIx K (.ref t) (.int 0) H5 Q2 from .inr (.inl ⟨t,_,_,_,rfl,rfl,SqT.of ht,rfl,h⟩))
     have IY:=fun (Q2:VK) (h:Q2 (.int w.2) H5)=>(show rIx K (.ref t) (.int 1) H5 Q2 from .inr (.inl ⟨t,_,_,_,rfl,rfl,SqT.of ht,rfl,h⟩))
     refine⟨_,rfl,.inl ⟨_,_,rfl,rfl,⟨_,rfl,IX _ ⟨_,_,rfl,rfl,_,rfl,Ze (decide_eq_true h1) ⟨_,rfl,IY _ ⟨_,_,rfl,rfl,_,rfl,Ze (decide_eq_true w12) ?_⟩⟩⟩⟩⟩⟩;refine⟨_,_,rfl,rfl,⟨by decide,by decide,by decide⟩,_,_,rfl,rfl,_,rfl,qT (by rw[show ((10:Int) ^ (9:Int).toNat)=1000000000 by decide,decide_eq_true b2];rfl) ?_⟩;refine⟨_,rfl,IY _ ⟨rfl,w.2,_,_,rfl,fun j w' hj e=>?_⟩⟩
     have:=qcy can hw e (by omega)
     omega
   · rintro σ H' ⟨rfl,_⟩;exact kk
end
theorem Rs.nt {H H':Hp}{q:Addr}{rows:List (Int×Int)} (h:Rs H q rows) (n:NT H H'):Rs H' q rows:=by
 obtain⟨zs,h1,h2⟩:=h;refine⟨zs,n _ _ h1 (fun _ z=>nomatch z),h2.1,fun j z y e1 e2=>?_⟩;obtain⟨t,et,ht⟩:=h2.2 j z y e1 e2;exact⟨t,et,n _ _ ht (fun _ z=>nomatch z)⟩
theorem qiC {β:Type}{f:β->List V}{H H':Hp}{zs:List V}{xs:List β} (h:TupL f H zs xs) (n:NT H H'):TupL f H' zs xs:=⟨h.1,fun j z y e1 e2=>by
 obtain⟨t,et,ht⟩:=h.2 j z y e1 e2
 exact⟨t,et,n _ _ ht (fun _ z=>nomatch z)⟩⟩
theorem EnP.nt {a:Ad}{H H':Hp}{x:Addr}{nm:Str}{pk:Pk} (h:EnP a H x nm pk) (n:NT H H'):EnP a H' x nm pk:=h.mp fun _ _ _ e _=>n _ _ e (fun _ z=>nomatch z)
theorem EnD.nt {a:Ad}{H H':Hp}{y:Addr}{nm:Str}{kd:Kd} (h:EnD a H y nm kd) (n:NT H H'):EnD a H' y nm kd:=by
 cases h with
 | pl e=>exact .pl (e.nt n)
 | jn e e1 h1 h2=>exact .jn (n _ _ e (fun _ z=>nomatch z)) (n _ _ e1 (fun _ z=>nomatch z)) h1 fun p m=>let ⟨nm,e⟩:=h2 p m;⟨nm,e.nt n⟩
 | sf e e1 h1 k=>exact .sf (n _ _ e (fun _ z=>nomatch z)) (e1.nt n) h1 (k.mp n.ext)
theorem SvAt.nt {H H':Hp}{v:V}{sv:Option (Bool×Int×Int)} (h:SvAt H v sv) (n:NT H H'):SvAt H' v sv:=by
 cases sv with
 | none=>exact h
 | some q=>obtain⟨t,e,h⟩:=h;exact⟨t,e,n _ _ h (fun _ z=>nomatch z)⟩
theorem PlA.nt {H H':Hp}{pa:Addr}{nm:Str}{S:List S4}{sv:Option (Bool×Int×Int)} (h:PlA H pa nm S sv) (n:NT H H'):PlA H' pa nm S sv :=
 ⟨let ⟨sl,zs,v,h1,h2,h3,h4⟩:=h.ex;⟨sl,zs,v,n _ _ h1 (fun _ z=>nomatch z),n _ _ h2 (fun _ z=>nomatch z),qiC h3 n,h4.nt n⟩,h.sp,h.n1,h.n4,h.sf⟩
theorem qiM {nm:Str}{s:S4} (h:Sp4 nm s):zC (.str nm)=true:=by
 obtain⟨wd,pl,lo,hi⟩:=s;dsimp only [Sp4]at h;cases h<;>assumption
def qmE (a:Ad) (f:Addr) (sp:Sp):Prop:=(f=a.f_7∧sp=Ji a)∨(f=a.f_8∧sp=qbX a)
inductive qac (a:Ad) (vs:List V) (H:Hp) (Q:VK):Prop
 | mk (pa:Addr) (nm:Str) (S:List S4) (sv:Option (Bool×Int×Int)) (h1:vs=[.str nm,.ref pa]) (h2:PlA H pa nm S sv) (h3:Tbs a H) (h4:∀ (y:Addr) (H':Hp),NT H H'->Tbs a H'->EnD a H' y nm (J2 S sv)->Q (.ref y) H'):qac a vs H Q
def qad (a:Ad):Sp:=fun vs H Q _=>qac a vs H Q
section
variable {P:Program}{w:World}{K:Frag}{mg:Str->Option Value}{base:Heap}
theorem qj0 {a:Ad} (T:Txt K mg a) (hB:qeX mg base):∀ f sp,qmE a f sp->∃ fd ps,qy P w K mg base CX0 1 f fd ps sp∧keepIn K (.ref f)=true∧Binds K fd ps []:=fun f sp h=>by
 rcases h with ⟨rfl,rfl⟩|⟨rfl,rfl⟩
 · exact⟨_,_,qe9 T hB,T.d_7.k,T.d_7.b⟩
 · exact⟨_,_,qhS T hB,T.d_8.k,T.d_8.b⟩
theorem qda {a:Ad} (T:Txt K mg a) (hB:qeX mg base):qy P w K mg base CX0 10 a.f_r a.fd_r ["_law_name","_law_plan_here"] (qad a):=by
 have G_0:=qhW (P:=P) (w:=w) (base:=base) T;have G_ae:=qa9 (P:=P) (w:=w) (base:=base) T;have G_ab:=qch (P:=P) (w:=w) (base:=base) T;refine T.d_r.F.ok sc_Lentry (fun vs H Q E h=>?_) (fun cdv A outer s H vs Q E hr h=>?_)
 · obtain⟨pa,nm,S,sv,rfl,pl,tbs,kk⟩:=h;rfl
 · obtain⟨pa,nm,S,sv,rfl,pl,tbs,kk⟩:=h;have hU:=hr.units;have h_0:Room (9) _:=hr.mono (by decide);have h_ae:Room (7+1) _:=hr.mono (by decide);have h_ab:Room (5+1) _:=hr.mono (by decide)
   refine⟨_,(@qc _ _ _ _ _ (by exact(ZK (pv 1) (qi2 rfl (qw (qp (i:=2) (sc_Lentry.nd) rfl (Or.inl rfl)) (qw (qp (i:=3) (sc_Lentry.nd) rfl (Or.inl rfl)) zx)))))
     (by exact(@qc _ _ _ _ _ (by exact(qf7 (i:=4) sc_Lentry.nd rfl (Or.inl rfl) rfl (CompOk.def ["_law_spec"] [none]) (zc (pv 2)) (fun _ _ _ _ _=>(qp (i:=0) (show List.Nodup (["_law_spec"]:List Str) by decide +kernel) rfl (Or.inl rfl))) (fun _ _ _ _ _=>ZJ) (fun _ _ _ _ _=>(qj G_0 h_0 rfl T.d_0.m T.d_0.k T.d_0.b .nil qk (qa (pv 0) qb)))))
     (by exact(@qc _ _ _ _ _ (by exact(@qG _ _ _ _ _ _ _ _ (by exact(qv qgg (pv 3) qbD (qB _)))
       (by exact(@qc _ _ _ _ _ (by exact(@qz _ _ 5 _ _ _ _ (by exact sc_Lentry.nd) (by rfl) (by exact(Or.inl rfl)) (by exact(qe7 (k:=1) (Ok:=qmE a) (@qA _ _ _ _ _ _ (rIx K) (by exact qt) (by exact(@qY _ _ _ _ (by exact(@qa _ _ _ _ _ (by exact(qS (v:=.ref a.f_7) rfl T.d_7.m rfl)) (by exact(@qa _ _ _ _ _ (by exact(qS (v:=.ref a.f_8) rfl T.d_8.m rfl)) (by exact(@qb _)) (by rfl))) (by rfl))))) (by exact(zy qdo (by rfl) T.n_int Jg (qa (Qc (uEq hU) (qA (r:=rIx K) qt (pv 3) qe (fun _ _=>rfl)) qP (qB _)) qb))) (by exact fun _ _=>rfl)) (hr.mono (by decide)) (qj0 T hB) (qa (qA (r:=rIx K) qt (pv 3) qe (fun _ _=>rfl)) (qa (qA (r:=rIx K) qt (pv 3) qe (fun _ _=>rfl)) qb)))) (by rfl) (by exact .inl rfl)))
       (by exact(qf (qq (QI T.M_Sifted G_ae h_ae rfl T.g_Sifted T.d_ae.b .nil qk (qa (pv 0) (qa (qA (r:=rIx K) qt (pv 4) qe (fun _ _=>rfl)) (qa (pv 5) qb)))))))))
       (by exact qu)))
     (by exact(qc (qG (qv qdQ (ql qZ (by rfl) T.n_len qF (qa (pv 4) qb)) qe (qB _))
       (qf (qq (QI T.M_Joint G_ab h_ab rfl T.g_Joint T.d_ab.b .nil qk (qa (pv 0) (qa (pv 4) qb)))))
       qu)
     (qf (qq (qA (r:=rIx K) qt (pv 4) qe (fun _ _=>rfl))))))))))),?_⟩
   try dsimp only [zi,Cx.nox]
   obtain⟨sl,zs,v,hpa,hsl,tz,hv⟩:=pl.ex;have n1:=pl.n1;have n4:=pl.n4;have lz:=tz.1;refine⟨_,rfl,pa,_,rfl,SqL.of hpa,rfl,_,_,rfl,_,_,rfl,rfl,?_⟩;(try unfold qJ);(try dsimp only);refine⟨_,rfl,sl,rfl,⟨_,SqL.of hsl⟩,fun D fD=>?_⟩;refine zH (K:=K) (a:=sl) (xs:=zs) (D:=D) (fun i σ H'=>∃ (c0:Option V) (ys:List Addr),σ=[c0]∧Same H H'∧H' D=some (.lst (ys.map V.ref))∧ys.length=i∧∀ (j:Nat) y c,ys[j]?=some y->S[j]?=some c->EnP a H' y nm (QZ c)) ⟨none,[],rfl,Same.new _ fD,qd,rfl,fun j y c e=>nomatch e⟩ (fun i σ H' _ ⟨_,_,_,S',_⟩=>SqL.of (S' _ _ hsl)) ?_ ?_
   · rintro i z σ H' hz ⟨c0,ys,rfl,S',hD,ly,hy⟩;obtain⟨c,t,hc,rfl,ht⟩:=tz.of hz;have mc:=List.mem_of_getElem? hc;have il:=(List.getElem?_eq_some_iff.mp hc).1;refine⟨_,rfl,t,c.1,nm,c.2.1,c.2.2.1,c.2.2.2,rfl,S' _ _ ht,pl.sp c mc,fun y H2 fy S2 en=>?_⟩;refine⟨_,S2 _ _ hD,qE (by rw[List.length_map];omega),_,ys++[y],rfl,(S'.trans S2).put fD _,by rw[List.map_append];exact qd,by rw[List.length_append,ly];rfl,fun j y' c' e1 e2=>?_⟩
     have mv:∀ {x:Addr}{pk:Pk},EnP a H2 x nm pk->EnP a (upd H2 D (.lst ((ys.map V.ref)++[.ref y]))) x nm pk:=fun h=>h.mp fun C d fs e _=>by
       rw[qh (fun z=>by rw[z,S2 _ _ hD]at e;cases e)];exact e
     by_cases lt:j < ys.length
     · rw[List.getElem?_append_left lt]at e1;exact mv ((hy j y' c' e1 e2).same S2)
     · rw[List.getElem?_append_right (by omega)]at e1;have e0:j - ys.length=0:=by have:=(List.getElem?_eq_some_iff.mp e1).1;simp only[List.length_cons,List.length_nil]at this;omega
       rw[e0]at e1;cases e1;have ej:j=i:=by omega
       subst ej;rw[hc]at e2;cases e2;exact mv en
   rintro σ H1 ⟨c0,ys,rfl,S1,hD,ly,hy⟩;have ly2:ys.length=S.length:=by omega
   obtain⟨y0,hy0⟩:∃ y,ys[0]?=some y:=⟨_,List.getElem?_eq_getElem (by omega)⟩
   obtain⟨c,hc⟩:∃ c,S[0]?=some c:=⟨_,List.getElem?_eq_getElem n1⟩
   have hd:S.headD ("","",0,0)=c:=by
     cases S with
     | nil=>cases hc
     | cons x l=>cases hc;rfl
   have en0:=hy 0 y0 c hy0 hc;have ok:=qiM (pl.sp c (List.mem_of_getElem? hc));have tb1:=tbs.same S1;(try unfold qJ);(try dsimp only)
   cases sv with
   | some q =>
     obtain⟨d,x,y⟩:=q;obtain⟨t,rfl,ht⟩:=hv;have ht1:=S1 _ _ ht;obtain⟨l1,sfk⟩:=pl.sf _ rfl;have sk:=sfk c (List.mem_of_getElem? hc);refine⟨_,rfl,rfl,_,rfl,Ze (by simp) ?_⟩
     cases d with
     | true =>
       have ie:(if decide (V.str (wdS true)=V.str "daily")=true then (1:Int) else 0)=0:=by decide
       refine⟨qo (Nat.le_of_ble_eq_true rfl),fun l fl=>?_⟩;generalize hG:upd H1 l _=A2;obtain⟨s2,e2⟩:=qC hG fl;clear hG;have ht2:=s2 _ _ ht1;have IT:=fun (k:Int) (v:V) (h:atI [V.str (wdS true),V.int x,V.int y] k=some v) (Q2:VK) (q:Q2 v A2)=>(show rIx K (.ref t) (.int k) A2 Q2 from .inr (.inl ⟨t,_,_,_,rfl,rfl,SqT.of ht2,h,q⟩))
       refine⟨_,rfl,IT 0 _ rfl _ (.inl ⟨rfl,.inr ⟨_,rfl,.inl ⟨l,_,_,V.ref a.f_7,rfl,rfl,SqL.of e2,(by rw[ie];rfl),a.f_7,Ji a,rfl,.inl ⟨rfl,rfl⟩,_,rfl,IT 1 _ rfl _ ⟨_,rfl,IT 2 _ rfl _ ?_⟩⟩⟩⟩)⟩;refine⟨x,y,rfl,tb1.same s2,fun f A3 ff nt tb3 sf=>?_⟩;(try unfold qJ);(try dsimp only);have N3:NT H A3:=((Same.nt S1).trans (Same.nt s2)).trans nt;have hD3:=nt _ _ (s2 _ _ hD) (fun _ z=>nomatch z);have en3:=(en0.same s2).nt nt;have ix0:atI (ys.map V.ref) 0=some (.ref y0):=zh (j:=0) (by rw[List.getElem?_map,hy0];rfl);refine⟨_,rfl,_,rfl,.inl ⟨D,_,_,_,rfl,rfl,SqL.of hD3,ix0,_,rfl,fun z dz fz fdz nez=>?_⟩⟩;have su:=up2 (o:=.own z) (o':=.ins a.c_Sifted dz []) fz fdz;refine⟨z,dz,y0,f,nm,nm,QZ c,rfl,qd,ok,en3.same su,sk,fun H4 B4 h4=>⟨rfl,?_⟩⟩;have s4:=zg fz fdz B4
       have fin:EnD a H4 z nm (.sf (QZ (S.headD ("","",0,0))) (prS (true,x,y))):=by
         rw[hd];exact .sf h4 (en3.same s4) sk (sf.mp fun b φ e=>s4 b _ e)
       exact kk z H4 (N3.trans (Same.nt s4)) (tb3.same s4) fin
     | false =>
       have ie:(if decide (V.str (wdS false)=V.str "daily")=true then (1:Int) else 0)=1:=by decide
       refine⟨qo (Nat.le_of_ble_eq_true rfl),fun l fl=>?_⟩;generalize hG:upd H1 l _=A2;obtain⟨s2,e2⟩:=qC hG fl;clear hG;have ht2:=s2 _ _ ht1;have IT:=fun (k:Int) (v:V) (h:atI [V.str (wdS false),V.int x,V.int y] k=some v) (Q2:VK) (q:Q2 v A2)=>(show rIx K (.ref t) (.int k) A2 Q2 from .inr (.inl ⟨t,_,_,_,rfl,rfl,SqT.of ht2,h,q⟩))
       refine⟨_,rfl,IT 0 _ rfl _ (.inl ⟨rfl,.inr ⟨_,rfl,.inl ⟨l,_,_,V.ref a.f_8,rfl,rfl,SqL.of e2,(by rw[ie];rfl),a.f_8,qbX a,rfl,.inr ⟨rfl,rfl⟩,_,rfl,IT 1 _ rfl _ ⟨_,rfl,IT 2 _ rfl _ ?_⟩⟩⟩⟩)⟩;refine⟨x,y,rfl,tb1.same s2,fun f A3 ff nt tb3 sf=>?_⟩;(try unfold qJ);(try dsimp only);have N3:NT H A3:=((Same.nt S1).trans (Same.nt s2)).trans nt;have hD3:=nt _ _ (s2 _ _ hD) (fun _ z=>nomatch z);have en3:=(en0.same s2).nt nt;have ix0:atI (ys.map V.ref) 0=some (.ref y0):=zh (j:=0) (by rw[List.getElem?_map,hy0];rfl);refine⟨_,rfl,_,rfl,.inl ⟨D,_,_,_,rfl,rfl,SqL.of hD3,ix0,_,rfl,fun z dz fz fdz nez=>?_⟩⟩;have su:=up2 (o:=.own z) (o':=.ins a.c_Sifted dz []) fz fdz;refine⟨z,dz,y0,f,nm,nm,QZ c,rfl,qd,ok,en3.same su,sk,fun H4 B4 h4=>⟨rfl,?_⟩⟩;have s4:=zg fz fdz B4
       have fin:EnD a H4 z nm (.sf (QZ (S.headD ("","",0,0))) (prS (false,x,y))):=by
         rw[hd];exact .sf h4 (en3.same s4) sk (sf.mp fun b φ e=>s4 b _ e)
       exact kk z H4 (N3.trans (Same.nt s4)) (tb3.same s4) fin
   | none =>
     cases (show v=.non from hv);refine⟨_,rfl,rfl,_,rfl,qT rfl ?_⟩;(try unfold qJ);(try dsimp only);have lm:((ys.map V.ref).length:Int)=(S.length:Int):=by rw[List.length_map,ly2]
     refine⟨_,rfl,_,_,rfl,.inl ⟨_,SqL.of hD,rfl⟩,_,_,rfl,rfl,_,rfl,zT (fun g=>?_) (fun g=>?_)⟩
     · have g1:S.length > 1:=by omega
       have kd:J2 S none=.jn (S.map QZ):=if_pos g1;refine⟨_,rfl,_,rfl,fun z dz fz fdz nez=>?_⟩;have su:=up2 (o:=.own z) (o':=.ins a.c_Joint dz []) fz fdz
       have z1:((ys.zip (S.map QZ)).map fun p=>V.ref p.1)=ys.map V.ref:=by
         have:=congrArg (List.map V.ref) (List.map_fst_zip (l₁:=ys) (l₂:=S.map QZ) (by rw[List.length_map];omega))
         rw[List.map_map]at this;exact this
       have z2:((ys.zip (S.map QZ)).map (·.2))=S.map QZ:=List.map_snd_zip (l₁:=ys) (l₂:=S.map QZ) (by rw[List.length_map];omega);have zl:(ys.zip (S.map QZ)).length=S.length:=by rw[List.length_zip,List.length_map];omega
       have zp:∀ {G:Hp},Same H1 G->∀ p∈ys.zip (S.map QZ),Pt a G p.1 p.2:=fun sG p mp'=>by
         obtain⟨j,hj⟩:=List.getElem?_of_mem mp';obtain⟨h1,h2⟩:=List.getElem?_zip_eq_some.mp hj;rw[List.getElem?_map]at h2;obtain⟨c',hc',ec⟩:=Option.map_eq_some_iff.mp h2;exact⟨nm,by rw[← ec];exact(hy j p.1 c' h1 hc').same sG⟩
       refine⟨z,dz,D,nm,ys.zip (S.map QZ),rfl,qd,ok,(by rw[z1];exact su _ _ hD),by omega,by omega,zp su,fun l H4 fl B4 h4 h5=>⟨rfl,?_⟩⟩;have s4:=zg fz fdz B4
       have fin:EnD a H4 z nm (J2 S none):=by
         rw[kd,← z2];exact .jn h4 h5 (by omega) (zp s4)
       exact kk z H4 ((Same.nt S1).trans (Same.nt s4)) (tb1.same s4) fin
     · have g1:¬ S.length > 1:=by omega
       have kd:J2 S none=.pl (QZ c):=(if_neg g1).trans (by rw[hd]);have ix0:atI (ys.map V.ref) 0=some (.ref y0):=zh (j:=0) (by rw[List.getElem?_map,hy0];rfl);exact⟨_,rfl,.inl ⟨D,_,_,_,rfl,rfl,SqL.of hD,ix0,kk y0 H1 (Same.nt S1) tb1 (by rw[kd];exact .pl en0)⟩⟩
end
inductive qbj (vs:List V) (H:Hp) (Q:VK):Prop
 | mk (p q tb:Addr) (nm:Str) (ps:Pls) (m:Int) (h1:vs=[.ref p,.str nm,.ref q,.ref tb,.int m]) (h2:PenAt H p) (h3:zC (.str nm)=true) (h4:H q=some (.lst ((ps.map (·.1)).map V.str))) (h5:Td H tb ps) (h6:(0≤m∧m≤1000000000)) (h7:∀ (pa:Addr) (S:List S4) (sv:Option (Bool×Int×Int)) (H':Hp),H pa=none->But p H H'->PenAt H' p->PlA H' pa nm S sv->(∀ c∈S,c.2.1=""∨c.2.1∈ps.map (·.1))->Q (.ref pa) H'):qbj vs H Q
def qec:Sp:=fun vs H Q _=>qbj vs H Q
theorem qjS {H:Hp}{pa sl t:Addr}{v:V}{nm:Str}{c:S4}{sv:Option (Bool×Int×Int)} (h1:H pa=some (.lst [.ref sl,v])) (h2:H sl=some (.lst [.ref t])) (h3:H t=some (.tup (spV nm c))) (hv:SvAt H v sv) (sp:Sp4 nm c) (sk:Sfk (QZ c)):PlA H pa nm [c] sv :=
 ⟨⟨sl,[.ref t],v,h1,h2,TupL.snoc (f:=spV nm) (p:=c) TupL.nil h3,hv⟩,fun s m=>by rw[List.mem_singleton.mp m];exact sp,Nat.lt_succ_self _,Nat.le_of_ble_eq_true rfl,fun q e=>⟨rfl,fun s m=>by rw[List.mem_singleton.mp m];exact sk⟩⟩
theorem qjr {β:Type}{f:β->List V}{H H':Hp}{p:Addr}{zs:List V}{xs:List β} (h:TupL f H zs xs) (hp:PenAt H p) (b:But p H H'):TupL f H' zs xs:=⟨h.1,fun j z y e1 e2=>by
 obtain⟨t,e,ht⟩:=h.2 j z y e1 e2;obtain⟨c,x,y',_,hq⟩:=hp
 exact⟨t,e,b _ _ ht (qW ht hq (by intro z;cases z))⟩⟩
section
variable {P:Program}{w:World}{K:Frag}{mg:Str->Option Value}{base:Heap}
theorem qhU {a:Ad} (T:Txt K mg a):qy P w K mg base CX0 4 a.f_4 a.fd_4 ["_law_state","_law_name","_law_places","_law_tables","_law_moment"] qec:=by
 have G_a:=Za (P:=P) (w:=w) (base:=base) T;have G_k:=ju (P:=P) (w:=w) (base:=base) T;have G_1:=qfa (P:=P) (w:=w) (base:=base) T;refine T.d_4.F.ok sc_Lplan (fun vs H Q E h=>?_) (fun cdv A outer s H vs Q E hr h=>?_)
 · obtain⟨p,q,tb,nm,ps,m,rfl,hp,hnm,hq,td,h09,kk⟩:=h;rfl
 · obtain⟨p,q,tb,nm,ps,m,rfl,hp,hnm,hq,td,h09,kk⟩:=h;have hu:=qD hr;have hU:=hr.units;have h_a:Room (2) _:=hr.mono (by decide);have h_k:Room (1) _:=hr.mono (by decide);have h_1:Room (3) _:=hr.mono (by decide)
   refine⟨_,(@qc _ _ _ _ _ (by exact(qz (i:=5) sc_Lplan.nd rfl (Or.inl rfl) (qY qb)))
     (by exact(@qc _ _ _ _ _ (by exact(qz (i:=6) sc_Lplan.nd rfl (Or.inl rfl) (qj G_a h_a rfl T.d_a.m T.d_a.k T.d_a.b .nil qk (qa (pv 0) (qa qe qb)))))
     (by exact(@qc _ _ _ _ _ (by exact(@zr _ _ _ _ _ _ _ _ (by exact PassesOwn.never) (by rfl) (by exact(ZL rfl T.n_range (qa (@qA _ _ _ _ _ _ (rIx K) (by exact qt) (by exact(@qY _ _ _ _ (by exact(@qa _ _ _ _ _ (by exact qe) (by exact(@qa _ _ _ _ _ (by exact qe) (by exact(@qa _ _ _ _ _ (by exact(qx QY qe (qj G_a h_a rfl T.d_a.m T.d_a.k T.d_a.b .nil qk (qa (pv 0) (qa qe qb))))) (by exact(@qa _ _ _ _ _ (by exact qe) (by exact(@qb _)) (by rfl))) (by rfl))) (by rfl))) (by rfl))))) (by exact(pv 6)) (by exact fun _ _=>rfl)) qb))) (by exact(qp (i:=7) (sc_Lplan.nd) rfl (Or.inl rfl)))
       (by exact(qf (qO (qca PySem.F.plainAttrs_list PySem.F.slot_list_append PySem.F.type_list_append Qq (pv 5) (qa (qj G_1 h_1 rfl T.d_1.m T.d_1.k T.d_1.b .nil qk (qa (pv 0) (qa (pv 1) (qa (pv 2) (qa (pv 3) (qa (pv 4) qb)))))) qb))))) (by intro _;rfl)))
     (by exact(@qc _ _ _ _ _ (by exact(@qG _ _ _ _ _ _ _ _ (by exact(qv (uNe hU) (pv 6) qe (qB _)))
       (by exact(@qf _ _ _ (by exact(@qq _ _ _ _ (by exact(@qY _ _ _ _ (by exact(@qa _ _ _ _ _ (by exact(pv 5)) (by exact(@qa _ _ _ _ _ (by exact qbD) (by exact(@qb _)) (by rfl))) (by rfl)))))))))
       (by exact qu)))
     (by exact(@qc _ _ _ _ _ (by exact(qz (i:=8) sc_Lplan.nd rfl (Or.inl rfl) (ql (zm rfl) (by rfl) T.n_max zn (qa qe (qa (qx zY (pv 4) (qj G_a h_a rfl T.d_a.m T.d_a.k T.d_a.b .nil qk (qa (pv 0) (qa qe qb)))) qb)))))
     (by exact(@qc _ _ _ _ _ (by exact(ZK (zf (qa qP (qa (pv 1) (qa qP (qa (pv 8) (qa (ql (zZ rfl) (by rfl) T.n_min z9 (qa (qx Qo qe qe) (qa (qx QY (pv 8) (qj G_a h_a rfl T.d_a.m T.d_a.k T.d_a.b .nil qk (qa (pv 0) (qa qe qb)))) qb))) qb)))))) (qbC (pv 5) qe ZQ)))
     (by exact(@qc _ _ _ _ _ (by exact(@qG _ _ _ _ _ _ _ _ (by exact(qv (uEq hU) (qj G_a h_a rfl T.d_a.m T.d_a.k T.d_a.b .nil qk (qa (pv 0) (qa qe qb))) qe (qB _)))
       (by exact(@qc _ _ _ _ _ (by exact(qz (i:=9) sc_Lplan.nd rfl (Or.inl rfl) (qj G_k h_k rfl T.d_k.m T.d_k.k T.d_k.b .nil qk (qa (zN hu (pv 3) (qA (r:=rIx K) qt (pv 2) qe (fun _ _=>rfl)) (fun _ _=>rfl)) (qa (pv 4) qb)))))
       (by exact(@qf _ _ _ (by exact(ZK (zf (qa qP (qa (pv 1) (qa (qA (r:=rIx K) qt (pv 2) qe (fun _ _=>rfl)) (qa (pv 9) (qa (pv 9) qb)))))) (qbC (pv 5) qe ZQ)))))))
       (by exact qu)))
     (by exact(@qc _ _ _ _ _ (by exact(qz (i:=10) sc_Lplan.nd rfl (Or.inl rfl) (qx qaE (pv 4) qe)))
     (by exact(@qc _ _ _ _ _ (by exact(@qG _ _ _ _ _ _ _ _ (by exact(qv (uEq hU) (qj G_a h_a rfl T.d_a.m T.d_a.k T.d_a.b .nil qk (qa (pv 0) (qa qe qb))) qe (qB _)))
       (by exact(@qf _ _ _ (by exact(@qq _ _ _ _ (by exact(@qY _ _ _ _ (by exact(@qa _ _ _ _ _ (by exact(pv 5)) (by exact(@qa _ _ _ _ _ (by exact(@zf _ _ _ _ _ (by exact(@qa _ _ _ _ _ (by exact qP) (by exact(@qa _ _ _ _ _ (by exact(ql (zm rfl) (by rfl) T.n_max zn (qa qe (qa (qx zY (pv 10) (qj G_a h_a rfl T.d_a.m T.d_a.k T.d_a.b .nil qk (qa (pv 0) (qa qe qb)))) qb)))) (by exact(@qa _ _ _ _ _ (by exact(qx QY (pv 10) (qj G_a h_a rfl T.d_a.m T.d_a.k T.d_a.b .nil qk (qa (pv 0) (qa qe qb))))) (by exact(@qb _)) (by rfl))) (by rfl))) (by rfl))))) (by exact(@qb _)) (by rfl))) (by rfl)))))))))
       (by exact qu)))
     (by exact(@qf _ _ _ (by exact(@qq _ _ _ _ (by exact(@qY _ _ _ _ (by exact(@qa _ _ _ _ _ (by exact(pv 5)) (by exact(@qa _ _ _ _ _ (by exact(@zf _ _ _ _ _ (by exact(@qa _ _ _ _ _ (by exact qP) (by exact(@qa _ _ _ _ _ (by exact(qj G_a h_a rfl T.d_a.m T.d_a.k T.d_a.b .nil qk (qa (pv 0) (qa qe qb)))) (by exact(@qa _ _ _ _ _ (by exact(@qA _ _ _ _ _ _ (rIx K) (by exact qt) (by exact(@qY _ _ _ _ (by exact(@qa _ _ _ _ _ (by exact(qx QB (pv 4) qe)) (by exact(@qa _ _ _ _ _ (by exact(qj G_a h_a rfl T.d_a.m T.d_a.k T.d_a.b .nil qk (qa (pv 0) (qa qe qb)))) (by exact(@qb _)) (by rfl))) (by rfl))))) (by exact(qj G_a h_a rfl T.d_a.m T.d_a.k T.d_a.b .nil qk (qa (pv 0) (qa qe qb)))) (by exact fun _ _=>rfl))) (by exact(@qb _)) (by rfl))) (by rfl))) (by rfl))))) (by exact(@qb _)) (by rfl))) (by rfl)))))))))))))))))))))))))),?_⟩
   try dsimp only [zi,Cx.nox]
   have p0:PenAt H p:=hp;have t0:But p H H:=But.refl p H;have lps:=td.2.ne;have lpf:=td.2.few
   have nq:q≠p:=by
     obtain⟨c,x,y,_,e⟩:=hp;refine qW hq e (fun z=>?_);injection z with z
     cases ps with
     | nil=>cases lps
     | cons a r=>cases z
   have e9:(10:Int) ^ (9:Int).toNat=1000000000:=by decide
   refine⟨(qo (Nat.le_of_ble_eq_true rfl)),fun sl f_sl=>?_⟩;have n_sl:sl≠p:=p0.ne f_sl;have e_sl:(upd H sl (.lst [])) sl=some (.lst []):=qd;have p1:PenAt (upd H sl (.lst [])) p:=p0.upd n_sl _;have u1:Same H (upd H sl (.lst [])):=Same.new _ f_sl;have t1:=t0.same u1;(try dsimp only);generalize upd H sl (.lst [])=G1 at e_sl p1 u1 t1 ⊢;(try unfold qJ);(try dsimp only);refine⟨_,rfl,p,_,rfl,p1,by decide,by decide,fun kd G2 kd0 kd1 u2 p2=>?_⟩;have t2:=t1.trans u2;have kd1:kd < 4:=kd1;(try unfold qJ);(try dsimp only);have fsl:H sl=none:=f_sl;have hsl0_:=(u2 _ _ e_sl n_sl)
   refine qR (t:=qfH _ _ _) (fun σ' H'=>∃ (s7:Option V) (S:List S4) (zs:List V),σ'=[some (.ref p),some (.str nm),some (.ref q),some (.ref tb),some (.int m),some (.ref sl),some (.int kd),s7,none,none,none]∧∃ n:Int,1≤n∧n≤4∧(kd=3->n=1)∧But p H H'∧PenAt H' p∧H' sl=some (.lst zs)∧TupL (spV nm) H' zs S∧S.length=n.toNat∧∀ c∈S,Sp4 nm c∧(c.2.1=""∨c.2.1∈ps.map (·.1))) (fun N hN=>?_) ?_
   · refine⟨_,rfl,p,_,rfl,p2,by decide,by decide,fun x3 G3 x30 x31 u3 p3=>?_⟩;have t3:=t2.trans u3;have x31:x3 < 3:=x31;refine .inl ⟨_,_,rfl,rfl,?_⟩;refine⟨(qo (Nat.le_of_ble_eq_true rfl)),fun l4 f_l4=>?_⟩;have n_l4:l4≠p:=p3.ne f_l4;have e_l4:(upd G3 l4 (.lst [.int 1,.int 1,.int (2+x3),.int 1])) l4=some (.lst [.int 1,.int 1,.int (2+x3),.int 1]):=qd;have p4:PenAt (upd G3 l4 (.lst [.int 1,.int 1,.int (2+x3),.int 1])) p:=p3.upd n_l4 _;have u4:Same G3 (upd G3 l4 (.lst [.int 1,.int 1,.int (2+x3),.int 1])):=Same.new _ f_l4;have t4:=t3.same u4;(try dsimp only);generalize upd G3 l4 (.lst [.int 1,.int 1,.int (2+x3),.int 1])=G4 at e_l4 p4 u4 t4 ⊢
     obtain⟨v,hv,n,rfl,nb0,nb1,nb3⟩:∃ v,atI ([.int 1,.int 1,.int (2+x3),.int 1]:List V) kd=some v∧∃ n:Int,v=.int n∧1≤n∧n≤4∧(kd=3->n=1):=by
       have:kd=0∨kd=1∨kd=2∨kd=3:=by omega
       rcases this with rfl|rfl|rfl|rfl
       · exact⟨_,rfl,1,rfl,by decide,by decide,fun _=>rfl⟩
       · exact⟨_,rfl,1,rfl,by decide,by decide,fun _=>rfl⟩
       · exact⟨_,rfl,2+x3,rfl,by omega,by omega,fun z=>absurd z (by decide)⟩
       · exact⟨_,rfl,1,rfl,by decide,by decide,fun _=>rfl⟩
     have hsl0:=(u4 _ _ (u3 _ _ (u2 _ _ e_sl n_sl) n_sl))
     have hl4:=e_l4;clear u1 u2 u3 u4 p0 p1 p2 p3 t2 t3 e_sl e_l4;refine⟨_,rfl,.inl ⟨l4,_,_,_,rfl,rfl,SqL.of hl4,hv,?_⟩⟩;refine⟨n,rfl,by omega,by omega,Jb (lo:=0) (D:={ nx:=N,rt:=Q }) (fun i σ H'=>∃ (s7:Option V) (S:List S4) (zs:List V),σ=[some (.ref p),some (.str nm),some (.ref q),some (.ref tb),some (.int m),some (.ref sl),some (.int kd),s7,none,none,none]∧But p H H'∧PenAt H' p∧H' sl=some (.lst zs)∧TupL (spV nm) H' zs S∧S.length=i∧∀ c∈S,Sp4 nm c∧(c.2.1=""∨c.2.1∈ps.map (·.1))) ⟨_,[],[],rfl,t4,p4,hsl0,.nil,rfl,fun c m=>nomatch m⟩ ?_ ?_⟩
     · rintro i σ H1 hi ⟨s7,S,zs,rfl,B,pen,hsl,tz,lS,ok⟩;have hi2:i < n.toNat:=hi;have lz:=tz.1;refine⟨_,rfl,.inl ⟨rfl,_,SqL.of hsl⟩,_,rfl,_,rfl,_,rfl,_,rfl,_,rfl,p,q,tb,nm,ps,m,rfl,pen,hnm,B _ _ hq nq,td.bp hp B,h09,fun s wd pl lo hi_ H2 fs B2 p2 hs sp hp'=>?_⟩;have hsl2:=B2 _ _ hsl n_sl;have tz2:=(qjr tz pen B2).snoc (p:=(wd,pl,lo,hi_)) hs;refine⟨sl,_,_,rfl,rfl,hsl2,qE (by omega),?_⟩;refine⟨_,S++[(wd,pl,lo,hi_)],_,rfl,(B.trans B2).putN fsl _,p2.upd n_sl _,qd,tz2.put hsl2,by rw[List.length_append,lS];rfl,fun c mc=>?_⟩;rcases List.mem_append.mp mc with mc|mc
       · exact ok c mc
       · rw[List.mem_singleton.mp mc];exact⟨sp,hp'⟩
     · rintro σ H1 ⟨s7,S,zs,e1,h⟩;exact hN _ _ ⟨s7,S,zs,e1,n,nb0,nb1,nb3,h⟩
   rintro _ H1 ⟨s7,S,zs,rfl,n,nb0,nb1,nb3,B,pen,hsl,tz,lS,ok⟩;(try unfold qJ);(try dsimp only);refine⟨_,rfl,.inl ⟨rfl,_,rfl,?_⟩⟩;by_cases k3:kd=3
   case neg =>
     refine Ze (by simp[k3]) ⟨_,rfl,qo (Nat.le_of_ble_eq_true rfl),fun pa fpa=>?_⟩;have su:=Same.new (.lst [.ref sl,.non]) fpa;have npa:pa≠p:=pen.ne fpa;exact kk pa S none _ (B.none fpa npa) (B.same su) (pen.upd npa _) ⟨⟨sl,zs,.non,qd,su _ _ hsl,tz.same su,rfl⟩,fun c mc=>(ok c mc).1,by omega,by omega,fun q e=>nomatch e⟩ fun c mc=>(ok c mc).2
   subst k3;have n1:=nb3 rfl;subst n1;refine qT rfl ?_;(try unfold qJ);(try dsimp only);have p20:PenAt H1 p:=pen;have t20:But p H1 H1:=But.refl p H1;refine⟨_,rfl,_,rfl,p,_,rfl,p20,by decide,by decide,fun a4 G21 a40 a41 u21 p21=>?_⟩;have t21:=t20.trans u21;have a41:a4 < 400:=a41;refine⟨_,_,rfl,rfl,_,_,rfl,?_⟩;obtain⟨lw,elw⟩:∃ x,x=(if m - a4 > 0 then m - a4 else 0):=⟨_,rfl⟩
   have lw0:0≤lw∧lw≤m:=by rw[elw];split<;>omega
   rw[← elw];(try unfold qJ);(try dsimp only);refine⟨_,rfl,_,rfl,_,_,rfl,rfl,⟨by decide,by decide,by decide⟩,_,rfl,_,rfl,p,_,rfl,p21,by decide,by decide,fun a5 G22 a50 a51 u22 p22=>?_⟩;have t22:=t21.trans u22;have a51:a5 < 1000:=a51;refine .inl ⟨_,_,rfl,rfl,_,_,rfl,?_⟩;rw[e9];obtain⟨hg,ehg⟩:∃ x,x=(if lw+a5 < 1000000000 then lw+a5 else 1000000000):=⟨_,rfl⟩
   have hg0:lw≤hg∧hg≤1000000000∧hg - lw < 1000:=by rw[ehg];split<;>omega
   rw[← ehg];refine⟨(qo (Nat.le_of_ble_eq_true rfl)),fun tw f_tw=>?_⟩;have n_tw:tw≠p:=p22.ne f_tw;have e_tw:(upd G22 tw (.tup [.str "within",.str nm,.str "",.int lw,.int hg])) tw=some (.tup [.str "within",.str nm,.str "",.int lw,.int hg]):=qd;have p23:PenAt (upd G22 tw (.tup [.str "within",.str nm,.str "",.int lw,.int hg])) p:=p22.upd n_tw _;have u23:Same G22 (upd G22 tw (.tup [.str "within",.str nm,.str "",.int lw,.int hg])):=Same.new _ f_tw;have t23:=t22.same u23;(try dsimp only);generalize upd G22 tw (.tup [.str "within",.str nm,.str "",.int lw,.int hg])=G23 at e_tw p23 u23 t23 ⊢
   obtain⟨z0,ez⟩:∃ z,zs=[z]:=by
     have lz:=tz.1;rw[lS]at lz
     match zs,lz with
     | [z],_=>exact⟨z,rfl⟩
   subst ez;have hsl2:=t23 _ _ hsl n_sl;have e_tw:G23 tw=some (.tup (spV nm ("within","",lw,hg))):=e_tw;refine⟨_,rfl,sl,_,_,0,rfl,rfl,hsl2,rfl,?_⟩;generalize hG:upd G23 sl _=H2;have BL:But sl G23 H2:=by rw[← hG];exact(But.refl _ _).put _
   have hsl3:H2 sl=some (.lst [.ref tw]):=by rw[← hG];exact qd
   clear hG
   have pen2:PenAt H2 p:=by
     obtain⟨a,b,c,d,e⟩:=p23;exact⟨a,b,c,d,BL _ _ e (Ne.symm n_sl)⟩
   have htw:H2 tw=some (.tup (spV nm ("within","",lw,hg))):=BL _ _ e_tw (qW e_tw hsl2 (fun z=>nomatch z));have B2:But p H H2:=fun b o h nb=>BL _ _ (t23 _ _ (B _ _ h nb) nb) (qi h fsl);clear BL tz hsl hsl2 e_tw;(try unfold qJ);(try dsimp only);refine qR (t:=qkC _ _ _) (fun σ' H'=>∃ (c:S4) (t:Addr) (s9:Option V),σ'=[some (.ref p),some (.str nm),some (.ref q),some (.ref tb),some (.int m),some (.ref sl),some (.int 3),s7,some (.int lw),s9,none]∧But p H H'∧PenAt H' p∧H' sl=some (.lst [.ref t])∧H' t=some (.tup (spV nm c))∧Sp4 nm c∧Sfk (QZ c)∧(c.2.1=""∨c.2.1∈ps.map (·.1))) (fun N hN=>?_) ?_
   · refine⟨_,rfl,p,_,rfl,pen2,by decide,by decide,fun b2 H3 _ _ B3 pen3=>?_⟩;have hsl4:=B3 _ _ hsl3 n_sl;have htw4:=B3 _ _ htw (pen2.nk htw (fun _ z=>nomatch z));have B4:=B2.trans B3;refine .inl ⟨rfl,_,rfl,zT (fun _=>?_) (fun _=>?_)⟩
     · obtain⟨x0,hx0⟩:∃ x,ps[0]?=some x:=⟨_,List.getElem?_eq_getElem lps⟩
       have mx:=List.mem_of_getElem? hx0;have ix0:atI ((ps.map (·.1)).map V.str) 0=some (.str x0.1):=zh (j:=0) (by rw[List.getElem?_map,List.getElem?_map,hx0];rfl);have IQ:=fun (G:Hp) (hG:But p H G) (Q2:VK) (h:Q2 (.str x0.1) G)=>(show rIx K (.ref q) (.int 0) G Q2 from .inl ⟨q,_,_,_,rfl,rfl,SqL.of (hG _ _ hq nq),ix0,h⟩)
       have tdk:=td.bp hp B4;refine⟨_,rfl,_,rfl,IQ _ B4 _ ⟨tb,_,rfl,tdk.get mx,_,rfl,x0.2.1,x0.2.2,m,rfl,tdk.2.rs x0 mx,tdk.2.good x0 mx,h09.1,fun r H5 S5 r0 r1 _=>?_⟩⟩;have B5:=B4.same S5;(try unfold qJ);(try dsimp only);refine⟨_,rfl,_,rfl,IQ _ B5 _ ⟨_,rfl,_,rfl,qo (Nat.le_of_ble_eq_true rfl),fun t ft=>?_⟩⟩;have su:=Same.new (.tup (spV nm ("read",x0.1,r,r))) ft;have br:qkv r:=⟨by omega,by omega⟩
       have hsl5:=(S5.trans su) _ _ hsl4;have pen5:=(pen3.same S5).same su;refine⟨_,rfl,sl,_,_,0,rfl,rfl,hsl5,rfl,?_⟩;refine hN _ _ ⟨("read",x0.1,r,r),t,_,rfl,(B5.same su).putN fsl _,pen5.upd n_sl _,qd,?_,.read hnm (td.2.nm x0 mx) br,?_,.inr (List.mem_map_of_mem mx)⟩
       · rw[qh (fun z=>by rw[z]at ft;rw[S5 _ _ hsl4]at ft;cases ft)];exact qd
       · rw[qga];trivial
     · have b1:Ok9 lw:=⟨by omega,by omega⟩
       have b2':Ok9 hg:=⟨by omega,by omega⟩
       exact hN _ _ ⟨("within","",lw,hg),tw,_,rfl,B4,pen3,hsl4,htw4,.within hnm b1 b2',by rw[qf9];exact hg0.2.2,.inl rfl⟩
   rintro _ H6 ⟨c,t,s9,rfl,B6,pen6,hsl6,ht6,sp,sk,hpl⟩;(try unfold qJ);(try dsimp only);refine⟨_,rfl,_,_,rfl,rfl,⟨by decide,by decide⟩,?_⟩;(try unfold qJ);(try dsimp only);have ntp:=pen6.nk ht6 (fun _ z=>nomatch z);refine⟨_,rfl,p,_,rfl,pen6,by decide,by decide,fun b3 H7 _ _ B7 pen7=>?_⟩
   have fin:∀ (G G':Hp) (pa ts:Addr) (d:Bool) (x y:Int),But p H7 G->PenAt G p->G ts=none->(upd G ts (.tup [.str (wdS d),.int x,.int y])) pa=none->Q (.ref pa) (upd (upd G ts (.tup [.str (wdS d),.int x,.int y])) pa (.lst [.ref sl,.ref ts])):=fun G _ pa ts d x y bG pG f1 f2=>by
     have s1:=Same.new (.tup [.str (wdS d),.int x,.int y]) f1;have s2:=Same.new (.lst [.ref sl,.ref ts]) f2;have nts:=pG.ne f1;have np2:PenAt (upd G ts (.tup [.str (wdS d),.int x,.int y])) p:=pG.upd nts _;have npa:=np2.ne f2;have BG:=(B6.trans B7).trans bG;refine kk pa [c] (some (d,x,y)) _ (BG.none (Same.none s1 f2) npa) ((BG.same s1).same s2) (np2.upd npa _) (qjS qd ((s1.trans s2) _ _ (bG _ _ (B7 _ _ hsl6 n_sl) n_sl)) ((s1.trans s2) _ _ (bG _ _ (B7 _ _ ht6 ntp) ntp)) ⟨ts,rfl,s2 _ _ qd⟩ sp sk) fun c' mc=>by rw[List.mem_singleton.mp mc];exact hpl
   refine .inl ⟨rfl,_,rfl,zT (fun _=>?_) (fun _=>?_)⟩
   · refine⟨_,rfl,_,rfl,_,rfl,p,_,rfl,pen7,by decide,by decide,fun c1 H8 _ _ B8 pen8=>?_⟩;refine⟨_,_,rfl,rfl,_,_,rfl,?_⟩;refine⟨_,rfl,_,rfl,p,_,rfl,pen8,by decide,by decide,fun c2 H9 _ _ B9 pen9=>?_⟩;refine .inl ⟨_,_,rfl,rfl,qo (Nat.le_of_ble_eq_true rfl),fun ts f1=>⟨qo (Nat.le_of_ble_eq_true rfl),fun pa f2=>?_⟩⟩;exact fin H9 H9 pa ts true _ _ (B8.trans B9) pen9 f1 f2
   · try unfold qJ
     try dsimp only
     refine⟨_,rfl,_,rfl,p,_,rfl,pen7,by decide,by decide,fun c1 H8 _ _ B8 pen8=>?_⟩;refine⟨_,rfl,_,_,rfl,rfl,(by decide),_,rfl,p,_,rfl,pen8,by decide,by decide,fun c2 H9 _ _ B9 pen9=>⟨qo (Nat.le_of_ble_eq_true rfl),fun l5 fl5=>?_⟩⟩;generalize hG:upd H9 l5 _=G9;obtain⟨s9_,e5⟩:=qC hG fl5;clear hG;have n5:l5≠p:=pen9.ne fl5;refine⟨_,rfl,p,_,rfl,pen9.same s9_,by decide,by decide,fun c3 H10 c30 c31 B10 pen10=>?_⟩;obtain⟨v,hv,mv⟩:=qaX (xs:=([.int (m % 1440),.int c2]:List V)) c30 c31
     obtain⟨yy,rfl⟩:∃ yy:Int,v=.int yy:=by
       simp only[List.mem_cons,List.not_mem_nil,or_false]at mv;rcases mv with rfl|rfl<;>exact⟨_,rfl⟩
     refine .inl ⟨l5,_,_,_,rfl,rfl,SqL.of (B10 _ _ e5 n5),hv,qo (Nat.le_of_ble_eq_true rfl),fun ts f1=>⟨qo (Nat.le_of_ble_eq_true rfl),fun pa f2=>?_⟩⟩;exact fin H10 H10 pa ts false _ _ (((B8.trans B9).same s9_).trans B10) pen10 f1 f2
end
def TdD (H:Hp) (tb:Addr) (ps:Pls):Prop:=H tb=some (.dK (dkv ps))∧TdI H ps
theorem TdD.td {H:Hp}{tb:Addr}{ps:Pls} (h:TdD H tb ps):Td H tb ps:=⟨.inl h.1,h.2⟩
theorem qkO {H:Hp}{q b:Addr}{rows:List (Int×Int)}{kvs:List (Key×V)} (h:Rs H q rows) (e:H b=some (.dK kvs)) (o:HO):Rs (upd H b o) q rows:=by
 obtain⟨zs,h1,h2⟩:=h;refine⟨zs,by rw[qh (qW h1 e (fun z=>nomatch z))];exact h1,h2.1,fun j z y e1 e2=>?_⟩;obtain⟨t,et,ht⟩:=h2.2 j z y e1 e2;exact⟨t,et,by rw[qh (qW ht e (fun z=>nomatch z))];exact ht⟩
theorem TdI.upd {H:Hp}{b:Addr}{ps:Pls}{kvs:List (Key×V)} (h:TdI H ps) (e:H b=some (.dK kvs)) (o:HO):TdI (L2.upd H b o) ps:=⟨fun x m=>qkO (h.rs x m) e o,h.good,h.nm,h.nd,h.ne,h.few⟩
theorem qgy {H H':Hp}{p tb:Addr}{kvs:List (Key×V)}{ob:Obj} (h:H tb=some (.dK kvs)) (b:But p (upd H tb (.frz ob (.dK kvs))) H'):But p H (upd H' tb (.dK kvs)):=fun c o e n=>by
 by_cases z:c=tb
 · subst z;rw[h]at e;cases e;exact qd
 · rw[qh z];exact b c o (by rw[qh z];exact e) n
theorem qde {H H':Hp}{tb:Addr}{kvs:List (Key×V)}{ob:Obj} (h:H tb=some (.dK kvs)) (b:Same (upd H tb (.frz ob (.dK kvs))) H'):Same H (upd H' tb (.dK kvs)):=fun c o e=>by
 by_cases z:c=tb
 · subst z;rw[h]at e;cases e;exact qd
 · rw[qh z];exact b c o (by rw[qh z];exact e)
theorem qkd {H H':Hp}{tb:Addr}{kvs:List (Key×V)}{ob:Obj} (h:H tb=some (.dK kvs)) (b:NT (upd H tb (.frz ob (.dK kvs))) H'):NT H (upd H' tb (.dK kvs)):=fun c o e n=>by
 by_cases z:c=tb
 · subst z;rw[h]at e;cases e;exact qd
 · rw[qh z];exact b c o (by rw[qh z];exact e) n
theorem qjU {H:Hp}{p b:Addr}{kvs:List (Key×V)} (h:PenAt H p) (e:H b=some (.dK kvs)) (o:HO):PenAt (upd H b o) p:=by
 obtain⟨c,x,y,d,z⟩:=h;exact⟨c,x,y,d,by rw[qh (qW z e (fun z=>nomatch z))];exact z⟩
inductive qbk (vs:List V) (H:Hp) (Q:VK):Prop
 | mk (p tb:Addr) (ps:Pls) (m:Int) (h1:vs=[.ref p,.ref tb,.int m]) (h2:PenAt H p) (h3:TdD H tb ps) (h4:(0≤m∧m≤1000000000)) (h5:∀ (q:Addr) (ns:List Int) (H':Hp),H q=none->But p H H'->PenAt H' p->H' q=some (.lst (ns.map V.int))->0 < ns.length->ns.length≤18->(∀ n∈ns,0≤n∧n≤1000000000)->Q (.ref q) H'):qbk vs H Q
def qed:Sp:=fun vs H Q _=>qbk vs H Q
section
variable {P:Program}{w:World}{K:Frag}{mg:Str->Option Value}{base:Heap}
theorem qhV {a:Ad} (T:Txt K mg a):qy P w K mg base CX0 3 a.f_H a.fd_H ["_law_state","_law_tables","_law_moment"] qed:=by
 have G_a:=Za (P:=P) (w:=w) (base:=base) T;refine T.d_H.F.ok sc_Lmore (fun vs H Q E h=>?_) (fun cdv A outer s H vs Q E hr h=>?_)
 · obtain⟨p,tb,ps,m,rfl,hp,td,h09,kk⟩:=h;rfl
 · obtain⟨p,tb,ps,m,rfl,hp,td,h09,kk⟩:=h;have h_a:Room (2) _:=hr.mono (by decide)
   refine⟨_,(@qc _ _ _ _ _ (by exact(@qz _ _ 3 _ _ _ _ (by exact sc_Lmore.nd) (by rfl) (by exact(Or.inl rfl)) (by exact(@qY _ _ _ _ (by exact(@qa _ _ _ _ _ (by exact qe) (by exact(@qa _ _ _ _ _ (by exact(qx Qo qe qe)) (by exact(@qa _ _ _ _ _ (by exact(pv 2)) (by exact(@qa _ _ _ _ _ (by exact(ql (zm rfl) (by rfl) T.n_max zn (qa qe (qa (qx zY (pv 2) qe) qb)))) (by exact(@qa _ _ _ _ _ (by exact(qj G_a h_a rfl T.d_a.m T.d_a.k T.d_a.b .nil qk (qa (pv 0) (qa (qx QY (qx Qo qe qe) qe) qb)))) (by exact(@qa _ _ _ _ _ (by exact(qj G_a h_a rfl T.d_a.m T.d_a.k T.d_a.b .nil qk (qa (pv 0) (qa (qx QY (qx Qo qe qe) qe) qb)))) (by exact(@qb _)) (by rfl))) (by rfl))) (by rfl))) (by rfl))) (by rfl))) (by rfl))))) (by rfl) (by exact .inl rfl)))
     (by exact(@qc _ _ _ _ _ (by exact(@PS.loan _ _ _ (by exact(@zr _ _ _ _ _ _ _ _ (by exact PassesOwn.never) (by rfl) (by exact(qgc (pv 1))) (by exact(qp (i:=4) (sc_Lmore.nd) rfl (Or.inl rfl)))
       (by exact(@qc _ _ _ _ _ (by exact(qz (i:=5) sc_Lmore.nd rfl (Or.inl rfl) (qA (r:=rIx K) qt (qA (r:=rIx K) qt (pv 4) (qj G_a h_a rfl T.d_a.m T.d_a.k T.d_a.b .nil qk (qa (pv 0) (qa (ql qZ (by rfl) T.n_len qF (qa (pv 4) qb)) qb))) (fun _ _=>rfl)) qe (fun _ _=>rfl))))
       (by exact(@qf _ _ _ (by exact(@qz _ _ 3 _ _ _ _ (by exact sc_Lmore.nd) (by rfl) (by exact(Or.inl rfl)) (by exact(@qx _ _ _ _ _ _ _ _ (by exact QY) (by exact(pv 3)) (by exact(@qY _ _ _ _ (by exact(@qa _ _ _ _ _ (by exact(ql (zm rfl) (by rfl) T.n_max zn (qa qe (qa (qx zY (pv 5) qe) qb)))) (by exact(@qa _ _ _ _ _ (by exact(pv 5)) (by exact(@qa _ _ _ _ _ (by exact(ql (zZ rfl) (by rfl) T.n_min z9 (qa (qx Qo qe qe) (qa (qx QY (pv 5) (qj G_a h_a rfl T.d_a.m T.d_a.k T.d_a.b .nil qk (qa (pv 0) (qa qe qb)))) qb)))) (by exact(@qb _)) (by rfl))) (by rfl))) (by rfl))))))) (by rfl) (by exact .inl rfl))))))) (by intro _;rfl)))))
     (by exact(qf (qq (pv 3))))))),?_⟩
   try dsimp only [zi,Cx.nox]
   have p0:PenAt H p:=hp;have t0:But p H H:=But.refl p H;have lpf:=td.2.few;have e9:(10:Int) ^ (9:Int).toNat=1000000000:=by decide
   refine⟨_,_,rfl,rfl,⟨by decide,by decide,by decide⟩,_,rfl,_,rfl,_,_,rfl,rfl,_,_,rfl,_,rfl,_,_,rfl,rfl,⟨by decide,by decide,by decide⟩,.inl ⟨_,_,rfl,rfl,p,_,rfl,p0,by decide,by decide,fun a1 G1 a10 a11 u1 p1=>?_⟩⟩;have t1:=t0.trans u1;refine⟨_,rfl,_,_,rfl,rfl,⟨by decide,by decide,by decide⟩,.inl ⟨_,_,rfl,rfl,p,_,rfl,p1,by decide,by decide,fun a2 G2 a20 a21 u2 p2=>?_⟩⟩;have t2:=t1.trans u2;refine⟨qo (Nat.le_of_ble_eq_true rfl),fun f0 ff0=>?_⟩;generalize hG:upd G2 f0 _=F0;obtain⟨s0,e0⟩:=qC hG ff0;clear hG;have b0:But p H F0:=t2.same s0;have pen0:PenAt F0 p:=p2.same s0;have nf0:f0≠p:=p2.ne ff0;have ff:H f0=none:=t2.none ff0 nf0;have a11:a1 < 1000000001:=a11;have a21:a2 < 1000000001:=a21
   obtain⟨ns0,e0,l0,bd0⟩:∃ ns:List Int,F0 f0=some (.lst (ns.map V.int))∧ns.length=6∧∀ n∈ns,0≤n∧n≤1000000000:=by
     refine⟨[0,(10:Int) ^ (9:Int).toNat,m,(if m - 1 > 0 then m - 1 else 0),a1,a2],e0,rfl,fun n mn=>?_⟩;rw[e9]at mn;simp only[List.mem_cons,List.not_mem_nil,or_false]at mn;rcases mn with rfl|rfl|rfl|rfl|rfl|rfl
     · omega
     · omega
     · exact h09
     · split<;>omega
     · omega
     · omega
   have td0:TdD F0 tb ps:=⟨b0 _ _ td.1 (hp.nk td.1 (fun _ z=>nomatch z)),(td.td.bp hp b0).2⟩
   clear u1 u2 p0 p1 p2 t0 t1 t2;(try unfold qJ);(try dsimp only);refine qR (t:=qhC _) (fun σ' H'=>∃ (s4 s5:Option V) (fa:Addr) (ns:List Int),σ'=[some (.ref p),some (.ref tb),some (.int m),some (.ref fa),s4,s5]∧But p H H'∧PenAt H' p∧H fa=none∧H' fa=some (.lst (ns.map V.int))∧0 < ns.length∧ns.length≤18∧∀ n∈ns,0≤n∧n≤1000000000) (fun N hN=>?_) ?_
   · refine⟨tb,_,td0.1,fun ob=>?_⟩;have tdf:=TdI.upd td0.2 td0.1 (.frz ob (.dK (dkv ps)));have penf:PenAt (upd F0 tb (.frz ob (.dK (dkv ps)))) p:=qjU pen0 td0.1 _;have ef:(upd F0 tb (.frz ob (.dK (dkv ps)))) tb=some (.frz ob (.dK (dkv ps))):=qd;have ntb:tb≠p:=pen0.nk td0.1 (fun _ z=>nomatch z);have e0f:(upd F0 tb (.frz ob (.dK (dkv ps)))) f0=some (.lst (ns0.map V.int)):=by rw[qh (qW e0 td0.1 (fun z=>nomatch z))];exact e0
     have back:∀ {H':Hp},But p (upd F0 tb (.frz ob (.dK (dkv ps)))) H'->But p H (upd H' tb (.dK (dkv ps))):=fun b=>b0.trans (qgy td0.1 b);generalize upd F0 tb (.frz ob (.dK (dkv ps)))=Hf at tdf penf ef e0f back ⊢
     have hf_none:∀ b,Hf b=none->b≠p->H b=none:=fun b h n=>by
       have:(upd Hf tb (.dK (dkv ps))) b=none:=by rw[qh (fun z=>by rw[z,ef]at h;cases h)];exact h
       exact(back (But.refl _ _)).none this n
     refine⟨_,rfl,tb,ob,_,rfl,ef,qfl (a:=tb) (ob:=ob) (kvs:=dkv ps) (D:=loan tb ob (dkv ps) { nx:=N,rt:=Q }) (fun j σ H'=>∃ (s4 s5:Option V) (fa:Addr) (ns:List Int),σ=[some (.ref p),some (.ref tb),some (.int m),some (.ref fa),s4,s5]∧But p Hf H'∧PenAt H' p∧H fa=none∧H' fa=some (.lst (ns.map V.int))∧0 < ns.length∧ns.length=6+3 * j∧∀ n∈ns,0≤n∧n≤1000000000) ⟨_,_,f0,ns0,rfl,But.refl _ _,penf,ff,e0f,by omega,by omega,bd0⟩ (fun j σ H' _ ⟨_,_,_,_,_,B,_⟩=>B _ _ ef ntb) ?_ ?_⟩
     · rintro j k y σ H1 hk ⟨s4,s5,fa,ns,rfl,B,pen,hfa,efa,n0,ln,bd⟩;have jl:j < ps.length:=by have:=(List.getElem?_eq_some_iff.mp hk).1;unfold dkv at this;rw[List.length_map]at this;exact this
       obtain⟨x,hx,ex⟩:∃ x,ps[j]?=some x∧y=.ref x.2.1:=by
         unfold dkv at hk;rw[List.getElem?_map]at hk;obtain⟨x,hx,ex⟩:=Option.map_eq_some_iff.mp hk;injection ex with _ ex;exact⟨x,hx,ex.symm⟩
       subst ex;have mx:=List.mem_of_getElem? hx;have good:=tdf.good x mx;obtain⟨zs,hzs,tz⟩:=(tdf.rs x mx).bp penf B;have lz:=tz.1;have few:=good.few;have g0:=qcr good;refine⟨_,rfl,_,rfl,_,rfl,_,_,rfl,.inl ⟨_,SqL.of hzs,rfl⟩,p,_,rfl,pen,by omega,by omega,fun d H2 d0 d1 B2 pen2=>?_⟩;obtain⟨dn,rfl⟩:=Int.eq_ofNat_of_zero_le d0;have dl:dn < x.2.2.length:=by omega
       obtain⟨zs2,hzs2,tz2⟩:=(tdf.rs x mx).bp penf (B.trans B2)
       have ezs:zs2=zs:=by
         have nxp:x.2.1≠p:=Rs.neP pen ⟨zs,hzs,tz⟩
         have:=B2 _ _ hzs nxp
         rw[hzs2]at this;cases this;rfl
       obtain⟨t,ht0,ht⟩:=tz2.at_ (List.getElem?_eq_getElem dl);have ok:=good.ok _ (List.getElem_mem dl);generalize x.2.2[dn]=r at ht ok;refine .inl ⟨x.2.1,_,_,_,rfl,rfl,SqL.of hzs2,zh ht0,.inr (.inl ⟨t,_,_,_,rfl,rfl,SqT.of ht,rfl,?_⟩)⟩;(try unfold qJ);(try dsimp only);refine⟨_,rfl,_,rfl,_,_,rfl,rfl,_,_,rfl,_,rfl,_,_,rfl,rfl,⟨by decide,by decide,by decide⟩,_,rfl,_,rfl,p,_,rfl,pen2,by decide,by decide,fun a3 H3 a30 a31 B3 pen3=>?_⟩;have a31:a3 < 3000:=a31;refine .inl ⟨_,_,rfl,rfl,_,_,rfl,qo (Nat.le_of_ble_eq_true rfl),fun l3 fl3=>?_⟩;generalize hG:upd H3 l3 _=H4;obtain⟨s4_,e3⟩:=qC hG fl3;clear hG
       have nfa:fa≠p:=fun z=>by
         obtain⟨c,q1,q2,_,hq⟩:=hp;rw[z,hq]at hfa;cases hfa
       have efa4:=s4_ _ _ (B3 _ _ (B2 _ _ efa nfa) nfa);refine .inr (.inl ⟨fa,l3,_,_,rfl,rfl,efa4,e3,qo (by rw[List.length_map];simp only[List.length_cons,List.length_nil];omega),fun f5 ff5=>?_⟩);have B4:=((B.trans B2).trans B3).same s4_;have pen4:=pen3.same s4_;have nf5:f5≠p:=pen4.ne ff5;rw[e9];refine⟨_,_,f5,ns++[(if r.1 - 1 > 0 then r.1 - 1 else 0),r.1,(if r.1+a3 < 1000000000 then r.1+a3 else 1000000000)],rfl,B4.new _ ff5,pen4.upd nf5 _,hf_none _ (B4.none ff5 nf5) nf5,by rw[List.map_append];exact qd,by rw[List.length_append];omega,by rw[List.length_append,ln];simp only[List.length_cons,List.length_nil];omega,fun n mn=>?_⟩;rcases List.mem_append.mp mn with mn|mn
       · exact bd n mn
       · simp only[List.mem_cons,List.not_mem_nil,or_false]at mn;rcases mn with rfl|rfl|rfl
         · split<;>omega
         · exact⟨ok.1,ok.2.1⟩
         · split<;>omega
     · rintro σ H1 ⟨s4,s5,fa,ns,rfl,B,pen,hfa,efa,n0,ln,bd⟩;have e1:=B _ _ ef ntb;have ne1:fa≠tb:=qW efa e1 (fun z=>nomatch z);unfold dkv at ln;rw[List.length_map]at ln;refine⟨e1,hN _ _ ⟨_,_,fa,ns,rfl,back B,?_,hfa,by rw[qh ne1];exact efa,n0,by omega,bd⟩⟩;obtain⟨c,q1,q2,d,z⟩:=pen;exact⟨c,q1,q2,d,by rw[qh (Ne.symm ntb)];exact z⟩
   rintro _ H1 ⟨s4,s5,fa,ns,rfl,B,pen,hfa,efa,n0,ln,bd⟩;exact⟨_,rfl,kk fa ns H1 hfa B pen efa n0 ln bd⟩
end
abbrev key (t:Str×Addr×List (Int×Int)):Str×List (Int×Int):=(t.1,t.2.2)
theorem ZP {us ts:Pls} (e:us.map key=ts.map key):us.map (·.1)=ts.map (·.1):=by
 have:=congrArg (List.map Prod.fst) e
 rw[List.map_map,List.map_map]at this;exact this
theorem qb0 {us ts:Pls} (e:us.map key=ts.map key) {pl:Str}{lo hi n:Int} (h:Sh us pl lo hi n):Sh ts pl lo hi n:=by
 obtain⟨u,mu,e1,h⟩:=h
 have:key u∈ts.map key:=by rw[← e];exact List.mem_map.mpr ⟨u,mu,rfl⟩
 obtain⟨t,mt,et⟩:=List.mem_map.mp this;injection et with e2 e3;exact⟨t,mt,e2.trans e1,by rw[e3];exact h⟩
theorem qcl {us ts:Pls} (e:us.map key=ts.map key) (k:Pk) (n:Int):MP us k n↔MP ts k n:=by
 cases k with
 | any=>exact Iff.rfl
 | wi lo hi=>exact Iff.rfl
 | at_ m=>exact Iff.rfl
 | bt pl lo hi=>exact⟨qb0 e,qb0 e.symm⟩
 | rd pl m=>exact⟨qb0 e,qb0 e.symm⟩
theorem qgv {us ts:Pls} (e:us.map key=ts.map key) (kd:Kd) (n:Int):MK us kd n↔MK ts kd n:=by
 cases kd with
 | pl k=>exact qcl e k n
 | jn ks=>exact and_congr_right fun _=>⟨fun h k mk=>(qcl e k n).mp (h k mk),fun h k mk=>(qcl e k n).mpr (h k mk)⟩
 | sf k φ=>exact and_congr_left fun _=>qcl e k n
theorem qgb {nm:Str}{c:S4} (sp:Sp4 nm c) {N:List Str} (h:c.2.1=""∨c.2.1∈N):∀ s∈(QZ c).pls,s∈N:=by
 obtain⟨wd,pl,lo,hi⟩:=c;dsimp only [Sp4]at sp;dsimp only at h;intro s ms
 cases sp with
 | any _=>rw[qez]at ms;cases ms
 | within _ _ _=>rw[qf9]at ms;cases ms
 | at_ _ _=>rw[qhI]at ms;cases ms
 | between _ okp _ _=>rw[qhH]at ms;rw[List.mem_singleton.mp ms];exact h.resolve_left (qck okp)
 | read _ okp _=>rw[qga]at ms;rw[List.mem_singleton.mp ms];exact h.resolve_left (qck okp)
theorem qgH {nm:Str}{S:List S4}{sv:Option (Bool×Int×Int)}{N:List Str} (n1:0 < S.length) (sp:∀ c∈S,Sp4 nm c) (h:∀ c∈S,c.2.1=""∨c.2.1∈N):∀ s∈(J2 S sv).all,s∈N:=fun s ms=>by
 have hd:S.headD ("","",0,0)∈S:=by
   cases S with
   | nil=>cases n1
   | cons c l=>exact List.mem_cons_self
 cases sv with
 | some q=>exact qgb (sp _ hd) (h _ hd) s ms
 | none =>
   by_cases c:S.length > 1
   · rw[show J2 S none=.jn (S.map QZ) from if_pos c]at ms;obtain⟨k,mk,hk⟩:=List.mem_flatMap.mp ms;obtain⟨c',mc,rfl⟩:=List.mem_map.mp mk;exact qgb (sp c' mc) (h c' mc) s hk
   · rw[show J2 S none=.pl (QZ (S.headD ("","",0,0))) from if_neg c]at ms;exact qgb (sp _ hd) (h _ hd) s ms
theorem Lo.nt {a:Ad}{H H':Hp}{x td ed bl:Addr}{ps ns:List (Str×V)}{zs:List V} (h:Lo a H x td ed bl ps ns zs) (n:NT H H'):Lo a H' x td ed bl ps ns zs :=
 ⟨let ⟨dx,e⟩:=h.hx;⟨dx,n _ _ e (fun _ z=>nomatch z)⟩,n _ _ h.ht (fun _ z=>nomatch z),n _ _ h.he (fun _ z=>nomatch z),n _ _ h.hb (fun _ z=>nomatch z),h.ne,h.ndt,h.nde⟩
theorem Tb.nt {a:Ad}{H H':Hp}{x:Addr}{rows:List (Int×Int)} (h:Tb a H x rows) (n:NT H H'):Tb a H' x rows:=by
 obtain⟨k,dx,zs,h1,h2,h3⟩:=h;exact⟨k,dx,zs,n _ _ h1 (fun _ z=>nomatch z),n _ _ h2 (fun _ z=>nomatch z),qiC h3 n⟩
theorem TdI.nt {H H':Hp}{ps:Pls} (h:TdI H ps) (n:NT H H'):TdI H' ps:=⟨fun x m=>(h.rs x m).nt n,h.good,h.nm,h.nd,h.ne,h.few⟩
theorem TdD.nt {H H':Hp}{tb:Addr}{ps:Pls} (h:TdD H tb ps) (n:NT H H'):TdD H' tb ps:=⟨n _ _ h.1 (fun _ z=>nomatch z),h.2.nt n⟩
structure Lk (a:Ad) (H:Hp) (x td ed bl:Addr) (us:Pls) (ns:List (Str×V)):Prop where
 lo:Lo a H x td ed bl (tv us) ns []
 tt:∀ u∈us,Tb a H u.2.1 u.2.2
theorem Lk.nt {a:Ad}{H H':Hp}{x td ed bl:Addr}{us:Pls}{ns:List (Str×V)} (h:Lk a H x td ed bl us ns) (n:NT H H'):Lk a H' x td ed bl us ns:=⟨h.lo.nt n,fun u m=>(h.tt u m).nt n⟩
theorem Lk.tq {a:Ad}{H:Hp}{x td ed bl:Addr}{us ps:Pls}{ns:List (Str×V)} (h:Lk a H x td ed bl us ns) (e:us.map key=ps.map key) (g:∀ u∈ps,Good u.2.2):Tq a H td us:=⟨h.lo.ht,h.tt,fun u m=>by
 have:key u∈ps.map key:=by rw[← e];exact List.mem_map.mpr ⟨u,m,rfl⟩
 obtain⟨t,mt,et⟩:=List.mem_map.mp this;injection et with _ e3
 rw[← e3];exact g t mt,by rw[← QF];exact h.lo.ndt⟩
theorem Lk.upd {a:Ad}{H:Hp}{x td ed bl b:Addr}{us:Pls}{ns:List (Str×V)}{ob:Obj}{w:HO} (h:Lk a H x td ed bl us ns) (e:H b=some (.frz ob w)) (o:HO):Lk a (L2.upd H b o) x td ed bl us ns:=by
 have k:∀ c u,H c=some u->(∀ ob w,u≠.frz ob w)->(L2.upd H b o) c=some u:=fun c u e1 n=>by
   rw[qh (fun z=>by rw[z,e]at e1;cases e1;exact n _ _ rfl)];exact e1
 refine⟨⟨let ⟨dx,e⟩:=h.lo.hx;⟨dx,k _ _ e (fun _ _ z=>nomatch z)⟩,k _ _ h.lo.ht (fun _ _ z=>nomatch z),k _ _ h.lo.he (fun _ _ z=>nomatch z),k _ _ h.lo.hb (fun _ _ z=>nomatch z),h.lo.ne,h.lo.ndt,h.lo.nde⟩,fun u m=>?_⟩;obtain⟨k',dx,zs,h1,h2,h3⟩:=h.tt u m;refine⟨k',dx,zs,k _ _ h1 (fun _ _ z=>nomatch z),k _ _ h2 (fun _ _ z=>nomatch z),h3.1,fun j z y e1 e2=>?_⟩;obtain⟨t,et,ht⟩:=h3.2 j z y e1 e2;exact⟨t,et,k _ _ ht (fun _ _ z=>nomatch z)⟩
theorem Tb.butD {a:Ad}{H H':Hp}{td:Addr}{kvs:List (Key×V)}{x:Addr}{rows:List (Int×Int)} (h:Tb a H x rows) (b:But td H H') (e:H td=some (.dK kvs)):Tb a H' x rows:=by
 obtain⟨k',dx,zs,h1,h2,h3⟩:=h;refine⟨k',dx,zs,b _ _ h1 (qW h1 e (fun z=>nomatch z)),b _ _ h2 (qW h2 e (fun z=>nomatch z)),h3.1,fun j z y e1 e2=>?_⟩;obtain⟨t,et,ht⟩:=h3.2 j z y e1 e2;exact⟨t,et,b _ _ ht (qW ht e (fun z=>nomatch z))⟩
theorem Tbs.mv {a:Ad}{H H':Hp} (h:Tbs a H) (k:∀ c o,H c=some o->((∃ ps,o=.tbl ps)∨∃ φ,o=.ext φ)->H' c=some o):Tbs a H':=by
 have k1:∀ {t:Addr}{l:List (Pos×Str)},TbA H t l->TbA H' t l:=fun⟨ps,h1,h2,h3⟩=>⟨ps,k _ _ h1 (.inl ⟨_,rfl⟩),h2,fun x hx=>(h3 x hx).imp id fun⟨c,e1,e2⟩=>⟨c,e1,k _ _ e2 (.inr ⟨_,rfl⟩)⟩⟩
 exact⟨k1 h.t0,k1 h.t1⟩
theorem Tbs.but {a:Ad}{H H':Hp}{b:Addr}{w:HO} (h:Tbs a H) (s:But b H H') (e:H b=some w) (n1:∀ ps,w≠.tbl ps) (n2:∀ φ,w≠.ext φ):Tbs a H':=h.mv fun c o e1 ho=>s c o e1 fun z=>by
 rw[z,e]at e1;cases e1;rcases ho with ⟨ps,z⟩|⟨φ,z⟩
 · exact n1 _ z
 · exact n2 _ z
theorem Tbs.upd {a:Ad}{H:Hp}{b:Addr}{w:HO} (h:Tbs a H) (e:H b=some w) (n1:∀ ps,w≠.tbl ps) (n2:∀ φ,w≠.ext φ) (o:HO):Tbs a (L2.upd H b o):=h.but (fun c u e n=>by rw[qh n];exact e) e n1 n2
theorem EnD.mv {a:Ad}{H H':Hp}{y:Addr}{nm:Str}{kd:Kd} (h:EnD a H y nm kd) (k:∀ c o,H c=some o->((∃ C d fs,o=.ins C d fs)∨(∃ xs,o=.lst xs)∨∃ φ,o=.ext φ)->H' c=some o):EnD a H' y nm kd:=by
 have kp:∀ {x:Addr}{nm:Str}{pk:Pk},EnP a H x nm pk->EnP a H' x nm pk:=fun h=>h.mp fun C d fs e _=>k _ _ e (.inl ⟨_,_,_,rfl⟩)
 cases h with
 | pl e=>exact .pl (kp e)
 | jn e e1 h1 h2=>exact .jn (k _ _ e (.inl ⟨_,_,_,rfl⟩)) (k _ _ e1 (.inr (.inl ⟨_,rfl⟩))) h1 fun p m=>let ⟨nm,e⟩:=h2 p m;⟨nm,kp e⟩
 | sf e e1 h1 q=>exact .sf (k _ _ e (.inl ⟨_,_,_,rfl⟩)) (kp e1) h1 (q.mp fun b φ e=>k _ _ e (.inr (.inr ⟨_,rfl⟩)))
theorem EnD.butD {a:Ad}{H H':Hp}{y td:Addr}{nm:Str}{kd:Kd}{kvs:List (Key×V)} (h:EnD a H y nm kd) (b:But td H H') (e:H td=some (.dK kvs)):EnD a H' y nm kd:=h.mv fun c o e1 ho=>b _ _ e1 fun z=>by
 rw[z,e]at e1;cases e1;rcases ho with ⟨_,_,_,z⟩|⟨_,z⟩|⟨_,z⟩<;>cases z
theorem qj5 {x:Str} (h:zC (.str x)=true):PyData.strOk x=true:=by
 have hs:x.cps.toList.all sgn=true:=by
   simp only[zC,Bool.and_eq_true]at h;exact h.2
 unfold PyData.strOk;rw[← Array.all_toList];refine List.all_eq_true.mpr fun c m=>?_
 have:=List.all_eq_true.mp hs c m
 unfold sgn at this;rw[Bool.and_eq_true]at this;have h2:=this.2;rw[Bool.not_eq_true',decide_eq_false_iff_not]at h2
 have h3:¬ (122 < c):=fun z=>h2 (by
   show ([122]:List Nat) < [c]
   exact List.Lex.rel z)
 exact decide_eq_true (by omega)
theorem shp {d:PyData} (c:PyData.canLay0 d=true) (h:PyData.depth d≤10):SeqAt.shaped d=true:=by
 unfold SeqAt.shaped;rw[c,Bool.true_and];exact decide_eq_true (by omega)
theorem qkl {H:Hp}{x y:V}{d:PyData}{Q:VK} (h1:DV H x d) (h2:DV H y d) (c:PyData.canLay0 d=true) (sh:SeqAt.shaped d=true) (q:Q (.bl true) H):qmA x y H Q:=by
 refine .inr ⟨d,d,h1,h2,sh,sh,?_⟩;rw[SeqAt.eqv_refl _ c];exact q
inductive qag (a:Ad) (vs:List V) (H:Hp) (Q:VK):Prop
 | mk (pa tb:Addr) (nm:Str) (S:List S4) (sv:Option (Bool×Int×Int)) (ps:Pls) (m:Int) (b:Bool) (h1:vs=[.str nm,.ref pa,.ref tb,.int m,.bl b]) (h2:PlA H pa nm S sv) (h3:TdD H tb ps) (h4:(∀ c∈S,c.2.1=""∨c.2.1∈ps.map (·.1))) (h5:(0≤m∧m≤1000000000)) (h6:Tbs a H) (h7:(b=true↔MK ps (J2 S sv) m)) (h8:∀ H',NT H H'->Tbs a H'->Q (.bl true) H'):qag a vs H Q
def qcJ (a:Ad):Sp:=fun vs H Q _=>qag a vs H Q
section
variable {P:Program}{w:World}{K:Frag}{mg:Str->Option Value}{base:Heap}
theorem qgp {a:Ad} (T:Txt K mg a) (hB:qeX mg base):qy P w K mg base CX0 11 a.f_6 a.fd_6 ["_law_name","_law_plan_here","_law_tables","_law_moment","_law_inside"] (qcJ a):=by
 have G_z:=qaI (P:=P) (w:=w) (base:=base) T;have G_x:=qbG (P:=P) (w:=w) (base:=base) T;have G_m:=JQ (P:=P) (w:=w) (base:=base) T;have G_r:qy P w K mg base CX0 10 a.f_r a.fd_r ["_law_name","_law_plan_here"] (qad a):=qda T hB;have G_W:=qdT (P:=P) (w:=w) (base:=base) T;have G_s:=j5 (P:=P) (w:=w) (base:=base) T;refine T.d_6.F.ok sc_Lalone (fun vs H Q E h=>?_) (fun cdv A outer s H vs Q E hr h=>?_)
 · obtain⟨pa,tb,nm,S,sv,ps,m,b,rfl,pl,td0,hp,h09,tbs,hb,kk⟩:=h;rfl
 · obtain⟨pa,tb,nm,S,sv,ps,m,b,rfl,pl,td0,hp,h09,tbs,hb,kk⟩:=h;have hu:=qD hr;have hU:=hr.units;have h_z:Room (1+1) _:=hr.mono (by decide);have h_x:Room (3) _:=hr.mono (by decide);have h_m:Room (2) _:=hr.mono (by decide);have h_r:Room (10) _:=hr.mono (by decide);have h_W:Room (9) _:=hr.mono (by decide);have h_s:Room (6+1) _:=hr.mono (by decide)
   refine⟨_,(qc (qz (i:=5) sc_Lalone.nd rfl (Or.inl rfl) (qeA T.M_Log G_z h_z rfl T.g_Log T.d_z.b .nil qk))
     (qc (PS.loan (zr PassesOwn.never rfl (qge (pv 2)) (qp (i:=6) (sc_Lalone.nd) rfl (Or.inl rfl))
       (qf (qO (qL (pv 5) T.cl_Log T.d_m.mt G_m h_m T.d_m.b .nil qk (qa (pv 6) (qa (QI T.M_Table G_s h_s rfl T.g_Table T.d_s.b .nil qk (qa (zy (r:=qjM K) zA (by rfl) T.n_list q9 (qa (zN hu (pv 2) (pv 6) (fun _ _=>rfl)) qb)) qb)) qb)))))))
     (qc (qO (qL (pv 5) T.cl_Log T.d_x.mt G_x h_x T.d_x.b .nil qk (qa (qj G_r h_r rfl T.d_r.m T.d_r.k T.d_r.b .nil qk (qa (pv 0) (qa (pv 1) qb))) qb)))
     (qf (qq (Qc (uEq hU) (qj G_W h_W rfl T.d_W.m T.d_W.k T.d_W.b .nil qk (qa (pv 5) (qa (qjV (qhF (pv 0) (pv 3) qjQ) rfl rfl (by simp) (by decide)) qb))) (qA (r:=rIx K) qt (qY (qa (zf (qa qP (qa (pv 0) qb))) (qa qbD qb))) (zy qdo (by rfl) T.n_int Jg (qa (pv 4) qb)) (fun _ _=>rfl)) (qB _))))))),?_⟩
   try dsimp only [zi,Cx.nox]
   have lpf:=td0.2.few;refine fun x dx fx fdx nex=>⟨x,dx,rfl,qd,fun td ed bl G5 B5 ftd fed fbl L5=>⟨rfl,?_⟩⟩
   have S0:Same H G5:=zg fx fdx B5
   have upf0:∀ b,(upd (upd H dx (.own x)) x (.ins a.c_Log dx [])) b=none->H b=none:=fun b h=>by
     cases e:H b with
     | none=>rfl
     | some o=>rw[up2 fx fdx _ _ e]at h;cases h
   have ftd:=upf0 _ ftd;have fed:=upf0 _ fed;clear upf0 fbl B5;(try unfold qJ);(try dsimp only);refine qR (t:=qhC _) (fun σ' H'=>∃ (s6:Option V) (us:Pls),σ'=[some (.str nm),some (.ref pa),some (.ref tb),some (.int m),some (.bl b),some (.ref x),s6]∧Same H H'∧Tbs a H'∧Lk a H' x td ed bl us []∧us.map key=ps.map key) (fun N hN=>?_) ?_
   · refine⟨tb,_,S0 _ _ td0.1,fun ob=>?_⟩;have ntb:td≠tb:=fun z=>by rw[z,td0.1]at ftd;cases ftd
     have etb:ed≠tb:=fun z=>by rw[z,td0.1]at fed;cases fed
     have Sf:Same (upd H tb (.frz ob (.dK (dkv ps)))) (upd G5 tb (.frz ob (.dK (dkv ps)))):=fun c o e=>by
       by_cases z:c=tb
       · subst z;rw[qd]at e ⊢;exact e
       · rw[qh z]at e ⊢;exact S0 _ _ e
     have ef:(upd H tb (.frz ob (.dK (dkv ps)))) tb=some (.frz ob (.dK (dkv ps))):=qd;have ftf:(upd H tb (.frz ob (.dK (dkv ps)))) td=none:=by rw[qh ntb];exact ftd
     have tdi:TdI (upd H tb (.frz ob (.dK (dkv ps)))) ps:=TdI.upd td0.2 td0.1 _;have tb0:Tbs a (upd G5 tb (.frz ob (.dK (dkv ps)))):=(tbs.same S0).upd (S0 _ _ td0.1) (fun _ z=>nomatch z) (fun _ z=>nomatch z) _;have back:∀ {H':Hp},Same (upd H tb (.frz ob (.dK (dkv ps)))) H'->Same H (upd H' tb (.dK (dkv ps))):=fun s=>qde td0.1 s
     have L0:Lk a (upd G5 tb (.frz ob (.dK (dkv ps)))) x td ed bl [] []:=by
       have hx:=L5.hx;refine⟨⟨let ⟨dx,e⟩:=hx;⟨dx,by rw[qh (qW e (S0 _ _ td0.1) (fun z=>nomatch z))];exact e⟩,by rw[qh ntb];exact L5.ht,by rw[qh etb];exact L5.he,by rw[qh (qW L5.hb (S0 _ _ td0.1) (fun z=>nomatch z))];exact L5.hb,L5.ne,L5.ndt,L5.nde⟩,fun u m=>nomatch m⟩
     clear L5;generalize upd G5 tb (.frz ob (.dK (dkv ps)))=Gf at Sf tb0 L0 ⊢;generalize upd H tb (.frz ob (.dK (dkv ps)))=Hf at Sf ef ftf tdi back;refine⟨_,rfl,tb,ob,_,rfl,Sf _ _ ef,qeM (a:=tb) (ob:=ob) (kvs:=dkv ps) (D:=loan tb ob (dkv ps) { nx:=N,rt:=Q }) (fun j σ H'=>∃ (s6:Option V) (us:Pls),σ=[some (.str nm),some (.ref pa),some (.ref tb),some (.int m),some (.bl b),some (.ref x),s6]∧Same Hf H'∧Tbs a H'∧Lk a H' x td ed bl us []∧us.map key=(ps.take j).map key) ⟨_,[],rfl,Sf,tb0,L0,rfl⟩ (fun j σ H' _ ⟨_,_,_,S',_⟩=>S' _ _ ef) ?_ ?_⟩
     · rintro j k y σ H1 hk ⟨s6,us,rfl,S1,tb1,L1,ek⟩
       obtain⟨t,ht',ex⟩:∃ t,ps[j]?=some t∧((.inr t.1:Key),V.ref t.2.1)=(k,y):=by
         unfold dkv at hk;rw[List.getElem?_map]at hk;exact Option.map_eq_some_iff.mp hk
       cases ex;have mt:=List.mem_of_getElem? ht';have il:=(List.getElem?_eq_some_iff.mp ht').1;have tdk:Td H1 tb ps:=⟨.inr ⟨ob,S1 _ _ ef⟩,⟨fun u m=>(tdi.rs u m).same S1,tdi.good,tdi.nm,tdi.nd,tdi.ne,tdi.few⟩⟩
       obtain⟨kz,hkz,tkz⟩:=tdk.2.rs t mt;have good:=tdi.good t mt
       have lus:us.length=j:=by
         have:=congrArg List.length ek
         rw[List.length_map,List.length_map,List.length_take]at this;omega
       have kn:us.map (·.1)=(ps.take j).map (·.1):=ZP ek
       have nin:t.1∉(tv us).map (·.1):=by
         rw[QF,kn];intro m;rw[List.map_take]at m;obtain⟨i,hi⟩:=List.getElem?_of_mem m;have jl:=(List.getElem?_eq_some_iff.mp hi).1;rw[List.length_take]at jl;rw[List.getElem?_take_of_lt (by omega)]at hi;have h2:(ps.map (·.1))[j]?=some t.1:=by rw[List.getElem?_map,ht'];rfl
         obtain⟨q1,q2⟩:=List.getElem?_eq_some_iff.mp hi;obtain⟨q3,q4⟩:=List.getElem?_eq_some_iff.mp h2
         have:=(List.getElem_inj tdi.nd).mp (q2.trans q4.symm)
         omega
       obtain⟨dx',hx'⟩:=L1.lo.hx;refine⟨_,rfl,x,dx',_,rfl,hx',rfl,_,rfl,_,rfl,_,rfl,tb,_,rfl,tdk.get mt,t.2.1,_,rfl,.inl (SqL.of hkz),fun q fq=>?_⟩;generalize hG:upd H1 q _=A1;obtain⟨u1,e1⟩:=qC hG fq;clear hG;refine fun y dy fy fdy ney=>⟨y,dy,q,t.2.2,rfl,qd,Rs.same ⟨kz,e1,tkz.same u1⟩ (up2 fy fdy),good,fun A2 BY tby=>⟨rfl,?_⟩⟩
       have SA:=u1.trans (zg fy fdy BY);have LA:=L1.nt (Same.nt SA);refine⟨x,td,ed,bl,tv us,[],[],t.1,.ref y,rfl,LA.lo,tdi.nm t mt,.inl ⟨nin,by rw[List.length_map];omega,fun A3 BT L3=>?_⟩⟩;refine⟨_,us++[(t.1,y,t.2.2)],rfl,fun b o e=>BT _ _ ((S1.trans SA) _ _ e) (qi e ftf),(tb1.same SA).but BT LA.lo.ht (fun _ z=>nomatch z) (fun _ z=>nomatch z),⟨?_,fun u m=>?_⟩,?_⟩
       · have:tv (us++[(t.1,y,t.2.2)])=tv us++[(t.1,V.ref y)]:=List.map_append
         rw[this];exact L3
       · rcases List.mem_append.mp m with m|m
         · exact(LA.tt u m).butD BT LA.lo.ht
         · rw[List.mem_singleton.mp m];exact tby.butD BT LA.lo.ht
       · rw[List.map_append,ek,jz ht',List.map_append];rfl
     · rintro σ H1 ⟨s6,us,rfl,S1,tb1,L1,ek⟩;unfold dkv at ek;rw[List.length_map,List.take_length]at ek;have e1:=S1 _ _ ef;exact⟨e1,hN _ _ ⟨_,us,rfl,back S1,tb1.upd e1 (fun _ z=>nomatch z) (fun _ z=>nomatch z) _,L1.upd e1 _,ek⟩⟩
   rintro _ H1 ⟨s6,us,rfl,S1,tb1,L1,ek⟩;have kn:us.map (·.1)=ps.map (·.1):=ZP ek;(try unfold qJ);(try dsimp only);obtain⟨dx1,hx1⟩:=L1.lo.hx;refine⟨_,rfl,x,dx1,_,rfl,hx1,rfl,_,rfl,_,rfl,pa,nm,S,sv,rfl,pl.same S1,tb1,fun y H2 n2 tb2 en=>?_⟩;have L2':=L1.nt n2;have hall:∀ s∈(J2 S sv).all,s∈us.map (·.1):=by rw[kn];exact qgH pl.n1 pl.sp hp
   refine⟨x,td,ed,bl,tv us,[],[],y,nm,J2 S sv,rfl,L2'.lo,en,(by rw[QF];exact hall),(fun z=>nomatch z),Nat.le_of_ble_eq_true rfl,fun H3 B3 L3=>?_⟩;have tb3:=tb2.but B3 L2'.lo.he (fun _ z=>nomatch z) (fun _ z=>nomatch z);have N3:NT H H3:=fun c o e n=>B3 _ _ (n2 _ _ (S1 _ _ e) n) (qi e fed);have en3:EnD a H3 y nm (J2 S sv):=en.butD B3 L2'.lo.he;have tt3:∀ u∈us,Tb a H3 u.2.1 u.2.2:=fun u m=>(L2'.tt u m).butD B3 L2'.lo.he;have tq3:=Lk.tq (ps:=ps) ⟨L3,tt3⟩ ek td0.2.good;(try unfold qJ);(try dsimp only);refine⟨_,rfl,fun d fd=>?_⟩;have okn:=qiM (pl.sp _ (List.getElem_mem pl.n1));have mg:qbH [] [((.inr nm:Key),V.int m)]=qjX nm m:=rfl;refine⟨_,rfl,_,rfl,qd,[((.inr nm:Key),V.int m)],rfl,Nat.le_of_ble_eq_true rfl,?_⟩;rw[mg];have S4':Same H3 (upd (upd H3 d (.dK [])) d (.dK (qjX nm m))):=fun c o e=>by rw[qh (qi e fd),qh (qi e fd)];exact e
   have ed4:(upd (upd H3 d (.dK [])) d (.dK (qjX nm m))) d=some (.dK (qjX nm m)):=qd;generalize upd (upd H3 d (.dK [])) d (.dK (qjX nm m))=H4 at S4' ed4 ⊢;have mc:=qgv ek (J2 S sv) m
   have cl:PyData.canLay0 (.tuple [.str "moment",.str nm])=true:=by
     have h1:=qj5 okn;have h2:PyData.strOk "moment"=true:=by decide +kernel
     simp[PyData.canLay0,PyData.canLayAll0,h1,h2]
   refine⟨x,td,ed,bl,d,y,us,nm,J2 S sv,m,rfl,L3.sm S4',tq3.sm S4',en3.same S4',hall,ed4,fun mk H5 S5=>?_,fun nmk t5 H5 S5 e5=>?_⟩
   · have bt:b=true:=hb.mpr (mc.mp mk);subst bt;refine⟨_,rfl,qo (Nat.le_of_ble_eq_true rfl),fun t ft=>?_⟩;generalize hG:upd H5 t _=F1;obtain⟨q1,et⟩:=qC hG ft;clear hG;refine⟨qo (Nat.le_of_ble_eq_true rfl),fun l fl=>?_⟩;generalize hG:upd F1 l _=F2;obtain⟨q2,el⟩:=qC hG fl;clear hG;have ND:NT H F2:=N3.trans ((Same.nt S4').trans ((Same.nt S5).trans ((Same.nt q1).trans (Same.nt q2))));refine⟨_,rfl,.inr ⟨_,rfl,.inl ⟨l,_,_,.non,rfl,rfl,SqL.of el,rfl,.inl ⟨rfl,?_⟩⟩⟩⟩;exact kk F2 ND ((((tb3.same S4').same S5).same q1).same q2)
   · have bt:b=false:=by
       cases b with
       | false=>rfl
       | true=>exact absurd (mc.mpr (hb.mp rfl)) nmk
     subst bt;refine⟨_,rfl,qo (Nat.le_of_ble_eq_true rfl),fun t ft=>?_⟩;generalize hG:upd H5 t _=F1;obtain⟨q1,et⟩:=qC hG ft;clear hG;refine⟨qo (Nat.le_of_ble_eq_true rfl),fun l fl=>?_⟩;generalize hG:upd F1 l _=F2;obtain⟨q2,el⟩:=qC hG fl;clear hG;have ND:NT H F2:=N3.trans ((Same.nt S4').trans ((Same.nt S5).trans ((Same.nt q1).trans (Same.nt q2))));refine⟨_,rfl,.inr ⟨_,rfl,.inl ⟨l,_,_,.ref t,rfl,rfl,SqL.of el,rfl,qkl (d:=.tuple [.str "moment",.str nm]) (.tup (.inl ((q1.trans q2) _ _ e5)) (.cons (.str _) (.cons (.str _) .nil))) (.tup (.inl (q2 _ _ et)) (.cons (.str _) (.cons (.str _) .nil))) cl (shp cl (by simp[PyData.depth,PyData.depthAll])) ?_⟩⟩⟩;exact kk F2 ND ((((tb3.same S4').same S5).same q1).same q2)
end
abbrev PlE:=Str×Addr×List S4×Option (Bool×Int×Int)
def pkv (qs:List PlE):List (Key×V):=qs.map fun q=>((.inr q.1:Key),V.ref q.2.1)
theorem qlc {a:Ad}{H:Hp}{td:Addr}{us:Pls} (tq:Tq a H td us) {nm:Str}{c:S4} (sp:Sp4 nm c) {n:Int} (h:MP us (QZ c) n):0≤n∧n≤1000000000:=by
 have sh:∀ {pl:Str}{lo hi:Int},Sh us pl lo hi n->0≤n∧n≤1000000000:=fun {pl lo hi} h=>by
   obtain⟨t,mt,_,w,mw,h1,h2⟩:=h;obtain⟨p,mp',rfl⟩:=List.mem_map.mp mw
   have:=qgf (tq.tg t mt).ok p mp'
   unfold mp at h1 h2;dsimp only at h1 h2;split at h1<;>split at h2<;>omega
 obtain⟨wd,pl,lo,hi⟩:=c;dsimp only [Sp4]at sp
 cases sp with
 | any _=>rw[qez]at h;exact h
 | within _ h1 h2 =>
   rw[qf9]at h;have h:lo≤n∧n≤hi:=h;omega
 | at_ _ h1 =>
   rw[qhI]at h;have h:lo≤n∧n≤lo:=h;omega
 | between _ _ _ _=>rw[qhH]at h;exact sh h
 | read _ _ _=>rw[qga]at h;exact sh h
theorem ql6 {a:Ad}{H:Hp}{td:Addr}{us:Pls} (tq:Tq a H td us) {nm:Str}{S:List S4}{sv:Option (Bool×Int×Int)} (n1:0 < S.length) (sp:∀ c∈S,Sp4 nm c) {n:Int} (h:MK us (J2 S sv) n):0≤n∧n≤1000000000:=by
 have hd:S.headD ("","",0,0)∈S:=by
   cases S with
   | nil=>cases n1
   | cons c l=>exact List.mem_cons_self
 cases sv with
 | some q=>exact qlc tq (sp _ hd) (show MP us (QZ (S.headD ("","",0,0))) n∧_ from h).1
 | none =>
   by_cases c:S.length > 1
   · rw[show J2 S none=.jn (S.map QZ) from if_pos c]at h;exact h.1
   · rw[show J2 S none=.pl (QZ (S.headD ("","",0,0))) from if_neg c]at h;exact qlc tq (sp _ hd) h
theorem qdH {n:Nat} (h:n≤9000):n < sizeLine:=Nat.lt_of_le_of_lt h (by decide)
theorem PlA.upd {H:Hp}{b:Addr}{kvs:List (Key×V)}{pa:Addr}{nm:Str}{S:List S4}{sv:Option (Bool×Int×Int)} (h:PlA H pa nm S sv) (e:H b=some (.dK kvs)) (o:HO):PlA (L2.upd H b o) pa nm S sv:=by
 have k:∀ c u,H c=some u->(∀ kv,u≠.dK kv)->(L2.upd H b o) c=some u:=fun c u e1 n=>by
   rw[qh (fun z=>by rw[z,e]at e1;cases e1;exact n _ rfl)];exact e1
 refine⟨?_,h.sp,h.n1,h.n4,h.sf⟩;obtain⟨sl,zs,v,h1,h2,h3,h4⟩:=h.ex;refine⟨sl,zs,v,k _ _ h1 (fun _ z=>nomatch z),k _ _ h2 (fun _ z=>nomatch z),⟨h3.1,fun j z y e1 e2=>?_⟩,?_⟩
 · obtain⟨t,et,ht⟩:=h3.2 j z y e1 e2;exact⟨t,et,k _ _ ht (fun _ z=>nomatch z)⟩
 · cases sv with
   | none=>exact h4
   | some q=>obtain⟨t,e,h⟩:=h4;exact⟨t,e,k _ _ h (fun _ z=>nomatch z)⟩
def PlOk (a:Ad) (H:Hp) (N:List Str) (ns:List (Str×V)) (q:PlE):Prop:=PlA H q.2.1 q.1 q.2.2.1 q.2.2.2∧(∀ c∈q.2.2.1,c.2.1=""∨c.2.1∈N)∧∃ y,(q.1,V.ref y)∈ns∧EnD a H y q.1 (J2 q.2.2.1 q.2.2.2)
inductive qaf (a:Ad) (vs:List V) (H:Hp) (Q:VK):Prop
 | mk (x td ed bl pd tb mo:Addr) (us ps:Pls) (ns:List (Str×V)) (qs:List PlE) (ms:List Int) (h1:vs=[.ref x,.ref pd,.ref tb,.ref mo]) (h2:Lk a H x td ed bl us ns) (h3:us.map key=ps.map key) (h4:TdD H tb ps) (h5:H pd=some (.dK (pkv qs))) (h6:(pd≠tb∧pd≠td∧pd≠ed)) (h7:(∀ q∈qs,PlOk a H (ps.map (·.1)) ns q)) (h8:H mo=some (.lst (ms.map V.int))) (h9:0 < ms.length) (h10:ms.length≤18) (h11:(∀ n∈ms,0≤n∧n≤1000000000)) (h12:Tbs a H) (h13:∀ H',NT H H'->Tbs a H'->Q (.bl true) H'):qaf a vs H Q
def qcI (a:Ad):Sp:=fun vs H Q _=>qaf a vs H Q
section
variable {P:Program}{w:World}{K:Frag}{mg:Str->Option Value}{base:Heap}
theorem qgo {a:Ad} (T:Txt K mg a) (hB:qeX mg base):qy P w K mg base CX0 12 a.f_G a.fd_G ["_law_log","_law_plans","_law_tables","_law_more_here"] (qcI a):=by
 have G_y:=JP (P:=P) (w:=w) (base:=base) T;have G_6:qy P w K mg base CX0 11 a.f_6 a.fd_6 ["_law_name","_law_plan_here","_law_tables","_law_moment","_law_inside"] (qcJ a):=qgp T hB;have G_5:=qcg (P:=P) (w:=w) (base:=base) T;have G_F:=qdU (P:=P) (w:=w) (base:=base) T;refine T.d_G.F.ok sc_Lasked (fun vs H Q E h=>?_) (fun cdv A outer s H vs Q E hr h=>?_)
 · obtain⟨x,td,ed,bl,pd,tb,mo,us,ps,ns,qs,ms,rfl,L0,ek,td0,hpd,⟨npt,npd,npe⟩,ok0,hmo0,m0,m18,mbd,tbs0,kk⟩:=h;rfl
 · obtain⟨x,td,ed,bl,pd,tb,mo,us,ps,ns,qs,ms,rfl,L0,ek,td0,hpd,⟨npt,npd,npe⟩,ok0,hmo0,m0,m18,mbd,tbs0,kk⟩:=h;have hU:=hr.units;have h_y:Room (8) _:=hr.mono (by decide);have h_6:Room (11) _:=hr.mono (by decide);have h_5:Room (1) _:=hr.mono (by decide);have h_F:Room (3) _:=hr.mono (by decide)
   refine⟨_,(@qc _ _ _ _ _ (by exact(@PS.loan _ _ _ (by exact(@zr _ _ _ _ _ _ _ _ (by exact PassesOwn.never) (by rfl) (by exact(qhJ (pv 1))) (by exact(Qn rfl (qw (qp (i:=4) (sc_Lasked.nd) rfl (Or.inl rfl)) (qw (qp (i:=5) (sc_Lasked.nd) rfl (Or.inl rfl)) zx))))
       (by exact(@qc _ _ _ _ _ (by exact(qz (i:=6) sc_Lasked.nd rfl (Or.inl rfl) (qL (pv 0) T.cl_Log T.d_y.mt G_y h_y T.d_y.b .nil qk (qa (pv 4) qb))))
       (by exact(@qc _ _ _ _ _ (by exact(qG (PW.pt (qa6 (q8 (qX (ql zu (by rfl) T.n_isinstance qr (qa (pv 6) (qa (zO (v:=.ty "list") rfl T.n_list q9 rfl) qb))))) (jj (q8 (qX (qj G_5 h_5 rfl T.d_5.m T.d_5.k T.d_5.b .nil qk (qa (pv 6) qb)))))))
         (qf (qq jq))
         qu))
       (by exact(@qc _ _ _ _ _ (by exact(qz (i:=7) sc_Lasked.nd rfl (Or.inl rfl) (zy (r:=qjM K) zA (by rfl) T.n_list q9 (qa (pv 3) qb))))
       (by exact(@qc _ _ _ _ _ (by exact(@zr _ _ _ _ _ _ _ _ (by exact PassesOwn.never) (by rfl) (by exact(zc (qx QY (Q9 uSl (pv 6) qaB (Q8 qe)) (Q9 uSl (pv 6) (Q8 (jW Qu qe)) qaB)))) (by exact(Qn rfl (qw (qp (i:=8) (sc_Lasked.nd) rfl (Or.inl rfl)) (qw (qp (i:=9) (sc_Lasked.nd) rfl (Or.inl rfl)) zx))))
         (by exact(@qf _ _ _ (by exact(@qz _ _ 7 _ _ _ _ (by exact sc_Lasked.nd) (by rfl) (by exact(Or.inl rfl)) (by exact(@qx _ _ _ _ _ _ _ _ (by exact QY) (by exact(pv 7)) (by exact(@qY _ _ _ _ (by exact(@qa _ _ _ _ _ (by exact(ql (zm rfl) (by rfl) T.n_max zn (qa qe (qa (qx zY (pv 8) qe) qb)))) (by exact(@qa _ _ _ _ _ (by exact(pv 8)) (by exact(@qa _ _ _ _ _ (by exact(pv 9)) (by exact(@qa _ _ _ _ _ (by exact(ql (zZ rfl) (by rfl) T.n_min z9 (qa (qx Qo qe qe) (qa (qx QY (pv 9) qe) qb)))) (by exact(@qb _)) (by rfl))) (by rfl))) (by rfl))) (by rfl))))))) (by rfl) (by exact .inl rfl))))) (by intro _;rfl)))
       (by exact(qc (zr PassesOwn.never rfl (zc (pv 7)) (qp (i:=10) (sc_Lasked.nd) rfl (Or.inr rfl))
         (qc (qz (i:=11) sc_Lasked.nd rfl (Or.inl rfl) (Qc (qhO hU) (Qb rfl (CompOk.def ["_law_one","_law_moment"] [none,some 10]) (zc (pv 6)) (fun _ _ _ _ _=>(qp (i:=0) (show List.Nodup (["_law_one","_law_moment"]:List Str) by decide +kernel) rfl (Or.inl rfl))) (fun _ _ _ _ _=>(Jm (qex zS zS (qA (r:=rIx K) qt (pv 0) qe (fun _ _=>rfl)) (pv 1) (qA (r:=rIx K) qt (pv 0) qe (fun _ _=>rfl))))) (fun _ _ _ _ _=>(pv 0))) (qY qb) (qB _)))
         (qf (qG (qv (uNe hU) (pv 11) (qj G_F h_F rfl T.d_F.m T.d_F.k T.d_F.b .nil qk (qa (pv 5) (qa (pv 2) (qa (pv 10) qb)))) (qB _))
           (qf (qq jq))
           qu))))
       (qc (qz (i:=10) sc_Lasked.nd rfl (Or.inr rfl) (qA (r:=rIx K) qt (pv 7) (jW Qu qe) (fun _ _=>rfl)))
       (qf (qG (q8 (qX (qj G_6 h_6 rfl T.d_6.m T.d_6.k T.d_6.b .nil qk (qa (pv 4) (qa (pv 5) (qa (pv 2) (qa (pv 10) (qa (qj G_F h_F rfl T.d_F.m T.d_F.k T.d_F.b .nil qk (qa (pv 5) (qa (pv 2) (qa (pv 10) qb)))) qb))))))))
         (qf (qq jq))
         qu))))))))))))) (by intro _;rfl)))))
     (by exact(qf (qq jq)))),?_⟩
   try dsimp only [zi,Cx.nox]
   have kn:us.map (·.1)=ps.map (·.1):=ZP ek;refine⟨pd,_,hpd,fun ob=>?_⟩;have ef:(upd H pd (.frz ob (.dK (pkv qs)))) pd=some (.frz ob (.dK (pkv qs))):=qd
   have Lf:Lk a (upd H pd (.frz ob (.dK (pkv qs)))) x td ed bl us ns:=by
     refine⟨⟨let ⟨dx,e⟩:=L0.lo.hx;⟨dx,by rw[qh (qW e hpd (fun z=>nomatch z))];exact e⟩,by rw[qh (Ne.symm npd)];exact L0.lo.ht,by rw[qh (Ne.symm npe)];exact L0.lo.he,by rw[qh (qW L0.lo.hb hpd (fun z=>nomatch z))];exact L0.lo.hb,L0.lo.ne,L0.lo.ndt,L0.lo.nde⟩,fun u m=>(L0.tt u m).butD (fun c o e n=>by rw[qh n];exact e) hpd⟩
   have tdf:TdD (upd H pd (.frz ob (.dK (pkv qs)))) tb ps:=⟨by rw[qh (Ne.symm npt)];exact td0.1,TdI.upd td0.2 hpd _⟩
   have okf:∀ q∈qs,PlOk a (upd H pd (.frz ob (.dK (pkv qs)))) (ps.map (·.1)) ns q:=fun q m=>by
     obtain⟨h1,h2,y,h3,h4⟩:=ok0 q m;exact⟨h1.upd hpd _,h2,y,h3,h4.butD (fun c o e n=>by rw[qh n];exact e) hpd⟩
   have hmo:(upd H pd (.frz ob (.dK (pkv qs)))) mo=some (.lst (ms.map V.int)):=by rw[qh (qW hmo0 hpd (fun z=>nomatch z))];exact hmo0
   have tbf:=tbs0.upd hpd (fun _ z=>nomatch z) (fun _ z=>nomatch z) (.frz ob (.dK (pkv qs)));have back:∀ {H':Hp},NT (upd H pd (.frz ob (.dK (pkv qs)))) H'->NT H (upd H' pd (.dK (pkv qs))):=fun n=>qkd hpd n;clear L0 td0 ok0 hmo0 tbs0;generalize upd H pd (.frz ob (.dK (pkv qs)))=Hf at ef Lf tdf okf hmo tbf back ⊢;refine⟨_,rfl,pd,ob,_,rfl,ef,qgT (a:=pd) (ob:=ob) (kvs:=pkv qs) (D:=loan pd ob (pkv qs) { nx:=qhv (tC (V.bl true)) { nx:=fun _ H'=>Q .non H',rt:=Q },rt:=Q }) (fun j σ H'=>∃ s4 s5 s6 s7 s8 s9 s10 s11:Option V,σ=[some (.ref x),some (.ref pd),some (.ref tb),some (.ref mo),s4,s5,s6,s7,s8,s9,s10,s11]∧NT Hf H'∧Tbs a H') ⟨_,_,_,_,_,_,_,_,rfl,NT.refl _,tbf⟩ (fun j σ H' _ ⟨_,_,_,_,_,_,_,_,_,n,_⟩=>n _ _ ef (fun _ z=>nomatch z)) ?_ ?_⟩
   · rintro j k v σ H1 t hk ⟨s4,s5,s6,s7,s8,s9,s10,s11,rfl,N1,tb1⟩ ft
     obtain⟨pe,hpe,ex⟩:∃ q,qs[j]?=some q∧((.inr q.1:Key),V.ref q.2.1)=(k,v):=by
       unfold pkv at hk;rw[List.getElem?_map]at hk;exact Option.map_eq_some_iff.mp hk
     cases ex;obtain⟨pla,hpl,y,my,en⟩:=okf pe (List.mem_of_getElem? hpe);generalize hG:upd H1 t _=G1;obtain⟨s1,e1⟩:=qC hG ft;clear hG;have NA:=N1.trans (Same.nt s1);have LA:=Lf.nt NA;have tqA:=LA.tq ek tdf.2.good;have hall:∀ s∈(J2 pe.2.2.1 pe.2.2.2).all,s∈us.map (·.1):=by rw[kn];exact qgH pla.n1 pla.sp hpl
     obtain⟨dx,hx⟩:=LA.lo.hx;refine⟨t,_,rfl,SqT.of e1,rfl,_,_,rfl,_,_,rfl,rfl,?_⟩;refine⟨_,rfl,x,dx,_,rfl,hx,rfl,_,rfl,x,td,ed,bl,us,ns,[],pe.1,y,J2 pe.2.2.1 pe.2.2.2,rfl,LA.lo,tqA,my,en.nt NA,hall,fun q r H2 fq S2 R can l mem=>?_⟩;(try unfold qJ);(try dsimp only);have bd:∀ n,Mem r n->0≤n∧n≤1000000000:=fun n h=>ql6 tqA pla.n1 pla.sp ((mem n).mp h);obtain⟨zs,hq,tz⟩:=id R;have lz:=tz.1;have tyq:tyN H2 (.ref q)=some "list":=by simp only[tyN];rw[hq]
     refine⟨_,rfl,_,_,_,rfl,(by decide),tyq,true,rfl,qT rfl ?_⟩;refine⟨_,rfl,q,r,rfl,R,can,l,bd,true,rfl,qT rfl ?_⟩;(try unfold qJ);(try dsimp only);have hmo2:=S2 _ _ (NA _ _ hmo (fun _ z=>nomatch z));refine⟨_,rfl,mo,_,rfl,.inl (SqL.of hmo2),fun M fM=>?_⟩;generalize hG:upd H2 M _=H3;obtain⟨S3,eM⟩:=qC hG fM;clear hG;(try unfold qJ);(try dsimp only);refine qR (t:=qfH _ _ _) (fun σ' H'=>∃ (s8 s9:Option V) (M:Addr) (ms:List Int),σ'=[some (.ref x),some (.ref pd),some (.ref tb),some (.ref mo),some (.str pe.1),some (.ref pe.2.1),some (.ref q),some (.ref M),s8,s9,s10,s11]∧Same H3 H'∧H' M=some (.lst (ms.map V.int))∧0 < ms.length∧ms.length≤9000∧∀ n∈ms,0≤n∧n≤1000000000) (fun N hN=>?_) ?_
     · have hq3:=S3 _ _ hq;refine⟨_,rfl,_,rfl,.inl ⟨q,_,rfl,SqL.of hq3,fun C1 fC1=>?_⟩⟩;generalize hG:upd H3 C1 _=H4;obtain⟨S4,e4⟩:=qC hG fC1;clear hG;refine⟨_,rfl,_,rfl,_,rfl,Or.inl ⟨q,_,rfl,SqL.of (S4 _ _ hq3),fun C2 fC2=>?_⟩⟩;generalize hG:upd H4 C2 _=H5;obtain⟨S5,e5⟩:=qC hG fC2;clear hG;have c1l:=jw zs none (some 3);have c2l:=jw zs (some (-3)) none;refine .inr (.inl ⟨C1,C2,_,_,rfl,rfl,S5 _ _ e4,e5,Nat.le_of_lt (qdH (by omega)),fun C3 fC3=>?_⟩);generalize hG:upd H5 C3 _=H6;obtain⟨S6,e6⟩:=qC hG fC3;clear hG;have S36:=(S4.trans S5).trans S6
       have sub:∀ z∈qcw zs none (some 3)++qcw zs (some (-3)) none,z∈zs:=fun z mz=>by
         rcases List.mem_append.mp mz with mz|mz<;>(unfold qcw at mz;exact List.mem_of_mem_drop (List.mem_of_mem_take mz))
       have cl:(qcw zs none (some 3)++qcw zs (some (-3)) none).length≤2000:=by rw[List.length_append];omega
       generalize qcw zs none (some 3)++qcw zs (some (-3)) none=cs at sub cl e6;refine⟨C3,rfl,⟨_,SqL.of e6⟩,zI (D:={ nx:=N,rt:=_ }) (K:=K) (a:=C3) (xs:=cs) (fun i σ H'=>∃ (s8 s9:Option V) (M:Addr) (ms:List Int),σ=[some (.ref x),some (.ref pd),some (.ref tb),some (.ref mo),some (.str pe.1),some (.ref pe.2.1),some (.ref q),some (.ref M),s8,s9,s10,s11]∧Same H6 H'∧H' M=some (.lst (ms.map V.int))∧0 < ms.length∧ms.length≤18+4 * i∧∀ n∈ms,0≤n∧n≤1000000000) ⟨_,_,M,ms,rfl,Same.refl _,S36 _ _ eM,m0,by omega,mbd⟩ (fun i σ H' _ ⟨_,_,_,_,_,S',_⟩=>SqL.of (S' _ _ e6)) ?_ ?_⟩
       · rintro i z σ H7 hz ⟨s8,s9,M7,ms7,rfl,S7,eM7,g0,g1,gbd⟩;have il:=(List.getElem?_eq_some_iff.mp hz).1;obtain⟨i',hi'⟩:=List.getElem?_of_mem (sub z (List.mem_of_getElem? hz));obtain⟨w,tw,hw,rfl,htw⟩:=tz.of hi';have mw:=List.mem_of_getElem? hw;have w12:=can.1 w mw;have bw1:=bd w.1 ⟨w,mw,Int.le_refl _,w12⟩;have bw2:=bd w.2 ⟨w,mw,w12,Int.le_refl _⟩;refine⟨tw,_,rfl,SqT.of ((S3.trans (S36.trans S7)) _ _ htw),rfl,_,_,rfl,_,_,rfl,rfl,?_⟩;refine⟨_,rfl,_,rfl,_,_,rfl,rfl,_,_,rfl,_,rfl,_,rfl,_,_,rfl,rfl,⟨by decide,by decide,by decide⟩,_,rfl,.inl ⟨_,_,rfl,rfl,_,_,rfl,qo (Nat.le_of_ble_eq_true rfl),fun l4 fl4=>?_⟩⟩;generalize hG:upd H7 l4 _=H8;obtain⟨S8,e8⟩:=qC hG fl4;clear hG;refine .inr (.inl ⟨M7,l4,_,_,rfl,rfl,S8 _ _ eM7,e8,Nat.le_of_lt (qdH (by rw[List.length_map];simp only[List.length_cons,List.length_nil];omega)),fun M9 fM9=>?_⟩);have e9:(10:Int) ^ (9:Int).toNat=1000000000:=by decide
         rw[e9];refine⟨_,_,M9,ms7++[(if w.1 - 1 > 0 then w.1 - 1 else 0),w.1,w.2,(if w.2+1 < 1000000000 then w.2+1 else 1000000000)],rfl,(S7.trans S8).trans (Same.new _ fM9),by rw[List.map_append];exact qd,by rw[List.length_append];omega,by rw[List.length_append];simp only[List.length_cons,List.length_nil];omega,fun n mn=>?_⟩;rcases List.mem_append.mp mn with mn|mn
         · exact gbd n mn
         · simp only[List.mem_cons,List.not_mem_nil,or_false]at mn;rcases mn with rfl|rfl|rfl|rfl
           · split<;>omega
           · exact bw1
           · exact bw2
           · split<;>omega
       · rintro σ H7 ⟨s8,s9,M7,ms7,rfl,S7,eM7,g0,g1,gbd⟩;exact hN _ _ ⟨_,_,M7,ms7,rfl,S36.trans S7,eM7,g0,by omega,gbd⟩
     rintro _ H4 ⟨s8,s9,M4,ms4,rfl,S4,eM4,g0,g1,gbd⟩;(try unfold qJ);(try dsimp only);clear eM hmo2 m0 m18 mbd;have S24:=S3.trans S4;have NQ:NT Hf H4:=NA.trans ((Same.nt S2).trans (Same.nt S24));have mkp:∀ n,Mem r n↔MK ps (J2 pe.2.2.1 pe.2.2.2) n:=fun n=>(mem n).trans (qgv ek _ n);refine qR (t:=qfH _ _ _) (fun σ' H'=>∃ (s10 s11:Option V),σ'=[some (.ref x),some (.ref pd),some (.ref tb),some (.ref mo),some (.str pe.1),some (.ref pe.2.1),some (.ref q),some (.ref M4),s8,s9,s10,s11]∧Same H4 H') (fun N hN=>?_) ?_
     · refine⟨_,rfl,M4,rfl,⟨_,SqL.of eM4⟩,zI (D:={ nx:=N,rt:=_ }) (K:=K) (a:=M4) (xs:=ms4.map V.int) (fun i σ H'=>∃ (s10 s11:Option V),σ=[some (.ref x),some (.ref pd),some (.ref tb),some (.ref mo),some (.str pe.1),some (.ref pe.2.1),some (.ref q),some (.ref M4),s8,s9,s10,s11]∧Same H4 H') ⟨_,_,rfl,Same.refl _⟩ (fun i σ H' _ ⟨_,_,_,S'⟩=>SqL.of (S' _ _ eM4)) ?_ ?_⟩
       · rintro i z σ H5 hz ⟨s10,s11,rfl,S5⟩;obtain⟨n,hn,rfl⟩:=Zb hz;have nbd:=gbd n (List.mem_of_getElem? hn);have hq5:=(S24.trans S5) _ _ hq;refine⟨_,rfl,q,rfl,⟨_,SqL.of hq5⟩,fun D fD=>?_⟩;refine zH (K:=K) (a:=q) (xs:=zs) (D:=D) (fun i σ H'=>∃ (c0:Option V) (ys:List V),σ=[c0,some (.int n)]∧Same H5 H'∧H' D=some (.lst ys)∧ys.length≤i∧(ys=[]↔∀ (j:Nat) w,j < i->r[j]?=some w->¬ (w.1≤n∧n≤w.2))) ⟨none,[],rfl,Same.new _ fD,qd,Nat.le_refl _,⟨fun _ j c h=>absurd h (Nat.not_lt_zero _),fun _=>rfl⟩⟩ (fun i σ H' _ ⟨_,_,_,S',_⟩=>SqL.of (S' _ _ hq5)) ?_ ?_
         · rintro i z σ H6 hz ⟨c0,ys,rfl,S6,hD,ly,hy⟩;obtain⟨w,tw,hw,rfl,htw⟩:=tz.of hz;have il:=(List.getElem?_eq_some_iff.mp hw).1;have ht6:=((S24.trans S5).trans S6) _ _ htw
           have NOT:¬ (w.1≤n∧n≤w.2)->(ys=[]↔∀ (j:Nat) w,j < i+1->r[j]?=some w->¬ (w.1≤n∧n≤w.2)):=fun nw=>hy.trans ⟨fun h j w' hj e=>by
             rcases Nat.lt_or_eq_of_le (Nat.lt_succ_iff.mp hj) with z|z
             · exact h j w' z e
             · subst z;rw[hw]at e;cases e;exact nw,fun h j w' hj e=>h j w' (by omega) e⟩
           have IX:=fun (kx:Int) (v:V) (h:atI (pr w) kx=some v) (Q2:VK) (q2:Q2 v H6)=>(show rIx K (.ref tw) (.int kx) H6 Q2 from .inr (.inl ⟨tw,_,_,_,rfl,rfl,SqT.of ht6,h,q2⟩))
           refine⟨_,rfl,IX 0 _ rfl _ ⟨_,rfl,_,_,rfl,rfl,_,rfl,zT (fun c1=>?_) (fun c1=>?_)⟩⟩
           · refine⟨_,rfl,IX 1 _ rfl _ ⟨_,_,rfl,rfl,_,rfl,zT (fun c2=>?_) (fun c2=>?_)⟩⟩
             · refine⟨_,rfl,ys,hD,qdH (by omega),_,ys++[.ref tw],rfl,S6.put fD _,qd,by rw[List.length_append];show ys.length+1≤_;omega,⟨fun h=>absurd h (by simp),fun h=>absurd ⟨c1,c2⟩ (h i w (Nat.lt_succ_self i) hw)⟩⟩
             · exact⟨_,ys,rfl,S6,hD,by omega,NOT fun h=>c2 h.2⟩
           · exact⟨_,rfl,qT rfl ⟨_,ys,rfl,S6,hD,by omega,NOT fun h=>c1 h.1⟩⟩
         rintro σ H6 ⟨c0,ys,rfl,S6,hD,ly,hy⟩;refine⟨qo (Nat.le_of_ble_eq_true rfl),fun l0 fl0=>?_⟩;generalize hG:upd H6 l0 _=H7;obtain⟨S7,e7⟩:=qC hG fl0;clear hG;refine⟨D,l0,ys,rfl,rfl,SqL.of (S7 _ _ hD),SqL.of e7,?_⟩;(try unfold qJ);(try dsimp only)
         have iff1:(!ys.isEmpty)=true↔Mem r n:=by
           have e:ys.isEmpty=true↔ys=[]:=List.isEmpty_iff
           cases hh:ys.isEmpty with
           | true =>
             have h0:=hy.mp (e.mp hh);refine⟨fun z=>absurd z (by decide),fun zz_=>?_⟩;obtain⟨w,mw,h⟩:=zz_;obtain⟨j,hj⟩:=List.getElem?_of_mem mw;exact absurd h (h0 j w (by rw[lz];exact(List.getElem?_eq_some_iff.mp hj).1) hj)
           | false =>
             refine⟨fun _=>?_,fun _=>rfl⟩
             exact Classical.byContradiction fun nm=>by
               have:=e.mpr (hy.mpr fun j w _ hj h=>nm ⟨w,List.mem_of_getElem? hj,h⟩)
               rw[hh]at this;cases this
         have S57:=(S5.trans S6).trans S7;have N7:=NQ.trans (Same.nt S57);refine⟨_,rfl,_,rfl,_,rfl,_,rfl,pe.2.1,tb,pe.1,pe.2.2.1,pe.2.2.2,ps,n,rfl,pla.nt N7,(tdf.nt N7).td,hpl,nbd,fun b2 H8 S8 hb2=>.inl ⟨rfl,_,rfl,qT ?_ ⟨_,_,rfl,S57.trans S8⟩⟩⟩
         have eb:(!ys.isEmpty)=b2:=by
           rw[Bool.eq_iff_iff,iff1,mkp,hb2]
         rw[eb];simp
       · rintro σ H5 h;exact hN _ _ h
     rintro _ H5 ⟨s10,s11,rfl,S5⟩;(try unfold qJ);(try dsimp only);have eM5:=S5 _ _ eM4
     obtain⟨n,hn⟩:∃ n,ms4.getLast?=some n:=by
       cases h:ms4.getLast? with
       | none=>rw[List.getLast?_eq_none_iff]at h;subst h;cases g0
       | some x=>exact⟨x,rfl⟩
     have nbd:=gbd n (List.mem_of_getLast? hn);have N5:=NQ.trans (Same.nt S5);have tb5:=(((tb1.same s1).same S2).same S24).same S5;refine⟨_,rfl,_,rfl,.inl ⟨M4,_,_,_,rfl,rfl,SqL.of eM5,QE (x:=V.int n) (by rw[List.getLast?_map,hn];rfl),?_⟩⟩;(try unfold qJ);(try dsimp only);refine⟨_,rfl,_,rfl,_,rfl,_,rfl,_,rfl,_,rfl,_,rfl,pe.2.1,tb,pe.1,pe.2.2.1,pe.2.2.2,ps,n,rfl,pla.nt N5,(tdf.nt N5).td,hpl,nbd,fun b2 H6 S6 hb2=>?_⟩;have N6:=N5.trans (Same.nt S6);refine⟨pe.2.1,tb,pe.1,pe.2.2.1,pe.2.2.2,ps,n,b2,rfl,pla.nt N6,tdf.nt N6,hpl,nbd,tb5.same S6,hb2,fun H7 N7 tb7=>⟨true,rfl,qT rfl ?_⟩⟩;exact⟨_,_,_,_,_,_,_,_,rfl,N6.trans N7,tb7⟩
   · rintro σ H1 ⟨s4,s5,s6,s7,s8,s9,s10,s11,rfl,N1,tb1⟩;have e1:=N1 _ _ ef (fun _ z=>nomatch z);exact⟨e1,kk _ (back N1) (tb1.upd e1 (fun _ z=>nomatch z) (fun _ z=>nomatch z) _)⟩
end
theorem Rs.putD {H:Hp}{q tb:Addr}{rows:List (Int×Int)}{o u:HO} (h:Rs H q rows) (e:H tb=some u) (n1:∀ zs,u≠.lst zs) (n2:∀ zs,u≠.tup zs):Rs (upd H tb o) q rows:=by
 obtain⟨zs,hq,tz⟩:=h;refine⟨zs,?_,tz.1,fun j z y e1 e2=>?_⟩
 · rw[qh (fun z=>by subst z;rw[e]at hq;injection hq with hq;exact n1 zs hq)];exact hq
 · obtain⟨t,et,ht⟩:=tz.2 j z y e1 e2;refine⟨t,et,?_⟩;rw[qh (fun z=>by subst z;rw[e]at ht;injection ht with ht;exact n2 _ ht)];exact ht
theorem qlw (ps:Pls):((dkv ps).map fun p=>kV p.1)=(ps.map (·.1)).map V.str:=by
 unfold dkv;rw[List.map_map,List.map_map];rfl
theorem qcj:∀ {l:List Str}{j:Nat}{x:Str},l.Nodup->l[j]?=some x->x∉l.take j
 | [],_,_,_,h=>by cases h
 | y::r,0,x,_,h=>by simp
 | y::r,j+1,x,nd,h=>by
   rw[List.nodup_cons]at nd;rw[List.take_succ_cons,List.mem_cons,not_or];have h':r[j]?=some x:=h;exact⟨fun e=>nd.1 (e▸List.mem_of_getElem? h'),qcj nd.2 h'⟩
structure Tp (H:Hp) (ps:Pls):Prop where
 rs:∀ x∈ps,Rs H x.2.1 x.2.2
 good:∀ x∈ps,Good x.2.2
theorem qi5 {ns:List Str}{n:Int} (i:Nat) (nms:Nms ns) (h:(ns.length:Int)=n) (lt:(i:Int) < n):∃ x,ns[i]?=some x∧atI (ns.map V.str) (i:Int)=some (.str x)∧zC (.str x)=true:=by
 have hi:i < ns.length:=by omega
 exact⟨ns[i],List.getElem?_eq_getElem hi,zh (by rw[List.getElem?_map,List.getElem?_eq_getElem hi];rfl),nms.nm _ (List.getElem_mem hi)⟩
def JU (us:Pls) (pl:Str) (y:Addr) (rows:List (Int×Int)):Pls:=us.map fun u=>if u.1=pl then (u.1,y,rows) else u
theorem qbr (us:Pls) (pl:Str) (y:Addr) (rows:List (Int×Int)):(JU us pl y rows).map (·.1)=us.map (·.1):=by
 unfold JU;rw[List.map_map]
 exact List.map_congr_left fun u _=>by
   show (if u.1=pl then (u.1,y,rows) else u).1=u.1;split<;>rfl
theorem qjI (us:Pls) (pl:Str) (y:Addr) (rows:List (Int×Int)):tv (JU us pl y rows)=(tv us).map fun p=>if p.1=pl then (p.1,V.ref y) else p:=by
 unfold JU tv;rw[List.map_map,List.map_map]
 exact List.map_congr_left fun u _=>by
   show ((if u.1=pl then (u.1,y,rows) else u).1,V.ref (if u.1=pl then (u.1,y,rows) else u).2.1)=if u.1=pl then (u.1,V.ref y) else (u.1,V.ref u.2.1)
   by_cases c:u.1=pl
   · rw[if_pos c,if_pos c]
   · rw[if_neg c,if_neg c]
theorem qjE {ps:List (Str×V)}{pl:Str} (w:V) (h:pl∈ps.map (·.1)):JM (skv ps) (.inr pl) w=skv (ps.map fun p=>if p.1=pl then (p.1,w) else p):=by
 unfold JM;rw[if_pos]
 · unfold skv;rw[List.map_map,List.map_map];refine List.map_congr_left fun p _=>?_;show (if (Sum.inr p.1:Key)=Sum.inr pl then ((Sum.inr p.1:Key),w) else ((Sum.inr p.1:Key),p.2))=((Sum.inr (if p.1=pl then (p.1,w) else p).1:Key),(if p.1=pl then (p.1,w) else p).2);by_cases e:p.1=pl
   · rw[if_pos (by rw[e]),if_pos e]
   · rw[if_neg (fun z=>e (by injection z)),if_neg e]
 · obtain⟨p,m,e⟩:=List.mem_map.mp h;refine List.any_eq_true.mpr ⟨((Sum.inr p.1:Key),p.2),List.mem_map.mpr ⟨p,m,rfl⟩,decide_eq_true ?_⟩;show (Sum.inr p.1:Key)=Sum.inr pl;rw[show p.1=pl from e]
theorem qew {us:Pls}{pl:Str} (y:Addr) (rows:List (Int×Int)) (h:pl∈us.map (·.1)):JM (skv (tv us)) (.inr pl) (.ref y)=skv (tv (JU us pl y rows)):=by
 rw[qjI];exact qjE _ (by rw[QF];exact h)
theorem J4 {us:Pls}{pl:Str}{y:Addr}{rows:List (Int×Int)}{t:Str×Addr×List (Int×Int)} (h:t∈JU us pl y rows):(t=(pl,y,rows)∧pl∈us.map (·.1))∨(t∈us∧t.1≠pl):=by
 obtain⟨u,m,rfl⟩:=List.mem_map.mp h;by_cases c:u.1=pl
 · rw[if_pos c,c];exact .inl ⟨rfl,c▸List.mem_map.mpr ⟨u,m,rfl⟩⟩
 · rw[if_neg c];exact .inr ⟨m,c⟩
theorem qjJ {us:Pls}{pl:Str} (y:Addr) (rows:List (Int×Int)) (h:pl∈us.map (·.1)):(pl,y,rows)∈JU us pl y rows:=by
 obtain⟨u,m,e⟩:=List.mem_map.mp h;exact List.mem_map.mpr ⟨u,m,by show (if u.1=pl then (u.1,y,rows) else u)=_;rw[if_pos e,e]⟩
theorem qaC {H:Hp}{p b:Addr}{zs:List V} (hp:PenAt H p) (h:H b=some (.lst zs)) (n:∀ n,zs[0]?≠some (.int n)):b≠p:=by
 rintro rfl;obtain⟨c,x,y,_,e⟩:=hp;rw[h]at e;cases e;exact n c rfl
theorem qiD {β:Type}{f:β->List V}{H:Hp}{zs:List V}{xs:List β} (h:TupL f H zs xs) (n:Int):zs[0]?≠some (.int n):=fun e=>by
 obtain⟨_,_,_,z,_⟩:=h.of e;cases z
theorem qiE {β:Type}{f:β->List V}{H H':Hp}{p:Addr}{zs:List V}{xs:List β} (h:TupL f H zs xs) (hp:PenAt H p) (b:But p H H'):TupL f H' zs xs:=⟨h.1,fun j z y e1 e2=>by
 obtain⟨t,e,ht⟩:=h.2 j z y e1 e2
 exact⟨t,e,b _ _ ht (hp.nk ht (fun _ z=>nomatch z))⟩⟩
theorem qfy {β:Type}{f:β->List V}{H H':Hp}{c:Addr}{kvs:List (Key×V)}{zs:List V}{xs:List β} (h:TupL f H zs xs) (e:H c=some (.dK kvs)) (b:But c H H'):TupL f H' zs xs:=⟨h.1,fun j z y e1 e2=>by
 obtain⟨t,e3,ht⟩:=h.2 j z y e1 e2
 exact⟨t,e3,b _ _ ht (qW ht e (fun z=>nomatch z))⟩⟩
theorem SvAt.bp {H H':Hp}{p:Addr}{v:V}{sv:Option (Bool×Int×Int)} (h:SvAt H v sv) (hp:PenAt H p) (b:But p H H'):SvAt H' v sv:=by
 cases sv with
 | none=>exact h
 | some q=>obtain⟨t,e,h⟩:=h;exact⟨t,e,b _ _ h (hp.nk h (fun _ z=>nomatch z))⟩
theorem SvAt.dk {H H':Hp}{c:Addr}{kvs:List (Key×V)}{v:V}{sv:Option (Bool×Int×Int)} (h:SvAt H v sv) (e:H c=some (.dK kvs)) (b:But c H H'):SvAt H' v sv:=by
 cases sv with
 | none=>exact h
 | some q=>obtain⟨t,e1,h⟩:=h;exact⟨t,e1,b _ _ h (qW h e (fun z=>nomatch z))⟩
theorem PlA.bp {H H':Hp}{p pa:Addr}{nm:Str}{S:List S4}{sv:Option (Bool×Int×Int)} (h:PlA H pa nm S sv) (hp:PenAt H p) (b:But p H H'):PlA H' pa nm S sv :=
 ⟨let ⟨sl,zs,v,h1,h2,h3,h4⟩:=h.ex;⟨sl,zs,v,b _ _ h1 (qaC hp h1 fun _ z=>by cases z),b _ _ h2 (qaC hp h2 (qiD h3)),qiE h3 hp b,h4.bp hp b⟩,h.sp,h.n1,h.n4,h.sf⟩
theorem PlA.dk {H H':Hp}{c pa:Addr}{kvs:List (Key×V)}{nm:Str}{S:List S4}{sv:Option (Bool×Int×Int)} (h:PlA H pa nm S sv) (e:H c=some (.dK kvs)) (b:But c H H'):PlA H' pa nm S sv :=
 ⟨let ⟨sl,zs,v,h1,h2,h3,h4⟩:=h.ex;⟨sl,zs,v,b _ _ h1 (qW h1 e (fun z=>nomatch z)),b _ _ h2 (qW h2 e (fun z=>nomatch z)),qfy h3 e b,h4.dk e b⟩,h.sp,h.n1,h.n4,h.sf⟩
theorem EnD.bp {a:Ad}{H H':Hp}{p y:Addr}{nm:Str}{kd:Kd} (h:EnD a H y nm kd) (hp:PenAt H p) (b:But p H H'):EnD a H' y nm kd:=by
 have k:∀ {x:Addr}{nm:Str}{pk:Pk},EnP a H x nm pk->EnP a H' x nm pk:=fun h=>h.mp fun C d fs e _=>b _ _ e (hp.nk e (fun _ z=>nomatch z))
 cases h with
 | pl e=>exact .pl (k e)
 | jn e e1 h1 h2 =>
   refine .jn (b _ _ e (hp.nk e (fun _ z=>nomatch z))) (b _ _ e1 (qaC hp e1 fun n z=>?_)) h1 fun p m=>let ⟨nm,e⟩:=h2 p m;⟨nm,k e⟩;rw[List.getElem?_map]at z;obtain⟨_,_,z⟩:=Option.map_eq_some_iff.mp z;cases z
 | sf e e1 h1 q=>exact .sf (b _ _ e (hp.nk e (fun _ z=>nomatch z))) (k e1) h1 (q.mp fun c φ e=>b _ _ e (hp.nk e (fun _ z=>nomatch z)))
theorem Lo.bp {a:Ad}{H H':Hp}{p x td ed bl:Addr}{ps ns:List (Str×V)} (h:Lo a H x td ed bl ps ns []) (hp:PenAt H p) (b:But p H H'):Lo a H' x td ed bl ps ns [] :=
 ⟨let ⟨dx,e⟩:=h.hx;⟨dx,b _ _ e (hp.nk e (fun _ z=>nomatch z))⟩,b _ _ h.ht (hp.nk h.ht (fun _ z=>nomatch z)),b _ _ h.he (hp.nk h.he (fun _ z=>nomatch z)),b _ _ h.hb (qaC hp h.hb fun _ z=>nomatch z),h.ne,h.ndt,h.nde⟩
theorem Lo.dk {a:Ad}{H H':Hp}{c x td ed bl:Addr}{kvs:List (Key×V)}{ps ns:List (Str×V)} (h:Lo a H x td ed bl ps ns []) (e:H c=some (.dK kvs)) (b:But c H H') (n1:td≠c) (n2:ed≠c):Lo a H' x td ed bl ps ns [] :=
 ⟨let ⟨dx,e1⟩:=h.hx;⟨dx,b _ _ e1 (qW e1 e (fun z=>nomatch z))⟩,b _ _ h.ht n1,b _ _ h.he n2,b _ _ h.hb (qW h.hb e (fun z=>nomatch z)),h.ne,h.ndt,h.nde⟩
theorem Tb.bp {a:Ad}{H H':Hp}{p x:Addr}{rows:List (Int×Int)} (h:Tb a H x rows) (hp:PenAt H p) (b:But p H H'):Tb a H' x rows:=by
 obtain⟨k,dx,zs,h1,h2,h3⟩:=h;exact⟨k,dx,zs,b _ _ h1 (hp.nk h1 (fun _ z=>nomatch z)),b _ _ h2 (qaC hp h2 (qiD h3)),qiE h3 hp b⟩
theorem Lk.bp {a:Ad}{H H':Hp}{p x td ed bl:Addr}{us:Pls}{ns:List (Str×V)} (h:Lk a H x td ed bl us ns) (hp:PenAt H p) (b:But p H H'):Lk a H' x td ed bl us ns:=⟨h.lo.bp hp b,fun u m=>(h.tt u m).bp hp b⟩
theorem Lk.dk {a:Ad}{H H':Hp}{c x td ed bl:Addr}{kvs:List (Key×V)}{us:Pls}{ns:List (Str×V)} (h:Lk a H x td ed bl us ns) (e:H c=some (.dK kvs)) (b:But c H H') (n1:td≠c) (n2:ed≠c):Lk a H' x td ed bl us ns:=⟨h.lo.dk e b n1 n2,fun u m=>(h.tt u m).butD b e⟩
theorem qlV {H H':Hp}{c x:Addr}{kvs:List (Key×V)}{rows:List (Int×Int)} (h:Rs H x rows) (e:H c=some (.dK kvs)) (b:But c H H'):Rs H' x rows:=by
 obtain⟨zs,h1,h2⟩:=h;exact⟨zs,b _ _ h1 (qW h1 e (fun z=>nomatch z)),qfy h2 e b⟩
theorem TdI.dk {H H':Hp}{c:Addr}{kvs:List (Key×V)}{ps:Pls} (h:TdI H ps) (e:H c=some (.dK kvs)) (b:But c H H'):TdI H' ps:=⟨fun x m=>by
 obtain⟨zs,h1,h2⟩:=h.rs x m
 exact⟨zs,b _ _ h1 (qW h1 e (fun z=>nomatch z)),qfy h2 e b⟩,h.good,h.nm,h.nd,h.ne,h.few⟩
structure Lz (a:Ad) (H0 H:Hp) (p q tb:Addr) (nsm:List Str) (ps:Pls):Prop where
 n:NT H0 H
 t:Tbs a H
 p:PenAt H p
 q:H q=some (.lst (nsm.map V.str))
 d:TdD H tb ps
theorem qiJ (l:List Str) (n:Int):(l.map V.str)[0]?≠some (.int n):=fun z=>by
 rw[List.getElem?_map]at z;obtain⟨_,_,z⟩:=Option.map_eq_some_iff.mp z;cases z
theorem Lz.nt {a:Ad}{H0 H H':Hp}{p q tb:Addr}{nsm:List Str}{ps:Pls} (h:Lz a H0 H p q tb nsm ps) (n:NT H H') (t:Tbs a H'):Lz a H0 H' p q tb nsm ps :=
 ⟨h.n.trans n,t,let ⟨c,x,y,d,e⟩:=h.p;⟨c,x,y,d,n _ _ e (fun _ z=>nomatch z)⟩,n _ _ h.q (fun _ z=>nomatch z),h.d.nt n⟩
theorem Lz.sm {a:Ad}{H0 H H':Hp}{p q tb:Addr}{nsm:List Str}{ps:Pls} (h:Lz a H0 H p q tb nsm ps) (s:Same H H'):Lz a H0 H' p q tb nsm ps:=h.nt (Same.nt s) (h.t.same s)
theorem Lz.nq {a:Ad}{H0 H:Hp}{p q tb:Addr}{nsm:List Str}{ps:Pls} (h:Lz a H0 H p q tb nsm ps):q≠p:=qaC h.p h.q (qiJ _)
theorem Lz.bp {a:Ad}{H0 H H':Hp}{p q tb:Addr}{nsm:List Str}{ps:Pls} (h:Lz a H0 H p q tb nsm ps) (b:But p H H') (p':PenAt H' p) (f:H0 p=none):Lz a H0 H' p q tb nsm ps:=by
 have tb':Tbs a H':=by
   obtain⟨c,x,y,_,e⟩:=h.p;exact h.t.but b e (fun _ z=>nomatch z) (fun _ z=>nomatch z)
 exact⟨fun c o e k=>b _ _ (h.n _ _ e k) (qi e f),tb',p',b _ _ h.q h.nq,b _ _ h.d.1 (h.p.nk h.d.1 (fun _ z=>nomatch z)),(h.d.td.bp h.p b).2⟩
theorem Lz.dk {a:Ad}{H0 H H':Hp}{p q tb c:Addr}{nsm:List Str}{ps:Pls}{kvs:List (Key×V)} (h:Lz a H0 H p q tb nsm ps) (e:H c=some (.dK kvs)) (b:But c H H') (f:H0 c=none) (nc:tb≠c):Lz a H0 H' p q tb nsm ps :=
 ⟨fun c o e1 k=>b _ _ (h.n _ _ e1 k) (qi e1 f),h.t.but b e (fun _ z=>nomatch z) (fun _ z=>nomatch z),let ⟨c,x,y,d,e1⟩:=h.p;⟨c,x,y,d,b _ _ e1 (qW e1 e (fun z=>nomatch z))⟩,b _ _ h.q (qW h.q e (fun z=>nomatch z)),b _ _ h.d.1 nc,h.d.2.dk e b⟩
theorem PlOk.nt {a:Ad}{H H':Hp}{N:List Str}{ns:List (Str×V)}{q:PlE} (h:PlOk a H N ns q) (n:NT H H'):PlOk a H' N ns q:=⟨h.1.nt n,h.2.1,let ⟨y,m,e⟩:=h.2.2;⟨y,m,e.nt n⟩⟩
theorem PlOk.bp {a:Ad}{H H':Hp}{p:Addr}{N:List Str}{ns:List (Str×V)}{q:PlE} (h:PlOk a H N ns q) (hp:PenAt H p) (b:But p H H'):PlOk a H' N ns q:=⟨h.1.bp hp b,h.2.1,let ⟨y,m,e⟩:=h.2.2;⟨y,m,e.bp hp b⟩⟩
theorem PlOk.dk {a:Ad}{H H':Hp}{c:Addr}{kvs:List (Key×V)}{N:List Str}{ns:List (Str×V)}{q:PlE} (h:PlOk a H N ns q) (e:H c=some (.dK kvs)) (b:But c H H'):PlOk a H' N ns q:=⟨h.1.dk e b,h.2.1,let ⟨y,m,e1⟩:=h.2.2;⟨y,m,e1.butD b e⟩⟩
structure Lv (a:Ad) (H:Hp) (x td ed bl pd:Addr) (ps us:Pls) (ns:List (Str×V)) (qs:List PlE):Prop where
 k:Lk a H x td ed bl us ns
 d:H pd=some (.dK (pkv qs))
 ok:∀ q∈qs,PlOk a H (ps.map (·.1)) ns q
theorem Lv.nt {a:Ad}{H H':Hp}{x td ed bl pd:Addr}{ps us:Pls}{ns:List (Str×V)}{qs:List PlE} (h:Lv a H x td ed bl pd ps us ns qs) (n:NT H H'):Lv a H' x td ed bl pd ps us ns qs:=⟨h.k.nt n,n _ _ h.d (fun _ z=>nomatch z),fun q m=>(h.ok q m).nt n⟩
theorem Lv.bp {a:Ad}{H H':Hp}{p x td ed bl pd:Addr}{ps us:Pls}{ns:List (Str×V)}{qs:List PlE} (h:Lv a H x td ed bl pd ps us ns qs) (hp:PenAt H p) (b:But p H H'):Lv a H' x td ed bl pd ps us ns qs:=⟨h.k.bp hp b,b _ _ h.d (hp.nk h.d (fun _ z=>nomatch z)),fun q m=>(h.ok q m).bp hp b⟩
theorem qke {us ps:Pls} (e:us.map key=ps.map key) (pl:Str) (y rq:Addr) (rows:List (Int×Int)):(JU us pl y rows).map key=(JU ps pl rq rows).map key:=by
 have h:∀ (ts:Pls) (z:Addr),(JU ts pl z rows).map key=(ts.map key).map fun k=>if k.1=pl then (k.1,rows) else k:=fun ts z=>by
   unfold JU;rw[List.map_map,List.map_map]
   exact List.map_congr_left fun u _=>by
     show key (if u.1=pl then (u.1,z,rows) else u)=if u.1=pl then (u.1,rows) else key u
     split<;>rfl
 rw[h,h,e]
theorem qjg (ps:Pls):dkv ps=skv (tv ps):=by
 unfold dkv skv tv;rw[List.map_map];rfl
theorem qkZ:∀ {qs:List PlE},(qs.map (·.1)).Nodup->∀ q∈qs,qa1 (pkv qs) (.inr q.1)=some (V.ref q.2.1):=fun {qs} nd q m=>by
 have e:pkv qs=skv (qs.map fun q=>(q.1,V.ref q.2.1)):=by unfold pkv skv;rw[List.map_map];rfl
 rw[e];exact qai (by rw[List.map_map];exact nd) (q.1,V.ref q.2.1) (List.mem_map.mpr ⟨q,m,rfl⟩)
theorem qk0 {qs:List PlE}{q:PlE} (n:q.1∉qs.map (·.1)):JM (pkv qs) (.inr q.1) (V.ref q.2.1)=pkv (qs++[q]):=by
 rw[qb7]
 · unfold pkv;rw[List.map_append];rfl
 · have h:=qjs (ps:=qs.map fun q=>(q.1,q.2.1,[])) (pl:=q.1) (by rw[List.map_map];exact n);have e:dkv (qs.map fun q=>(q.1,q.2.1,[]))=pkv qs:=by unfold dkv pkv;rw[List.map_map];rfl
   rw[e]at h;exact h
def qhx (K:Frag) (t0 t1:Addr):Sp:=fun vs H Q _=>∃ (sa:Addr) (ns:List Int),vs=[.ref sa]∧SqL K H sa (ns.map V.int)∧ns.length≤63∧(TbA H t0 Qi∧TbA H t1 Zc)∧∀ H',Q (.bl true) H'
theorem qmo {H:Hp}{T:Addr}{l:List (Pos×Str)} (h:H T=some (.tbl #[])):TbA H T l:=⟨#[],h,True.intro,fun x _=>.inl rfl⟩
theorem qkH {K:Frag}{H H':Hp}{sa:Addr}{xs:List V} (h:SqL K H sa xs) (k:∀ o,H sa=some o->(∀ ps,o≠.tbl ps)->H' sa=some o):SqL K H' sa xs:=by
 rcases h with (h|⟨o,h⟩)|h
 · exact .inl (.inl (k _ h (by intro p z;cases z)))
 · exact .inl (.inr ⟨o,k _ h (by intro p z;cases z)⟩)
 · exact .inr h
section
variable {P:Program}{w:World}{K:Frag}{mg:Str->Option Value}{base:Heap}
theorem qhY {a:Ad} (T:Txt K mg a):qy P w K mg base CX0 1 a.f_X a.fd_X ["_law_script","_law_k"] (qeg K):=by
 refine T.d_X.F.ok qhB (fun vs H Q E h=>?_) (fun cdv A outer s H vs Q E hr h=>?_)
 · obtain⟨b,ns,j,rfl,hS,j0,k⟩:=h;rfl
 · obtain⟨b,ns,j,rfl,hS,j0,k⟩:=h;have hU:=hr.units
   refine⟨_,(qc (qG (qv qa7 (pv 1) (ql qZ (by rfl) T.n_len qF (qa (pv 0) qb)) (qB _))
       (qf (qq (qA (r:=rIx K) qt (pv 0) (pv 1) (fun _ _=>rfl))))
       qu)
     (qf (qq (qx QY (qx ZM qe (pv 1)) qe)))),?_⟩
   try dsimp only [zi,Cx.nox]
   refine⟨_,rfl,_,rfl,_,_,rfl,.inl ⟨_,hS,rfl⟩,_,_,rfl,rfl,_,rfl,?_⟩;refine zT (fun hj=>?_) (fun hj=>?_)
   · obtain⟨n,rfl⟩:=Int.eq_ofNat_of_zero_le j0;rw[List.length_map]at hj;have hn:n < ns.length:=by omega
     refine⟨_,rfl,_,rfl,.inl ⟨b,_,_,.int ns[n],rfl,rfl,hS,zh (by rw[List.getElem?_map,List.getElem?_eq_getElem hn];rfl),?_⟩⟩;exact k _
   · exact⟨_,rfl,_,_,rfl,rfl,.inl ⟨by decide,by decide⟩,.inl ⟨_,_,rfl,rfl,k _⟩⟩
theorem qk8 {a:Ad} (T:Txt K mg a) (hB:qeX mg base):qy P w K mg base CX0 13 a.f_am a.fd_am ["_law_script"] (qhx K a.t_on_days a.t_daily):=by
 have G_Y:=qgn (P:=P) (w:=w) (base:=base) T;have G_Z:=qgm (P:=P) (w:=w) (base:=base) T;have G_z:=qaI (P:=P) (w:=w) (base:=base) T;have G_X:=qhY (P:=P) (w:=w) (base:=base) T;have G_E:=qhT (P:=P) (w:=w) (base:=base) T;have G_m:=JQ (P:=P) (w:=w) (base:=base) T;have G_4:=qhU (P:=P) (w:=w) (base:=base) T;have G_x:=qbG (P:=P) (w:=w) (base:=base) T;have G_G:qy P w K mg base CX0 12 a.f_G a.fd_G ["_law_log","_law_plans","_law_tables","_law_more_here"] (qcI a):=qgo T hB;have G_a:=Za (P:=P) (w:=w) (base:=base) T;have G_s:=j5 (P:=P) (w:=w) (base:=base) T;have G_r:qy P w K mg base CX0 10 a.f_r a.fd_r ["_law_name","_law_plan_here"] (qad a):=qda T hB;have G_H:=qhV (P:=P) (w:=w) (base:=base) T;refine T.d_am.F.ok sc_law (fun vs H Q E h=>?_) (fun cdv A outer s H vs Q E hr h=>?_)
 · obtain⟨sa,ns,rfl,hS,l63,⟨q0,q1⟩,kk⟩:=h;rfl
 · obtain⟨sa,ns,rfl,hS,l63,⟨q0,q1⟩,kk⟩:=h;have hu:=qD hr;have hU:=hr.units;have h_Y:Room (1) _:=hr.mono (by decide);have h_Z:Room (3) _:=hr.mono (by decide);have h_z:Room (1+1) _:=hr.mono (by decide);have h_X:Room (1) _:=hr.mono (by decide);have h_E:Room (4) _:=hr.mono (by decide);have h_m:Room (2) _:=hr.mono (by decide);have h_4:Room (4) _:=hr.mono (by decide);have h_x:Room (3) _:=hr.mono (by decide);have h_G:Room (12) _:=hr.mono (by decide);have h_a:Room (2) _:=hr.mono (by decide);have h_s:Room (6+1) _:=hr.mono (by decide);have h_r:Room (10) _:=hr.mono (by decide);have h_H:Room (3) _:=hr.mono (by decide)
   refine⟨_,(qc (zr PassesOwn.never rfl (ZL rfl T.n_range (qa (ql (zm rfl) (by rfl) T.n_max zn (qa qe (qa (ql (zZ rfl) (by rfl) T.n_min z9 (qa qe (qa (ql qZ (by rfl) T.n_len qF (qa (pv 0) qb)) qb))) qb))) qb)) (qp (i:=1) (sc_law.nd) rfl (Or.inl rfl))
       (qc (qz (i:=2) sc_law.nd rfl (Or.inl rfl) (qj G_Y h_Y rfl T.d_Y.m T.d_Y.k T.d_Y.b .nil qk (qa (qj G_X h_X rfl T.d_X.m T.d_X.k T.d_X.b .nil qk (qa (pv 0) (qa (pv 1) qb))) qb)))
       (qc (qz (i:=3) sc_law.nd rfl (Or.inl rfl) (qj G_Z h_Z rfl T.d_Z.m T.d_Z.k T.d_Z.b .nil qk (qa (pv 2) (qa qe qb))))
       (qc (qz (i:=4) sc_law.nd rfl (Or.inl rfl) jX)
       (qc (zr PassesOwn.never rfl (zc (Q9 uSl (pv 3) qaB (Q8 (qx QY qe (qj G_a h_a rfl T.d_a.m T.d_a.k T.d_a.b .nil qk (qa (pv 2) (qa qe qb))))))) (qp (i:=5) (sc_law.nd) rfl (Or.inl rfl))
         (qf (qaA hu (pv 4) (pv 5) (qj G_E h_E rfl T.d_E.m T.d_E.k T.d_E.b .nil qk (qa (pv 2) qb)) rfl)))
       (qc (qz (i:=6) sc_law.nd rfl (Or.inl rfl) (ql (zZ rfl) (by rfl) T.n_min z9 (qa (qx Qo qe qe) (qa (qx QY (qA (r:=rIx K) qt (qA (r:=rIx K) qt (zN hu (pv 4) (qA (r:=rIx K) qt (pv 3) qe (fun _ _=>rfl)) (fun _ _=>rfl)) (jW Qu qe) (fun _ _=>rfl)) qe (fun _ _=>rfl)) (qj G_a h_a rfl T.d_a.m T.d_a.k T.d_a.b .nil qk (qa (pv 2) (qa qe qb)))) qb))))
       (qc (qz (i:=7) sc_law.nd rfl (Or.inl rfl) (qeA T.M_Log G_z h_z rfl T.g_Log T.d_z.b .nil qk))
       (qc (PS.loan (zr PassesOwn.never rfl (qge (pv 4)) (qp (i:=5) (sc_law.nd) rfl (Or.inl rfl))
         (qf (qO (qL (pv 7) T.cl_Log T.d_m.mt G_m h_m T.d_m.b .nil qk (qa (pv 5) (qa (QI T.M_Table G_s h_s rfl T.g_Table T.d_s.b .nil qk (qa (zy (r:=qjM K) zA (by rfl) T.n_list q9 (qa (zN hu (pv 4) (pv 5) (fun _ _=>rfl)) qb)) qb)) qb)))))))
       (qc (qz (i:=8) sc_law.nd rfl (Or.inl rfl) jX)
       (qc (zr PassesOwn.never rfl (zc (Q9 uSl (pv 3) (Q8 qe) (Q8 (qx QY qe (qj G_a h_a rfl T.d_a.m T.d_a.k T.d_a.b .nil qk (qa (pv 2) (qa qe qb))))))) (qp (i:=9) (sc_law.nd) rfl (Or.inl rfl))
         (qc (qaA hu (pv 8) (pv 9) (qj G_4 h_4 rfl T.d_4.m T.d_4.k T.d_4.b .nil qk (qa (pv 2) (qa (pv 9) (qa (zy (r:=qf4) (qbQ rfl) (by rfl) T.n_list q9 (qa (pv 4) qb)) (qa (pv 4) (qa (pv 6) qb)))))) rfl)
         (qf (qO (qL (pv 7) T.cl_Log T.d_x.mt G_x h_x T.d_x.b .nil qk (qa (qj G_r h_r rfl T.d_r.m T.d_r.k T.d_r.b .nil qk (qa (pv 9) (qa (zN hu (pv 8) (pv 9) (fun _ _=>rfl)) qb))) qb))))))
       (qc (qG (q8 (qX (qj G_G h_G rfl T.d_G.m T.d_G.k T.d_G.b .nil qk (qa (pv 7) (qa (pv 8) (qa (pv 4) (qa (qj G_H h_H rfl T.d_H.m T.d_H.k T.d_H.b .nil qk (qa (pv 2) (qa (pv 4) (qa (pv 6) qb)))) qb)))))))
         (qf (qq jq))
         qu)
       (qf (qG (qv (uEq hU) (qj G_a h_a rfl T.d_a.m T.d_a.k T.d_a.b .nil qk (qa (pv 2) (qa qe qb))) qe (qB _))
         (qc (qz (i:=5) sc_law.nd rfl (Or.inl rfl) (qA (r:=rIx K) qt (pv 3) (qj G_a h_a rfl T.d_a.m T.d_a.k T.d_a.b .nil qk (qa (pv 2) (qa (ql Je (by rfl) T.n_len qF (qa (pv 4) qb)) qb))) (fun _ _=>rfl)))
         (qc (qaA hu (pv 4) (pv 5) (qj G_E h_E rfl T.d_E.m T.d_E.k T.d_E.b .nil qk (qa (pv 2) qb)) rfl)
         (qc (qO (qL (pv 7) T.cl_Log T.d_m.mt G_m h_m T.d_m.b .nil qk (qa (pv 5) (qa (QI T.M_Table G_s h_s rfl T.g_Table T.d_s.b .nil qk (qa (zy (r:=qjM K) zA (by rfl) T.n_list q9 (qa (zN hu (pv 4) (pv 5) (fun _ _=>rfl)) qb)) qb)) qb))))
         (qf (qG (q8 (qX (qj G_G h_G rfl T.d_G.m T.d_G.k T.d_G.b .nil qk (qa (pv 7) (qa (pv 8) (qa (pv 4) (qa (qj G_H h_H rfl T.d_H.m T.d_H.k T.d_H.b .nil qk (qa (pv 2) (qa (pv 4) (qa (pv 6) qb)))) qb)))))))
           (qf (qq jq))
           qu)))))
         qu)))))))))))))
     (qf (qq jq))),?_⟩
   try dsimp only [zi,Cx.nox]
   refine⟨_,rfl,_,_,rfl,.inl ⟨_,hS,rfl⟩,_,_,rfl,_,_,rfl,_,rfl,?_,?_,Jb (lo:=0) (D:={ nx:=qhv (tC (.bl true)) { nx:=fun _ H'=>Q .non H',rt:=Q },rt:=Q }) (fun i σ H2=>∃ s1 s2 s3 s4 s5 s6 s7 s8 s9:Option V,σ=[some (.ref sa),s1,s2,s3,s4,s5,s6,s7,s8,s9]∧SqL K H2 sa (ns.map V.int)∧Tbs a H2) ⟨_,_,_,_,_,_,_,_,_,rfl,hS,⟨q0,q1⟩⟩ ?_ ?_⟩
   · rw[List.length_map];split<;>split<;>omega
   · rw[List.length_map];split<;>split<;>omega
   · rintro i σ H2 hi ⟨s1,s2,s3,s4,s5,s6,s7,s8,s9,rfl,hS2,tb2⟩;refine⟨_,rfl,_,rfl,sa,ns,_,rfl,hS2,(by omega),fun c=>⟨c,rfl,fun p A B fp A0=>?_⟩⟩;generalize hG:upd H2 p _=G1;obtain⟨S1,e1⟩:=qC hG fp;clear hG;have p1:PenAt G1 p:=⟨A,B,0,A0,e1⟩
     try unfold qJ
     try dsimp only
     refine⟨_,rfl,p,12,rfl,p1,by decide,by decide,fun q nsm G2 fq B2 p2 hq lq nms=>?_⟩;have nq:q≠p:=p1.ne fq;have S2:Same H2 G2:=fun b o e=>B2 b o (S1 b o e) (qi e fp);clear e1 B2 p1;(try unfold qJ);(try dsimp only);refine fun tb ftb=>?_;generalize hG:upd G2 tb _=G3;obtain⟨S3,e3⟩:=qC hG ftb;clear hG;have p3:=PenAt.sm p2 S3;have hq3:=S3 _ _ hq;have ftb2:H2 tb=none:=S2.none ftb;have ntp:tb≠p:=p2.ne ftb;have SH3:=S2.trans S3;clear hq S2 S3 p2 ftb;(try unfold qJ);(try dsimp only);refine qR (t:=qfH _ _ _) (fun σ' H'=>∃ (s5:Option V) (ps:Pls) (n:Nat),σ'=[some (.ref sa),some (.int (0+(i:Int))),some (.ref p),some (.ref q),some (.ref tb),s5,s6,s7,s8,s9]∧Same H2 H'∧PenAt H' p∧H' q=some (.lst (nsm.map V.str))∧H' tb=some (.dK (dkv ps))∧Tp H' ps∧ps.map (·.1)=nsm.take n∧0 < n∧n≤4) (fun N hN=>?_) ?_
     · refine⟨_,rfl,_,rfl,p,_,rfl,p3,by decide,by decide,fun m G4 m0 m1 B4 p4=>.inl ⟨_,_,rfl,rfl,_,rfl,.inl ⟨q,_,rfl,SqL.of (B4 _ _ hq3 nq),fun l fl=>?_⟩⟩⟩;rw[qeR _ (1+m).toNat _ (by omega),← List.map_take];generalize hG:upd G4 l _=G5;obtain⟨S5,e5⟩:=qC hG fl;clear hG;have p5:=PenAt.sm p4 S5;have nl:l≠p:=p4.ne fl;have hq5:=S5 _ _ (B4 _ _ hq3 nq);have e35:=S5 _ _ (B4 _ _ e3 ntp);have SH5:Same H2 G5:=fun b o e=>S5 b o (B4 b o (SH3 b o e) (qi e fp));generalize hnn:(1+m).toNat=n at e5;have n0':0 < n:=by omega
       have n3':n≤4:=by omega
       clear S5 B4 e3 p3 hq3 SH3 p4;refine⟨l,rfl,⟨_,SqL.of e5⟩,zI (D:={ nx:=N,rt:=Q }) (K:=K) (a:=l) (xs:=(nsm.take n).map V.str) (fun j σ H'=>∃ (s5:Option V) (ps:Pls),σ=[some (.ref sa),some (.int (0+(i:Int))),some (.ref p),some (.ref q),some (.ref tb),s5,s6,s7,s8,s9]∧Same H2 H'∧PenAt H' p∧H' q=some (.lst (nsm.map V.str))∧H' l=some (.lst ((nsm.take n).map V.str))∧H' tb=some (.dK (dkv ps))∧Tp H' ps∧ps.map (·.1)=(nsm.take n).take j) ⟨_,[],rfl,SH5,p5,hq5,e5,e35,⟨(fun x m=>nomatch m),(fun x m=>nomatch m)⟩,rfl⟩ (fun j σ H' _ ⟨_,_,_,_,_,_,h,_⟩=>SqL.of h) ?_ ?_⟩
       · rintro j z σ H6 hz ⟨s5,ps,rfl,S6,p6,hq6,hl6,ht6,tp6,ek⟩
         obtain⟨x,hx,rfl⟩:∃ x,(nsm.take n)[j]?=some x∧V.str x=z:=by
           rw[List.getElem?_map]at hz;exact Option.map_eq_some_iff.mp hz
         refine⟨_,rfl,p,rfl,p6,fun rq rows H7 frq B7 p7 R7 good=>?_⟩;have ht7:=B7 _ _ ht6 ntp;have nd:=nms.nd
         have hxk:x∉ps.map (·.1):=by
           rw[ek];exact qcj (nd.sublist (List.take_sublist _ _)) hx
         have lps:ps.length≤5:=by
           have:=congrArg List.length ek
           rw[List.length_map,List.length_take,List.length_take]at this;omega
         have ep:JM (dkv ps) (.inr x) (V.ref rq)=dkv (ps++[(x,rq,rows)]):=by
           rw[qb7 _ (qjs hxk)];unfold dkv;rw[List.map_append];rfl
         refine⟨_,rfl,_,rfl,tb,_,rfl,DPut.k (k:=.inr x) ht7 (by unfold dkv;rw[List.length_map];exact Nat.lt_of_lt_of_le (by omega:ps.length < 60) (qo (by decide:60≤1000))),?_⟩;rw[ep];refine⟨_,ps++[(x,rq,rows)],rfl,?_,p7.upd ntp _,?_,?_,qd,⟨fun y m=>?_,fun y m=>?_⟩,?_⟩
         · intro b o e;rw[qh (qi e ftb2)];exact B7 b o (S6 b o e) (qi e fp)
         · rw[qh (qW (B7 _ _ hq6 nq) ht7 (by intro z;cases z))];exact B7 _ _ hq6 nq
         · rw[qh (qW (B7 _ _ hl6 nl) ht7 (by intro z;cases z))];exact B7 _ _ hl6 nl
         · refine Rs.putD ?_ ht7 (fun _ z=>by cases z) (fun _ z=>by cases z);rcases List.mem_append.mp m with m|m
           · exact(tp6.rs y m).bp p6 B7
           · rw[List.mem_singleton.mp m];exact R7
         · rcases List.mem_append.mp m with m|m
           · exact tp6.good y m
           · rw[List.mem_singleton.mp m];exact good
         · rw[List.map_append,ek,List.take_add_one (i:=j),hx];rfl
       · rintro σ H6 ⟨s5,ps,rfl,S6,p6,hq6,hl6,ht6,tp6,ek⟩;rw[List.length_map,List.take_length]at ek;exact hN _ _ ⟨s5,ps,n,rfl,S6,p6,hq6,ht6,tp6,ek,n0',n3'⟩
     rintro _ H6 ⟨s5',ps,n,rfl,S6,p6,hq6,ht6,tp6,ek,hn0,hn3⟩
     have lps:ps.length=n:=by
       have:=congrArg List.length ek
       rw[List.length_map,List.length_take]at this;omega
     have ndk:(ps.map (·.1)).Nodup:=by rw[ek];exact nms.nd.sublist (List.take_sublist _ _)
     have nmk:∀ x∈ps,zC (.str x.1)=true:=fun x m=>nms.nm _ (List.mem_of_mem_take (ek▸List.mem_map_of_mem (f:=fun x:Str×Addr×List (Int×Int)=>x.1) m));have td7:TdI H6 ps:=⟨tp6.rs,tp6.good,nmk,ndk,by omega,by omega⟩
     have L7:Lz a H2 H6 p q tb nsm ps:=⟨Same.nt S6,tb2.same S6,p6,hq6,ht6,td7⟩
     clear td7 ht6 hq6 p6 tp6;obtain⟨x0,g0,h0,ok0⟩:=qi5 0 nms lq (by decide)
     obtain⟨w0,mw0,ew0⟩:∃ w∈ps,w.1=x0:=by
       have:x0∈ps.map (·.1):=by
         rw[ek];exact List.mem_of_getElem? (i:=0) (by rw[List.getElem?_take,if_pos hn0];exact g0)
       obtain⟨w,mw,ew⟩:=List.mem_map.mp this;exact⟨w,mw,ew⟩
     obtain⟨zw,hzw,tzw⟩:=L7.d.2.rs w0 mw0;have gw:=L7.d.2.good w0 mw0
     obtain⟨lw,elw⟩:∃ l,w0.2.2.getLast?=some l:=by
       obtain⟨n9,h9⟩:=gw.fst
       cases e:w0.2.2.getLast? with
       | none=>rw[List.getLast?_eq_none_iff.mp e]at h9;cases h9
       | some l=>exact⟨l,rfl⟩
     obtain⟨t0,hz0,ht0⟩:=TupL.last tzw elw;have bl:=gw.ok lw (List.mem_of_getLast? elw);have gt:=L7.d.td.get mw0;rw[ew0]at gt;have e9:(10:Int) ^ (9:Int).toNat=1000000000:=by decide
     refine⟨_,_,rfl,rfl,⟨by decide,by decide,by decide⟩,_,rfl,_,rfl,.inl ⟨q,_,_,_,rfl,rfl,SqL.of L7.q,h0,tb,_,rfl,gt,_,rfl,.inl ⟨w0.2.1,_,_,_,rfl,rfl,SqL.of hzw,QE hz0,.inr (.inl ⟨t0,_,_,_,rfl,rfl,SqT.of ht0,rfl,_,rfl,p,_,rfl,L7.p,by decide,by decide,fun dm G8 dm0 dm1 B8 p8=>.inl ⟨_,_,rfl,rfl,_,_,rfl,?_⟩⟩)⟩⟩⟩;have L8:=L7.bp B8 p8 fp;rw[e9];obtain⟨mo,emo,mo0,mo1⟩:∃ mo:Int,(if lw.1+dm < 1000000000 then lw.1+dm else 1000000000)=mo∧0≤mo∧mo≤1000000000:=⟨_,rfl,by split<;>omega,by split<;>omega⟩
     have emo':=emo
     first|rw[emo]|(dsimp only;rw[emo])
     clear hzw tzw ht0 hz0 gt emo;have SH8:Same H2 G8:=fun b o e=>B8 b o (S6 b o e) (qi e fp);have lpf:ps.length≤4:=by omega
     try unfold qJ
     try dsimp only
     refine fun x dx fx fdx nex=>⟨x,dx,rfl,qd,fun td ed bl G9 B9 ftd fed fbl L9=>⟨rfl,?_⟩⟩
     have S0:Same G8 G9:=zg fx fdx B9
     have upf0:∀ b,(upd (upd G8 dx (.own x)) x (.ins a.c_Log dx [])) b=none->G8 b=none:=fun b h=>by
       cases e:G8 b with
       | none=>rfl
       | some o=>rw[up2 fx fdx _ _ e]at h;cases h
     have ftd:=upf0 _ ftd;have fed:=upf0 _ fed;clear upf0 fbl B9 L7 B8 S6 p8;(try unfold qJ);(try dsimp only);refine qR (t:=qhC _) (fun σ' G8'=>∃ (s6:Option V) (us:Pls),σ'=[some (.ref sa),some (.int (0+(i:Int))),some (.ref p),some (.ref q),some (.ref tb),s6,some (.int mo),some (.ref x),s8,s9]∧Same G8 G8'∧Tbs a G8'∧Lk a G8' x td ed bl us []∧us.map key=ps.map key) (fun N hN=>?_) ?_
     · refine⟨tb,_,S0 _ _ L8.d.1,fun ob=>?_⟩;have ntb:td≠tb:=fun z=>by rw[z,L8.d.1]at ftd;cases ftd
       have etb:ed≠tb:=fun z=>by rw[z,L8.d.1]at fed;cases fed
       have Sf:Same (upd G8 tb (.frz ob (.dK (dkv ps)))) (upd G9 tb (.frz ob (.dK (dkv ps)))):=fun c o e=>by
         by_cases z:c=tb
         · subst z;rw[qd]at e ⊢;exact e
         · rw[qh z]at e ⊢;exact S0 _ _ e
       have ef:(upd G8 tb (.frz ob (.dK (dkv ps)))) tb=some (.frz ob (.dK (dkv ps))):=qd;have ftf:(upd G8 tb (.frz ob (.dK (dkv ps)))) td=none:=by rw[qh ntb];exact ftd
       have tdi:TdI (upd G8 tb (.frz ob (.dK (dkv ps)))) ps:=TdI.upd L8.d.2 L8.d.1 _;have tb0:Tbs a (upd G9 tb (.frz ob (.dK (dkv ps)))):=(L8.t.same S0).upd (S0 _ _ L8.d.1) (fun _ z=>nomatch z) (fun _ z=>nomatch z) _;have back:∀ {G8':Hp},Same (upd G8 tb (.frz ob (.dK (dkv ps)))) G8'->Same G8 (upd G8' tb (.dK (dkv ps))):=fun s=>qde L8.d.1 s
       have L0:Lk a (upd G9 tb (.frz ob (.dK (dkv ps)))) x td ed bl [] []:=by
         have hx:=L9.hx;refine⟨⟨let ⟨dx,e⟩:=hx;⟨dx,by rw[qh (qW e (S0 _ _ L8.d.1) (fun z=>nomatch z))];exact e⟩,by rw[qh ntb];exact L9.ht,by rw[qh etb];exact L9.he,by rw[qh (qW L9.hb (S0 _ _ L8.d.1) (fun z=>nomatch z))];exact L9.hb,L9.ne,L9.ndt,L9.nde⟩,fun u m=>nomatch m⟩
       clear L9;generalize upd G9 tb (.frz ob (.dK (dkv ps)))=Gf at Sf tb0 L0 ⊢;generalize upd G8 tb (.frz ob (.dK (dkv ps)))=Hf at Sf ef ftf tdi back;refine⟨_,rfl,tb,ob,_,rfl,Sf _ _ ef,qeM (a:=tb) (ob:=ob) (kvs:=dkv ps) (D:=loan tb ob (dkv ps) { nx:=N,rt:=_ }) (fun j σ G8'=>∃ (s6:Option V) (us:Pls),σ=[some (.ref sa),some (.int (0+(i:Int))),some (.ref p),some (.ref q),some (.ref tb),s6,some (.int mo),some (.ref x),s8,s9]∧Same Hf G8'∧Tbs a G8'∧Lk a G8' x td ed bl us []∧us.map key=(ps.take j).map key) ⟨_,[],rfl,Sf,tb0,L0,rfl⟩ (fun j σ G8' _ ⟨_,_,_,S',_⟩=>S' _ _ ef) ?_ ?_⟩
       · rintro j k y σ H1 hk ⟨s6,us,rfl,S1,tb1,L1,ek⟩
         obtain⟨t,ht',ex⟩:∃ t,ps[j]?=some t∧((.inr t.1:Key),V.ref t.2.1)=(k,y):=by
           unfold dkv at hk;rw[List.getElem?_map]at hk;exact Option.map_eq_some_iff.mp hk
         cases ex;have mt:=List.mem_of_getElem? ht';have il:=(List.getElem?_eq_some_iff.mp ht').1;have tdk:Td H1 tb ps:=⟨.inr ⟨ob,S1 _ _ ef⟩,⟨fun u m=>(tdi.rs u m).same S1,tdi.good,tdi.nm,tdi.nd,tdi.ne,tdi.few⟩⟩
         obtain⟨kz,hkz,tkz⟩:=tdk.2.rs t mt;have good:=tdi.good t mt
         have lus:us.length=j:=by
           have:=congrArg List.length ek
           rw[List.length_map,List.length_map,List.length_take]at this;omega
         have kn:us.map (·.1)=(ps.take j).map (·.1):=ZP ek
         have nin:t.1∉(tv us).map (·.1):=by
           rw[QF,kn];intro m;rw[List.map_take]at m;obtain⟨i,hi⟩:=List.getElem?_of_mem m;have jl:=(List.getElem?_eq_some_iff.mp hi).1;rw[List.length_take]at jl;rw[List.getElem?_take_of_lt (by omega)]at hi;have h2:(ps.map (·.1))[j]?=some t.1:=by rw[List.getElem?_map,ht'];rfl
           obtain⟨q1,q2⟩:=List.getElem?_eq_some_iff.mp hi;obtain⟨q3,q4⟩:=List.getElem?_eq_some_iff.mp h2
           have:=(List.getElem_inj tdi.nd).mp (q2.trans q4.symm)
           omega
         obtain⟨dx',hx'⟩:=L1.lo.hx;refine⟨_,rfl,x,dx',_,rfl,hx',rfl,_,rfl,_,rfl,_,rfl,tb,_,rfl,tdk.get mt,t.2.1,_,rfl,.inl (SqL.of hkz),fun rq frq=>?_⟩;generalize hG:upd H1 rq _=A1;obtain⟨u1,e1⟩:=qC hG frq;clear hG;refine fun y dy fy fdy ney=>⟨y,dy,rq,t.2.2,rfl,qd,Rs.same ⟨kz,e1,tkz.same u1⟩ (up2 fy fdy),good,fun A2 BY tby=>⟨rfl,?_⟩⟩
         have SA:=u1.trans (zg fy fdy BY);have LA:=L1.nt (Same.nt SA);refine⟨x,td,ed,bl,tv us,[],[],t.1,.ref y,rfl,LA.lo,tdi.nm t mt,.inl ⟨nin,by rw[List.length_map];omega,fun A3 BT L3=>?_⟩⟩;refine⟨_,us++[(t.1,y,t.2.2)],rfl,fun b o e=>BT _ _ ((S1.trans SA) _ _ e) (qi e ftf),(tb1.same SA).but BT LA.lo.ht (fun _ z=>nomatch z) (fun _ z=>nomatch z),⟨?_,fun u m=>?_⟩,?_⟩
         · have:tv (us++[(t.1,y,t.2.2)])=tv us++[(t.1,V.ref y)]:=List.map_append
           rw[this];exact L3
         · rcases List.mem_append.mp m with m|m
           · exact(LA.tt u m).butD BT LA.lo.ht
           · rw[List.mem_singleton.mp m];exact tby.butD BT LA.lo.ht
         · rw[List.map_append,ek,jz ht',List.map_append];rfl
       · rintro σ H1 ⟨s6,us,rfl,S1,tb1,L1,ek⟩;unfold dkv at ek;rw[List.length_map,List.take_length]at ek;have e1:=S1 _ _ ef;exact⟨e1,hN _ _ ⟨_,us,rfl,back S1,tb1.upd e1 (fun _ z=>nomatch z) (fun _ z=>nomatch z) _,L1.upd e1 _,ek⟩⟩
     rintro _ G10 ⟨s5,us,rfl,S10,tb10,L10,ek2⟩;have Z10:=L8.nt (Same.nt S10) tb10;have ntt:tb≠td:=fun z=>by rw[← z,L8.d.1]at ftd;cases ftd
     have nte:tb≠ed:=fun z=>by rw[← z,L8.d.1]at fed;cases fed
     clear S0 L9 tb10 L8;(try unfold qJ);(try dsimp only);refine fun pd fpd=>?_;generalize hG:upd G10 pd _=G11;obtain⟨S11,e11⟩:=qC hG fpd;clear hG;have npt:pd≠tb:=fun z=>by rw[z,Z10.d.1]at fpd;cases fpd
     have npd:pd≠td:=fun z=>by rw[z,L10.lo.ht]at fpd;cases fpd
     have npe:pd≠ed:=fun z=>by rw[z,L10.lo.he]at fpd;cases fpd
     have f2:H2 pd=none∧H2 td=none∧H2 ed=none:=⟨(SH8.trans S10).none fpd,SH8.none ftd,SH8.none fed⟩
     have Z11:=Z10.sm S11;have V11:Lv a G11 x td ed bl pd ps us [] []:=⟨L10.nt (Same.nt S11),e11,fun q m=>nomatch m⟩
     clear Z10 L10 S10 S11 e11 ftd fed SH8 fpd;(try unfold qJ);(try dsimp only);have kn2:us.map (·.1)=ps.map (·.1):=ZP ek2;refine qR (t:=qfH _ _ _) (fun σ' H'=>∃ (s9:Option V) (en:List (Str×V)) (qs:List PlE),σ'=[some (.ref sa),some (.int (0+(i:Int))),some (.ref p),some (.ref q),some (.ref tb),s5,some (.int mo),some (.ref x),some (.ref pd),s9]∧Lz a H2 H' p q tb nsm ps∧Lv a H' x td ed bl pd ps us en qs) (fun N hN=>?_) ?_
     · refine⟨_,rfl,_,rfl,_,rfl,p,_,rfl,Z11.p,by decide,by decide,fun m G12 m0 m1 B12 p12=>.inl ⟨_,_,rfl,rfl,_,rfl,.inl ⟨q,_,rfl,SqL.of (B12 _ _ Z11.q Z11.nq),fun l fl=>?_⟩⟩⟩;obtain⟨wv,hwv,swv⟩:∃ wv:List Str,qcw (nsm.map V.str) (some 4) (some (5+m))=wv.map V.str∧wv.Sublist nsm:=⟨_,by unfold qcw;rw[← List.map_drop,← List.map_take],(List.take_sublist _ _).trans (List.drop_sublist _ _)⟩
       rw[hwv];generalize hG:upd G12 l _=G13;obtain⟨S13,e13⟩:=qC hG fl;clear hG;have Z13:=(Z11.bp B12 p12 fp).sm S13;have V13:=(V11.bp Z11.p B12).nt (Same.nt S13);have ndw:=nms.nd.sublist swv;have lw12:wv.length≤12:=by have:=swv.length_le;omega
       clear S13 B12 p12 fl hwv Z11 V11;refine⟨l,rfl,⟨_,SqL.of e13⟩,zI (D:={ nx:=N,rt:=_ }) (K:=K) (a:=l) (xs:=wv.map V.str) (fun j σ H'=>∃ (s9:Option V) (en:List (Str×V)) (qs:List PlE),σ=[some (.ref sa),some (.int (0+(i:Int))),some (.ref p),some (.ref q),some (.ref tb),s5,some (.int mo),some (.ref x),some (.ref pd),s9]∧Lz a H2 H' p q tb nsm ps∧Lv a H' x td ed bl pd ps us en qs∧H' l=some (.lst (wv.map V.str))∧qs.map (·.1)=wv.take j∧en.map (·.1)=wv.take j) ⟨_,[],[],rfl,Z13,V13,e13,rfl,rfl⟩ (fun j σ H' _ ⟨_,_,_,_,_,_,h,_⟩=>SqL.of h) ?_ ?_⟩
       · rintro j z σ H6 hz ⟨s9,en,qs,rfl,Z6,V6,hl6,ek6,en6⟩
         obtain⟨nm,hx,rfl⟩:∃ nm,wv[j]?=some nm∧V.str nm=z:=by
           rw[List.getElem?_map]at hz;exact Option.map_eq_some_iff.mp hz
         have oknm:=nms.nm nm (swv.subset (List.mem_of_getElem? hx));have nqs:nm∉qs.map (·.1):=by rw[ek6];exact qcj ndw hx
         have nen:nm∉en.map (·.1):=by rw[en6];exact qcj ndw hx
         have lqs:qs.length≤12:=by
           have:=congrArg List.length ek6
           rw[List.length_map,List.length_take]at this;omega
         have lens:en.length≤12:=by
           have:=congrArg List.length en6
           rw[List.length_map,List.length_take]at this;omega
         refine⟨_,rfl,_,rfl,_,rfl,tb,_,rfl,.inl Z6.d.1,fun lt flt=>?_⟩;rw[qlw];generalize hG:upd H6 lt _=H7;obtain⟨S7,e7⟩:=qC hG flt;clear hG;have Z7:=Z6.sm S7;have V7:=V6.nt (Same.nt S7);have hl7:=S7 _ _ hl6;refine⟨_,rfl,_,rfl,p,lt,tb,nm,ps,mo,rfl,Z7.p,oknm,e7,Z7.d.td,⟨mo0,mo1⟩,fun pa S sv G fpa B pG pl hp=>?_⟩;have ZG:=Z7.bp B pG fp;have VG:=V7.bp Z7.p B;have hlG:=B _ _ hl7 (qaC Z7.p hl7 (qiJ _));clear Z6 V6 hl6 Z7 V7 hl7 S7 B e7 flt fpa pG;refine⟨_,rfl,_,rfl,pd,_,rfl,DPut.k (k:=.inr nm) VG.d (by unfold pkv;rw[List.length_map];exact Nat.lt_of_lt_of_le (by omega:qs.length < 60) (qo (by decide:60≤1000))),?_⟩;rw[show JM (pkv qs) (.inr nm) (V.ref pa)=pkv (qs++[(nm,pa,S,sv)]) from qk0 (q:=(nm,pa,S,sv)) nqs];generalize hG:upd G pd _=H8;have B8:But pd G H8:=by rw[← hG];exact(But.refl _ _).put _
         have e8:H8 pd=some (.dK (pkv (qs++[(nm,pa,S,sv)]))):=by rw[← hG];exact qd
         clear hG;have Z8:=ZG.dk VG.d B8 f2.1 (Ne.symm npt);have K8:=VG.k.dk VG.d B8 (Ne.symm npd) (Ne.symm npe);have ok8:=fun q m=>(VG.ok q m).dk VG.d B8;have pl8:=pl.dk VG.d B8;have hl8:=B8 _ _ hlG (qW hlG VG.d (fun z=>nomatch z));clear ZG VG B8 hlG pl;have ek8:(qs++[(nm,pa,S,sv)]).map (·.1)=wv.take (j+1):=by rw[List.map_append,ek6,jz hx];rfl
         have nd8:((qs++[(nm,pa,S,sv)]).map (·.1)).Nodup:=by rw[ek8];exact ndw.sublist (List.take_sublist _ _)
         obtain⟨dx8,hx8⟩:=K8.lo.hx;(try unfold qJ);(try dsimp only);refine⟨_,rfl,x,dx8,_,rfl,hx8,rfl,_,rfl,_,rfl,_,rfl,pd,_,rfl,.inl ⟨_,.inr nm,.inl e8,rfl,(qkZ nd8 (nm,pa,S,sv) (List.mem_append.mpr (.inr List.mem_cons_self))).symm⟩,pa,nm,S,sv,rfl,pl8,Z8.t,fun y H9 n9 t9 en9=>?_⟩;have L9:=K8.nt n9;have Z9:=Z8.nt n9 t9;have he9:=L9.lo.he;have hall:∀ s∈(J2 S sv).all,s∈us.map (·.1):=by rw[kn2];exact qgH pl8.n1 pl8.sp hp
         refine⟨x,td,ed,bl,tv us,en,[],y,nm,J2 S sv,rfl,L9.lo,en9,(by rw[QF];exact hall),nen,by omega,fun H10 B10 L10=>?_⟩;refine⟨_,en++[(nm,V.ref y)],qs++[(nm,pa,S,sv)],rfl,Z9.dk he9 B10 f2.2.2 nte,⟨⟨L10,fun u m=>(L9.tt u m).butD B10 he9⟩,B10 _ _ (n9 _ _ e8 (fun _ z=>nomatch z)) npe,fun q m=>?_⟩,B10 _ _ (n9 _ _ hl8 (fun _ z=>nomatch z)) (qW (n9 _ _ hl8 (fun _ z=>nomatch z)) he9 (fun z=>nomatch z)),ek8,by rw[List.map_append,en6,jz hx];rfl⟩;rcases List.mem_append.mp m with m|m
         · obtain⟨h1,h2,y',h3,h4⟩:=((ok8 q m).nt n9).dk he9 B10;exact⟨h1,h2,y',List.mem_append.mpr (.inl h3),h4⟩
         · rw[List.mem_singleton.mp m];exact⟨(pl8.nt n9).dk he9 B10,hp,y,List.mem_append.mpr (.inr List.mem_cons_self),en9.butD B10 he9⟩
       · rintro σ H6 ⟨s9,en,qs,rfl,Z6,V6,_⟩;exact hN _ _ ⟨_,en,qs,rfl,Z6,V6⟩
     clear Z11 V11;rintro _ H12 ⟨s9',en,qs,rfl,Z12,V12⟩;(try unfold qJ);(try dsimp only);refine⟨_,rfl,_,rfl,_,rfl,_,rfl,_,rfl,_,rfl,p,tb,ps,mo,rfl,Z12.p,Z12.d,⟨mo0,mo1⟩,fun mq13 ms13 G13 fmq13 B13 pG13 emq13 m013 m1813 mbd13=>?_⟩;have ZG13:=Z12.bp B13 pG13 fp;have VG13:=V12.bp Z12.p B13;refine⟨x,td,ed,bl,pd,tb,mq13,us,ps,en,qs,ms13,rfl,VG13.k,ek2,ZG13.d,VG13.d,⟨npt,npd,npe⟩,VG13.ok,emq13,m013,m1813,mbd13,ZG13.t,fun H13 n13 t13=>⟨true,rfl,qT rfl ?_⟩⟩;have Z13:=ZG13.nt n13 t13;have V13:=VG13.nt n13;clear ZG13 VG13 Z12 V12 B13 pG13 emq13 mbd13;(try unfold qJ);(try dsimp only);refine⟨_,rfl,p,_,rfl,Z13.p,by decide,by decide,fun d G14 d0 d1 B14 p14=>?_⟩;have V14:=V13.bp Z13.p B14;have Z14:=Z13.bp B14 p14 fp;clear Z13 V13 B14;refine .inl ⟨rfl,_,rfl,zT (fun g1=>?_) (fun g1=>⟨_,_,_,_,_,_,_,_,_,rfl,qkH hS2 (fun o e nt=>Z14.n _ _ e nt),Z14.t⟩)⟩;refine⟨_,rfl,_,rfl,_,rfl,tb,_,rfl,Z14.d.1,p,_,rfl,Z14.p,(by unfold dkv;rw[List.length_map];have:=Z14.d.2.ne;omega),(by unfold dkv;rw[List.length_map];omega),fun e G15 e0 e1 B15 p15=>?_⟩;have e1':e < (ps.length:Int):=by unfold dkv at e1;rw[List.length_map]at e1;exact e1
     clear e1;obtain⟨dn,rfl⟩:=Int.eq_ofNat_of_zero_le e0;obtain⟨pl,hpl,hix,okpl⟩:=qi5 dn nms lq (by omega)
     have pin:pl∈ps.map (·.1):=by
       rw[ek];exact List.mem_of_getElem? (i:=dn) (by rw[List.getElem?_take,if_pos (by omega)];exact hpl)
     refine .inl ⟨q,_,_,_,rfl,rfl,SqL.of (B15 _ _ Z14.q Z14.nq),hix,?_⟩;have V15:=V14.bp Z14.p B15;have Z15:=Z14.bp B15 p15 fp;clear Z14 V14 B15;(try unfold qJ);(try dsimp only);refine⟨_,rfl,p,rfl,Z15.p,fun rq rows G16 frq B16 p16 R16 good=>?_⟩;have V16:=V15.bp Z15.p B16;have Z16:=Z15.bp B16 p16 fp;clear Z15 V15 B16;refine⟨_,rfl,_,rfl,tb,_,rfl,DPut.k (k:=.inr pl) Z16.d.1 (by unfold dkv;rw[List.length_map];exact Nat.lt_of_lt_of_le (by omega:ps.length < 60) (qo (by decide:60≤1000))),?_⟩;rw[show JM (dkv ps) (.inr pl) (V.ref rq)=dkv (JU ps pl rq rows) from by rw[qjg,qew rq rows pin,← qjg]];generalize hG:upd G16 tb _=G17;have B17:But tb G16 G17:=by rw[← hG];exact(But.refl _ _).put _
     have e17:G17 tb=some (.dK (dkv (JU ps pl rq rows))):=by rw[← hG];exact qd
     clear hG;have sn:(JU ps pl rq rows).map (·.1)=ps.map (·.1):=qbr _ _ _ _
     have tdi:TdI G17 (JU ps pl rq rows):=by
       have t0:=Z16.d.2.dk Z16.d.1 B17;refine⟨fun u m=>?_,fun u m=>?_,fun u m=>?_,by rw[sn];exact t0.nd,by unfold JU;rw[List.length_map];exact t0.ne,by unfold JU;rw[List.length_map];exact t0.few⟩
       · rcases J4 m with ⟨rfl,_⟩|⟨m,_⟩
         · exact qlV R16 Z16.d.1 B17
         · exact t0.rs u m
       · rcases J4 m with ⟨rfl,_⟩|⟨m,_⟩
         · exact good
         · exact t0.good u m
       · rcases J4 m with ⟨rfl,_⟩|⟨m,_⟩
         · exact okpl
         · exact t0.nm u m
     have Z17:Lz a H2 G17 p q tb nsm (JU ps pl rq rows):=⟨fun c o e1 k=>B17 _ _ (Z16.n _ _ e1 k) (qi e1 ftb2),Z16.t.but B17 Z16.d.1 (fun _ z=>nomatch z) (fun _ z=>nomatch z),let ⟨c,x,y,d,e1⟩:=Z16.p;⟨c,x,y,d,B17 _ _ e1 (qW e1 Z16.d.1 (fun z=>nomatch z))⟩,B17 _ _ Z16.q (qW Z16.q Z16.d.1 (fun z=>nomatch z)),⟨e17,tdi⟩⟩
     have V17:Lv a G17 x td ed bl pd (JU ps pl rq rows) us en qs:=⟨V16.k.dk Z16.d.1 B17 (Ne.symm ntt) (Ne.symm nte),B17 _ _ V16.d npt,fun q m=>by rw[sn];exact(V16.ok q m).dk Z16.d.1 B17⟩
     clear Z16 V16 B17 tdi e17 R16 frq;(try unfold qJ);(try dsimp only);have min_:=qjJ (us:=ps) rq rows pin;obtain⟨kz,hkz,tkz⟩:=Z17.d.2.rs _ min_;obtain⟨dx17,hx17⟩:=V17.k.lo.hx;refine⟨_,rfl,x,dx17,_,rfl,hx17,rfl,_,rfl,_,rfl,_,rfl,tb,_,rfl,Z17.d.td.get min_,rq,_,rfl,.inl (SqL.of hkz),fun r2 fr2=>?_⟩;generalize hG:upd G17 r2 _=G18;obtain⟨S18,e18⟩:=qC hG fr2;clear hG;refine fun y dy fy fdy ney=>⟨y,dy,r2,rows,rfl,qd,Rs.same ⟨kz,e18,tkz.same S18⟩ (up2 fy fdy),good,fun G19 BY tby=>⟨rfl,?_⟩⟩
     have S19:Same G17 G19:=S18.trans (zg fy fdy BY);have Z19:=Z17.sm S19;have V19:=V17.nt (Same.nt S19);clear Z17 V17 S19 BY S18 e18 hkz tkz
     have us4:us.length≤4:=by
       have:=congrArg List.length kn2
       rw[List.length_map,List.length_map]at this;omega
     have pin2:pl∈us.map (·.1):=by rw[kn2];exact pin
     refine⟨x,td,ed,bl,tv us,en,[],pl,.ref y,rfl,V19.k.lo,okpl,.inr ⟨tv (JU us pl y rows),(by rw[QF];exact pin2),(by rw[List.length_map];omega),qew y rows pin2,(by rw[QF,QF];exact qbr _ _ _ _),fun G20 BT LT=>?_⟩⟩;have Z20:=Z19.dk V19.k.lo.ht BT f2.2.1 ntt
     have V20:Lv a G20 x td ed bl pd (JU ps pl rq rows) (JU us pl y rows) en qs:=by
       refine⟨⟨LT,fun u m=>?_⟩,BT _ _ V19.d npd,fun q m=>(V19.ok q m).dk V19.k.lo.ht BT⟩;rcases J4 m with ⟨rfl,_⟩|⟨m,_⟩
       · exact tby.butD BT V19.k.lo.ht
       · exact(V19.k.tt u m).butD BT V19.k.lo.ht
     have ek3:=qke ek2 pl y rq rows
     clear Z19 V19 BT LT tby;(try unfold qJ);(try dsimp only);refine⟨_,rfl,_,rfl,_,rfl,_,rfl,_,rfl,_,rfl,p,tb,(JU ps pl rq rows),mo,rfl,Z20.p,Z20.d,⟨mo0,mo1⟩,fun mq21 ms21 G21 fmq21 B21 pG21 emq21 m021 m1821 mbd21=>?_⟩;have ZG21:=Z20.bp B21 pG21 fp;have VG21:=V20.bp Z20.p B21;refine⟨x,td,ed,bl,pd,tb,mq21,(JU us pl y rows),(JU ps pl rq rows),en,qs,ms21,rfl,VG21.k,ek3,ZG21.d,VG21.d,⟨npt,npd,npe⟩,VG21.ok,emq21,m021,m1821,mbd21,ZG21.t,fun G21 n21 t21=>⟨true,rfl,qT rfl ?_⟩⟩;have Z21:=ZG21.nt n21 t21;have V21:=VG21.nt n21;clear ZG21 VG21 Z20 V20 B21 pG21 emq21 mbd21;exact⟨_,_,_,_,_,_,_,_,_,rfl,qkH hS2 (fun o e nt=>Z21.n _ _ e nt),Z21.t⟩
   · rintro σ H2 ⟨s1,s2,s3,s4,s5,s6,s7,s8,s9,rfl,_,_⟩;exact kk H2
end
theorem len_0 {p:List Value->Prop} (h:p []):∀ us:List Value,us.length=0->p us:=fun us hl=>by
 cases us with
 | nil=>exact h
 | cons a t=>cases hl
theorem len_1 {p:List Value->Prop} (h:∀ a,p [a]):∀ us:List Value,us.length=1->p us:=fun us hl=>by
 cases us with
 | nil=>cases hl
 | cons a t=>exact len_0 (p:=fun t=>p (a::t)) (h a) t (Nat.succ.inj hl)
theorem len_2 {p:List Value->Prop} (h:∀ a b,p [a,b]):∀ us:List Value,us.length=2->p us:=fun us hl=>by
 cases us with
 | nil=>cases hl
 | cons a t=>exact len_1 (p:=fun t=>p (a::t)) (h a) t (Nat.succ.inj hl)
theorem len_3 {p:List Value->Prop} (h:∀ a b c,p [a,b,c]):∀ us:List Value,us.length=3->p us:=fun us hl=>by
 cases us with
 | nil=>cases hl
 | cons a t=>exact len_2 (p:=fun t=>p (a::t)) (h a) t (Nat.succ.inj hl)
theorem len_4 {p:List Value->Prop} (h:∀ a b c d,p [a,b,c,d]):∀ us:List Value,us.length=4->p us:=fun us hl=>by
 cases us with
 | nil=>cases hl
 | cons a t=>exact len_3 (p:=fun t=>p (a::t)) (h a) t (Nat.succ.inj hl)
theorem len_5 {p:List Value->Prop} (h:∀ a b c d e,p [a,b,c,d,e]):∀ us:List Value,us.length=5->p us:=fun us hl=>by
 cases us with
 | nil=>cases hl
 | cons a t=>exact len_4 (p:=fun t=>p (a::t)) (h a) t (Nat.succ.inj hl)
theorem mkDf {K:Frag}{h:Heap}{mg:Str->Option Value} (X:K.In h) (G:h.Ns mainGlobals mg) {x:Str}{st:Stmt}{ps:List Str}{f:Addr}{oc:Value}{od an:Option Addr}{osl:Array (Option Value)}{kV doc pm cdv ct:Value} (a:nsIn K mainGlobals x=some (some (.ref f))) (l:K.lookup f=some ⟨oc,od,.func (fnOf x x (QJ st) (zK st) (qg st) .none kV doc pm an cdv ct),osl⟩) (c:codeIn K cdv x=true) (k:keepIn K (.ref f)=true) (hb:∀ (kV doc pm:Value) (an:Option Addr) (cdv ct:Value) (us:List Value),us.length=ps.length->bindArgs (fnOf x x (QJ st) (zK st) (qg st) .none kV doc pm an cdv ct) ⟨us,[]⟩=pure (ps.zip us)):Df K mg x st ps f (fnOf x x (QJ st) (zK st) (qg st) .none kV doc pm an cdv ct):=⟨qeL l c k,(qeL l c k).binds hb,PySem.W.mg_of X G a,k⟩
theorem mkDm {K:Frag}{C:Addr}{x q:Str}{st:Stmt}{ps:List Str}{f:Addr}{oc:Value}{od an:Option Addr}{osl:Array (Option Value)}{kV doc pm cdv ct:Value} (m:qho K C x f) (l:K.lookup f=some ⟨oc,od,.func (fnOf x q (QJ st) (zK st) (qg st) .none kV doc pm an cdv ct),osl⟩) (c:codeIn K cdv q=true) (k:keepIn K (.ref f)=true) (hb:∀ (kV doc pm:Value) (an:Option Addr) (cdv ct:Value) (us:List Value),us.length=ps.length->bindArgs (fnOf x q (QJ st) (zK st) (qg st) .none kV doc pm an cdv ct) ⟨us,[]⟩=pure (ps.zip us)):DfM K C x q st ps f (fnOf x q (QJ st) (zK st) (qg st) .none kV doc pm an cdv ct):=⟨qeL l c k,(qeL l c k).binds hb,m⟩
theorem all2 {l:PySem.W.OpenLaw}{w:World}{K:Frag}{h:Heap}{mg:Str->Option Value}{fa:Addr} (X:K.In h) (G:h.Ns mainGlobals mg) (hfa:mg "law"=some (.ref fa)) {a:Ad} (T:Txt K mg a)
   : ∃ fd:FuncData,(∀ (s:Shared) (v:Value),BindsTo s fd ⟨[v],[]⟩ [("_law_script",v)])∧∀ base:Heap,K.In base->base.Ns mainGlobals mg->qeX mg base->qy l.prog w K mg base CX0 13 fa fd ["_law_script"] (qhx K a.t_on_days a.t_daily):=by
 have e:=hfa.symm.trans T.d_am.m;obtain⟨oc,od,kV,doc,pm,an,cdv,ct,osl,e2,lk,hcd⟩:=T.d_am.F.ex;cases e;exact⟨a.fd_am,fun s v=>by rw[e2];exact .of_eq rfl,fun base _ _ hB=>qk8 T hB⟩
theorem walk {l:PySem.W.OpenLaw}{q:Program}{loose:List Str}{XP:(Str->Option Value)->Heap->Prop}{YP:World->Heap->Prop}{d:DefRec}{K:Params->Frag}{t0 t1:Addr} (hn:l.most=some 63) (hdf:d.params.defaults=[])
   (hY:∀ (w:World) (h:Heap),YP w h->(K w.params).In h∧(∀ u∈[t0,t1],h.get? u=some (PySem.W.tabObj #[]))∧(∀ u∈[t0,t1],isCodeTable h u)∧∀ u∈[t0,t1],(K w.params).lookup u=none)
   (F:∀ (w:World) (mg:Str->Option Value) (fa:Addr) (h:Heap),(K w.params).In h->h.Ns mainGlobals mg->mg d.name=some (.ref fa) ->
     ∃ fd:FuncData,(∀ (s:Shared) (u:Value),BindsTo s fd ⟨[u],[]⟩ [("_law_script",u)])∧∀ base:Heap,(K w.params).In base->base.Ns mainGlobals mg->qeX mg base->qy l.prog w (K w.params) mg base CX0 13 fa fd ["_law_script"] (qhx (K w.params) t0 t1)) :
   PySem.W.WalkO q loose XP YP l.row.toRowW d [] (fun f vs=>PySem.call f vs) :=
 L2.walk_ofT (ts:=[t0,t1]) (n:=63) (k:=13) (x:="_law_script") (CX:=fun _=>CX0) (sp:=fun w=>qhx (K w.params) t0 t1) hn (by decide) hdf ⟨rfl,by decide,by decide,rfl⟩ hY F (fun _ _ a ns hl _ hT hS=>⟨a,ns,rfl,hS,hl,⟨qmo (hT t0 (by simp)),qmo (hT t1 (by simp))⟩,fun _=>rfl⟩) fun _ _ _ _ _ z=>z
end K39
open PySem PySem.W PyProof.Rows
namespace PySem.W.Fast
def tw10202276479530840493:=0
def tw10823374439123632057:=0
def tw14038501644952371520:=0
def tw18355449808162016320:=0
def tw10779343777126052109:=0
def tw11566636276077327414:=0
def tw16683565606322105275:=0
def tw6491280921508943924:=0
def tw348735875135926230:=0
def tw2448973352112986769:=0
def tw5943363949536578045:=0
def tw5169299858927612161:=0
def tw7711277627472006688:=0
def tw5270286366090004080:=0
def tw18339309748194254743:=0
def tw17651426299268342886:=0
def tw9118902338554492018:=0
def tw11247912261499953353:=0
def tw1247794160030270551:=0
def tw4503586133586779697:=0
def tw4020798870051949365:=0
def tw3553130483601872444:=0
def tw84609984238467679:=0
def tw17294722358439781649:=0
def tw6598035456540902128:=0
def tw3121932324618171571:=0
def tw3712604978804432709:=0
def tw116892976962280924:=0
def tw6272671672217381320:=0
def tw6971930824352712219:=0
def tw15911468053123275890:=0
def tw1670719559407101803:=0
def tw10154527911064990329:=0
def tw10431338745022758806:=0
def tw18234957113305998878:=0
def tw15763769075421523795:=0
def tw13934023413298285098:=0
def tw16847413895076915405:=0
def tw148748538989801225:=0
def tw17365805617083981909:=0
def tw10862551434293812025:=0
def tw7204947702816532005:=0
def tw4341841663439092784:=0
def tw4664842743133309067:=0
def tw6437884843792365326:=0
def tw11079716084100459769:=0
def tw11945443447617190939:=0
def tw10648979125870369310:=0
def tw9545806342198778909:=0
def tw10713715946036645847:=0
def tw3270915802543269056:=0
def tw4136907136138039203:=0
def tw4023264010719144321:=0
def tw10224617651737387159:=0
def tw3945868655250621562:=0
def tw5476722516342894123:=0
def tw3280905183574218887:=0
def tw6930426262576827995:=0
def tw7754718633910609399:=0
def tw5160640402027054275:=0
def tw9598911652742379706:=0
def tw6369420886104919922:=0
def tw15968523017243938315:=0
def tw6801058866908779246:=0
def tw11678166309142438709:=0
def tw13615261073634472135:=0
def tw16418399463250312013:=0
def tw12830290886431629751:=0
def tw874681862342763156:=0
def tw17589932347924006404:=0
def tw1875782222137281778:=0
def tw14220015356829535883:=0
def tw2637676390545803276:=0
def tw2804121485635951330:=0
def tw6160472851039252223:=0
def tw3757554154081824425:=0
def tw14438552107471422439:=0
def tw8544776010342618040:=0
def tw6100118989808064589:=0
def tw6480294760947525074:=0
def tw12148676404364123396:=0
def tw3278385587287363877:=0
def tw6514518649869413166:=0
def tw16890867194234488570:=0
def tw4492166059254761560:=0
def tw4640498453467852160:=0
def tw2633601904460653595:=0
def tw7027319012508529306:=0
def tw3339552795302925021:=0
def tw6671568152189060456:=0
def tw8882755947364614012:=0
def tw17049379727545231353:=0
def tw9499910744504150500:=0
def tw9242959463075946753:=0
def tw4728565818612316655:=0
def tw10959278139534293607:=0
def tw5504477905559158635:=0
def tw678982923854508409:=0
def tw11747276932716350154:=0
def tw1386661784167283081:=0
def tw8612603816318917024:=0
def tw14532433431688455053:=0
def tw5565073036055637475:=0
def tw13199176204611518911:=0
def tw15832432822954954764:=0
def tw2119039559251650389:=0
def tw4679104965404709524:=0
def tw13119866489389350245:=0
def tw11990785247362386309:=0
def tw15094116053150723273:=0
def tw14530519630865401135:=0
def tw13832187356162593017:=0
def tw2641400591834184057:=0
def tw12253048688737826748:=0
def tw4489263984375825140:=0
def tw17488714636132672883:=0
def tw881363155747813221:=0
def tw3278894182066280006:=0
def tw12246046128354657916:=0
def tw10581661690593958923:=0
def tw11290022149627903363:=0
def tw6498557387700569918:=0
def tw8443075322874515073:=0
def tw3415986760187907297:=0
def tw13434699087037057738:=0
def tw1415996432170103826:=0
def tw7983899953010713924:=0
def tw3237427739572829651:=0
def tw1640500621125503466:=0
def tw15402720651711648993:=0
def tw18222453749449736628:=0
def tw1574915617885107387:=0
def tw10120006223376222704:=0
def tw9650632501186440114:=0
def tw14416496227201814330:=0
def tw9048135757671465129:=0
def tw16367713994324578626:=0
def tw5959269529694092740:=0
def tw16411760194378933529:=0
def tw15946764187886259210:=0
def tw17876457305043334200:=0
def tw17809151418818740670:=0
def tw15052145333914661602:=0
def tw4648638392850297942:=0
def tw11930939612705857668:=0
def tw14740197212895655709:=0
def tw1855773375570391649:=0
def tw16079060507811466612:=0
def tw16336131489394109237:=0
def tw16370432363315089726:=0
def tw13048948723215278315:=0
def tw16335134237384327435:=0
def tw12680124440734088753:=0
def tw6185311555055810978:=0
def tw1077554185278555778:=0
def tw12346856083115129548:=0
def tw2055259234887391198:=0
def tw7770684508451624748:=0
def tw10722292989498264287:=0
def tw1154473904183051510:=0
def tw6054689182727108697:=0
def tw227115963821821699:=0
def tw12744097513406262044:=0
def tw14173150368163398783:=0
def tw15173027567454143747:=0
def tw3858945090401943102:=0
def tw14345192696995728259:=0
def tw1279637260305483576:=0
def tw1770108182794944509:=0
def tw86061339709139487:=0
def tw15820119611324930674:=0
def tw16167419243491680143:=0
def tw4326510782058637887:=0
def tw16409497389748445988:=0
def tw9728420135998379779:=0
def tw11890595631993619000:=0
def tw1884847585444479090:=0
def tw16349654621965970942:=0
def tw17585288016569695423:=0
def tw3292161917809365159:=0
def tw13569357036725683394:=0
def tw7683792976607234576:=0
def tw551068451088217278:=0
def tw1057741374123237805:=0
def tw14096410129347441607:=0
def tw9663980223631638806:=0
def tw8481122428876749853:=0
def tw4567048636511476019:=0
def tw6361027131044647553:=0
def tw14862538083036814554:=0
def tw12438939978505338750:=0
def tw8656539486414192990:=0
def tw1177922241523027914:=0
def tw4193386070392301264:=0
def tw9154082034460018323:=0
def tw17939743498676696173:=0
def tw28385871607271655:=0
def tw11196895872212780472:=0
def tw7138957732182962760:=0
def tw11584832426239610381:=0
def tw1769378929638233842:=0
def tw17816415809571079880:=0
def tw8089158480248272883:=0
def tw15785264148020814989:=0
def tw13096256097112265725:=0
def tw3128811799923875949:=0
def tw7251532490046772980:=0
def tw4311066837481122221:=0
def tw13411983539644502861:=0
def tw14304077590171736550:=0
def tw15257822605144398585:=0
def tw9961773602739356909:=0
def tw15026081197859380423:=0
def tw6042045814017661463:=0
def tw12632440534903188352:=0
def tw14450866761472611971:=0
def tw15334908948523878659:=0
def tw12868990852472996426:=0
def tw17820933511934761920:=0
def tw16727379541272072847:=0
def tw10587686795603028709:=0
def tw8071358448697519070:=0
def tw2038403199020329855:=0
def tw18038015939465316:=0
def tw10807975354200051868:=0
def tw16181874824682759979:=0
def tw2462531301074378781:=0
def tw9171273964756063679:=0
def tw6578408114332844068:=0
def tw6038292863915424723:=0
def tw14750969943653206395:=0
def tw692215245360866595:=0
def tw14917033226378694561:=0
def tw694637930822803717:=0
def tw13634964772569125965:=0
def tw5134410268189487705:=0
def tw17155938758420828515:=0
def tw17271474613236909630:=0
def tw12088673195971955818:=0
def tw12218600272413895593:=0
def tw3258403642347903543:=0
def tw2145525857240385472:=0
def tw3513786860816173990:=0
def tw6327138625802872778:=0
def tw18432532423645637249:=0
def tw5005394472093895743:=0
def tw17462659353090316749:=0
def tw1817458458588054098:=0
def tw5656930244350075258:=0
def tw755740475823901267:=0
def tw13925241024789985662:=0
def tw16950246024502910485:=0
def tw14820539337501490976:=0
def tw4904289875357938292:=0
def tw6927726148989663535:=0
end PySem.W.Fast
set_option maxHeartbeats 0 in
theorem PySem.Challenge.cw_foldlog_k39_whole_moments_by_what_clocks_holds : PySem.Challenge.rw_foldlog_k39_whole_moments_by_what_clocks.Holds := by
 w_on;o_law;km_head;(case hw=>w_witness2)
 k_fill
 refine K39.walk (t0:=731) (t1:=738) (l:=PySem.Challenge.rw_foldlog_k39_whole_moments_by_what_clocks) rfl rfl (fun w h Y=>by
   refine⟨PySem.W.km_in_of Y,fun u m=>?_,fun u m=>?_,fun u m=>?_⟩<;>simp only[List.mem_cons,List.not_mem_nil,or_false]at m<;>rcases m with rfl|rfl
   · exact PySem.W.km_tabs_of Y 731 (by decide)
   · exact PySem.W.km_tabs_of Y 738 (by decide)
   · exact((PySem.W.codeHd_of_K (c:=735) (PySem.W.km_in_of Y) (by kernel_rfl)).tab (PySem.W.km_tabs_of Y 731 (by decide))).isCodeTable
   · exact((PySem.W.codeHd_of_K (c:=742) (PySem.W.km_in_of Y) (by kernel_rfl)).tab (PySem.W.km_tabs_of Y 738 (by decide))).isCodeTable
   · kernel_rfl
   · kernel_rfl) ?F
 case F =>
   intro w mg fa h KX G hmg;refine' K39.all2 KX G hmg (a:=⟨735,731,742,738,_,_,_,_,_,_,_,_,_,_,_,_,_,_,_,_,_,_,_,_,_,_,_,_,_,_,_,_,_,_,_,_,_,_,_,_,_,_,_,_,_,_,_,_,_,_,_,_,_,_,_,_,_,_,_,_,_,_,_,_,_,_,_,_,_,_,_,_,_,_,_,_,_,_,_,_,_,_,_,_,_,_,_,_,_,_,_,_,_,_,_,_,_,_,_,_,_,_,_,_,_,_,_,_,_,_,_,_,_,_,_,_,_,_,_,_,_,_,_,_,_,_,_,_,_,_,_,_,_,_,_,_,_,_,_,_,_,_,_,_,_,_,_,_,_,_,_,_,_,_,_,_,_,_,_,_,_,_,_,_,_,_,_,_,_,_,_⟩) ?T
   case T =>
     constructor
     all_goals try dsimp only
     all_goals try refine' PySem.W.mg_of KX G ?_
     all_goals try refine' PySem.W.mg_none_of KX G ?_
     all_goals try refine' ⟨_,PySem.W.mg_of KX G ?_⟩
     all_goals try k_is
     all_goals try refine' K39.mkDf KX G ?_ ?_ ?_ ?_ (fun _ _ _ _ _ _=>by first|exact K39.len_0 rfl|exact K39.len_1 fun _=>rfl|exact K39.len_2 fun _ _=>rfl|exact K39.len_3 fun _ _ _=>rfl|exact K39.len_4 fun _ _ _ _=>rfl|exact K39.len_5 fun _ _ _ _ _=>rfl)
     all_goals try refine' K39.mkDm ⟨?_,?_,?_⟩ ?_ ?_ ?_ (fun _ _ _ _ _ _=>by first|exact K39.len_0 rfl|exact K39.len_1 fun _=>rfl|exact K39.len_2 fun _ _=>rfl|exact K39.len_3 fun _ _ _=>rfl|exact K39.len_4 fun _ _ _ _=>rfl|exact K39.len_5 fun _ _ _ _ _=>rfl)
     all_goals try refine' L2.xIsa_of ?_ ?_ ?_
     all_goals try refine' L2.XMro.of ?_ ?_
     all_goals try refine' L2.xIn_of ?_ ?_
     all_goals try refine' ⟨⟨L2.xIn_of ?_ ?_,?_,?_,?_,?_,?_,?_⟩,?_,?_,?_⟩
     all_goals try refine' ⟨⟨?_,?_,?_,?_⟩,?_,?_,?_,?_⟩
     all_goals try refine' ⟨?_,?_,?_,?_⟩
     all_goals try refine' ⟨?_,?_,?_⟩
     all_goals try refine' ⟨?_,?_⟩
     all_goals try (first|k_is|rfl)
     all_goals try (first|k_is|rfl)
     all_goals try (first|k_is|rfl)
     all_goals decide
